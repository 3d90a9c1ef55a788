import PyProof.Rows.All
import Wide.All
import OpenK.AllK
import Wide.FinOn
import Lean
import PyProof.EqAt
import PyProof.EqKinds
import PyProof.TupleCall
import KE.KRevIter
import PyProof.CollectWalk
import PyProof.TupleOfSeq
import PyProof.ZipIter
import PyProof.CompUse
import KE.KLam
import KE.KNest
import KE.KNestM
import KE.KDictList
import PyProof.DictWalks
import KE.KDictLaws
import PyProof.TupleOfGen
import KE.KEqDict
import PyProof.NeKinds
import PySem.Challenge.RW_facework_k22_joined_makes_the_same
set_option Elab.async false
set_option linter.all false
set_option maxRecDepth 100000
namespace L2
open PySem PySem.Spec PyProof.Rows
abbrev Key := Sum Int Str
def keyIs : Key → Value → Bool
  | .inl k,v=>Value.isInt k v
  | .inr x,v=>Value.isStrOf x v
def keyH (w : World) : Key → Int
  | .inl k=>hashInt k
  | .inr x=>hashStr w x
theorem keyIs_shape : ∀ {k : Key} {v : Value},keyIs k v = true → (∃ i t,k = Sum.inl i ∧ v = Value.int i t) ∨ (∃ x t,k = Sum.inr x ∧ v = Value.str x t)
  | .inl i,v,h=>by
    obtain ⟨t,e⟩ := Value.isInt_shape (k := i) (v := v) h
    exact .inl ⟨i,t,rfl,e⟩
  | .inr x,v,h=>by
    obtain ⟨t,e⟩ := Value.isStrOf_shape (x := x) (v := v) h
    exact .inr ⟨x,t,rfl,e⟩
theorem keyIs_int (i : Int) (t : Tok) : keyIs (.inl i) (.int i t) = true := by simp [keyIs,Value.isInt]
theorem keyIs_str (x : Str) (t : Tok) : keyIs (.inr x) (.str x t) = true := by simp [keyIs,Value.isStrOf]
theorem key_ll (a b : Int) : decide ((Sum.inl a : Key) = Sum.inl b) = (a == b) := by
  by_cases e : a = b
  · subst e; simp
  · have h : ¬ (Sum.inl a : Key) = Sum.inl b := fun q=>e (Sum.inl.inj q)
    rw [decide_eq_false h]
    exact (beq_eq_false_iff_ne.mpr e).symm
theorem key_rr (a b : Str) : decide ((Sum.inr a : Key) = Sum.inr b) = decide (a = b) := by
  by_cases e : a = b
  · subst e; simp
  · have h : ¬ (Sum.inr a : Key) = Sum.inr b := fun q=>e (Sum.inr.inj q)
    rw [decide_eq_false h,decide_eq_false e]
theorem key_lr (a : Int) (b : Str) : decide ((Sum.inl a : Key) = Sum.inr b) = false := decide_eq_false (fun q=>nomatch q)
theorem key_rl (a : Str) (b : Int) : decide ((Sum.inr a : Key) = Sum.inl b) = false := decide_eq_false (fun q=>nomatch q)
def mixKind (prog : Program) (w : World) : PySem.KeyKind prog w Key where
  is := keyIs
  hash := keyH w
  inj := fun v a b ha hb=>by
    rcases keyIs_shape ha with ⟨i,t,rfl,rfl⟩ | ⟨x,t,rfl,rfl⟩
    · rcases keyIs_shape hb with ⟨j,u,rfl,e⟩ | ⟨y,u,rfl,e⟩
      · injection e with e1 _; rw [e1]
      · exact nomatch e
    · rcases keyIs_shape hb with ⟨j,u,rfl,e⟩ | ⟨y,u,rfl,e⟩
      · exact nomatch e
      · injection e with e1 _; rw [e1]
  byValue := fun k v h=>by
    rcases keyIs_shape h with ⟨i,t,rfl,rfl⟩ | ⟨x,t,rfl,rfl⟩ <;> rfl
  pyHash := fun hv h=>by
    rcases keyIs_shape hv with ⟨i,t,rfl,rfl⟩ | ⟨x,t,rfl,rfl⟩
    · exact wpAny_pyHash_int h
    · exact wpAny_pyHash_str h
  eqBool := fun hu hv h=>by
    rcases keyIs_shape hu with ⟨i,t,rfl,rfl⟩ | ⟨x,t,rfl,rfl⟩
    · rcases keyIs_shape hv with ⟨j,u,rfl,rfl⟩ | ⟨y,u,rfl,rfl⟩
      · rw [key_ll] at h; exact wpAny_eqBool_int h
      · rw [key_lr] at h; exact SeqAt.EqAt.int_str i t y u _ _ _ _ h
    · rcases keyIs_shape hv with ⟨j,u,rfl,rfl⟩ | ⟨y,u,rfl,rfl⟩
      · rw [key_rl] at h; exact SeqAt.EqAt.str_int x t j u _ _ _ _ h
      · rw [key_rr] at h; exact wpAny_eqBool_str h
  «strs» := fun k x t v h=>by
    rcases keyIs_shape h with ⟨i,u,rfl,e⟩ | ⟨y,u,rfl,e⟩
    · exact nomatch e
    · injection e with e1 _
      subst e1
      cases v <;> rfl
theorem mixKind_int (prog : Program) (w : World) (i : Int) (t : Tok) : (mixKind prog w).is (.inl i) (.int i t) = true := keyIs_int i t
theorem mixKind_str (prog : Program) (w : World) (x : Str) (t : Tok) : (mixKind prog w).is (.inr x) (.str x t) = true := keyIs_str x t
end L2
namespace L2
open PySem PySem.Spec PyProof.Rows
inductive V where
  | non | bl (b : Bool) | int (i : Int) | str (x : Str) | byt (b : Array UInt8) | flt (b : UInt64) | ref (a : Addr) | ty (n : String)
  deriving DecidableEq
def RelV : V → Value → Prop
  | .non,u=>u = Value.none
  | .bl b,u=>u = Value.bool b
  | .int i,u=>∃ t,u = Value.int i t
  | .str x,u=>∃ t,u = Value.str x t
  | .byt b,u=>∃ t,u = Value.bytes b t
  | .flt b,u=>∃ t,u = Value.float b t
  | .ref a,u=>u = Value.ref a
  | .ty n,u=>u = Value.type n
abbrev Vals : List V → List Value → Prop := Paired RelV
theorem Vals.length {xs : List V} {us : List Value} (r : Vals xs us) : xs.length = us.length := Paired.length r
theorem Vals.get : ∀ {xs : List V} {us : List Value} {i : Nat} {x : V},Vals xs us → xs[i]? = some x → ∃ u,us[i]? = some u ∧ RelV x u
  | _,_,_,_, .nil,e=>by simp at e
  | _,_,0,_, .cons r _,e=>by simp at e; subst e; exact ⟨_,rfl,r⟩
  | _,_,i + 1,x, .cons _ t,e=>by
    obtain ⟨u,h1,h2⟩ := Vals.get (i := i) (x := x) t (by simpa using e)
    exact ⟨u,by simpa using h1,h2⟩
theorem Vals.append : ∀ {xs ys : List V} {us ws : List Value},Vals xs us → Vals ys ws → Vals (xs ++ ys) (us ++ ws)
  | _,_,_,_, .nil,s=>s
  | _,_,_,_, .cons r t,s=>.cons r (Vals.append t s)
theorem Vals.take : ∀ {xs : List V} {us : List Value} (n : Nat),Vals xs us → Vals (xs.take n) (us.take n)
  | _,_,0,_=>.nil
  | _,_,_ + 1, .nil=>.nil
  | _,_,n + 1, .cons r t=>.cons r (Vals.take n t)
theorem Vals.drop : ∀ {xs : List V} {us : List Value} (n : Nat),Vals xs us → Vals (xs.drop n) (us.drop n)
  | _,_,0,r=>r
  | _,_,_ + 1, .nil=>.nil
  | _,_,n + 1, .cons _ t=>Vals.drop n t
def RelO : Option V → Option Value → Prop
  | some v,some u=>RelV v u
  | none,none=>True
  | _,_=>False
def KV {κ : Type} : List (κ × V) → List (κ × Value) → Prop := Paired fun (p : κ × V) (q : κ × Value)=>p.1 = q.1 ∧ RelV p.2 q.2
def kV : Key → V
  | .inl i=>.int i
  | .inr x=>.str x
inductive HO where
  | lst (xs : List V)
  | tup (xs : List V)
  | dK (kvs : List (Key × V)) | dT (kvs : List (List Key × V))
  | set (S : Int → Bool) (n : Nat)
  | ins (C dx : Addr) (fs : List (Str × V))
  | own (x : Addr)
  | xd (fs : List (Str × V))
  | met (f x : Addr)
  | rng (lo hi : Int)
  | frz (o : Obj) (u : HO)
  | tbl (ps : Array Value)
  | ext (φ : Heap → Prop)
abbrev Hp := Addr → Option HO
def upd (H : Hp) (a : Addr) (o : HO) : Hp := fun b=>if b = a then some o else H b
theorem upd_same {H : Hp} {a : Addr} {o : HO} : upd H a o a = some o := by unfold upd; rw [if_pos rfl]
theorem upd_ne {H : Hp} {a b : Addr} {o : HO} (h : b ≠ a) : upd H a o b = H b := by unfold upd; rw [if_neg h]
theorem ne_of {H : Hp} {a b : Addr} {o u : HO} (h : H a = some o) (h' : H b = some u) (d : o ≠ u) : a ≠ b := by
  intro e; subst e; rw [h] at h'; exact d (Option.some.inj h')
theorem ne_of_none {H : Hp} {a b : Addr} {o : HO} (h : H a = some o) (h' : H b = none) : a ≠ b := by
  intro e; subst e; rw [h] at h'; cases h'
section
variable (P : Program) (w : World)
def ObjOk (H : Hp) (h : Heap) (a : Addr) : HO → Prop
  | .lst xs=>xs.length ≤ sizeLine ∧ ∃ (its : List Value) (n : Nat),Vals xs its ∧ h.get? a = some { cls := .type "list",data := .seq its.toArray n }
  | .tup xs=>xs.length ≤ sizeLine ∧ ∃ its : List Value,Vals xs its ∧ IsTup h a its.toArray
  | .dK kvs=>kvs.length ≤ sizeLine ∧ (a == sysModules) = false ∧ ∃ vs,KV kvs vs ∧ h.DictOf (mixKind P w) a vs
  | .dT kvs=>kvs.length ≤ sizeLine ∧ (a == sysModules) = false ∧ ∃ xs : List (List Key × Addr × Value),
      Paired (fun (p : List Key × V) (q : List Key × Addr × Value)=>p.1 = q.1 ∧ H q.2.1 = some (.tup (p.1.map kV)) ∧ RelV p.2 q.2.2) kvs xs ∧
      ∃ o es ep,h.get? a = some o ∧ o.ExactDict ∧ o.data = .dict es ep ∧ es.toList = xs.map (entryOfKey (tupleKind (mixKind P w))) ∧ (xs.map (·.1)).Nodup
  | .set S n=>h.SetOf (intKind P w) a S n
  | .ins C dx fs=>H dx = some (.own a) ∧ fs.length ≤ 1000 ∧ dx ≠ a ∧ h.get? a = some (PySem.W.instObj C dx) ∧
      ∃ mA,h.Ns1 dx mA ∧ (∀ f,RelO (fs.lookup f) (mA f)) ∧ PySem.Within mA (fs.map (·.1))
  | .own _=>∃ o,h.get? a = some o
  | .xd fs=>∃ mA,h.Ns1 a mA ∧ ∀ f,RelO (fs.lookup f) (mA f)
  | .rng lo hi=>∃ t u v,h.get? a = some { cls := .type "range",data := .fields #[.int lo t, .int hi u, .int 1 v] }
  | .frz o u=>h.get? a = some o ∧ ObjOk H h a u
  | .tbl ps=>h.get? a = some { cls := .none,data := .fields ps }
  | .met f x=>h.get? a = some (PySem.W.methodObj (.ref f) (.ref x))
  | .ext φ=>φ h ∧ (∃ o,h.get? a = some o) ∧ ∀ h1 h2 : Heap,φ h1 → (∀ o,h1.get? a = some o → h2.get? a = some o) → φ h2
def HOk (H : Hp) (h : Heap) : Prop := ∀ a o,H a = some o → ObjOk P w H h a o
end
section
variable {P : Program} {w : World} {H H' : Hp} {h h' : Heap} {a : Addr} {o : HO}
theorem ObjOk.lt (x : ObjOk P w H h a o) : a < h.objs.size := by
  cases o with
  | lst xs=>obtain ⟨_,_,_,_,e⟩ := x; exact Heap.lt_size e
  | tup xs=>obtain ⟨_,_,_,p⟩ := x; exact p.lt
  | dK kvs=>obtain ⟨_,_,_,_,o,_,_,e,_⟩ := x; exact Heap.lt_size e
  | dT kvs=>obtain ⟨_,_,_,_,o,_,_,e,_⟩ := x; exact Heap.lt_size e
  | set S n=>obtain ⟨o,_,_,_,e,_⟩ := x; exact Heap.lt_size e
  | ins C dx fs=>obtain ⟨_,_,_,e,_⟩ := x; exact Heap.lt_size e
  | own y=>obtain ⟨_,e⟩ := x; exact Heap.lt_size e
  | xd fs=>obtain ⟨_,⟨_,_,_,e,_⟩,_⟩ := x; exact Heap.lt_size e
  | rng lo hi=>obtain ⟨_,_,_,e⟩ := x; exact Heap.lt_size e
  | frz ob u=>obtain ⟨e,_⟩ := x; exact Heap.lt_size e
  | tbl ps=>exact Heap.lt_size (show h.get? a = some _ from x)
  | met f y=>exact Heap.lt_size (show h.get? a = some _ from x)
  | ext φ=>obtain ⟨_,⟨_,e⟩,_⟩ := x; exact Heap.lt_size e
theorem Paired.mapP {α β : Type} {F G : α → β → Prop} : ∀ {l₁ : List α} {l₂ : List β},Paired F l₁ l₂ → (∀ a b,F a b → G a b) → Paired G l₁ l₂
  | _,_, .nil,_=>.nil
  | _,_, .cons r t,f=>.cons (f _ _ r) (Paired.mapP t f)
theorem ObjOk.stay (x : ObjOk P w H h a o) (k : ∀ b u,(b = a ∨ H b = some (.own a)) → h.get? b = some u → h'.get? b = some u)
    (ho : ∀ b,H b = some (.own a) → H' b = some (.own a)) (ht : ∀ b xs,H b = some (.tup xs) → H' b = some (.tup xs)) : ObjOk P w H' h' a o := by
  induction o with
  | lst xs=>obtain ⟨z,its,n,r,e⟩ := x; exact ⟨z,its,n,r,k _ _ (.inl rfl) e⟩
  | tup xs=>obtain ⟨z,its,r,ob,e,c⟩ := x; exact ⟨z,its,r,ob,k _ _ (.inl rfl) e,c⟩
  | dK kvs=>obtain ⟨z,y,vs,r,ob,es,ep,e,c⟩ := x; exact ⟨z,y,vs,r,ob,es,ep,k _ _ (.inl rfl) e,c⟩
  | dT kvs =>
    obtain ⟨z,y,xs,r,ob,es,ep,e,c⟩ := x
    exact ⟨z,y,xs,Paired.mapP r fun p q z=>⟨z.1,ht _ _ z.2.1,z.2.2⟩,ob,es,ep,k _ _ (.inl rfl) e,c⟩
  | set S n=>obtain ⟨ob,es,ep,t,e,c⟩ := x; exact ⟨ob,es,ep,t,k _ _ (.inl rfl) e,c⟩
  | ins C dx fs =>
    obtain ⟨d,z,ne,e,mA,⟨od,es,ep,e2,c⟩,r⟩ := x
    exact ⟨ho _ d,z,ne,k _ _ (.inl rfl) e,mA,⟨od,es,ep,k _ _ (.inr d) e2,c⟩,r⟩
  | own y=>obtain ⟨ob,e⟩ := x; exact ⟨ob,k _ _ (.inl rfl) e⟩
  | xd fs=>obtain ⟨mA,⟨od,es,ep,e,c⟩,r⟩ := x; exact ⟨mA,⟨od,es,ep,k _ _ (.inl rfl) e,c⟩,r⟩
  | rng lo hi=>obtain ⟨t,u,v,e⟩ := x; exact ⟨t,u,v,k _ _ (.inl rfl) e⟩
  | frz ob u ih=>obtain ⟨e,q⟩ := x; exact ⟨k _ _ (.inl rfl) e,ih q⟩
  | tbl ps =>
    have e : h.get? a = some { cls := .none,data := .fields ps } := x
    show h'.get? a = some { cls := .none,data := .fields ps }
    exact k a _ (.inl rfl) e
  | met f y =>
    have e : h.get? a = some (PySem.W.methodObj (.ref f) (.ref y)) := x
    show h'.get? a = some (PySem.W.methodObj (.ref f) (.ref y))
    exact k a _ (.inl rfl) e
  | ext φ=>obtain ⟨p,⟨o,e⟩,st⟩ := x; exact ⟨st _ _ p fun o q=>k _ _ (.inl rfl) q,⟨o,k _ _ (.inl rfl) e⟩,st⟩
theorem HOk.lt (x : HOk P w H h) (e : H a = some o) : a < h.objs.size := (x a o e).lt
theorem HOk.fresh (x : HOk P w H h) (e : h.objs.size ≤ a) : H a = none := by
  cases q : H a with
  | none=>rfl
  | some u=>exact absurd (Nat.lt_of_lt_of_le (x.lt q) e) (Nat.lt_irrefl _)
theorem HOk.kept (x : HOk P w H h) (k : ∀ b u,h.get? b = some u → h'.get? b = some u) : HOk P w H h' := fun a o e =>
  (x a o e).stay (fun b u _ q=>k b u q) (fun _ q=>q) fun _ _ q=>q
theorem HOk.laid (x : HOk P w H h) (k : ∀ b u,h.get? b = some u → h'.get? b = some u) (hp : h.objs.size ≤ a) (new : ObjOk P w (upd H a o) h' a o) : HOk P w (upd H a o) h' := fun b u e=>by
  have hn := x.fresh hp
  by_cases hb : b = a
  · subst hb; rw [upd_same] at e; cases e; exact new
  · rw [upd_ne hb] at e
    exact (x b u e).stay (fun c v _ q=>k c v q) (fun c q=>by rw [upd_ne (ne_of_none q hn)]; exact q) fun c xs q=>by rw [upd_ne (ne_of_none q hn)]; exact q
end
def Rd (H : Hp) (a : Addr) (u : HO) : Prop := H a = some u ∨ ∃ o,H a = some (.frz o u)
theorem Rd.ok {P : Program} {w : World} {H : Hp} {h : Heap} {a : Addr} {u : HO} (r : Rd H a u) (x : HOk P w H h) : ObjOk P w H h a u := by
  rcases r with r | ⟨o,r⟩
  · exact x a u r
  · obtain ⟨_,q⟩ := x a _ r
    exact q
def Mut : Option HO → Prop
  | some (.lst _)=>True
  | some (.dK _)=>True
  | some (.dT _)=>True
  | some (.set _ _)=>True
  | some (.ins _ _ _)=>True
  | some (.ext _)=>True
  | _=>False
section
variable {P : Program} {w : World} {H : Hp} {h h' : Heap} {x e : Addr} {o' : HO}
theorem HOk.write (ok : HOk P w H h) (mu : Mut (H x)) (he : e = x ∨ H e = some (.own x)) (k : ∀ b u,b ≠ e → h.get? b = some u → h'.get? b = some u) (heo : ∃ u,h'.get? e = some u)
    (new : ObjOk P w (upd H x o') h' x o') : HOk P w (upd H x o') h' := fun b u q=>by
  have nown : ∀ c y,H c = some (.own y) → c ≠ x := fun c y r z=>by subst z; rw [r] at mu; exact mu
  have ntup : ∀ c xs,H c = some (.tup xs) → c ≠ x := fun c xs r z=>by subst z; rw [r] at mu; exact mu
  by_cases hb : b = x
  · subst hb; rw [upd_same] at q; cases q; exact new
  · rw [upd_ne hb] at q
    by_cases hbe : b = e
    · have q' : H b = some (.own x) := by
        rcases he with z | z
        · exact absurd (hbe.trans z) hb
        · rw [hbe]; exact z
      rw [q] at q'; cases q'
      obtain ⟨v,hv⟩ := heo
      exact ⟨v,by rw [hbe]; exact hv⟩
    · refine (ok b u q).stay (fun c v hc r=>k c v ?_ r) (fun c r=>by rw [upd_ne (nown c b r)]; exact r) fun c xs r=>by rw [upd_ne (ntup c xs r)]; exact r
      rcases hc with rfl | hc
      · exact hbe
      · rintro rfl
        rcases he with z | z
        · exact nown c b hc z
        · rw [hc] at z; cases z; exact hb rfl
end
structure Un (fs ex : List Addr) (H H' : Hp) (h h' : Heap) : Prop where
  keep : ∀ b o,h.get? b = some o → H b = none → b ∉ fs → b ∉ ex → h'.get? b = some o
  slot : ∀ b o,h.get? b = some o → H b = none → b ∈ fs → b ∉ ex → ∃ sl,h'.get? b = some { o with slots := sl }
  free : ∀ b o,h.get? b = some o → H b = none → b ∉ ex → H' b = none
  there : ∀ b o,h.get? b = some o → b ∉ ex → ∃ o',h'.get? b = some o'
  tups : ∀ b xs,H b = some (.tup xs) → H' b = some (.tup xs)
  frzs : ∀ b o u,H b = some (.frz o u) → H' b = some (.frz o u)
  tbls : ∀ b ps,H b = some (.tbl ps) → ∃ more,H' b = some (.tbl (ps ++ more))
section
variable {fs fs' ex ex' : List Addr} {H H1 H2 : Hp} {h h1 h2 h' : Heap} {a x e : Addr} {o : HO}
theorem Un.any (u : Un fs ex H H1 h h1) {b : Addr} {ob : Obj} (q : h.get? b = some ob) (n : H b = none) (hx : b ∉ ex) : ∃ sl,h1.get? b = some { ob with slots := sl } := by
  by_cases hb : b ∈ fs
  · exact u.slot b ob q n hb hx
  · exact ⟨ob.slots,u.keep b ob q n hb hx⟩
theorem Un.kept (k : ∀ b u,h.get? b = some u → h'.get? b = some u) : Un fs ex H H h h' :=
  ⟨fun b ob q _ _ _=>k b ob q,fun b ob q _ _ _=>⟨ob.slots,k b ob q⟩,fun _ _ _ n _=>n,fun b ob q _=>⟨ob,k b ob q⟩,fun _ _ q=>q,fun _ _ _ q=>q,fun _ ps q=>⟨#[],by rw [q]; simp⟩⟩
theorem Un.refl : Un fs ex H H h h := Un.kept fun _ _ q=>q
theorem Un.laid (k : ∀ b u,h.get? b = some u → h'.get? b = some u) (hp : h.objs.size ≤ a) (hn : H a = none) : Un fs ex H (upd H a o) h h' where
  keep := fun b u q _ _ _=>k b u q
  slot := fun b u q _ _ _=>⟨u.slots,k b u q⟩
  free := fun b u q n _=>by rw [upd_ne (Nat.ne_of_lt (Nat.lt_of_lt_of_le (Heap.lt_size q) hp))]; exact n
  there := fun b u q _=>⟨u,k b u q⟩
  tups := fun b xs q=>by rw [upd_ne (ne_of_none q hn)]; exact q
  frzs := fun b u xs q=>by rw [upd_ne (ne_of_none q hn)]; exact q
  tbls := fun b ps q=>⟨#[],by rw [upd_ne (ne_of_none q hn),q]; simp⟩
theorem Un.write (mu : Mut (H x)) (he : e = x ∨ H e = some (.own x)) (k : ∀ b u,b ≠ e → h.get? b = some u → h'.get? b = some u) (heo : ∃ u,h'.get? e = some u) : Un fs ex H (upd H x o) h h' := by
  have hx : ∀ b,H b = none → b ≠ x := fun b n z=>by subst z; rw [n] at mu; exact mu
  have hb : ∀ b,H b = none → b ≠ e := fun b n z=>by
    subst z
    rcases he with r | r
    · exact hx b n r
    · rw [n] at r; cases r
  have hm : ∀ b u,H b = some u → ¬ Mut (some u) → b ≠ x := fun b u q nm z=>by subst z; rw [q] at mu; exact nm mu
  refine ⟨fun b u q n _ _=>k b u (hb b n) q,fun b u q n _ _=>⟨u.slots,k b u (hb b n) q⟩,fun b u q n _=>by rw [upd_ne (hx b n)]; exact n,fun b u q _=>?_,
    fun b xs q=>by rw [upd_ne (hm b _ q fun z=>z)]; exact q,fun b u xs q=>by rw [upd_ne (hm b _ q fun z=>z)]; exact q,fun b ps q=>⟨#[],by rw [upd_ne (hm b _ q fun z=>z),q]; simp⟩⟩
  by_cases hbe : b = e
  · subst hbe; exact heo
  · exact ⟨u,k b u hbe q⟩
end
def trk (h : Heap) (H : Hp) : List Addr := (List.range h.objs.size).filter fun a=>(H a).isSome
def hidT (h : Heap) (H : Hp) : Heap := PySem.W.hideAll h (trk h H)
theorem hidT_size (h : Heap) (H : Hp) : (hidT h H).objs.size = h.objs.size := PySem.W.hideAll_size _ _
theorem hidT_get {h : Heap} {H : Hp} {b : Addr} {o : Obj} (e : h.get? b = some o) (n : H b = none) : (hidT h H).get? b = some o :=
  PySem.W.hideAll_get _ e fun hm=>by
    have q : (H b).isSome = true := (List.mem_filter.mp hm).2
    rw [n] at q; simp at q
theorem of_hidT {h : Heap} {H : Hp} {b : Addr} {o : Obj} (e : (hidT h H).get? b = some o) : h.get? b = some o ∧ H b = none := by
  have e' : h.get? b = some o := PySem.W.of_hideAll (trk h H) e
  refine ⟨e',?_⟩
  cases q : H b with
  | none=>rfl
  | some x =>
    have hm : b ∈ trk h H := List.mem_filter.mpr ⟨List.mem_range.mpr (Heap.lt_size e'),by simp [q]⟩
    have z : (hidT h H).get? b = none := PySem.W.hideAll_none (trk h H) hm
    rw [z] at e; cases e
def allNews (g h : Heap) (L : Addr) : List (Addr × Obj) := (List.range h.objs.size).filterMap fun a=>if a = L ∨ (g.get? a).isSome = true then none else (h.get? a).map fun o=>(a,o)
def rest (g h : Heap) (L d : Addr) : List (Addr × Obj) := (allNews g h L).filter fun p=>decide (p.1 ≠ d)
end L2
namespace L2
open PySem PySem.Spec PyProof.Rows
structure Mod (K : PySem.W.Frag) (mg : Str → Option Value) (base : Heap) : Prop where
  kin : K.In base
  glob : base.Ns mainGlobals mg
  blt : ∃ mb,base.Ns builtinsNs mb ∧ ∀ x : Str,x ≠ "__name__" → mb x = bootBuiltins x
  nolimit : base.NoLimit
structure Cx where
  prog : Program
  w : World
  K : PySem.W.Frag
  mg : Str → Option Value
  base : Heap
  A : Around
  N : List Str
  s₀ : Shared
  H₀ : Hp
  env : Env
  outer : List Env
  stack : List Env
  ex : List Addr
  fn : Str → Bool
  calm : Bool
  pn : List (Addr × Obj)
  xe : Value → Shared → Prop
def frs (l : List Env) : List Addr := l.filterMap (·.frame)
abbrev Cx.fs (X : Cx) : List Addr := frs X.outer
def Vis (sc : Scope) (x : Str) : Prop := sc.names.lookup x = some .local ∨ sc.names.lookup x = some .cell ∨ sc.names.lookup x = some .free
def Loc (sc : Scope) (x : Str) : Prop := sc.names.lookup x = some .local ∨ sc.names.lookup x = some .cell
def Look (env : Env) (h : Heap) (m : Str → Option Value) (x : Str) (u : Value) : Prop :=
  (env.kindOf x = some .local ∧ m x = some u) ∨ ((env.kindOf x = some .cell ∨ env.kindOf x = some .free) ∧ ∃ c,env.cells.lookup x = some c ∧ h.IsCell c (some u))
structure Cx.Ok (X : Cx) : Prop where
  mod : Mod X.K X.mg X.base
  kind : X.env.scope.kind = .function
  glob : X.env.globals = mainGlobals
  blt : X.env.builtins = builtinsNs
  above : X.s₀.heap.objs.size ≤ X.env.locals
  inj : ∀ x y c,X.env.cells.lookup x = some c → X.env.cells.lookup y = some c → x = y
  has : ∀ x,(X.env.kindOf x = some .cell ∨ X.env.kindOf x = some .free) → ∃ c,X.env.cells.lookup x = some c
  cab : ∀ x c,X.fn x = true → X.env.cells.lookup x = some c → X.s₀.heap.objs.size ≤ c
  hd : X.calm = true → X.A.handled = none
  frames : X.A.frames = some X.stack
  stk : X.stack = X.outer ∨ (X.stack = X.env :: X.outer ∧ X.env.frame = some X.env.locals)
  exf : ∀ b ∈ X.ex,b ≠ X.env.locals ∧ ∀ x c,X.env.cells.lookup x = some c → c ≠ b
  bs : ∀ b o,X.base.get? b = some o → X.s₀.heap.get? b = some o ∧ X.H₀ b = none
  bsz : X.base.objs.size ≤ X.s₀.heap.objs.size
  noex : ∀ b o,X.base.get? b = some o → b ∉ X.ex
  exfs : ∀ b ∈ X.ex,b ∉ X.fs
  funs : X.s₀.heap.FunFrames X.base X.outer
  frf : ∀ b ∈ X.fs,X.H₀ b = none
structure Inv (X : Cx) (pins : List (Addr × Obj)) (σ : List (Option V)) (H : Hp) (s : Shared) : Prop where
  ok : X.Ok
  os : s.os = X.s₀.os
  bare : AllBare s.gens
  base : Un X.fs X.ex X.H₀ H X.s₀.heap s.heap
  loc : ∃ m,s.heap.Ns X.env.locals m ∧ ∀ (i : Nat) (x : Str) (v : V),X.N[i]? = some x → σ[i]? = some (some v) → Vis X.env.scope x → ∃ u,RelV v u ∧ Look X.env s.heap m x u
  cell : ∀ x c,X.env.cells.lookup x = some c → ∃ v,s.heap.IsCell c v
  free : H X.env.locals = none
  freeC : ∀ x c,X.env.cells.lookup x = some c → H c = none
  pin : ∀ p ∈ X.pn ++ pins,s.heap.get? p.1 = some p.2 ∧ H p.1 = none ∧ p.1 ≠ X.env.locals ∧ p.1 ∉ X.fs ∧ ∀ v,p.2.data ≠ .cell v
  hok : HOk X.prog X.w H s.heap
  len : σ.length = X.N.length
section
variable {X : Cx} {pins : List (Addr × Obj)} {σ : List (Option V)} {H H' : Hp} {s : Shared} {h' : Heap}
theorem Cx.Ok.nofr (ok : X.Ok) {b : Addr} {o : Obj} (e : X.base.get? b = some o) : b ∉ X.fs := fun hb=>by
  have := (ok.funs.mem hb).1
  rw [e] at this; cases this
theorem Inv.bs (I : Inv X pins σ H s) : ∀ b o,X.base.get? b = some o → s.heap.get? b = some o ∧ H b = none := fun b o e =>
  ⟨I.base.keep b o (I.ok.bs b o e).1 (I.ok.bs b o e).2 (I.ok.nofr e) (I.ok.noex b o e),I.base.free b o (I.ok.bs b o e).1 (I.ok.bs b o e).2 (I.ok.noex b o e)⟩
theorem Inv.bk (I : Inv X pins σ H s) : ∀ b o,X.base.get? b = some o → s.heap.get? b = some o := fun b o e=>(I.bs b o e).1
theorem Inv.mod (I : Inv X pins σ H s) : Mod X.K X.mg X.base := I.ok.mod
theorem Inv.kIn (I : Inv X pins σ H s) : X.K.In s.heap := I.ok.mod.kin.keeps I.bk
theorem Inv.lt (I : Inv X pins σ H s) : X.env.locals < s.heap.objs.size := let ⟨_,hn,_⟩ := I.loc; hn.lt
theorem Inv.sz (I : Inv X pins σ H s) : X.s₀.heap.objs.size ≤ s.heap.objs.size := Nat.le_trans I.ok.above (Nat.le_of_lt I.lt)
theorem Inv.nofs (I : Inv X pins σ H s) {a : Addr} (h : s.heap.objs.size ≤ a) : a ∉ X.fs := fun hb=>by
  obtain ⟨_,o,ho,_⟩ := I.ok.funs.mem hb
  exact absurd (Nat.lt_of_lt_of_le (Heap.lt_size ho) (Nat.le_trans I.sz h)) (Nat.lt_irrefl _)
theorem Inv.cne (I : Inv X pins σ H s) : ∀ x c,X.env.cells.lookup x = some c → c ≠ X.env.locals := fun x c e z=>by
  obtain ⟨v,o,ho,hd⟩ := I.cell x c e
  obtain ⟨m,⟨o',es,ep,ho',hd',_⟩,_⟩ := I.loc
  rw [z,ho'] at ho; cases ho; rw [hd'] at hd; cases hd
theorem Inv.funs (I : Inv X pins σ H s) : s.heap.FunFrames X.base X.outer := by
  have all : ∀ (l : List Env),(∀ b ∈ frs l,b ∈ X.fs) → X.s₀.heap.FunFrames X.base l → s.heap.FunFrames X.base l := by
    intro l
    induction l with
    | nil=>intro _ _; trivial
    | cons env r ih =>
      intro hs hl
      obtain ⟨hk,⟨L,o,hf,hn,ho,hd⟩,hr⟩ := hl
      have hL : L ∈ X.fs := hs L (by unfold frs; rw [List.filterMap_cons,hf]; exact List.mem_cons_self)
      obtain ⟨sl,e⟩ := I.base.slot L o ho (I.ok.frf L hL) hL fun z=>I.ok.exfs L z hL
      exact ⟨hk,⟨L,_,hf,hn,e,hd⟩,ih (fun b hb=>hs b (by unfold frs; rw [List.filterMap_cons,hf]; exact List.mem_cons_of_mem _ hb)) hr⟩
  exact all X.outer (fun _ hb=>hb) I.ok.funs
theorem Inv.stack (I : Inv X pins σ H s) : s.heap.FunFrames X.base X.stack := by
  rcases I.ok.stk with e | ⟨e,hf⟩
  · rw [e]; exact I.funs
  · rw [e]
    obtain ⟨m,hn,_⟩ := I.loc
    refine .cons (by rw [I.ok.kind]; decide) hf hn ?_ I.funs
    exact Heap.get?_none_of_le (Nat.le_trans I.ok.bsz I.ok.above)
theorem Inv.stkSub (I : Inv X pins σ H s) : ∀ b ∈ frs X.stack,b ∈ X.env.locals :: X.fs := fun b hb=>by
  rcases I.ok.stk with e | ⟨e,hf⟩
  · rw [e] at hb; exact List.mem_cons_of_mem _ hb
  · rw [e] at hb
    unfold frs at hb
    rw [List.filterMap_cons,hf] at hb
    exact hb
theorem Inv.stkFree (I : Inv X pins σ H s) : ∀ b ∈ frs X.stack,H b = none := fun b hb=>by
  rcases List.mem_cons.mp (I.stkSub b hb) with e | hb
  · rw [e]; exact I.free
  · obtain ⟨_,o,ho,_⟩ := I.ok.funs.mem hb
    exact I.base.free b o ho (I.ok.frf b hb) fun z=>I.ok.exfs b z hb
theorem Inv.step {g' : Array GenState} {t' : Nat} {d' : Drawn} {ch : List Addr} (I : Inv X pins σ H s)
    (hch : ∀ b ∈ ch,(b ∈ X.ex ∨ X.s₀.heap.objs.size ≤ b) ∧ b ≠ X.env.locals ∧ (∀ x c,X.env.cells.lookup x = some c → c ≠ b) ∧ ∀ p ∈ X.pn ++ pins,p.1 ≠ b)
    (keep : ∀ b o,b ≠ X.env.locals → b ∉ X.fs → b ∉ ch → s.heap.get? b = some o → H b = none → h'.get? b = some o)
    (slot : ∀ b o,b ≠ X.env.locals → b ∈ X.fs → b ∉ ch → s.heap.get? b = some o → H b = none → ∃ sl,h'.get? b = some { o with slots := sl }) (free : ∀ b o,b ∉ ch → s.heap.get? b = some o → H b = none → H' b = none)
    (there : ∀ b o,b ∉ ch → s.heap.get? b = some o → ∃ o',h'.get? b = some o')
    (tups : ∀ b xs,H b = some (.tup xs) → H' b = some (.tup xs)) (frzs : ∀ b o u,H b = some (.frz o u) → H' b = some (.frz o u)) (tbls : ∀ b ps,H b = some (.tbl ps) → ∃ more,H' b = some (.tbl (ps ++ more)))
    (ns : ∀ m,s.heap.Ns X.env.locals m → h'.Ns X.env.locals m) (hok : HOk X.prog X.w H' h') (hg : AllBare g') :
    Inv X pins σ H' { s with heap := h',gens := g',drawn := d',toks := t' } := by
  have neL : ∀ b o,X.s₀.heap.get? b = some o → b ≠ X.env.locals := fun b o e=>Nat.ne_of_lt (Nat.lt_of_lt_of_le (Heap.lt_size e) I.ok.above)
  have neC : ∀ b o,X.s₀.heap.get? b = some o → b ∉ X.ex → b ∉ ch := fun b o e hx hb=>by
    rcases (hch b hb).1 with z | z
    · exact hx z
    · exact absurd (Nat.lt_of_lt_of_le (Heap.lt_size e) z) (Nat.lt_irrefl _)
  have cellK : ∀ x c,X.env.cells.lookup x = some c → ∀ v,s.heap.IsCell c v → h'.IsCell c v := fun x c e v ⟨o,ho,hd⟩=>by
    have nch : c ∉ ch := fun z=>(hch c z).2.2.1 x c e rfl
    by_cases hc : c ∈ X.fs
    · obtain ⟨sl,q⟩ := slot c o (I.cne x c e) hc nch ho (I.freeC x c e)
      exact ⟨_,q,hd⟩
    · exact ⟨o,keep c o (I.cne x c e) hc nch ho (I.freeC x c e),hd⟩
  refine ⟨I.ok,I.os,hg,⟨fun b o e n hb hx=>?_,fun b o e n hb hx=>?_,fun b o e n hx=>?_,fun b o e hx=>?_,fun b xs e=>tups b xs (I.base.tups b xs e),fun b o xs e=>frzs b o xs (I.base.frzs b o xs e),fun b ps e=>?_⟩,?_,fun x c e=>?_,?_,fun x c e=>?_,fun p hp=>?_,hok,I.len⟩
  · exact keep b o (neL b o e) hb (neC b o e hx) (I.base.keep b o e n hb hx) (I.base.free b o e n hx)
  · obtain ⟨sl,e1⟩ := I.base.slot b o e n hb hx
    obtain ⟨sl',e2⟩ := slot b _ (neL b o e) hb (neC b o e hx) e1 (I.base.free b o e n hx)
    exact ⟨sl',e2⟩
  · obtain ⟨o',e1⟩ := I.base.there b o e hx
    exact free b o' (neC b o e hx) e1 (I.base.free b o e n hx)
  · obtain ⟨o',e1⟩ := I.base.there b o e hx
    exact there b o' (neC b o e hx) e1
  · obtain ⟨m1,e1⟩ := I.base.tbls b ps e
    obtain ⟨m2,e2⟩ := tbls b _ e1
    exact ⟨m1 ++ m2,by rw [e2,Array.append_assoc]⟩
  · obtain ⟨m,hn,hl⟩ := I.loc
    refine ⟨m,ns m hn,fun i x v e1 e2 e3=>?_⟩
    obtain ⟨u,r,l⟩ := hl i x v e1 e2 e3
    refine ⟨u,r,?_⟩
    rcases l with l | ⟨k,c,e,z⟩
    · exact .inl l
    · exact .inr ⟨k,c,e,cellK x c e _ z⟩
  · obtain ⟨v,z⟩ := I.cell x c e
    exact ⟨v,cellK x c e v z⟩
  · obtain ⟨m,⟨o,_,_,ho,_⟩,_⟩ := I.loc
    exact free _ o (fun z=>(hch _ z).2.1 rfl) ho I.free
  · obtain ⟨v,o,ho,hd⟩ := I.cell x c e
    exact free c o (fun z=>(hch c z).2.2.1 x c e rfl) ho (I.freeC x c e)
  · obtain ⟨e,n,ne,nf,d⟩ := I.pin p hp
    have nch : p.1 ∉ ch := fun z=>(hch p.1 z).2.2.2 p hp rfl
    exact ⟨keep p.1 p.2 ne nf nch e n,free p.1 p.2 nch e n,ne,nf,d⟩
theorem Inv.un {t' : Nat} (I : Inv X pins σ H s) (u : Un X.fs [] H H' s.heap h') (hok : HOk X.prog X.w H' h') : Inv X pins σ H' { s with heap := h',toks := t' } := by
  obtain ⟨m,⟨o,es,ep,ho,r⟩,_⟩ := id I.loc
  obtain ⟨sl,hL⟩ := u.any ho I.free (by simp)
  exact I.step (g' := s.gens) (d' := s.drawn) (ch := []) (fun _ z=>nomatch z) (fun b o _ hb _ e n=>u.keep b o e n hb (by simp)) (fun b o _ hb _ e n=>u.slot b o e n hb (by simp)) (fun b o _ e n=>u.free b o e n (by simp)) (fun b o _ e=>u.there b o e (by simp)) u.tups u.frzs u.tbls (fun m' hm=>by
    obtain ⟨o',es',ep',ho',r'⟩ := hm
    rw [ho] at ho'; cases ho'
    exact ⟨_,es',ep',hL,r'⟩) hok I.bare
theorem Inv.call {g' : Array GenState} {t' : Nat} {d' : Drawn} {ch : List Addr} (I : Inv X pins σ H s) (u : Un (frs X.stack) ch H H' s.heap h') (hok : HOk X.prog X.w H' h') (hg : AllBare g')
    (hch : ∀ b ∈ ch,(b ∈ X.ex ∨ X.s₀.heap.objs.size ≤ b) ∧ b ≠ X.env.locals ∧ (∀ x c,X.env.cells.lookup x = some c → c ≠ b) ∧ ∀ p ∈ X.pn ++ pins,p.1 ≠ b) :
    Inv X pins σ H' { s with heap := h',gens := g',drawn := d',toks := t' } := by
  obtain ⟨m,⟨o,es,ep,ho,r⟩,_⟩ := id I.loc
  obtain ⟨sl,hL⟩ := u.any ho I.free fun z=>(hch _ z).2.1 rfl
  exact I.step (ch := ch) hch (fun b o hL hb hc e n=>u.keep b o e n (fun z=>(List.mem_cons.mp (I.stkSub b z)).elim hL hb) hc) (fun b o _ _ hc e n=>u.any e n hc) (fun b o hc e n=>u.free b o e n hc) (fun b o hc e=>u.there b o e hc) u.tups u.frzs u.tbls (fun m' hm=>by
    obtain ⟨o',es',ep',ho',r'⟩ := hm
    rw [ho] at ho'; cases ho'
    exact ⟨_,es',ep',hL,r'⟩) hok hg
theorem Inv.turned {t' : Nat} {it : Addr} (I : Inv X pins σ H s) (k : ∀ b o,b ≠ it → s.heap.get? b = some o → h'.get? b = some o) (hn : H it = none) (hL : it ≠ X.env.locals)
    (h1 : it ∈ X.ex ∨ X.s₀.heap.objs.size ≤ it) (h2 : ∀ x c,X.env.cells.lookup x = some c → c ≠ it) (h3 : ∀ p ∈ X.pn ++ pins,p.1 ≠ it) : Inv X pins σ H { s with heap := h',toks := t' } := by
  have nit : ∀ b u,H b = some u → b ≠ it := fun b u e z=>by rw [z,hn] at e; cases e
  refine I.step (g' := s.gens) (d' := s.drawn) (ch := [it]) (fun b hb=>?_) (fun b o _ _ hc e _=>k b o (fun z=>hc (by simp [z])) e) (fun b o _ _ hc e _=>⟨o.slots,k b o (fun z=>hc (by simp [z])) e⟩) (fun _ _ _ _ n=>n)
    (fun b o hc e=>⟨o,k b o (fun z=>hc (by simp [z])) e⟩) (fun _ _ e=>e) (fun _ _ _ e=>e) (fun b ps e=>⟨#[],by rw [e]; simp⟩) (fun m hm=>?_) (fun b u e=>?_) I.bare
  · have e : b = it := by simpa using hb
    subst e
    exact ⟨h1,hL,h2,h3⟩
  · obtain ⟨o,es,ep,ho,r⟩ := hm
    exact ⟨o,es,ep,k _ o (Ne.symm hL) ho,r⟩
  · refine (I.hok b u e).stay (fun c v hc q=>k c v ?_ q) (fun _ q=>q) fun _ _ q=>q
    rcases hc with z | z
    · rw [z]; exact nit b u e
    · exact nit c _ z
theorem Inv.tok (I : Inv X pins σ H s) (t : Nat) : Inv X pins σ H { s with toks := t } := I.un (h' := s.heap) (t' := t) Un.refl I.hok
theorem Inv.kept {t' : Nat} (I : Inv X pins σ H s) (k : ∀ b u,s.heap.get? b = some u → h'.get? b = some u) : Inv X pins σ H { s with heap := h',toks := t' } := I.un (Un.kept k) (I.hok.kept k)
theorem Inv.laid {a : Addr} {o : HO} {t' : Nat} (I : Inv X pins σ H s) (k : ∀ b u,s.heap.get? b = some u → h'.get? b = some u) (hp : s.heap.objs.size ≤ a) (new : ObjOk X.prog X.w (upd H a o) h' a o) :
    Inv X pins σ (upd H a o) { s with heap := h',toks := t' } := I.un (Un.laid k hp (I.hok.fresh hp)) (I.hok.laid k hp new)
theorem Inv.write {x e : Addr} {o : HO} {t' : Nat} (I : Inv X pins σ H s) (mu : Mut (H x)) (he : e = x ∨ H e = some (.own x)) (k : ∀ b u,b ≠ e → s.heap.get? b = some u → h'.get? b = some u) (heo : ∃ u,h'.get? e = some u)
    (new : ObjOk X.prog X.w (upd H x o) h' x o) : Inv X pins σ (upd H x o) { s with heap := h',toks := t' } := I.un (Un.write mu he k heo) (I.hok.write mu he k heo new)
theorem Inv.pins_of {pins' : List (Addr × Obj)} (I : Inv X pins σ H s) (h : ∀ p ∈ pins',s.heap.get? p.1 = some p.2 ∧ H p.1 = none ∧ p.1 ≠ X.env.locals ∧ p.1 ∉ X.fs ∧ ∀ v,p.2.data ≠ .cell v) : Inv X pins' σ H s :=
  ⟨I.ok,I.os,I.bare,I.base,I.loc,I.cell,I.free,I.freeC,fun p hp=>(List.mem_append.mp hp).elim (fun z=>I.pin p (List.mem_append_left _ z)) (h p),I.hok,I.len⟩
theorem nodup_ix {N : List Str} (hN : N.Nodup) {i j : Nat} {x : Str} (a : N[i]? = some x) (b : N[j]? = some x) : i = j := by
  obtain ⟨h1,e1⟩ := List.getElem?_eq_some_iff.mp a
  obtain ⟨h2,e2⟩ := List.getElem?_eq_some_iff.mp b
  exact (List.getElem_inj hN).mp (e1.trans e2.symm)
theorem store_ok2 {M : Model} {A : Around} {E : Value → Shared → Prop} {i : Nat} {x : Str} {v : V} {u : Value} {Q : Unit → Shared → Prop} (I : Inv X pins σ H s) (hN : X.N.Nodup) (hi : X.N[i]? = some x) (hx : Loc X.env.scope x) (r : RelV v u)
    (h : ∀ s',Inv X pins (σ.set i (some v)) H s' → (∃ a,Heap.SameBut a s.heap s'.heap ∧ (a = X.env.locals ∨ X.env.cells.lookup x = some a)) → Q () s') (hf : X.fn x = true ∨ X.env.scope.names.lookup x = some .local := by first | exact .inl rfl | exact .inr rfl | assumption) : wpAny M A (storeName X.env x u) Q E s := by
  obtain ⟨m,hn,hl⟩ := id I.loc
  have hcls : (X.env.scope.kind == .class || (X.env.scope.kind == .module && X.env.locals != X.env.globals)) = false := by rw [I.ok.kind]; rfl
  have hiσ : i < σ.length := by rw [I.len]; exact (List.getElem?_eq_some_iff.mp hi).1
  have cne := I.cne
  have tracked : ∀ {a : Addr} {h' : Heap},(∃ o,s.heap.get? a = some o ∧ H a = none) → Heap.SameBut a s.heap h' → HOk X.prog X.w H h' := fun {a h'} ha hs b ob e=>by
    obtain ⟨_,_,hfree⟩ := ha
    refine (I.hok b ob e).stay (fun c w' hc q=>(hs.2 c ?_).trans q) (fun _ q=>q) fun _ _ q=>q
    rintro rfl
    rcases hc with rfl | hc
    · rw [hfree] at e; cases e
    · rw [hfree] at hc; cases hc
  rcases hx with hk | hk
  · refine wpAny_storeName_local hk hn (fun h' hn' hs=>?_) hcls
    obtain ⟨oL,_,_,hoL,_⟩ := id hn
    refine h _ ⟨I.ok,I.os,I.bare,⟨fun b o e n hb hx=>?_,fun b o e n hb hx=>?_,I.base.free,fun b o e hx=>?_,I.base.tups,I.base.frzs,I.base.tbls⟩,⟨_,hn',fun j y v' e1 e2 e3=>?_⟩,fun y c e=>?_,I.free,I.freeC,fun p hp=>?_,tracked ⟨oL,hoL,I.free⟩ hs,by simpa using I.len⟩ ⟨_,hs, .inl rfl⟩
    · exact (hs.2 b (Nat.ne_of_lt (Nat.lt_of_lt_of_le (Heap.lt_size e) I.ok.above))).trans (I.base.keep b o e n hb hx)
    · obtain ⟨sl,e1⟩ := I.base.slot b o e n hb hx
      exact ⟨sl,(hs.2 b (Nat.ne_of_lt (Nat.lt_of_lt_of_le (Heap.lt_size e) I.ok.above))).trans e1⟩
    · obtain ⟨o',e1⟩ := I.base.there b o e hx
      exact ⟨o',(hs.2 b (Nat.ne_of_lt (Nat.lt_of_lt_of_le (Heap.lt_size e) I.ok.above))).trans e1⟩
    · by_cases hj : j = i
      · subst hj
        rw [hi] at e1; cases e1
        rw [List.getElem?_set_self hiσ] at e2
        cases e2
        exact ⟨u,r, .inl ⟨hk,by simp⟩⟩
      · rw [List.getElem?_set_ne (Ne.symm hj)] at e2
        obtain ⟨u',r',q⟩ := hl j y v' e1 e2 e3
        refine ⟨u',r',?_⟩
        rcases q with ⟨k,e⟩ | ⟨k,c,e,z⟩
        · refine .inl ⟨k,?_⟩
          have : y ≠ x := fun e=>hj (nodup_ix hN e1 (e ▸ hi))
          simp [this,e]
        · exact .inr ⟨k,c,e,z.sameBut hs (cne y c e)⟩
    · obtain ⟨w',z⟩ := I.cell y c e
      exact ⟨w',z.sameBut hs (cne y c e)⟩
    · obtain ⟨e,n,ne,nf,d⟩ := I.pin p hp
      exact ⟨(hs.2 p.1 ne).trans e,n,ne,nf,d⟩
  · have hfn : X.fn x = true := by
      rcases hf with z | z
      · exact z
      · rw [z] at hk; cases hk
    obtain ⟨c,hc⟩ := I.ok.has x (.inl hk)
    obtain ⟨w',z⟩ := I.cell x c hc
    refine wpAny_storeName_cell I.ok.kind hk hc z (fun h' hc' hs=>?_)
    obtain ⟨oc,hoc,hocd⟩ := id z
    refine h { s with heap := h' } ⟨I.ok,I.os,I.bare,⟨fun b o e n hb hx=>?_,fun b o e n hb hx=>?_,I.base.free,fun b o e hx=>?_,I.base.tups,I.base.frzs,I.base.tbls⟩,⟨m,hn.sameBut hs (Ne.symm (cne x c hc)),fun j y v' e1 e2 e3=>?_⟩,fun y c' e=>?_,I.free,I.freeC,fun p hp=>?_,tracked ⟨oc,hoc,I.freeC x c hc⟩ hs,by simpa using I.len⟩ ⟨c,hs, .inr hc⟩
    · exact (hs.2 b (Nat.ne_of_lt (Nat.lt_of_lt_of_le (Heap.lt_size e) (I.ok.cab x c hfn hc)))).trans (I.base.keep b o e n hb hx)
    · obtain ⟨sl,e1⟩ := I.base.slot b o e n hb hx
      exact ⟨sl,(hs.2 b (Nat.ne_of_lt (Nat.lt_of_lt_of_le (Heap.lt_size e) (I.ok.cab x c hfn hc)))).trans e1⟩
    · obtain ⟨o',e1⟩ := I.base.there b o e hx
      exact ⟨o',(hs.2 b (Nat.ne_of_lt (Nat.lt_of_lt_of_le (Heap.lt_size e) (I.ok.cab x c hfn hc)))).trans e1⟩
    · by_cases hj : j = i
      · subst hj
        rw [hi] at e1; cases e1
        rw [List.getElem?_set_self hiσ] at e2
        cases e2
        exact ⟨u,r, .inr ⟨.inl hk,c,hc,hc'⟩⟩
      · rw [List.getElem?_set_ne (Ne.symm hj)] at e2
        obtain ⟨u',r',q⟩ := hl j y v' e1 e2 e3
        refine ⟨u',r',?_⟩
        rcases q with q | ⟨k,c',e,z'⟩
        · exact .inl q
        · refine .inr ⟨k,c',e,z'.sameBut hs ?_⟩
          rintro rfl
          exact hj (nodup_ix hN e1 (I.ok.inj _ _ _ e hc ▸ hi))
    · by_cases hcc : c' = c
      · subst hcc; exact ⟨_,hc'⟩
      · obtain ⟨w2,z2⟩ := I.cell y c' e
        exact ⟨w2,z2.sameBut hs hcc⟩
    · obtain ⟨e,n,ne,nf,d⟩ := I.pin p hp
      refine ⟨(hs.2 p.1 ?_).trans e,n,ne,nf,d⟩
      intro q
      rw [q,hoc] at e
      have q' : oc = p.2 := Option.some.inj e
      exact d w' (by rw [← q']; exact hocd)
theorem store_ok {M : Model} {A : Around} {E : Value → Shared → Prop} {i : Nat} {x : Str} {v : V} {u : Value} {Q : Unit → Shared → Prop} (I : Inv X pins σ H s) (hN : X.N.Nodup) (hi : X.N[i]? = some x) (hx : Loc X.env.scope x) (r : RelV v u)
    (h : ∀ s',Inv X pins (σ.set i (some v)) H s' → Q () s') (hf : X.fn x = true ∨ X.env.scope.names.lookup x = some .local := by first | exact .inl rfl | exact .inr rfl | assumption) : wpAny M A (storeName X.env x u) Q E s :=
  store_ok2 I hN hi hx r (fun s' I' _=>h s' I') hf
theorem Inv.call' {s' : Shared} {ch : List Addr} (I : Inv X pins σ H s) (ho : s'.os = s.os) (u : Un (frs X.stack) ch H H' s.heap s'.heap) (hok : HOk X.prog X.w H' s'.heap) (hg : AllBare s'.gens)
    (hch : ∀ b ∈ ch,(b ∈ X.ex ∨ X.s₀.heap.objs.size ≤ b) ∧ b ≠ X.env.locals ∧ (∀ x c,X.env.cells.lookup x = some c → c ≠ b) ∧ ∀ p ∈ X.pn ++ pins,p.1 ≠ b) : Inv X pins σ H' s' := by
  obtain ⟨h',g',d',t',o'⟩ := s'
  have e : o' = s.os := ho
  subst e
  exact I.call (g' := g') (t' := t') (d' := d') u hok hg hch
end
abbrev XK := Value → Option Addr → Hp → Prop
abbrev St := List (Option V)
abbrev VK := V → Hp → Prop
abbrev TE := St → Hp → VK → Prop
abbrev TT := St → Hp → (Bool → Hp → Prop) → Prop
abbrev TA := St → Hp → (List V → Hp → Prop) → Prop
structure Ends where
  nx : St → Hp → Prop
  rt : VK
  bk : St → Hp → Prop := fun _ _=>False
  ct : St → Hp → Prop := fun _ _=>False
abbrev TS := Ends → St → Hp → Prop
def EP (X : Cx) (pins : List (Addr × Obj)) (σ : St) (Q : VK) (u : Value) (s' : Shared) : Prop := ∃ v H',Inv X pins σ H' s' ∧ RelV v u ∧ Q v H'
def TP (X : Cx) (pins : List (Addr × Obj)) (σ : St) (Q : Bool → Hp → Prop) (b : Bool) (s' : Shared) : Prop := ∃ H',Inv X pins σ H' s' ∧ Q b H'
def AP (X : Cx) (pins : List (Addr × Obj)) (σ : St) (Q : List V → Hp → Prop) (us : List Value) (s' : Shared) : Prop := ∃ vs H',Inv X pins σ H' s' ∧ Vals vs us ∧ Q vs H'
def SP (X : Cx) (pins : List (Addr × Obj)) (D : Ends) (f : Flow) (s' : Shared) : Prop :=
  match f with
  | .next=>∃ σ' H',Inv X pins σ' H' s' ∧ D.nx σ' H'
  | .brk=>∃ σ' H',Inv X pins σ' H' s' ∧ D.bk σ' H'
  | .cont=>∃ σ' H',Inv X pins σ' H' s' ∧ D.ct σ' H'
  | .ret u=>∃ v σ' H',Inv X pins σ' H' s' ∧ RelV v u ∧ D.rt v H'
def PE (X : Cx) (e : Expr) (t : TE) : Prop :=
  ∀ (pins : List (Addr × Obj)) (s : Shared) (σ : St) (H : Hp) (Q : VK),Inv X pins σ H s → t σ H Q → wpAny (model X.prog X.w) X.A (eval e X.env) (EP X pins σ Q) X.xe s
def PT (X : Cx) (e : Expr) (t : TT) : Prop :=
  ∀ (pins : List (Addr × Obj)) (s : Shared) (σ : St) (H : Hp) (Q : Bool → Hp → Prop),Inv X pins σ H s → t σ H Q → wpAny (model X.prog X.w) X.A (isTrue e X.env (eval e X.env)) (TP X pins σ Q) X.xe s
def PW (X : Cx) (e : Expr) (t : TT) : Prop :=
  ∀ (whole : Sem Value) (pins : List (Addr × Obj)) (s : Shared) (σ : St) (H : Hp) (Q : Bool → Hp → Prop),Inv X pins σ H s → t σ H Q → wpAny (model X.prog X.w) X.A (isTrue e X.env whole) (TP X pins σ Q) X.xe s
theorem PW.pt {X : Cx} {e : Expr} {t : TT} (h : PW X e t) : PT X e t := h _
def PA (X : Cx) (es : List Expr) (t : TA) : Prop :=
  ∀ (pos : Pos) (pins : List (Addr × Obj)) (s : Shared) (σ : St) (H : Hp) (Q : List V → Hp → Prop),Inv X pins σ H s → t σ H Q → wpAny (model X.prog X.w) X.A (spliced (backTo pos (starEach es X.env))) (AP X pins σ Q) X.xe s
def PS (X : Cx) (st : Stmt) (t : TS) : Prop :=
  ∀ (pins : List (Addr × Obj)) (s : Shared) (σ : St) (H : Hp) (D : Ends),Inv X pins σ H s → t D σ H → wpAny (model X.prog X.w) X.A (exec st X.env) (SP X pins D) X.xe s
def PSs (X : Cx) (st : List Stmt) (t : TS) : Prop :=
  ∀ (pins : List (Addr × Obj)) (s : Shared) (σ : St) (H : Hp) (D : Ends),Inv X pins σ H s → t D σ H → wpAny (model X.prog X.w) X.A (execs st X.env) (SP X pins D) X.xe s
theorem thn {α : Type} {t : Sem α} {Q Q' : α → Shared → Prop} {M : Model} {A : Around} {E : Value → Shared → Prop} {s : Shared} (h : wpAny M A t Q E s) (hQ : ∀ a s,Q a s → Q' a s) : wpAny M A t Q' E s := wpAny_mono h hQ fun _ _ x=>x
end L2
namespace L2
open PySem PySem.Spec PyProof.Rows
section
variable {X : Cx}
def tVar (i : Nat) : TE := fun σ H Q=>∃ v,σ[i]? = some (some v) ∧ Q v H
def tC (v : V) : TE := fun _ H Q=>Q v H
theorem pe_var {i : Nat} {x : Str} {pos : Pos} (hN : X.N[i]? = some x) (hv : Vis X.env.scope x) (hd : (x == ("__debug__" : Str)) = false := by decide) (hcd : (x == ("__classdict__" : Str)) = false := by decide) : PE X (.Name x pos) (tVar i) := by
  intro pins s σ H Q I h
  obtain ⟨v,e,h⟩ := h
  obtain ⟨m,hn,hl⟩ := I.loc
  obtain ⟨u,r,l⟩ := hl i x v hN e hv
  have fin : EP X pins σ Q u s := ⟨v,H,I,r,h⟩
  rcases l with ⟨hk,hm⟩ | ⟨hk,c,hc,hcell⟩
  · exact wpAny_Name (wpAny_loadName_local I.ok.kind hk hn hm fin) hd
  · rcases hk with hk | hk
    · exact wpAny_Name (wpAny_loadName_cell I.ok.kind hk hc hcell fin) hd
    · exact wpAny_Name (wpAny_loadName_free I.ok.kind hk hc hcell fin hcd) hd
theorem pe_int {i j pos} : PE X (.Constant (.int i) j pos) (tC (.int i)) := fun _ _ _ H _ I h=>wpAny_Constant_int ⟨.int i,H,I.tok _,⟨_,rfl⟩,h⟩
theorem pe_bl {b j pos} : PE X (.Constant (.bool b) j pos) (tC (.bl b)) := fun _ _ _ H _ I h=>Constant_bool ⟨.bl b,H,I,rfl,h⟩
theorem pe_non {j pos} : PE X (.Constant .none j pos) (tC .non) := fun _ _ _ H _ I h=>Constant_none ⟨.non,H,I,rfl,h⟩
theorem pe_str {x j pos} : PE X (.Constant (.str x) j pos) (tC (.str x)) := fun _ _ _ H _ I h=>Calls.Constant_str ⟨.str x,H,I.tok _,⟨_,rfl⟩,h⟩
def Gl (X : Cx) (x : Str) : Prop := X.env.kindOf x = some .globalImplicit
theorem ld_glob {E : Value → Shared → Prop} {pins : List (Addr × Obj)} {s : Shared} {σ : St} {H : Hp} {x : Str} {u : Value} {pos : Pos} {Q : Value → Shared → Prop} (I : Inv X pins σ H s) (hg : Gl X x) (hm : X.mg x = some u) (h : Q u s)
    (hd : (x == ("__debug__" : Str)) = false := by decide) : wpAny (model X.prog X.w) X.A (eval (.Name x pos) X.env) Q E s :=
  Calls.Name_function_global I.ok.kind hg (Calls.loadGlobal_global (by rw [I.ok.glob]; exact I.mod.glob.keeps I.bk) hm h) hd
theorem ld_blt {E : Value → Shared → Prop} {pins : List (Addr × Obj)} {s : Shared} {σ : St} {H : Hp} {x : Str} {u : Value} {pos : Pos} {Q : Value → Shared → Prop} (I : Inv X pins σ H s) (hg : Gl X x) (hm : X.mg x = none) (hv : bootBuiltins x = some u) (h : Q u s)
    (hn : x ≠ "__name__" := by decide) (hd : (x == ("__debug__" : Str)) = false := by decide) : wpAny (model X.prog X.w) X.A (eval (.Name x pos) X.env) Q E s := by
  obtain ⟨mb,h1,h2⟩ := I.mod.blt
  exact Calls.Name_function_global I.ok.kind hg (Calls.loadGlobal_builtin (by rw [I.ok.glob]; exact I.mod.glob.keeps I.bk) hm (by rw [I.ok.blt]; exact h1.keeps I.bk) ((h2 x hn).trans hv) h) hd
theorem pe_bltn {x : Str} {v : V} {u : Value} {pos : Pos} (hg : Gl X x) (hm : X.mg x = none) (hv : bootBuiltins x = some u) (r : RelV v u) (hn : x ≠ "__name__" := by decide) (hd : (x == ("__debug__" : Str)) = false := by decide) : PE X (.Name x pos) (tC v) :=
  fun _ _ _ H _ I h=>ld_blt I hg hm hv ⟨v,H,I,r,h⟩ hn hd
variable {a b : Expr} {ta tb : TE} {pos : Pos}
def PC (X : Cx) (op : CmpOp) (a b : Expr) (t : TE) : Prop :=
  ∀ (pins : List (Addr × Obj)) (s : Shared) (σ : St) (H : Hp) (Q : VK),Inv X pins σ H s → t σ H Q →
    wpAny (model X.prog X.w) X.A (eval a X.env) (fun v s₁=>wpAny (model X.prog X.w) X.A (eval b X.env) (fun u s₂=>wpAny (model X.prog X.w) X.A (compareOp op v u) (EP X pins σ Q) X.xe s₂) X.xe s₁) X.xe s
theorem nobehind (b : Expr) {op : CmpOp} (h : op ≠ .In) (h2 : op ≠ .NotIn) : behindInMarks op b = false := by
  have e1 : (op == CmpOp.In) = false := by cases op <;> first | rfl | exact absurd rfl h
  have e2 : (op == CmpOp.NotIn) = false := by cases op <;> first | rfl | exact absurd rfl h2
  cases b <;> simp [behindInMarks,e1,e2]
def tIsN (ta : TE) : TE := fun σ H Q=>ta σ H fun x H1=>Q (.bl (decide (x = .non))) H1
theorem RelV.none_iff {x : V} {v : Value} (r : RelV x v) : (v == Value.none) = decide (x = .non) := by
  cases x with
  | non=>cases r; rfl
  | bl _=>cases r; rfl
  | int _=>obtain ⟨t,rfl⟩ := r; rfl
  | str _=>obtain ⟨t,rfl⟩ := r; rfl
  | byt _=>obtain ⟨t,rfl⟩ := r; rfl
  | flt _=>obtain ⟨t,rfl⟩ := r; rfl
  | ref _=>cases r; rfl
  | ty _=>cases r; rfl
theorem pc_isN {j pos'} (ha : PE X a ta) : PC X .Is a (.Constant .none j pos') (tIsN ta) := by
  intro pins s σ H Q I h
  refine thn (ha pins s σ H _ I h) fun v s1 ⟨x,H1,I1,r1,q1⟩=>?_
  exact Constant_none (is_none_gen ⟨.bl _,H1,I1,by rw [r1.none_iff]; rfl,q1⟩)
def tB (t : TE) : TT := fun σ H Q=>t σ H fun x H1=>∃ c,x = .bl c ∧ Q c H1
theorem pt_cmp {op : CmpOp} {t : TE} (h : PC X op a b t) (h1 : behindInMarks op b = false := by first | exact nobehind _ (by decide) (by decide) | rfl) : PT X (.Compare a [op] [b] pos) (tB t) := by
  intro pins s σ H Q I hw
  refine wpAny_isTrue_Compare1 (thn (h pins s σ H _ I hw) fun v s1 h1=>thn h1 fun u s2 h2=>thn h2 fun c s3 ⟨x,H1,I1,r1,q1⟩=>?_) h1
  obtain ⟨d,rfl,q⟩ := q1
  cases r1
  exact wpAny_truthy_bool ⟨H1,I1,q⟩
theorem pt_val {e : Expr} {t : TE} (h : PE X e t) (he : ∀ whole,isTrue e X.env whole = (do let v ← whole; standAt e.pos; holding [v] (truthy v)) := by intro _; rfl) : PT X e (tB t) := by
  intro pins s σ H Q I hw
  refine isTrue_plain (thn (h pins s σ H _ I hw) fun v s1 ⟨x,H1,I1,r1,q1⟩=>?_) (he _)
  obtain ⟨d,rfl,q⟩ := q1
  cases r1
  exact wpAny_truthy_bool ⟨H1,I1,q⟩
variable {tA tB' : TT} {rest : List Expr}
def tAnd (t u : TT) : TT := fun σ H Q=>t σ H fun c H1=>if c = true then u σ H1 Q else Q false H1
def tOr (t u : TT) : TT := fun σ H Q=>t σ H fun c H1=>if c = true then Q true H1 else u σ H1 Q
def tNot (t : TT) : TT := fun σ H Q=>t σ H fun c H1=>Q (!c) H1
theorem pw_and1 (ha : PT X a tA) : PW X (.BoolOp .And [a] pos) tA := by
  intro wh pins s σ H Q I h
  refine isTrue_and (thn (ha pins s σ H Q I h) fun c s1 e=>?_)
  cases c with
  | true=>exact isTrue_and_nil e
  | false=>exact e
theorem pw_or1 (ha : PT X a tA) : PW X (.BoolOp .Or [a] pos) tA := by
  intro wh pins s σ H Q I h
  refine isTrue_or (thn (ha pins s σ H Q I h) fun c s1 e=>?_)
  cases c with
  | false=>exact isTrue_or_nil e
  | true=>exact e
theorem pw_and (ha : PT X a tA) (hb : PW X (.BoolOp .And (b :: rest) pos) tB') : PW X (.BoolOp .And (a :: b :: rest) pos) (tAnd tA tB') := by
  intro wh pins s σ H Q I h
  refine isTrue_and (thn (ha pins s σ H _ I h) fun c s1 ⟨H1,I1,q1⟩=>?_)
  cases c with
  | true=>exact hb wh pins s1 σ H1 Q I1 q1
  | false=>exact ⟨H1,I1,q1⟩
theorem pw_or (ha : PT X a tA) (hb : PW X (.BoolOp .Or (b :: rest) pos) tB') : PW X (.BoolOp .Or (a :: b :: rest) pos) (tOr tA tB') := by
  intro wh pins s σ H Q I h
  refine isTrue_or (thn (ha pins s σ H _ I h) fun c s1 ⟨H1,I1,q1⟩=>?_)
  cases c with
  | true=>exact ⟨H1,I1,q1⟩
  | false=>exact hb wh pins s1 σ H1 Q I1 q1
theorem pt_not (ha : PT X a tA) : PT X (.UnaryOp .Not a pos) (tNot tA) := by
  intro pins s σ H Q I h
  exact isTrue_not (ha pins s σ H (fun c H1=>Q (!c) H1) I h)
def tAndV (ta tb : TE) : TE := fun σ H Q=>ta σ H fun x H1=>∃ c,x = .bl c ∧ if c = true then tb σ H1 Q else Q (.bl false) H1
def tOrV (ta tb : TE) : TE := fun σ H Q=>ta σ H fun x H1=>∃ c,x = .bl c ∧ if c = true then Q (.bl true) H1 else tb σ H1 Q
def tNotV (ta : TE) : TE := fun σ H Q=>ta σ H fun x H1=>∃ c,x = .bl c ∧ Q (.bl (!c)) H1
theorem pe_one {op} {t : TE} (h : PE X a t) : PE X (.BoolOp op [a] pos) t := fun pins s σ H Q I hw=>BoolOp_one (h pins s σ H Q I hw)
theorem pe_and (ha : PE X a ta) (hb : PE X (.BoolOp .And (b :: rest) pos) tb) : PE X (.BoolOp .And (a :: b :: rest) pos) (tAndV ta tb) := by
  intro pins s σ H Q I h
  refine BoolOp_and (thn (ha pins s σ H _ I h) fun v s1 ⟨x,H1,I1,r1,q1⟩=>?_)
  obtain ⟨c,rfl,q1⟩ := q1
  cases r1
  refine wpAny_truthy_bool ?_
  cases c with
  | true=>exact hb pins s1 σ H1 Q I1 q1
  | false=>exact ⟨.bl false,H1,I1,rfl,q1⟩
theorem pe_or (ha : PE X a ta) (hb : PE X (.BoolOp .Or (b :: rest) pos) tb) : PE X (.BoolOp .Or (a :: b :: rest) pos) (tOrV ta tb) := by
  intro pins s σ H Q I h
  refine BoolOp_or (thn (ha pins s σ H _ I h) fun v s1 ⟨x,H1,I1,r1,q1⟩=>?_)
  obtain ⟨c,rfl,q1⟩ := q1
  cases r1
  refine wpAny_truthy_bool ?_
  cases c with
  | false=>exact hb pins s1 σ H1 Q I1 q1
  | true=>exact ⟨.bl true,H1,I1,rfl,q1⟩
theorem pe_not (ha : PE X a ta) : PE X (.UnaryOp .Not a pos) (tNotV ta) := by
  intro pins s σ H Q I h
  refine UnaryOp_ (thn (ha pins s σ H _ I h) fun v s1 ⟨x,H1,I1,r1,q1⟩=>?_)
  obtain ⟨c,rfl,q1⟩ := q1
  cases r1
  exact not_of (wpAny_truthy_bool ⟨.bl (!c),H1,I1,rfl,q1⟩)
def tIf (t : TT) (ta tb : TE) : TE := fun σ H Q=>t σ H fun c H1=>if c = true then ta σ H1 Q else tb σ H1 Q
theorem pe_ifExp {c : Expr} (hc : PT X c tA) (ha : PE X a ta) (hb : PE X b tb) : PE X (.IfExp c a b pos) (tIf tA ta tb) := by
  intro pins s σ H Q I h
  refine wpAny_IfExp (thn (hc pins s σ H _ I h) fun d s1 ⟨H1,I1,q1⟩=>?_)
  cases d with
  | true=>exact ha pins s1 σ H1 Q I1 q1
  | false=>exact hb pins s1 σ H1 Q I1 q1
end
end L2
namespace L2
open PySem PySem.Spec PyProof.Rows
def SqL (K : PySem.W.Frag) (H : Hp) (a : Addr) (xs : List V) : Prop :=
  Rd H a (.lst xs) ∨
    ∃ (o : Obj) (its : Array Value) (n : Nat),K.lookup a = some o ∧ o.cls = .type "list" ∧ o.dict = none ∧ o.data = .seq its n ∧ its.size ≤ sizeLine ∧ Vals xs its.toList
def SqT (K : PySem.W.Frag) (H : Hp) (a : Addr) (xs : List V) : Prop :=
  Rd H a (.tup xs) ∨
    ∃ (o : Obj) (its : Array Value) (n : Nat),K.lookup a = some o ∧ o.cls = .type "tuple" ∧ o.data = .seq its n ∧ its.size ≤ sizeLine ∧ Vals xs its.toList
def absV : Value → Option V
  | .none=>some .non
  | .bool b=>some (.bl b)
  | .int i _=>some (.int i)
  | .str x _=>some (.str x)
  | .bytes b _=>some (.byt b)
  | .float b _=>some (.flt b)
  | .ref a=>some (.ref a)
  | .type n=>some (.ty n)
  | _=>none
theorem RelV.abs {x : V} {u : Value} (r : RelV x u) : absV u = some x := by
  cases x with
  | non=>cases r; rfl
  | bl _=>cases r; rfl
  | int _=>obtain ⟨t,rfl⟩ := r; rfl
  | str _=>obtain ⟨t,rfl⟩ := r; rfl
  | byt _=>obtain ⟨t,rfl⟩ := r; rfl
  | flt _=>obtain ⟨t,rfl⟩ := r; rfl
  | ref _=>cases r; rfl
  | ty _=>cases r; rfl
theorem RelV.inj {x y : V} {u : Value} (r : RelV x u) (q : RelV y u) : x = y := Option.some.inj (r.abs.symm.trans q.abs)
theorem Vals.inj : ∀ {xs ys : List V} {us : List Value},Vals xs us → Vals ys us → xs = ys
  | _,_,_, .nil, .nil=>rfl
  | _,_,_, .cons r t, .cons r' t'=>by rw [r.inj r',Vals.inj t t']
section
variable {X : Cx} {pins : List (Addr × Obj)} {σ : St} {H : Hp} {s : Shared} {a : Addr} {xs ys : List V}
theorem SqL.of {K : PySem.W.Frag} (h : H a = some (.lst xs)) : SqL K H a xs := .inl (.inl h)
theorem SqT.of {K : PySem.W.Frag} (h : H a = some (.tup xs)) : SqT K H a xs := .inl (.inl h)
theorem Inv.list (I : Inv X pins σ H s) (h : SqL X.K H a xs) : ∃ its : List Value,Vals xs its ∧ PlainL s.heap a its.toArray ∧ xs.length ≤ sizeLine := by
  rcases h with h | ⟨o,its,n,hk,hc,hd,hs,hz,r⟩
  · obtain ⟨z,its,n,r,e⟩ := h.ok I.hok
    exact ⟨its,r,⟨_,n,e,rfl,rfl,rfl⟩,z⟩
  · refine ⟨its.toList,r,⟨o,n,I.kIn a o hk,hc,hd,by simpa using hs⟩,?_⟩
    have e := r.length
    simp only [Array.length_toList] at e
    omega
theorem Inv.tuple (I : Inv X pins σ H s) (h : SqT X.K H a xs) : ∃ its : List Value,Vals xs its ∧ IsTup s.heap a its.toArray ∧ xs.length ≤ sizeLine := by
  rcases h with h | ⟨o,its,n,hk,hc,hs,hz,r⟩
  · obtain ⟨z,its,r,p⟩ := h.ok I.hok
    exact ⟨its,r,p,z⟩
  · refine ⟨its.toList,r,⟨o,I.kIn a o hk,hc,n,by simpa using hs⟩,?_⟩
    have e := r.length
    simp only [Array.length_toList] at e
    omega
theorem Inv.list_inj (I : Inv X pins σ H s) (h : SqL X.K H a xs) (h' : SqL X.K H a ys) : xs = ys := by
  obtain ⟨its,r,⟨o,n,e,_,_,d⟩,_⟩ := I.list h
  obtain ⟨its',r',⟨o',n',e',_,_,d'⟩,_⟩ := I.list h'
  rw [e] at e'; cases e'
  rw [d] at d'
  injection d' with d1 _
  have : its = its' := by simpa using congrArg Array.toList d1
  subst this
  exact r.inj r'
theorem Inv.tuple_inj (I : Inv X pins σ H s) (h : SqT X.K H a xs) (h' : SqT X.K H a ys) : xs = ys := by
  obtain ⟨its,r,⟨o,e,_,n,d⟩,_⟩ := I.tuple h
  obtain ⟨its',r',⟨o',e',_,n',d'⟩,_⟩ := I.tuple h'
  rw [e] at e'; cases e'
  rw [d] at d'
  injection d' with d1 _
  have : its = its' := by simpa using congrArg Array.toList d1
  subst this
  exact r.inj r'
end
abbrev Cx.wish (X : Cx) (E : Value → Shared → Prop) : Cx := { X with xe := E }
abbrev Cx.nox (X : Cx) : Cx := X.wish fun _ _=>False
theorem Cx.Ok.wish {X : Cx} (ok : X.Ok) (E : Value → Shared → Prop) : (X.wish E).Ok :=
  ⟨ok.mod,ok.kind,ok.glob,ok.blt,ok.above,ok.inj,ok.has,ok.cab,ok.hd,ok.frames,ok.stk,ok.exf,ok.bs,ok.bsz,ok.noex,ok.exfs,ok.funs,ok.frf⟩
theorem Cx.Ok.unwish {X : Cx} {E : Value → Shared → Prop} (ok : (X.wish E).Ok) : X.Ok :=
  ⟨ok.mod,ok.kind,ok.glob,ok.blt,ok.above,ok.inj,ok.has,ok.cab,ok.hd,ok.frames,ok.stk,ok.exf,ok.bs,ok.bsz,ok.noex,ok.exfs,ok.funs,ok.frf⟩
section
variable {X : Cx} {pins : List (Addr × Obj)} {σ : St} {H : Hp} {s : Shared} {E : Value → Shared → Prop}
theorem Inv.wish (I : Inv X pins σ H s) (E : Value → Shared → Prop) : Inv (X.wish E) pins σ H s := ⟨I.ok.wish E,I.os,I.bare,I.base,I.loc,I.cell,I.free,I.freeC,I.pin,I.hok,I.len⟩
theorem Inv.unwish (I : Inv (X.wish E) pins σ H s) : Inv X pins σ H s := ⟨I.ok.unwish,I.os,I.bare,I.base,I.loc,I.cell,I.free,I.freeC,I.pin,I.hok,I.len⟩
theorem SP.unwish {D : Ends} {f : Flow} {s' : Shared} (h : SP (X.wish E) pins D f s') : SP X pins D f s' := by
  cases f with
  | next=>obtain ⟨σ',H',I,q⟩ := h; exact ⟨σ',H',I.unwish,q⟩
  | brk=>obtain ⟨σ',H',I,q⟩ := h; exact ⟨σ',H',I.unwish,q⟩
  | cont=>obtain ⟨σ',H',I,q⟩ := h; exact ⟨σ',H',I.unwish,q⟩
  | ret u=>obtain ⟨v,σ',H',I,r,q⟩ := h; exact ⟨v,σ',H',I.unwish,r,q⟩
theorem PSs.nox {st : List Stmt} {t : TS} (h : PSs X.nox st t) : PSs X st t := fun pins s σ H D I hw =>
  wpAny_mono (h pins s σ H D (I.wish _) hw) (fun _ _ q=>q.unwish) fun _ _ z=>False.elim z
end
section
variable {X : Cx} {st : Stmt} {rest : List Stmt} {t u : TS} {e : Expr} {te : TE} {pos : Pos}
def tNext : TS := fun D σ H=>D.nx σ H
def tSeq (t u : TS) : TS := fun D σ H=>t { D with nx := u D } σ H
theorem pss_nil : PSs X [] tNext := fun _ _ σ H _ I h=>wpAny_execs_nil ⟨σ,H,I,h⟩
theorem pss_cons (h1 : PS X st t) (h2 : PSs X rest u) : PSs X (st :: rest) (tSeq t u) := by
  intro pins s σ H D I h
  refine wpAny_execs_cons (thn (h1 pins s σ H { D with nx := u D } I h) fun f s1 q=>?_)
  cases f with
  | next =>
    obtain ⟨σ',H',I',q⟩ := q
    exact h2 pins s1 σ' H' D I' q
  | ret v=>exact q
  | brk=>exact q
  | cont=>exact q
theorem pss_one (h1 : PS X st t) : PSs X [st] t := by
  intro pins s σ H D I h
  refine wpAny_execs_cons (thn (h1 pins s σ H D I h) fun f s1 q=>?_)
  cases f with
  | next=>exact wpAny_execs_nil q
  | ret v=>exact q
  | brk=>exact q
  | cont=>exact q
def tCont : TS := fun D σ H=>D.ct σ H
theorem ps_continue : PS X (.Continue pos) tCont := fun _ _ σ H _ I h=>wpAny_Continue ⟨σ,H,I,h⟩
theorem Inv.quiet {pins : List (Addr × Obj)} {σ : St} {H : Hp} {s : Shared} (I : Inv X pins σ H s) : interactive X.env = false := by simp [interactive,I.ok.kind]
def tDrop (te : TE) : TS := fun D σ H=>te σ H fun _ H1=>D.nx σ H1
theorem ps_expr (he : PE X e te) (hs : swapsWith e none pos.line X.env = pure false := by rfl) : PS X (.Expr e pos) (tDrop te) := by
  intro pins s σ H D I h
  exact wpAny_Expr_any (thn (he pins s σ H _ I h) fun v s1 ⟨x,H1,I1,r1,q1⟩=>⟨σ,H1,I1,q1⟩) I.quiet hs
def tRet (te : TE) : TS := fun D σ H=>te σ H D.rt
theorem ps_ret (he : PE X e te) : PS X (.Return (some e) pos) (tRet te) := by
  intro pins s σ H D I h
  exact wpAny_Return_some (thn (he pins s σ H _ I h) fun v s1 ⟨x,H1,I1,r1,q1⟩=>⟨x,σ,H1,I1,r1,q1⟩)
def tIfS (c : TT) (t u : TS) : TS := fun D σ H=>c σ H fun b H1=>if b = true then t D σ H1 else u D σ H1
theorem ps_if {c : Expr} {a b : List Stmt} {tc : TT} (hc : PT X c tc) (ha : PSs X a t) (hb : PSs X b u) : PS X (.If c a b pos) (tIfS tc t u) := by
  intro pins s σ H D I h
  refine wpAny_If (thn (hc pins s σ H _ I h) fun d s1 ⟨H1,I1,q1⟩=>?_)
  cases d with
  | true=>exact ha pins s1 σ H1 D I1 q1
  | false=>exact hb pins s1 σ H1 D I1 q1
end
abbrev TG := V → St → Hp → (St → Hp → Prop) → Prop
abbrev TGs := List V → St → Hp → (St → Hp → Prop) → Prop
def PG (X : Cx) (target : Expr) (t : TG) : Prop :=
  ∀ (pins : List (Addr × Obj)) (s : Shared) (σ : St) (H : Hp) (v : V) (u : Value) (Q : St → Hp → Prop),Inv X pins σ H s → RelV v u → t v σ H Q →
    wpAny (model X.prog X.w) X.A (assign target X.env u) (fun _ s'=>∃ σ' H',Inv X pins σ' H' s' ∧ Q σ' H') X.xe s
def PGs (X : Cx) (ts : List Expr) (t : TGs) : Prop :=
  ∀ (pins : List (Addr × Obj)) (s : Shared) (σ : St) (H : Hp) (vs : List V) (us : List Value) (Q : St → Hp → Prop),Inv X pins σ H s → Vals vs us → t vs σ H Q →
    wpAny (model X.prog X.w) X.A (assignInOrder ((assignEach ts X.env).map (·.2)) us) (fun _ s'=>∃ σ' H',Inv X pins σ' H' s' ∧ Q σ' H') X.xe s
section
variable {X : Cx} {pos : Pos}
def gName (i : Nat) : TG := fun v σ H Q=>Q (σ.set i (some v)) H
theorem pg_name {i : Nat} {x : Str} (hN : X.N.Nodup) (hi : X.N[i]? = some x) (hx : Loc X.env.scope x) (hf : X.fn x = true ∨ X.env.scope.names.lookup x = some .local := by first | exact .inl rfl | exact .inr rfl | assumption) : PG X (.Name x pos) (gName i) := by
  intro pins s σ H v u Q I r h
  exact wpAny_assign_Name (store_ok I hN hi hx r (fun s' I'=>⟨_,H,I',h⟩) hf)
def gNil : TGs := fun vs σ H Q=>vs = [] ∧ Q σ H
def gCons (t : TG) (u : TGs) : TGs := fun vs σ H Q=>∃ v r,vs = v :: r ∧ t v σ H fun σ' H'=>u r σ' H' Q
theorem pgs_nil : PGs X [] gNil := by
  intro pins s σ H vs us Q I r h
  obtain ⟨e,h⟩ := h
  subst e
  cases r
  exact assignInOrder_nil ⟨σ,H,I,h⟩
theorem pgs_cons {e : Expr} {es : List Expr} {t : TG} {u : TGs} (h1 : PG X e t) (h2 : PGs X es u)
    (hs : (assignEach (e :: es) X.env).map (·.2) = assign e X.env :: (assignEach es X.env).map (·.2) := by rfl) : PGs X (e :: es) (gCons t u) := by
  intro pins s σ H vs us Q I r h
  obtain ⟨v,vr,e1,h⟩ := h
  subst e1
  cases r with
  | cons r rr =>
    rw [hs]
    refine assignInOrder_cons (thn (h1 pins s σ H _ _ _ I r h) fun _ s1 ⟨σ1,H1,I1,q1⟩=>?_)
    exact h2 pins s1 σ1 H1 _ _ Q I1 rr q1
def gTup (K : PySem.W.Frag) (n : Nat) (t : TGs) : TG := fun v σ H Q=>∃ a xs,v = .ref a ∧ SqT K H a xs ∧ xs.length = n ∧ t xs σ H Q
theorem pg_tup {es : List Expr} {k : Nat} {t : TGs} {n : Nat} (hc : X.calm = true) (h : PGs X es t)
    (hn : (assignEach es X.env).length = n := by rfl) (hst : (assignEach es X.env).findIdx? (·.1) = none := by rfl) : PG X (.Tuple es k pos) (gTup X.K n t) := by
  intro pins s σ H v u Q I r hw
  obtain ⟨a,xs,e1,hq,hl,hw⟩ := hw
  subst e1
  cases r
  obtain ⟨its,rv,ht,hz⟩ := I.tuple hq
  refine assign_Tuple_tuple (I.ok.hd hc) ht (by simp [hn,← hl,rv.length]) hst fun h' hx=>?_
  have I1 : Inv X pins σ H { s with heap := h' } := I.kept (t' := s.toks) fun b o e=>hx b o (Nat.ne_of_lt (Heap.lt_size e)) e
  exact h pins _ σ H xs _ Q I1 (by simpa using rv) hw
def tAsg (te : TE) (g : TG) : TS := fun D σ H=>te σ H fun x H1=>g x σ H1 D.nx
theorem ps_asg {tg e : Expr} {te : TE} {g : TG} (he : PE X e te) (hg : PG X tg g) (hs : swapsWithSole [tg] e pos.line X.env = pure false := by rfl) (hw : swappedStores [tg] e X.env = pure none := by rfl)
    (h1 : (assignEach [tg] X.env).map (·.2) = [assign tg X.env] := by rfl) : PS X (.Assign [tg] e pos) (tAsg te g) := by
  intro pins s σ H D I h
  refine wpAny_Assign_stores (thn (he pins s σ H _ I h) fun v s1 ⟨x,H1,I1,r1,q1⟩=>?_) hs hw
  rw [h1]
  exact thn (hg pins s1 σ H1 x v _ I1 r1 q1) fun _ s2 q=>q
theorem ps_set {i : Nat} {x : Str} {e : Expr} {te : TE} {pos' : Pos} (hN : X.N.Nodup) (hi : X.N[i]? = some x) (hx : Loc X.env.scope x) (he : PE X e te) (hs : swapsWith e (some (.Name x pos')) pos.line X.env = pure false := by rfl) (hf : X.fn x = true ∨ X.env.scope.names.lookup x = some .local := by first | exact .inl rfl | exact .inr rfl | assumption) :
    PS X (.Assign [.Name x pos'] e pos) (tAsg te (gName i)) := by
  intro pins s σ H D I h
  refine wpAny_Assign_Name (thn (he pins s σ H _ I h) fun v s1 ⟨y,H1,I1,r1,q1⟩=>?_) hs
  exact store_ok I1 hN hi hx r1 (fun s2 I2=>⟨_,H1,I2,q1⟩) hf
end
section
variable {X : Cx} {pos : Pos}
def tWhile (c : TT) (tb : TS) : TS := fun D σ H=>∃ W : Nat → St → Hp → Prop,(∃ m,W m σ H) ∧ ∀ m σ H,W m σ H →
  c σ H fun b H1=>if b = true then ∃ N : St → Hp → Prop,(∀ σ' H',N σ' H' → ∃ m',m' < m ∧ W m' σ' H') ∧ tb { D with nx := N,ct := N,bk := D.nx } σ H1 else D.nx σ H1
theorem ps_while {c : Expr} {body : List Stmt} {tc : TT} {tb : TS} (hp : PassesOwn (model X.prog X.w) X.A X.env X.xe) (hc : PT X c tc) (hb : PSs X body tb) : PS X (.While c body [] pos) (tWhile tc tb) := by
  intro pins s σ H D I h
  obtain ⟨W,⟨m0,w0⟩,turn⟩ := h
  refine wpAny_While (codeAny_whileLoop (fun n s'=>∃ σ' H',Inv X pins σ' H' s' ∧ W n σ' H') ?_ m0 ⟨σ,H,I,w0⟩)
  rintro n s1 ⟨σ1,H1,I1,w1⟩
  refine wpAny_passesOwn hp (thn (hc pins s1 σ1 H1 _ I1 (turn n σ1 H1 w1)) fun b s2 ⟨H2,I2,q2⟩=>?_)
  cases b with
  | true =>
    obtain ⟨N,hN,q2⟩ := q2
    rw [if_pos rfl]
    refine wpAny_passesOwn hp (thn (hb pins s2 σ1 H2 _ I2 q2) fun f s3 q3=>?_)
    cases f with
    | next =>
      obtain ⟨σ3,H3,I3,n3⟩ := q3
      obtain ⟨m',hm,w3⟩ := hN σ3 H3 n3
      exact ⟨m',hm,σ3,H3,I3,w3⟩
    | cont =>
      obtain ⟨σ3,H3,I3,n3⟩ := q3
      obtain ⟨m',hm,w3⟩ := hN σ3 H3 n3
      exact ⟨m',hm,σ3,H3,I3,w3⟩
    | brk=>exact q3
    | ret v=>exact q3
  | false =>
    rw [if_neg Bool.false_ne_true]
    exact wpAny_execs_nil ⟨σ1,H2,I2,q2⟩
end
structure It where
  go : Nat → Hp → Prop
  yld : Nat → Hp → V → Hp → Prop
  stop : Nat → Hp → Prop
def FpOk (X : Cx) (pins : List (Addr × Obj)) (H : Hp) (b : Addr) : Prop :=
  H b = none ∧ b ≠ X.env.locals ∧ b ∉ X.fs ∧ (b ∈ X.ex ∨ X.s₀.heap.objs.size ≤ b) ∧ (∀ x c,X.env.cells.lookup x = some c → c ≠ b) ∧ ∀ p ∈ X.pn ++ pins,p.1 ≠ b
theorem Inv.fpOk {X : Cx} {pins : List (Addr × Obj)} {σ : St} {H H' : Hp} {s : Shared} {b : Addr} (I : Inv X pins σ H s) (hb : s.heap.objs.size ≤ b) (hn : H' b = none) : FpOk X pins H' b := by
  refine ⟨hn,Nat.ne_of_gt (Nat.lt_of_lt_of_le I.lt hb),I.nofs hb, .inr (Nat.le_trans I.sz hb),fun x c e z=>?_,fun p hp z=>?_⟩
  · obtain ⟨v,q⟩ := I.cell x c e
    exact absurd (Nat.lt_of_lt_of_le q.lt (by rw [z]; exact hb)) (Nat.lt_irrefl _)
  · exact absurd (Nat.lt_of_lt_of_le (Heap.lt_size (I.pin p hp).1) (by rw [z]; exact hb)) (Nat.lt_irrefl _)
structure Turn (P : Program) (w : World) (K : PySem.W.Frag) (tg : Expr) (J : It) (fp : List Addr) (it : Addr) (tn : Nat → Heap → Prop) : Prop where
  mem : it ∈ fp
  obj : ∀ i h,tn i h → ∀ b ∈ fp,∃ o,h.get? b = some o ∧ ∀ v,o.data ≠ .cell v
  keep : ∀ i h h',tn i h → (∀ b ∈ fp,∀ o,h.get? b = some o → h'.get? b = some o) → tn i h'
  item : ∀ (X : Cx),X.prog = P → X.w = w → X.K = K → X.calm = true → ∀ (i : Nat) (pins : List (Addr × Obj)) (s : Shared) (σ : St) (H : Hp) (E : Value → Shared → Prop),Inv X pins σ H s → (∀ b ∈ fp,FpOk X pins H b) → tn i s.heap → J.go i H →
    wpAny (model P w) X.A (pyNext (.ref it)) (fun r s1=>∃ u,r = some u ∧
      wpAny (model P w) X.A (letOwnedTupleGo tg (.ref it) u) (fun _ s2=>∃ x H',Inv X pins σ H' s2 ∧ RelV x u ∧ J.yld i H x H' ∧ tn (i + 1) s2.heap ∧ ∀ b ∈ fp,H' b = none) E s1) E s
  done : ∀ (X : Cx),X.prog = P → X.w = w → X.K = K → X.calm = true → ∀ (i : Nat) (pins : List (Addr × Obj)) (s : Shared) (σ : St) (H : Hp) (E : Value → Shared → Prop),Inv X pins σ H s → (∀ b ∈ fp,FpOk X pins H b) → tn i s.heap → J.stop i H →
    wpAny (model P w) X.A (pyNext (.ref it)) (fun r s1=>r = none ∧ Inv X pins σ H s1) E s
  self : ∀ (A : Around) (i : Nat) (s : Shared) (Q : Value → Shared → Prop) (E : Value → Shared → Prop),tn i s.heap → Q (.ref it) s → wpAny (model P w) A (pyIter (.ref it)) Q E s
abbrev TI := St → Hp → (It → Hp → Prop) → Prop
def PIE (X : Cx) (pins : List (Addr × Obj)) (σ : St) (tg : Expr) (R : It → Hp → Prop) (itv : Value) (s2 : Shared) : Prop :=
  ∃ (it : Addr) (fp : List Addr) (tn : Nat → Heap → Prop) (J : It) (H' : Hp),itv = .ref it ∧ Inv X pins σ H' s2 ∧ Turn X.prog X.w X.K tg J fp it tn ∧ tn 0 s2.heap ∧ (∀ b ∈ fp,FpOk X pins H' b) ∧ R J H'
def PI (X : Cx) (tg iter : Expr) (wi : TI) : Prop :=
  ∀ (pins : List (Addr × Obj)) (s : Shared) (σ : St) (H : Hp) (R : It → Hp → Prop),Inv X pins σ H s → wi σ H R →
    wpAny (model X.prog X.w) X.A (eval iter X.env) (fun v s1=>wpAny (model X.prog X.w) X.A (pyIter v) (PIE X pins σ tg R) X.xe s1) X.xe s
theorem go_of {M : Model} {A : Around} {E : Value → Shared → Prop} {s : Shared} {tg : Expr} {it : Addr} {u : Value} {o : Obj} {n : String} {vs : Array Value} {Q : Unit → Shared → Prop} (ho : s.heap.get? it = some o) (hc : o.cls = .type n) (hd : o.data = .fields vs)
    (hn : ["enumerate","zip","dict_itemiterator","dict_reverseitemiterator","odict_iterator","itertools.zip_longest","itertools.pairwise"].contains n = false) (hQ : Q () s) : wpAny M A (letOwnedTupleGo tg (.ref it) u) Q E s := by
  unfold letOwnedTupleGo
  cases tg <;> first
    | exact wpAny_pure hQ
    | (cases u <;> first
        | exact wpAny_pure hQ
        | (refine wpAny_bind (wpAny_load ho ?_)
           rw [hc,hd]
           show wpAny M A (if (["enumerate","zip","dict_itemiterator","dict_reverseitemiterator","odict_iterator","itertools.zip_longest","itertools.pairwise"].contains n && vs[0]? == some (rawInt _)) = true then _ else _) Q E s
           rw [if_neg (by intro h; rw [hn,Bool.false_and] at h; cases h)]
           exact wpAny_pure hQ))
def Itl (K : PySem.W.Frag) (a : Addr) : It :=
  ⟨fun i H=>∃ xs x,SqL K H a xs ∧ xs[i]? = some x,fun i H x H'=>H' = H ∧ ∀ xs,SqL K H a xs → xs[i]? = some x,fun i H=>∃ xs,SqL K H a xs ∧ xs.length ≤ i⟩
def Itt (K : PySem.W.Frag) (a : Addr) : It :=
  ⟨fun i H=>∃ xs x,SqT K H a xs ∧ xs[i]? = some x,fun i H x H'=>H' = H ∧ ∀ xs,SqT K H a xs → xs[i]? = some x,fun i H=>∃ xs,SqT K H a xs ∧ xs.length ≤ i⟩
def Itr (lo : Int) (n : Nat) : It := ⟨fun i _=>i < n,fun i H x H'=>H' = H ∧ x = .int (lo + i),fun i _=>n ≤ i⟩
theorem turn_list {P : Program} {w : World} {K : PySem.W.Frag} {tg : Expr} (a it : Addr) : Turn P w K tg (Itl K a) [it] it (fun i h=>h.IsListIter it a i) where
  mem := by simp
  obj := fun i h st b hb=>by
    have e : b = it := by simpa using hb
    subst e
    obtain ⟨o,e,c,d⟩ := st
    exact ⟨o,e,fun v z=>by rw [d] at z; cases z⟩
  keep := fun i h h' st k=>st.at fun o e=>k it (by simp) o e
  item := by
    intro X hP hw hK hc i pins s σ H E I hf st hg
    subst hP hw hK
    obtain ⟨xs,x,hq,hx⟩ := hg
    obtain ⟨its,rv,p,hz⟩ := I.list hq
    obtain ⟨u,hu,ru⟩ := rv.get hx
    obtain ⟨f0,f1,f2,f3,f4,f5⟩ := hf it (by simp)
    refine wpAny_pyNext_list_item st p.isList (x := u) (by simpa using hu) fun h' st' sb=>?_
    have I1 : Inv X pins σ H { s with heap := h' } := I.turned (t' := s.toks) (fun b o hb e=>(sb.2 b hb).trans e) f0 f1 f3 f4 f5
    obtain ⟨o,e,c,d⟩ := id st'
    exact ⟨u,rfl,go_of (s := { s with heap := h' }) e c d (by decide) ⟨x,H,I1,ru,⟨rfl,fun ys hy=>by rw [I.list_inj hy hq]; exact hx⟩,st',fun b hb=>(hf b hb).1⟩⟩
  done := by
    intro X hP hw hK hc i pins s σ H E I hf st hg
    subst hP hw hK
    obtain ⟨xs,hq,hx⟩ := hg
    obtain ⟨its,rv,p,hz⟩ := I.list hq
    obtain ⟨f0,f1,f2,f3,f4,f5⟩ := hf it (by simp)
    have hl := rv.length
    exact wpAny_pyNext_list_end (I.ok.hd hc) st p.isList (by simp; omega) fun h' eb=>⟨rfl,I.turned (t' := s.toks) (fun b o hb e=>eb b o hb e) f0 f1 f3 f4 f5⟩
  self := fun _ _ _ _ _ st h=>wpAny_pyIter_listiter st h
theorem turn_tuple {P : Program} {w : World} {K : PySem.W.Frag} {tg : Expr} (a it : Addr) : Turn P w K tg (Itt K a) [it] it (fun i h=>h.IsTupleIter it a i) where
  mem := by simp
  obj := fun i h st b hb=>by
    have e : b = it := by simpa using hb
    subst e
    obtain ⟨o,e,c,d⟩ := st
    exact ⟨o,e,fun v z=>by rw [d] at z; cases z⟩
  keep := fun i h h' st k=>st.at fun o e=>k it (by simp) o e
  item := by
    intro X hP hw hK hc i pins s σ H E I hf st hg
    subst hP hw hK
    obtain ⟨xs,x,hq,hx⟩ := hg
    obtain ⟨its,rv,p,hz⟩ := I.tuple hq
    obtain ⟨u,hu,ru⟩ := rv.get hx
    obtain ⟨f0,f1,f2,f3,f4,f5⟩ := hf it (by simp)
    refine wpAny_pyNext_tuple_item st (show s.heap.IsTuple a its.toArray from p) (x := u) (by simpa using hu) fun h' st' sb=>?_
    have I1 : Inv X pins σ H { s with heap := h' } := I.turned (t' := s.toks) (fun b o hb e=>(sb.2 b hb).trans e) f0 f1 f3 f4 f5
    obtain ⟨o,e,c,d⟩ := id st'
    exact ⟨u,rfl,go_of (s := { s with heap := h' }) e c d (by decide) ⟨x,H,I1,ru,⟨rfl,fun ys hy=>by rw [I.tuple_inj hy hq]; exact hx⟩,st',fun b hb=>(hf b hb).1⟩⟩
  done := by
    intro X hP hw hK hc i pins s σ H E I hf st hg
    subst hP hw hK
    obtain ⟨xs,hq,hx⟩ := hg
    obtain ⟨its,rv,p,hz⟩ := I.tuple hq
    obtain ⟨f0,f1,f2,f3,f4,f5⟩ := hf it (by simp)
    have hl := rv.length
    exact wpAny_pyNext_tuple_end (I.ok.hd hc) st (show s.heap.IsTuple a its.toArray from p) (by simp; omega) fun h' eb=>⟨rfl,I.turned (t' := s.toks) (fun b o hb e=>eb b o hb e) f0 f1 f3 f4 f5⟩
  self := fun _ _ _ _ _ st h=>wpAny_pyIter_tupleiter st h
theorem turn_range {P : Program} {w : World} {K : PySem.W.Frag} {tg : Expr} (it : Addr) (lo : Int) (n : Nat) : Turn P w K tg (Itr lo n) [it] it (fun i h=>IsRangeIter h it (lo + (i : Nat) * 1) ((n : Int) - (i : Nat)) 1) where
  mem := by simp
  obj := fun i h st b hb=>by
    have e : b = it := by simpa using hb
    subst e
    exact ⟨_,st,fun v z=>by
      have z' : Data.fields _ = Data.cell v := z
      cases z'⟩
  keep := fun i h h' st k=>k it (by simp) _ st
  item := by
    intro X hP hw hK hc i pins s σ H E I hf st hg
    subst hP hw hK
    obtain ⟨f0,f1,f2,f3,f4,f5⟩ := hf it (by simp)
    have W := Walks.range (prog := X.prog) (w := X.w) (I.ok.hd hc) it lo 1 n
    refine W.item i s _ _ hg st fun v h' tk hv st' kk=>?_
    obtain ⟨t,rfl⟩ := hv
    have I1 : Inv X pins σ H { s with heap := h',toks := tk } := I.turned (fun b o hb e=>kk b o (by simpa using hb) e) f0 f1 f3 f4 f5
    refine ⟨_,rfl,go_of (s := { s with heap := h',toks := tk }) (n := "range_iterator") st' rfl rfl (by decide) ⟨.int (lo + i),H,I1,⟨t,?_⟩,⟨rfl,rfl⟩,st',fun b hb=>(hf b hb).1⟩⟩
    rw [Int.mul_one]
  done := by
    intro X hP hw hK hc i pins s σ H E I hf st hg
    subst hP hw hK
    obtain ⟨f0,f1,f2,f3,f4,f5⟩ := hf it (by simp)
    exact wpAny_pyNext_range_end (I.ok.hd hc) st (by have : n ≤ i := hg; omega) fun h' eb=>⟨rfl,I.turned (t' := s.toks) (fun b o hb e=>eb b o hb e) f0 f1 f3 f4 f5⟩
  self := fun _ _ _ _ _ st h=>wpAny_pyIter_rangeiter st h
end L2
namespace L2
open PySem PySem.Spec PyProof.Rows
section
variable {X : Cx} {tg : Expr}
def iList (K : PySem.W.Frag) (tl : TE) : TI := fun σ H R=>tl σ H fun x H1=>∃ a,x = .ref a ∧ (∃ xs,SqL K H1 a xs) ∧ R (Itl K a) H1
def iTup (K : PySem.W.Frag) (tl : TE) : TI := fun σ H R=>tl σ H fun x H1=>∃ a,x = .ref a ∧ (∃ xs,SqT K H1 a xs) ∧ R (Itt K a) H1
theorem pi_list {l : Expr} {tl : TE} (hl : PE X l tl) : PI X tg l (iList X.K tl) := by
  intro pins s σ H R I h
  refine thn (hl pins s σ H _ I h) fun v s1 ⟨x,H1,I1,r1,q1⟩=>?_
  obtain ⟨a,e,⟨xs,hq⟩,q⟩ := q1
  subst e
  cases r1
  obtain ⟨its,rv,p,hz⟩ := I1.list hq
  refine wpAny_pyIter_list p.isList ?_
  refine ⟨s1.heap.objs.size,[s1.heap.objs.size],_,_,H1,rfl,I1.kept (t' := s1.toks) fun b o e=>Heap.get?_push_of_some _ e,turn_list a _,⟨_,Heap.get?_push_size _ rfl,rfl,rfl⟩,fun b hb=>?_,q⟩
  have e : b = s1.heap.objs.size := by simpa using hb
  subst e
  exact I1.fpOk (Nat.le_refl _) (I1.hok.fresh (Nat.le_refl _))
theorem pi_tup {l : Expr} {tl : TE} (hl : PE X l tl) : PI X tg l (iTup X.K tl) := by
  intro pins s σ H R I h
  refine thn (hl pins s σ H _ I h) fun v s1 ⟨x,H1,I1,r1,q1⟩=>?_
  obtain ⟨a,e,⟨xs,hq⟩,q⟩ := q1
  subst e
  cases r1
  obtain ⟨its,rv,p,hz⟩ := I1.tuple hq
  refine wpAny_pyIter_tuple (show s1.heap.IsTuple a its.toArray from p) ?_
  refine ⟨s1.heap.objs.size,[s1.heap.objs.size],_,_,H1,rfl,I1.kept (t' := s1.toks) fun b o e=>Heap.get?_push_of_some _ e,turn_tuple a _,⟨_,Heap.get?_push_size _ rfl,rfl,rfl⟩,fun b hb=>?_,q⟩
  have e : b = s1.heap.objs.size := by simpa using hb
  subst e
  exact I1.fpOk (Nat.le_refl _) (I1.hok.fresh (Nat.le_refl _))
theorem range_it {pins : List (Addr × Obj)} {σ : St} {H : Hp} {s : Shared} {R : It → Hp → Prop} {E : Value → Shared → Prop} {lo hi : Int} {t u v : Tok} {tk : Nat} (I : Inv X pins σ H s) (h1 : -(2 ^ 62) ≤ lo) (h2 : lo < 2 ^ 62) (h3 : -(2 ^ 62) ≤ hi) (h4 : hi < 2 ^ 62)
    (q : R (Itr lo (hi - lo).toNat) H) : wpAny (model X.prog X.w) X.A (pyIter (.ref s.heap.objs.size)) (PIE X pins σ tg R) E { s with heap := s.heap.push { cls := .type "range",data := .fields #[.int lo t, .int hi u, .int 1 v] },toks := tk } := by
  refine wpAny_pyIter_range (IsRange.new ..) (small_one h1 h2 h3 h4) ?_
  have I1 : Inv X pins σ H { s with heap := s.heap.push { cls := .type "range",data := .fields #[.int lo t, .int hi u, .int 1 v] },toks := tk } := I.kept fun b o e=>Heap.get?_push_of_some _ e
  refine ⟨(s.heap.push { cls := .type "range",data := .fields #[.int lo t, .int hi u, .int 1 v] }).objs.size,[(s.heap.push { cls := .type "range",data := .fields #[.int lo t, .int hi u, .int 1 v] }).objs.size],_,_,H,rfl,
    I1.kept (t' := tk) fun b o e=>Heap.get?_push_of_some _ e,turn_range _ lo (hi - lo).toNat,?_,fun b hb=>?_,q⟩
  · have e1 : lo + ((0 : Nat) : Int) * 1 = lo := by simp
    have e2 : (((hi - lo).toNat : Nat) : Int) - ((0 : Nat) : Int) = Builtin.Range.rangeSize lo hi 1 := by rw [rangeSize_one]; split <;> omega
    show IsRangeIter _ _ (lo + ((0 : Nat) : Int) * 1) ((((hi - lo).toNat : Nat) : Int) - ((0 : Nat) : Int)) 1
    rw [e1,e2]
    exact Heap.get?_push_size _ rfl
  · have e : b = (s.heap.push { cls := .type "range",data := .fields #[.int lo t, .int hi u, .int 1 v] }).objs.size := by simpa using hb
    subst e
    exact I1.fpOk (Nat.le_refl _) (I1.hok.fresh (Nat.le_refl _))
def iRng1 (ta : TA) : TI := fun σ H R=>ta σ H fun vs H1=>∃ j : Int,vs = [.int j] ∧ -(2 ^ 62) ≤ j ∧ j < 2 ^ 62 ∧ R (Itr 0 j.toNat) H1
def iRng2 (ta : TA) : TI := fun σ H R=>ta σ H fun vs H1=>∃ i j : Int,vs = [.int i, .int j] ∧ (-(2 ^ 62) ≤ i ∧ i < 2 ^ 62 ∧ -(2 ^ 62) ≤ j ∧ j < 2 ^ 62) ∧ R (Itr i (j - i).toNat) H1
theorem pi_range1 {a : Expr} {ta : TA} {p pos : Pos} (hg : Gl X "range") (hm : X.mg "range" = none) (ha : PA X [a] ta) (hs : starEach [a] X.env = [(false,eval a X.env)] := by rfl) : PI X tg (.Call (.Name "range" p) [a] [] pos) (iRng1 ta) := by
  intro pins s σ H R I h
  refine Call_ (ld_blt I hg hm boot_range (PyProof.Rows.callWith_type1 (thn (ha pos pins s σ H _ I h) fun us s1 ⟨vs,H1,I1,r1,q1⟩=>?_) hs rfl))
  obtain ⟨j,e,q1,q2,q⟩ := q1
  subst e
  cases r1 with
  | cons r rr =>
    cases rr
    obtain ⟨t,rfl⟩ := r
    exact call_range_1 (range_it I1 (by omega) (by omega) q1 q2 (by simpa using q))
theorem pi_range2 {a b : Expr} {ta : TA} {p pos : Pos} (hg : Gl X "range") (hm : X.mg "range" = none) (ha : PA X [a,b] ta) (hs : starEach [a,b] X.env = [(false,eval a X.env),(false,eval b X.env)] := by rfl) (hs2 : starEach [b] X.env = [(false,eval b X.env)] := by rfl) :
    PI X tg (.Call (.Name "range" p) [a,b] [] pos) (iRng2 ta) := by
  intro pins s σ H R I h
  refine Call_ (ld_blt I hg hm boot_range (PyProof.Rows.callWith_type1 (thn (ha pos pins s σ H _ I h) fun us s1 ⟨vs,H1,I1,r1,q1⟩=>?_) (by rw [hs,hs2]) (by rw [hs2]; rfl)))
  obtain ⟨i,j,e,⟨q1,q2,q3,q4⟩,q⟩ := q1
  subst e
  cases r1 with
  | cons r rr =>
    cases rr with
    | cons r' rr =>
      cases rr
      obtain ⟨t,rfl⟩ := r
      obtain ⟨t',rfl⟩ := r'
      exact call_range_2 (range_it I1 q1 q2 q3 q4 q)
def tFor (wi : TI) (g : TG) (tb : TS) : TS := fun D σ H=>wi σ H fun J H1=>∃ W : Nat → Nat → St → Hp → Prop,(∃ m,W 0 m σ H1) ∧ ∀ i m σ H,W i m σ H →
  (J.stop i H ∧ D.nx σ H) ∨ (J.go i H ∧ ∃ N : St → Hp → Prop,(∀ σ' H',N σ' H' → ∃ m',m' < m ∧ W (i + 1) m' σ' H') ∧ ∀ x H',J.yld i H x H' → g x σ H' fun σ2 H2=>tb { D with nx := N,ct := N,bk := D.nx } σ2 H2)
def pinsAt (fp : List Addr) (h : Heap) : List (Addr × Obj) := fp.filterMap fun b=>(h.get? b).map fun o=>(b,o)
theorem mem_pinsAt {fp : List Addr} {h : Heap} {b : Addr} {o : Obj} (hb : b ∈ fp) (e : h.get? b = some o) : (b,o) ∈ pinsAt fp h := List.mem_filterMap.mpr ⟨b,hb,by rw [e]; rfl⟩
theorem of_pinsAt {fp : List Addr} {h : Heap} {p : Addr × Obj} (hp : p ∈ pinsAt fp h) : p.1 ∈ fp ∧ h.get? p.1 = some p.2 := by
  obtain ⟨b,hb,e⟩ := List.mem_filterMap.mp hp
  cases q : h.get? b with
  | none=>rw [q] at e; cases e
  | some o =>
    rw [q] at e
    have e' : (b,o) = p := Option.some.inj e
    subst e'
    exact ⟨hb,q⟩
theorem Inv.pinned {pins : List (Addr × Obj)} {σ : St} {H : Hp} {s : Shared} {fp : List Addr} (I : Inv X pins σ H s) (hf : ∀ b ∈ fp,FpOk X pins H b) (ho : ∀ b ∈ fp,∃ o,s.heap.get? b = some o ∧ ∀ v,o.data ≠ .cell v) : Inv X (pins ++ pinsAt fp s.heap) σ H s :=
  I.pins_of fun p hp=>(List.mem_append.mp hp).elim (fun z=>I.pin p (List.mem_append_right _ z)) fun z=>by
    obtain ⟨hb,e⟩ := of_pinsAt z
    obtain ⟨f0,f1,f2,_⟩ := hf p.1 hb
    obtain ⟨o,e',d⟩ := ho p.1 hb
    rw [e] at e'; cases e'
    exact ⟨e,f0,f1,f2,d⟩
theorem Inv.unpinned {pins pl : List (Addr × Obj)} {σ : St} {H : Hp} {s : Shared} (I : Inv X (pins ++ pl) σ H s) : Inv X pins σ H s := I.pins_of fun p hp=>I.pin p (List.mem_append_right _ (List.mem_append_left _ hp))
theorem ps_for {iter : Expr} {body : List Stmt} {wi : TI} {g : TG} {tb : TS} {pos : Pos} (hp : PassesOwn (model X.prog X.w) X.A X.env X.xe) (hc : X.calm = true) (hi : PI X tg iter wi) (hg : PG X tg g) (hb : PSs X body tb)
    (hs : ∀ x,foldedSetIterable iter X.env x = pure x := by intro _; rfl) : PS X (.For tg iter body [] pos) (tFor wi g tb) := by
  intro pins s σ H D I h
  refine wpAny_For (thn (hi pins s σ H _ I h) fun v s1 h1=>thn h1 fun itv s2 h2=>?_) hs
  obtain ⟨it,fp,tn,J,H2,e,I2,T,st2,f2,W,⟨m0,w0⟩,turn⟩ := h2
  subst e
  have stat : ∀ {H' : Hp},(∀ b ∈ fp,H' b = none) → ∀ b ∈ fp,FpOk X pins H' b := fun hn b hb=>⟨hn b hb,(f2 b hb).2⟩
  refine codeAny_forLoop_any (fun n s'=>∃ i σ' H',Inv X pins σ' H' s' ∧ tn i s'.heap ∧ (∀ b ∈ fp,H' b = none) ∧ W i n σ' H') ?_ m0 ⟨0,σ,H2,I2,st2,fun b hb=>(f2 b hb).1,w0⟩
  rintro n s3 ⟨i,σ3,H3,I3,st3,fr3,w3⟩
  rcases turn i n σ3 H3 w3 with ⟨stop,qn⟩ | ⟨go,N,hN,step⟩
  · refine wpAny_passesOwn hp (thn (T.done X rfl rfl rfl hc i pins s3 σ3 H3 X.xe I3 (stat fr3) st3 stop) fun r s4 ⟨hr,I4⟩=>?_)
    subst hr
    exact wpAny_execs_nil ⟨σ3,H3,I4,qn⟩
  · refine wpAny_passesOwn hp (thn (T.item X rfl rfl rfl hc i pins s3 σ3 H3 X.xe I3 (stat fr3) st3 go) fun r s4 ⟨u,hr,h4⟩=>?_)
    subst hr
    refine wpAny_passesOwn hp (thn h4 fun _ s5 ⟨x,H5,I5,r5,y5,st5,fr5⟩=>?_)
    have I5' := I5.pinned (stat fr5) (T.obj _ _ st5)
    refine wpAny_passesOwn hp (thn (hg _ s5 σ3 H5 x u _ I5' r5 (step x H5 y5)) fun _ s6 ⟨σ6,H6,I6,q6⟩=>?_)
    refine wpAny_passesOwn hp (thn (hb _ s6 σ6 H6 _ I6 q6) fun f s7 q7=>?_)
    have again : ∀ {σ7 : St} {H7 : Hp},Inv X (pins ++ pinsAt fp s5.heap) σ7 H7 s7 → N σ7 H7 → ∃ m,m < n ∧ ∃ i σ' H',Inv X pins σ' H' s7 ∧ tn i s7.heap ∧ (∀ b ∈ fp,H' b = none) ∧ W i m σ' H' := fun {σ7 H7} I7 n7=>by
      obtain ⟨m',hm,w7⟩ := hN σ7 H7 n7
      refine ⟨m',hm,i + 1,σ7,H7,I7.unpinned,T.keep _ _ _ st5 fun b hb o e=>(I7.pin (b,o) (List.mem_append_right _ (List.mem_append_right _ (mem_pinsAt hb e)))).1,fun b hb=>?_,w7⟩
      obtain ⟨o,e,d⟩ := T.obj _ _ st5 b hb
      exact (I7.pin (b,o) (List.mem_append_right _ (List.mem_append_right _ (mem_pinsAt hb e)))).2.1
    cases f with
    | next=>obtain ⟨σ7,H7,I7,n7⟩ := q7; exact again I7 n7
    | cont=>obtain ⟨σ7,H7,I7,n7⟩ := q7; exact again I7 n7
    | brk=>obtain ⟨σ7,H7,I7,q7⟩ := q7; exact ⟨σ7,H7,I7.unpinned,q7⟩
    | ret v=>obtain ⟨x7,σ7,H7,I7,r7,q7⟩ := q7; exact ⟨x7,σ7,H7,I7.unpinned,r7,q7⟩
end
theorem for_list {K : PySem.W.Frag} {a : Addr} {xs : List V} {g : TG} {tb : TS} {D : Ends} {σ : St} {H : Hp} (Pv : Nat → St → Hp → Prop) (h0 : Pv 0 σ H) (hl : ∀ i σ H,i ≤ xs.length → Pv i σ H → SqL K H a xs)
    (hs : ∀ i x σ H,xs[i]? = some x → Pv i σ H → g x σ H fun σ2 H2=>tb { D with nx := Pv (i + 1),ct := Pv (i + 1),bk := D.nx } σ2 H2) (hd : ∀ σ H,Pv xs.length σ H → D.nx σ H) :
    ∃ W : Nat → Nat → St → Hp → Prop,(∃ m,W 0 m σ H) ∧ ∀ i m σ H,W i m σ H →
      ((Itl K a).stop i H ∧ D.nx σ H) ∨ ((Itl K a).go i H ∧ ∃ N : St → Hp → Prop,(∀ σ' H',N σ' H' → ∃ m',m' < m ∧ W (i + 1) m' σ' H') ∧ ∀ x H',(Itl K a).yld i H x H' → g x σ H' fun σ2 H2=>tb { D with nx := N,ct := N,bk := D.nx } σ2 H2) := by
  refine ⟨fun i m σ H=>m = xs.length - i ∧ i ≤ xs.length ∧ Pv i σ H,⟨xs.length,by simp,Nat.zero_le _,h0⟩,?_⟩
  rintro i m σ H ⟨rfl,hi,p⟩
  have q := hl i σ H hi p
  by_cases hlt : i < xs.length
  · refine .inr ⟨⟨xs,xs[i],q,by simp [hlt]⟩,Pv (i + 1),fun σ' H' p'=>⟨xs.length - (i + 1),by omega,rfl,hlt,p'⟩,fun x H' y=>?_⟩
    obtain ⟨e,y⟩ := y
    subst e
    exact hs i x σ _ (y xs q) p
  · have e : i = xs.length := by omega
    subst e
    exact .inl ⟨⟨xs,q,Nat.le_refl _⟩,hd σ H p⟩
theorem for_tup {K : PySem.W.Frag} {a : Addr} {xs : List V} {g : TG} {tb : TS} {D : Ends} {σ : St} {H : Hp} (Pv : Nat → St → Hp → Prop) (h0 : Pv 0 σ H) (hl : ∀ i σ H,i ≤ xs.length → Pv i σ H → SqT K H a xs)
    (hs : ∀ i x σ H,xs[i]? = some x → Pv i σ H → g x σ H fun σ2 H2=>tb { D with nx := Pv (i + 1),ct := Pv (i + 1),bk := D.nx } σ2 H2) (hd : ∀ σ H,Pv xs.length σ H → D.nx σ H) :
    ∃ W : Nat → Nat → St → Hp → Prop,(∃ m,W 0 m σ H) ∧ ∀ i m σ H,W i m σ H →
      ((Itt K a).stop i H ∧ D.nx σ H) ∨ ((Itt K a).go i H ∧ ∃ N : St → Hp → Prop,(∀ σ' H',N σ' H' → ∃ m',m' < m ∧ W (i + 1) m' σ' H') ∧ ∀ x H',(Itt K a).yld i H x H' → g x σ H' fun σ2 H2=>tb { D with nx := N,ct := N,bk := D.nx } σ2 H2) := by
  refine ⟨fun i m σ H=>m = xs.length - i ∧ i ≤ xs.length ∧ Pv i σ H,⟨xs.length,by simp,Nat.zero_le _,h0⟩,?_⟩
  rintro i m σ H ⟨rfl,hi,p⟩
  have q := hl i σ H hi p
  by_cases hlt : i < xs.length
  · refine .inr ⟨⟨xs,xs[i],q,by simp [hlt]⟩,Pv (i + 1),fun σ' H' p'=>⟨xs.length - (i + 1),by omega,rfl,hlt,p'⟩,fun x H' y=>?_⟩
    obtain ⟨e,y⟩ := y
    subst e
    exact hs i x σ _ (y xs q) p
  · have e : i = xs.length := by omega
    subst e
    exact .inl ⟨⟨xs,q,Nat.le_refl _⟩,hd σ H p⟩
theorem for_range {lo : Int} {n : Nat} {g : TG} {tb : TS} {D : Ends} {σ : St} {H : Hp} (Pv : Nat → St → Hp → Prop) (h0 : Pv 0 σ H)
    (hs : ∀ i σ H,i < n → Pv i σ H → g (.int (lo + i)) σ H fun σ2 H2=>tb { D with nx := Pv (i + 1),ct := Pv (i + 1),bk := D.nx } σ2 H2) (hd : ∀ σ H,Pv n σ H → D.nx σ H) :
    ∃ W : Nat → Nat → St → Hp → Prop,(∃ m,W 0 m σ H) ∧ ∀ i m σ H,W i m σ H →
      ((Itr lo n).stop i H ∧ D.nx σ H) ∨ ((Itr lo n).go i H ∧ ∃ N : St → Hp → Prop,(∀ σ' H',N σ' H' → ∃ m',m' < m ∧ W (i + 1) m' σ' H') ∧ ∀ x H',(Itr lo n).yld i H x H' → g x σ H' fun σ2 H2=>tb { D with nx := N,ct := N,bk := D.nx } σ2 H2) := by
  refine ⟨fun i m σ H=>m = n - i ∧ i ≤ n ∧ Pv i σ H,⟨n,by simp,Nat.zero_le _,h0⟩,?_⟩
  rintro i m σ H ⟨rfl,hi,p⟩
  by_cases hlt : i < n
  · refine .inr ⟨hlt,Pv (i + 1),fun σ' H' p'=>⟨n - (i + 1),by omega,rfl,hlt,p'⟩,fun x H' y=>?_⟩
    obtain ⟨e,y⟩ := y
    subst e y
    exact hs i σ _ hlt p
  · have e : i = n := by omega
    subst e
    exact .inl ⟨Nat.le_refl _,hd σ H p⟩
end L2
namespace L2
open PySem PySem.Spec PyProof.Rows
abbrev R2 := V → V → Hp → VK → Prop
def OpR (X : Cx) (f : Value → Value → Sem Value) (r : R2) : Prop :=
  ∀ (pins : List (Addr × Obj)) (s : Shared) (σ : St) (H : Hp) (x y : V) (v u : Value) (Q : VK),Inv X pins σ H s → RelV x v → RelV y u → r x y H Q →
    wpAny (model X.prog X.w) X.A (f v u) (EP X pins σ Q) X.xe s
def UnR (X : Cx) (f : Value → Sem Value) (r : V → Hp → VK → Prop) : Prop :=
  ∀ (pins : List (Addr × Obj)) (s : Shared) (σ : St) (H : Hp) (x : V) (v : Value) (Q : VK),Inv X pins σ H s → RelV x v → r x H Q →
    wpAny (model X.prog X.w) X.A (f v) (EP X pins σ Q) X.xe s
def CallR (X : Cx) (f : Value) (r : List V → Hp → VK → Prop) : Prop :=
  ∀ (pins : List (Addr × Obj)) (s : Shared) (σ : St) (H : Hp) (xs : List V) (us : List Value) (Q : VK),Inv X pins σ H s → Vals xs us → r xs H Q →
    wpAny (model X.prog X.w) X.A (call f us) (EP X pins σ Q) X.xe s
def tOp (r : R2) (ta tb : TE) : TE := fun σ H Q=>ta σ H fun x H1=>tb σ H1 fun y H2=>r x y H2 Q
def tUn (r : V → Hp → VK → Prop) (ta : TE) : TE := fun σ H Q=>ta σ H fun x H1=>r x H1 Q
def rI (C : Int → Int → Prop) (g : Int → Int → V) : R2 := fun x y H Q=>∃ i j,x = .int i ∧ y = .int j ∧ C i j ∧ Q (g i j) H
def rI0 (g : Int → Int → V) : R2 := fun x y H Q=>∃ i j,x = .int i ∧ y = .int j ∧ Q (g i j) H
def rU (g : Int → V) : V → Hp → VK → Prop := fun x H Q=>∃ i,x = .int i ∧ Q (g i) H
section
variable {X : Cx} {a b c : Expr} {ta tb tc : TE} {pos : Pos}
theorem binT (ha : PE X a ta) (hb : PE X b tb) {pins : List (Addr × Obj)} {s : Shared} {σ : St} {H : Hp} {R : V → V → Hp → Prop} (I : Inv X pins σ H s)
    (h : ta σ H fun x H1=>tb σ H1 fun y H2=>R x y H2) {Q : Value → Shared → Prop} {f : Value → Value → Sem Value}
    (hf : ∀ v u s2 x y H2,Inv X pins σ H2 s2 → RelV x v → RelV y u → R x y H2 → wpAny (model X.prog X.w) X.A (f v u) Q X.xe s2) :
    wpAny (model X.prog X.w) X.A (eval a X.env) (fun v s₁=>wpAny (model X.prog X.w) X.A (eval b X.env) (fun u s₂=>wpAny (model X.prog X.w) X.A (f v u) Q X.xe s₂) X.xe s₁) X.xe s := by
  refine thn (ha pins s σ H _ I h) fun v s1 ⟨x,H1,I1,r1,q1⟩=>?_
  refine thn (hb pins s1 σ H1 _ I1 q1) fun u s2 ⟨y,H2,I2,r2,q2⟩=>?_
  exact hf v u s2 x y H2 I2 r1 r2 q2
theorem pe_op {op : Operator} {r : R2} (ho : OpR X (binaryOp op) r) (ha : PE X a ta) (hb : PE X b tb) : PE X (.BinOp a op b pos) (tOp r ta tb) := by
  intro pins s σ H Q I h
  exact wpAny_BinOp (binT ha hb I h fun v u s2 x y H2 I2 rx ry q=>ho pins s2 σ H2 x y v u Q I2 rx ry q)
theorem pe_un {op : UnaryOp} {r : V → Hp → VK → Prop} (ho : UnR X (unaryOp op) r) (ha : PE X a ta) : PE X (.UnaryOp op a pos) (tUn r ta) := by
  intro pins s σ H Q I h
  exact UnaryOp_ (thn (ha pins s σ H _ I h) fun v s1 ⟨x,H1,I1,r1,q1⟩=>ho pins s1 σ H1 x v Q I1 r1 q1)
theorem opI {f : Value → Value → Sem Value} {C : Int → Int → Prop} {g : Int → Int → Int}
    (rule : ∀ (i j : Int) (t u : Tok) (s : Shared) (Q : Value → Shared → Prop) (E : Value → Shared → Prop),C i j → Q (.int (g i j) s.toks) { s with toks := s.toks + 1 } → wpAny (model X.prog X.w) X.A (f (.int i t) (.int j u)) Q E s) :
    OpR X f (rI C fun i j=>.int (g i j)) := by
  intro pins s σ H x y v u Q I rx ry h
  obtain ⟨i,j,rfl,rfl,hc,q⟩ := h
  obtain ⟨t,rfl⟩ := rx
  obtain ⟨t',rfl⟩ := ry
  exact rule i j t t' s _ _ hc ⟨.int (g i j),H,I.tok _,⟨_,rfl⟩,q⟩
theorem opI0 {f : Value → Value → Sem Value} {g : Int → Int → Int}
    (rule : ∀ (i j : Int) (t u : Tok) (s : Shared) (Q : Value → Shared → Prop) (E : Value → Shared → Prop),Q (.int (g i j) s.toks) { s with toks := s.toks + 1 } → wpAny (model X.prog X.w) X.A (f (.int i t) (.int j u)) Q E s) :
    OpR X f (rI0 fun i j=>.int (g i j)) := by
  intro pins s σ H x y v u Q I rx ry h
  obtain ⟨i,j,rfl,rfl,q⟩ := h
  obtain ⟨t,rfl⟩ := rx
  obtain ⟨t',rfl⟩ := ry
  exact rule i j t t' s _ _ ⟨.int (g i j),H,I.tok _,⟨_,rfl⟩,q⟩
theorem opB0 {f : Value → Value → Sem Value} {g : Int → Int → Bool}
    (rule : ∀ (i j : Int) (t u : Tok) (s : Shared) (Q : Value → Shared → Prop) (E : Value → Shared → Prop),Q (.bool (g i j)) s → wpAny (model X.prog X.w) X.A (f (.int i t) (.int j u)) Q E s) :
    OpR X f (rI0 fun i j=>.bl (g i j)) := by
  intro pins s σ H x y v u Q I rx ry h
  obtain ⟨i,j,rfl,rfl,q⟩ := h
  obtain ⟨t,rfl⟩ := rx
  obtain ⟨t',rfl⟩ := ry
  exact rule i j t t' s _ _ ⟨.bl (g i j),H,I,rfl,q⟩
def CDiv (i j : Int) : Prop := 0 < j ∧ j < 1073741824
def CPow (i j : Int) : Prop := 0 ≤ j ∧ j ≤ 1000000 ∧ i.natAbs < 2 ^ 64
def CMul (i j : Int) : Prop := (-(2 ^ 64) < i ∧ i < 2 ^ 64) ∨ (-(2 ^ 64) < j ∧ j < 2 ^ 64)
theorem CMul.ok {i j : Int} (h : CMul i j) : IntMulOk i j := by
  rcases h with ⟨h1,h2⟩ | ⟨h1,h2⟩
  · exact .of_left (intBits_le_64 h1 h2)
  · exact .of_right (intBits_le_64 h1 h2)
theorem op_add : OpR X (binaryOp .Add) (rI0 fun i j=>.int (i + j)) := opI0 fun _ _ _ _ _ _ _ q=>add_int q
theorem op_sub : OpR X (binaryOp .Sub) (rI0 fun i j=>.int (i - j)) := opI0 fun _ _ _ _ _ _ _ q=>sub_int q
theorem op_mul : OpR X (binaryOp .Mult) (rI CMul fun i j=>.int (i * j)) := opI fun _ _ _ _ _ _ _ hc q=>mul_int q hc.ok
theorem op_fdiv : OpR X (binaryOp .FloorDiv) (rI CDiv fun i j=>.int (i / j)) := opI fun i j _ _ _ _ _ hc q=>by
  have h1 : (0 : Int) < j := hc.1
  have h2 : j < 1073741824 := hc.2
  exact floordiv_int (by omega) (by rw [Int.fdiv_eq_ediv_of_nonneg i (by omega)]; exact q) (.inl (PyProof.noPylong_small (by omega)))
theorem op_mod : OpR X (binaryOp .Mod) (rI (fun _ j=>0 < j) fun i j=>.int (i % j)) := opI fun i j _ _ _ _ _ hc q=>by
  have h1 : (0 : Int) < j := hc
  exact mod_int' (by omega) (by rw [Int.fmod_eq_emod_of_nonneg i (by omega)]; exact q)
theorem op_pow : OpR X (binaryOp .Pow) (rI CPow fun i j=>.int (i ^ j.toNat)) := opI fun _ _ _ _ _ _ _ hc q=>pow_int_small hc.1 hc.2.1 hc.2.2 q
theorem unI {f : Value → Sem Value} {g : Int → Int}
    (rule : ∀ (i : Int) (t : Tok) (s : Shared) (Q : Value → Shared → Prop) (E : Value → Shared → Prop),Q (.int (g i) s.toks) { s with toks := s.toks + 1 } → wpAny (model X.prog X.w) X.A (f (.int i t)) Q E s) :
    UnR X f (rU fun i=>.int (g i)) := by
  intro pins s σ H x v Q I rx h
  obtain ⟨i,rfl,q⟩ := h
  obtain ⟨t,rfl⟩ := rx
  exact rule i t s _ _ ⟨.int (g i),H,I.tok _,⟨_,rfl⟩,q⟩
theorem un_neg : UnR X (unaryOp .USub) (rU fun i=>.int (-i)) := unI fun _ _ _ _ _ q=>neg_int q
end
def scal : V → V → Bool
  | .non, .non=>true | .non, .int _=>true | .int _, .non=>true | .non, .bl _=>true | .bl _, .non=>true | .non, .str _=>true | .str _, .non=>true
  | .int _, .int _=>true | .bl _, .bl _=>true | .str _, .str _=>true | .byt _, .byt _=>true
  | .int _, .str _=>true | .str _, .int _=>true | .bl _, .str _=>true | .str _, .bl _=>true
  | _,_=>false
def rEq : R2 := fun x y H Q=>scal x y = true ∧ Q (.bl (decide (x = y))) H
def rNe : R2 := fun x y H Q=>scal x y = true ∧ Q (.bl (!decide (x = y))) H
theorem dec_int {i j : Int} : decide (V.int i = V.int j) = (i == j) := by
  rw [Bool.eq_iff_iff]
  simp
theorem dec_bl {i j : Bool} : decide (V.bl i = V.bl j) = (i == j) := by
  rw [Bool.eq_iff_iff]
  simp
theorem dec_str {i j : Str} : decide (V.str i = V.str j) = (i == j) := by
  rw [Bool.eq_iff_iff]
  simp
theorem dec_byt {i j : Array UInt8} : decide (V.byt i = V.byt j) = (i.toList == j.toList) := by
  rw [Bool.eq_iff_iff]
  cases i
  cases j
  simp
section
variable {X : Cx} {a b c : Expr} {ta tb tc : TE} {pos : Pos}
theorem fin_bl {pins : List (Addr × Obj)} {σ : St} {H : Hp} {s : Shared} {Q : VK} {k k' : Bool} (I : Inv X pins σ H s) (q : Q (.bl k) H) (e : k = k') : EP X pins σ Q (.bool k') s := by
  subst e
  exact ⟨.bl k,H,I,rfl,q⟩
theorem op_eq : OpR X (compareOp .Eq) rEq := by
  intro pins s σ H x y v u Q I rx ry h
  obtain ⟨hs,q⟩ := h
  cases x with
  | non =>
    cases rx
    cases y with
    | non=>cases ry; exact PySem.EqNone.eq_none_none (fin_bl I q (by simp))
    | bl j=>cases ry; exact PySem.EqNone.eq_none_bool (fin_bl I q (by simp))
    | int j=>obtain ⟨t',rfl⟩ := ry; exact PySem.EqNone.eq_none_int (fin_bl I q (by simp))
    | str j=>obtain ⟨t',rfl⟩ := ry; exact PySem.EqNone.eq_none_str (fin_bl I q (by simp))
    | _=>exact absurd (show false = true from hs) Bool.false_ne_true
  | bl i =>
    cases rx
    cases y with
    | non=>cases ry; exact PySem.EqNone.eq_bool_none (fin_bl I q (by simp))
    | bl j=>cases ry; exact eq_bool (fin_bl I q dec_bl)
    | str j=>obtain ⟨t',rfl⟩ := ry; exact PySem.EqMixed.eq_bool_str (fin_bl I q (by simp))
    | _=>exact absurd (show false = true from hs) Bool.false_ne_true
  | int i =>
    obtain ⟨t,rfl⟩ := rx
    cases y with
    | non=>cases ry; exact PySem.EqNone.eq_int_none (fin_bl I q (by simp))
    | int j=>obtain ⟨t',rfl⟩ := ry; exact eq_int (fin_bl I q dec_int)
    | str j=>obtain ⟨t',rfl⟩ := ry; exact PySem.EqMixed.eq_int_str (fin_bl I q (by simp))
    | _=>exact absurd (show false = true from hs) Bool.false_ne_true
  | str i =>
    obtain ⟨t,rfl⟩ := rx
    cases y with
    | non=>cases ry; exact PySem.EqNone.eq_str_none (fin_bl I q (by simp))
    | bl j=>cases ry; exact PySem.EqMixed.eq_str_bool (fin_bl I q (by simp))
    | int j=>obtain ⟨t',rfl⟩ := ry; exact PySem.EqMixed.eq_str_int (fin_bl I q (by simp))
    | str j=>obtain ⟨t',rfl⟩ := ry; exact eq_str (fin_bl I q dec_str)
    | _=>exact absurd (show false = true from hs) Bool.false_ne_true
  | byt i =>
    obtain ⟨t,rfl⟩ := rx
    cases y with
    | byt j=>obtain ⟨t',rfl⟩ := ry; exact PySem.W.eq_bytes (fin_bl I q dec_byt)
    | _=>exact absurd (show false = true from hs) Bool.false_ne_true
  | _=>cases y <;> exact absurd (show false = true from hs) Bool.false_ne_true
theorem op_ne : OpR X (compareOp .NotEq) rNe := by
  intro pins s σ H x y v u Q I rx ry h
  obtain ⟨hs,q⟩ := h
  cases x with
  | non =>
    cases rx
    cases y with
    | non=>cases ry; exact PySem.EqNone.ne_none_none (fin_bl I q (by simp))
    | bl j=>cases ry; exact PySem.EqNone.ne_none_bool (fin_bl I q (by simp))
    | int j=>obtain ⟨t',rfl⟩ := ry; exact PySem.EqNone.ne_none_int (fin_bl I q (by simp))
    | str j=>obtain ⟨t',rfl⟩ := ry; exact PySem.EqNone.ne_none_str (fin_bl I q (by simp))
    | _=>exact absurd (show false = true from hs) Bool.false_ne_true
  | bl i =>
    cases rx
    cases y with
    | non=>cases ry; exact PySem.EqNone.ne_bool_none (fin_bl I q (by simp))
    | bl j=>cases ry; exact ne_bool (fin_bl I q (congrArg not dec_bl))
    | str j=>obtain ⟨t',rfl⟩ := ry; exact PySem.EqMixed.ne_bool_str (fin_bl I q (by simp))
    | _=>exact absurd (show false = true from hs) Bool.false_ne_true
  | int i =>
    obtain ⟨t,rfl⟩ := rx
    cases y with
    | non=>cases ry; exact PySem.EqNone.ne_int_none (fin_bl I q (by simp))
    | int j=>obtain ⟨t',rfl⟩ := ry; exact ne_int (fin_bl I q (congrArg not dec_int))
    | str j=>obtain ⟨t',rfl⟩ := ry; exact PySem.EqMixed.ne_int_str (fin_bl I q (by simp))
    | _=>exact absurd (show false = true from hs) Bool.false_ne_true
  | str i =>
    obtain ⟨t,rfl⟩ := rx
    cases y with
    | non=>cases ry; exact PySem.EqNone.ne_str_none (fin_bl I q (by simp))
    | bl j=>cases ry; exact PySem.EqMixed.ne_str_bool (fin_bl I q (by simp))
    | int j=>obtain ⟨t',rfl⟩ := ry; exact PySem.EqMixed.ne_str_int (fin_bl I q (by simp))
    | str j=>obtain ⟨t',rfl⟩ := ry; exact ne_str (fin_bl I q (congrArg not dec_str))
    | _=>exact absurd (show false = true from hs) Bool.false_ne_true
  | byt i =>
    obtain ⟨t,rfl⟩ := rx
    cases y with
    | byt j=>obtain ⟨t',rfl⟩ := ry; exact PySem.W.ne_bytes (fin_bl I q (congrArg not dec_byt))
    | _=>exact absurd (show false = true from hs) Bool.false_ne_true
  | _=>cases y <;> exact absurd (show false = true from hs) Bool.false_ne_true
theorem op_lt : OpR X (compareOp .Lt) (rI0 fun i j=>.bl (decide (i < j))) := opB0 fun _ _ _ _ _ _ _ q=>lt_int q
theorem op_le : OpR X (compareOp .LtE) (rI0 fun i j=>.bl (decide (i ≤ j))) := opB0 fun _ _ _ _ _ _ _ q=>le_int q
theorem op_gt : OpR X (compareOp .Gt) (rI0 fun i j=>.bl (decide (j < i))) := opB0 fun _ _ _ _ _ _ _ q=>gt_int q
theorem nomark (b : Expr) {op : CmpOp} (h : op ≠ .In := by decide) (h2 : op ≠ .NotIn := by decide) : behindInMarks op b = false := by
  have e1 : (op == CmpOp.In) = false := by cases op <;> first | rfl | exact absurd rfl h
  have e2 : (op == CmpOp.NotIn) = false := by cases op <;> first | rfl | exact absurd rfl h2
  cases b <;> simp [behindInMarks,e1,e2]
theorem pe_cmpR {op : CmpOp} {r : R2} (ho : OpR X (compareOp op) r) (ha : PE X a ta) (hb : PE X b tb) (hm : behindInMarks op b = false) : PE X (.Compare a [op] [b] pos) (tOp r ta tb) := by
  intro pins s σ H Q I h
  exact wpAny_Compare1 (binT ha hb I h fun v u s2 x y H2 I2 rx ry q=>ho pins s2 σ H2 x y v u Q I2 rx ry q) hm
def tTest (t : TE) : TT := fun σ H Q=>t σ H fun x H'=>∃ k,x = .bl k ∧ Q k H'
theorem pt_cmpR {op : CmpOp} {r : R2} (ho : OpR X (compareOp op) r) (ha : PE X a ta) (hb : PE X b tb) (hm : behindInMarks op b = false) : PT X (.Compare a [op] [b] pos) (tTest (tOp r ta tb)) := by
  intro pins s σ H Q I h
  refine wpAny_isTrue_Compare1 (thn (ha pins s σ H _ I h) fun v s1 ⟨x,H1,I1,r1,q1⟩=>thn (hb pins s1 σ H1 _ I1 q1) fun u s2 ⟨y,H2,I2,r2,q2⟩ =>
    thn (ho pins s2 σ H2 x y v u _ I2 r1 r2 q2) fun c s3 ⟨z,H3,I3,r3,k,e,q3⟩=>?_) hm
  subst e
  cases r3
  exact wpAny_truthy_bool ⟨H3,I3,q3⟩
def tChain (r r' : R2) (ta tb tc : TE) : TE := fun σ H Q=>ta σ H fun x H1=>tb σ H1 fun y H2=>r x y H2 fun z H3=>∃ k,z = .bl k ∧
  (if k = true then tc σ H3 fun w' H4=>r' y w' H4 Q else Q (.bl false) H3)
theorem pe_chain {op op' : CmpOp} {r r' : R2} (ho : OpR X (compareOp op) r) (ho' : OpR X (compareOp op') r') (ha : PE X a ta) (hb : PE X b tb) (hc : PE X c tc)
    (hm : lastMarks [op,op'] [b,c] = false := by with_unfolding_all rfl) : PE X (.Compare a [op,op'] [b,c] pos) (tChain r r' ta tb tc) := by
  intro pins s σ H Q I h
  refine Compare_chain (thn (ha pins s σ H _ I h) fun v s1 ⟨x,H1,I1,r1,q1⟩=>chain_link (thn (hb pins s1 σ H1 _ I1 q1) fun u s2 ⟨y,H2,I2,r2,q2⟩ =>
    thn (ho pins s2 σ H2 x y v u _ I2 r1 r2 q2) fun d s3 ⟨z,H3,I3,r3,k,e,q3⟩=>?_)) hm
  subst e
  cases r3
  refine wpAny_truthy_bool ?_
  cases k with
  | false=>exact ite_ff ⟨.bl false,H3,I3,rfl,q3⟩
  | true=>exact ite_tt (chain_last (thn (hc pins s3 σ H3 _ I3 q3) fun w' s4 ⟨z',H4,I4,r4,q4⟩=>ho' pins s4 σ H4 y z' u w' Q I4 r2 r4 q4))
theorem line63 : (sizeLine : Nat) < 2 ^ 63 := by rw [sizeLine_eq]; decide
theorem op_add_str : OpR X (binaryOp .Add) (fun x y H Q=>∃ i j,x = .str i ∧ y = .str j ∧ i.length + j.length ≤ sizeLine ∧ Q (.str (i ++ j)) H) := by
  intro pins s σ H x y v u Q I rx ry h
  obtain ⟨i,j,rfl,rfl,hz,q⟩ := h
  obtain ⟨t,rfl⟩ := rx
  obtain ⟨t',rfl⟩ := ry
  exact add_str (fun t' tk=>⟨.str (i ++ j),H,I.tok _,⟨_,rfl⟩,q⟩) hz
theorem vals1 {x : V} {us : List Value} (r : Vals [x] us) : ∃ u,us = [u] ∧ RelV x u := by
  cases r with
  | cons r1 r2=>cases r2; exact ⟨_,rfl,r1⟩
theorem vals2 {x y : V} {us : List Value} (r : Vals [x,y] us) : ∃ u w',us = [u,w'] ∧ RelV x u ∧ RelV y w' := by
  cases r with
  | cons r1 r2 =>
    cases r2 with
    | cons r3 r4=>cases r4; exact ⟨_,_,rfl,r1,r3⟩
theorem call_int1 : CallR X (.type "int") (fun xs H Q=>(∃ i,xs = [.int i] ∧ Q (.int i) H) ∨ ∃ k,xs = [.bl k] ∧ Q (.int (if k then 1 else 0)) H) := by
  intro pins s σ H xs us Q I r h
  rcases h with ⟨i,rfl,q⟩ | ⟨k,rfl,q⟩
  · obtain ⟨u,rfl,t,rfl⟩ := vals1 r
    exact call_int_int ⟨.int i,H,I,⟨_,rfl⟩,q⟩
  · obtain ⟨u,rfl,r1⟩ := vals1 r
    cases r1
    exact call_int_bool ⟨.int (if k then 1 else 0),H,I.tok _,⟨_,rfl⟩,q⟩
theorem call_str_int : CallR X (.type "str") (fun xs H Q=>∃ i,xs = [.int i] ∧ i.natAbs.log2 < 1920 ∧ Q (.str (toString i)) H) := by
  intro pins s σ H xs us Q I r h
  obtain ⟨i,rfl,hz,q⟩ := h
  obtain ⟨u,rfl,t,rfl⟩ := vals1 r
  exact PySem.P.str_of_int hz ⟨.str _,H,I.tok _,⟨_,rfl⟩,q⟩
end
end L2
namespace L2
open PySem PySem.Spec PyProof.Rows
structure ObjM (h : Heap) (x dx C : Addr) (mA : Str → Option Value) : Prop where
  obj : h.get? x = some (PySem.W.instObj C dx)
  ns : h.Ns1 dx mA
  ne : dx ≠ x
theorem lookIn_ns {h : Heap} {dx : Addr} {mA : Str → Option Value} (n : h.Ns1 dx mA) : ∃ od,h.get? dx = some od ∧ ∀ name,PySem.W.lookIn name od = some (mA name) := by
  obtain ⟨o,es,ep,ho,hd,hk,_,hm⟩ := n
  refine ⟨o,ho,fun name=>?_⟩
  have e := hm name
  unfold nsFind findBy at e
  rw [← Array.find?_toList] at e
  unfold PySem.W.lookIn
  rw [hd]
  dsimp only
  split
  · rename_i y q
    rw [q] at e
    exact congrArg some e
  · rename_i q
    rw [q] at e
    have a : es.toList.any (·.refKey) = false := by
      rw [List.any_eq_false]
      intro y hy
      obtain ⟨z,t,hkey⟩ := hk y (Array.mem_toList_iff.mp hy)
      simp [DictEntry.refKey,hkey]
    have a' : ¬ es.toList.any (·.refKey) = true := by rw [a]; exact Bool.false_ne_true
    rw [if_neg a']
    exact congrArg some e
theorem ObjM.look {h : Heap} {x dx C : Addr} {mA : Str → Option Value} (I : ObjM h x dx C mA) : ∃ od,PySem.W.InstAt h x (PySem.W.instObj C dx) C (some od) ∧ ∀ name,PySem.W.lookIn name od = some (mA name) :=
  let ⟨od,ho,hl⟩ := lookIn_ns I.ns
  ⟨od,⟨I.obj,rfl,rfl,ho⟩,hl⟩
section
variable {prog : Program} {w : World} {A : Around} {E : Value → Shared → Prop} {s : Shared} {K : PySem.W.Frag} {x dx C f : Addr} {mA : Str → Option Value} {name : Str} {v : Value}
theorem get_map {expr : Bool} {Q : Value → Shared → Prop} (X : K.In s.heap) (I : ObjM s.heap x dx C mA) (hg : PySem.W.plainGet K C name = true) (hh : PySem.W.hasDictIn K C = true)
    (ha : PySem.W.findIn K (.ref C) name = some none) (hv : mA name = some v) (hv' : PySem.W.handedIn v = true) (h : Q v { s with toks := s.toks + 1 }) :
    wpAny (model prog w) A (getAttr (.ref x) name expr) Q E s := by
  obtain ⟨od,J,hl⟩ := I.look
  exact PySem.W.get_value X J (PySem.W.plainGet_of hg).1 (PySem.W.findObj_own hh ha rfl (by rw [hl,hv])) hv' h
theorem get_meth {pl : Sem Bool} {Q : Value × List Value → Shared → Prop} (X : K.In s.heap) (I : ObjM s.heap x dx C mA) (hg : PySem.W.plainGet K C name = true)
    (hf : PySem.W.findIn K (.ref C) name = some (some (.ref f))) (ht : PySem.W.isFn K (.ref f) = true) (hv : mA name = none) (h : Q (.ref f,[.ref x]) s) :
    wpAny (model prog w) A (getMethod (.ref x) name pl) Q E s := by
  obtain ⟨od,J,hl⟩ := I.look
  exact PySem.W.method_fn X J (PySem.W.plainGet_of hg).1 (PySem.W.plainGet_of hg).2 hf (beq_iff_eq.mp ht) (by show (PySem.W.lookIn name od).map (·.isSome) = some false; rw [hl,hv]; rfl) h
theorem set_map {ns : List Str} {Q : Unit → Shared → Prop} (X : K.In s.heap) (I : ObjM s.heap x dx C mA)
    (hs : PySem.W.findIn K (.ref C) "__setattr__" = some (some (.builtin "object.__setattr__"))) (hp : PySem.W.plainOver K C = true) (ht : PySem.W.takerIn K C name = some none) (hh : PySem.W.hasDictIn K C = true)
    (hw : PySem.Within mA ns) (hsz : ns.length ≤ sizeLine)
    (h : ∀ h',ObjM h' x dx C (fun y=>if y = name then some v else mA y) → Heap.SameBut dx s.heap h' → Q () { s with heap := h',toks := s.toks + 2 }) :
    wpAny (model prog w) A (setAttr (.ref x) name v) Q E s := by
  obtain ⟨od,J,hl⟩ := I.look
  refine PySem.W.set_plain X J hs (PySem.W.osa_open (s := { s with toks := s.toks + 1 }) (r := none) X J hp ht fun b=>?_)
  obtain ⟨cd,hc,hd'⟩ := PySem.W.any_some hh
  have hx : s.heap.get? x = some ⟨.ref C,some dx, .plain,#[]⟩ := I.obj
  refine wpAny_bind (wpAny_pure (wpAny_bind (wpAny_bind (wpAny_loadPart hx (wpAny_bind (PySem.W.Looks.here (s := { s with toks := s.toks + 1 }) (PySem.W.looks_clsIn X hc) ?_))))))
  rw [hd']
  refine wpAny_pure (a := some dx) (wpAny_bind (wpAny_pure (wpAny_bind ?_)))
  refine wpAny_nsSet1 (s := { s with toks := s.toks + 1 }) I.ns fun h' hn2 hs2=>?_
  obtain ⟨oD,esD,epD,hoD,hdD,hcD⟩ := hn2.count (PySem.Within.cons name v hw)
  refine wpAny_bind (wpAny_lookBehind hoD (by rw [hdD]; exact pastItsLine_dict (Nat.le_trans hcD (by rw [List.length_cons]; omega))) ?_)
  exact wpAny_pure (h _ ⟨(hs2.2 _ (Ne.symm I.ne)).trans I.obj,hn2,I.ne⟩ hs2)
theorem make_map {R : Result → Shared → Prop} {vs : List Value} {kw : List (Str × Value)} (X : K.In s.heap) (hm : PySem.W.makesIn K C = true)
    (hi : PySem.W.findIn K (.ref C) "__init__" = some (some (.ref f))) (hf : PySem.W.typeIn K (.ref f) = some (.type "function"))
    (h : codeAny (model prog w) (A.under (.builtin "type.__call__" ⟨.ref C :: vs,kw⟩)) (.call (.ref f) ⟨.ref (s.heap.objs.size + 1) :: vs,kw⟩) (PySem.W.InitBack (s.heap.objs.size + 1) R)
      { s with heap := (s.heap.push PySem.W.emptyDict).push (PySem.W.instObj C s.heap.objs.size) }) :
    codeAny (model prog w) A (.call (.ref C) ⟨vs,kw⟩) R s := by
  obtain ⟨hh,g,d,t,os⟩ := s
  exact PySem.W.make_core (PySem.W.makes_of X hm) (PySem.W.looks_findIn X hi) (fun self=>PySem.W.bind_fn X self hf) (.inl rfl) h
end
def putF (f : Str) (v : V) : List (Str × V) → List (Str × V)
  | []=>[(f,v)]
  | (g,x) :: r=>if g = f then (g,v) :: r else (g,x) :: putF f v r
theorem lookup_putF (f g : Str) (v : V) : ∀ fs : List (Str × V),(putF f v fs).lookup g = if g = f then some v else fs.lookup g
  | []=>by
    show List.lookup g [(f,v)] = _
    by_cases h : g = f
    · have hb : (g == f) = true := beq_iff_eq.mpr h
      simp only [List.lookup,hb,if_pos h]
    · have hb : (g == f) = false := beq_eq_false_iff_ne.mpr h
      simp only [List.lookup,hb,if_neg h]
  | (k,x) :: r=>by
    have ih := lookup_putF f g v r
    rw [show putF f v ((k,x) :: r) = (if k = f then (k,v) :: r else (k,x) :: putF f v r) from rfl]
    by_cases hk : k = f
    · rw [if_pos hk]
      by_cases h : g = k
      · have hb : (g == k) = true := beq_iff_eq.mpr h
        simp only [List.lookup,hb,if_pos (h.trans hk)]
      · have hb : (g == k) = false := beq_eq_false_iff_ne.mpr h
        simp only [List.lookup,hb,if_neg (fun e : g = f=>h (e.trans hk.symm))]
    · rw [if_neg hk]
      by_cases h : g = k
      · have hb : (g == k) = true := beq_iff_eq.mpr h
        simp only [List.lookup,hb,if_neg (fun e : g = f=>hk (h.symm.trans e))]
      · have hb : (g == k) = false := beq_eq_false_iff_ne.mpr h
        simp only [List.lookup,hb]
        exact ih
theorem keys_putF (f : Str) (v : V) : ∀ fs : List (Str × V),f ∈ (putF f v fs).map (·.1) ∧ ∀ g,g ∈ fs.map (·.1) → g ∈ (putF f v fs).map (·.1)
  | []=>⟨by simp [putF],fun g h=>by simp at h⟩
  | (k,x) :: r=>by
    obtain ⟨i1,i2⟩ := keys_putF f v r
    rw [show putF f v ((k,x) :: r) = (if k = f then (k,v) :: r else (k,x) :: putF f v r) from rfl]
    by_cases hk : k = f
    · rw [if_pos hk]
      subst hk
      exact ⟨by simp,fun g h=>by simpa using h⟩
    · rw [if_neg hk]
      refine ⟨?_,fun g h=>?_⟩
      · rw [List.map_cons]
        exact List.mem_cons_of_mem _ i1
      · rw [List.map_cons] at h ⊢
        rcases List.mem_cons.mp h with e | e
        · exact List.mem_cons.mpr (.inl e)
        · exact List.mem_cons_of_mem _ (i2 g e)
theorem length_putF (f : Str) (v : V) : ∀ fs : List (Str × V),(putF f v fs).length ≤ fs.length + 1
  | []=>by simp [putF]
  | (k,x) :: r=>by
    have ih := length_putF f v r
    rw [show putF f v ((k,x) :: r) = (if k = f then (k,v) :: r else (k,x) :: putF f v r) from rfl]
    by_cases hk : k = f
    · rw [if_pos hk,List.length_cons,List.length_cons]; omega
    · rw [if_neg hk,List.length_cons,List.length_cons]; omega
theorem RelO.some_of {v : V} {o : Option Value} (r : RelO (some v) o) : ∃ u,o = some u ∧ RelV v u := by
  cases o with
  | none=>exact (show False from r).elim
  | some u=>exact ⟨u,rfl,r⟩
theorem RelO.none_of {o : Option Value} (r : RelO none o) : o = none := by
  cases o with
  | none=>rfl
  | some u=>exact (show False from r).elim
theorem handed_of {v : V} {u : Value} (r : RelV v u) : PySem.W.handedIn u = true := by
  cases v with
  | non=>cases (show u = Value.none from r); rfl
  | bl b=>cases (show u = Value.bool b from r); rfl
  | int i=>obtain ⟨t,e⟩ := (show ∃ t,u = Value.int i t from r); cases e; rfl
  | str x=>obtain ⟨t,e⟩ := (show ∃ t,u = Value.str x t from r); cases e; rfl
  | byt b=>obtain ⟨t,e⟩ := (show ∃ t,u = Value.bytes b t from r); cases e; rfl
  | flt b=>obtain ⟨t,e⟩ := (show ∃ t,u = Value.float b t from r); cases e; rfl
  | ref a=>cases (show u = Value.ref a from r); rfl
  | ty n=>cases (show u = Value.type n from r); rfl
section
variable {P : Program} {w : World} {H H' : Hp} {h h' : Heap} {a C dx : Addr} {fs fs' : List (Str × V)}
theorem ins_get (hok : HOk P w H h) (e : H a = some (.ins C dx fs)) : ∃ mA,ObjM h a dx C mA ∧ (∀ f,RelO (fs.lookup f) (mA f)) ∧ PySem.Within mA (fs.map (·.1)) ∧ fs.length ≤ 1000 ∧ H dx = some (.own a) := by
  obtain ⟨d,z,ne,ob,mA,n,r,q⟩ := (show ObjOk P w H h a (.ins C dx fs) from hok a _ e)
  exact ⟨mA,⟨ob,n,ne⟩,r,q,z,d⟩
end
structure Cls (K : PySem.W.Frag) (C : Addr) : Prop where
  pg : PySem.W.plainGet K C Str.empty = true
  hd : PySem.W.hasDictIn K C = true
  po : PySem.W.plainOver K C = true
  sa : PySem.W.findIn K (.ref C) "__setattr__" = some (some (.builtin "object.__setattr__"))
theorem Cls.get {K : PySem.W.Frag} {C : Addr} (c : Cls K C) (f : Str) : PySem.W.plainGet K C f = true := c.pg
def NoAttr (K : PySem.W.Frag) (C : Addr) (f : Str) : Prop := PySem.W.findIn K (.ref C) f = some none
theorem NoAttr.taker {K : PySem.W.Frag} {C : Addr} {f : Str} (n : NoAttr K C f) : PySem.W.takerIn K C f = some none := by
  unfold PySem.W.takerIn
  rw [show PySem.W.findIn K (.ref C) f = some none from n]
  rfl
structure Meth (K : PySem.W.Frag) (C : Addr) (m : Str) (f : Addr) : Prop where
  at_ : PySem.W.findIn K (.ref C) m = some (some (.ref f))
  fn : PySem.W.isFn K (.ref f) = true
  kp : PySem.W.keepIn K (.ref f) = true
section
variable {X : Cx} {pins : List (Addr × Obj)} {σ : St} {H : Hp} {s : Shared} {a C dx : Addr} {fs : List (Str × V)} {f : Str} {v : V} {A : Around} {E : Value → Shared → Prop}
theorem getattr_ok {b : Bool} {Q : Value → Shared → Prop} (I : Inv X pins σ H s) (e : H a = some (.ins C dx fs)) (c : Cls X.K C) (n : NoAttr X.K C f) (l : fs.lookup f = some v)
    (h : ∀ u s',Inv X pins σ H s' → RelV v u → Q u s') : wpAny (model X.prog X.w) A (getAttr (.ref a) f b) Q E s := by
  obtain ⟨mA,O,r,_,_,_⟩ := ins_get I.hok e
  obtain ⟨u,hu,ru⟩ := RelO.some_of (v := v) (o := mA f) (by rw [← l]; exact r f)
  exact get_map I.kIn O (c.get f) c.hd n hu (handed_of ru) (h u _ (I.tok _) ru)
theorem getmeth_ok {m : Str} {g : Addr} {pl : Sem Bool} {Q : Value × List Value → Shared → Prop} (I : Inv X pins σ H s) (e : H a = some (.ins C dx fs)) (c : Cls X.K C) (k : Meth X.K C m g) (l : fs.lookup m = none)
    (h : Q (.ref g,[.ref a]) s) : wpAny (model X.prog X.w) A (getMethod (.ref a) m pl) Q E s := by
  obtain ⟨mA,O,r,_,_,_⟩ := ins_get I.hok e
  have hn : mA m = none := RelO.none_of (by rw [← l]; exact r m)
  exact get_meth I.kIn O (c.get m) k.at_ k.fn hn h
theorem setattr_ok {y : V} {u : Value} {Q : Unit → Shared → Prop} (I : Inv X pins σ H s) (e : H a = some (.ins C dx fs)) (c : Cls X.K C) (n : NoAttr X.K C f) (hl : fs.length < 1000) (ry : RelV y u)
    (h : ∀ s',Inv X pins σ (upd H a (.ins C dx (putF f y fs))) s' → Q () s') : wpAny (model X.prog X.w) A (setAttr (.ref a) f u) Q E s := by
  obtain ⟨mA,O,r,wi,_,ho⟩ := ins_get I.hok e
  have hz : (fs.map (·.1)).length ≤ sizeLine := by rw [List.length_map,sizeLine_eq]; omega
  refine set_map I.kIn O c.sa c.po n.taker c.hd wi hz fun h' O' sb=>h _ ?_
  have hd : ∃ o,h'.get? dx = some o := let ⟨o,_,_,e',_⟩ := O'.ns; ⟨o,e'⟩
  refine I.write (x := a) (e := dx) (by rw [e]; exact True.intro) (.inr ho) (fun b q hb z=>(sb.2 b hb).trans z) hd ?_
  refine ⟨by rw [upd_ne O.ne]; exact ho,?_,O.ne,O'.obj,_,O'.ns,fun g=>?_,fun g hg=>?_⟩
  · have := length_putF f y fs; omega
  · show RelO ((putF f y fs).lookup g) (if g = f then some u else mA g)
    rw [lookup_putF]
    by_cases q : g = f
    · rw [if_pos q,if_pos q]; exact ry
    · rw [if_neg q,if_neg q]; exact r g
  · by_cases q : g = f
    · rw [q]; exact (keys_putF f y fs).1
    · refine (keys_putF f y fs).2 g (wi g fun z=>hg ?_)
      show (if g = f then some u else mA g) = none
      rw [if_neg q]; exact z
theorem Inv.made (I : Inv X pins σ H s) : Inv X pins σ (upd (upd H s.heap.objs.size (.own (s.heap.objs.size + 1))) (s.heap.objs.size + 1) (.ins C s.heap.objs.size []))
    { s with heap := (s.heap.push PySem.W.emptyDict).push (PySem.W.instObj C s.heap.objs.size) } := by
  have e1 : (s.heap.push PySem.W.emptyDict).get? s.heap.objs.size = some PySem.W.emptyDict := Heap.get?_push_size s.heap rfl
  have e2 : ((s.heap.push PySem.W.emptyDict).push (PySem.W.instObj C s.heap.objs.size)).get? (s.heap.objs.size + 1) = some (PySem.W.instObj C s.heap.objs.size) := by
    have := Heap.get?_push_size (s.heap.push PySem.W.emptyDict) (o := PySem.W.instObj C s.heap.objs.size) rfl
    rwa [Heap.size_push] at this
  have e3 : (s.heap.push PySem.W.emptyDict).Ns s.heap.objs.size (fun _=>none) := ⟨PySem.W.emptyDict,#[],_,e1,rfl,(fun e he=>absurd he (by simp)),fun _=>rfl⟩
  have I1 := I.laid (a := s.heap.objs.size) (o := .own (s.heap.objs.size + 1)) (h' := s.heap.push PySem.W.emptyDict) (t' := s.toks) (fun b u q=>Heap.get?_push_of_some _ q) (Nat.le_refl _) ⟨_,e1⟩
  refine I1.laid (a := s.heap.objs.size + 1) (o := .ins C s.heap.objs.size []) (t' := s.toks) (fun b u q=>Heap.get?_push_of_some _ q) (Nat.le_of_eq (Heap.size_push _ _)) ?_
  have ne : s.heap.objs.size ≠ s.heap.objs.size + 1 := Nat.ne_of_lt (Nat.lt_succ_self _)
  refine ⟨by rw [upd_ne ne,upd_same],Nat.zero_le _,ne,e2,fun _=>none,(Heap.Ns1.of_empty e3).at fun o q=>Heap.get?_push_of_some _ q,fun _=>True.intro,fun y hy=>absurd rfl hy⟩
theorem attr_of {prog : Program} {w : World} {env : Env} {e : Expr} {f : Str} {pos : Pos} {s : Shared} {Q : Value → Shared → Prop} (hb : attributeBase e f env (eval e env) = eval e env)
    (h : wpAny (model prog w) A (eval e env) (fun o s₁=>wpAny (model prog w) A (getAttr o f true) Q E s₁) E s) : wpAny (model prog w) A (eval (.Attribute e f pos) env) Q E s :=
  Attribute_any_ h (by rw [arm_eval_Attribute,hb])
end
def tFld (K : PySem.W.Frag) (ta : TE) (f : Str) : TE := fun σ H Q=>ta σ H fun x H1=>∃ a C dx fs v,x = .ref a ∧ H1 a = some (.ins C dx fs) ∧ Cls K C ∧ NoAttr K C f ∧ fs.lookup f = some v ∧ Q v H1
def sFld (K : PySem.W.Frag) (ta tv : TE) (f : Str) : TS := fun D σ H=>tv σ H fun y H1=>ta σ H1 fun x H2=>∃ a C dx fs,x = .ref a ∧ H2 a = some (.ins C dx fs) ∧ Cls K C ∧ NoAttr K C f ∧ fs.length < 1000 ∧
  D.nx σ (upd H2 a (.ins C dx (putF f y fs)))
section
variable {X : Cx} {o e value : Expr} {f : Str} {pos pos' tpos : Pos} {ta tv : TE}
theorem pe_fld (he : PE X e ta) (hb : attributeBase e f X.env (eval e X.env) = eval e X.env) : PE X (.Attribute e f pos) (tFld X.K ta f) := by
  intro pins s σ H Q I h
  refine attr_of hb (thn (he pins s σ H _ I h) fun u s1 ⟨x,H1,I1,rx,a,C,dx,fs,v,ex,ea,c,n,l,q⟩=>?_)
  subst ex
  obtain rfl : u = Value.ref a := rx
  exact getattr_ok I1 ea c n l fun u' s2 I2 ru=>⟨v,H1,I2,ru,q⟩
theorem ps_fld (ha : PE X o ta) (hv : PE X value tv) (hs : swapsWith value (some (.Attribute o f pos')) pos.line X.env = pure false) : PS X (.Assign [.Attribute o f pos'] value pos) (sFld X.K ta tv f) := by
  intro pins s σ H D I h
  refine plainObj_wpAny_Assign_Attribute (thn (hv pins s σ H _ I h) fun u s1 ⟨y,H1,I1,ry,q⟩=>thn (ha pins s1 σ H1 _ I1 q) fun ov s2 ⟨x,H2,I2,rx,a,C,dx,fs,ex,ea,c,n,l,q2⟩=>?_) hs
  subst ex
  obtain rfl : ov = Value.ref a := rx
  exact setattr_ok I2 ea c n l ry fun s3 I3=>⟨σ,_,I3,q2⟩
end
section
variable {X : Cx} {pins : List (Addr × Obj)} {σ : St} {H : Hp} {s : Shared} {A : Around} {E : Value → Shared → Prop} {Q : Value → Shared → Prop} {c : Value} {b : Bool}
inductive TyOf (K : PySem.W.Frag) (H : Hp) : V → Value → Prop where
  | non : TyOf K H .non (.type "NoneType")
  | bl (x : Bool) : TyOf K H (.bl x) (.type "bool")
  | int (i : Int) : TyOf K H (.int i) (.type "int")
  | str (x : Str) : TyOf K H (.str x) (.type "str")
  | flt (x : UInt64) : TyOf K H (.flt x) (.type "float")
  | lst {a : Addr} {xs : List V} (e : H a = some (.lst xs)) : TyOf K H (.ref a) (.type "list")
  | frz {a : Addr} {o : Obj} {xs : List V} (e : H a = some (.frz o (.lst xs))) : TyOf K H (.ref a) (.type "list")
  | tup {a : Addr} {xs : List V} (e : H a = some (.tup xs)) : TyOf K H (.ref a) (.type "tuple")
  | dK {a : Addr} {kvs : List (Key × V)} (e : H a = some (.dK kvs)) : TyOf K H (.ref a) (.type "dict")
  | dT {a : Addr} {kvs : List (List Key × V)} (e : H a = some (.dT kvs)) : TyOf K H (.ref a) (.type "dict")
  | ins {a C dx : Addr} {fs : List (Str × V)} (e : H a = some (.ins C dx fs)) (cl : Cls K C) (ha : PySem.W.findIn K (.ref C) "__class__" = some (some (.builtin "object.__class__")))
      (hn : PySem.W.specialIn K (.builtin "object.__class__") "__get__" = some (some (.builtin "getset_descriptor.__get__"))) (htk : PySem.W.takesIn K (.builtin "object.__class__") = some true)
      (hm : PySem.W.mroIn K C (.type "object") = some true) : TyOf K H (.ref a) (.ref C)
theorem isinst_ok {x : V} {u t : Value} (I : Inv X pins σ H s) (rx : RelV x u) (ty : TyOf X.K H x t) (e : PySem.W.kitOne X.K t c = some b) (h : ∀ tk,Q (.bool b) { s with toks := tk }) :
    wpAny (model X.prog X.w) A (call (.builtin "isinstance") [u,c]) Q E s := by
  cases ty with
  | non=>cases (show u = Value.none from rx); exact PySem.W.kia_one PySem.W.kitx_none I.kIn True.intro e (fun z=>nomatch z) h
  | bl y=>cases (show u = Value.bool y from rx); exact PySem.W.kia_one PySem.W.kitx_bool I.kIn True.intro e (fun z=>nomatch z) h
  | int i=>obtain ⟨t,q⟩ := (show ∃ t,u = Value.int i t from rx); cases q; exact PySem.W.kia_one PySem.W.kitx_int I.kIn True.intro e (fun z=>nomatch z) h
  | str y=>obtain ⟨t,q⟩ := (show ∃ t,u = Value.str y t from rx); cases q; exact PySem.W.kia_one PySem.W.kitx_str I.kIn True.intro e (fun z=>nomatch z) h
  | flt y=>obtain ⟨t,q⟩ := (show ∃ t,u = Value.float y t from rx); cases q; exact PySem.W.kia_one PySem.W.kitx_float I.kIn True.intro e (fun z=>nomatch z) h
  | @lst a xs ea =>
    cases (show u = Value.ref a from rx)
    obtain ⟨_,_,n,_,h1⟩ := (show ObjOk X.prog X.w H s.heap a (.lst xs) from I.hok a _ ea)
    exact PySem.W.kia_one PySem.W.kitx_list I.kIn ⟨_,h1,rfl⟩ e (fun z=>nomatch z) h
  | @frz a ob xs ea =>
    cases (show u = Value.ref a from rx)
    obtain ⟨_,_,_,n,_,h1⟩ := (show ObjOk X.prog X.w H s.heap a (.frz ob (.lst xs)) from I.hok a _ ea)
    exact PySem.W.kia_one PySem.W.kitx_list I.kIn ⟨_,h1,rfl⟩ e (fun z=>nomatch z) h
  | @tup a xs ea =>
    cases (show u = Value.ref a from rx)
    obtain ⟨_,_,_,p⟩ := (show ObjOk X.prog X.w H s.heap a (.tup xs) from I.hok a _ ea)
    obtain ⟨o,h1,h2,_⟩ := p
    exact PySem.W.kia_one PySem.W.kitx_tuple I.kIn ⟨o,h1,h2⟩ e (fun z=>nomatch z) h
  | @dK a kvs ea =>
    cases (show u = Value.ref a from rx)
    obtain ⟨_,_,vs,_,p⟩ := (show ObjOk X.prog X.w H s.heap a (.dK kvs) from I.hok a _ ea)
    obtain ⟨o,es,ep,h1,h2,_⟩ := p
    exact PySem.W.kia_one PySem.W.kitx_dict I.kIn ⟨o,h1,h2.1⟩ e (fun z=>nomatch z) h
  | @dT a kvs ea =>
    cases (show u = Value.ref a from rx)
    obtain ⟨_,_,xs,_,o,es,ep,h1,h2,_⟩ := (show ObjOk X.prog X.w H s.heap a (.dT kvs) from I.hok a _ ea)
    exact PySem.W.kia_one PySem.W.kitx_dict I.kIn ⟨o,h1,h2.1⟩ e (fun z=>nomatch z) h
  | @ins a C dx fs ea cl ha hn htk hm =>
    cases (show u = Value.ref a from rx)
    obtain ⟨mA,O,_⟩ := ins_get I.hok ea
    obtain ⟨od,J,_⟩ := O.look
    exact PySem.W.kia_one (PySem.W.kitx_own (cl.get _) cl.hd ha hn htk hm) I.kIn J e (fun z=>nomatch z) h
end
end L2
namespace L2
open PySem PySem.Spec PyProof.Rows
structure Room (k : Nat) (A : Around) : Prop where
  hd : A.handled = none
  dp : A.depth + 3 * k + 5 < recursionLimit
  un : A.units + 16 * k + 200 < cLine
theorem Room.mono {j k : Nat} {A : Around} (r : Room k A) (h : j ≤ k) : Room j A := ⟨r.hd,by have := r.dp; omega,by have := r.un; omega⟩
theorem Room.deeper {k : Nat} {A : Around} (r : Room (k + 1) A) (env : Env) : Room k (A.deeper env) :=
  ⟨r.hd,by have := r.dp; show A.depth + 1 + 3 * k + 5 < _; omega,by have := r.un; show A.units + 3 + 16 * k + 200 < _; omega⟩
theorem make_depth {A : Around} {C : Addr} {us : List Value} {kw : List (Str × Value)} : (A.under (.builtin "type.__call__" ⟨.ref C :: us,kw⟩)).depth = A.depth + 1 := by
  first | rfl | simp [Around.under,Code.weight,Code.isCreation,Code.isGuard,Code.isCaller,Code.frames,Code.isFrame,guardIds]
theorem make_units {A : Around} {C : Addr} {us : List Value} {kw : List (Str × Value)} : (A.under (.builtin "type.__call__" ⟨.ref C :: us,kw⟩)).units = A.units + 1 := by
  first | rfl | simp [Around.under,Code.cUnits,Code.frames,Code.isFrame]
theorem Room.make {k : Nat} {A : Around} (r : Room (k + 1) A) (C : Addr) (us : List Value) (kw : List (Str × Value)) : Room k (A.under (.builtin "type.__call__" ⟨.ref C :: us,kw⟩)) :=
  ⟨r.hd,by have := r.dp; rw [make_depth]; omega,by have := r.un; rw [make_units]; omega⟩
theorem Room.depth {k : Nat} {A : Around} (r : Room k A) : A.depth < recursionLimit := by have := r.dp; omega
theorem Room.units {k : Nat} {A : Around} (r : Room k A) : A.units + 64 < cLine := by have := r.un; omega
theorem Room.units0 {k : Nat} {A : Around} (r : Room k A) : A.units < cLine := by have := r.un; omega
def tNil : TA := fun _ H Q=>Q [] H
def tCons (ta : TE) (tr : TA) : TA := fun σ H Q=>ta σ H fun x H1=>tr σ H1 fun xs H2=>Q (x :: xs) H2
section
variable {X : Cx} {e : Expr} {es : List Expr} {te : TE} {t : TA} {pos : Pos}
theorem pa_nil : PA X [] tNil := fun _ _ _ _ H Q I h=>Calls.spliced_nil ⟨[],H,I, .nil,h⟩
theorem pa_cons (ha : PE X e te) (hr : PA X es t) (hs : starEach (e :: es) X.env = (false,eval e X.env) :: starEach es X.env := by rfl) : PA X (e :: es) (tCons te t) := by
  intro pos pins s σ H Q I h
  rw [hs]
  show wpAny _ _ (spliced ((false,eval e X.env) :: backTo pos (starEach es X.env))) _ _ s
  refine Calls.spliced_cons (thn (ha pins s σ H _ I h) fun u s1 ⟨x,H1,I1,r1,q1⟩=>?_)
  exact thn (hr pos pins s1 σ H1 _ I1 q1) fun us s2 ⟨xs,H2,I2,r2,q2⟩=>⟨x :: xs,H2,I2, .cons r1 r2,q2⟩
def tTup (t : TA) : TE := fun σ H Q=>t σ H fun xs H1=>xs.length ≤ sizeLine ∧ ∀ p,H1 p = none → Q (.ref p) (upd H1 p (.tup xs))
def tLst (t : TA) : TE := fun σ H Q=>t σ H fun xs H1=>xs.length ≤ sizeLine ∧ ∀ p,H1 p = none → Q (.ref p) (upd H1 p (.lst xs))
theorem pe_tup {x1} (h : PA X es t) : PE X (.Tuple es x1 pos) (tTup t) := by
  intro pins s σ H Q I hq
  refine wpAny_Tuple_spliced (thn (h pos pins s σ H _ I hq) fun us s1 ⟨xs,H1,I1,r,z,q⟩=>⟨by rw [← r.length]; exact z,?_⟩)
  have hf : H1 s1.heap.objs.size = none := I1.hok.fresh (Nat.le_refl _)
  refine ⟨.ref s1.heap.objs.size,upd H1 s1.heap.objs.size (.tup xs),I1.laid (t' := s1.toks) (fun b u e=>Heap.get?_push_of_some _ e) (Nat.le_refl _) ?_,rfl,q _ hf⟩
  exact ⟨z,us,r,⟨_,Heap.get?_push_size _ rfl,rfl,_,rfl⟩⟩
theorem pe_lst (h : PA X es t) : PE X (.List es pos) (tLst t) := by
  intro pins s σ H Q I hq
  refine wpAny_List_spliced (thn (h pos pins s σ H _ I hq) fun us s1 ⟨xs,H1,I1,r,z,q⟩=>⟨by rw [← r.length]; exact z,?_⟩)
  have hf : H1 s1.heap.objs.size = none := I1.hok.fresh (Nat.le_refl _)
  refine ⟨.ref s1.heap.objs.size,upd H1 s1.heap.objs.size (.lst xs),I1.laid (t' := s1.toks) (fun b u e=>Heap.get?_push_of_some _ e) (Nat.le_refl _) ?_,rfl,q _ hf⟩
  exact ⟨z,us,0,r,Heap.get?_push_size _ rfl⟩
end
abbrev Sp := List V → Hp → VK → XK → Prop
abbrev CXT := List Env → Hp → Shared → XK → Value → Shared → Prop
structure Env0 (P : Program) (w : World) (K : PySem.W.Frag) (mg : Str → Option Value) (base : Heap) (A : Around) (outer : List Env) (s : Shared) (H : Hp) : Prop where
  frames : A.frames = some outer
  mod : Mod K mg base
  bs : ∀ b o,base.get? b = some o → s.heap.get? b = some o ∧ H b = none
  bsz : base.objs.size ≤ s.heap.objs.size
  funs : s.heap.FunFrames base outer
  frf : ∀ b ∈ frs outer,H b = none
  hok : HOk P w H s.heap
  bare : AllBare s.gens
def CE (outer : List Env) (P : Program) (w : World) (H : Hp) (s : Shared) (Q : VK) (u : Value) (s' : Shared) : Prop :=
  ∃ v H',s'.os = s.os ∧ AllBare s'.gens ∧ Un (frs outer) [] H H' s.heap s'.heap ∧ HOk P w H' s'.heap ∧ RelV v u ∧ Q v H'
def CR (CX : CXT) (outer : List Env) (P : Program) (w : World) (H : Hp) (s : Shared) (Q : VK) (E : XK) (r : Result) (s' : Shared) : Prop :=
  match r with
  | .ok (.ret u)=>CE outer P w H s Q u s'
  | .ok _=>False
  | .error e=>CX outer H s E e s'
structure FnOk (P : Program) (w : World) (K : PySem.W.Frag) (mg : Str → Option Value) (base : Heap) (CX : CXT) (k : Nat) (f : Addr) (fd : FuncData) (ps : List Str) (sp : Sp) : Prop where
  len : ∀ vs H Q E,sp vs H Q E → vs.length = ps.length
  run : ∀ (A : Around) (outer : List Env) (s : Shared) (H : Hp) (args : Args) (us : List Value) (vs : List V) (Q : VK) (E : XK),Room k A → Env0 P w K mg base A outer s H → BindsTo s fd args (ps.zip us) → Vals vs us → sp vs H Q E →
    codeAny (model P w) A (.call (.ref f) args) (CR CX outer P w H s Q E) s
theorem FnOk.mono {P : Program} {w : World} {K : PySem.W.Frag} {mg : Str → Option Value} {base : Heap} {CX : CXT} {j k : Nat} {f : Addr} {fd : FuncData} {ps : List Str} {sp : Sp} (F : FnOk P w K mg base CX j f fd ps sp) (h : j ≤ k) :
    FnOk P w K mg base CX k f fd ps sp := ⟨F.len,fun A outer s H args us vs Q E hr=>F.run A outer s H args us vs Q E (hr.mono h)⟩
theorem Env0.make {P : Program} {w : World} {K : PySem.W.Frag} {mg : Str → Option Value} {base : Heap} {A : Around} {outer : List Env} {s : Shared} {H : Hp} (e : Env0 P w K mg base A outer s H) (C : Addr) (us : List Value) (kw : List (Str × Value)) :
    Env0 P w K mg base (A.under (.builtin "type.__call__" ⟨.ref C :: us,kw⟩)) outer s H := ⟨by first | exact e.frames | (simpa [Around.under,Code.envs,Code.isFrame,pushEnvs] using e.frames),e.mod,e.bs,e.bsz,e.funs,e.frf,e.hok,e.bare⟩
section
variable {X : Cx} {pins : List (Addr × Obj)} {σ : St} {H : Hp} {s s' : Shared}
theorem Inv.env0 (I : Inv X pins σ H s) : Env0 X.prog X.w X.K X.mg X.base X.A X.stack s H :=
  ⟨I.ok.frames,I.ok.mod,I.bs,Nat.le_trans I.ok.bsz I.sz,I.stack,I.stkFree,I.hok,I.bare⟩
theorem Inv.after {Q : VK} {u : Value} (I : Inv X pins σ H s) (h : CE X.stack X.prog X.w H s Q u s') : EP X pins σ Q u s' := by
  obtain ⟨v,H',os,bare,un,hok,r,q⟩ := h
  obtain ⟨hh,g,d,t,os'⟩ := s'
  obtain rfl : os' = s.os := os
  exact ⟨v,H',I.call (h' := hh) (g' := g) (d' := d) (t' := t) (ch := []) un hok bare (fun b z=>absurd z (by simp)),r,q⟩
end
def tCall (sp : Sp) (dvs : List V) (E : XK) (t : TA) : TE := fun σ H Q=>t σ H fun vs H1=>sp (vs ++ dvs) H1 Q E
def tMeth (C : Addr) (m : Str) (sp : Sp) (dvs : List V) (E : XK) (ta : TE) (t : TA) : TE := fun σ H Q=>ta σ H fun x H1=>∃ a dx fs,x = .ref a ∧ H1 a = some (.ins C dx fs) ∧ fs.lookup m = none ∧
  t σ H1 fun vs H2=>sp (x :: (vs ++ dvs)) H2 Q E
def tMake (C : Addr) (sp : Sp) (dvs : List V) (E : XK) (t : TA) : TE := fun σ H Q=>t σ H fun vs H1=>∀ x dx,H1 x = none → H1 dx = none → dx ≠ x →
  sp (.ref x :: (vs ++ dvs)) (upd (upd H1 dx (.own x)) x (.ins C dx [])) (fun v H2=>v = .non ∧ Q (.ref x) H2) E
def Binds (K : PySem.W.Frag) (fd : FuncData) (ps : List Str) (ds : List Value) : Prop :=
  ∀ (s : Shared) (us : List Value),K.In s.heap → (us ++ ds).length = ps.length → BindsTo s fd ⟨us,[]⟩ (ps.zip (us ++ ds))
theorem Binds.all {K : PySem.W.Frag} {fd : FuncData} {ps : List Str} (h : ∀ us : List Value,us.length = ps.length → bindArgs fd ⟨us,[]⟩ = pure (ps.zip us)) : Binds K fd ps [] := fun s us _ hl=>by
  rw [List.append_nil] at hl ⊢
  exact .of_eq (h us hl)
def Passes (CX : CXT) (X : Cx) (E : XK) : Prop := ∀ (pins : List (Addr × Obj)) (σ : St) (H : Hp) (s : Shared) (e : Value) (s' : Shared),Inv X pins σ H s → CX X.stack H s E e s' → X.xe e s'
section
variable {X : Cx} {CX : CXT} {k : Nat} {f C : Addr} {fd : FuncData} {ps : List Str} {sp : Sp} {dvs : List V} {ds : List Value} {E : XK} {x m : Str} {p pos apos : Pos} {e o : Expr} {es : List Expr} {ta : TE} {t : TA}
theorem run_fn {pins : List (Addr × Obj)} {σ : St} {H : Hp} {s : Shared} {Q : VK} {us : List Value} {vs : List V} (F : FnOk X.prog X.w X.K X.mg X.base CX k f fd ps sp) (hr : Room k X.A) (hb : Binds X.K fd ps ds) (hd : Vals dvs ds) (hx : Passes CX X E)
    (I : Inv X pins σ H s) (r : Vals vs us) (h : sp (vs ++ dvs) H Q E) : wpAny (model X.prog X.w) X.A (call (.ref f) us) (EP X pins σ Q) X.xe s := by
  have r2 : Vals (vs ++ dvs) (us ++ ds) := r.append hd
  have hl : (us ++ ds).length = ps.length := by rw [← r2.length]; exact F.len _ _ _ _ h
  refine wpAny_call (codeAny_mono (F.run X.A X.stack s H ⟨us,[]⟩ (us ++ ds) (vs ++ dvs) Q E hr I.env0 (hb s us I.kIn hl) r2 h) fun r s' hq=>?_)
  cases r with
  | error e=>exact hx pins σ H s e s' I hq
  | ok fl =>
    cases fl with
    | ret u=>exact I.after hq
    | next=>exact False.elim hq
    | brk=>exact False.elim hq
    | cont=>exact False.elim hq
theorem pe_call (F : FnOk X.prog X.w X.K X.mg X.base CX k f fd ps sp) (hr : Room k X.A) (hg : Gl X x) (hm : X.mg x = some (.ref f)) (hk : PySem.W.keepIn X.K (.ref f) = true) (hb : Binds X.K fd ps ds) (hd : Vals dvs ds) (hx : Passes CX X E)
    (ha : PA X (e :: es) t) (hdb : (x == ("__debug__" : Str)) = false := by decide) (he : starEach (e :: es) X.env = (false,eval e X.env) :: starEach es X.env := by rfl) (hpl : (backTo pos (starEach es X.env)).any (·.1) = false := by rfl) :
    PE X (.Call (.Name x p) (e :: es) [] pos) (tCall sp dvs E t) := by
  intro pins s σ H Q I h
  refine wpAny_Call_Name_kw (ld_glob I hg hm ?_ hdb)
  refine PySem.W.callWith_K (h₀ := X.base) I.ok.mod.kin hk (thn (ha pos pins s σ H _ I h) fun us s1 ⟨vs,H1,I1,r,q⟩=>⟨I1.kIn,?_⟩) he hpl
  exact run_fn F hr hb hd hx I1 r q
theorem pe_meth {pl : Sem Bool} (he : PE X o ta) (c : Cls X.K C) (hm : Meth X.K C m f) (F : FnOk X.prog X.w X.K X.mg X.base CX k f fd ps sp) (hr : Room k X.A) (hb : Binds X.K fd ps ds) (hd : Vals dvs ds) (hx : Passes CX X E) (ha : PA X (e :: es) t)
    (hst : starEach (e :: es) X.env = (false,eval e X.env) :: starEach es X.env := by rfl) (hpl : (backTo pos (starEach es X.env)).any (·.1) = false := by rfl)
    (ht : eval (.Call (.Attribute o m apos) (e :: es) [] pos) X.env = (do
      let ov ← eval o X.env
      standAt apos.atName
      let (f,first) ← holding [ov] (getMethod ov m pl)
      callWith pos f first (backTo pos (starEach (e :: es) X.env)) (backToKw pos (keywordEach [] X.env))) := by rfl) :
    PE X (.Call (.Attribute o m apos) (e :: es) [] pos) (tMeth C m sp dvs E ta t) := by
  intro pins s σ H Q I h
  refine PySem.W.methodCall_KW (pl := pl) (thn (he pins s σ H _ I h) fun u s1 ⟨x,H1,I1,rx,a,dx,fs,ex,ea,l,q⟩=>?_) ht
  subst ex
  obtain rfl : u = Value.ref a := rx
  refine getmeth_ok I1 ea c hm l ?_
  refine PySem.W.callWith_K (first := [.ref a]) (h₀ := X.base) I.ok.mod.kin hm.kp (thn (ha pos pins s1 σ H1 _ I1 q) fun us s2 ⟨vs,H2,I2,r,q2⟩=>⟨I2.kIn,?_⟩) hst hpl
  exact run_fn (us := .ref a :: us) (vs := .ref a :: vs) F hr hb hd hx I2 (.cons rfl r) q2
structure Mk (K : PySem.W.Frag) (C f : Addr) : Prop where
  makes : PySem.W.makesIn K C = true
  init : PySem.W.findIn K (.ref C) "__init__" = some (some (.ref f))
  fn : PySem.W.isFn K (.ref f) = true
  kp : PySem.W.keepIn K (.ref C) = true
theorem run_make {pins : List (Addr × Obj)} {σ : St} {H : Hp} {s : Shared} {Q : VK} {us : List Value} {vs : List V} (M : Mk X.K C f) (F : FnOk X.prog X.w X.K X.mg X.base CX k f fd ps sp) (hr : Room (k + 1) X.A) (hb : Binds X.K fd ps ds) (hd : Vals dvs ds)
    (hx : Passes CX X E) (I : Inv X pins σ H s) (r : Vals vs us)
    (h : ∀ x dx,H x = none → H dx = none → dx ≠ x → sp (.ref x :: (vs ++ dvs)) (upd (upd H dx (.own x)) x (.ins C dx [])) (fun v H2=>v = .non ∧ Q (.ref x) H2) E) :
    wpAny (model X.prog X.w) X.A (call (.ref C) us) (EP X pins σ Q) X.xe s := by
  have hq := h (s.heap.objs.size + 1) s.heap.objs.size (I.hok.fresh (Nat.le_succ _)) (I.hok.fresh (Nat.le_refl _)) (Nat.ne_of_lt (Nat.lt_succ_self _))
  have I2 := Inv.made (C := C) I
  have r2 : Vals (V.ref (s.heap.objs.size + 1) :: (vs ++ dvs)) (Value.ref (s.heap.objs.size + 1) :: (us ++ ds)) := .cons rfl (r.append hd)
  have hl : (Value.ref (s.heap.objs.size + 1) :: us ++ ds).length = ps.length := by
    have e := r2.length
    rw [F.len _ _ _ _ hq] at e
    exact e.symm
  refine wpAny_call (make_map (f := f) I.kIn M.makes M.init (beq_iff_eq.mp M.fn) (codeAny_mono (F.run _ X.stack _ _ ⟨Value.ref (s.heap.objs.size + 1) :: us,[]⟩ (Value.ref (s.heap.objs.size + 1) :: (us ++ ds)) _ _ E (hr.make C us [])
    (I2.env0.make C us []) (hb _ (Value.ref (s.heap.objs.size + 1) :: us) I2.kIn hl) r2 hq) fun r s' hq'=>?_))
  cases r with
  | error e=>exact hx pins σ _ _ e s' I2 hq'
  | ok fl =>
    cases fl with
    | ret u =>
      obtain ⟨v,H',I3,rv,ev,q3⟩ := I2.after hq'
      subst ev
      exact ⟨rv,⟨V.ref (s.heap.objs.size + 1),H',I3,rfl,q3⟩⟩
    | next=>exact False.elim hq'
    | brk=>exact False.elim hq'
    | cont=>exact False.elim hq'
theorem pe_make0 (M : Mk X.K C f) (F : FnOk X.prog X.w X.K X.mg X.base CX k f fd ps sp) (hr : Room (k + 1) X.A) (hg : Gl X x) (hm : X.mg x = some (.ref C)) (hb : Binds X.K fd ps ds) (hd : Vals dvs ds) (hx : Passes CX X E)
    (hdb : (x == ("__debug__" : Str)) = false := by decide) : PE X (.Call (.Name x p) [] [] pos) (tMake C sp dvs E tNil) := by
  intro pins s σ H Q I h
  refine wpAny_Call_Name_kw (ld_glob I hg hm ?_ hdb)
  exact PySem.W.callWith_K0 I.kIn M.kp (run_make (us := []) M F hr hb hd hx I .nil h)
end
section
variable {X : Cx} {CX : CXT} {k : Nat} {f C : Addr} {fd : FuncData} {ps ks : List Str} {sp : Sp} {E : XK} {x m : Str} {p pos apos kpos : Pos} {e o : Expr} {es : List Expr} {kws : List Keyword} {te ta : TE} {t tk : TA} {nm : Option Str}
variable {g : List Value → List Value → List Value} {gV : List V → List V → List V}
end
structure FnScope (N P : List Str) (sc : Scope) : Prop where
  kind : sc.kind = .function
  co : sc.isCoroutine = false
  gen : sc.isGenerator = false
  nd : N.Nodup
  pre : N.take P.length = P
  par : ∀ x ∈ P,sc.names.lookup x = some .local ∨ sc.names.lookup x = some .cell
  nofree : ∀ y ∈ sc.names,y.2 ≠ .free
theorem bindL_out {kindOf : Str → Option NameKind} {x : Str} : ∀ {binds : List (Str × Value)} {m : Str → Option Value},(∀ v,(x,v) ∉ binds) → bindL kindOf binds m x = m x
  | [],_,_=>rfl
  | (n,v) :: r,m,h=>by
    unfold bindL
    rw [bindL_out fun w hw=>h w (List.mem_cons_of_mem _ hw)]
    split
    · have : x ≠ n := by rintro rfl; exact h v List.mem_cons_self
      simp [this]
    · rfl
theorem bindC_out {kindOf : Str → Option NameKind} {x : Str} : ∀ {binds : List (Str × Value)} {m : Str → Option Value},(∀ v,(x,v) ∉ binds) → bindC kindOf binds m x = m x
  | [],_,_=>rfl
  | (n,v) :: r,m,h=>by
    unfold bindC
    rw [bindC_out fun w hw=>h w (List.mem_cons_of_mem _ hw)]
    split
    · rfl
    · have : x ≠ n := by rintro rfl; exact h v List.mem_cons_self
      simp [this]
theorem bindL_get {kindOf : Str → Option NameKind} {x : Str} {v : Value} : ∀ {P : List Str} {vs : List Value} {i : Nat} {m : Str → Option Value},P.Nodup → P[i]? = some x → vs[i]? = some v → kindOf x = some .local →
    bindL kindOf (P.zip vs) m x = some v
  | [],_,_,_,_,h,_,_=>by simp at h
  | _ :: _,[],_,_,_,_,h,_=>by simp at h
  | p :: P,w :: vs,0,m,nd,h1,h2,hk=>by
    simp at h1 h2; subst h1; subst h2
    show bindL kindOf ((p,w) :: P.zip vs) m p = _
    unfold bindL
    rw [bindL_out fun v hv=>(List.nodup_cons.mp nd).1 (List.of_mem_zip hv).1,if_pos hk]
    simp
  | p :: P,w :: vs,i + 1,m,nd,h1,h2,hk=>by
    show bindL kindOf ((p,w) :: P.zip vs) m x = _
    unfold bindL
    exact bindL_get (i := i) (List.nodup_cons.mp nd).2 (by simpa using h1) (by simpa using h2) hk
theorem bindC_get {kindOf : Str → Option NameKind} {x : Str} {v : Value} : ∀ {P : List Str} {vs : List Value} {i : Nat} {m : Str → Option Value},P.Nodup → P[i]? = some x → vs[i]? = some v → kindOf x ≠ some .local →
    bindC kindOf (P.zip vs) m x = some v
  | [],_,_,_,_,h,_,_=>by simp at h
  | _ :: _,[],_,_,_,_,h,_=>by simp at h
  | p :: P,w :: vs,0,m,nd,h1,h2,hk=>by
    simp at h1 h2; subst h1; subst h2
    show bindC kindOf ((p,w) :: P.zip vs) m p = _
    unfold bindC
    rw [bindC_out fun v hv=>(List.nodup_cons.mp nd).1 (List.of_mem_zip hv).1,if_neg hk]
    simp
  | p :: P,w :: vs,i + 1,m,nd,h1,h2,hk=>by
    show bindC kindOf ((p,w) :: P.zip vs) m x = _
    unfold bindC
    exact bindC_get (i := i) (List.nodup_cons.mp nd).2 (by simpa using h1) (by simpa using h2) hk
def start (N : List Str) (vs : List V) : St := vs.map some ++ List.replicate (N.length - vs.length) none
def cxOf (CX : CXT) (P : Program) (w : World) (K : PySem.W.Frag) (mg : Str → Option Value) (base : Heap) (N : List Str) (qual : Str) (scope : Scope) (f : Addr) (cd : Value) (A : Around) (outer : List Env) (s : Shared) (H : Hp) (E : XK) : Cx where
  prog := P
  w := w
  K := K
  mg := mg
  base := base
  A := A.deeper (envOfC qual scope s.heap.objs.size f cd)
  N := N
  s₀ := s
  H₀ := H
  env := envOfC qual scope s.heap.objs.size f cd
  outer := outer
  stack := envOfC qual scope s.heap.objs.size f cd :: outer
  ex := []
  calm := true
  fn := fun _=>true
  pn := []
  xe := fun e s'=>wpAny (model P w) (A.deeper (envOfC qual scope s.heap.objs.size f cd)) (leaving (envOfC qual scope s.heap.objs.size f cd) e) (fun _ s''=>CX outer H s E e s'') (fun e' s''=>CX outer H s E e' s'') s'
theorem cell_has {sc : Scope} {n : Nat} {x : Str} (h : sc.names.lookup x = some .cell) : ∃ c,(cellsFrom n sc.names []).lookup x = some c := by
  have q := PySem.W.cellsFrom_some sc.names n [] (.inl h)
  exact Option.isSome_iff_exists.mp q
theorem inv_start {CX : CXT} {P : Program} {w : World} {K : PySem.W.Frag} {mg : Str → Option Value} {base : Heap} {N ps : List Str} {qual : Str} {scope : Scope} {f : Addr} {cd : Value} {A : Around} {outer : List Env} {s s1 : Shared} {H : Hp} {E : XK} {us : List Value} {vs : List V}
    (S : FnScope N ps scope) (hd : A.handled = none) (e0 : Env0 P w K mg base A outer s H) (hl : vs.length = ps.length) (r : Vals vs us)
    (x : InCallC s s.heap.objs.size (bindL (envOfC qual scope s.heap.objs.size f cd).kindOf (ps.zip us) fun _=>none) (cellsFrom (s.heap.objs.size + 1) scope.names []) (bindC (envOfC qual scope s.heap.objs.size f cd).kindOf (ps.zip us) fun _=>none) s1) :
    Inv (cxOf CX P w K mg base N qual scope f cd A outer s H E) [] (start N vs) H s1 := by
  have hpl : ps.length ≤ N.length := by have := congrArg List.length S.pre; rw [List.length_take] at this; omega
  obtain ⟨h1,tk,rfl,hk⟩ := x.done
  have noA : ∀ b : Addr,b ∉ (cxOf CX P w K mg base N qual scope f cd A outer s H E).ex := fun b z=>absurd (show b ∈ ([] : List Addr) from z) (by simp)
  refine ⟨⟨e0.mod,S.kind,rfl,rfl,Nat.le_refl _,fun y z c h1 h2=>?_,fun y hy=>?_,fun y c _ h=>?_,fun _=>hd,Around.frames_deeper e0.frames, .inr ⟨rfl,rfl⟩,fun b z=>absurd z (noA b),e0.bs,e0.bsz,fun b _ _=>noA b,fun b z=>absurd z (noA b),e0.funs,e0.frf⟩,
    rfl,e0.bare,Un.kept hk,⟨_,x.toInCall.ns,fun i y v h1 h2 h3=>?_⟩,fun y c h=>⟨_,x.cell y c h⟩,e0.hok.fresh (Nat.le_refl _),fun y c h=>?_,fun p hp=>absurd (show p ∈ ([] : List (Addr × Obj)) from hp) (by simp),e0.hok.kept hk,?_⟩
  · exact name_of_addr x.apart (PySem.mem_of_lookup h1) (PySem.mem_of_lookup h2)
  · have hy : scope.names.lookup y = some .cell ∨ scope.names.lookup y = some .free := hy
    rcases hy with hy | hy
    · exact cell_has hy
    · exact absurd rfl (S.nofree _ (PySem.mem_of_lookup hy))
  · exact Nat.le_of_lt (x.above y c (PySem.mem_of_lookup h))
  · have hi : i < vs.length := by
      unfold start at h2
      by_cases hi : i < vs.length
      · exact hi
      · rw [List.getElem?_append_right (by simpa using hi)] at h2
        rw [List.getElem?_replicate] at h2
        split at h2 <;> cases h2
    have ha : vs[i]? = some v := by
      unfold start at h2
      rw [List.getElem?_append_left (by simpa using hi),List.getElem?_map] at h2
      cases e : vs[i]? with
      | none=>rw [e] at h2; cases h2
      | some a=>rw [e] at h2; cases h2; rfl
    obtain ⟨u,hu,rv⟩ := r.get ha
    have hp : ps[i]? = some y := by
      rw [← S.pre,List.getElem?_take_of_lt (by omega)]; exact h1
    have ndP : ps.Nodup := by rw [← S.pre]; exact S.nd.sublist (List.take_sublist _ _)
    refine ⟨u,rv,?_⟩
    rcases S.par y (List.mem_of_getElem? hp) with k | k
    · exact .inl ⟨k,bindL_get ndP hp hu k⟩
    · obtain ⟨c,e⟩ := cell_has (n := s.heap.objs.size + 1) k
      refine .inr ⟨.inl k,c,e,?_⟩
      have q := x.cell y c e
      rw [bindC_get ndP hp hu (by show scope.names.lookup y ≠ _; rw [k]; decide)] at q
      exact q
  · exact e0.hok.fresh (Nat.le_of_lt (x.above y c (PySem.mem_of_lookup h)))
  · unfold start
    show _ = N.length
    rw [List.length_append,List.length_map,List.length_replicate]
    omega
theorem fn_of {CX : CXT} {P : Program} {w : World} {K : PySem.W.Frag} {mg : Str → Option Value} {base : Heap} {k : Nat} {f : Addr} {name qual : Str} {params : Arguments} {body : List Stmt} {scope : Scope} {dV kV doc pm cdv ct oc : Value} {an od : Option Addr}
    {osl : Array (Option Value)} {N ps : List Str} {sp : Sp} (lk : K.lookup f = some ⟨oc,od, .func (PySem.W.fnOf name qual params body scope dV kV doc pm an cdv ct),osl⟩) (hcd : PySem.W.codeIn K cdv qual = true) (S : FnScope N ps scope)
    (len : ∀ vs H Q E,sp vs H Q E → vs.length = ps.length)
    (hbody : ∀ (A : Around) (outer : List Env) (s : Shared) (H : Hp) (vs : List V) (Q : VK) (E : XK),Room k (A.deeper (envOfC qual scope s.heap.objs.size f cdv)) → sp vs H Q E →
      ∃ t,PSs (cxOf CX P w K mg base N qual scope f cdv A outer s H E) body t ∧ t { nx := fun _ H'=>Q .non H',rt := Q } (start N vs) H) :
    FnOk P w K mg base CX (k + 1) f (PySem.W.fnOf name qual params body scope dV kV doc pm an cdv ct) ps sp := by
  refine ⟨len,fun A outer s H args us vs Q E hr e0 hb r hsp=>?_⟩
  have hl := len _ _ _ _ hsp
  have KX : K.In s.heap := e0.mod.kin.keeps fun b o e=>(e0.bs b o e).1
  have lim : s.heap.NoLimit := e0.mod.nolimit.keeps fun b o e=>(e0.bs b o e).1
  have hkind : ∀ y ∈ ps.zip us,scope.names.lookup y.1 = some .local ∨ (scope.names.lookup y.1 = some .cell ∧ ((cellsFrom (s.heap.objs.size + 1) scope.names []).lookup y.1).isSome = true) := fun ⟨n,v⟩ hy=>by
    rcases S.par n (List.of_mem_zip hy).1 with q | q
    · exact .inl q
    · exact .inr ⟨q,PySem.W.cellsFrom_some _ _ _ (.inl q)⟩
  refine codeAny_call_function hr.depth (KX _ _ lk) rfl S.co S.gen rfl (PySem.W.codeRec_of KX hcd) (hb _ _ _ _ ?_)
  refine wpAny_newFunctionEnv_cells S.kind hkind fun env he s1 x=>?_
  subst he
  refine ⟨lim.keeps x.toInCall.keep,codeAny_func ?_⟩
  obtain ⟨t,ht,hq⟩ := hbody A outer s H vs Q E (hr.deeper _) hsp
  have I : Inv (cxOf CX P w K mg base N qual scope f cdv A outer s H E) [] (start N vs) H s1 := inv_start S hr.hd e0 hl r x
  refine wpAny_mono (ht [] s1 (start N vs) H _ I hq) (fun fl s' hs=>?_) fun e s' hs=>hs
  have fin : ∀ {σ' : St} {H' : Hp} {v : V} {u : Value},Inv (cxOf CX P w K mg base N qual scope f cdv A outer s H E) [] σ' H' s' → RelV v u → Q v H' → CE outer P w H s Q u s' :=
    fun {σ' H' v u} J rv q=>⟨v,H',J.os,J.bare,J.base,J.hok,rv,q⟩
  cases fl with
  | ret u =>
    obtain ⟨v,σ',H',J,rv,q⟩ := hs
    exact fin J rv q
  | next =>
    obtain ⟨σ',H',J,q⟩ := hs
    exact fin (v := V.non) (u := Value.none) J rfl q
  | brk =>
    obtain ⟨_,_,_,q⟩ := hs
    exact False.elim q
  | cont =>
    obtain ⟨_,_,_,q⟩ := hs
    exact False.elim q
end L2
namespace L2
open PySem PySem.Spec PyProof.Rows
section
variable {X : Cx} {x : Str} {p pos : Pos} {e : Expr} {es : List Expr} {t : TA} {id T : String} {r : List V → Hp → VK → Prop}
def tCB (r : List V → Hp → VK → Prop) (t : TA) : TE := fun σ H Q=>t σ H fun vs H1=>r vs H1 Q
theorem pe_callB (hc : CallR X (.builtin id) r) (hg : Gl X x) (hm : X.mg x = none) (hv : bootBuiltins x = some (.builtin id)) (ha : PA X (e :: es) t) (hn : x ≠ "__name__" := by decide) (hdb : (x == ("__debug__" : Str)) = false := by decide)
    (he : starEach (e :: es) X.env = (false,eval e X.env) :: starEach es X.env := by rfl) (hpl : (backTo pos (starEach es X.env)).any (·.1) = false := by rfl) : PE X (.Call (.Name x p) (e :: es) [] pos) (tCB r t) := by
  intro pins s σ H Q I h
  refine wpAny_Call_Name_kw (ld_blt I hg hm hv ?_ hn hdb)
  exact PyProof.Rows.callWith_builtin1 (thn (ha pos pins s σ H _ I h) fun us s1 ⟨vs,H1,I1,r1,q1⟩=>hc pins s1 σ H1 vs us Q I1 r1 q1) he hpl
theorem pe_callTy (hc : CallR X (.type T) r) (hg : Gl X x) (hm : X.mg x = none) (hv : bootBuiltins x = some (.type T)) (ha : PA X (e :: es) t) (hn : x ≠ "__name__" := by decide) (hdb : (x == ("__debug__" : Str)) = false := by decide)
    (he : starEach (e :: es) X.env = (false,eval e X.env) :: starEach es X.env := by rfl) (hpl : (backTo pos (starEach es X.env)).any (·.1) = false := by rfl) : PE X (.Call (.Name x p) (e :: es) [] pos) (tCB r t) := by
  intro pins s σ H Q I h
  refine wpAny_Call_Name_kw (ld_blt I hg hm hv ?_ hn hdb)
  exact PyProof.Rows.callWith_type1 (thn (ha pos pins s σ H _ I h) fun us s1 ⟨vs,H1,I1,r1,q1⟩=>hc pins s1 σ H1 vs us Q I1 r1 q1) he hpl
end
end L2
namespace HT
open PySem PyProof.Rows
section
open PySem.SeqAt
open PySem.AutoSeq1 (wpAny_loadPart')
open PySem.MeetsSeq PySem.MeetsSeq2 PySem.MeetsSeq3
end
section
variable {prog : Program} {w : World} {A : Around} {E : Value → Shared → Prop} {s : Shared}
theorem cat_tup {t b : Addr} {vs ws : List Value} {Q : Value → Shared → Prop} (ht : IsTup s.heap t vs.toArray) (hb : IsTup s.heap b ws.toArray) (hv : vs ≠ [])
    (h1 : ws = [] → Q (.ref t) s) (h2 : ws ≠ [] → Q (.ref s.heap.objs.size) { s with heap := s.heap.push { cls := .type "tuple",data := .seq (vs ++ ws).toArray } })
    (hsz : vs.length + ws.length ≤ sizeLine) : wpAny (model prog w) A (binaryOp .Add (.ref t) (.ref b)) Q E s := by
  obtain ⟨⟨cls,dd,data,sl⟩,ho,hc,n,hd⟩ := id ht
  obtain ⟨⟨cls2,dd2,data2,sl2⟩,ho2,hc2,n2,hd2⟩ := id hb
  simp only at hc hd hc2 hd2
  subst hc hd hc2 hd2
  have e : vs.toArray ++ ws.toArray = (vs ++ ws).toArray := by simp
  by_cases hw : ws = []
  · exact concat_meets ⟨_,ho,rfl⟩ ⟨_,ho2,rfl⟩ noFill_tuple_add seq_tuple_add PySem.F.slot_tuple_add PySem.F.entry_tuple_add (PySem.F.args_tuple_add_2 _ _)
      (tuple_addW1 t b vs.toArray ws.toArray n n2 dd dd2 sl sl2 (by simpa using hv) (by simp [hw])) ⟨ho,ho2,h1 hw⟩
  · refine concat_meets ⟨_,ho,rfl⟩ ⟨_,ho2,rfl⟩ noFill_tuple_add seq_tuple_add PySem.F.slot_tuple_add PySem.F.entry_tuple_add (PySem.F.args_tuple_add_2 _ _)
      (tuple_addW2 t b vs.toArray ws.toArray n n2 dd dd2 sl sl2 (by simpa using hv) (by simpa using hw) (by rw [List.size_toArray,List.size_toArray]; exact hsz)) ⟨ho,ho2,?_⟩
    rw [e]
    exact h2 hw
def sIx (n d : Nat) : Option Int → Nat
  | none=>d
  | some v=>if v < 0 then (v + (n : Int)).toNat else min v.toNat n
theorem sIx_none (n d : Nat) : sIx n d none = d := rfl
theorem sIx_nat (n d k : Nat) : sIx n d (some (k : Int)) = min k n := by
  show (if (k : Int) < 0 then ((k : Int) + (n : Int)).toNat else min (k : Int).toNat n) = min k n
  rw [if_neg (by omega),Int.toNat_natCast]
theorem sIx_le (n d : Nat) (hd : d ≤ n) (o : Option Int) : sIx n d o ≤ n := by
  cases o with
  | none=>exact hd
  | some v =>
    show (if v < 0 then (v + (n : Int)).toNat else min v.toNat n) ≤ n
    by_cases hv : v < 0
    · rw [if_pos hv]; omega
    · rw [if_neg hv]; exact Nat.min_le_right _ _
theorem clip_eq (v : Int) (n d : Nat) : (if v < 0 then max (v + (n : Int)) 0 else min v (n : Int)) = ((sIx n d (some v) : Nat) : Int) := by
  show (if v < 0 then max (v + (n : Int)) 0 else min v (n : Int)) = (((if v < 0 then (v + (n : Int)).toNat else min v.toNat n) : Nat) : Int)
  by_cases hv : v < 0
  · simp only [if_pos hv]; omega
  · simp only [if_neg hv]; omega
theorem adjust_gen (lo hi : Option Int) (n : Nat) : Builtin.Slice.sliceAdjust lo hi 1 (n : Int) = (((sIx n 0 lo : Nat) : Int),((sIx n n hi : Nat) : Int)) := by
  have h1 : ¬ ((1 : Int) < 0) := by omega
  unfold Builtin.Slice.sliceAdjust
  simp only [h1,if_false]
  refine Prod.ext ?_ ?_
  · cases lo with
    | none=>rfl
    | some v=>exact clip_eq v n 0
  · cases hi with
    | none=>rfl
    | some v=>exact clip_eq v n n
theorem places_gen (i j : Nat) : Builtin.Slice.slicePlaces (i : Int) (j : Int) 1 = j - i := by
  unfold Builtin.Slice.slicePlaces
  have h1 : (1 : Int) > 0 := by omega
  simp only [h1,if_true,Int.ediv_one]
  split <;> omega
theorem slicePart_ {v : Value} {o : Option Int} {Q : Option Int → Shared → Prop} (p : IsPart v o) (h : Q o s) : wpAny (model prog w) A (Builtin.Slice.slicePartIndex v) Q E s := by
  cases p with
  | none=>exact slicePart_none h
  | int i t=>exact slicePart_int h
theorem sliceApplied_gen {sl : Addr} {vl vu : Value} {lo hi : Option Int} {n : Nat} {Q : Int × Int × Nat → Shared → Prop} (hs : s.heap.IsSliceOf sl vl vu .none) (pl : IsPart vl lo) (pu : IsPart vu hi)
    (h : Q (((sIx n 0 lo : Nat) : Int),1,sIx n n hi - sIx n 0 lo) s) : wpAny (model prog w) A (Builtin.Slice.sliceApplied (.ref sl) (pure (n : Int))) Q E s := by
  obtain ⟨os,hos,hcs,hds⟩ := id hs
  unfold Builtin.Slice.sliceApplied Builtin.Slice.sliceFields
  refine wpAny_bind (wpAny_bind (wpAny_field hos hds (x := vl) rfl (wpAny_bind (wpAny_field hos hds (x := vu) rfl (wpAny_bind (wpAny_field hos hds (x := .none) rfl (wpAny_pure ?_)))))))
  refine wpAny_bind (slicePart_none ?_)
  show wpAny _ _ (if ((1 : Int) == 0) = true then _ else _) _ _ s
  rw [if_neg (by decide)]
  refine wpAny_bind (slicePart_ pl (wpAny_bind (slicePart_ pu (wpAny_bind (wpAny_pure ?_)))))
  show wpAny _ _ (match Builtin.Slice.sliceAdjust lo hi 1 (n : Int) with | (lo,hi)=>pure (lo,(1 : Int),Builtin.Slice.slicePlaces lo hi 1)) _ _ s
  rw [adjust_gen lo hi n]
  show wpAny _ _ (pure (((sIx n 0 lo : Nat) : Int),(1 : Int),Builtin.Slice.slicePlaces ((sIx n 0 lo : Nat) : Int) ((sIx n n hi : Nat) : Int) 1)) _ _ s
  rw [places_gen]
  exact wpAny_pure h
theorem pick_gen (xs : Array Value) (i k : Nat) : ((List.range k).filterMap fun (m : Nat)=>xs[((i : Int) + (m : Int) * 1).toNat]?).toArray = ((xs.toList.drop i).take k).toArray := by
  have e : (fun (m : Nat)=>xs[((i : Int) + (m : Int) * 1).toNat]?) = fun m=>xs[i + m]? := by
    funext m
    have : ((i : Int) + (m : Int) * 1).toNat = i + m := by omega
    rw [this]
  rw [e]
  have := pick_run xs i k
  rw [List.filterMap_map] at this
  have e2 : ((fun x=>xs[x]?) ∘ fun x=>i + x) = fun m=>xs[i + m]? := rfl
  rw [e2] at this
  rw [this]
theorem getItem_tuple_cut {t sl : Addr} {items : Array Value} {vl vu : Value} {lo hi : Option Int} {Q : Value → Shared → Prop} (ht : IsTup s.heap t items) (hs : s.heap.IsSliceOf sl vl vu .none) (pl : IsPart vl lo) (pu : IsPart vu hi)
    (hw : ¬ (sIx items.size 0 lo = 0 ∧ sIx items.size items.size hi = items.size))
    (h : Q (.ref s.heap.objs.size) { s with heap := s.heap.push { cls := .type "tuple",data := .seq ((items.toList.drop (sIx items.size 0 lo)).take (sIx items.size items.size hi - sIx items.size 0 lo)).toArray } })
    (hsz : items.size ≤ sizeLine) : wpAny (model prog w) A (getItem (.ref t) (.ref sl)) Q E s := by
  have htake : sizeOk (.seq ((items.toList.drop (sIx items.size 0 lo)).take (sIx items.size items.size hi - sIx items.size 0 lo)).toArray) := by
    show ((items.toList.drop (sIx items.size 0 lo)).take (sIx items.size items.size hi - sIx items.size 0 lo)).toArray.size ≤ sizeLine
    rw [List.size_toArray,List.length_take,List.length_drop,Array.length_toList]
    omega
  have hj : sIx items.size items.size hi ≤ items.size := sIx_le _ _ (Nat.le_refl _) hi
  obtain ⟨os,hos,hcs,hds⟩ := id hs
  have hTs : s.TypeIs (.ref sl) "slice" := ⟨os,hos,hcs⟩
  unfold getItem
  try with_reducible refine wpAny_holding ?_
  first | refine wpAny_bind (wpAny_pure ?_) | skip
  refine wpAny_bind (wpAny_sequenceKey ht.typeIs (by decide) ?_)
  refine wpAny_bind (wpAny_callSpecial?_slot (name := Str.ofString "__getitem__") ht.typeIs PyProof.Rows.slot_tuple_getitem
    (wpAny_call_entry PyProof.Rows.slot_tuple_getitem ht.typeIs entry_tuple_getitem ?_ (args_tuple_getitem _ _)))
  show wpAny _ _ (Builtin.Tuple.tupleItemsOf (.ref t) >>= _) _ _ s
  refine wpAny_bind (tupleItemsOf_ ht ?_)
  refine wpAny_bind (wpAny_typeOf hTs ?_)
  rw [if_pos (by decide)]
  refine wpAny_bind (sliceApplied_gen hs pl pu ?_)
  have hno : ¬ ((((sIx items.size 0 lo : Nat) : Int) == 0 && (1 : Int) == 1 && (sIx items.size items.size hi - sIx items.size 0 lo) == items.size) = true) := by
    intro q
    rw [Bool.and_eq_true,Bool.and_eq_true] at q
    have q1 : ((sIx items.size 0 lo : Nat) : Int) = 0 := eq_of_beq q.1.1
    have q2 : sIx items.size items.size hi - sIx items.size 0 lo = items.size := eq_of_beq q.2
    exact hw ⟨by omega,by omega⟩
  show wpAny _ _ (if (((sIx items.size 0 lo : Nat) : Int) == 0 && (1 : Int) == 1 && (sIx items.size items.size hi - sIx items.size 0 lo) == items.size) = true then _ else _) _ _ s
  rw [if_neg hno,pick_gen]
  first
    | exact wpAny_bind (m := Builtin.Tuple.tupleExact _) (wpAny_newObj_type (wpAny_pure ⟨_,rfl,wpAny_pure h⟩) htake)
    | exact wpAny_bind (m := Builtin.Tuple.tupleExact _) (wpAny_newObj_type (wpAny_bind (wpAny_pure (wpAny_pure ⟨_,rfl,wpAny_pure h⟩))) htake)
    | exact wpAny_bind (wpAny_bind (m := Builtin.Tuple.tupleExact _) (wpAny_newObj_type (wpAny_pure (wpAny_pure ⟨_,rfl,wpAny_pure h⟩)) htake))
    | exact wpAny_bind (wpAny_bind (m := Builtin.Tuple.tupleExact _) (wpAny_newObj_type (wpAny_pure ⟨_,rfl,wpAny_pure h⟩) htake))
end
end HT
namespace L2
open PySem PySem.Spec PyProof.Rows
abbrev TO := St → Hp → (Option Int → Hp → Prop) → Prop
def PO (X : Cx) (e : Option Expr) (t : TO) : Prop :=
  ∀ (pins : List (Addr × Obj)) (s : Shared) (σ : St) (H : Hp) (Q : Option Int → Hp → Prop),Inv X pins σ H s → t σ H Q →
    wpAny (model X.prog X.w) X.A (evalPart e X.env) (fun u s'=>∃ o H',Inv X pins σ H' s' ∧ IsPart u o ∧ Q o H') X.xe s
def tNoPart : TO := fun _ H Q=>Q none H
def tPart (t : TE) : TO := fun σ H Q=>t σ H fun x H1=>∃ i,x = .int i ∧ Q (some i) H1
section
variable {X : Cx} {e : Expr} {te : TE} {lo hi : Option Expr} {tl th : TO} {pos p2 : Pos}
theorem po_none : PO X none tNoPart := by
  intro pins s σ H Q I h
  rw [evalPart_none]
  exact wpAny_pure ⟨none,H,I, .none,h⟩
theorem po_some (h : PE X e te) : PO X (some e) (tPart te) := by
  intro pins s σ H Q I hw
  rw [evalPart_some]
  refine thn (h pins s σ H _ I hw) fun u s1 ⟨x,H1,I1,r1,q1⟩=>?_
  obtain ⟨i,rfl,q⟩ := q1
  obtain ⟨t,rfl⟩ := r1
  exact ⟨some i,H1,I1, .int i t,q⟩
def SlR (X : Cx) (r : V → Option Int → Option Int → Hp → VK → Prop) : Prop :=
  ∀ (pins : List (Addr × Obj)) (s : Shared) (σ : St) (H : Hp) (x : V) (v vl vu : Value) (lo hi : Option Int) (sl : Addr) (Q : VK),Inv X pins σ H s → RelV x v → s.heap.IsSliceOf sl vl vu .none → IsPart vl lo → IsPart vu hi → r x lo hi H Q →
    ∃ T id,typeLookup (.type T) "__getitem__" = pure (some (.builtin id)) ∧ s.TypeIs v T ∧ wpAny (model X.prog X.w) X.A (getItem v (.ref sl)) (EP X pins σ Q) X.xe s
def tSl (r : V → Option Int → Option Int → Hp → VK → Prop) (te : TE) (tl th : TO) : TE := fun σ H Q=>te σ H fun x H1=>tl σ H1 fun l H2=>th σ H2 fun u H3=>r x l u H3 Q
theorem pe_slice {r : V → Option Int → Option Int → Hp → VK → Prop} (hr : SlR X r) (he : PE X e te) (hl : PO X lo tl) (hu : PO X hi th) : PE X (.Subscript e (.Slice lo hi none p2) pos) (tSl r te tl th) := by
  intro pins s σ H Q I h
  refine Subscript_ (thn (he pins s σ H _ I h) fun v s1 ⟨x,H1,I1,r1,q1⟩=>?_)
  refine wpAny_Slice (thn (hl pins s1 σ H1 _ I1 q1) fun vl s2 ⟨l,H2,I2,pl,q2⟩=>thn (hu pins s2 σ H2 _ I2 q2) fun vu s3 ⟨u,H3,I3,pu,q3⟩=>?_)
  rw [evalPart_none]
  refine wpAny_pure ?_
  have I4 : Inv X pins σ H3 { s3 with heap := s3.heap.push { cls := .type "slice",data := .fields #[vl,vu, .none] } } := I3.kept (t' := s3.toks) fun b ob q=>Heap.get?_push_of_some _ q
  obtain ⟨T,id,hT,ht,hg⟩ := hr pins { s3 with heap := s3.heap.push { cls := .type "slice",data := .fields #[vl,vu, .none] } } σ H3 x v vl vu l u s3.heap.objs.size Q I4 r1 (Heap.IsSliceOf.new ..) pl pu q3
  show wpAny (model X.prog X.w) X.A (subscriptTail e (.Slice lo hi none p2) v (.ref s3.heap.objs.size)) (EP X pins σ Q) X.xe { s3 with heap := s3.heap.push { cls := .type "slice",data := .fields #[vl,vu, .none] } }
  exact tail_any (ops := [.ref s3.heap.objs.size,v]) ht hT hg (by with_unfolding_all rfl)
def cutV (xs : List V) (lo hi : Option Int) : List V := (xs.drop (HT.sIx xs.length 0 lo)).take (HT.sIx xs.length xs.length hi - HT.sIx xs.length 0 lo)
theorem cutV_length (xs : List V) (lo hi : Option Int) : (cutV xs lo hi).length ≤ xs.length := by
  unfold cutV
  rw [List.length_take,List.length_drop]
  omega
def rSlT (K : PySem.W.Frag) : V → Option Int → Option Int → Hp → VK → Prop := fun x lo hi H Q=>∃ a xs,x = .ref a ∧ SqT K H a xs ∧
  ¬ (HT.sIx xs.length 0 lo = 0 ∧ HT.sIx xs.length xs.length hi = xs.length) ∧ ∀ p,H p = none → Q (.ref p) (upd H p (.tup (cutV xs lo hi)))
theorem sl_tup : SlR X (rSlT X.K) := by
  intro pins s σ H x v vl vu lo hi sl Q I rx hs pl pu h
  obtain ⟨a,xs,rfl,hx,hw,q⟩ := h
  cases rx
  obtain ⟨its,r,ht,hz⟩ := I.tuple hx
  have hlen : its.toArray.size = xs.length := by rw [List.size_toArray]; exact r.length.symm
  refine ⟨"tuple",_,PyProof.Rows.slot_tuple_getitem.lookup,ht.typeIs,?_⟩
  refine HT.getItem_tuple_cut ht hs pl pu (by rw [hlen]; exact hw) ?_ (by rw [hlen]; exact hz)
  rw [hlen]
  refine ⟨.ref s.heap.objs.size,_,I.laid (t' := s.toks) (o := .tup (cutV xs lo hi)) (fun b ob q=>Heap.get?_push_of_some _ q) (Nat.le_refl _) ?_,rfl,q _ (I.hok.fresh (Nat.le_refl _))⟩
  exact ⟨Nat.le_trans (cutV_length xs lo hi) hz,_,(r.drop (HT.sIx xs.length 0 lo)).take (HT.sIx xs.length xs.length hi - HT.sIx xs.length 0 lo),IsTup.new _ _⟩
def rCatT (K : PySem.W.Frag) : R2 := fun x y H Q=>∃ a b xs ys,x = .ref a ∧ y = .ref b ∧ SqT K H a xs ∧ SqT K H b ys ∧ xs ≠ [] ∧ xs.length + ys.length ≤ sizeLine ∧
  (ys = [] → Q (.ref a) H) ∧ (ys ≠ [] → ∀ p,H p = none → Q (.ref p) (upd H p (.tup (xs ++ ys))))
theorem Vals.nil_iff {xs : List V} {us : List Value} (r : Vals xs us) : us = [] ↔ xs = [] := by
  cases r with
  | nil=>simp
  | cons _ _=>simp
theorem op_catT : OpR X (binaryOp .Add) (rCatT X.K) := by
  intro pins s σ H x y v u Q I rx ry h
  obtain ⟨a,b,xs,ys,rfl,rfl,ha,hb,hx,hz,q1,q2⟩ := h
  cases rx
  cases ry
  obtain ⟨its,r1,p1,_⟩ := I.tuple ha
  obtain ⟨its2,r2,p2,_⟩ := I.tuple hb
  refine HT.cat_tup p1 p2 (fun z=>hx (r1.nil_iff.mp z)) (fun z=>⟨.ref a,H,I,rfl,q1 (r2.nil_iff.mp z)⟩) (fun z=>?_) (by rw [← r1.length,← r2.length]; exact hz)
  refine ⟨.ref s.heap.objs.size,_,I.laid (t' := s.toks) (o := .tup (xs ++ ys)) (fun b ob q=>Heap.get?_push_of_some _ q) (Nat.le_refl _) ?_,rfl,q2 (fun w=>z (r2.nil_iff.mpr w)) _ (I.hok.fresh (Nat.le_refl _))⟩
  exact ⟨by rw [List.length_append]; exact hz,_,r1.append r2,IsTup.new _ _⟩
end
end L2
namespace L2
open PySem PySem.Spec PyProof.Rows
def ixN (n : Nat) (i : Int) : Option Nat := if 0 ≤ i then (if i < n then some i.toNat else none) else if -(n : Int) ≤ i then some (i + n).toNat else none
def atI {α : Type} (xs : List α) (i : Int) : Option α := (ixN xs.length i).bind fun j=>xs[j]?
theorem ixN_seq {n : Nat} {i : Int} {j : Nat} (h : ixN n i = some j) : seqIndex? i n = some j ∧ j < n ∧ -(n : Int) ≤ i ∧ i < n := by
  unfold ixN at h
  by_cases h0 : 0 ≤ i
  · rw [if_pos h0] at h
    by_cases h1 : i < n
    · rw [if_pos h1] at h
      have e : i.toNat = j := Option.some.inj h
      exact ⟨by rw [seqIndex_of h0 h1,e],by omega,by omega,h1⟩
    · rw [if_neg h1] at h; cases h
  · rw [if_neg h0] at h
    by_cases h1 : -(n : Int) ≤ i
    · rw [if_pos h1] at h
      have e : (i + n).toNat = j := Option.some.inj h
      exact ⟨by rw [seqIndex_neg (by omega) h1,e],by omega,h1,by omega⟩
    · rw [if_neg h1] at h; cases h
theorem atI_get {α : Type} {xs : List α} {i : Int} {v : α} (h : atI xs i = some v) : ∃ j,seqIndex? i xs.length = some j ∧ xs[j]? = some v ∧ j < xs.length ∧ -(xs.length : Int) ≤ i ∧ i < xs.length := by
  unfold atI at h
  cases e : ixN xs.length i with
  | none=>rw [e] at h; cases h
  | some j =>
    rw [e] at h
    obtain ⟨h1,h2,h3,h4⟩ := ixN_seq e
    exact ⟨j,h1,h,h2,h3,h4⟩
theorem atI_nat {α : Type} {xs : List α} {j : Nat} {v : α} (h : xs[j]? = some v) : atI xs (j : Int) = some v := by
  have hj : j < xs.length := (List.getElem?_eq_some_iff.mp h).1
  have e : ixN xs.length (j : Int) = some j := by
    unfold ixN
    rw [if_pos (by omega),if_pos (by omega)]; simp
  unfold atI; rw [e]; exact h
theorem atI_last {α : Type} (xs : List α) (v : α) : atI (xs ++ [v]) (-1) = some v := by
  have hl : (xs ++ [v]).length = xs.length + 1 := by simp
  have e : ixN (xs ++ [v]).length (-1) = some xs.length := by
    unfold ixN
    rw [hl,if_neg (by decide),if_pos (by omega)]
    congr 1
    omega
  unfold atI
  rw [e]
  show (xs ++ [v])[xs.length]? = some v
  simp
def PlainIx (b : Expr) : Prop := ∀ o i,subscripted b false o i = operate [o,i] (getItem o i)
def IxR (X : Cx) (r : R2) : Prop :=
  ∀ (value slice : Expr) (pins : List (Addr × Obj)) (s : Shared) (σ : St) (H : Hp) (x y : V) (v u : Value) (Q : VK),Inv X pins σ H s → RelV x v → RelV y u → r x y H Q →
    subscripted slice false v u = operate [v,u] (getItem v u) → wpAny (model X.prog X.w) X.A (subscriptTail value slice v u) (EP X pins σ Q) X.xe s
def MtR (X : Cx) (id : String) (r : V → List V → Hp → VK → Prop) : Prop :=
  ∀ (pins : List (Addr × Obj)) (s : Shared) (σ : St) (H : Hp) (x : V) (xs : List V) (v : Value) (us : List Value) (Q : VK),Inv X pins σ H s → RelV x v → Vals xs us → r x xs H Q →
    wpAny (model X.prog X.w) X.A (call (.builtin id) (v :: us)) (EP X pins σ Q) X.xe s
section
variable {X : Cx} {a b : Expr} {ta tb : TE} {pos : Pos}
theorem pe_ix {r : R2} (hr : IxR X r) (ha : PE X a ta) (hb : PE X b tb) (hs : PlainIx b) : PE X (.Subscript a b pos) (tOp r ta tb) := by
  intro pins s σ H Q I h
  exact Subscript_ (binT ha hb I h fun v u s2 x y H2 I2 rx ry q=>hr a b pins s2 σ H2 x y v u Q I2 rx ry q (hs _ _))
def rIxL (K : PySem.W.Frag) : R2 := fun x y H Q=>∃ p xs i v,x = .ref p ∧ y = .int i ∧ SqL K H p xs ∧ atI xs i = some v ∧ Q v H
def rIxT (K : PySem.W.Frag) : R2 := fun x y H Q=>∃ p xs i v,x = .ref p ∧ y = .int i ∧ SqT K H p xs ∧ atI xs i = some v ∧ Q v H
def rIxS : R2 := fun x y H Q=>∃ z i c,x = .str z ∧ y = .int i ∧ z.length ≤ sizeLine ∧ atI z.cps.toList i = some c ∧ Q (.str ⟨#[c]⟩) H
theorem ix_list : IxR X (rIxL X.K) := by
  intro value slice pins s σ H x y v u Q I rx ry h hs
  obtain ⟨p,xs,i,z,rfl,rfl,hq,he,q⟩ := h
  cases rx
  obtain ⟨t,rfl⟩ := ry
  obtain ⟨its,r,pl,hz⟩ := I.list hq
  obtain ⟨j,h1,h2,h3,h4,h5⟩ := atI_get he
  obtain ⟨w,ew,rw'⟩ := r.get h2
  have hl := r.length
  have hn := line63
  have fin : EP X pins σ Q w s := ⟨z,H,I,rw',q⟩
  by_cases h0 : 0 ≤ i
  · have hj : i.toNat = j := by
      rw [seqIndex_of h0 h5] at h1
      exact Option.some.inj h1
    exact item_listR pl.isList h0 (by omega) (by rw [hj]; simpa using ew) fin hs
  · have hj : (i + (its.toArray.size : Int)).toNat = j := by
      rw [seqIndex_neg (by omega) h4] at h1
      rw [List.size_toArray,← hl]
      exact Option.some.inj h1
    exact subscriptTail_builtinR (x := w) pl.isList.typeIs slot_list_getitem.lookup
      (wpAny_getItem_list_neg (Q := fun r s'=>r = w ∧ EP X pins σ Q r s') pl.isList (by omega) (by rw [List.size_toArray] <;> omega) (by omega) (by rw [hj]; simpa using ew) ⟨rfl,fin⟩) hs
theorem ix_tup : IxR X (rIxT X.K) := by
  intro value slice pins s σ H x y v u Q I rx ry h hs
  obtain ⟨p,xs,i,z,rfl,rfl,hq,he,q⟩ := h
  cases rx
  obtain ⟨t,rfl⟩ := ry
  obtain ⟨its,r,pl,hz⟩ := I.tuple hq
  obtain ⟨j,h1,h2,h3,h4,h5⟩ := atI_get he
  obtain ⟨w,ew,rw'⟩ := r.get h2
  have hl := r.length
  have hn := line63
  have fin : EP X pins σ Q w s := ⟨z,H,I,rw',q⟩
  exact subscriptTail_builtinR (x := w) pl.typeIs slot_tuple_getitem.lookup
    (getItem_tuple (j := j) (Q := fun r s'=>r = w ∧ EP X pins σ Q r s') pl (by omega) (by omega) (by rw [List.size_toArray,← hl]; exact h1) (by simpa using ew) ⟨rfl,fin⟩) hs
theorem ix_str : IxR X rIxS := by
  intro value slice pins s σ H x y v u Q I rx ry h hs
  obtain ⟨z,i,c,rfl,rfl,hz,he,q⟩ := h
  obtain ⟨t,rfl⟩ := rx
  obtain ⟨t',rfl⟩ := ry
  obtain ⟨j,h1,h2,h3,h4,h5⟩ := atI_get he
  have hl : z.cps.toList.length = z.length := by simp [Str.length]
  rw [hl] at h1 h4 h5
  have hn := line63
  exact tail_any (typeIs_str s z t) slot_str_getitem.lookup (getItem_str (c := c) (by
    have e1 : decide (i < -(2 ^ 63 : Int)) = false := decide_eq_false (by omega)
    have e2 : decide (i ≥ 2 ^ 63) = false := decide_eq_false (by omega)
    rw [e1,e2,Bool.or_false]) (by rw [h1]; simpa using h2) ⟨.str ⟨#[c]⟩,H,I.tok _,⟨_,rfl⟩,q⟩) hs
theorem slice_bounds (lo hi : Option Int) (n : Nat) : (sliceBounds lo hi none n).1 = ((HT.sIx n 0 lo : Nat) : Int) ∧ (sliceBounds lo hi none n).2.1 = ((HT.sIx n n hi : Nat) : Int) ∧ (sliceBounds lo hi none n).2.2 = 1 := by
  refine ⟨?_,?_,rfl⟩
  · cases lo with
    | none=>simp [sliceBounds,HT.sIx]
    | some i =>
      simp only [sliceBounds,HT.sIx,Option.getD_none,show (1 : Int) > 0 by decide,if_true]
      by_cases h : i < 0
      · simp only [h,if_true] <;> omega
      · simp only [h,if_false] <;> omega
  · cases hi with
    | none=>simp [sliceBounds,HT.sIx]
    | some i =>
      simp only [sliceBounds,HT.sIx,Option.getD_none,show (1 : Int) > 0 by decide,if_true]
      by_cases h : i < 0
      · simp only [h,if_true] <;> omega
      · simp only [h,if_false] <;> omega
theorem slicePick_cut (its : List Value) (lo hi : Option Int) : slicePick its.toArray lo hi none = ((its.drop (HT.sIx its.length 0 lo)).take (HT.sIx its.length its.length hi - HT.sIx its.length 0 lo)).toArray := by
  obtain ⟨h1,h2,h3⟩ := slice_bounds lo hi its.toArray.size
  unfold slicePick
  rw [h1,h2,h3]
  simp only [sliceRange_one,pick_run,List.size_toArray] <;> rfl
def rSlL (K : PySem.W.Frag) : V → Option Int → Option Int → Hp → VK → Prop := fun x lo hi H Q=>∃ a xs,x = .ref a ∧ SqL K H a xs ∧ ∀ p,H p = none → Q (.ref p) (upd H p (.lst (cutV xs lo hi)))
theorem sl_list : SlR X (rSlL X.K) := by
  intro pins s σ H x v vl vu lo hi sl Q I rx hs pl pu h
  obtain ⟨a,xs,rfl,hx,q⟩ := h
  cases rx
  obtain ⟨its,r,ht,hz⟩ := I.list hx
  have hlen := r.length
  refine ⟨"list",_,slot_list_getitem.lookup,ht.isList.typeIs,?_⟩
  refine wpAny_getItem_list_slice ht.isList hs pl pu .none (by simp) ?_ (by rw [List.size_toArray] <;> omega)
  rw [slicePick_cut,← hlen]
  refine ⟨.ref s.heap.objs.size,_,I.laid (t' := s.toks) (o := .lst (cutV xs lo hi)) (fun b ob q=>Heap.get?_push_of_some _ q) (Nat.le_refl _) ?_,rfl,q _ (I.hok.fresh (Nat.le_refl _))⟩
  exact ⟨Nat.le_trans (cutV_length xs lo hi) hz,_,0,(r.drop (HT.sIx xs.length 0 lo)).take (HT.sIx xs.length xs.length hi - HT.sIx xs.length 0 lo),Heap.get?_push_size _ rfl⟩
def flatV : V → Bool
  | .non=>true
  | .bl _=>true
  | .int _=>true
  | .str _=>true
  | _=>false
def eqV : V → V → Bool
  | .non, .non=>true
  | .bl a, .bl b=>a == b
  | .bl a, .int b=>(if a then 1 else 0) == b
  | .int a, .bl b=>a == (if b then 1 else 0)
  | .int a, .int b=>a == b
  | .str a, .str b=>a == b
  | _,_=>false
theorem eqAt_V {A : Around} {s : Shared} {y x : V} {u v : Value} (ry : RelV y u) (rx : RelV x v) (fy : flatV y = true) (fx : flatV x = true) : SeqAt.EqAt A s u v (eqV y x) := by
  cases y with
  | non =>
    cases ry
    cases x with
    | non=>cases rx; exact SeqAt.EqAt.same _
    | bl b=>cases rx; exact SeqAt.EqAt.none_bool b
    | int b=>obtain ⟨t,rfl⟩ := rx; exact SeqAt.EqAt.none_int b t
    | str b=>obtain ⟨t,rfl⟩ := rx; exact SeqAt.EqAt.none_str b t
    | _=>exact absurd (show false = true from fx) Bool.false_ne_true
  | bl a =>
    cases ry
    cases x with
    | non=>cases rx; exact SeqAt.EqAt.bool_none a
    | bl b=>cases rx; exact SeqAt.EqAt.bool_bool a b
    | int b=>obtain ⟨t,rfl⟩ := rx; exact SeqAt.EqAt.bool_int a b t
    | str b=>obtain ⟨t,rfl⟩ := rx; exact SeqAt.EqAt.bool_str a b t
    | _=>exact absurd (show false = true from fx) Bool.false_ne_true
  | int a =>
    obtain ⟨t',rfl⟩ := ry
    cases x with
    | non=>cases rx; exact SeqAt.EqAt.int_none a t'
    | bl b=>cases rx; exact SeqAt.EqAt.int_bool a t' b
    | int b=>obtain ⟨t,rfl⟩ := rx; exact SeqAt.EqAt.int_int a t' b t
    | str b=>obtain ⟨t,rfl⟩ := rx; exact SeqAt.EqAt.int_str a t' b t
    | _=>exact absurd (show false = true from fx) Bool.false_ne_true
  | str a =>
    obtain ⟨t',rfl⟩ := ry
    cases x with
    | non=>cases rx; exact SeqAt.EqAt.str_none a t'
    | bl b=>cases rx; exact SeqAt.EqAt.str_bool a t' b
    | int b=>obtain ⟨t,rfl⟩ := rx; exact SeqAt.EqAt.str_int a t' b t
    | str b=>obtain ⟨t,rfl⟩ := rx; exact SeqAt.EqAt.str_str a t' b t
    | _=>exact absurd (show false = true from fx) Bool.false_ne_true
  | _=>exact absurd (show false = true from fy) Bool.false_ne_true
def eqU (x : V) (u : Value) : Bool := match u with
  | .none=>eqV .non x
  | .bool b=>eqV (.bl b) x
  | .int i _=>eqV (.int i) x
  | .str z _=>eqV (.str z) x
  | _=>false
theorem eqU_of {x y : V} {u : Value} (r : RelV y u) (f : flatV y = true) : eqU x u = eqV y x := by
  cases y with
  | non=>cases r; rfl
  | bl b=>cases r; rfl
  | int i=>obtain ⟨t,rfl⟩ := r; rfl
  | str z=>obtain ⟨t,rfl⟩ := r; rfl
  | _=>exact absurd (show false = true from f) Bool.false_ne_true
theorem any_eqU {x : V} : ∀ {xs : List V} {us : List Value},Vals xs us → xs.all flatV = true → us.any (eqU x) = xs.any fun y=>eqV y x
  | _,_, .nil,_=>rfl
  | y :: xs,u :: us, .cons r t,f=>by
    rw [List.all_cons,Bool.and_eq_true] at f
    rw [List.any_cons,List.any_cons,eqU_of r f.1,any_eqU t f.2]
theorem mem_eqAt {A : Around} {s : Shared} {x : V} {v : Value} (rx : RelV x v) (fx : flatV x = true) : ∀ {xs : List V} {us : List Value},Vals xs us → xs.all flatV = true → ∀ u ∈ us,SeqAt.EqAt A s u v (eqU x u)
  | _,_, .nil,_=>fun u hu=>by cases hu
  | y :: xs,u :: us, .cons r t,f=>fun u' hu=>by
    rw [List.all_cons,Bool.and_eq_true] at f
    rcases List.mem_cons.mp hu with rfl | hu
    · rw [eqU_of r f.1]; exact eqAt_V r rx f.1 fx
    · exact mem_eqAt rx fx t f.2 u' hu
def inV (x : V) (xs : List V) : Bool := xs.any fun y=>eqV y x
def rIn (K : PySem.W.Frag) (neg : Bool) : R2 := fun x y H Q=>∃ p xs,y = .ref p ∧ (SqL K H p xs ∨ SqT K H p xs) ∧ flatV x = true ∧ xs.all flatV = true ∧ Q (.bl (if neg then !inV x xs else inV x xs)) H
theorem op_in_seq : OpR X (compareOp .In) (rIn X.K false) := by
  intro pins s σ H x y v u Q I rx ry h
  obtain ⟨p,xs,rfl,hq,fx,fs,q⟩ := h
  cases ry
  rcases hq with hq | hq
  · obtain ⟨its,r,pl,hz⟩ := I.list hq
    refine SeqAt.in_listAt (eqU x) pl.isList (fun w hw=>mem_eqAt rx fx r fs w (by simpa using hw)) ⟨.bl _,H,I,rfl,?_⟩
    rw [show its.toArray.any (eqU x) = its.any (eqU x) by simp,any_eqU r fs]
    exact q
  · obtain ⟨its,r,pl,hz⟩ := I.tuple hq
    refine SeqAt.in_tupleAt (eqU x) pl (fun w hw=>mem_eqAt rx fx r fs w (by simpa using hw)) ⟨.bl _,H,I,rfl,?_⟩
    rw [show its.toArray.any (eqU x) = its.any (eqU x) by simp,any_eqU r fs]
    exact q
theorem op_notIn_seq : OpR X (compareOp .NotIn) (rIn X.K true) := by
  intro pins s σ H x y v u Q I rx ry h
  obtain ⟨p,xs,rfl,hq,fx,fs,q⟩ := h
  cases ry
  rcases hq with hq | hq
  · obtain ⟨its,r,pl,hz⟩ := I.list hq
    refine SeqAt.notIn_listAt (eqU x) pl.isList (fun w hw=>mem_eqAt rx fx r fs w (by simpa using hw)) ⟨.bl _,H,I,rfl,?_⟩
    rw [show its.toArray.any (eqU x) = its.any (eqU x) by simp,any_eqU r fs]
    exact q
  · obtain ⟨its,r,pl,hz⟩ := I.tuple hq
    refine SeqAt.notIn_tupleAt (eqU x) pl (fun w hw=>mem_eqAt rx fx r fs w (by simpa using hw)) ⟨.bl _,H,I,rfl,?_⟩
    rw [show its.toArray.any (eqU x) = its.any (eqU x) by simp,any_eqU r fs]
    exact q
theorem call_len_seq : CallR X (.builtin "len") (fun xs H Q=>∃ p ys,xs = [.ref p] ∧ (SqL X.K H p ys ∨ SqT X.K H p ys) ∧ Q (.int ys.length) H) := by
  intro pins s σ H xs us Q I r h
  obtain ⟨p,ys,rfl,hq,q⟩ := h
  obtain ⟨u,rfl,rx⟩ := vals1 r
  cases rx
  have hn := line63
  rcases hq with hq | hq
  · obtain ⟨its,r',pl,hz⟩ := I.list hq
    have hlen := r'.length
    exact Calls.call_len_list pl.isList (by simp only [List.size_toArray] <;> omega) ⟨.int ys.length,H,I.tok _,⟨s.toks + 1,by rw [List.size_toArray,hlen]⟩,q⟩
  · obtain ⟨its,r',pl,hz⟩ := I.tuple hq
    have hlen := r'.length
    exact len_tuple pl (by simp only [List.size_toArray] <;> omega) ⟨.int ys.length,H,I.tok _,⟨s.toks + 1,by rw [List.size_toArray,hlen]⟩,q⟩
theorem call_list_of : CallR X (.type "list") (fun xs H Q=>∃ p ys,xs = [.ref p] ∧ (SqL X.K H p ys ∨ SqT X.K H p ys) ∧ ∀ l,H l = none → Q (.ref l) (upd H l (.lst ys))) := by
  intro pins s σ H xs us Q I r h
  obtain ⟨p,ys,rfl,hq,q⟩ := h
  obtain ⟨u,rfl,rx⟩ := vals1 r
  cases rx
  have fin : ∀ (its : List Value),Vals ys its → ys.length ≤ sizeLine → ∀ (h' : Heap) (c' : Nat),(∀ b o',s.heap.get? b = some o' → h'.get? b = some o') →
      h'.get? s.heap.objs.size = some { cls := .type "list",dict := none,data := .seq its.toArray c',slots := #[] } → EP X pins σ Q (.ref s.heap.objs.size) { s with heap := h' } := fun its r' hz h' c' kp e =>
    ⟨.ref s.heap.objs.size,_,I.laid (t' := s.toks) kp (Nat.le_refl _) (show ObjOk X.prog X.w _ h' _ (.lst ys) from ⟨hz,its,c',r',e⟩),rfl,q _ (I.hok.fresh (Nat.le_refl _))⟩
  rcases hq with hq | hq
  · obtain ⟨its,r',pl,hz⟩ := I.list hq
    have hlen := r'.length
    obtain ⟨o,ho,hc,n,hd⟩ := pl.isList
    exact call_list_seq p (.inl rfl) ho hc hd (fun h' c' kp e=>fin its r' hz h' c' kp e) (by simp only [List.size_toArray] <;> omega)
  · obtain ⟨its,r',pl,hz⟩ := I.tuple hq
    have hlen := r'.length
    obtain ⟨o,ho,hc,n,hd⟩ := pl
    exact call_list_seq p (.inr rfl) ho hc hd (fun h' c' kp e=>fin its r' hz h' c' kp e) (by simp only [List.size_toArray] <;> omega)
theorem call_tuple_of : CallR X (.type "tuple") (fun xs H Q=>∃ p ys,xs = [.ref p] ∧ ((SqL X.K H p ys ∧ ∀ l,H l = none → Q (.ref l) (upd H l (.tup ys))) ∨ (SqT X.K H p ys ∧ Q (.ref p) H))) := by
  intro pins s σ H xs us Q I r h
  obtain ⟨p,ys,rfl,h⟩ := h
  obtain ⟨u,rfl,rx⟩ := vals1 r
  cases rx
  rcases h with ⟨hq,q⟩ | ⟨hq,q⟩
  · obtain ⟨its,r',pl,hz⟩ := I.list hq
    have hlen := r'.length
    refine call_tuple_list pl.isList (fun h' kp=>?_) (by simp only [List.size_toArray] <;> omega)
    have I1 : Inv X pins σ H { s with heap := h' } := I.kept (t' := s.toks) kp
    have I2 : Inv X pins σ (upd H h'.objs.size (.tup ys)) { s with heap := h'.push { cls := .type "tuple",data := .seq its.toArray } } :=
      I1.laid (t' := s.toks) (fun b o e=>Heap.get?_push_of_some _ e) (Nat.le_refl _) (show ObjOk X.prog X.w _ _ _ (.tup ys) from ⟨hz,its,r',IsTup.new _ _⟩)
    exact ⟨.ref h'.objs.size,_,I2,rfl,q _ (I1.hok.fresh (Nat.le_refl _))⟩
  · obtain ⟨its,r',pl,hz⟩ := I.tuple hq
    exact call_tuple_same pl ⟨.ref p,H,I,rfl,q⟩
def tyV (K : PySem.W.Frag) (T : String) (x : V) (H : Hp) : Prop := match x with
  | .str _=>T = "str"
  | .int _=>T = "int"
  | .ref p=>(T = "list" ∧ ∃ xs,SqL K H p xs) ∨ (T = "tuple" ∧ ∃ o,K.lookup p = some o ∧ o.cls = .type "tuple" ∧ o.dict = none) ∨
      (T = "dict" ∧ ((∃ kvs,H p = some (.dK kvs)) ∨ ∃ kvs,H p = some (.dT kvs))) ∨ (T = "set" ∧ ∃ S n,H p = some (.set S n))
  | _=>False
theorem tyV_is {pins : List (Addr × Obj)} {σ : St} {H : Hp} {s : Shared} {T : String} {x : V} {v : Value} (I : Inv X pins σ H s) (r : RelV x v) (ty : tyV X.K T x H) :
    s.TypeIs v T ∧ ∀ a,v = .ref a → ∃ ob,s.heap.get? a = some ob ∧ ob.dict = none := by
  cases x with
  | str z =>
    obtain ⟨t,rfl⟩ := r
    cases (show T = "str" from ty)
    exact ⟨typeIs_str s z t,fun _ e=>nomatch e⟩
  | int i =>
    obtain ⟨t,rfl⟩ := r
    cases (show T = "int" from ty)
    exact ⟨typeIs_int s i t,fun _ e=>nomatch e⟩
  | ref p =>
    cases r
    rcases ty with ⟨rfl,xs,hq⟩ | ⟨rfl,o,hk,hc,hd⟩ | ⟨rfl,hk⟩ | ⟨rfl,S,n,hk⟩
    · obtain ⟨its,_,pl,_⟩ := I.list hq
      refine ⟨pl.isList.typeIs,fun a e=>?_⟩
      cases e
      obtain ⟨o,n,e,c,hd,_⟩ := pl
      exact ⟨o,e,hd⟩
    · refine ⟨⟨o,I.kIn p o hk,hc⟩,fun a e=>?_⟩
      cases e
      exact ⟨o,I.kIn _ o hk,hd⟩
    · have z : ∃ o,s.heap.get? p = some o ∧ o.ExactDict := by
        rcases hk with ⟨kvs,hk⟩ | ⟨kvs,hk⟩
        · obtain ⟨_,_,_,_,o,_,_,e,ex,_⟩ := I.hok p _ hk
          exact ⟨o,e,ex⟩
        · obtain ⟨_,_,_,_,o,_,_,e,ex,_⟩ := I.hok p _ hk
          exact ⟨o,e,ex⟩
      obtain ⟨o,e,ex⟩ := z
      refine ⟨⟨o,e,ex.1⟩,fun a e2=>?_⟩
      cases e2
      exact ⟨o,e,ex.2.1⟩
    · obtain ⟨o,_,_,_,e,ex,_⟩ := I.hok p _ hk
      refine ⟨⟨o,e,ex.1⟩,fun a e2=>?_⟩
      cases e2
      exact ⟨o,e,ex.2.1⟩
  | _=>exact False.elim ty
def tBM0 (K : PySem.W.Frag) (T : String) (r : V → List V → Hp → VK → Prop) (to : TE) : TE := fun σ H Q=>to σ H fun x H1=>tyV K T x H1 ∧ r x [] H1 Q
def tBM (K : PySem.W.Frag) (T : String) (r : V → List V → Hp → VK → Prop) (to : TE) (t : TA) : TE := fun σ H Q=>to σ H fun x H1=>tyV K T x H1 ∧ t σ H1 fun xs H2=>r x xs H2 Q
variable {o e : Expr} {es : List Expr} {to : TE} {t : TA} {name : Str} {apos cpos : Pos} {T id : String} {r : V → List V → Hp → VK → Prop}
theorem pe_bm0 (pa : PlainAttrs T) (slot : Slot T name id) (hty : typeOf (.builtin id) = pure (.type "method_descriptor")) (hm : MtR X id r) (ho : PE X o to)
    (hbase : attributeBase o name X.env (eval o X.env) = eval o X.env := by rfl) (hline : (apos.endLine == cpos.line) = true := by rfl) : PE X (.Call (.Attribute o name apos) [] [] cpos) (tBM0 X.K T r to) := by
  intro pins s σ H Q I h
  refine wpAny_Call_method0_late hbase hline (thn (ho pins s σ H _ I h) fun v s1 ⟨x,H1,I1,r1,ty,q1⟩=>?_)
  obtain ⟨h1,h2⟩ := tyV_is I1 r1 ty
  exact ⟨T,id,pa,slot,hty,h1,h2,Calls.callWith_builtin rfl (PySem.evalArgs_none (hm pins s1 σ H1 x [] v [] Q I1 r1 .nil q1))⟩
theorem pe_bm (pa : PlainAttrs T) (slot : Slot T name id) (hty : typeOf (.builtin id) = pure (.type "method_descriptor")) (hm : MtR X id r) (ho : PE X o to) (ha : PA X (e :: es) t)
    (hbase : attributeBase o name X.env (eval o X.env) = eval o X.env := by rfl)
    (hfew : ((backTo cpos (starEach (e :: es) X.env)).all (fun x=>!x.1) && (backToKw cpos (keywordEach [] X.env)).all (fun x=>x.1.isSome)
      && decide ((e :: es).length + ([] : List Keyword).length + (if ([] : List Keyword).isEmpty then 0 else 1) < 30)) = true := by rfl)
    (hline : (apos.endLine == cpos.line) = true := by rfl) (hs : starEach (e :: es) X.env = (false,eval e X.env) :: starEach es X.env := by rfl) (hplain : (backTo cpos (starEach es X.env)).any (·.1) = false := by rfl) :
    PE X (.Call (.Attribute o name apos) (e :: es) [] cpos) (tBM X.K T r to t) := by
  intro pins s σ H Q I h
  refine wpAny_Call_method_late hbase hfew hline rfl (thn (ho pins s σ H _ I h) fun v s1 ⟨x,H1,I1,r1,ty,q1⟩=>?_)
  obtain ⟨h1,h2⟩ := tyV_is I1 r1 ty
  refine ⟨T,id,pa,slot,hty,h1,h2,?_⟩
  have hA := ha cpos pins s1 σ H1 _ I1 q1
  rw [hs] at hA ⊢
  refine Calls.callWith_builtin (by show (false || (backTo cpos (starEach es X.env)).any (·.1)) = false; rw [hplain] <;> rfl) (Calls.evalArgs_plain ?_)
  exact thn hA fun us s2 ⟨vs,H2,I2,r2,q2⟩=>hm pins s2 σ H2 x vs v us Q I2 r1 r2 q2
end
end L2
namespace L2
open PySem PySem.Spec PyProof.Rows
def MtM (X : Cx) (id : String) (r : V → List V → Hp → VK → Prop) : Prop :=
  ∀ (pins : List (Addr × Obj)) (s : Shared) (σ : St) (H : Hp) (x : V) (xs : List V) (v : Value) (us : List Value) (Q : VK),Inv X pins σ H s → RelV x v → Vals xs us → r x xs H Q →
    wpAny (model X.prog X.w) X.A (call (.builtin id) (v :: us)) (EP X pins σ Q) X.xe s
theorem Vals.one : ∀ {x : V} {us : List Value},Vals [x] us → ∃ u,us = [u] ∧ RelV x u
  | _,_, .cons r .nil=>⟨_,rfl,r⟩
theorem Vals.zero : ∀ {us : List Value},Vals [] us → us = []
  | _, .nil=>rfl
theorem Vals.dropLast {xs : List V} {us : List Value} (h : Vals xs us) : Vals xs.dropLast us.dropLast := by
  induction h with
  | nil=>exact .nil
  | cons r t ih =>
    cases t with
    | nil=>exact .nil
    | cons q t'=>exact .cons r ih
theorem Vals.reverse {xs : List V} {us : List Value} (h : Vals xs us) : Vals xs.reverse us.reverse := by
  induction h with
  | nil=>exact .nil
  | cons r t ih=>rw [List.reverse_cons,List.reverse_cons]; exact Vals.append ih (.cons r .nil)
theorem erase_last {α : Type} (l : List α) : l.eraseIdx (l.length - 1) = l.dropLast := by
  induction l with
  | nil=>rfl
  | cons a r ih =>
    cases r with
    | nil=>rfl
    | cons b r =>
      have e : (a :: b :: r).length - 1 = ((b :: r).length - 1) + 1 := by
        have h1 : (a :: b :: r).length = r.length + 2 := rfl
        have h2 : (b :: r).length = r.length + 1 := rfl
        omega
      rw [e,List.eraseIdx_cons_succ,ih]
      all_goals rfl
section
variable {X : Cx} {pins : List (Addr × Obj)} {σ : St} {H : Hp} {s : Shared} {l b : Addr} {xs ys zs : List V}
theorem Inv.lset {its its' : List Value} {n : Nat} {f : Array Value → Array Value} {t' : Nat} (I : Inv X pins σ H s) (hH : H l = some (.lst xs))
    (e : s.heap.get? l = some { cls := .type "list",data := .seq its.toArray n }) (hf : f its.toArray = its'.toArray) (hv : Vals ys its') (hz : ys.length ≤ sizeLine) :
    Inv X pins σ (upd H l (.lst ys)) { s with heap := s.heap.update l (Obj.mapSeq f),toks := t' } := by
  have q := PySem.IsL.update e f
  rw [hf] at q
  refine I.write (x := l) (e := l) (by rw [hH]; exact trivial) (.inl rfl) (fun b' u hb hu=>(Heap.get?_update_other s.heap (Obj.mapSeq f) (Ne.symm hb)).trans hu) ⟨_,q⟩ ?_
  exact ⟨hz,its',_,hv,q⟩
theorem Inv.lnew {its : List Value} {t' : Nat} (I : Inv X pins σ H s) (hv : Vals ys its) (hz : ys.length ≤ sizeLine) :
    Inv X pins σ (upd H s.heap.objs.size (.lst ys)) { s with heap := s.heap.push { cls := .type "list",data := .seq its.toArray },toks := t' } :=
  I.laid (fun _ _ q=>Heap.get?_push_of_some _ q) (Nat.le_refl _) ⟨hz,its,0,hv,Heap.get?_push_size _ rfl⟩
theorem Inv.fresh (I : Inv X pins σ H s) : H s.heap.objs.size = none := I.hok.fresh (Nat.le_refl _)
theorem Inv.lstM (I : Inv X pins σ H s) (hH : H l = some (.lst xs)) : xs.length ≤ sizeLine ∧ ∃ (its : List Value) (n : Nat),Vals xs its ∧ xs.length = its.length ∧ s.heap.get? l = some { cls := .type "list",data := .seq its.toArray n } := by
  obtain ⟨z,its,n,r,e⟩ := I.hok l _ hH
  exact ⟨z,its,n,r,r.length,e⟩
theorem notLongL {n : Nat} (h : n ≤ sizeLine) : Builtin.List.listTooLong n = false := by
  unfold Builtin.List.listTooLong
  exact decide_eq_false (by omega)
end
section
variable {X : Cx}
def rAppend : V → List V → Hp → VK → Prop := fun x vs H Q=>∃ l xs y,x = .ref l ∧ vs = [y] ∧ H l = some (.lst xs) ∧ xs.length < sizeLine ∧ Q .non (upd H l (.lst (xs ++ [y])))
theorem mt_append : MtM X "list.append" rAppend := by
  intro pins s σ H x vs v us Q I rx rv h
  obtain ⟨l,xs,y,rfl,rfl,hH,hz,q⟩ := h
  cases rx
  obtain ⟨u,rfl,ru⟩ := rv.one
  obtain ⟨z,its,n,r,hl,e⟩ := I.lstM hH
  refine call_meets F.slot_list_append ⟨_,e,rfl⟩ F.entry_list_append (F.args_list_append_2 _ _) (PySem.list_append l its.toArray n u (by rw [List.size_toArray]; omega)) ⟨e,?_⟩
  refine ⟨.non,_,I.lset (its' := its ++ [u]) hH e (by simp) (r.append (.cons ru .nil)) ?_,rfl,q⟩
  rw [List.length_append,List.length_singleton]
  omega
def rExtend : V → List V → Hp → VK → Prop := fun x vs H Q=>∃ l b xs zs,x = .ref l ∧ vs = [.ref b] ∧ H l = some (.lst xs) ∧ H b = some (.lst zs) ∧ xs.length + zs.length ≤ sizeLine ∧ Q .non (upd H l (.lst (xs ++ zs)))
theorem mt_extend : MtM X "list.extend" rExtend := by
  intro pins s σ H x vs v us Q I rx rv h
  obtain ⟨l,b,xs,zs,rfl,rfl,hH,hB,hz,q⟩ := h
  cases rx
  obtain ⟨u,rfl,ru⟩ := rv.one
  cases ru
  obtain ⟨z,its,n,r,hl,e⟩ := I.lstM hH
  obtain ⟨z2,its2,n2,r2,hl2,e2⟩ := I.lstM hB
  have hsz : its.toArray.size + its2.toArray.size ≤ sizeLine := by rw [List.size_toArray,List.size_toArray]; omega
  have hlong : ¬ (!its.toArray.isEmpty && Builtin.List.listTooLong (its.toArray.size + its2.toArray.size)) = true := by
    rw [notLongL hsz,Bool.and_false]
    exact Bool.false_ne_true
  refine call_meets F.slot_list_extend ⟨_,e,rfl⟩ F.entry_list_extend (F.args_list_extend_2 _ _)
    (AutoSeq1.list_extend_list_list_0 l its.toArray n b its2.toArray n2 hlong (by rw [List.size_toArray]; omega) (by omega)) ⟨e,e2,?_⟩
  refine ⟨.non,_,I.lset (its' := its ++ its2) hH e (by simp) (r.append r2) ?_,rfl,q⟩
  rw [List.length_append]
  omega
def rPop : V → List V → Hp → VK → Prop := fun x vs H Q=>∃ l xs y,x = .ref l ∧ vs = [] ∧ H l = some (.lst xs) ∧ xs[xs.length - 1]? = some y ∧ Q y (upd H l (.lst xs.dropLast))
theorem mt_pop : MtM X "list.pop" rPop := by
  intro pins s σ H x vs v us Q I rx rv h
  obtain ⟨l,xs,y,rfl,rfl,hH,hy,q⟩ := h
  cases rx
  have hus := rv.zero
  subst hus
  obtain ⟨z,its,n,r,hl,e⟩ := I.lstM hH
  obtain ⟨u,hu,ru⟩ := r.get hy
  have hy' : its.toArray[its.toArray.size - 1]? = some u := by
    show its.toArray[its.length - 1]? = some u
    rw [← Array.getElem?_toList,← hl]
    exact hu
  refine call_meets F.slot_list_pop ⟨_,e,rfl⟩ F.entry_list_pop (F.args_list_pop_1 _) (MeetsSeq.list_pop_last l its.toArray n u hy' (by rw [List.size_toArray]; omega)) ⟨e,?_⟩
  refine ⟨y,_,I.lset (its' := its.dropLast) hH e ?_ r.dropLast ?_,ru,q⟩
  · show its.toArray.eraseIdxIfInBounds (its.toArray.size - 1) = its.dropLast.toArray
    rw [List.size_toArray,List.eraseIdxIfInBounds_toArray,erase_last]
  · rw [List.length_dropLast]
    omega
def rReverse : V → List V → Hp → VK → Prop := fun x vs H Q=>∃ l xs,x = .ref l ∧ vs = [] ∧ H l = some (.lst xs) ∧ Q .non (upd H l (.lst xs.reverse))
theorem mt_reverse : MtM X "list.reverse" rReverse := by
  intro pins s σ H x vs v us Q I rx rv h
  obtain ⟨l,xs,rfl,rfl,hH,q⟩ := h
  cases rx
  have hus := rv.zero
  subst hus
  obtain ⟨z,its,n,r,hl,e⟩ := I.lstM hH
  refine call_meets F.slot_list_reverse ⟨_,e,rfl⟩ F.entry_list_reverse (F.args_list_reverse_1 _) (AutoSeq1.list_reverse_list_0 l its.toArray n (by rw [List.size_toArray]; omega)) ⟨e,?_⟩
  refine ⟨.non,_,I.lset (its' := its.reverse) hH e (by simp) r.reverse ?_,rfl,q⟩
  rw [List.length_reverse]
  omega
def rCat : R2 := fun x y H Q=>∃ l b xs zs,x = .ref l ∧ y = .ref b ∧ H l = some (.lst xs) ∧ H b = some (.lst zs) ∧ xs.length + zs.length ≤ sizeLine ∧ ∀ p,H p = none → Q (.ref p) (upd H p (.lst (xs ++ zs)))
theorem op_cat : OpR X (binaryOp .Add) rCat := by
  intro pins s σ H x y v u Q I rx ry h
  obtain ⟨l,b,xs,zs,rfl,rfl,hH,hB,hz,q⟩ := h
  cases rx
  cases ry
  obtain ⟨z,its,n,r,hl,e⟩ := I.lstM hH
  obtain ⟨z2,its2,n2,r2,hl2,e2⟩ := I.lstM hB
  refine PySem.P.add_list e e2 ?_ (by rw [List.size_toArray,List.size_toArray]; omega)
  have ea : its.toArray ++ its2.toArray = (its ++ its2).toArray := by simp
  rw [ea]
  exact ⟨.ref _,_,I.lnew (t' := s.toks) (r.append r2) (by rw [List.length_append]; omega),rfl,q _ I.fresh⟩
theorem len_rep {α : Type} (xs : List α) (k : Nat) : (List.replicate k xs).flatten.length = k * xs.length := by
  induction k with
  | zero=>simp
  | succ k ih=>rw [List.replicate_succ,List.flatten_cons,List.length_append,ih,Nat.succ_mul,Nat.add_comm]
end
section
variable {prog : Program} {w : World} {A : Around} {E : Value → Shared → Prop} {s : Shared}
end
section
variable {X : Cx}
end
end L2
namespace Att
open PySem PySem.W PySem.Calls PyProof.Rows
theorem ints_of_wellAll {P : Params} {h : Heap} : ∀ (ns : List Int) (vs : List Value),WellAll P h vs (ns.map WData.int) → IntsAre vs ns := by
  intro ns
  induction ns with
  | nil =>
    intro vs w
    rw [List.map_nil] at w
    cases w
    exact .nil
  | cons n ns ih =>
    intro vs w
    rw [List.map_cons] at w
    cases w with
    | cons a b =>
      cases a
      exact .cons _ _ (ih _ b)
theorem script_of {l : OpenLaw} {n : Nat} (hn : l.most = some n) {P : Params} {h : Heap} {args : List WData} {vals : List Value}
    (hpre : l.row.toRowW.claim.pre args = true) (hwl : WellAll P h vals args) :
    ∃ a vs ns,vals = [Value.ref a] ∧ args = [WData.list (ns.map WData.int)] ∧ h.get? a = some { cls := .type "list",data := .seq vs.toArray } ∧ IntsAre vs ns ∧ ns.length ≤ n := by
  have hsh : WShape.hasAll [] args [.list .int] = true := (pre_splitW hpre).1
  have hc : l.pre.holds [] { args := args } = true := (pre_splitW hpre).2
  obtain ⟨d,r,rfl,h1,h2⟩ := hasAllW_cons hsh
  obtain rfl := hasAllW_nil h2
  obtain ⟨xs,rfl,h3⟩ := hasW_list h1
  obtain ⟨ns,rfl⟩ := items_int h3
  have hlen : ns.length ≤ n := by
    unfold OpenLaw.pre at hc
    have h4 : (WTm.not (.lt (.lit (.int (n : Int))) (.len (.arg 0)))).holds [] { args := [.list (ns.map .int)] } = true := by
      have h4 := (holds_andW hc).1
      rw [hn] at h4
      exact h4
    have h5 := condW_of h4 (w_not (w_lt w_lit (w_len_list (w_arg rfl))))
    rw [List.length_map] at h5
    refine Nat.le_of_not_lt fun q=>?_
    have q' : (n : Int) < ((ns.length : Nat) : Int) := by omega
    first
      | (rw [decide_eq_true q'] at h5; exact absurd h5 (by decide))
      | (simp at h5; omega)
  cases hwl with
  | cons w1 w2 =>
    cases w2
    cases w1 with
    | list ho hall=>exact ⟨_,_,ns,rfl,rfl,ho,ints_of_wellAll ns _ hall,hlen⟩
theorem post_true (l : OpenLaw) (args : List WData) : l.row.toRowW.claim.post args (.bool true) args = true :=
  postW_of (r := l.row.toRowW) (X := (true == true))
    (show WShape.has [] (.bool true) .bool = true by first | rfl | decide | simp [WShape.has,WShape.arms,WShape.armsAll])
    (show (WTm.eq .res (.lit (.bool true))).value [] { args := args,res := some (.bool true),after := args } = some (.bool (true == true)) from w_eq_bool (w_res rfl) w_lit) rfl
theorem attach_call {l : OpenLaw} {n : Nat} {q : Program} {loose : List Str} {XP : (Str → Option Value) → Heap → Prop} {YP : World → Heap → Prop} {d : DefRec}
    (hn : l.most = some n) (hdf : d.params.defaults = [])
    (call : ∀ (w : World) (s₀ s₁ : Shared) (mg mb : Str → Option Value) (fa : Addr) (o : Obj) (pm cd doc : Value) (a : Addr) (vs : List Value) (ns : List Int),
      Ground q loose [] XP w s₀ mg mb s₁.heap → YP w s₁.heap →
      s₁.heap.get? fa = some o → o.data = .func (docDef d.name d.params d.body d.scope pm cd doc) → s₁.heap.CodeRec cd d.name → mg d.name = some (.ref fa) →
      s₁.heap.get? a = some { cls := .type "list",data := .seq vs.toArray } → IntsAre vs ns → ns.length ≤ n → s₁.gens = #[] →
      codeAny (model l.prog w) callerA (.call (.ref fa) ⟨[.ref a],[]⟩) (fun r s'=>r = .ok (.ret (.bool true)) ∧ OldK s₁.heap s'.heap ∧ s'.os = s₁.os ∧ AllBare s'.gens) s₁) :
    WalkO q loose XP YP l.row.toRowW d [] (fun f vs=>PySem.call f vs) := by
  intro w s₀ s₁ mg mb G Y fa o pm cd doc dV kV ho hd hcd hD hmg hg args vals as hpre hlay hrd hwl hlo
  obtain rfl : dV = .none := Dflts.none hD hdf
  obtain rfl : kV = .none := Dflts.noKw hD
  obtain ⟨a,vs,ns,rfl,rfl,hobj,hints,hlen⟩ := script_of hn hpre hwl
  refine enter_call (codeAny_mono (call w s₀ s₁ mg mb fa o pm cd doc a vs ns G Y ho (fd_plain hd) hcd hmg hobj hints hlen hg) fun r s' hq=>?_)
  obtain ⟨rfl,h2,h3,h4⟩ := hq
  exact ⟨.inl ⟨.bool true, .bool true,[],rfl,fun _=>rfl, .bool true,post_true l _,fun _=>⟨List.Pairwise.nil,fun _ hm=>(nomatch hm)⟩⟩,h2,h3,h4⟩
section
variable {prog : Program} {w : World} {A : Around} {E : Value → Shared → Prop} {s : Shared} {K : Frag}
end
end Att
namespace L2
open PySem PySem.Spec PyProof.Rows
theorem vals_ints : ∀ {vs : List Value} {ns : List Int},IntsAre vs ns → Vals (ns.map V.int) vs
  | _,_, .nil=>.nil
  | _,_, .cons n t h=>.cons ⟨t,rfl⟩ (vals_ints h)
end L2
namespace L2
open PySem PySem.Spec PyProof.Rows
end L2
namespace L2
open PySem PySem.Spec PyProof.Rows
def inClass (s : Stmt) (j : Nat) : Stmt := match s with
  | .ClassDef _ _ _ body _ _ _ _ _ _ _=>body.getD j (.Pass ⟨0,0,0,0⟩)
  | _=>.Pass ⟨0,0,0,0⟩
def defArgs (s : Stmt) : Arguments := match s with
  | .FunctionDef _ a _ _ _ _ _ _ _ _=>a
  | _=>{ posonlyargs := [],args := [],vararg := none,kwonlyargs := [],kw_defaults := [],kwarg := none,defaults := [] }
def defBody (s : Stmt) : List Stmt := match s with
  | .FunctionDef _ _ b _ _ _ _ _ _ _=>b
  | _=>[]
def defScope (s : Stmt) : Scope := match s with
  | .FunctionDef _ _ _ _ _ _ sc _ _ _=>sc
  | _=>{ kind := .function,names := [],isGenerator := false,isCoroutine := false }
abbrev CX0 : CXT := fun _ _ _ _ _ _=>False
abbrev E0 : XK := fun _ _ _=>False
theorem pass0 {X : Cx} : Passes CX0 X E0 := fun _ _ _ _ _ _ _ h=>h.elim
structure Fun (K : PySem.W.Frag) (x qual : Str) (st : Stmt) (f : Addr) (fd : FuncData) : Prop where
  ex : ∃ (oc : Value) (od : Option Addr) (kV doc pm : Value) (an : Option Addr) (cdv ct : Value) (osl : Array (Option Value)),
    fd = PySem.W.fnOf x qual (defArgs st) (defBody st) (defScope st) .none kV doc pm an cdv ct ∧ K.lookup f = some ⟨oc,od, .func fd,osl⟩ ∧ PySem.W.codeIn K cdv qual = true
  kp : PySem.W.keepIn K (.ref f) = true
section
variable {P : Program} {w : World} {K : PySem.W.Frag} {mg : Str → Option Value} {base : Heap}
theorem Fun.ok {x qual : Str} {st : Stmt} {f : Addr} {fd : FuncData} {N ps : List Str} {k : Nat} {sp : Sp} (F : Fun K x qual st f fd) (S : FnScope N ps (defScope st)) (len : ∀ vs H Q E,sp vs H Q E → vs.length = ps.length)
    (hbody : ∀ (cdv : Value) (A : Around) (outer : List Env) (s : Shared) (H : Hp) (vs : List V) (Q : VK) (E : XK),Room k (A.deeper (envOfC qual (defScope st) s.heap.objs.size f cdv)) → sp vs H Q E →
      ∃ t,PSs (cxOf CX0 P w K mg base N qual (defScope st) f cdv A outer s H E).nox (defBody st) t ∧ t { nx := fun _ H'=>Q .non H',rt := Q } (start N vs) H) : FnOk P w K mg base CX0 (k + 1) f fd ps sp := by
  obtain ⟨oc,od,kV,doc,pm,an,cdv,ct,osl,rfl,lk,hcd⟩ := F.ex
  refine fn_of lk hcd S len fun A outer s H vs Q E hr hsp=>?_
  obtain ⟨t,h,q⟩ := hbody cdv A outer s H vs Q E hr hsp
  exact ⟨t,h.nox,q⟩
theorem Fun.binds {x qual : Str} {st : Stmt} {f : Addr} {fd : FuncData} {ps : List Str} (F : Fun K x qual st f fd)
    (h : ∀ (kV doc pm : Value) (an : Option Addr) (cdv ct : Value) (us : List Value),us.length = ps.length → bindArgs (PySem.W.fnOf x qual (defArgs st) (defBody st) (defScope st) .none kV doc pm an cdv ct) ⟨us,[]⟩ = pure (ps.zip us)) : Binds K fd ps [] := by
  obtain ⟨oc,od,kV,doc,pm,an,cdv,ct,osl,rfl,lk,hcd⟩ := F.ex
  exact .all (h kV doc pm an cdv ct)
theorem fun_mk {x qual : Str} {st : Stmt} {f : Addr} {oc : Value} {od an : Option Addr} {osl : Array (Option Value)} {kV doc pm cdv ct : Value} (l : K.lookup f = some ⟨oc,od, .func (PySem.W.fnOf x qual (defArgs st) (defBody st) (defScope st) .none kV doc pm an cdv ct),osl⟩)
    (c : PySem.W.codeIn K cdv qual = true) (k : PySem.W.keepIn K (.ref f) = true) : Fun K x qual st f (PySem.W.fnOf x qual (defArgs st) (defBody st) (defScope st) .none kV doc pm an cdv ct) := ⟨⟨oc,od,kV,doc,pm,an,cdv,ct,osl,rfl,l,c⟩,k⟩
end
theorem hu_of {A : Around} {k : Nat} (hr : Room k A) : A.units + 1 < cLine := Nat.lt_of_le_of_lt (Nat.add_le_add_left (by decide : 1 ≤ 64) _) hr.units
section
variable {X : Cx}
theorem pv (i : Nat) {x : Str} {pos : Pos} (hN : X.N[i]? = some x := by rfl) (hv : Vis X.env.scope x := by first | exact Or.inl rfl | exact Or.inr (Or.inl rfl) | exact Or.inr (Or.inr rfl)) (hd : (x == ("__debug__" : Str)) = false := by decide)
    (hcd : (x == ("__classdict__" : Str)) = false := by decide) : PE X (.Name x pos) (tVar i) := pe_var hN hv hd hcd
end
theorem iteF {A B : Prop} (h : B) : if false = true then A else B := by
  rw [if_neg Bool.false_ne_true]
  exact h
theorem iteT {A B : Prop} (h : A) : if true = true then A else B := by
  rw [if_pos rfl]
  exact h
theorem ite2 {c A B : Prop} [Decidable c] (h1 : c → A) (h2 : ¬ c → B) : if c then A else B := by
  by_cases h : c
  · rw [if_pos h]
    exact h1 h
  · rw [if_neg h]
    exact h2 h
def Same (H H' : Hp) : Prop := ∀ b o,H b = some o → H' b = some o
theorem Same.refl (H : Hp) : Same H H := fun _ _ h=>h
theorem Same.trans {H H1 H2 : Hp} (a : Same H H1) (b : Same H1 H2) : Same H H2 := fun c o h=>b c o (a c o h)
theorem Same.free {H H' : Hp} (e : Same H H') {l : Addr} (h : H' l = Option.none) : H l = Option.none := by
  cases q : H l with
  | none=>rfl
  | some o =>
    rw [e l o q] at h
    cases h
theorem Same.seq {K : PySem.W.Frag} {H H' : Hp} {a : Addr} {xs : List V} (e : Same H H') (h : SqL K H a xs) : SqL K H' a xs := by
  rcases h with (h | ⟨o,h⟩) | h
  · exact .inl (.inl (e _ _ h))
  · exact .inl (.inr ⟨o,e _ _ h⟩)
  · exact .inr h
end L2
set_option Elab.async false
set_option linter.all false
set_option maxRecDepth 100000
namespace L2
open PySem PySem.Spec PyProof.Rows
def closL (cells : List (Str × Addr)) : List (Str × NameKind) → List (Str × Addr) → List (Str × Addr)
  | [],acc=>acc
  | (n,k) :: r,acc=>if k == .free then (match cells.lookup n with | some c=>closL cells r ((n,c) :: acc) | none=>closL cells r acc) else closL cells r acc
theorem closL_forIn {env : Env} : ∀ (names : List (Str × NameKind)) (acc : List (Str × Addr)),(∀ p ∈ names,p.2 = .free → ∃ c,env.cells.lookup p.1 = some c) →
    (forIn names acc fun (x : Str × NameKind) (r : List (Str × Addr))=>(if (x.2 == NameKind.free) = true then (do let a ← cellOf env x.1; pure (ForInStep.yield ((x.1,a) :: r))) else pure (ForInStep.yield r) : Sem (ForInStep (List (Str × Addr))))) = pure (closL env.cells names acc) := by
  intro names
  induction names with
  | nil=>intro acc _; rfl
  | cons p r ih =>
    intro acc h
    obtain ⟨n,k⟩ := p
    rw [List.forIn_cons]
    cases hk : k == NameKind.free with
    | false =>
      simp only [hk,Bool.false_eq_true,if_false,pure_bind,closL]
      exact ih acc fun q hq=>h q (List.mem_cons_of_mem _ hq)
    | true =>
      have e : k = .free := by simpa using hk
      obtain ⟨c,hc⟩ := h (n,k) List.mem_cons_self e
      simp only [hk,if_true,closL,cellOf,hc,pure_bind]
      exact ih _ fun q hq=>h q (List.mem_cons_of_mem _ hq)
theorem closL_eq {scope : Scope} {env : Env} (h : ∀ p ∈ scope.names,p.2 = .free → ∃ c,env.cells.lookup p.1 = some c) : closureFor scope env = pure (closL env.cells scope.names []) := by
  have q := closL_forIn (env := env) scope.names [] h
  simp only [closureFor]
  first
    | exact q
    | (rw [← q]; simp)
    | simpa using q
theorem closL_look {cells : List (Str × Addr)} : ∀ (names : List (Str × NameKind)) (acc : List (Str × Addr)) (y : Str) (c : Addr),(closL cells names acc).lookup y = some c → cells.lookup y = some c ∨ acc.lookup y = some c := by
  intro names
  induction names with
  | nil=>intro acc y c h; exact .inr h
  | cons p r ih =>
    intro acc y c h
    obtain ⟨n,k⟩ := p
    unfold closL at h
    split at h
    · split at h
      · rename_i c' hc
        rcases ih _ y c h with q | q
        · exact .inl q
        · rw [List.lookup_cons] at q
          cases e : y == n with
          | true =>
            rw [e] at q
            have e' : y = n := by simpa using e
            subst e'
            have q' : some c' = some c := q
            rw [← q']; exact .inl hc
          | false=>rw [e] at q; exact .inr q
      · exact ih _ y c h
    · exact ih _ y c h
theorem closL_acc {cells : List (Str × Addr)} : ∀ (names : List (Str × NameKind)) (acc : List (Str × Addr)) (y : Str),(∃ c,acc.lookup y = some c) → ∃ c,(closL cells names acc).lookup y = some c := by
  intro names
  induction names with
  | nil=>intro acc y h; exact h
  | cons p r ih =>
    intro acc y h
    obtain ⟨n,k⟩ := p
    unfold closL
    split
    · split
      · refine ih _ y ?_
        rw [List.lookup_cons]
        cases e : y == n with
        | true=>exact ⟨_,rfl⟩
        | false=>exact h
      · exact ih _ y h
    · exact ih _ y h
theorem closL_has {cells : List (Str × Addr)} : ∀ (names : List (Str × NameKind)) (acc : List (Str × Addr)) (y : Str),(y,NameKind.free) ∈ names → (∃ c,cells.lookup y = some c) → ∃ c,(closL cells names acc).lookup y = some c := by
  intro names
  induction names with
  | nil=>intro acc y h _; cases h
  | cons p r ih =>
    intro acc y h hc
    obtain ⟨n,k⟩ := p
    unfold closL
    rcases List.mem_cons.mp h with e | h
    · cases e
      obtain ⟨c,hc⟩ := hc
      simp only [beq_self_eq_true,if_true,hc]
      exact closL_acc _ _ _ ⟨c,by rw [List.lookup_cons,beq_self_eq_true]⟩
    · split
      · split
        · exact ih _ y h hc
        · exact ih _ y h hc
      · exact ih _ y h hc
def cxComp (X : Cx) (N' : List Str) (scope : Scope) (C : Addr) (s₀ : Shared) (H₀ : Hp) (ex : List Addr) : Cx :=
  { X with N := N',s₀ := s₀,H₀ := H₀,env := compEnvC scope (closL X.env.cells scope.names []) C X.env,outer := X.stack,stack := X.stack,ex := ex,fn := fun _=>false,xe := fun _ _=>False }
def PTs (X : Cx) (ifs : List Expr) (t : TT) : Prop :=
  ∀ (pins : List (Addr × Obj)) (s : Shared) (σ : St) (H : Hp) (Q : Bool → Hp → Prop),Inv X pins σ H s → t σ H Q →
    wpAny (model X.prog X.w) X.A (forIn ifs true fun c r=>if r = true then do let ok ← isTrue c X.env (eval c X.env); pure (ForInStep.yield ok) else pure (ForInStep.yield r)) (TP X pins σ Q) X.xe s
def tTrue : TT := fun _ H Q=>Q true H
theorem pts_nil {X : Cx} : PTs X [] tTrue := fun _ _ _ H _ I h=>wpAny_tests_nil ⟨H,I,h⟩
theorem pts_one {X : Cx} {c : Expr} {t : TT} (h : PT X c t) : PTs X [c] t := fun pins s σ H Q I q=>wpAny_tests_one (h pins s σ H Q I q)
section
variable {prog : Program} {w : World} {A : Around} {R : Result → Shared → Prop} {s : Shared}
theorem compLoop_go {elt target iter : Expr} {ifs : List Expr} {scope : Scope} {pos : Pos} {it acc : Value} {env : Env} (I : Nat → Shared → Prop)
    (turn : ∀ n s,I n s → wpAny (model prog w) A (pyNext it) (fun r s₁=>match r with
      | none=>R (.ok .next) s₁
      | some v=>wpAny (model prog w) A (letOwnedTupleGo target it v) (fun _ s₀=>wpAny (model prog w) A (assign target env v) (fun _ s₂ =>
          wpAny (model prog w) A (forIn ifs true fun c r=>if r = true then do let ok ← isTrue c env (eval c env); pure (ForInStep.yield ok) else pure (ForInStep.yield r)) (fun ok s₃ =>
            if ok = true then wpAny (model prog w) A (eval elt env) (fun x s₄ =>
              wpAny (model prog w) A (call (.builtin "list.append") [acc,x]) (fun _ s₅=>∃ m,m < n ∧ I m s₅) (fun _ _=>False) s₄) (fun _ _=>False) s₃
            else ∃ m,m < n ∧ I m s₃) (fun _ _=>False) s₂) (fun _ _=>False) s₀) (fun _ _=>False) s₁) (fun _ _=>False) s)
    (n : Nat) (h : I n s) :
    codeAny (model prog w) A (.compLoop (.ListComp elt [⟨target,iter,ifs,0⟩] scope pos) 0 it acc env) R s := by
  refine codeAny_loop rfl I (fun n s hI=>?_) n h
  show wpAny _ A ((compTurn (.ListComp elt [⟨target,iter,ifs,0⟩] scope pos) 0 it acc env).onRaise (fun x=>do noteFrame x env; theTreesLotGoes x)) _ _ s
  refine wpAny_noted ?_
  rw [compTurn_list]
  refine wpAny_bind (wpAny_standAt (wpAny_bind (wpAny_mono (turn n s hI) (fun r s₁ h₁=>?_) fun _ _ h'=>h'.elim)))
  cases r with
  | none=>exact wpAny_pure h₁
  | some v =>
    refine wpAny_bind (wpAny_mono h₁ (fun _ s₀ h₀=>?_) fun _ _ h'=>h'.elim)
    refine wpAny_bind (wpAny_mono h₀ (fun _ s₂ h₂=>wpAny_bind (wpAny_mono h₂ (fun ok s₃ h₃=>?_) fun _ _ h'=>h'.elim)) fun _ _ h'=>h'.elim)
    cases ok with
    | false=>exact wpAny_pure ⟨rfl,h₃⟩
    | true =>
      exact wpAny_bind (wpAny_bind (wpAny_mono h₃ (fun x s₄ h₄=>wpAny_bind (wpAny_mono h₄ (fun _ s₅ h₅=>wpAny_pure (wpAny_pure ⟨rfl,h₅⟩)) fun _ _ h'=>h'.elim)) fun _ _ h'=>h'.elim))
end
structure CompScope (X : Cx) (x : Str) (frees : List Str) (idx : List Nat) (scope : Scope) : Prop where
  kind : scope.kind = .function
  nocell : ∀ y ∈ scope.names,y.2 ≠ .cell
  loc : ∀ y ∈ scope.names,y.2 = .local → scope.names.lookup y.1 = some .local
  tgt : scope.names.lookup x = some .local
  nd : (x :: frees).Nodup
  fr : ∀ y ∈ scope.names,y.2 = .free → X.env.kindOf y.1 = some .cell ∨ X.env.kindOf y.1 = some .free
  ix : ∀ (j : Nat) (y : Str),frees[j]? = some y → ∃ k,idx[j]? = some k ∧ X.N[k]? = some y
  len : idx.length = frees.length
  cl : ∀ y ∈ frees,(y,NameKind.free) ∈ scope.names
def outs (σ : St) (idx : List Nat) : St := idx.map fun k=>(σ[k]?).join
def CompW (J : It) (tt : TT) (te : TE) (σ' : St) (Q : VK) (H1 : Hp) : Prop := ∃ W : Nat → Nat → List V → Hp → Prop,(∃ m,W 0 m [] H1) ∧ ∀ i m vs H2,W i m vs H2 →
  vs.length < sizeLine ∧ ((J.stop i H2 ∧ ∀ l,H2 l = none → Q (.ref l) (upd H2 l (.lst vs))) ∨
    (J.go i H2 ∧ ∀ x H3,J.yld i H2 x H3 → tt (some x :: σ') H3 fun b H4=>if b = true then te (some x :: σ') H4 fun v H5=>∃ m',m' < m ∧ W (i + 1) m' (vs ++ [v]) H5 else ∃ m',m' < m ∧ W (i + 1) m' vs H4))
def tComp (idx : List Nat) (wi : TI) (tt : TT) (te : TE) : TE := fun σ H Q=>wi σ H fun J H1=>CompW J tt te (outs σ idx) Q H1
theorem Vals.snoc {xs : List V} {us : List Value} {x : V} {u : Value} (h : Vals xs us) (r : RelV x u) : Vals (xs ++ [x]) (us ++ [u]) := Vals.append h (.cons r .nil)
theorem mem_of_lookup' {α β : Type} [BEq α] [LawfulBEq α] : ∀ {l : List (α × β)} {x : α} {b : β},l.lookup x = some b → (x,b) ∈ l
  | [],_,_,h=>by simp at h
  | (n,k) :: r,x,b,h=>by
    rw [List.lookup_cons] at h
    cases e : x == n with
    | true =>
      rw [e] at h
      have e' : x = n := by simpa using e
      have h' : k = b := Option.some.inj h
      subst e' h'
      exact List.mem_cons_self
    | false=>rw [e] at h; exact List.mem_cons_of_mem _ (mem_of_lookup' h)
theorem relabel_free {scope : Scope} {env : Env} {y : Str} (h : (relabel scope env).names.lookup y = some .cell ∨ (relabel scope env).names.lookup y = some .free) (hc : ∀ y ∈ scope.names,y.2 ≠ .cell) : (y,NameKind.free) ∈ scope.names := by
  have q : ∃ k,(y,k) ∈ (relabel scope env).names ∧ (k = .cell ∨ k = .free) := by
    rcases h with h | h
    · exact ⟨_,mem_of_lookup' h, .inl rfl⟩
    · exact ⟨_,mem_of_lookup' h, .inr rfl⟩
  obtain ⟨k,hm,hk⟩ := q
  obtain ⟨⟨n,k'⟩,hm',e⟩ := List.mem_map.mp hm
  dsimp only at e
  split at e
  · rename_i hf
    cases e
    have : k' = .free := by
      simp only [Bool.and_eq_true,beq_iff_eq] at hf
      exact hf.1.1
    subst this
    exact hm'
  · cases e
    rcases hk with rfl | rfl
    · exact absurd rfl (hc _ hm')
    · exact hm'
end L2
set_option Elab.async false
set_option linter.all false
set_option maxRecDepth 100000
namespace L2
open PySem PySem.Spec PyProof.Rows
theorem lookup_relabel_free {env : Env} : ∀ {names : List (Str × NameKind)} {x : Str},names.lookup x = some .free →
    ((names.map fun (n,k)=>if (k == NameKind.free && env.scope.kind == .function && env.kindOf n == some .cell) then (n,NameKind.cell) else (n,k)).lookup x = some .cell ∨
     (names.map fun (n,k)=>if (k == NameKind.free && env.scope.kind == .function && env.kindOf n == some .cell) then (n,NameKind.cell) else (n,k)).lookup x = some .free)
  | [],_,h=>by simp at h
  | (n,k) :: r,x,h=>by
    have ih := @lookup_relabel_free env r x
    rw [List.map_cons]
    cases hx : x == n with
    | true =>
      simp only [List.lookup_cons,hx] at h
      have hk : k = .free := Option.some.inj h
      subst hk
      by_cases hc : (NameKind.free == NameKind.free && env.scope.kind == .function && env.kindOf n == some .cell) = true
      · left
        simp only [hc,if_true,List.lookup_cons,hx]
      · right
        simp only [hc,if_false,List.lookup_cons,hx,Bool.false_eq_true]
    | false =>
      simp only [List.lookup_cons,hx] at h
      by_cases hc : (k == NameKind.free && env.scope.kind == .function && env.kindOf n == some .cell) = true
      · simp only [hc,if_true,List.lookup_cons,hx]; exact ih h
      · simp only [hc,if_false,List.lookup_cons,hx,Bool.false_eq_true]; exact ih h
theorem Inv.track {X : Cx} {pins : List (Addr × Obj)} {σ : St} {H : Hp} {s : Shared} {D : Addr} {vs : List V} {its : List Value} {k : Nat} (I : Inv X pins σ H s) (hD : H D = none) (hz : vs.length ≤ sizeLine) (hv : Vals vs its)
    (e : s.heap.get? D = some { cls := .type "list",data := .seq its.toArray k }) (h1 : D ∈ X.ex ∨ X.s₀.heap.objs.size ≤ D) (h2 : D ≠ X.env.locals) (h3 : ∀ x c,X.env.cells.lookup x = some c → c ≠ D) (h4 : ∀ p ∈ X.pn ++ pins,p.1 ≠ D) :
    Inv X pins σ (upd H D (.lst vs)) s := by
  obtain ⟨hh,g,d,t,o⟩ := s
  have nD : ∀ b u,H b = some u → b ≠ D := fun b u q z=>by rw [z,hD] at q; cases q
  refine I.step (g' := g) (d' := d) (t' := t) (h' := hh) (ch := [D]) (fun b hb=>?_) (fun b o _ _ _ q _=>q) (fun b o _ _ _ q _=>⟨o.slots,q⟩) (fun b o hb q n=>?_) (fun b o _ q=>⟨o,q⟩)
    (fun b xs q=>by rw [upd_ne (nD b _ q)]; exact q) (fun b o u q=>by rw [upd_ne (nD b _ q)]; exact q) (fun b ps q=>⟨#[],by rw [upd_ne (nD b _ q),q]; simp⟩) (fun m q=>q) (fun b u q=>?_) I.bare
  · have z : b = D := by simpa using hb
    subst z
    exact ⟨h1,h2,h3,h4⟩
  · rw [upd_ne (by simpa using hb)]; exact n
  · by_cases z : b = D
    · subst z
      rw [upd_same] at q; cases q
      exact ⟨hz,its,k,hv,e⟩
    · rw [upd_ne z] at q
      exact (I.hok b u q).stay (fun _ _ _ q=>q) (fun c q=>by rw [upd_ne (nD c _ q)]; exact q) fun c xs q=>by rw [upd_ne (nD c _ q)]; exact q
theorem pe_lcomp {X : Cx} {elt iter : Expr} {x : Str} {px pos : Pos} {ifs : List Expr} {scope : Scope} {frees : List Str} {idx : List Nat} {wi : TI} {tt : TT} {te : TE}
    (hc : X.calm = true) (S : CompScope X x frees idx scope) (hfl : ∀ y ∈ frees,scope.names.lookup y = some .free) (hi : PI X (.Name x px) iter wi)
    (ht : ∀ C s₀ H₀ ex,PTs (cxComp X (x :: frees) scope C s₀ H₀ ex) ifs tt) (he : ∀ C s₀ H₀ ex,PE (cxComp X (x :: frees) scope C s₀ H₀ ex) elt te)
    (hs : ∀ v,foldedSetIterable iter X.env v = pure v := by intro _; rfl) : PE X (.ListComp elt [⟨.Name x px,iter,ifs,0⟩] scope pos) (tComp idx wi tt te) := by
  intro pins s σ H Q I h
  rw [eval_ListComp]
  have hclos := closL_eq (scope := scope) (env := X.env) fun p hp hf=>I.ok.has p.1 (S.fr p hp hf)
  refine wpAny_comprehension_free (use := none) rfl hs hclos S.kind S.loc (thn (hi pins s σ H _ I h) fun v s1 h1=>thn h1 fun itv s2 h2=>?_)
  obtain ⟨it,fp,tn,J,H2,rfl,I2,T,st2,f2,W,⟨m0,w0⟩,turn⟩ := h2
  refine wpAny_newObj_type (wpAny_newFunctionEnv S.nocell (by intro y hy; simp at hy) (fun h₁ hns₁ hsb₁=>?_) S.kind)
  dsimp only at hns₁ hsb₁ ⊢
  generalize hH2 : s2.heap.push { cls := .type "list",dict := none,data := .seq ([] : List Value).toArray } = G2 at hns₁ hsb₁ ⊢
  have hCe : G2.objs.size = s2.heap.objs.size + 1 := by rw [← hH2,Heap.size_push]
  generalize hC : G2.objs.size = C at hns₁ hsb₁ hCe ⊢
  have hCle : s2.heap.objs.size ≤ C := by omega
  have hDC : s2.heap.objs.size ≠ C := by omega
  have below : ∀ b,b < s2.heap.objs.size → b ≠ C := fun b hb=>by omega
  have old : ∀ b o,s2.heap.get? b = some o → h₁.get? b = some o := fun b o e=>hsb₁.extBut b o (below b (Heap.lt_size e)) (Heap.get?_push_of_some _ (hH2 ▸ Heap.get?_push_of_some _ e))
  have hacc : ∃ k,h₁.get? s2.heap.objs.size = some { cls := .type "list",data := .seq ([] : List Value).toArray k } := ⟨_,hsb₁.extBut _ _ hDC (Heap.get?_push_of_some _ (hH2 ▸ Heap.get?_push_size _ rfl))⟩
  have look : ∀ y c,(closL X.env.cells scope.names []).lookup y = some c → X.env.cells.lookup y = some c := fun y c e=>by
    rcases closL_look _ _ y c e with q | q
    · exact q
    · cases q
  have fpD : ∀ b ∈ fp,b < s2.heap.objs.size := fun b hb=>by
    obtain ⟨o,e,_⟩ := T.obj _ _ st2 b hb
    exact Heap.lt_size e
  have ok' : (cxComp X (x :: frees) scope C s2 H2 fp).Ok := {
    mod := I2.ok.mod
    kind := S.kind
    glob := I2.ok.glob
    blt := I2.ok.blt
    above := hCle
    inj := fun y z c e1 e2=>I2.ok.inj y z c (look y c e1) (look z c e2)
    has := fun y hy=>by
      have q := relabel_free (scope := scope) (env := X.env) hy S.nocell
      exact closL_has _ _ y q (I2.ok.has y (S.fr _ q rfl))
    cab := fun y c hf=>by cases hf
    hd := I2.ok.hd
    frames := I2.ok.frames
    stk := .inl rfl
    exf := fun b hb=>⟨below b (fpD b hb),fun y c e=>(f2 b hb).2.2.2.2.1 y c (look y c e)⟩
    bs := I2.bs
    bsz := Nat.le_trans I2.ok.bsz I2.sz
    noex := fun b o e hb=>by
      rcases (f2 b hb).2.2.2.1 with z | z
      · exact I2.ok.noex b o e z
      · exact absurd (Nat.lt_of_lt_of_le (Heap.lt_size e) (Nat.le_trans I2.ok.bsz z)) (Nat.lt_irrefl _)
    exfs := fun b hb hf=>by
      rcases List.mem_cons.mp (I2.stkSub b hf) with z | z
      · exact (f2 b hb).2.1 z
      · exact (f2 b hb).2.2.1 z
    funs := I2.stack
    frf := I2.stkFree }
  have Dfs : s2.heap.objs.size ∉ frs X.stack := fun hb=>by
    rcases List.mem_cons.mp (I2.stkSub _ hb) with z | z
    · have q := I2.lt
      rw [← z] at q
      exact Nat.lt_irrefl _ q
    · exact I2.nofs (Nat.le_refl _) z
  have Dcell : ∀ y c,X.env.cells.lookup y = some c → c ≠ s2.heap.objs.size := fun y c e z=>by
    obtain ⟨v,q⟩ := I2.cell y c e
    have q' := q.lt
    rw [z] at q'
    exact Nat.lt_irrefl _ q'
  have Dpin : ∀ p ∈ X.pn ++ pins,p.1 ≠ s2.heap.objs.size := fun p hp z=>by
    have q' := Heap.lt_size (I2.pin p hp).1
    rw [z] at q'
    exact Nat.lt_irrefl _ q'
  have I3 : Inv (cxComp X (x :: frees) scope C s2 H2 fp) pins (none :: outs σ idx) H2 { s2 with heap := h₁,toks := s2.toks + ([] : List (Str × Value)).length } := {
    ok := ok'
    os := rfl
    bare := I2.bare
    base := Un.kept old
    loc := by
      refine ⟨_,hns₁,fun i y v e1 e2 e3=>?_⟩
      cases i with
      | zero=>cases e2
      | succ j =>
        have e1' : frees[j]? = some y := e1
        have e2' : (outs σ idx)[j]? = some (some v) := e2
        obtain ⟨k,hk,hN⟩ := S.ix j y e1'
        have hy : y ∈ frees := List.mem_of_getElem? e1'
        have e4 : σ[k]? = some (some v) := by
          unfold outs at e2'
          rw [List.getElem?_map,hk] at e2'
          have e5 : (σ[k]?).join = some v := Option.some.inj e2'
          cases q : σ[k]? with
          | none=>rw [q] at e5; cases e5
          | some o=>rw [q] at e5; exact congrArg some e5
        obtain ⟨m,hn,hl⟩ := I2.loc
        have kin := S.fr _ (S.cl y hy) rfl
        have vis : Vis X.env.scope y := by
          rcases kin with z | z
          · exact .inr (.inl z)
          · exact .inr (.inr z)
        obtain ⟨u,r,l⟩ := hl k y v hN e4 vis
        refine ⟨u,r, .inr ⟨lookup_relabel_free (env := X.env) (hfl y hy),?_⟩⟩
        rcases l with ⟨z,_⟩ | ⟨_,c,ec,ic⟩
        · rcases kin with z' | z'
          · have z'' : X.env.kindOf y = some .cell := z'
            rw [z] at z''; cases z''
          · have z'' : X.env.kindOf y = some .free := z'
            rw [z] at z''; cases z''
        · obtain ⟨c',ec'⟩ := closL_has (cells := X.env.cells) scope.names [] y (S.cl y hy) ⟨c,ec⟩
          have : c' = c := Option.some.inj ((look y c' ec').symm.trans ec)
          subst this
          obtain ⟨o,ho,hd⟩ := ic
          exact ⟨c',ec',o,old _ _ ho,hd⟩
    cell := fun y c e=>by
      obtain ⟨v,o,ho,hd⟩ := I2.cell y c (look y c e)
      exact ⟨v,o,old _ _ ho,hd⟩
    free := I2.hok.fresh hCle
    freeC := fun y c e=>I2.freeC y c (look y c e)
    pin := fun p hp=>by
      obtain ⟨e,n,ne,nf,d⟩ := I2.pin p hp
      refine ⟨old _ _ e,n,below _ (Heap.lt_size e),fun hb=>?_,d⟩
      rcases List.mem_cons.mp (I2.stkSub _ hb) with z | z
      · exact ne z
      · exact nf z
    hok := I2.hok.kept old
    len := by simp [cxComp,outs,S.len] }
  have fok : ∀ {pp : List (Addr × Obj)} {H' : Hp},(∀ b ∈ fp,H' b = none) → (∀ p ∈ pp,p.1 = s2.heap.objs.size) → ∀ b ∈ fp,FpOk (cxComp X (x :: frees) scope C s2 H2 fp) (pins ++ pp) H' b := fun {pp H'} hn hp b hb=>by
    obtain ⟨_,f1,f2',f3,f4,f5⟩ := f2 b hb
    refine ⟨hn b hb,below b (fpD b hb),fun hf=>?_, .inl hb,fun y c e=>f4 y c (look y c e),fun p hpp z=>?_⟩
    · rcases List.mem_cons.mp (I2.stkSub b hf) with z | z
      · exact f1 z
      · exact f2' z
    · have hpp' : p ∈ X.pn ++ (pins ++ pp) := hpp
      rw [← List.append_assoc] at hpp'
      rcases List.mem_append.mp hpp' with q | q
      · exact f5 p q z
      · have q' := fpD b hb
        rw [← z,hp p q] at q'
        exact Nat.lt_irrefl _ q'
  have loop : ∀ s3 : Shared,s3 = { s2 with heap := h₁,toks := s2.toks + ([] : List (Str × Value)).length } →
      codeAny (model X.prog X.w) X.A (.compLoop (.ListComp elt [⟨.Name x px,iter,ifs,0⟩] scope pos) 0 (.ref it) (.ref s2.heap.objs.size) (compEnvC scope (closL X.env.cells scope.names []) C X.env))
        (compPost (model X.prog X.w) X.A X.xe none (EP X pins σ Q) (.ref s2.heap.objs.size) C) s3 := by
    rintro s3 rfl
    obtain ⟨k0,hacc⟩ := hacc
    refine compLoop_go (fun n s'=>∃ i o vs H' its k,Inv (cxComp X (x :: frees) scope C s2 H2 fp) pins (o :: outs σ idx) H' s' ∧ tn i s'.heap ∧ (∀ b ∈ fp,H' b = none) ∧ H' s2.heap.objs.size = none ∧
      s'.heap.get? s2.heap.objs.size = some { cls := .type "list",data := .seq its.toArray k } ∧ Vals vs its ∧ W i n vs H') ?_ m0
      ⟨0,none,[],H2,[],k0,I3,T.keep _ _ _ st2 fun b _ o e=>old b o e,fun b hb=>(f2 b hb).1,I2.hok.fresh (Nat.le_refl _),hacc, .nil,w0⟩
    rintro n s' ⟨i,o,vs,H',its,k,I',st',fr',hD',hg',hv',w'⟩
    obtain ⟨hlen,alt⟩ := turn i n vs H' w'
    have IP : Inv (cxComp X (x :: frees) scope C s2 H2 fp) (pins ++ [(s2.heap.objs.size,{ cls := .type "list",data := .seq its.toArray k })]) (o :: outs σ idx) H' s' :=
      I'.pins_of fun p hp=>(List.mem_append.mp hp).elim (fun z=>I'.pin p (List.mem_append_right _ z)) fun z=>by
        have z' : p = (s2.heap.objs.size,{ cls := .type "list",data := .seq its.toArray k }) := by simpa using z
        subst z'
        exact ⟨hg',hD',hDC,Dfs,fun v q=>by cases q⟩
    have FP := fok (pp := [(s2.heap.objs.size,{ cls := .type "list",data := .seq its.toArray k })]) fr' (fun p hp=>by
      have z' : p = (s2.heap.objs.size,{ cls := .type "list",data := .seq its.toArray k }) := by simpa using hp
      rw [z'])
    rcases alt with ⟨stop,qn⟩ | ⟨go,step⟩
    · refine thn (T.done (cxComp X (x :: frees) scope C s2 H2 fp) rfl rfl rfl hc i _ s' _ H' (fun _ _=>False) IP FP st' stop) fun r s4 ⟨hr,I4⟩=>?_
      subst hr
      obtain ⟨m4,hn4,_⟩ := id I4.loc
      refine ⟨m4,hn4,fun h' hsb=>?_⟩
      have gD : s4.heap.get? s2.heap.objs.size = some { cls := .type "list",data := .seq its.toArray k } := (I4.pin (s2.heap.objs.size,_) (List.mem_append_right _ (List.mem_append_right _ (List.mem_singleton.mpr rfl)))).1
      have hx : ∀ b o,b ≠ C → s4.heap.get? b = some o → h'.get? b = some o := fun b o hb e=>(hsb.2 b hb).trans e
      have J1 : Inv X pins σ H' { s4 with heap := h' } := by
        refine I2.call' (ch := fp) I4.os ⟨fun b o e n hb hx'=>?_,fun b o e n hb hx'=>?_,I4.base.free,fun b o e hx'=>?_,I4.base.tups,I4.base.frzs,I4.base.tbls⟩ (fun b u e=>?_) I4.bare fun b hb=>?_
        · exact hx b o (below b (Heap.lt_size e)) (I4.base.keep b o e n hb hx')
        · obtain ⟨sl,q⟩ := I4.base.slot b o e n hb hx'
          exact ⟨sl,hx b _ (below b (Heap.lt_size e)) q⟩
        · obtain ⟨o',q⟩ := I4.base.there b o e hx'
          exact ⟨o',hx b _ (below b (Heap.lt_size e)) q⟩
        · refine (I4.hok b u e).stay (fun c v hcc q=>hx c v ?_ q) (fun _ q=>q) fun _ _ q=>q
          rintro rfl
          rcases hcc with z | z
          · rw [← z] at e
            have := I4.free
            rw [show H' c = none from this] at e; cases e
          · have := I4.free
            rw [show H' c = none from this] at z; cases z
        · obtain ⟨_,f1,f2',f3,f4,f5⟩ := f2 b hb
          exact ⟨f3,f1,f4,f5⟩
      refine ⟨.ref s2.heap.objs.size,upd H' s2.heap.objs.size (.lst vs),J1.track hD' (Nat.le_of_lt hlen) hv' (hx _ _ hDC gD) (.inr I2.sz) (fun z=>by have q := I2.lt; rw [← z] at q; exact Nat.lt_irrefl _ q) Dcell Dpin,rfl,qn _ hD'⟩
    · refine thn (T.item (cxComp X (x :: frees) scope C s2 H2 fp) rfl rfl rfl hc i _ s' _ H' (fun _ _=>False) IP FP st' go) fun r s4 ⟨u,hr,h4⟩=>?_
      subst hr
      refine thn h4 fun _ s5 ⟨xv,H5,I5,r5,y5,st5,fr5⟩=>?_
      have I5' := I5.pinned (fok (pp := [(s2.heap.objs.size,{ cls := .type "list",data := .seq its.toArray k })]) fr5 (fun p hp=>by
        have z' : p = (s2.heap.objs.size,{ cls := .type "list",data := .seq its.toArray k }) := by simpa using hp
        rw [z'])) (T.obj _ _ st5)
      refine wpAny_assign_Name (store_ok (i := 0) (X := cxComp X (x :: frees) scope C s2 H2 fp) I5' S.nd rfl (.inl (lookup_relabel_local S.tgt)) r5 (fun s6 I6=>?_) (.inr (lookup_relabel_local S.tgt)))
      have q6 := step xv H5 y5
      refine thn (ht C s2 H2 fp _ s6 _ H5 _ I6 q6) fun b s7 ⟨H7,I7,q7⟩=>?_
      have keepT : ∀ {s8 : Shared} {σ8 : St} {H8 : Hp},Inv (cxComp X (x :: frees) scope C s2 H2 fp) ((pins ++ [(s2.heap.objs.size,{ cls := .type "list",data := .seq its.toArray k })]) ++ pinsAt fp s5.heap) σ8 H8 s8 →
          tn (i + 1) s8.heap ∧ (∀ b ∈ fp,H8 b = none) ∧ H8 s2.heap.objs.size = none ∧ s8.heap.get? s2.heap.objs.size = some { cls := .type "list",data := .seq its.toArray k } := fun {s8 σ8 H8} I8=>by
        refine ⟨T.keep _ _ _ st5 fun b hb o e=>(I8.pin (b,o) (List.mem_append_right _ (List.mem_append_right _ (mem_pinsAt hb e)))).1,fun b hb=>?_,?_,?_⟩
        · obtain ⟨o,e,d⟩ := T.obj _ _ st5 b hb
          exact (I8.pin (b,o) (List.mem_append_right _ (List.mem_append_right _ (mem_pinsAt hb e)))).2.1
        · exact (I8.pin (s2.heap.objs.size,_) (List.mem_append_right _ (List.mem_append_left _ (List.mem_append_right _ (List.mem_singleton.mpr rfl))))).2.1
        · exact (I8.pin (s2.heap.objs.size,_) (List.mem_append_right _ (List.mem_append_left _ (List.mem_append_right _ (List.mem_singleton.mpr rfl))))).1
      cases b with
      | false =>
        rw [if_neg Bool.false_ne_true] at q7 ⊢
        obtain ⟨m',hm,w7⟩ := q7
        obtain ⟨a1,a2,a3,a4⟩ := keepT I7
        exact ⟨m',hm,i + 1,some xv,vs,H7,its,k,I7.unpinned.unpinned,a1,a2,a3,a4,hv',w7⟩
      | true =>
        rw [if_pos rfl] at q7 ⊢
        refine thn (he C s2 H2 fp _ s7 _ H7 _ I7 q7) fun u8 s8 ⟨v8,H8,I8,r8,m',hm,w8⟩=>?_
        obtain ⟨a1,a2,a3,a4⟩ := keepT I8
        refine wpAny_list_append_plain (items := its.toArray) ⟨k,a4⟩ (fun h9 pl sb=>?_) (by rw [List.size_toArray,← hv'.length]; exact Nat.le_of_lt hlen)
        obtain ⟨k9,e9⟩ := pl
        have ne : ∀ b ∈ fp,b ≠ s2.heap.objs.size := fun b hb=>Nat.ne_of_lt (fpD b hb)
        have I9 : Inv (cxComp X (x :: frees) scope C s2 H2 fp) pins (some xv :: outs σ idx) H8 { s8 with heap := h9 } :=
          I8.unpinned.unpinned.turned (t' := s8.toks) (fun b o hb e=>(sb.2 b hb).trans e) a3 hDC (.inr (Nat.le_refl _)) (fun y c e=>Dcell y c (look y c e)) Dpin
        refine ⟨m',hm,i + 1,some xv,vs ++ [v8],H8,its ++ [u8],k9,I9,T.keep _ _ _ a1 fun b hb o e=>(sb.2 b (ne b hb)).trans e,a2,a3,?_,hv'.snoc r8,w8⟩
        rw [List.push_toArray] at e9
        exact e9
  exact codeAny_compStart_list (loop _ rfl) (T.self _ 0 _ _ _ (T.keep _ _ _ st2 fun b _ o e=>old b o e) (loop _ rfl))
end L2
set_option Elab.async false
set_option linter.all false
set_option maxRecDepth 100000
namespace L2
open PySem PySem.Spec PyProof.Rows
section
variable {X : Cx}
theorem boolsAre_of : ∀ {bs : List Bool} {us : List Value},Vals (bs.map V.bl) us → LSm.BoolsAre us bs := by
  intro bs
  induction bs with
  | nil=>intro us h; cases h; exact .nil
  | cons b r ih =>
    intro us h
    cases h with
    | cons h1 h2 =>
      cases (show _ = Value.bool b from h1)
      exact .cons b (ih h2)
theorem call_all (hc : X.calm = true) : CallR X (.builtin "all") (fun xs H Q=>∃ (p : Addr) (bs : List Bool),xs = [.ref p] ∧ SqL X.K H p (bs.map V.bl) ∧ Q (.bl (bs.all id)) H) := by
  intro pins s σ H xs us Q I r h
  obtain ⟨p,bs,rfl,hq,q⟩ := h
  obtain ⟨u,rfl,rx⟩ := vals1 r
  cases rx
  obtain ⟨its,r',pl,hz⟩ := I.list hq
  have hl := pl.isList
  have hb := boolsAre_of r'
  have hlt : p < s.heap.objs.size := by obtain ⟨_,e,_⟩ := hl; exact Heap.lt_size e
  refine call_all_walk (wpAny_pyIter_list hl ?_)
  refine ⟨s.heap.objs.size,[s.heap.objs.size,p],[s.heap.objs.size],its.toArray.size,_,_,fun i=>(bs[i]?).getD true,rfl,Walks.list (A := X.A.in1) (I.ok.hd hc) _ p (Nat.ne_of_lt hlt) its.toArray,
    ⟨⟨_,Heap.get?_push_size _ rfl,rfl,rfl⟩,hl.push _⟩,fun i v s' Q' E' hP hQ=>?_,fun h' tk hk=>?_⟩
  · obtain ⟨b,e,rfl⟩ := hb.get i v (by simpa using hP)
    simp only [e,Option.getD_some] at hQ
    exact wpAny_truthy_bool hQ
  · have e : ((List.range its.toArray.size).all fun i=>(bs[i]?).getD true) = bs.all id := by
      rw [List.size_toArray,hb.length]; exact LSm.range_all bs
    rw [e]
    exact ⟨.bl (bs.all id),H,I.kept (LSm.kept_iter hk),rfl,q⟩
theorem call_isi : CallR X (.builtin "isinstance") (fun xs H Q=>∃ x t T b,xs = [x, .ty T] ∧ TyOf X.K H x t ∧ PySem.W.kitOne X.K t (.type T) = some b ∧ Q (.bl b) H) := by
  intro pins s σ H xs us Q I r h
  obtain ⟨x,t,T,b,rfl,ty,e,q⟩ := h
  obtain ⟨u,w',rfl,rx,ry⟩ := vals2 r
  cases (show w' = Value.type T from ry)
  exact isinst_ok I rx ty e fun tk=>⟨.bl b,H,I.tok tk,rfl,q⟩
theorem sl_str : SlR X (fun x lo hi H Q=>∃ z,x = .str z ∧ z.length ≤ sizeLine ∧ Q (.str (Txt.slice z lo hi)) H) := by
  intro pins s σ H x v vl vu lo hi sl Q I rx hs pl pu h
  obtain ⟨z,rfl,hz,q⟩ := h
  obtain ⟨t,rfl⟩ := rx
  refine ⟨"str",_,F.slot_str_getitem.lookup,typeIs_str _ _ _,?_⟩
  have fin : ∀ l u : Option (Int × Tok),vl = partValue l → vu = partValue u → l.map (·.1) = lo → u.map (·.1) = hi → wpAny (model X.prog X.w) X.A (getItem (.str z t) (.ref sl)) (EP X pins σ Q) X.xe s := fun l u e1 e2 e3 e4=>by
    subst e1 e2 e3 e4
    refine wpAny_getItem_str_slice (l := l) (u := u) (st := none) hs rfl (post_val_or_str ⟨Nat.le_trans (Txt.slice_le z _ _) hz,fun t' k=>⟨.str _,H,I.tok k,⟨t',rfl⟩,q⟩⟩)
  cases pl <;> cases pu <;> first
    | exact fin none none rfl rfl rfl rfl
    | exact fin none (some (_,_)) rfl rfl rfl rfl
    | exact fin (some (_,_)) none rfl rfl rfl rfl
    | exact fin (some (_,_)) (some (_,_)) rfl rfl rfl rfl
theorem mt_startswith : MtR X "str.startswith" (fun x xs H Q=>∃ z y,x = .str z ∧ xs = [.str y] ∧ Q (.bl (Txt.startswith z y)) H) := by
  intro pins s σ H x xs v us Q I rx rs h
  obtain ⟨z,y,rfl,rfl,q⟩ := h
  obtain ⟨t,rfl⟩ := rx
  obtain ⟨u,rfl,t',rfl⟩ := vals1 rs
  exact SC.startswith ⟨.bl _,H,I,rfl,q⟩
end
end L2
set_option Elab.async false
set_option linter.all false
set_option maxRecDepth 100000
namespace L2
open PySem PySem.Spec PyProof.Rows
def compOk (osc : Scope) (N : List Str) (x : Str) (frees : List Str) (idx : List Nat) (scope : Scope) : Bool :=
  scope.kind == .function && (scope.names.all (fun y=>y.2 != .cell) && (scope.names.all (fun y=>y.2 != .local || scope.names.lookup y.1 == some .local) && (scope.names.all (fun y=>y.2 != .free || (osc.names.lookup y.1 == some .cell || osc.names.lookup y.1 == some .free)) &&
  (scope.names.lookup x == some .local && (decide (x :: frees).Nodup && (idx.length == frees.length && ((idx.zip frees).all (fun p=>N[p.1]? == some p.2) && frees.all (fun y=>scope.names.lookup y == some .free))))))))
theorem zip_get {α β : Type} : ∀ {l : List α} {r : List β} {j : Nat} {y : β},l.length = r.length → r[j]? = some y → ∃ k,l[j]? = some k ∧ (k,y) ∈ l.zip r
  | [],[],j,y,_,h=>by simp at h
  | a :: l,b :: r,0,y,_,h=>by
    simp at h; subst h
    exact ⟨a,rfl,by simp⟩
  | a :: l,b :: r,j + 1,y,e,h=>by
    obtain ⟨k,h1,h2⟩ := zip_get (l := l) (r := r) (j := j) (y := y) (by simpa using e) (by simpa using h)
    exact ⟨k,by simpa using h1,by rw [List.zip_cons_cons]; exact List.mem_cons_of_mem _ h2⟩
theorem compOk_scope {X : Cx} {osc : Scope} {N : List Str} {x : Str} {frees : List Str} {idx : List Nat} {scope : Scope} (h : compOk osc N x frees idx scope = true) (ho : X.env.scope = osc) (hN : X.N = N) :
    CompScope X x frees idx scope ∧ ∀ y ∈ frees,scope.names.lookup y = some .free := by
  unfold compOk at h
  simp only [Bool.and_eq_true,List.all_eq_true,Bool.or_eq_true,bne_iff_ne,beq_iff_eq,decide_eq_true_eq] at h
  obtain ⟨h1,h2,h3,h4,h5,h6,h7,h8,h9⟩ := h
  have fl : ∀ y ∈ frees,scope.names.lookup y = some .free := fun y hy=>h9 y hy
  refine ⟨⟨h1,h2,fun y hy e=>?_,h5,h6,fun y hy e=>?_,fun j y hj=>?_,h7,fun y hy=>mem_of_lookup' (fl y hy)⟩,fl⟩
  · rcases h3 y hy with q | q
    · exact absurd e q
    · exact q
  · have q : osc.names.lookup y.1 = some .cell ∨ osc.names.lookup y.1 = some .free := by
      rcases h4 y hy with q | q
      · exact absurd e q
      · exact q
    rw [← ho] at q
    exact q
  · obtain ⟨k,e1,e2⟩ := zip_get h7 hj
    exact ⟨k,e1,by rw [hN]; exact h8 (k,y) e2⟩
theorem pe_lc {X : Cx} {elt iter : Expr} {x : Str} {px pos : Pos} {ifs : List Expr} {scope : Scope} {wi : TI} {tt : TT} {te : TE} (osc : Scope) (N : List Str) (frees : List Str) (idx : List Nat)
    (hk : compOk osc N x frees idx scope = true) (hi : PI X (.Name x px) iter wi)
    (ht : ∀ C s₀ H₀ ex,PTs (cxComp X (x :: frees) scope C s₀ H₀ ex) ifs tt) (he : ∀ C s₀ H₀ ex,PE (cxComp X (x :: frees) scope C s₀ H₀ ex) elt te)
    (ho : X.env.scope = osc := by rfl) (hN : X.N = N := by rfl) (hc : X.calm = true := by rfl) (hs : ∀ v,foldedSetIterable iter X.env v = pure v := by intro _; rfl) : PE X (.ListComp elt [⟨.Name x px,iter,ifs,0⟩] scope pos) (tComp idx wi tt te) := by
  obtain ⟨S,fl⟩ := compOk_scope (X := X) hk ho hN
  exact pe_lcomp hc S fl hi ht he hs
def Nx (n i : Nat) (p : Prop) : Prop := ∃ m',m' < n - i ∧ m' = n - (i + 1) ∧ i + 1 ≤ n ∧ p
theorem nx {n i : Nat} {p : Prop} (h : i < n) (q : p) : Nx n i p := ⟨n - (i + 1),by omega,rfl,h,q⟩
theorem comp_range {lo : Int} {n : Nat} {tt : TT} {te : TE} {σ' : St} {Q : VK} {H : Hp} (Pv : Nat → List V → Hp → Prop) (h0 : Pv 0 [] H) (hlen : ∀ i vs H2,i ≤ n → Pv i vs H2 → vs.length < sizeLine)
    (hs : ∀ i vs H2,i < n → Pv i vs H2 → tt (some (.int (lo + i)) :: σ') H2 fun b H4=>if b = true then te (some (.int (lo + i)) :: σ') H4 fun v H5=>Nx n i (Pv (i + 1) (vs ++ [v]) H5) else Nx n i (Pv (i + 1) vs H4))
    (hd : ∀ vs H2,Pv n vs H2 → ∀ l,H2 l = none → Q (.ref l) (upd H2 l (.lst vs))) : CompW (Itr lo n) tt te σ' Q H := by
  refine ⟨fun i m vs H=>m = n - i ∧ i ≤ n ∧ Pv i vs H,⟨n,by simp,Nat.zero_le _,h0⟩,?_⟩
  rintro i m vs H2 ⟨rfl,hi,p⟩
  refine ⟨hlen i vs H2 hi p,?_⟩
  by_cases hlt : i < n
  · refine .inr ⟨hlt,?_⟩
    rintro v H3 ⟨rfl,rfl⟩
    exact hs i vs H3 hlt p
  · have e : i = n := by omega
    subst e
    exact .inl ⟨Nat.le_refl _,hd vs H2 p⟩
end L2
set_option Elab.async false
set_option linter.all false
set_option maxRecDepth 100000
namespace L2
open PySem PySem.Spec PyProof.Rows
section
variable {X : Cx} {pins : List (Addr × Obj)} {σ : St} {H : Hp} {s : Shared}
end
end L2
set_option Elab.async false
set_option linter.all false
set_option maxRecDepth 100000
namespace L2
open PySem PySem.Spec PyProof.Rows
section
variable {X : Cx}
end
end L2
set_option Elab.async false
set_option linter.all false
set_option maxRecDepth 100000
namespace Fw
open PySem PySem.Spec PyProof.Rows L2
def smallS : Str := "abcdefghijklmnopqrstuvwxyz"
def greatS : Str := "ABCDEFGHIJKLMNOPQRSTUVWXYZ"
def inS (y : Str) (c : Nat) : Bool := decide (c ∈ y.cps.toList)
theorem len_toList (z : Str) : z.cps.toList.length = z.length := by simp [Str.length]
theorem small_range {c : Nat} (h : inS smallS c = true) : 97 ≤ c ∧ c ≤ 122 := by
  have h' : c ∈ smallS.cps.toList := of_decide_eq_true h
  have : ∀ d ∈ smallS.cps.toList,97 ≤ d ∧ d ≤ 122 := by decide +kernel
  exact this c h'
theorem great_range {c : Nat} (h : inS greatS c = true) : 65 ≤ c ∧ c ≤ 90 := by
  have h' : c ∈ greatS.cps.toList := of_decide_eq_true h
  have : ∀ d ∈ greatS.cps.toList,65 ≤ d ∧ d ≤ 90 := by decide +kernel
  exact this c h'
theorem smallS_len : smallS.length = 26 := by decide +kernel
theorem greatS_len : greatS.length = 26 := by decide +kernel
theorem cps_app (a b : Str) : (a ++ b).cps.toList = a.cps.toList ++ b.cps.toList := by
  show (a.cps ++ b.cps).toList = _
  simp
theorem len_app (a b : Str) : (a ++ b).length = a.length + b.length := by
  rw [← len_toList,cps_app,List.length_append,len_toList,len_toList]
end Fw
set_option Elab.async false
set_option linter.all false
set_option maxRecDepth 100000
namespace Fw
open PySem PySem.Spec PyProof.Rows L2
inductive T where
  | int (i : Int)
  | str (x : Str)
  | tup (l : List T)
mutual
def T.sz : T → Nat
  | .int _=>1
  | .str _=>1
  | .tup l=>1 + szs l
def szs : List T → Nat
  | []=>0
  | t :: r=>t.sz + szs r
end
theorem sz_pos : ∀ t : T,1 ≤ t.sz
  | .int _=>by simp [T.sz]
  | .str _=>by simp [T.sz]
  | .tup l=>by simp [T.sz]
theorem szs_app : ∀ (a b : List T),szs (a ++ b) = szs a + szs b
  | [],b=>by simp [szs]
  | t :: r,b=>by simp [szs,szs_app r b,Nat.add_assoc]
theorem len_szs : ∀ l : List T,l.length ≤ szs l
  | []=>by simp [szs]
  | t :: r=>by
    have := len_szs r
    have := sz_pos t
    simp [szs]
    omega
mutual
inductive Rep (H : Hp) : V → T → Prop where
  | int (i : Int) : Rep H (.int i) (.int i)
  | str (x : Str) (h : x.length ≤ 100000) : Rep H (.str x) (.str x)
  | tup {a : Addr} {vs : List V} {ts : List T} (h : H a = some (.tup vs)) (r : Reps H vs ts) : Rep H (.ref a) (.tup ts)
inductive Reps (H : Hp) : List V → List T → Prop where
  | nil : Reps H [] []
  | cons {v : V} {t : T} {vs : List V} {ts : List T} (r : Rep H v t) (q : Reps H vs ts) : Reps H (v :: vs) (t :: ts)
end
mutual
theorem Rep.mono {H H' : Hp} (e : ∀ b xs,H b = some (.tup xs) → H' b = some (.tup xs)) : ∀ {v : V} {t : T},Rep H v t → Rep H' v t
  | _,_, .int i=>.int i
  | _,_, .str x h=>.str x h
  | _,_, .tup h r=>.tup (e _ _ h) (Reps.mono e r)
theorem Reps.mono {H H' : Hp} (e : ∀ b xs,H b = some (.tup xs) → H' b = some (.tup xs)) : ∀ {vs : List V} {ts : List T},Reps H vs ts → Reps H' vs ts
  | _,_, .nil=>.nil
  | _,_, .cons r q=>.cons (Rep.mono e r) (Reps.mono e q)
end
theorem Rep.same {H H' : Hp} (e : Same H H') {v : V} {t : T} (r : Rep H v t) : Rep H' v t := r.mono fun b xs h=>e b _ h
theorem Reps.same {H H' : Hp} (e : Same H H') {vs : List V} {ts : List T} (r : Reps H vs ts) : Reps H' vs ts := r.mono fun b xs h=>e b _ h
theorem Reps.length {H : Hp} : ∀ {vs : List V} {ts : List T},Reps H vs ts → vs.length = ts.length
  | _,_, .nil=>rfl
  | _,_, .cons _ q=>congrArg (· + 1) q.length
theorem Reps.append {H : Hp} : ∀ {vs ws : List V} {ts us : List T},Reps H vs ts → Reps H ws us → Reps H (vs ++ ws) (ts ++ us)
  | _,_,_,_, .nil,q=>q
  | _,_,_,_, .cons r p,q=>.cons r (Reps.append p q)
theorem Reps.snoc_inv {H : Hp} {vs : List V} {ts : List T} (r : Reps H vs ts) (h : vs ≠ []) : ∃ ws us v t,vs = ws ++ [v] ∧ ts = us ++ [t] ∧ Reps H ws us ∧ Rep H v t := by
  induction vs generalizing ts with
  | nil=>exact absurd rfl h
  | cons v vs ih =>
    cases r with
    | @cons _ t _ ts' r q =>
      by_cases e : vs = []
      · subst e
        cases q
        exact ⟨[],[],v,t,rfl,rfl, .nil,r⟩
      · obtain ⟨ws,us,v',t',rfl,rfl,q1,q2⟩ := ih q e
        exact ⟨v :: ws,t :: us,v',t',rfl,rfl, .cons r q1,q2⟩
theorem Same.tups {H H' : Hp} (e : Same H H') : ∀ b xs,H b = some (.tup xs) → H' b = some (.tup xs) := fun b xs h=>e b _ h
theorem same_new {H : Hp} {p : Addr} (h : H p = none) (o : HO) : Same H (upd H p o) := fun b u q=>by rw [upd_ne (ne_of_none q h)]; exact q
section
variable (kids : T → Option (List T))
inductive Good : T → Prop where
  | mk {t : T} {l : List T} (h : kids t = some l) (q : ∀ k ∈ l,Good k) : Good t
inductive Bad : T → Prop where
  | none {t : T} (h : kids t = none) : Bad t
  | kid {t : T} {l : List T} {k : T} (h : kids t = some l) (m : k ∈ l) (q : Bad k) : Bad t
end
def onStr (f : Str → Bool) : T → Bool
  | .str z=>f z
  | _=>false
def Has (P : Program) (w : World) (K : PySem.W.Frag) (mg : Str → Option Value) (base : Heap) (k : Nat) (x : Str) (ps : List Str) (sp : Sp) : Prop :=
  ∃ f fd,FnOk P w K mg base CX0 k f fd ps sp ∧ Binds K fd ps [] ∧ PySem.W.keepIn K (.ref f) = true ∧ mg x = some (.ref f)
theorem pcall {X : Cx} {k j : Nat} {x : Str} {ps : List Str} {sp : Sp} {p pos : Pos} {e : Expr} {es : List Expr} {t : TA} (h : Has X.prog X.w X.K X.mg X.base k x ps sp) (hr : Room j X.A) (hkj : k ≤ j) (hg : Gl X x) (ha : PA X (e :: es) t)
    (hdb : (x == ("__debug__" : Str)) = false := by decide) (he : starEach (e :: es) X.env = (false,eval e X.env) :: starEach es X.env := by rfl) (hpl : (backTo pos (starEach es X.env)).any (·.1) = false := by rfl) :
    PE X (.Call (.Name x p) (e :: es) [] pos) (tCall sp [] E0 t) := by
  obtain ⟨f,fd,h1,h2,h3,h4⟩ := h
  exact pe_call h1 (hr.mono hkj) hg h4 h3 h2 .nil pass0 ha hdb he hpl
end Fw
namespace Fw
open PySem PySem.Spec PyProof.Rows L2
def tyT : T → Value
  | .int _=>.type "int"
  | .str _=>.type "str"
  | .tup _=>.type "tuple"
def isStrT : T → Bool
  | .str _=>true
  | _=>false
def isTupT : T → Bool
  | .tup _=>true
  | _=>false
theorem rep_ty {K : PySem.W.Frag} {H : Hp} {v : V} {t : T} (r : Rep H v t) : TyOf K H v (tyT t) := by
  cases r with
  | int i=>exact .int i
  | str x h=>exact .str x
  | tup h q=>exact .tup h
theorem kit_str (K : PySem.W.Frag) (t : T) : PySem.W.kitOne K (tyT t) (.type "str") = some (isStrT t) := by
  cases t with
  | int i=>first | rfl | (with_unfolding_all rfl) | kernel_rfl
  | str x=>first | rfl | (with_unfolding_all rfl) | kernel_rfl
  | tup l=>first | rfl | (with_unfolding_all rfl) | kernel_rfl
theorem kit_tup (K : PySem.W.Frag) (t : T) : PySem.W.kitOne K (tyT t) (.type "tuple") = some (isTupT t) := by
  cases t with
  | int i=>first | rfl | (with_unfolding_all rfl) | kernel_rfl
  | str x=>first | rfl | (with_unfolding_all rfl) | kernel_rfl
  | tup l=>first | rfl | (with_unfolding_all rfl) | kernel_rfl
theorem tt1 {σ : L2.St} {H : Hp} {Q : Bool → Hp → Prop} (h : Q true H) : tTrue σ H Q := h
theorem small {n : Nat} (h : n ≤ 1000000) : n ≤ sizeLine := Nat.le_trans h (by decide)
theorem small' {n : Nat} (h : n ≤ 1000000) : n < sizeLine := Nat.lt_of_le_of_lt h (by decide)
theorem eqV_str (a b : Str) : eqV (.str a) (.str b) = decide (a = b) := by
  show (a == b) = _
  rw [Bool.eq_iff_iff]
  simp
theorem inV_str (z : Str) : ∀ l : List Str,inV (.str z) (l.map V.str) = decide (z ∈ l)
  | []=>by simp [inV]
  | a :: r=>by
    have ih := inV_str z r
    unfold inV at ih ⊢
    rw [List.map_cons,List.any_cons,ih,eqV_str,Bool.eq_iff_iff]
    simp only [Bool.or_eq_true,decide_eq_true_eq,List.mem_cons]
    constructor
    · rintro (h | h)
      · exact .inl h.symm
      · exact .inr h
    · rintro (h | h)
      · exact .inl h.symm
      · exact .inr h
theorem flat_strs : ∀ l : List Str,(l.map V.str).all flatV = true
  | []=>rfl
  | a :: r=>by rw [List.map_cons,List.all_cons,flat_strs r]; rfl
end Fw
set_option Elab.async false
set_option linter.all false
set_option maxRecDepth 100000
namespace Fw
open PySem PySem.Spec PyProof.Rows L2
theorem qm_eq : (Str.ofString "?" : Str) = ⟨#[63]⟩ := by decide +kernel
theorem starts_qm (z : Str) : Txt.startswith z "?" = decide (z.cps.toList.head? = some 63) := by
  rw [qm_eq]
  unfold Txt.startswith
  obtain ⟨a⟩ := z
  obtain ⟨l⟩ := a
  cases l with
  | nil=>rfl
  | cons c r =>
    simp [Builtin.Str.subAt,Str.length,Nat.all]
    rw [Bool.eq_iff_iff]
    simp
end Fw
set_option Elab.async false
set_option linter.all false
set_option maxRecDepth 100000
namespace Fw
open PySem PySem.Spec PyProof.Rows L2
def Ev (t : TE) (σ : L2.St) (H : Hp) (v : V) : Prop := ∀ Q : VK,(∀ H',Same H H' → Q v H') → t σ H Q
def Tst (t : TT) (σ : L2.St) (H : Hp) (c : Bool) : Prop := ∀ Q : Bool → Hp → Prop,(∀ H',Same H H' → Q c H') → t σ H Q
section
variable {ta tb tc : TE} {t u : TT} {σ : L2.St} {H : Hp} {v x y z : V} {c c1 c2 : Bool} {K : PySem.W.Frag}
theorem ev_var {i : Nat} (h : σ[i]? = some (some v)) : Ev (tVar i) σ H v := fun Q q=>⟨v,h,q H (Same.refl H)⟩
theorem ev_c : Ev (tC v) σ H v := fun Q q=>q H (Same.refl H)
theorem ts_b (h : Ev ta σ H (.bl c)) : Tst (tB ta) σ H c := fun Q q=>h _ fun H' e=>⟨c,rfl,q H' e⟩
theorem ts_t (h : Ev ta σ H (.bl c)) : Tst (tTest ta) σ H c := fun Q q=>h _ fun H' e=>⟨c,rfl,q H' e⟩
theorem ts_and (h1 : Tst t σ H c1) (h2 : c1 = true → ∀ H',Same H H' → Tst u σ H' c2) : Tst (tAnd t u) σ H (c1 && c2) := fun Q q=>h1 _ fun H' e=>by
  cases c1 with
  | true=>exact iteT (h2 rfl H' e Q fun H2 e2=>q H2 (e.trans e2))
  | false=>exact iteF (q H' e)
theorem ts_or (h1 : Tst t σ H c1) (h2 : c1 = false → ∀ H',Same H H' → Tst u σ H' c2) : Tst (tOr t u) σ H (c1 || c2) := fun Q q=>h1 _ fun H' e=>by
  cases c1 with
  | false=>exact iteF (h2 rfl H' e Q fun H2 e2=>q H2 (e.trans e2))
  | true=>exact iteT (q H' e)
theorem ev_op {r : R2} (h1 : Ev ta σ H x) (h2 : ∀ H',Same H H' → Ev tb σ H' y) (h3 : ∀ H' Q,Same H H' → Q z H' → r x y H' Q) : Ev (tOp r ta tb) σ H z := fun Q q=>h1 _ fun H1 e1=>h2 H1 e1 _ fun H2 e2=>h3 H2 Q (e1.trans e2) (q H2 (e1.trans e2))
theorem st_if {tst : TT} {a b : TS} {D : Ends} (h : Tst tst σ H c) (h1 : c = true → ∀ H',Same H H' → a D σ H') (h2 : c = false → ∀ H',Same H H' → b D σ H') : tIfS tst a b D σ H := h _ fun H' e=>by
  cases c with
  | true=>exact iteT (h1 rfl H' e)
  | false=>exact iteF (h2 rfl H' e)
theorem ev_eqI {i j : Int} (h1 : Ev ta σ H (.int i)) (h2 : ∀ H',Same H H' → Ev tb σ H' (.int j)) : Ev (tOp rEq ta tb) σ H (.bl (decide (i = j))) :=
  ev_op h1 h2 fun H' Q e q=>⟨rfl,by rw [dec_int,Bool.beq_eq_decide_eq]; exact q⟩
theorem ev_lenL {a : Addr} {vs : List V} (h : Ev ta σ H (.ref a)) (s : SqL K H a vs) : Ev (tCB (fun xs H Q=>∃ p ys,xs = [.ref p] ∧ (SqL K H p ys ∨ SqT K H p ys) ∧ Q (.int ys.length) H) (tCons ta tNil)) σ H (.int vs.length) :=
  fun Q q=>h _ fun H' e=>⟨a,vs,rfl, .inl (e.seq s),q H' e⟩
theorem ev_isi {T' : String} {t : T} {f : T → Bool} (h : Ev ta σ H v) (r : Rep H v t) (hk : ∀ t,PySem.W.kitOne K (tyT t) (.type T') = some (f t)) :
    Ev (tCB (fun xs H Q=>∃ x t T b,xs = [x, .ty T] ∧ TyOf K H x t ∧ PySem.W.kitOne K t (.type T) = some b ∧ Q (.bl b) H) (tCons ta (tCons (tC (.ty T')) tNil))) σ H (.bl (f t)) :=
  fun Q q=>h _ fun H' e=>⟨v,_,T',_,rfl,rep_ty (r.same e),hk t,q H' e⟩
end
end Fw
set_option Elab.async false
set_option linter.all false
set_option maxRecDepth 100000
namespace L2
open PySem PySem.Spec PyProof.Rows
section
variable {κ : Type} [DecidableEq κ]
def valV (kvs : List (κ × V)) (k : κ) : Option V := (kvs.find? fun kv=>decide (kv.1 = k)).map (·.2)
def putK (kvs : List (κ × V)) (k : κ) (v : V) : List (κ × V) :=
  if (kvs.any fun kv=>decide (kv.1 = k)) = true then kvs.map (fun kv=>if kv.1 = k then (kv.1,v) else kv) else kvs ++ [(k,v)]
theorem valV_pos {p : κ × V} {r : List (κ × V)} {k : κ} (e : p.1 = k) : valV (p :: r) k = some p.2 := by simp [valV,List.find?_cons,e]
theorem valV_neg {p : κ × V} {r : List (κ × V)} {k : κ} (e : ¬ p.1 = k) : valV (p :: r) k = valV r k := by simp [valV,List.find?_cons,e]
theorem valV_any (k : κ) : ∀ kvs : List (κ × V),(kvs.any fun kv=>decide (kv.1 = k)) = (valV kvs k).isSome
  | []=>rfl
  | p :: r=>by
    rw [List.any_cons]
    by_cases e : p.1 = k
    · simp only [valV_pos e,decide_eq_true e,Bool.true_or,Option.isSome_some]
    · rw [valV_neg e,decide_eq_false e,Bool.false_or]; exact valV_any k r
theorem length_putK (kvs : List (κ × V)) (k : κ) (v : V) : (putK kvs k v).length ≤ kvs.length + 1 := by
  unfold putK
  split
  · rw [List.length_map]; omega
  · rw [List.length_append,List.length_cons,List.length_nil]; omega
theorem putK_new {kvs : List (κ × V)} {k : κ} (v : V) (h : valV kvs k = none) : putK kvs k v = kvs ++ [(k,v)] := by
  unfold putK
  rw [valV_any,h]
  exact if_neg (by decide)
theorem RelO.isSome_eq {o : Option V} {u : Option Value} (r : RelO o u) : o.isSome = u.isSome := by
  cases o with
  | none=>cases u with
    | none=>rfl
    | some _=>exact (show False from r).elim
  | some _=>cases u with
    | none=>exact (show False from r).elim
    | some _=>rfl
theorem RelO.getD {o : Option V} {u : Option Value} {d : V} {d' : Value} (r : RelO o u) (rd : RelV d d') : RelV (o.getD d) (u.getD d') := by
  cases o with
  | none=>cases u with
    | none=>exact rd
    | some _=>exact (show False from r).elim
  | some _=>cases u with
    | none=>exact (show False from r).elim
    | some _=>exact r
theorem KV.val {kvs : List (κ × V)} {vs : List (κ × Value)} (r : KV kvs vs) (k : κ) : RelO (valV kvs k) (valueAt vs k) := by
  unfold KV at r
  induction r with
  | nil=>exact True.intro
  | @cons p q ps qs h t ih =>
    obtain ⟨h1,h2⟩ := h
    by_cases e : p.1 = k
    · have e' : q.1 = k := h1.symm.trans e
      have b : valueAt (q :: qs) k = some q.2 := by simp [valueAt,List.find?_cons,e']
      rw [valV_pos e,b]; exact h2
    · have e' : ¬ q.1 = k := fun z=>e (h1.trans z)
      have b : valueAt (q :: qs) k = valueAt qs k := by simp [valueAt,List.find?_cons,e']
      rw [valV_neg e,b]; exact ih
theorem KV.any {kvs : List (κ × V)} {vs : List (κ × Value)} (r : KV kvs vs) (k : κ) : (kvs.any fun kv=>decide (kv.1 = k)) = vs.any fun kv=>decide (kv.1 = k) := by
  unfold KV at r
  induction r with
  | nil=>rfl
  | cons h t ih=>rw [List.any_cons,List.any_cons,ih,h.1]
theorem KV.repl {kvs : List (κ × V)} {vs : List (κ × Value)} (r : KV kvs vs) (k : κ) {y : V} {u : Value} (ry : RelV y u) :
    KV (kvs.map fun kv=>if kv.1 = k then (kv.1,y) else kv) (vs.map fun kv=>if kv.1 = k then (kv.1,u) else kv) := by
  unfold KV at r ⊢
  induction r with
  | nil=>exact .nil
  | @cons p q ps qs h t ih =>
    rw [List.map_cons,List.map_cons]
    refine .cons ?_ ih
    obtain ⟨h1,h2⟩ := h
    by_cases e : p.1 = k
    · rw [if_pos e,if_pos (h1.symm.trans e)]; exact ⟨h1,ry⟩
    · rw [if_neg e,if_neg (fun z=>e (h1.trans z))]; exact ⟨h1,h2⟩
theorem KV.put {kvs : List (κ × V)} {vs : List (κ × Value)} (r : KV kvs vs) (k : κ) {y : V} {u : Value} (ry : RelV y u) : KV (putK kvs k y) (stored vs k u) := by
  unfold putK stored
  rw [r.any k]
  by_cases e : (vs.any fun kv=>decide (kv.1 = k)) = true
  · rw [if_pos e,if_pos e]; exact r.repl k ry
  · rw [if_neg e,if_neg e]; exact Paired.snoc r ⟨rfl,ry⟩
theorem KV.keys {kvs : List (κ × V)} {vs : List (κ × Value)} (r : KV kvs vs) : kvs.map (·.1) = vs.map (·.1) := by
  unfold KV at r
  induction r with
  | nil=>rfl
  | cons h t ih=>rw [List.map_cons,List.map_cons,ih,h.1]
theorem KV.length {kvs : List (κ × V)} {vs : List (κ × Value)} (r : KV kvs vs) : kvs.length = vs.length := Paired.length r
end
theorem kV_is {P : Program} {w : World} {k : Key} {u : Value} (r : RelV (kV k) u) : (mixKind P w).is k u = true := by
  cases k with
  | inl i=>obtain ⟨t,e⟩ := (show ∃ t,u = Value.int i t from r); subst e; exact mixKind_int P w i t
  | inr x=>obtain ⟨t,e⟩ := (show ∃ t,u = Value.str x t from r); subst e; exact mixKind_str P w x t
theorem items_are {P : Program} {w : World} : ∀ {ks : List Key} {us : List Value},Vals (ks.map kV) us → ItemsAre (mixKind P w) ks us
  | [],_,r=>by rw [List.map_nil] at r; cases r; exact .nil
  | k :: ks,_,r=>by
    rw [List.map_cons] at r
    cases r with
    | cons h t=>exact .cons (kV_is h) (items_are t)
abbrev KT (H : Hp) : List (List Key × V) → List (List Key × Addr × Value) → Prop := Paired fun p q=>p.1 = q.1 ∧ H q.2.1 = some (.tup (p.1.map kV)) ∧ RelV p.2 q.2.2
theorem KT.val {H : Hp} {kvs : List (List Key × V)} {xs : List (List Key × Addr × Value)} (r : KT H kvs xs) (k : List Key) : RelO (valV kvs k) ((atKey xs k).map (·.2)) := by
  induction r with
  | nil=>exact True.intro
  | @cons p q ps qs h t ih =>
    obtain ⟨h1,_,h2⟩ := h
    by_cases e : p.1 = k
    · have e' : q.1 = k := h1.symm.trans e
      have b : atKey (q :: qs) k = some q.2 := by simp [atKey,List.find?_cons,e']
      rw [valV_pos e,b]; exact h2
    · have e' : ¬ q.1 = k := fun z=>e (h1.trans z)
      have b : atKey (q :: qs) k = atKey qs k := by simp [atKey,List.find?_cons,e']
      rw [valV_neg e,b]; exact ih
theorem KT.repl {H : Hp} {kvs : List (List Key × V)} {xs : List (List Key × Addr × Value)} (r : KT H kvs xs) (k : List Key) {y : V} {u : Value} (ry : RelV y u) :
    KT H (kvs.map fun kv=>if kv.1 = k then (kv.1,y) else kv) (xs.map (putAt k u)) := by
  induction r with
  | nil=>exact .nil
  | @cons p q ps qs h t ih =>
    rw [List.map_cons,List.map_cons]
    refine .cons ?_ ih
    obtain ⟨h1,h2,h3⟩ := h
    unfold putAt
    by_cases e : p.1 = k
    · rw [if_pos e,if_pos (h1.symm.trans e)]; exact ⟨h1,h2,ry⟩
    · rw [if_neg e,if_neg (fun z=>e (h1.trans z))]; exact ⟨h1,h2,h3⟩
theorem KT.put {H : Hp} {kvs : List (List Key × V)} {xs : List (List Key × Addr × Value)} (r : KT H kvs xs) (k : List Key) {b : Addr} {y : V} {u : Value} (hb : H b = some (.tup (k.map kV))) (ry : RelV y u) :
    KT H (putK kvs k y) (storedH xs k b u) := by
  have e : (kvs.any fun kv=>decide (kv.1 = k)) = (atKey xs k).isSome := by
    rw [valV_any,(r.val k).isSome_eq,Option.isSome_map]
  unfold putK storedH
  rw [e]
  by_cases q : (atKey xs k).isSome = true
  · rw [if_pos q,if_pos q]; exact r.repl k ry
  · rw [if_neg q,if_neg q]; exact Paired.snoc r ⟨rfl,hb,ry⟩
theorem KT.keeps {H H' : Hp} {kvs : List (List Key × V)} {xs : List (List Key × Addr × Value)} (r : KT H kvs xs) (ht : ∀ b ys,H b = some (.tup ys) → H' b = some (.tup ys)) : KT H' kvs xs :=
  Paired.mapP r fun _ _ z=>⟨z.1,ht _ _ z.2.1,z.2.2⟩
section
variable {P : Program} {w : World} {H : Hp} {h : Heap} {a : Addr}
theorem rd_of {u : HO} (ok : HOk P w H h) (e : Rd H a u) : ObjOk P w H h a u := e.ok ok
theorem dk_rd {kvs : List (Key × V)} (ok : HOk P w H h) (e : Rd H a (.dK kvs)) : kvs.length ≤ sizeLine ∧ (a == sysModules) = false ∧ ∃ vs,KV kvs vs ∧ h.DictOf (mixKind P w) a vs :=
  show ObjOk P w H h a (.dK kvs) from rd_of ok e
theorem dk_of {kvs : List (Key × V)} (ok : HOk P w H h) (e : H a = some (.dK kvs)) : kvs.length ≤ sizeLine ∧ (a == sysModules) = false ∧ ∃ vs,KV kvs vs ∧ h.DictOf (mixKind P w) a vs := dk_rd ok (.inl e)
theorem key_of {ks : List Key} (ok : HOk P w H h) (e : H a = some (.tup (ks.map kV))) : (tupleKind (mixKind P w)).is h ks a := by
  obtain ⟨_,its,r,o,h1,h2,n,h3⟩ := (show ObjOk P w H h a (.tup (ks.map kV)) from ok a _ e)
  exact ⟨o,its.toArray,n,h1,h2,h3,by simpa using items_are r⟩
theorem dt_rd {kvs : List (List Key × V)} (ok : HOk P w H h) (e : Rd H a (.dT kvs)) : kvs.length ≤ sizeLine ∧ (a == sysModules) = false ∧
    ∃ xs,KT H kvs xs ∧ h.DictOfH (tupleKind (mixKind P w)) a xs := by
  obtain ⟨z,y,xs,r,o,es,ep,h1,h2,h3,h4,h5⟩ := (show ObjOk P w H h a (.dT kvs) from rd_of ok e)
  refine ⟨z,y,xs,r,o,es,ep,h1,h2,h3,h4,fun x hx=>?_,h5⟩
  have all : ∀ {l : List (List Key × V)} {m : List (List Key × Addr × Value)},KT H l m → ∀ x ∈ m,(tupleKind (mixKind P w)).is h x.1 x.2.1 := by
    intro l m q
    induction q with
    | nil=>intro x hx; exact nomatch hx
    | @cons p q ps qs hq t ih =>
      intro x hx
      rcases List.mem_cons.mp hx with e | hx
      · subst e
        exact key_of ok (by rw [← hq.1]; exact hq.2.1)
      · exact ih x hx
  exact all r x hx
theorem dt_of {kvs : List (List Key × V)} (ok : HOk P w H h) (e : H a = some (.dT kvs)) : kvs.length ≤ sizeLine ∧ (a == sysModules) = false ∧
    ∃ xs,KT H kvs xs ∧ h.DictOfH (tupleKind (mixKind P w)) a xs := dt_rd ok (.inl e)
end
def DGet (H : Hp) (a : Addr) (y : V) (r : Option V) : Prop :=
  (∃ kvs k,Rd H a (.dK kvs) ∧ y = kV k ∧ r = valV kvs k) ∨ ∃ kvs k b,Rd H a (.dT kvs) ∧ y = .ref b ∧ H b = some (.tup (k.map kV)) ∧ r = valV kvs k
def DPut (H : Hp) (a : Addr) (y v : V) (H' : Hp) : Prop :=
  (∃ kvs k,H a = some (.dK kvs) ∧ y = kV k ∧ kvs.length < sizeLine ∧ H' = upd H a (.dK (putK kvs k v))) ∨
  ∃ kvs k b,H a = some (.dT kvs) ∧ y = .ref b ∧ H b = some (.tup (k.map kV)) ∧ kvs.length < sizeLine ∧ H' = upd H a (.dT (putK kvs k v))
theorem DGet.k {H : Hp} {a : Addr} {kvs : List (Key × V)} {k : Key} (e : H a = some (.dK kvs)) : DGet H a (kV k) (valV kvs k) := .inl ⟨kvs,k, .inl e,rfl,rfl⟩
theorem DPut.k {H : Hp} {a : Addr} {kvs : List (Key × V)} {k : Key} {v : V} (e : H a = some (.dK kvs)) (hl : kvs.length < sizeLine) : DPut H a (kV k) v (upd H a (.dK (putK kvs k v))) := .inl ⟨kvs,k,e,rfl,hl,rfl⟩
section
variable {X : Cx} {pins : List (Addr × Obj)} {σ : St} {H : Hp} {s : Shared} {a : Addr} {y v : V} {u r : Value} {o : Option V} {A : Around} {E : Value → Shared → Prop}
theorem Inv.big (I : Inv X pins σ H s) : sysModules < s.heap.objs.size := by
  have h : mainGlobals < s.heap.objs.size := (I.mod.glob.keeps I.bk).lt
  exact Nat.lt_trans (by decide) h
theorem d_getItem {Q : Value → Shared → Prop} (hu : A.units + 1 < cLine) (I : Inv X pins σ H s) (g : DGet H a y (some v)) (ry : RelV y u) (h : ∀ w' s',Inv X pins σ H s' → RelV v w' → Q w' s') :
    wpAny (model X.prog X.w) A (getItem (.ref a) u) Q E s := by
  rcases g with ⟨kvs,k,e,ey,l⟩ | ⟨kvs,k,b,e,ey,eb,l⟩
  · subst ey
    obtain ⟨z,hd,vs,rel,dd⟩ := dk_rd I.hok e
    obtain ⟨w',hw,rw'⟩ := RelO.some_of (v := v) (o := valueAt vs k) (by rw [l]; exact rel.val k)
    exact wpAny_getItem_of (kV_is ry) dd.mapOf hw (h w' _ (I.tok _) rw')
  · subst ey
    cases (show u = Value.ref b from ry)
    obtain ⟨z,hd,xs,rel,dd⟩ := dt_rd I.hok e
    obtain ⟨w',hw,rw'⟩ := RelO.some_of (v := v) (o := (atKey xs k).map (·.2)) (by rw [l]; exact rel.val k)
    obtain ⟨p,hp,hp2⟩ := Option.map_eq_some_iff.mp hw
    refine wpAny_getItem_heap (tupleKind_room_in1 hu) (key_of I.hok eb) dd hp ?_
    rw [hp2]
    exact h w' _ (I.tok _) rw'
theorem d_in {Q : Value → Shared → Prop} (hu : A.units + 1 < cLine) (I : Inv X pins σ H s) (g : DGet H a y o) (ry : RelV y u) (h : ∀ s',Inv X pins σ H s' → Q (.bool o.isSome) s') :
    wpAny (model X.prog X.w) A (compareOp .In u (.ref a)) Q E s := by
  rcases g with ⟨kvs,k,e,ey,l⟩ | ⟨kvs,k,b,e,ey,eb,l⟩
  · subst ey
    obtain ⟨z,hd,vs,rel,dd⟩ := dk_rd I.hok e
    refine wpAny_in_of (kV_is ry) hd dd.mapOf ?_
    rw [← (rel.val k).isSome_eq,← l]
    exact h _ (I.tok _)
  · subst ey
    cases (show u = Value.ref b from ry)
    obtain ⟨z,hd,xs,rel,dd⟩ := dt_rd I.hok e
    refine wpAny_in_heap (tupleKind_room_in1 hu) (key_of I.hok eb) hd dd ?_
    have q := (rel.val k).isSome_eq
    rw [Option.isSome_map] at q
    rw [← q,← l]
    exact h _ (I.tok _)
theorem d_notIn {Q : Value → Shared → Prop} (hu : A.units + 1 < cLine) (I : Inv X pins σ H s) (g : DGet H a y o) (ry : RelV y u) (h : ∀ s',Inv X pins σ H s' → Q (.bool (!o.isSome)) s') :
    wpAny (model X.prog X.w) A (compareOp .NotIn u (.ref a)) Q E s := by
  rcases g with ⟨kvs,k,e,ey,l⟩ | ⟨kvs,k,b,e,ey,eb,l⟩
  · subst ey
    obtain ⟨z,hd,vs,rel,dd⟩ := dk_rd I.hok e
    refine wpAny_notIn_of (kV_is ry) hd dd.mapOf ?_
    rw [← (rel.val k).isSome_eq,← l]
    exact h _ (I.tok _)
  · subst ey
    cases (show u = Value.ref b from ry)
    obtain ⟨z,hd,xs,rel,dd⟩ := dt_rd I.hok e
    refine wpAny_notIn_heap (tupleKind_room_in1 hu) (key_of I.hok eb) hd dd ?_
    have q := (rel.val k).isSome_eq
    rw [Option.isSome_map] at q
    rw [← q,← l]
    exact h _ (I.tok _)
theorem d_write {h' : Heap} {t' : Nat} {ob : HO} (I : Inv X pins σ H s) (mu : Mut (H a)) (hs : Heap.SameBut a s.heap h') (he : ∃ q,h'.get? a = some q) (new : ObjOk X.prog X.w (upd H a ob) h' a ob) :
    Inv X pins σ (upd H a ob) { s with heap := h',toks := t' } :=
  I.write (x := a) (e := a) mu (.inl rfl) (fun b q hb z=>(hs.2 b hb).trans z) he new
theorem dk_new {P : Program} {w : World} {H' : Hp} {h' : Heap} {kvs : List (Key × V)} {vs : List (Key × Value)} (z : kvs.length ≤ sizeLine) (hd : (a == sysModules) = false) (rel : KV kvs vs) (dd : h'.DictOf (mixKind P w) a vs) :
    ObjOk P w H' h' a (.dK kvs) := ⟨z,hd,vs,rel,dd⟩
theorem d_setItem {H' : Hp} {Q : Unit → Shared → Prop} (hu : A.units + 1 < cLine) (I : Inv X pins σ H s) (g : DPut H a y v H') (ry : RelV y u) (rv : RelV v r) (h : ∀ s',Inv X pins σ H' s' → Q () s') :
    wpAny (model X.prog X.w) A (setItem (.ref a) u r) Q E s := by
  rcases g with ⟨kvs,k,e,ey,l,eH⟩ | ⟨kvs,k,b,e,ey,eb,l,eH⟩
  · subst ey eH
    obtain ⟨z,hd,vs,rel,dd⟩ := dk_of I.hok e
    have hz : vs.length ≤ sizeLine := by rw [← rel.length]; exact z
    have hl : (putK kvs k v).length ≤ sizeLine := by have := length_putK kvs k v; omega
    refine wpAny_setItem_pairs (hsz := hz) (kV_is ry) dd fun h' dd' hs=>h _ ?_
    have he : ∃ q,h'.get? a = some q := let ⟨q,_,_,hq,_⟩ := dd'; ⟨q,hq⟩
    exact d_write I (by rw [e]; exact True.intro) hs he (dk_new hl hd (rel.put k rv) dd')
  · subst ey eH
    cases (show u = Value.ref b from ry)
    obtain ⟨z,hd,xs,rel,dd⟩ := dt_of I.hok e
    have hz : xs.length ≤ sizeLine := by rw [← Paired.length rel]; exact z
    have hl : (putK kvs k v).length ≤ sizeLine := by have := length_putK kvs k v; omega
    refine wpAny_setItem_heap (hsz := hz) (tupleKind_room_in1 hu) (key_of I.hok eb) dd fun h' dd' hs=>h _ ?_
    obtain ⟨q,es,ep,hq,h2,h3,h4,_,h5⟩ := dd'
    refine d_write I (by rw [e]; exact True.intro) hs ⟨q,hq⟩ ⟨hl,hd,_,(rel.put k eb rv).keeps fun c ys ec=>?_,q,es,ep,hq,h2,h3,h4,h5⟩
    rw [upd_ne (ne_of ec e (fun z=>nomatch z))]
    exact ec
end
section
variable {X : Cx} {pins : List (Addr × Obj)} {σ : St} {H : Hp} {s : Shared} {a : Addr} {kvs : List (Key × V)} {k : Key} {u : Value} {A : Around} {E : Value → Shared → Prop}
theorem d_clear {Q : Value → Shared → Prop} (I : Inv X pins σ H s) (e : H a = some (.dK kvs)) (h : ∀ s',Inv X pins σ (upd H a (.dK [])) s' → Q .none s') : wpAny (model X.prog X.w) A (call (.builtin "dict.clear") [.ref a]) Q E s := by
  obtain ⟨z,hd,vs,rel,dd⟩ := dk_of I.hok e
  refine call_meetsIn PySem.F.slot_dict_clear dd.typeIs PySem.F.entry_dict_clear (PySem.F.args_dict_clear_1 _) (meets_dict_clear (mixKind X.prog X.w) a) ⟨vs,dd,by rw [← rel.length]; exact z,fun h' dd' hs=>h _ ?_⟩
  have he : ∃ q,h'.get? a = some q := let ⟨q,_,_,hq,_⟩ := dd'; ⟨q,hq⟩
  exact d_write (t' := s.toks) I (by rw [e]; exact True.intro) hs he (dk_new (Nat.zero_le _) hd .nil dd')
theorem d_len {Q : Value → Shared → Prop} (I : Inv X pins σ H s) (e : Rd H a (.dK kvs)) (h : ∀ t s',Inv X pins σ H s' → Q (.int kvs.length t) s') : wpAny (model X.prog X.w) A (call (.builtin "len") [.ref a]) Q E s := by
  obtain ⟨z,hd,vs,rel,dd⟩ := dk_rd I.hok e
  refine call_len_dict hd dd (by rw [← rel.length]; rw [sizeLine_eq] at z; omega) ?_
  rw [← rel.length]
  exact h _ _ (I.tok _)
end
def NoSl (i : Expr) : Prop := ∀ ov iv,subscripted i false ov iv = operate [ov,iv] (getItem ov iv)
theorem subD_of {prog : Program} {w : World} {A : Around} {E : Value → Shared → Prop} {s : Shared} {env : Env} {value slice : Expr} {pos : Pos} {T id : String} {Q : Value → Shared → Prop}
    (hl : typeLookup (.type T) "__getitem__" = pure (some (.builtin id))) (hs : NoSl slice)
    (h : wpAny (model prog w) A (eval value env) (fun o s₁=>wpAny (model prog w) A (eval slice env) (fun i s₂=>s₂.TypeIs o T ∧ wpAny (model prog w) A (getItem o i) Q E s₂) E s₁) E s) :
    wpAny (model prog w) A (eval (.Subscript value slice pos) env) Q E s := by
  refine Subscript_ (wpAny_mono h (fun o s₁ h₁=>wpAny_mono h₁ (fun i s₂ h₂=>?_) fun _ _ x=>x) fun _ _ x=>x)
  obtain ⟨hT,h₂⟩ := h₂
  unfold subscriptTail
  refine wpAny_bind ?_
  rw [getitemInPython_of_ne hT.not_modules]
  refine wpAny_bind (wpAny_specialOf hT hl ?_)
  have fin : wpAny (model prog w) A (subscripted slice false o i) (fun r s₃=>wpAny (model prog w) A (letTemporaryGo value o r >>= fun _=>pure r) Q E s₃) E s₂ := by
    rw [hs o i]
    exact wpAny_operating (wpAny_mono h₂ (fun r s₃ h₃=>wpAny_bind (wpAny_letTemporaryGo (wpAny_pure h₃))) fun _ _ x=>x)
  first
    | exact wpAny_pure (wpAny_bind fin)
    | exact wpAny_bind (wpAny_pure (wpAny_bind fin))
    | exact wpAny_bind fin
theorem dict_typeIs {X : Cx} {pins : List (Addr × Obj)} {σ : St} {H : Hp} {s : Shared} {a : Addr} {y : V} {o : Option V} (I : Inv X pins σ H s) (g : DGet H a y o) : s.TypeIs (.ref a) "dict" := by
  rcases g with ⟨kvs,k,e,_,_⟩ | ⟨kvs,k,b,e,_,_,_⟩
  · obtain ⟨_,_,vs,_,dd⟩ := dk_rd I.hok e
    exact dd.typeIs
  · obtain ⟨_,_,xs,_,dd⟩ := dt_rd I.hok e
    exact dd.typeIs
def tDGet (td ty : TE) : TE := fun σ H Q=>td σ H fun x H1=>ty σ H1 fun y H2=>∃ a v,x = .ref a ∧ DGet H2 a y (some v) ∧ Q v H2
def sDPut (td ty tv : TE) : TS := fun D σ H=>tv σ H fun v H1=>td σ H1 fun x H2=>ty σ H2 fun y H3=>∃ a H4,x = .ref a ∧ DPut H3 a y v H4 ∧ D.nx σ H4
section
variable {X : Cx} {o i e value : Expr} {pos pos' tpos : Pos} {td ty tv : TE}
theorem pe_dget (hu : X.A.units + 1 < cLine) (ho : PE X o td) (hi : PE X i ty) (hs : NoSl i) : PE X (.Subscript o i pos) (tDGet td ty) := by
  intro pins s σ H Q I h
  refine subD_of PySem.F.slot_dict_getitem.lookup hs (thn (ho pins s σ H _ I h) fun u s1 ⟨x,H1,I1,rx,q1⟩=>thn (hi pins s1 σ H1 _ I1 q1) fun iv s2 ⟨y,H2,I2,ry,a,v,ex,g,q2⟩=>?_)
  subst ex
  obtain rfl : u = Value.ref a := rx
  exact ⟨dict_typeIs I2 g,d_getItem hu I2 g ry fun w' s3 I3 rw'=>⟨v,H2,I3,rw',q2⟩⟩
theorem ps_dput (hu : X.A.units + 1 < cLine) (ho : PE X o td) (hi : PE X i ty) (hv : PE X value tv) (hs : swapsWith value (some (.Subscript o i pos')) pos.line X.env = pure false) :
    PS X (.Assign [.Subscript o i pos'] value pos) (sDPut td ty tv) := by
  intro pins s σ H D I h
  refine wpAny_Assign_Subscript (thn (hv pins s σ H _ I h) fun r s1 ⟨v,H1,I1,rv,q1⟩=>thn (ho pins s1 σ H1 _ I1 q1) fun u s2 ⟨x,H2,I2,rx,q2⟩=>thn (hi pins s2 σ H2 _ I2 q2) fun iv s3 ⟨y,H3,I3,ry,a,H4,ex,g,q3⟩=>?_) hs
  subst ex
  obtain rfl : u = Value.ref a := rx
  exact d_setItem hu I3 g ry rv fun s4 I4=>⟨σ,H4,I4,q3⟩
end
theorem dk_empty {P : Program} {w : World} {H : Hp} (h : Heap) (hb : sysModules < h.objs.size) : ObjOk P w H (h.push { cls := .type "dict",data := .dict #[] }) h.objs.size (.dK []) :=
  ⟨Nat.zero_le _,beq_eq_false_iff_ne.mpr (Ne.symm (Nat.ne_of_lt hb)),[], .nil,Heap.DictOf.new h⟩
def tDNewK : TE := fun _ H Q=>∀ p,H p = none → Q (.ref p) (upd H p (.dK []))
section
variable {X : Cx} {pos : Pos}
theorem pe_dnewK : PE X (.Dict [] [] pos) tDNewK := fun pins s σ H Q I h =>
  wpAny_Dict_empty ⟨.ref s.heap.objs.size,_,I.laid (a := s.heap.objs.size) (o := .dK []) (t' := s.toks) (fun _ _ q=>Heap.get?_push_of_some _ q) (Nat.le_refl _) (dk_empty s.heap I.big),rfl,h _ (I.hok.fresh (Nat.le_refl _))⟩
end
def tPairs : List (TE × TE) → St → Hp → (List (V × V) → Hp → Prop) → Prop
  | [],_,H,Q=>Q [] H
  | (tk,tv) :: r,σ,H,Q=>tk σ H fun x H1=>tv σ H1 fun y H2=>tPairs r σ H2 fun ps H3=>Q ((x,y) :: ps) H3
abbrev VV : List (V × V) → List (Value × Value) → Prop := Paired fun p q=>RelV p.1 q.1 ∧ RelV p.2 q.2
def PPs (X : Cx) (pos : Pos) (keys : List (Option Expr)) (values : List Expr) (trs : List (TE × TE)) : Prop :=
  ∀ (pins : List (Addr × Obj)) (s : Shared) (σ : St) (H : Hp) (Q : List (V × V) → Hp → Prop),Inv X pins σ H s → tPairs trs σ H Q →
    wpAny (model X.prog X.w) X.A (evalPairs (pairTrees keys values X.env pos)) (fun vs s'=>∃ ps H',Inv X pins σ H' s' ∧ VV ps vs ∧ Q ps H') X.xe s
theorem pps_nil {X : Cx} {pos : Pos} : PPs X pos [] [] [] := fun pins s σ H Q I h=>pairTrees_nil_walk ⟨[],H,I, .nil,h⟩
theorem pps_cons {X : Cx} {pos : Pos} {k v : Expr} {ks : List (Option Expr)} {vs : List Expr} {tk tv : TE} {trs : List (TE × TE)} (hk : PE X k tk) (hv : PE X v tv) (hr : PPs X pos ks vs trs) :
    PPs X pos (some k :: ks) (v :: vs) ((tk,tv) :: trs) := fun pins s σ H Q I h =>
  pairTrees_cons_walk (thn (hk pins s σ H _ I h) fun u s1 ⟨x,H1,I1,rx,q1⟩=>thn (hv pins s1 σ H1 _ I1 q1) fun w2 s2 ⟨y,H2,I2,ry,q2⟩ =>
    thn (hr pins s2 σ H2 _ I2 q2) fun ws s3 ⟨ps,H3,I3,rel,q3⟩=>⟨(x,y) :: ps,H3,I3, .cons ⟨rx,ry⟩ rel,q3⟩)
def mergeK (kvs more : List (Key × V)) : List (Key × V) := more.foldl (fun acc kv=>putK acc kv.1 kv.2) kvs
theorem KV.merge : ∀ {more : List (Key × V)} {rs : List (Key × Value)} {kvs : List (Key × V)} {vs : List (Key × Value)},KV more rs → KV kvs vs → KV (mergeK kvs more) (merged vs rs) := by
  intro more rs kvs vs r
  unfold KV at r
  induction r generalizing kvs vs with
  | nil=>intro q; exact q
  | @cons p q ps qs h t ih =>
    intro r0
    have e : KV (putK kvs p.1 p.2) (stored vs q.1 q.2) := by
      have := r0.put p.1 h.2
      rw [← h.1]; exact this
    exact ih e
theorem length_mergeK : ∀ (more kvs : List (Key × V)),(mergeK kvs more).length ≤ kvs.length + more.length
  | [],kvs=>by show kvs.length ≤ kvs.length + 0; omega
  | p :: r,kvs=>by
    have h1 := length_mergeK r (putK kvs p.1 p.2)
    have h2 := length_putK kvs p.1 p.2
    show (mergeK (putK kvs p.1 p.2) r).length ≤ _
    rw [List.length_cons]; omega
theorem carries_of {P : Program} {w : World} : ∀ {kvs : List (Key × V)} {ws : List (Value × Value)},VV (kvs.map fun kv=>(kV kv.1,kv.2)) ws → ∃ rs,Carries (mixKind P w) ws rs ∧ KV kvs rs
  | [],_,r=>by rw [List.map_nil] at r; cases r; exact ⟨[],True.intro, .nil⟩
  | p :: kvs,_,r=>by
    rw [List.map_cons] at r
    cases r with
    | @cons a b as bs h t =>
      obtain ⟨rs,c,q⟩ := carries_of (P := P) (w := w) t
      obtain ⟨b1,b2⟩ := b
      exact ⟨(p.1,b2) :: rs,⟨kV_is h.1,rfl,c⟩, .cons ⟨rfl,h.2⟩ q⟩
def tDisp (trs : List (TE × TE)) : TE := fun σ H Q=>∀ p,H p = none → tPairs trs σ (upd H p (.dK [])) fun ps H2=>H2 p = some (.dK []) ∧ ∃ kvs : List (Key × V),ps = kvs.map (fun kv=>(kV kv.1,kv.2)) ∧ kvs.length ≤ 15 ∧ Q (.ref p) (upd H2 p (.dK (mergeK [] kvs)))
theorem pe_disp {X : Cx} {pos : Pos} {keys : List (Option Expr)} {values : List Expr} {trs : List (TE × TE)} (h : PPs X pos keys values trs) (hall : keys.all (·.isSome) = true) (hl : keys.length = values.length) (h0 : keys ≠ [])
    (h15 : keys.length ≤ 15) : PE X (.Dict keys values pos) (tDisp trs) := by
  intro pins s σ H Q I q
  have hn := I.hok.fresh (Nat.le_refl s.heap.objs.size)
  have I1 := I.laid (a := s.heap.objs.size) (o := .dK []) (h' := s.heap.push { cls := .type "dict",data := .dict #[] }) (t' := s.toks) (fun _ _ q=>Heap.get?_push_of_some _ q) (Nat.le_refl _) (dk_empty s.heap I.big)
  refine wpAny_Dict_walk (knd := mixKind X.prog X.w) hall hl h0 h15 (thn (h pins _ σ _ _ I1 (q _ hn)) fun ws s2 ⟨ps,H2,I2,rel,e,kvs,ep,lk,q2⟩=>?_)
  subst ep
  obtain ⟨rs,c,rk⟩ := carries_of (P := X.prog) (w := X.w) rel
  obtain ⟨z,hd,vs0,r0,dd⟩ := dk_of I2.hok e
  cases r0
  refine ⟨rs,c,dd,fun h' dd' hs=>⟨.ref s.heap.objs.size,_,?_,rfl,q2⟩⟩
  have hz : (mergeK [] kvs).length ≤ sizeLine := by
    have h1 := length_mergeK kvs []
    rw [List.length_nil] at h1
    rw [sizeLine_eq]; omega
  have he : ∃ q,h'.get? s.heap.objs.size = some q := let ⟨q,_,_,hq,_⟩ := dd'; ⟨q,hq⟩
  exact d_write I2 (by rw [e]; exact True.intro) hs he (dk_new hz hd (rk.merge .nil) dd')
structure M1 (X : Cx) (o : Expr) (m : Str) (apos : Pos) (e : Expr) (cpos : Pos) : Prop where
  base : attributeBase o m X.env (eval o X.env) = eval o X.env
  few : ((backTo cpos (starEach [e] X.env)).all (fun x=>!x.1) && (backToKw cpos (keywordEach [] X.env)).all (fun x=>x.1.isSome)
    && decide (([e] : List Expr).length + ([] : List Keyword).length + (if ([] : List Keyword).isEmpty then 0 else 1) < 30)) = true
  line : (apos.endLine == cpos.line) = true
  trees : backTo cpos (starEach [e] X.env) = [(false,eval e X.env)]
structure M2 (X : Cx) (o : Expr) (m : Str) (apos : Pos) (e f : Expr) (cpos : Pos) : Prop where
  base : attributeBase o m X.env (eval o X.env) = eval o X.env
  few : ((backTo cpos (starEach [e,f] X.env)).all (fun x=>!x.1) && (backToKw cpos (keywordEach [] X.env)).all (fun x=>x.1.isSome)
    && decide (([e,f] : List Expr).length + ([] : List Keyword).length + (if ([] : List Keyword).isEmpty then 0 else 1) < 30)) = true
  line : (apos.endLine == cpos.line) = true
  trees : backTo cpos (starEach [e,f] X.env) = [(false,eval e X.env),(false,eval f X.env)]
def IsD (H : Hp) (a : Addr) : Prop := (∃ kvs,Rd H a (.dK kvs)) ∨ ∃ kvs,Rd H a (.dT kvs)
theorem isD_at {X : Cx} {pins : List (Addr × Obj)} {σ : St} {H : Hp} {s : Shared} {a : Addr} (I : Inv X pins σ H s) (d : IsD H a) :
    s.TypeIs (.ref a) "dict" ∧ (∀ b,Value.ref a = .ref b → ∃ ob,s.heap.get? b = some ob ∧ ob.dict = none) ∧ (a == sysModules) = false := by
  rcases d with ⟨kvs,e⟩ | ⟨kvs,e⟩
  · obtain ⟨_,hd,vs,_,dd⟩ := dk_rd I.hok e
    refine ⟨dd.typeIs,fun b q=>?_,hd⟩
    cases q
    obtain ⟨ob,_,_,h1,h2,_⟩ := dd
    exact ⟨ob,h1,h2.2.1⟩
  · obtain ⟨_,hd,xs,_,dd⟩ := dt_rd I.hok e
    refine ⟨dd.typeIs,fun b q=>?_,hd⟩
    cases q
    obtain ⟨ob,_,_,h1,h2,_⟩ := dd
    exact ⟨ob,h1,h2.2.1⟩
section
variable {X : Cx} {pins : List (Addr × Obj)} {σ : St} {H : Hp} {s : Shared} {a : Addr} {y d : V} {u r : Value} {o : Option V} {A : Around} {E : Value → Shared → Prop}
theorem d_get1 {Q : Value → Shared → Prop} (hu : A.units + 1 < cLine) (I : Inv X pins σ H s) (g : DGet H a y o) (ry : RelV y u) (h : ∀ w' s',Inv X pins σ H s' → RelV (o.getD .non) w' → Q w' s') :
    wpAny (model X.prog X.w) A (call (.builtin "dict.get") [.ref a,u]) Q E s := by
  rcases g with ⟨kvs,k,e,ey,l⟩ | ⟨kvs,k,b,e,ey,eb,l⟩
  · subst ey
    obtain ⟨z,hd,vs,rel,dd⟩ := dk_rd I.hok e
    refine call_meetsIn PySem.F.slot_dict_get dd.typeIs PySem.F.entry_dict_get (PySem.F.args_dict_get_2 _ _) (meets_dict_get (mixKind X.prog X.w) a (kV_is ry) hd) ⟨_,dd.mapOf,h _ _ (I.tok _) ?_⟩
    rw [l]
    exact (rel.val k).getD rfl
  · subst ey
    cases (show u = Value.ref b from ry)
    obtain ⟨z,hd,xs,rel,dd⟩ := dt_rd I.hok e
    refine call_meetsIn PySem.F.slot_dict_get dd.typeIs PySem.F.entry_dict_get (PySem.F.args_dict_get_2 _ _) (meetsH_dict_get (tupleKind (mixKind X.prog X.w)) a b hd) ⟨tupleKind_room_in1 hu,k,xs,key_of I.hok eb,dd,h _ _ (I.tok _) ?_⟩
    rw [l]
    exact (rel.val k).getD rfl
theorem d_get2 {Q : Value → Shared → Prop} (hu : A.units + 1 < cLine) (I : Inv X pins σ H s) (g : DGet H a y o) (ry : RelV y u) (rd : RelV d r) (h : ∀ w' s',Inv X pins σ H s' → RelV (o.getD d) w' → Q w' s') :
    wpAny (model X.prog X.w) A (call (.builtin "dict.get") [.ref a,u,r]) Q E s := by
  rcases g with ⟨kvs,k,e,ey,l⟩ | ⟨kvs,k,b,e,ey,eb,l⟩
  · subst ey
    obtain ⟨z,hd,vs,rel,dd⟩ := dk_rd I.hok e
    refine call_meetsIn PySem.F.slot_dict_get dd.typeIs PySem.F.entry_dict_get (PySem.F.args_dict_get_3 _ _ _) (meets_dict_get_default (mixKind X.prog X.w) a (kV_is ry) hd r) ⟨_,dd.mapOf,h _ _ (I.tok _) ?_⟩
    rw [l]
    exact (rel.val k).getD rd
  · subst ey
    cases (show u = Value.ref b from ry)
    obtain ⟨z,hd,xs,rel,dd⟩ := dt_rd I.hok e
    refine call_meetsIn PySem.F.slot_dict_get dd.typeIs PySem.F.entry_dict_get (PySem.F.args_dict_get_3 _ _ _) (meetsH_dict_get_default (tupleKind (mixKind X.prog X.w)) a b hd r) ⟨tupleKind_room_in1 hu,k,xs,key_of I.hok eb,dd,h _ _ (I.tok _) ?_⟩
    rw [l]
    exact (rel.val k).getD rd
end
def tDGet1 (td ty : TE) : TE := fun σ H Q=>td σ H fun x H1=>∃ a,x = .ref a ∧ IsD H1 a ∧ ty σ H1 fun y H2=>∃ o,DGet H2 a y o ∧ Q (o.getD .non) H2
def tDGet2 (td ty tx : TE) : TE := fun σ H Q=>td σ H fun x H1=>∃ a,x = .ref a ∧ IsD H1 a ∧ ty σ H1 fun y H2=>tx σ H2 fun z H3=>∃ o,DGet H3 a y o ∧ Q (o.getD z) H3
section
variable {X : Cx} {o e f : Expr} {apos cpos : Pos} {td ty tx : TE}
theorem pe_dget1 (hu : X.A.units + 1 < cLine) (ho : PE X o td) (he : PE X e ty) (m : M1 X o "get" apos e cpos) : PE X (.Call (.Attribute o "get" apos) [e] [] cpos) (tDGet1 td ty) := by
  intro pins s σ H Q I h
  refine wpAny_Call_method m.base m.few m.line PySem.F.plainAttrs_dict PySem.F.slot_dict_get PySem.F.type_dict_get (thn (ho pins s σ H _ I h) fun u s1 ⟨x,H1,I1,rx,a,ex,d,q1⟩=>?_)
  subst ex
  obtain rfl : u = Value.ref a := rx
  obtain ⟨t1,t2,_⟩ := isD_at I1 d
  refine ⟨t1,t2,?_⟩
  rw [m.trees]
  refine Calls.callWith_builtin rfl (Calls.evalArgs_plain (Calls.spliced_cons (thn (he pins s1 σ H1 _ I1 q1) fun iv s2 ⟨y,H2,I2,ry,ov,g,q2⟩=>Calls.spliced_nil ?_)))
  exact d_get1 hu I2 g ry fun w' s3 I3 rw'=>⟨_,H2,I3,rw',q2⟩
theorem pe_dget2 (hu : X.A.units + 1 < cLine) (ho : PE X o td) (he : PE X e ty) (hf : PE X f tx) (m : M2 X o "get" apos e f cpos) : PE X (.Call (.Attribute o "get" apos) [e,f] [] cpos) (tDGet2 td ty tx) := by
  intro pins s σ H Q I h
  refine wpAny_Call_method m.base m.few m.line PySem.F.plainAttrs_dict PySem.F.slot_dict_get PySem.F.type_dict_get (thn (ho pins s σ H _ I h) fun u s1 ⟨x,H1,I1,rx,a,ex,d,q1⟩=>?_)
  subst ex
  obtain rfl : u = Value.ref a := rx
  obtain ⟨t1,t2,_⟩ := isD_at I1 d
  refine ⟨t1,t2,?_⟩
  rw [m.trees]
  refine Calls.callWith_builtin rfl (Calls.evalArgs_plain (Calls.spliced_cons (thn (he pins s1 σ H1 _ I1 q1) fun iv s2 ⟨y,H2,I2,ry,q2⟩ =>
    Calls.spliced_cons (thn (hf pins s2 σ H2 _ I2 q2) fun fv s3 ⟨z,H3,I3,rz,ov,g,q3⟩=>Calls.spliced_nil ?_))))
  exact d_get2 hu I3 g ry rz fun w' s4 I4 rw'=>⟨_,H3,I4,rw',q3⟩
end
section
variable {X : Cx} {pins : List (Addr × Obj)} {σ : St} {H : Hp} {s : Shared} {a : Addr} {kvs : List (Key × V)} {A : Around} {E : Value → Shared → Prop}
theorem d_copyOf {Q : Value → Shared → Prop} (I : Inv X pins σ H s) (e : Rd H a (.dK kvs)) (h : ∀ p s',H p = none → Inv X pins σ (upd H p (.dK kvs)) s' → Q (.ref p) s') : wpAny (model X.prog X.w) A (call (.type "dict") [.ref a]) Q E s := by
  obtain ⟨z,hd,vs,rel,dd⟩ := dk_rd I.hok e
  refine kt_call_dict hd dd (by rw [← rel.length]; exact z) fun h' dd' hs=>?_
  refine h _ _ (I.hok.fresh (Nat.le_refl _)) (I.laid (a := s.heap.objs.size) (o := .dK kvs) (t' := s.toks) (fun b q hq=>?_) (Nat.le_refl _) (dk_new z (beq_eq_false_iff_ne.mpr (Ne.symm (Nat.ne_of_lt I.big))) rel dd'))
  exact (hs.2 b (Nat.ne_of_lt (Heap.lt_size hq))).trans (Heap.get?_push_of_some _ hq)
end
section
variable {X : Cx} {pins : List (Addr × Obj)} {σ : St} {H : Hp} {s : Shared} {a : Addr} {y : V} {u : Value} {A : Around} {E : Value → Shared → Prop}
end
end L2
namespace L2
open PySem PySem.Spec PyProof.Rows
section
variable {X : Cx}
theorem call_lenD : CallR X (.builtin "len") (fun xs H Q=>∃ a kvs,xs = [V.ref a] ∧ H a = some (.dK kvs) ∧ Q (.int kvs.length) H) := by
  intro pins s σ H xs us Q I r h
  obtain ⟨a,kvs,rfl,ha,q⟩ := h
  obtain ⟨u,rfl,ru⟩ := vals1 r
  cases ru
  exact d_len I (.inl ha) fun t s' I'=>⟨.int kvs.length,H,I',⟨t,rfl⟩,q⟩
end
section
variable {κ : Type} [DecidableEq κ]
end
end L2
set_option Elab.async false
set_option linter.all false
set_option maxRecDepth 100000
namespace L2
open PySem PySem.Spec PyProof.Rows
def repS (k : Nat) (z : Str) : Str := ⟨(List.replicate k z.cps).foldl (· ++ ·) #[]⟩
theorem foldl_cps (a : Array Nat) : ∀ (k : Nat) (b : Array Nat),((List.replicate k a).foldl (· ++ ·) b).toList = b.toList ++ (List.replicate k a.toList).flatten
  | 0,b=>by simp
  | k + 1,b=>by
    rw [List.replicate_succ,List.foldl_cons,foldl_cps a k,List.replicate_succ,List.flatten_cons,Array.toList_append,List.append_assoc]
theorem repS_list (k : Nat) (z : Str) : (repS k z).cps.toList = (List.replicate k z.cps.toList).flatten := by
  show ((List.replicate k z.cps).foldl (· ++ ·) #[]).toList = _
  rw [foldl_cps]
  simp
theorem repS_len (k : Nat) (z : Str) : (repS k z).length = k * z.length := by
  have h := congrArg List.length (repS_list k z)
  rw [len_rep] at h
  simpa [Str.length] using h
section
variable {X : Cx}
theorem op_mulS : OpR X (binaryOp .Mult) (fun x y H Q=>∃ (z : Str) (k : Nat),x = .str z ∧ y = .int k ∧ z.length * k ≤ 100000 ∧ k ≤ 100000 ∧ Q (.str (repS k z)) H) := by
  intro pins s σ H x y v u Q I rx ry h
  obtain ⟨z,k,rfl,rfl,hz,hk,q⟩ := h
  obtain ⟨t,rfl⟩ := rx
  obtain ⟨t',rfl⟩ := ry
  have hline : (100000 : Nat) ≤ sizeLine := by decide
  refine P.mul_str (by rw [decide_eq_false (by omega),decide_eq_false (by omega)]; rfl) (fun h1 _=>?_) (fun h1 _=>?_) ?_
  · have h2 : (1 : Int) ≤ k := by omega
    have h3 : (z.length : Int) * (k : Int) ≤ 100000 := by
      have q : ((z.length * k : Nat) : Int) ≤ ((100000 : Nat) : Int) := Int.ofNat_le.mpr hz
      rw [Int.natCast_mul] at q
      exact q
    have h4 : (z.length : Int) ≤ (2 ^ 63 - 1) / k := Int.le_ediv_of_mul_le (by omega) (by omega)
    omega
  · unfold Builtin.Str.tooLong
    refine decide_eq_false ?_
    have e : ((k : Int)).toNat = k := by omega
    rw [e]
    omega
  · by_cases h1 : (k : Int) < 1
    · rw [if_pos h1]
      have e : k = 0 := by omega
      subst e
      exact ⟨by decide, .str Str.empty,H,I.tok _,⟨_,rfl⟩,q⟩
    · rw [if_neg h1]
      by_cases h2 : ((k : Int) == 1 || z.length == 0) = true
      · rw [if_pos h2]
        have e : repS k z = z := by
          have : (repS k z).cps.toList = z.cps.toList := by
            rw [repS_list]
            rw [Bool.or_eq_true] at h2
            rcases h2 with h2 | h2
            · have e1 : k = 1 := by
                have h4 : (k : Int) = 1 := by simpa using h2
                omega
              subst e1
              simp
            · have e0 : z.cps.toList = [] := by
                have : z.cps.toList.length = 0 := by simpa [Str.length] using h2
                exact List.length_eq_zero_iff.mp this
              rw [e0]
              simp
          cases z with
          | mk a =>
            have h3 : (repS k ⟨a⟩).cps = a := Array.toList_inj.mp this
            cases hr : repS k ⟨a⟩ with
            | mk b =>
              rw [hr] at h3
              rw [← h3]
        rw [e] at q
        exact ⟨.str z,H,I,⟨_,rfl⟩,q⟩
      · rw [if_neg h2]
        have e : ((k : Int)).toNat = k := by omega
        rw [e]
        have hl := repS_len k z
        have : (repS k z).length ≤ sizeLine := by
          rw [hl,Nat.mul_comm]
          omega
        exact ⟨this, .str (repS k z),H,I.tok _,⟨_,rfl⟩,q⟩
end
end L2
set_option Elab.async false
set_option linter.all false
set_option maxRecDepth 100000
namespace Fw
open PySem PySem.Spec PyProof.Rows L2
def top (i : Nat) : Stmt := PySem.Challenge.pw_facework_k22_joined_makes_the_same.main.body.getD i (.Pass ⟨0,0,0,0⟩)
theorem at_any {α : Type} {xs : List α} {d : Int} (h0 : 0 ≤ d) (h1 : d < xs.length) : ∃ v,atI xs d = some v ∧ v ∈ xs := by
  have hd : d.toNat < xs.length := by omega
  refine ⟨xs[d.toNat],?_,List.getElem_mem hd⟩
  have e : ((d.toNat : Nat) : Int) = d := by omega
  have q := atI_nat (xs := xs) (j := d.toNat) (v := xs[d.toNat]) (List.getElem?_eq_getElem hd)
  rw [e] at q
  exact q
abbrev kc : Key := Sum.inr "cells"
abbrev ka : Key := Sum.inr "at"
abbrev kd : Key := Sum.inr "digits"
abbrev kt : Key := Sum.inr "turn"
theorem keys_ne : kc ≠ ka ∧ kc ≠ kd ∧ kc ≠ kt ∧ ka ≠ kc ∧ ka ≠ kd ∧ ka ≠ kt ∧ kd ≠ kc ∧ kd ≠ ka ∧ kd ≠ kt ∧ kt ≠ kc ∧ kt ≠ ka ∧ kt ≠ kd := by decide +kernel
def potL (cl : Addr) (a d t : Int) : List (Key × V) := [(kc, .ref cl),(ka, .int a),(kd, .int d),(kt, .int t)]
section
variable {cl : Addr} {a d t : Int} {v : V}
theorem pot_c : valV (potL cl a d t) kc = some (.ref cl) := by simp [valV,potL]
theorem pot_a : valV (potL cl a d t) ka = some (.int a) := by
  obtain ⟨h1,h2,h3,h4,h5,h6,h7,h8,h9,h10,h11,h12⟩ := keys_ne
  simp only [valV,potL,List.find?_cons,decide_eq_false h1,decide_true]; rfl
theorem pot_d : valV (potL cl a d t) kd = some (.int d) := by
  obtain ⟨h1,h2,h3,h4,h5,h6,h7,h8,h9,h10,h11,h12⟩ := keys_ne
  simp only [valV,potL,List.find?_cons,decide_eq_false h2,decide_eq_false h5,decide_true]; rfl
theorem pot_t : valV (potL cl a d t) kt = some (.int t) := by
  obtain ⟨h1,h2,h3,h4,h5,h6,h7,h8,h9,h10,h11,h12⟩ := keys_ne
  simp only [valV,potL,List.find?_cons,decide_eq_false h3,decide_eq_false h6,decide_eq_false h9,decide_true]; rfl
theorem put_a {x : Int} : putK (potL cl a d t) ka (.int x) = potL cl x d t := by
  obtain ⟨h1,h2,h3,h4,h5,h6,h7,h8,h9,h10,h11,h12⟩ := keys_ne
  simp only [putK,potL,List.any_cons,List.map_cons,List.map_nil,decide_eq_false h1,decide_true,Bool.false_or,Bool.true_or,if_true,if_neg h1,if_neg h8,if_neg h11]
theorem put_d {x : Int} : putK (potL cl a d t) kd (.int x) = potL cl a x t := by
  obtain ⟨h1,h2,h3,h4,h5,h6,h7,h8,h9,h10,h11,h12⟩ := keys_ne
  simp only [putK,potL,List.any_cons,List.map_cons,List.map_nil,decide_eq_false h2,decide_eq_false h5,decide_true,Bool.false_or,Bool.true_or,if_true,if_neg h2,if_neg h5,if_neg h12]
theorem put_t {x : Int} : putK (potL cl a d t) kt (.int x) = potL cl a d x := by
  obtain ⟨h1,h2,h3,h4,h5,h6,h7,h8,h9,h10,h11,h12⟩ := keys_ne
  simp only [putK,potL,List.any_cons,List.map_cons,List.map_nil,decide_eq_false h3,decide_eq_false h6,decide_eq_false h9,decide_true,Bool.false_or,Bool.true_or,if_true,if_neg h3,if_neg h6,if_neg h9]
end
def PotOk (H : Hp) (p cl : Addr) (n : Nat) : Prop := ∃ (cs : List Int) (a d t : Int),H p = some (.dK (potL cl a d t)) ∧ H cl = some (.lst (cs.map V.int)) ∧ cs.length ≤ 63 ∧ 0 ≤ a ∧ 0 ≤ d ∧ 0 ≤ t ∧ t ≤ n
structure GrowP (p cl : Addr) (n : Nat) (H H' : Hp) : Prop where
  keep : ∀ b o,b ≠ p → H b = some o → H' b = some o
  ok : PotOk H' p cl n
theorem PotOk.mono {H : Hp} {p cl : Addr} {m n : Nat} (h : PotOk H p cl m) (q : m ≤ n) : PotOk H p cl n := by
  obtain ⟨cs,a,d,t,h1,h2,h3,h4,h5,h6,h7⟩ := h
  exact ⟨cs,a,d,t,h1,h2,h3,h4,h5,h6,by omega⟩
theorem PotOk.same {H H' : Hp} {p cl : Addr} {n : Nat} (h : PotOk H p cl n) (e : Same H H') : PotOk H' p cl n := by
  obtain ⟨cs,a,d,t,h1,h2,h3⟩ := h
  exact ⟨cs,a,d,t,e _ _ h1,e _ _ h2,h3⟩
theorem GrowP.refl {p cl : Addr} {n : Nat} {H : Hp} (h : PotOk H p cl n) : GrowP p cl n H H := ⟨fun _ _ _ e=>e,h⟩
theorem GrowP.trans {p cl : Addr} {m n : Nat} {H H1 H2 : Hp} (a : GrowP p cl m H H1) (b : GrowP p cl n H1 H2) : GrowP p cl n H H2 := ⟨fun c o h e=>b.keep c o h (a.keep c o h e),b.ok⟩
def spMixed : Sp := fun vs H Q _=>∃ (c t : Int),vs = [.int c, .int t] ∧ 0 ≤ t ∧ t ≤ 1000000000 ∧ ∀ i : Int,Q (.int i) H
def spPot (K : PySem.W.Frag) : Sp := fun vs H Q _=>∃ (a : Addr) (ns : List Int),vs = [.ref a] ∧ SqL K H a (ns.map V.int) ∧ ∀ p cl H',Same H H' → H p = none → H cl = none → PotOk H' p cl 0 → Q (.ref p) H'
def spDraw : Sp := fun vs H Q _=>∃ (p cl : Addr) (n : Nat) (m : Int),vs = [.ref p, .int m] ∧ PotOk H p cl n ∧ n < 1000000000 ∧ 0 < m ∧ m < 1000000 ∧ ∀ (d : Int) H',0 ≤ d → d < m → GrowP p cl (n + 1) H H' → Q (.int d) H'
section
variable {P : Program} {w : World} {K : PySem.W.Frag} {mg : Str → Option Value} {base : Heap} {f : Addr} {fd : FuncData}
abbrev s_mixed : Stmt := top 14
abbrev s_pot : Stmt := top 15
abbrev s_draw : Stmt := top 16
theorem sc_mixed : FnScope ["_law_cell","_law_turn","_law_once"] ["_law_cell","_law_turn"] (defScope s_mixed) := ⟨rfl,rfl,rfl,by decide +kernel,rfl,by decide +kernel,by decide +kernel⟩
theorem ok_mixed (F : Fun K "_law_mixed" "_law_mixed" s_mixed f fd) : FnOk P w K mg base CX0 1 f fd ["_law_cell","_law_turn"] spMixed := by
  refine F.ok sc_mixed (fun vs H Q E h=>?_) (fun cdv A outer s H vs Q E hr h=>?_)
  · obtain ⟨c,t,rfl,_⟩ := h
    rfl
  obtain ⟨c,t,rfl,t0,t1,q⟩ := h
  refine ⟨_,pss_cons (ps_set (i := 2) sc_mixed.nd rfl (Or.inl rfl) (pe_op op_mod (pe_op op_mul (pe_op op_add (pe_op op_add (pe_op op_mod (pv 0) pe_int) (pe_op op_mul (pe_op op_mul (pv 1) (pv 1)) pe_int)) pe_int) pe_int) pe_int))
    (pss_one (ps_ret (pe_op op_fdiv (pe_op op_mod (pe_op op_mul (pe_op op_add (pe_op op_add (pe_op op_fdiv (pv 2) pe_int) (pe_op op_mul (pv 1) pe_int)) pe_int) pe_int) pe_int) pe_int))),?_⟩
  refine ⟨_,rfl,_,_,rfl,rfl,(by show (0 : Int) < 2147483647; decide),_,rfl,_,rfl,t,t,rfl,rfl, .inl ⟨by omega,by omega⟩,_,_,rfl,rfl, .inr ⟨by decide,by decide⟩,_,_,rfl,rfl,_,_,rfl,rfl,_,_,rfl,rfl, .inr ⟨by decide,by decide⟩,_,_,rfl,rfl,(by show (0 : Int) < 2147483647; decide),?_⟩
  exact ⟨_,rfl,_,_,rfl,rfl,⟨by decide,by decide⟩,_,rfl,_,_,rfl,rfl, .inr ⟨by decide,by decide⟩,_,_,rfl,rfl,_,_,rfl,rfl,_,_,rfl,rfl, .inr ⟨by decide,by decide⟩,_,_,rfl,rfl,(by show (0 : Int) < 2147483629; decide),_,_,rfl,rfl,⟨by decide,by decide⟩,q _⟩
theorem sc_pot : FnScope ["_law_script"] ["_law_script"] (defScope s_pot) := ⟨rfl,rfl,rfl,by decide +kernel,rfl,by decide +kernel,by decide +kernel⟩
theorem ok_pot (F : Fun K "_law_pot" "_law_pot" s_pot f fd) (mt : mg "list" = none) : FnOk P w K mg base CX0 1 f fd ["_law_script"] (spPot K) := by
  refine F.ok sc_pot (fun vs H Q E h=>?_) (fun cdv A outer s H vs Q E hr h=>?_)
  · obtain ⟨a,ns,rfl,_⟩ := h
    rfl
  obtain ⟨a,ns,rfl,hS,q⟩ := h
  refine ⟨_,pss_one (ps_ret (pe_disp (pps_cons pe_str (pe_callTy call_list_of rfl mt boot_list (pa_cons (pe_slice sl_list (pv 0) po_none (po_some pe_int)) pa_nil)) (pps_cons pe_str pe_int (pps_cons pe_str pe_int (pps_cons pe_str pe_int pps_nil)))) rfl rfl (by simp) (by decide))),?_⟩
  intro p hp
  have e1 := same_new hp (.dK [])
  refine ⟨_,rfl,63,rfl,a,_,rfl,e1.seq hS,fun c hc=>?_⟩
  have e2 := same_new hc (.lst (cutV (ns.map V.int) none (some 63)))
  refine ⟨c,_,rfl, .inl (SqL.of upd_same),fun l hl=>?_⟩
  have e3 := same_new hl (.lst (cutV (ns.map V.int) none (some 63)))
  have cut : ∃ cs : List Int,cutV (ns.map V.int) none (some 63) = cs.map V.int ∧ cs.length ≤ 63 := by
    refine ⟨ns.take 63,?_,by rw [List.length_take]; omega⟩
    have hx : cutV (ns.map V.int) none (some (63 : Nat)) = (ns.take 63).map V.int := by
      unfold cutV
      rw [HT.sIx_none,HT.sIx_nat,List.drop_zero,Nat.sub_zero,List.map_take]
      rw [List.length_map]
      by_cases h : 63 ≤ ns.length
      · rw [Nat.min_eq_left h]
      · rw [Nat.min_eq_right (by omega),List.take_of_length_le (by simp),List.take_of_length_le (by simp; omega)]
    exact hx
  obtain ⟨cs,hcs,lcs⟩ := cut
  refine ⟨(e2.trans e3) _ _ upd_same,[(kc, .ref l),(ka, .int 0),(kd, .int 0),(kt, .int 0)],rfl,(by show 4 ≤ 15; decide),?_⟩
  have em : mergeK [] [(kc, .ref l),(ka, .int 0),(kd, .int 0),(kt, .int 0)] = potL l 0 0 0 := by
    obtain ⟨h1,h2,h3,h4,h5,h6,h7,h8,h9,h10,h11,h12⟩ := keys_ne
    simp only [mergeK,putK,potL,List.foldl_cons,List.foldl_nil,List.any_nil,List.any_cons,Bool.false_eq_true,if_false,List.nil_append,List.cons_append,decide_eq_false h1,decide_eq_false h2,decide_eq_false h3,decide_eq_false h5,decide_eq_false h6,decide_eq_false h9,Bool.or_false,Bool.false_or]
  have hlp : l ≠ p := fun e=>by
    have := (e2 _ _ (upd_same (H := H) (a := p) (o := HO.dK [])))
    rw [e] at hl
    rw [this] at hl
    cases hl
  refine q p l _ (fun b o hb=>?_) hp ((e1.trans e2).free hl) ⟨cs,0,0,0,by rw [em]; exact upd_same,?_,lcs,by decide,by decide,by decide,by decide⟩
  · rw [upd_ne (ne_of_none hb hp)]
    exact ((e1.trans e2).trans e3) b o hb
  · rw [upd_ne hlp,upd_same,hcs]
theorem sc_draw : FnScope ["_law_pot_here","_law_many_here","_law_cell","_law_one"] ["_law_pot_here","_law_many_here"] (defScope s_draw) := ⟨rfl,rfl,rfl,by decide +kernel,rfl,by decide +kernel,by decide +kernel⟩
set_option maxHeartbeats 1000000 in
theorem ok_draw (F : Fun K "_law_draw" "_law_draw" s_draw f fd) (ml : mg "len" = none) (h1 : Has P w K mg base 1 "_law_mixed" ["_law_cell","_law_turn"] spMixed) : FnOk P w K mg base CX0 2 f fd ["_law_pot_here","_law_many_here"] spDraw := by
  refine F.ok sc_draw (fun vs H Q E h=>?_) (fun cdv A outer s H vs Q E hr h=>?_)
  · obtain ⟨p,cl,n,m,rfl,_⟩ := h
    rfl
  obtain ⟨p,cl,n,m,rfl,⟨cs,a,d,t,hp,hcl,lcs,a0,d0,t0,t1⟩,hn,m0,m1,q⟩ := h
  have ne : cl ≠ p := ne_of hcl hp (by intro z; cases z)
  have gc : ∀ (H : Hp) (a d t : Int),H p = some (.dK (potL cl a d t)) → DGet H p (.str "cells") (some (.ref cl)) := fun H a d t e=>by have := DGet.k (k := kc) e; rw [pot_c] at this; exact this
  have ga : ∀ (H : Hp) (a d t : Int),H p = some (.dK (potL cl a d t)) → DGet H p (.str "at") (some (.int a)) := fun H a d t e=>by have := DGet.k (k := ka) e; rw [pot_a] at this; exact this
  have gd : ∀ (H : Hp) (a d t : Int),H p = some (.dK (potL cl a d t)) → DGet H p (.str "digits") (some (.int d)) := fun H a d t e=>by have := DGet.k (k := kd) e; rw [pot_d] at this; exact this
  have gt : ∀ (H : Hp) (a d t : Int),H p = some (.dK (potL cl a d t)) → DGet H p (.str "turn") (some (.int t)) := fun H a d t e=>by have := DGet.k (k := kt) e; rw [pot_t] at this; exact this
  have pa : ∀ (H : Hp) (a d t x : Int),H p = some (.dK (potL cl a d t)) → DPut H p (.str "at") (.int x) (upd H p (.dK (potL cl x d t))) := fun H a d t x e=>by have := DPut.k (k := ka) (v := .int x) e (by show 4 < sizeLine; decide); rw [put_a] at this; exact this
  have pd : ∀ (H : Hp) (a d t x : Int),H p = some (.dK (potL cl a d t)) → DPut H p (.str "digits") (.int x) (upd H p (.dK (potL cl a x t))) := fun H a d t x e=>by have := DPut.k (k := kd) (v := .int x) e (by show 4 < sizeLine; decide); rw [put_d] at this; exact this
  have pt : ∀ (H : Hp) (a d t x : Int),H p = some (.dK (potL cl a d t)) → DPut H p (.str "turn") (.int x) (upd H p (.dK (potL cl a d x))) := fun H a d t x e=>by have := DPut.k (k := kt) (v := .int x) e (by show 4 < sizeLine; decide); rw [put_t] at this; exact this
  have hu := hu_of hr
  refine ⟨_,pss_cons (ps_dput hu (pv 0) pe_str (pe_op op_add (pe_dget hu (pv 0) pe_str (fun _ _=>rfl)) pe_int) rfl)
    (pss_cons (ps_if (pt_cmpR op_eq (pe_dget hu (pv 0) pe_str (fun _ _=>rfl)) pe_int (nomark _))
      (pss_cons (ps_set (i := 2) sc_draw.nd rfl (Or.inl rfl) pe_int)
      (pss_cons (ps_if (pt_cmpR op_gt (pe_callB call_len_seq rfl ml PySem.boot_len (pa_cons (pe_dget hu (pv 0) pe_str (fun _ _=>rfl)) pa_nil)) pe_int (nomark _))
        (pss_cons (ps_set (i := 2) sc_draw.nd rfl (Or.inl rfl) (pe_ix ix_list (pe_dget hu (pv 0) pe_str (fun _ _=>rfl)) (pe_op op_mod (pe_dget hu (pv 0) pe_str (fun _ _=>rfl)) (pe_callB call_len_seq rfl ml PySem.boot_len (pa_cons (pe_dget hu (pv 0) pe_str (fun _ _=>rfl)) pa_nil))) (fun _ _=>rfl)))
        (pss_one (ps_dput hu (pv 0) pe_str (pe_op op_add (pe_dget hu (pv 0) pe_str (fun _ _=>rfl)) pe_int) rfl))) pss_nil)
      (pss_cons (ps_if (pt_cmpR op_lt (pv 2) (pe_op op_pow pe_int pe_int) (nomark _)) (pss_one (ps_ret (pe_op op_mod (pcall h1 hr (by decide) rfl (pa_cons (pv 2) (pa_cons (pe_dget hu (pv 0) pe_str (fun _ _=>rfl)) pa_nil))) (pv 1)))) pss_nil)
      (pss_one (ps_dput hu (pv 0) pe_str (pv 2) rfl))))) pss_nil)
    (pss_cons (ps_set (i := 3) sc_draw.nd rfl (Or.inl rfl) (pe_op op_mod (pe_dget hu (pv 0) pe_str (fun _ _=>rfl)) (pv 1)))
    (pss_cons (ps_dput hu (pv 0) pe_str (pe_op op_fdiv (pe_dget hu (pv 0) pe_str (fun _ _=>rfl)) (pv 1)) rfl)
    (pss_one (ps_ret (pv 3)))))),?_⟩
  refine ⟨_,rfl,p,_,rfl,gt H _ _ _ hp,t,1,rfl,rfl,_,rfl,p,_,rfl,pt H _ _ _ (t + 1) hp,?_⟩
  have hp1 : (upd H p (.dK (potL cl a d (t + 1)))) p = some (.dK (potL cl a d (t + 1))) := upd_same
  have hcl1 : (upd H p (.dK (potL cl a d (t + 1)))) cl = some (.lst (cs.map V.int)) := by rw [upd_ne ne]; exact hcl
  have keep1 : ∀ b o,b ≠ p → H b = some o → (upd H p (.dK (potL cl a d (t + 1)))) b = some o := fun b o hb e=>by rw [upd_ne hb]; exact e
  revert hp1 hcl1 keep1
  generalize upd H p (.dK (potL cl a d (t + 1))) = H1
  intro hp1 hcl1 keep1
  refine ⟨_,rfl,p,_,rfl,gd H1 _ _ _ hp1,rfl,_,rfl,?_⟩
  refine ite2 (fun c1=>?_) (fun c1=>?_)
  · refine ⟨_,rfl,p,_,rfl,gc H1 _ _ _ hp1,cl,_,rfl, .inl (SqL.of hcl1),_,_,rfl,rfl,_,rfl,?_⟩
    refine ite2 (fun c2=>?_) (fun c2=>?_)
    · have l0 : (0 : Int) < ((cs.map V.int).length : Nat) := of_decide_eq_true c2
      have i0 := Int.emod_nonneg a (b := ((cs.map V.int).length : Nat)) (by omega)
      have i1 := Int.emod_lt_of_pos a l0
      obtain ⟨v,hv,hm⟩ := at_any (xs := cs.map V.int) i0 i1
      obtain ⟨c,_,rfl⟩ := List.mem_map.mp hm
      refine ⟨_,rfl,p,_,rfl,gc H1 _ _ _ hp1,_,rfl,p,_,rfl,ga H1 _ _ _ hp1,_,rfl,p,_,rfl,gc H1 _ _ _ hp1,cl,_,rfl, .inl (SqL.of hcl1),a,_,rfl,rfl,l0,cl,_,_, .int c,rfl,rfl,SqL.of hcl1,hv,?_⟩
      refine ⟨_,rfl,p,_,rfl,ga H1 _ _ _ hp1,a,1,rfl,rfl,_,rfl,p,_,rfl,pa H1 _ _ _ (a + 1) hp1,?_⟩
      have hp2 : (upd H1 p (.dK (potL cl (a + 1) d (t + 1)))) p = some (.dK (potL cl (a + 1) d (t + 1))) := upd_same
      have hcl2 : (upd H1 p (.dK (potL cl (a + 1) d (t + 1)))) cl = some (.lst (cs.map V.int)) := by rw [upd_ne ne]; exact hcl1
      have keep2 : ∀ b o,b ≠ p → H b = some o → (upd H1 p (.dK (potL cl (a + 1) d (t + 1)))) b = some o := fun b o hb e=>by rw [upd_ne hb]; exact keep1 b o hb e
      have a20 : 0 ≤ a + 1 := by omega
      revert hp2 hcl2 keep2 a20
      generalize upd H1 p (.dK (potL cl (a + 1) d (t + 1))) = H2
      generalize a + 1 = a2
      intro hp2 hcl2 keep2 a20
      refine ⟨_,rfl,_,_,rfl,rfl,⟨by decide,by decide,by decide⟩,_,_,rfl,rfl,_,rfl,?_⟩
      refine ite2 (fun c3=>?_) (fun c3=>?_)
      · refine ⟨_,rfl,_,rfl,p,_,rfl,gt H2 _ _ _ hp2,c,t + 1,rfl,by omega,by omega,fun i=>⟨_,rfl,i,m,rfl,rfl,m0,?_⟩⟩
        exact q (i % m) H2 (Int.emod_nonneg _ (by omega)) (Int.emod_lt_of_pos _ m0) ⟨keep2,cs,a2,d,t + 1,hp2,hcl2,lcs,a20,d0,by omega,by omega⟩
      have c4 : ¬ c < 10 ^ 18 := of_decide_eq_false (Bool.eq_false_iff.mpr c3)
      refine ⟨_,rfl,_,rfl,p,_,rfl,pd H2 _ _ _ c hp2,?_⟩
      have hp3 : (upd H2 p (.dK (potL cl a2 c (t + 1)))) p = some (.dK (potL cl a2 c (t + 1))) := upd_same
      have hcl3 : (upd H2 p (.dK (potL cl a2 c (t + 1)))) cl = some (.lst (cs.map V.int)) := by rw [upd_ne ne]; exact hcl2
      have keep3 : ∀ b o,b ≠ p → H b = some o → (upd H2 p (.dK (potL cl a2 c (t + 1)))) b = some o := fun b o hb e=>by rw [upd_ne hb]; exact keep2 b o hb e
      have d30 : 0 ≤ c := by omega
      have a30 := a20
      revert hp3 hcl3 keep3 d30 a30
      generalize upd H2 p (.dK (potL cl a2 c (t + 1))) = H3
      intro hp3 hcl3 keep3 d30 a30
      refine ⟨_,rfl,p,_,rfl,gd H3 _ _ _ hp3,_,rfl,c,m,rfl,rfl,m0,?_⟩
      refine ⟨_,rfl,p,_,rfl,gd H3 _ _ _ hp3,_,rfl,c,m,rfl,rfl,⟨m0,by omega⟩,_,rfl,p,_,rfl,pd H3 _ _ _ _ hp3,?_⟩
      refine ⟨_,rfl,q (c % m) _ (Int.emod_nonneg _ (by omega)) (Int.emod_lt_of_pos _ m0) ⟨fun b o hb e=>by rw [upd_ne hb]; exact keep3 b o hb e,cs,a2,c / m,t + 1,upd_same,by rw [upd_ne ne]; exact hcl3,lcs,a30,Int.ediv_nonneg d30 (by omega),by omega,by omega⟩⟩
    · have hp2 := hp1
      have hcl2 := hcl1
      have keep2 := keep1
      have a20 := a0
      revert hp2 hcl2 keep2 a20
      generalize H1 = H2
      generalize a = a2
      intro hp2 hcl2 keep2 a20
      obtain ⟨c,ec⟩ : ∃ c : Int,c = 0 := ⟨0,rfl⟩
      refine ⟨_,rfl,_,_,rfl,rfl,⟨by decide,by decide,by decide⟩,0,_,rfl,rfl,_,rfl,?_⟩
      refine ite2 (fun c3=>?_) (fun c3=>?_)
      · refine ⟨_,rfl,_,rfl,p,_,rfl,gt H2 _ _ _ hp2,0,t + 1,rfl,by omega,by omega,fun i=>⟨_,rfl,i,m,rfl,rfl,m0,?_⟩⟩
        exact q (i % m) H2 (Int.emod_nonneg _ (by omega)) (Int.emod_lt_of_pos _ m0) ⟨keep2,cs,a2,d,t + 1,hp2,hcl2,lcs,a20,d0,by omega,by omega⟩
      have c4 : ¬ (0 : Int) < 10 ^ 18 := of_decide_eq_false (Bool.eq_false_iff.mpr c3)
      refine ⟨_,rfl,_,rfl,p,_,rfl,pd H2 _ _ _ 0 hp2,?_⟩
      have hp3 : (upd H2 p (.dK (potL cl a2 0 (t + 1)))) p = some (.dK (potL cl a2 0 (t + 1))) := upd_same
      have hcl3 : (upd H2 p (.dK (potL cl a2 0 (t + 1)))) cl = some (.lst (cs.map V.int)) := by rw [upd_ne ne]; exact hcl2
      have keep3 : ∀ b o,b ≠ p → H b = some o → (upd H2 p (.dK (potL cl a2 0 (t + 1)))) b = some o := fun b o hb e=>by rw [upd_ne hb]; exact keep2 b o hb e
      have d30 : (0 : Int) ≤ 0 := by omega
      have a30 := a20
      revert hp3 hcl3 keep3 d30 a30
      generalize upd H2 p (.dK (potL cl a2 0 (t + 1))) = H3
      intro hp3 hcl3 keep3 d30 a30
      refine ⟨_,rfl,p,_,rfl,gd H3 _ _ _ hp3,_,rfl,0,m,rfl,rfl,m0,?_⟩
      refine ⟨_,rfl,p,_,rfl,gd H3 _ _ _ hp3,_,rfl,0,m,rfl,rfl,⟨m0,by omega⟩,_,rfl,p,_,rfl,pd H3 _ _ _ _ hp3,?_⟩
      refine ⟨_,rfl,q (0 % m) _ (Int.emod_nonneg _ (by omega)) (Int.emod_lt_of_pos _ m0) ⟨fun b o hb e=>by rw [upd_ne hb]; exact keep3 b o hb e,cs,a2,0 / m,t + 1,upd_same,by rw [upd_ne ne]; exact hcl3,lcs,a30,Int.ediv_nonneg d30 (by omega),by omega,by omega⟩⟩
  · have H3 := H1
    have hp3 := hp1
    have hcl3 := hcl1
    have keep3 := keep1
    have d30 := d0
    have a30 := a0
    clear H3
    revert hp3 hcl3 keep3
    generalize H1 = H3
    intro hp3 hcl3 keep3
    refine ⟨_,rfl,p,_,rfl,gd H3 _ _ _ hp3,_,rfl,d,m,rfl,rfl,m0,?_⟩
    refine ⟨_,rfl,p,_,rfl,gd H3 _ _ _ hp3,_,rfl,d,m,rfl,rfl,⟨m0,by omega⟩,_,rfl,p,_,rfl,pd H3 _ _ _ _ hp3,?_⟩
    refine ⟨_,rfl,q (d % m) _ (Int.emod_nonneg _ (by omega)) (Int.emod_lt_of_pos _ m0) ⟨fun b o hb e=>by rw [upd_ne hb]; exact keep3 b o hb e,cs,a,d / m,t + 1,upd_same,by rw [upd_ne ne]; exact hcl3,lcs,a30,Int.ediv_nonneg d30 (by omega),by omega,by omega⟩⟩
end
end Fw
set_option Elab.async false
set_option linter.all false
set_option maxRecDepth 100000
namespace Fw
open PySem PySem.Spec PyProof.Rows L2
theorem at_sm {d : Int} (h0 : 0 ≤ d) (h1 : d < 26) : ∃ c,atI smallS.cps.toList d = some c ∧ c ∈ smallS.cps.toList := at_any h0 (by rw [len_toList,smallS_len]; exact h1)
theorem at_gr {d : Int} (h0 : 0 ≤ d) (h1 : d < 26) : ∃ c,atI greatS.cps.toList d = some c ∧ c ∈ greatS.cps.toList := at_any h0 (by rw [len_toList,greatS_len]; exact h1)
theorem slice_mem {x : Str} {l u : Option Int} {c : Nat} (h : c ∈ (Txt.slice x l u).cps.toList) : c ∈ x.cps.toList := by
  unfold Txt.slice at h
  split at h
  · exact h
  · simp only [List.mem_filterMap] at h
    obtain ⟨i,_,hi⟩ := h
    exact Array.mem_toList_iff.mpr (Array.mem_of_getElem? hi)
def Lets (z : Str) : Prop := ∀ c ∈ z.cps.toList,97 ≤ c ∧ c ≤ 122
theorem Lets.app {a b : Str} (ha : Lets a) (hb : Lets b) : Lets (a ++ b) := fun c hc=>by
  rw [cps_app] at hc
  rcases List.mem_append.mp hc with h | h
  · exact ha c h
  · exact hb c h
theorem Lets.slice {a : Str} (ha : Lets a) (l u : Option Int) : Lets (Txt.slice a l u) := fun c hc=>ha c (slice_mem hc)
theorem Lets.one {c : Nat} (h : c ∈ smallS.cps.toList) : Lets ⟨#[c]⟩ := fun d hd=>by
  have e : d = c := by simpa using hd
  subst e
  exact small_range (decide_eq_true h)
theorem Lets.rep {a : Str} (ha : Lets a) (k : Nat) : Lets (repS k a) := fun c hc=>by
  rw [repS_list] at hc
  obtain ⟨l,h1,h2⟩ := List.mem_flatten.mp hc
  rw [(List.mem_replicate.mp h1).2] at h2
  exact ha c h2
theorem lets_q : Lets "q" := by
  have : ∀ c ∈ ("q" : Str).cps.toList,97 ≤ c ∧ c ≤ 122 := by decide +kernel
  exact this
theorem one_len (c : Nat) : (⟨#[c]⟩ : Str).length = 1 := rfl
def spPWord : Sp := fun vs H Q _=>∃ (p cl : Addr) (n : Nat),vs = [.ref p] ∧ PotOk H p cl n ∧ n + 4 ≤ 1000000000 ∧ ∀ (z : Str) H',Lets z → 1 ≤ z.length → z.length ≤ 20 → GrowP p cl (n + 4) H H' → Q (.str z) H'
section
variable {P : Program} {w : World} {K : PySem.W.Frag} {mg : Str → Option Value} {base : Heap} {f : Addr} {fd : FuncData}
abbrev s_word : Stmt := top 17
abbrev s_head : Stmt := top 18
abbrev s_leaf : Stmt := top 19
theorem sc_word : FnScope ["_law_pot_here","_law_letters","_law_size","_law_stem","_law_at"] ["_law_pot_here"] (defScope s_word) := ⟨rfl,rfl,rfl,by decide +kernel,rfl,by decide +kernel,by decide +kernel⟩
theorem ok_word (F : Fun K "_law_word" "_law_word" s_word f fd) (h1 : Has P w K mg base 2 "_law_draw" ["_law_pot_here","_law_many_here"] spDraw) : FnOk P w K mg base CX0 3 f fd ["_law_pot_here"] spPWord := by
  refine F.ok sc_word (fun vs H Q E h=>?_) (fun cdv A outer s H vs Q E hr h=>?_)
  · obtain ⟨p,cl,n,rfl,_⟩ := h
    rfl
  obtain ⟨p,cl,n,rfl,hp,hn,q⟩ := h
  refine ⟨_,pss_cons (ps_set (i := 1) sc_word.nd rfl (Or.inl rfl) pe_str)
    (pss_cons (ps_set (i := 2) sc_word.nd rfl (Or.inl rfl) (pcall h1 hr (by decide) rfl (pa_cons (pv 0) (pa_cons pe_int pa_nil))))
    (pss_cons (ps_set (i := 3) sc_word.nd rfl (Or.inl rfl) (pe_op op_mulS (pe_ix ix_str (pv 1) (pcall h1 hr (by decide) rfl (pa_cons (pv 0) (pa_cons pe_int pa_nil))) (fun _ _=>rfl)) (pv 2)))
    (pss_cons (ps_set (i := 4) sc_word.nd rfl (Or.inl rfl) (pcall h1 hr (by decide) rfl (pa_cons (pv 0) (pa_cons (pe_op op_add (pv 2) pe_int) pa_nil))))
    (pss_one (ps_ret (pe_op op_add_str (pe_op op_add_str (pe_op op_add_str (pe_slice sl_str (pv 3) po_none (po_some (pv 4))) (pe_ix ix_str (pv 1) (pcall h1 hr (by decide) rfl (pa_cons (pv 0) (pa_cons pe_int pa_nil))) (fun _ _=>rfl))) (pe_slice sl_str (pv 3) (po_some (pv 4)) po_none)) pe_str)))))),?_⟩
  have sl : smallS.length ≤ 1000000 := by rw [smallS_len]; decide
  refine ⟨_,rfl,p,cl,n,7,rfl,hp,by omega,by decide,by decide,fun d H1 d0 d1 g1=>?_⟩
  refine ⟨_,rfl,_,rfl,p,cl,n + 1,26,rfl,g1.ok,by omega,by decide,by decide,fun e H2 e0 e1 g2=>?_⟩
  obtain ⟨c,hc,hm⟩ := at_sm e0 e1
  refine ⟨smallS,e,c,rfl,rfl,small sl,hc,_,rfl,⟨#[c]⟩,d.toNat,rfl,(by rw [show ((d.toNat : Nat) : Int) = d by omega]),(by rw [one_len]; omega),by omega,?_⟩
  have hst : Lets (repS d.toNat ⟨#[c]⟩) := (Lets.one hm).rep _
  have lst : (repS d.toNat ⟨#[c]⟩).length ≤ 6 := by rw [repS_len,one_len]; omega
  refine ⟨_,rfl,_,rfl,d,1,rfl,rfl,p,cl,n + 2,d + 1,rfl,g2.ok,by omega,by omega,by omega,fun a H3 a0 a1 g3=>?_⟩
  have l1 := Txt.slice_le (repS d.toNat ⟨#[c]⟩) none (some a)
  have l2 := Txt.slice_le (repS d.toNat ⟨#[c]⟩) (some a) none
  refine ⟨_,rfl,_,rfl,a,rfl,_,rfl,small (by omega),?_⟩
  refine ⟨_,rfl,_,rfl,p,cl,n + 3,26,rfl,g3.ok,by omega,by decide,by decide,fun e' H4 e0' e1' g4=>?_⟩
  obtain ⟨c',hc',hm'⟩ := at_sm e0' e1'
  refine ⟨smallS,e',c',rfl,rfl,small sl,hc',_,_,rfl,rfl,small (by rw [one_len]; omega),?_⟩
  have l3 : (Txt.slice (repS d.toNat ⟨#[c]⟩) none (some a) ++ (⟨#[c']⟩ : Str)).length = (Txt.slice (repS d.toNat ⟨#[c]⟩) none (some a)).length + 1 := by rw [len_app,one_len]
  refine ⟨_,rfl,_,rfl,a,rfl,_,rfl,small (by omega),_,_,rfl,rfl,small (by omega),?_⟩
  have lq : ("q" : Str).length = 1 := by decide +kernel
  refine ⟨_,_,rfl,rfl,small (by rw [len_app,l3,lq]; omega),?_⟩
  refine q _ H4 (((hst.slice _ _).app (Lets.one hm')).app (hst.slice _ _) |>.app lets_q) ?_ ?_ ((((g1.trans g2).trans g3).trans g4))
  · rw [len_app,lq]; omega
  · rw [len_app,len_app,l3,lq]; omega
end
end Fw
set_option Elab.async false
set_option linter.all false
set_option maxRecDepth 100000
namespace Fw
open PySem PySem.Spec PyProof.Rows L2
theorem growP_same {p cl : Addr} {n : Nat} {H H' : Hp} (h : PotOk H p cl n) (e : Same H H') : GrowP p cl n H H' := ⟨fun b o _ q=>e b o q,h.same e⟩
theorem GrowP.up {p cl : Addr} {m n : Nat} {H H' : Hp} (g : GrowP p cl m H H') (q : m ≤ n) : GrowP p cl n H H' := ⟨g.keep,g.ok.mono q⟩
theorem GrowP.tups {p cl : Addr} {m n : Nat} {H H' : Hp} (g : GrowP p cl n H H') (h : PotOk H p cl m) : ∀ b xs,H b = some (.tup xs) → H' b = some (.tup xs) := fun b xs e=>g.keep b _ (by
  obtain ⟨cs,a,d,t,h1,_⟩ := h
  exact ne_of e h1 (by intro z; cases z)) e
theorem Rep.growP {p cl : Addr} {m n : Nat} {H H' : Hp} {v : V} {t : T} (r : Rep H v t) (g : GrowP p cl n H H') (h : PotOk H p cl m) : Rep H' v t := r.mono (g.tups h)
theorem Reps.growP {p cl : Addr} {m n : Nat} {H H' : Hp} {vs : List V} {ts : List T} (r : Reps H vs ts) (g : GrowP p cl n H H') (h : PotOk H p cl m) : Reps H' vs ts := r.mono (g.tups h)
def NQ (z : Str) : Prop := z.cps.toList.head? ≠ some 63 ∧ z.length ≤ 60
def QQ (z : Str) : Prop := z.cps.toList.head? = some 63 ∧ z.length ≤ 60
theorem head_app {a b : Str} (h : 1 ≤ a.length) : (a ++ b).cps.toList.head? = a.cps.toList.head? := by
  rw [cps_app]
  have : a.cps.toList ≠ [] := fun e=>by
    have l := len_toList a
    rw [e] at l
    simp at l
    omega
  cases h' : a.cps.toList with
  | nil=>exact absurd h' this
  | cons x y=>rfl
theorem lets_nq {z : Str} (h : Lets z) (hl : z.length ≤ 60) : NQ z := by
  refine ⟨fun e=>?_,hl⟩
  have := h 63 (List.mem_of_mem_head? (by rw [e]; rfl))
  omega
theorem qmark : ("?" : Str).length = 1 ∧ ("?" : Str).cps.toList.head? = some 63 := by decide +kernel
theorem q_qq {z : Str} (hl : z.length ≤ 50) : QQ ("?" ++ z) := ⟨by rw [head_app (by rw [qmark.1]; exact Nat.le_refl 1)]; exact qmark.2,by rw [len_app,qmark.1]; omega⟩
theorem num_text : ∀ k : Fin 30,(Str.ofString (toString ((k.val : Nat) : Int))).length ≤ 5 ∧ (((k.val : Nat) : Int)).natAbs.log2 < 1920 := by decide +kernel
def oddL : List Str := ["?","??","? ","?->","?(num","?A.b"]
theorem odd_qq : ∀ z ∈ oddL,QQ z := by
  have : ∀ z ∈ oddL,z.cps.toList.head? = some 63 ∧ z.length ≤ 60 := by decide +kernel
  exact this
def spPHead : Sp := fun vs H Q _=>∃ (p cl : Addr) (n : Nat),vs = [.ref p] ∧ PotOk H p cl n ∧ n + 11 ≤ 1000000000 ∧ ∀ (a : Addr) (z : Str) (k : Int) H',NQ z → 0 ≤ k → k < 4 → H' a = some (.tup [.str z, .int k]) → GrowP p cl (n + 11) H H' → Q (.ref a) H'
def spPLeaf : Sp := fun vs H Q _=>∃ (p cl : Addr) (n : Nat),vs = [.ref p] ∧ PotOk H p cl n ∧ n + 5 ≤ 1000000000 ∧ ∀ (z : Str) H',QQ z → GrowP p cl (n + 5) H H' → Q (.str z) H'
section
variable {P : Program} {w : World} {K : PySem.W.Frag} {mg : Str → Option Value} {base : Heap} {f : Addr} {fd : FuncData}
theorem sc_head : FnScope ["_law_pot_here","_law_word_here"] ["_law_pot_here"] (defScope s_head) := ⟨rfl,rfl,rfl,by decide +kernel,rfl,by decide +kernel,by decide +kernel⟩
theorem ok_head (F : Fun K "_law_head" "_law_head" s_head f fd) (h1 : Has P w K mg base 2 "_law_draw" ["_law_pot_here","_law_many_here"] spDraw) (h2 : Has P w K mg base 3 "_law_word" ["_law_pot_here"] spPWord) : FnOk P w K mg base CX0 4 f fd ["_law_pot_here"] spPHead := by
  refine F.ok sc_head (fun vs H Q E h=>?_) (fun cdv A outer s H vs Q E hr h=>?_)
  · obtain ⟨p,cl,n,rfl,_⟩ := h
    rfl
  obtain ⟨p,cl,n,rfl,hp,hn,q⟩ := h
  refine ⟨_,pss_cons (ps_set (i := 1) sc_head.nd rfl (Or.inl rfl) (pcall h2 hr (by decide) rfl (pa_cons (pv 0) pa_nil)))
    (pss_cons (ps_if (pt_cmpR op_eq (pcall h1 hr (by decide) rfl (pa_cons (pv 0) (pa_cons pe_int pa_nil))) pe_int (nomark _))
      (pss_one (ps_set (i := 1) sc_head.nd rfl (Or.inl rfl) (pe_op op_add_str (pe_op op_add_str (pe_op op_add_str (pe_ix ix_str pe_str (pcall h1 hr (by decide) rfl (pa_cons (pv 0) (pa_cons pe_int pa_nil))) (fun _ _=>rfl))
        (pe_slice sl_str (pcall h2 hr (by decide) rfl (pa_cons (pv 0) pa_nil)) po_none (po_some pe_int))) pe_str) (pv 1)))) pss_nil)
    (pss_one (ps_ret (pe_tup (pa_cons (pv 1) (pa_cons (pcall h1 hr (by decide) rfl (pa_cons (pv 0) (pa_cons pe_int pa_nil))) pa_nil)))))),?_⟩
  have gl : greatS.length ≤ 1000000 := by rw [greatS_len]; decide
  refine ⟨_,rfl,p,cl,n,rfl,hp,by omega,fun z H1 hz lz1 lz2 g1=>?_⟩
  refine ⟨_,rfl,p,cl,n + 4,3,rfl,g1.ok,by omega,by decide,by decide,fun d H2 d0 d1 g2=>⟨rfl,_,rfl,?_⟩⟩
  have fin : ∀ (z' : Str) (H3 : Hp) (m : Nat),NQ z' → m ≤ n + 10 → GrowP p cl m H H3 → ∀ (k : Int) (H4 : Hp) (a : Addr),0 ≤ k → k < 4 → GrowP p cl (m + 1) H3 H4 → H4 a = none → Q (.ref a) (upd H4 a (.tup [.str z', .int k])) := fun z' H3 m hz' hm g3 k H4 a k0 k1 g4 ha =>
    q a z' k _ hz' k0 k1 upd_same ((g3.trans g4).trans ((growP_same g4.ok (same_new ha _)).up (by omega)))
  refine ite2 (fun c1=>?_) (fun c1=>?_)
  · refine ⟨_,rfl,p,cl,n + 5,26,rfl,g2.ok,by omega,by decide,by decide,fun e H3 e0 e1 g3=>?_⟩
    obtain ⟨c,hc,hm⟩ := at_gr e0 e1
    refine ⟨greatS,e,c,rfl,rfl,small gl,hc,_,rfl,p,cl,n + 6,rfl,g3.ok,by omega,fun y H4 hy ly1 ly2 g4=>?_⟩
    have ls := Txt.slice_le y none (some 7)
    refine ⟨7,rfl,y,rfl,small (by omega),_,_,rfl,rfl,small (by rw [one_len]; omega),?_⟩
    have lp : (".": Str).length = 1 := by decide +kernel
    refine ⟨_,_,rfl,rfl,small (by rw [len_app,one_len,lp]; omega),_,rfl,_,_,rfl,rfl,small (by rw [len_app,len_app,one_len,lp]; omega),?_⟩
    refine ⟨_,rfl,_,rfl,p,cl,n + 10,4,rfl,g4.ok,by omega,by decide,by decide,fun k H5 k0 k1 g5=>⟨small (by show 2 ≤ 1000000; decide),fun a ha=>?_⟩⟩
    refine fin _ H4 (n + 10) ⟨fun e'=>?_,?_⟩ (by omega) (((g1.trans g2).trans g3).trans g4) k H5 a k0 k1 g5 ha
    · rw [head_app (by rw [len_app,len_app,one_len]; omega),head_app (by rw [len_app,one_len]; omega),head_app (by rw [one_len]; exact Nat.le_refl 1)] at e'
      have e2 : c = 63 := by simpa using e'
      have := great_range (c := c) (decide_eq_true hm)
      omega
    · rw [len_app,len_app,len_app,one_len,lp]; omega
  · refine ⟨_,rfl,_,rfl,p,cl,n + 5,4,rfl,g2.ok,by omega,by decide,by decide,fun k H5 k0 k1 g5=>⟨small (by show 2 ≤ 1000000; decide),fun a ha=>?_⟩⟩
    exact fin z H2 (n + 5) (lets_nq hz (by omega)) (by omega) (g1.trans g2) k H5 a k0 k1 g5 ha
theorem sc_leaf : FnScope ["_law_pot_here","_law_way"] ["_law_pot_here"] (defScope s_leaf) := ⟨rfl,rfl,rfl,by decide +kernel,rfl,by decide +kernel,by decide +kernel⟩
theorem ok_leaf (F : Fun K "_law_leaf" "_law_leaf" s_leaf f fd) (ms : mg "str" = none) (h1 : Has P w K mg base 2 "_law_draw" ["_law_pot_here","_law_many_here"] spDraw) (h2 : Has P w K mg base 3 "_law_word" ["_law_pot_here"] spPWord) : FnOk P w K mg base CX0 4 f fd ["_law_pot_here"] spPLeaf := by
  refine F.ok sc_leaf (fun vs H Q E h=>?_) (fun cdv A outer s H vs Q E hr h=>?_)
  · obtain ⟨p,cl,n,rfl,_⟩ := h
    rfl
  obtain ⟨p,cl,n,rfl,hp,hn,q⟩ := h
  refine ⟨_,pss_cons (ps_set (i := 1) sc_leaf.nd rfl (Or.inl rfl) (pcall h1 hr (by decide) rfl (pa_cons (pv 0) (pa_cons pe_int pa_nil))))
    (pss_cons (ps_if (pt_cmpR op_eq (pv 1) pe_int (nomark _)) (pss_one (ps_ret (pe_op op_add_str pe_str (pe_callTy call_str_int rfl ms boot_str (pa_cons (pcall h1 hr (by decide) rfl (pa_cons (pv 0) (pa_cons pe_int pa_nil))) pa_nil))))) pss_nil)
    (pss_cons (ps_if (pt_cmpR op_eq (pv 1) pe_int (nomark _)) (pss_one (ps_ret (pe_ix ix_list (pe_lst (pa_cons pe_str (pa_cons pe_str (pa_cons pe_str (pa_cons pe_str (pa_cons pe_str (pa_cons pe_str pa_nil))))))) (pcall h1 hr (by decide) rfl (pa_cons (pv 0) (pa_cons pe_int pa_nil))) (fun _ _=>rfl)))) pss_nil)
    (pss_cons (ps_if (pt_cmpR op_eq (pv 1) pe_int (nomark _)) (pss_one (ps_ret (pe_op op_add_str pe_str (pe_ix ix_str pe_str (pcall h1 hr (by decide) rfl (pa_cons (pv 0) (pa_cons pe_int pa_nil))) (fun _ _=>rfl))))) pss_nil)
    (pss_one (ps_ret (pe_op op_add_str pe_str (pcall h2 hr (by decide) rfl (pa_cons (pv 0) pa_nil)))))))),?_⟩
  have sl : smallS.length ≤ 1000000 := by rw [smallS_len]; decide
  refine ⟨_,rfl,p,cl,n,5,rfl,hp,by omega,by decide,by decide,fun d H1 d0 d1 g1=>?_⟩
  refine ⟨_,rfl,rfl,_,rfl,ite2 (fun c1=>?_) (fun c1=>?_)⟩
  · refine ⟨_,rfl,p,cl,n + 1,30,rfl,g1.ok,by omega,by decide,by decide,fun e H2 e0 e1 g2=>?_⟩
    have nt := num_text ⟨e.toNat,by omega⟩
    have ee : ((e.toNat : Nat) : Int) = e := by omega
    rw [show (((⟨e.toNat,by omega⟩ : Fin 30).val : Nat) : Int) = e from ee] at nt
    exact ⟨e,rfl,nt.2,_,_,rfl,rfl,small (by rw [qmark.1]; have := nt.1; omega),q _ H2 (q_qq (by have := nt.1; omega)) ((g1.trans g2).up (by omega))⟩
  refine ⟨_,rfl,rfl,_,rfl,ite2 (fun c2=>?_) (fun c2=>?_)⟩
  · refine ⟨small (by show 6 ≤ 1000000; decide),fun l hl=>?_⟩
    have e1 := same_new hl (.lst (oddL.map V.str))
    have gl := growP_same g1.ok e1
    refine ⟨_,rfl,p,cl,n + 1,6,rfl,gl.ok,by omega,by decide,by decide,fun e H2 e0 e1' g2=>?_⟩
    obtain ⟨v,hv,hm⟩ := at_any (xs := oddL.map V.str) e0 (by simpa [oddL] using e1')
    obtain ⟨z,hz,rfl⟩ := List.mem_map.mp hm
    have nlp : l ≠ p := fun e=>by
      obtain ⟨cs,a,d,t,h1,_⟩ := g1.ok
      rw [e,h1] at hl
      cases hl
    exact ⟨l,_,e, .str z,rfl,rfl,SqL.of (g2.keep _ _ nlp upd_same),hv,q z H2 (odd_qq z hz) (((g1.trans gl).trans g2).up (by omega))⟩
  refine ⟨_,rfl,rfl,_,rfl,ite2 (fun c3=>?_) (fun c3=>?_)⟩
  · refine ⟨_,rfl,p,cl,n + 1,26,rfl,g1.ok,by omega,by decide,by decide,fun e H2 e0 e1 g2=>?_⟩
    obtain ⟨c,hc,hm⟩ := at_sm e0 e1
    exact ⟨smallS,e,c,rfl,rfl,small sl,hc,_,_,rfl,rfl,small (by rw [qmark.1,one_len]; decide),q _ H2 (q_qq (by rw [one_len]; decide)) ((g1.trans g2).up (by omega))⟩
  · exact ⟨_,rfl,p,cl,n + 1,rfl,g1.ok,by omega,fun z H2 hz lz1 lz2 g2=>⟨_,_,rfl,rfl,small (by rw [qmark.1]; omega),q _ H2 (q_qq (by omega)) (g1.trans g2)⟩⟩
end
end Fw
set_option Elab.async false
set_option linter.all false
set_option maxRecDepth 100000
namespace Fw
open PySem PySem.Spec PyProof.Rows L2
def LQ (n : Nat) (z : Str) : Prop := z.cps.toList.head? = some 63 ∧ z.length ≤ n
theorem PotOk.upd {H : Hp} {p cl l : Addr} {n : Nat} {o : HO} (h : PotOk H p cl n) (h1 : l ≠ p) (h2 : l ≠ cl) : PotOk (upd H l o) p cl n := by
  obtain ⟨cs,a,d,t,e1,e2,r⟩ := h
  exact ⟨cs,a,d,t,by rw [upd_ne (Ne.symm h1)]; exact e1,by rw [upd_ne (Ne.symm h2)]; exact e2,r⟩
theorem PotOk.fresh {H : Hp} {p cl l : Addr} {n : Nat} (h : PotOk H p cl n) (hl : H l = none) : l ≠ p ∧ l ≠ cl := by
  obtain ⟨cs,a,d,t,e1,e2,_⟩ := h
  exact ⟨fun e=>(by rw [e,e1] at hl; cases hl),fun e=>(by rw [e,e2] at hl; cases hl)⟩
theorem x_len : ("x" : Str).length = 1 := by decide +kernel
def spPLeaves : Sp := fun vs H Q _=>∃ (p cl : Addr) (n m : Nat),vs = [.ref p, .int m] ∧ PotOk H p cl n ∧ m ≤ 12 ∧ n + 60 ≤ 1000000000 ∧
  ∀ (l : Addr) (zs : List Str) H',H l = none → H' l = some (.lst (zs.map V.str)) → zs.length = m → zs.Nodup → (∀ z ∈ zs,LQ 80 z) → GrowP p cl (n + 60) H H' → Q (.ref l) H'
section
variable {P : Program} {w : World} {K : PySem.W.Frag} {mg : Str → Option Value} {base : Heap} {f : Addr} {fd : FuncData}
abbrev s_leaves : Stmt := top 20
theorem sc_leaves : FnScope ["_law_pot_here","_law_many_here","_law_some","_law_k","_law_one"] ["_law_pot_here","_law_many_here"] (defScope s_leaves) := ⟨rfl,rfl,rfl,by decide +kernel,rfl,by decide +kernel,by decide +kernel⟩
set_option maxHeartbeats 1000000 in
theorem ok_leaves (F : Fun K "_law_leaves" "_law_leaves" s_leaves f fd) (mr : mg "range" = none) (h1 : Has P w K mg base 4 "_law_leaf" ["_law_pot_here"] spPLeaf) : FnOk P w K mg base CX0 5 f fd ["_law_pot_here","_law_many_here"] spPLeaves := by
  refine F.ok sc_leaves (fun vs H Q E h=>?_) (fun cdv A outer s H vs Q E hr h=>?_)
  · obtain ⟨p,cl,n,m,rfl,_⟩ := h
    rfl
  obtain ⟨p,cl,n,m,rfl,hp,hm,hn,q⟩ := h
  refine ⟨_,pss_cons (ps_set (i := 2) sc_leaves.nd rfl (Or.inl rfl) (pe_lst pa_nil))
    (pss_cons (ps_for PassesOwn.never rfl (pi_range1 rfl mr (pa_cons (pv 1) pa_nil)) (pg_name (i := 3) sc_leaves.nd rfl (Or.inl rfl))
      (pss_cons (ps_set (i := 4) sc_leaves.nd rfl (Or.inl rfl) (pcall h1 hr (by decide) rfl (pa_cons (pv 0) pa_nil)))
      (pss_cons (ps_while PassesOwn.never (pt_cmpR op_in_seq (pv 4) (pv 2) (by with_unfolding_all rfl)) (pss_one (ps_set (i := 4) sc_leaves.nd rfl (Or.inl rfl) (pe_op op_add_str (pv 4) pe_str))))
      (pss_one (ps_expr (pe_bm PySem.F.plainAttrs_list PySem.F.slot_list_append PySem.F.type_list_append mt_append (pv 2) (pa_cons (pv 4) pa_nil)))))))
    (pss_one (ps_ret (pv 2)))),?_⟩
  refine ⟨small (by show 0 ≤ 1000000; decide),fun l hl=>?_⟩
  obtain ⟨nlp,nlc⟩ := hp.fresh hl
  refine ⟨_,rfl,m,rfl,by omega,by omega,for_range (n := (m : Int).toNat) (fun i σ H'=>∃ (o3 o4 : Option V) (zs : List Str),σ = [some (.ref p),some (.int m),some (.ref l),o3,o4] ∧ H' l = some (.lst (zs.map V.str)) ∧ zs.length = i ∧ zs.Nodup ∧ (∀ z ∈ zs,LQ (60 + i) z) ∧ (∀ b o,b ≠ p → H b = some o → H' b = some o) ∧ PotOk H' p cl (n + 5 * i))
    ⟨none,none,[],rfl,upd_same,rfl,List.nodup_nil,(fun _ h=>by cases h),(fun b o hb e=>by rw [upd_ne (ne_of_none e hl)]; exact e),hp.upd nlp nlc⟩ ?_ ?_⟩
  · rintro i σ H2 hi ⟨o3,o4,zs,rfl,hl2,lz,nd,hz2,keep2,ok2⟩
    refine ⟨_,rfl,p,cl,n + 5 * i,rfl,ok2,by omega,fun z H3 hz g3=>?_⟩
    have hl3 : H3 l = some (.lst (zs.map V.str)) := g3.keep _ _ nlp hl2
    refine ⟨fun k σ H'=>∃ (z : Str),σ = [some (.ref p),some (.int m),some (.ref l),some (.int (0 + i)),some (.str z)] ∧ H' = H3 ∧ LQ (61 + i) z ∧ k = 62 + i - z.length,⟨_,z,rfl,rfl,⟨hz.1,by have := hz.2; omega⟩,rfl⟩,?_⟩
    rintro k σ H4 ⟨z1,rfl,rfl,hz1,rfl⟩
    refine ⟨_,rfl,_,rfl,l,zs.map V.str,rfl, .inl (SqL.of hl3),rfl,flat_strs zs,_,rfl,?_⟩
    rw [inV_str]
    refine ite2 (fun c=>?_) (fun c=>?_)
    · have mem : z1 ∈ zs := of_decide_eq_true c
      have lz1 := (hz2 z1 mem).2
      have lx : (z1 ++ ("x" : Str)).length = z1.length + 1 := by rw [len_app,x_len]
      have h1' : 1 ≤ z1.length := by
        have h := hz1.1
        have l0 := len_toList z1
        cases hc : z1.cps.toList with
        | nil=>rw [hc] at h; cases h
        | cons a b=>rw [hc] at l0; simp at l0; omega
      refine ⟨_,fun _ _ h=>h,?_⟩
      refine ⟨_,rfl,z1,"x",rfl,rfl,small (by rw [x_len]; omega),?_⟩
      exact ⟨62 + i - (z1 ++ ("x" : Str)).length,by rw [lx]; omega,z1 ++ ("x" : Str),rfl,rfl,⟨by rw [head_app h1']; exact hz1.1,by rw [lx]; omega⟩,rfl⟩
    · have nmem : z1 ∉ zs := fun h=>by
        rw [decide_eq_true h] at c
        exact c rfl
      refine ⟨_,rfl, .inl ⟨rfl,_,SqL.of hl3⟩,_,rfl,l,_, .str z1,rfl,rfl,hl3,small' (by rw [List.length_map]; omega),?_⟩
      refine ⟨_,_,zs ++ [z1],rfl,by rw [upd_same,List.map_append]; rfl,by simp [lz],?_,fun z' hz'=>?_,fun b o hb e=>?_,(g3.ok.mono (by omega)).upd nlp nlc⟩
      · rw [List.nodup_append]
        refine ⟨nd,by simp,fun a ha b hb=>?_⟩
        rw [List.mem_singleton.mp hb]
        intro e
        rw [e] at ha
        exact nmem ha
      · rcases List.mem_append.mp hz' with h | h
        · exact ⟨(hz2 z' h).1,by have := (hz2 z' h).2; omega⟩
        · rw [List.mem_singleton.mp h]
          exact ⟨hz1.1,by have := hz1.2; omega⟩
      · rw [upd_ne (ne_of_none e hl)]
        exact g3.keep b o hb (keep2 b o hb e)
  · rintro σ H2 ⟨o3,o4,zs,rfl,hl2,lz,nd,hz2,keep2,ok2⟩
    have e : (m : Int).toNat = m := by omega
    rw [e] at lz ok2 hz2
    exact ⟨_,rfl,q l zs H2 hl hl2 lz nd (fun z hz=>⟨(hz2 z hz).1,by have := (hz2 z hz).2; omega⟩) ⟨keep2,ok2.mono (by omega)⟩⟩
end
end Fw
set_option Elab.async false
set_option linter.all false
set_option maxRecDepth 100000
namespace L2
open PySem PySem.Spec PyProof.Rows
structure CompScopeM (X : Cx) (frees : List Str) (idx : List Nat) (scope : Scope) : Prop where
  kind : scope.kind = .function
  nocell : ∀ y ∈ scope.names,y.2 ≠ .cell
  loc : ∀ y ∈ scope.names,y.2 = .local → scope.names.lookup y.1 = some .local
  fr : ∀ y ∈ scope.names,y.2 = .free → X.env.kindOf y.1 = some .cell ∨ X.env.kindOf y.1 = some .free
  ix : ∀ (j : Nat) (y : Str),frees[j]? = some y → ∃ k,idx[j]? = some k ∧ X.N[k]? = some y
  len : idx.length = frees.length
  cl : ∀ y ∈ frees,(y,NameKind.free) ∈ scope.names
def CompWM (n : Nat) (J : It) (g : TG) (tt : TT) (te : TE) (σ' : St) (Q : VK) (H1 : Hp) : Prop := ∃ W : Nat → Nat → List V → Hp → Prop,(∃ m,W 0 m [] H1) ∧ ∀ i m vs H2,W i m vs H2 →
  vs.length < sizeLine ∧ ((J.stop i H2 ∧ ∀ l,H2 l = none → Q (.ref l) (upd H2 l (.lst vs))) ∨
    (J.go i H2 ∧ ∀ (τ : St) x H3,τ.length = n → J.yld i H2 x H3 → g x (τ ++ σ') H3 fun σ1 H4=>(∃ τ' : St,σ1 = τ' ++ σ' ∧ τ'.length = n) ∧
      tt σ1 H4 fun b H5=>if b = true then te σ1 H5 fun v H6=>∃ m',m' < m ∧ W (i + 1) m' (vs ++ [v]) H6 else ∃ m',m' < m ∧ W (i + 1) m' vs H5))
def tCompM (n : Nat) (idx : List Nat) (wi : TI) (g : TG) (tt : TT) (te : TE) : TE := fun σ H Q=>wi σ H fun J H1=>CompWM n J g tt te (outs σ idx) Q H1
theorem pe_lcompM {X : Cx} {elt iter tg : Expr} {M : List Str} {g : TG} {pos : Pos} {ifs : List Expr} {scope : Scope} {frees : List Str} {idx : List Nat} {wi : TI} {tt : TT} {te : TE}
    (hc : X.calm = true) (S : CompScopeM X frees idx scope) (hfl : ∀ y ∈ frees,scope.names.lookup y = some .free) (hi : PI X tg iter wi) (hg : ∀ C s₀ H₀ ex,PG (cxComp X (M ++ frees) scope C s₀ H₀ ex) tg g)
    (ht : ∀ C s₀ H₀ ex,PTs (cxComp X (M ++ frees) scope C s₀ H₀ ex) ifs tt) (he : ∀ C s₀ H₀ ex,PE (cxComp X (M ++ frees) scope C s₀ H₀ ex) elt te)
    (hs : ∀ v,foldedSetIterable iter X.env v = pure v := by intro _; rfl) : PE X (.ListComp elt [⟨tg,iter,ifs,0⟩] scope pos) (tCompM M.length idx wi g tt te) := by
  intro pins s σ H Q I h
  rw [eval_ListComp]
  have hclos := closL_eq (scope := scope) (env := X.env) fun p hp hf=>I.ok.has p.1 (S.fr p hp hf)
  refine wpAny_comprehension_free (use := none) rfl hs hclos S.kind S.loc (thn (hi pins s σ H _ I h) fun v s1 h1=>thn h1 fun itv s2 h2=>?_)
  obtain ⟨it,fp,tn,J,H2,rfl,I2,T,st2,f2,W,⟨m0,w0⟩,turn⟩ := h2
  refine wpAny_newObj_type (wpAny_newFunctionEnv S.nocell (by intro y hy; simp at hy) (fun h₁ hns₁ hsb₁=>?_) S.kind)
  dsimp only at hns₁ hsb₁ ⊢
  generalize hH2 : s2.heap.push { cls := .type "list",dict := none,data := .seq ([] : List Value).toArray } = G2 at hns₁ hsb₁ ⊢
  have hCe : G2.objs.size = s2.heap.objs.size + 1 := by rw [← hH2,Heap.size_push]
  generalize hC : G2.objs.size = C at hns₁ hsb₁ hCe ⊢
  have hCle : s2.heap.objs.size ≤ C := by omega
  have hDC : s2.heap.objs.size ≠ C := by omega
  have below : ∀ b,b < s2.heap.objs.size → b ≠ C := fun b hb=>by omega
  have old : ∀ b o,s2.heap.get? b = some o → h₁.get? b = some o := fun b o e=>hsb₁.extBut b o (below b (Heap.lt_size e)) (Heap.get?_push_of_some _ (hH2 ▸ Heap.get?_push_of_some _ e))
  have hacc : ∃ k,h₁.get? s2.heap.objs.size = some { cls := .type "list",data := .seq ([] : List Value).toArray k } := ⟨_,hsb₁.extBut _ _ hDC (Heap.get?_push_of_some _ (hH2 ▸ Heap.get?_push_size _ rfl))⟩
  have look : ∀ y c,(closL X.env.cells scope.names []).lookup y = some c → X.env.cells.lookup y = some c := fun y c e=>by
    rcases closL_look _ _ y c e with q | q
    · exact q
    · cases q
  have fpD : ∀ b ∈ fp,b < s2.heap.objs.size := fun b hb=>by
    obtain ⟨o,e,_⟩ := T.obj _ _ st2 b hb
    exact Heap.lt_size e
  have ok' : (cxComp X (M ++ frees) scope C s2 H2 fp).Ok := {
    mod := I2.ok.mod
    kind := S.kind
    glob := I2.ok.glob
    blt := I2.ok.blt
    above := hCle
    inj := fun y z c e1 e2=>I2.ok.inj y z c (look y c e1) (look z c e2)
    has := fun y hy=>by
      have q := relabel_free (scope := scope) (env := X.env) hy S.nocell
      exact closL_has _ _ y q (I2.ok.has y (S.fr _ q rfl))
    cab := fun y c hf=>by cases hf
    hd := I2.ok.hd
    frames := I2.ok.frames
    stk := .inl rfl
    exf := fun b hb=>⟨below b (fpD b hb),fun y c e=>(f2 b hb).2.2.2.2.1 y c (look y c e)⟩
    bs := I2.bs
    bsz := Nat.le_trans I2.ok.bsz I2.sz
    noex := fun b o e hb=>by
      rcases (f2 b hb).2.2.2.1 with z | z
      · exact I2.ok.noex b o e z
      · exact absurd (Nat.lt_of_lt_of_le (Heap.lt_size e) (Nat.le_trans I2.ok.bsz z)) (Nat.lt_irrefl _)
    exfs := fun b hb hf=>by
      rcases List.mem_cons.mp (I2.stkSub b hf) with z | z
      · exact (f2 b hb).2.1 z
      · exact (f2 b hb).2.2.1 z
    funs := I2.stack
    frf := I2.stkFree }
  have Dfs : s2.heap.objs.size ∉ frs X.stack := fun hb=>by
    rcases List.mem_cons.mp (I2.stkSub _ hb) with z | z
    · have q := I2.lt
      rw [← z] at q
      exact Nat.lt_irrefl _ q
    · exact I2.nofs (Nat.le_refl _) z
  have Dcell : ∀ y c,X.env.cells.lookup y = some c → c ≠ s2.heap.objs.size := fun y c e z=>by
    obtain ⟨v,q⟩ := I2.cell y c e
    have q' := q.lt
    rw [z] at q'
    exact Nat.lt_irrefl _ q'
  have Dpin : ∀ p ∈ X.pn ++ pins,p.1 ≠ s2.heap.objs.size := fun p hp z=>by
    have q' := Heap.lt_size (I2.pin p hp).1
    rw [z] at q'
    exact Nat.lt_irrefl _ q'
  have I3 : Inv (cxComp X (M ++ frees) scope C s2 H2 fp) pins (List.replicate M.length none ++ outs σ idx) H2 { s2 with heap := h₁,toks := s2.toks + ([] : List (Str × Value)).length } := {
    ok := ok'
    os := rfl
    bare := I2.bare
    base := Un.kept old
    loc := by
      refine ⟨_,hns₁,fun i y v e1 e2 e3=>?_⟩
      by_cases hi' : i < M.length
      · rw [List.getElem?_append_left (by rw [List.length_replicate]; exact hi'),List.getElem?_replicate,if_pos hi'] at e2
        cases e2
      · obtain ⟨j,rfl⟩ : ∃ j,i = M.length + j := ⟨i - M.length,by omega⟩
        have e1' : frees[j]? = some y := by
          have e1'' : (M ++ frees)[M.length + j]? = some y := e1
          rw [List.getElem?_append_right (Nat.le_add_right _ _),Nat.add_sub_cancel_left] at e1''
          exact e1''
        have e2' : (outs σ idx)[j]? = some (some v) := by
          rw [List.getElem?_append_right (by rw [List.length_replicate]; exact Nat.le_add_right _ _),List.length_replicate,Nat.add_sub_cancel_left] at e2
          exact e2
        obtain ⟨k,hk,hN⟩ := S.ix j y e1'
        have hy : y ∈ frees := List.mem_of_getElem? e1'
        have e4 : σ[k]? = some (some v) := by
          unfold outs at e2'
          rw [List.getElem?_map,hk] at e2'
          have e5 : (σ[k]?).join = some v := Option.some.inj e2'
          cases q : σ[k]? with
          | none=>rw [q] at e5; cases e5
          | some o=>rw [q] at e5; exact congrArg some e5
        obtain ⟨m,hn,hl⟩ := I2.loc
        have kin := S.fr _ (S.cl y hy) rfl
        have vis : Vis X.env.scope y := by
          rcases kin with z | z
          · exact .inr (.inl z)
          · exact .inr (.inr z)
        obtain ⟨u,r,l⟩ := hl k y v hN e4 vis
        refine ⟨u,r, .inr ⟨lookup_relabel_free (env := X.env) (hfl y hy),?_⟩⟩
        rcases l with ⟨z,_⟩ | ⟨_,c,ec,ic⟩
        · rcases kin with z' | z'
          · have z'' : X.env.kindOf y = some .cell := z'
            rw [z] at z''; cases z''
          · have z'' : X.env.kindOf y = some .free := z'
            rw [z] at z''; cases z''
        · obtain ⟨c',ec'⟩ := closL_has (cells := X.env.cells) scope.names [] y (S.cl y hy) ⟨c,ec⟩
          have : c' = c := Option.some.inj ((look y c' ec').symm.trans ec)
          subst this
          obtain ⟨o,ho,hd⟩ := ic
          exact ⟨c',ec',o,old _ _ ho,hd⟩
    cell := fun y c e=>by
      obtain ⟨v,o,ho,hd⟩ := I2.cell y c (look y c e)
      exact ⟨v,o,old _ _ ho,hd⟩
    free := I2.hok.fresh hCle
    freeC := fun y c e=>I2.freeC y c (look y c e)
    pin := fun p hp=>by
      obtain ⟨e,n,ne,nf,d⟩ := I2.pin p hp
      refine ⟨old _ _ e,n,below _ (Heap.lt_size e),fun hb=>?_,d⟩
      rcases List.mem_cons.mp (I2.stkSub _ hb) with z | z
      · exact ne z
      · exact nf z
    hok := I2.hok.kept old
    len := by simp [cxComp,outs,S.len] }
  have fok : ∀ {pp : List (Addr × Obj)} {H' : Hp},(∀ b ∈ fp,H' b = none) → (∀ p ∈ pp,p.1 = s2.heap.objs.size) → ∀ b ∈ fp,FpOk (cxComp X (M ++ frees) scope C s2 H2 fp) (pins ++ pp) H' b := fun {pp H'} hn hp b hb=>by
    obtain ⟨_,f1,f2',f3,f4,f5⟩ := f2 b hb
    refine ⟨hn b hb,below b (fpD b hb),fun hf=>?_, .inl hb,fun y c e=>f4 y c (look y c e),fun p hpp z=>?_⟩
    · rcases List.mem_cons.mp (I2.stkSub b hf) with z | z
      · exact f1 z
      · exact f2' z
    · have hpp' : p ∈ X.pn ++ (pins ++ pp) := hpp
      rw [← List.append_assoc] at hpp'
      rcases List.mem_append.mp hpp' with q | q
      · exact f5 p q z
      · have q' := fpD b hb
        rw [← z,hp p q] at q'
        exact Nat.lt_irrefl _ q'
  have loop : ∀ s3 : Shared,s3 = { s2 with heap := h₁,toks := s2.toks + ([] : List (Str × Value)).length } →
      codeAny (model X.prog X.w) X.A (.compLoop (.ListComp elt [⟨tg,iter,ifs,0⟩] scope pos) 0 (.ref it) (.ref s2.heap.objs.size) (compEnvC scope (closL X.env.cells scope.names []) C X.env))
        (compPost (model X.prog X.w) X.A X.xe none (EP X pins σ Q) (.ref s2.heap.objs.size) C) s3 := by
    rintro s3 rfl
    obtain ⟨k0,hacc⟩ := hacc
    refine compLoop_go (fun n s'=>∃ i τ vs H' its k,(τ : St).length = M.length ∧ Inv (cxComp X (M ++ frees) scope C s2 H2 fp) pins (τ ++ outs σ idx) H' s' ∧ tn i s'.heap ∧ (∀ b ∈ fp,H' b = none) ∧ H' s2.heap.objs.size = none ∧
      s'.heap.get? s2.heap.objs.size = some { cls := .type "list",data := .seq its.toArray k } ∧ Vals vs its ∧ W i n vs H') ?_ m0
      ⟨0,List.replicate M.length none,[],H2,[],k0,by simp,I3,T.keep _ _ _ st2 fun b _ o e=>old b o e,fun b hb=>(f2 b hb).1,I2.hok.fresh (Nat.le_refl _),hacc, .nil,w0⟩
    rintro n s' ⟨i,τ,vs,H',its,k,lτ,I',st',fr',hD',hg',hv',w'⟩
    obtain ⟨hlen,alt⟩ := turn i n vs H' w'
    have IP : Inv (cxComp X (M ++ frees) scope C s2 H2 fp) (pins ++ [(s2.heap.objs.size,{ cls := .type "list",data := .seq its.toArray k })]) (τ ++ outs σ idx) H' s' :=
      I'.pins_of fun p hp=>(List.mem_append.mp hp).elim (fun z=>I'.pin p (List.mem_append_right _ z)) fun z=>by
        have z' : p = (s2.heap.objs.size,{ cls := .type "list",data := .seq its.toArray k }) := by simpa using z
        subst z'
        exact ⟨hg',hD',hDC,Dfs,fun v q=>by cases q⟩
    have FP := fok (pp := [(s2.heap.objs.size,{ cls := .type "list",data := .seq its.toArray k })]) fr' (fun p hp=>by
      have z' : p = (s2.heap.objs.size,{ cls := .type "list",data := .seq its.toArray k }) := by simpa using hp
      rw [z'])
    rcases alt with ⟨stop,qn⟩ | ⟨go,step⟩
    · refine thn (T.done (cxComp X (M ++ frees) scope C s2 H2 fp) rfl rfl rfl hc i _ s' _ H' (fun _ _=>False) IP FP st' stop) fun r s4 ⟨hr,I4⟩=>?_
      subst hr
      obtain ⟨m4,hn4,_⟩ := id I4.loc
      refine ⟨m4,hn4,fun h' hsb=>?_⟩
      have gD : s4.heap.get? s2.heap.objs.size = some { cls := .type "list",data := .seq its.toArray k } := (I4.pin (s2.heap.objs.size,_) (List.mem_append_right _ (List.mem_append_right _ (List.mem_singleton.mpr rfl)))).1
      have hx : ∀ b o,b ≠ C → s4.heap.get? b = some o → h'.get? b = some o := fun b o hb e=>(hsb.2 b hb).trans e
      have J1 : Inv X pins σ H' { s4 with heap := h' } := by
        refine I2.call' (ch := fp) I4.os ⟨fun b o e n hb hx'=>?_,fun b o e n hb hx'=>?_,I4.base.free,fun b o e hx'=>?_,I4.base.tups,I4.base.frzs,I4.base.tbls⟩ (fun b u e=>?_) I4.bare fun b hb=>?_
        · exact hx b o (below b (Heap.lt_size e)) (I4.base.keep b o e n hb hx')
        · obtain ⟨sl,q⟩ := I4.base.slot b o e n hb hx'
          exact ⟨sl,hx b _ (below b (Heap.lt_size e)) q⟩
        · obtain ⟨o',q⟩ := I4.base.there b o e hx'
          exact ⟨o',hx b _ (below b (Heap.lt_size e)) q⟩
        · refine (I4.hok b u e).stay (fun c v hcc q=>hx c v ?_ q) (fun _ q=>q) fun _ _ q=>q
          rintro rfl
          rcases hcc with z | z
          · rw [← z] at e
            have := I4.free
            rw [show H' c = none from this] at e; cases e
          · have := I4.free
            rw [show H' c = none from this] at z; cases z
        · obtain ⟨_,f1,f2',f3,f4,f5⟩ := f2 b hb
          exact ⟨f3,f1,f4,f5⟩
      refine ⟨.ref s2.heap.objs.size,upd H' s2.heap.objs.size (.lst vs),J1.track hD' (Nat.le_of_lt hlen) hv' (hx _ _ hDC gD) (.inr I2.sz) (fun z=>by have q := I2.lt; rw [← z] at q; exact Nat.lt_irrefl _ q) Dcell Dpin,rfl,qn _ hD'⟩
    · refine thn (T.item (cxComp X (M ++ frees) scope C s2 H2 fp) rfl rfl rfl hc i _ s' _ H' (fun _ _=>False) IP FP st' go) fun r s4 ⟨u,hr,h4⟩=>?_
      subst hr
      refine thn h4 fun _ s5 ⟨xv,H5,I5,r5,y5,st5,fr5⟩=>?_
      have I5' := I5.pinned (fok (pp := [(s2.heap.objs.size,{ cls := .type "list",data := .seq its.toArray k })]) fr5 (fun p hp=>by
        have z' : p = (s2.heap.objs.size,{ cls := .type "list",data := .seq its.toArray k }) := by simpa using hp
        rw [z'])) (T.obj _ _ st5)
      have q6 := step τ xv H5 lτ y5
      refine thn (hg C s2 H2 fp _ s5 _ H5 xv _ _ I5' r5 q6) fun _ s6 ⟨σ6,H6,I6,⟨τ6,e6,l6⟩,q6'⟩=>?_
      subst e6
      refine thn (ht C s2 H2 fp _ s6 _ H6 _ I6 q6') fun b s7 ⟨H7,I7,q7⟩=>?_
      have keepT : ∀ {s8 : Shared} {σ8 : St} {H8 : Hp},Inv (cxComp X (M ++ frees) scope C s2 H2 fp) ((pins ++ [(s2.heap.objs.size,{ cls := .type "list",data := .seq its.toArray k })]) ++ pinsAt fp s5.heap) σ8 H8 s8 →
          tn (i + 1) s8.heap ∧ (∀ b ∈ fp,H8 b = none) ∧ H8 s2.heap.objs.size = none ∧ s8.heap.get? s2.heap.objs.size = some { cls := .type "list",data := .seq its.toArray k } := fun {s8 σ8 H8} I8=>by
        refine ⟨T.keep _ _ _ st5 fun b hb o e=>(I8.pin (b,o) (List.mem_append_right _ (List.mem_append_right _ (mem_pinsAt hb e)))).1,fun b hb=>?_,?_,?_⟩
        · obtain ⟨o,e,d⟩ := T.obj _ _ st5 b hb
          exact (I8.pin (b,o) (List.mem_append_right _ (List.mem_append_right _ (mem_pinsAt hb e)))).2.1
        · exact (I8.pin (s2.heap.objs.size,_) (List.mem_append_right _ (List.mem_append_left _ (List.mem_append_right _ (List.mem_singleton.mpr rfl))))).2.1
        · exact (I8.pin (s2.heap.objs.size,_) (List.mem_append_right _ (List.mem_append_left _ (List.mem_append_right _ (List.mem_singleton.mpr rfl))))).1
      cases b with
      | false =>
        rw [if_neg Bool.false_ne_true] at q7 ⊢
        obtain ⟨m',hm,w7⟩ := q7
        obtain ⟨a1,a2,a3,a4⟩ := keepT I7
        exact ⟨m',hm,i + 1,τ6,vs,H7,its,k,l6,I7.unpinned.unpinned,a1,a2,a3,a4,hv',w7⟩
      | true =>
        rw [if_pos rfl] at q7 ⊢
        refine thn (he C s2 H2 fp _ s7 _ H7 _ I7 q7) fun u8 s8 ⟨v8,H8,I8,r8,m',hm,w8⟩=>?_
        obtain ⟨a1,a2,a3,a4⟩ := keepT I8
        refine wpAny_list_append_plain (items := its.toArray) ⟨k,a4⟩ (fun h9 pl sb=>?_) (by rw [List.size_toArray,← hv'.length]; exact Nat.le_of_lt hlen)
        obtain ⟨k9,e9⟩ := pl
        have ne : ∀ b ∈ fp,b ≠ s2.heap.objs.size := fun b hb=>Nat.ne_of_lt (fpD b hb)
        have I9 : Inv (cxComp X (M ++ frees) scope C s2 H2 fp) pins (τ6 ++ outs σ idx) H8 { s8 with heap := h9 } :=
          I8.unpinned.unpinned.turned (t' := s8.toks) (fun b o hb e=>(sb.2 b hb).trans e) a3 hDC (.inr (Nat.le_refl _)) (fun y c e=>Dcell y c (look y c e)) Dpin
        refine ⟨m',hm,i + 1,τ6,vs ++ [v8],H8,its ++ [u8],k9,l6,I9,T.keep _ _ _ a1 fun b hb o e=>(sb.2 b (ne b hb)).trans e,a2,a3,?_,hv'.snoc r8,w8⟩
        rw [List.push_toArray] at e9
        exact e9
  exact codeAny_compStart_list (loop _ rfl) (T.self _ 0 _ _ _ (T.keep _ _ _ st2 fun b _ o e=>old b o e) (loop _ rfl))
def compOkM (osc : Scope) (N : List Str) (frees : List Str) (idx : List Nat) (scope : Scope) : Bool :=
  scope.kind == .function && (scope.names.all (fun y=>y.2 != .cell) && (scope.names.all (fun y=>y.2 != .local || scope.names.lookup y.1 == some .local) && (scope.names.all (fun y=>y.2 != .free || (osc.names.lookup y.1 == some .cell || osc.names.lookup y.1 == some .free)) &&
  (idx.length == frees.length && ((idx.zip frees).all (fun p=>N[p.1]? == some p.2) && frees.all (fun y=>scope.names.lookup y == some .free))))))
theorem compOkM_scope {X : Cx} {osc : Scope} {N : List Str} {frees : List Str} {idx : List Nat} {scope : Scope} (h : compOkM osc N frees idx scope = true) (ho : X.env.scope = osc) (hN : X.N = N) :
    CompScopeM X frees idx scope ∧ ∀ y ∈ frees,scope.names.lookup y = some .free := by
  unfold compOkM at h
  simp only [Bool.and_eq_true,List.all_eq_true,Bool.or_eq_true,bne_iff_ne,beq_iff_eq,decide_eq_true_eq] at h
  obtain ⟨h1,h2,h3,h4,h7,h8,h9⟩ := h
  have fl : ∀ y ∈ frees,scope.names.lookup y = some .free := fun y hy=>h9 y hy
  refine ⟨⟨h1,h2,fun y hy e=>?_,fun y hy e=>?_,fun j y hj=>?_,h7,fun y hy=>mem_of_lookup' (fl y hy)⟩,fl⟩
  · rcases h3 y hy with q | q
    · exact absurd e q
    · exact q
  · have q : osc.names.lookup y.1 = some .cell ∨ osc.names.lookup y.1 = some .free := by
      rcases h4 y hy with q | q
      · exact absurd e q
      · exact q
    rw [← ho] at q
    exact q
  · obtain ⟨k,e1,e2⟩ := zip_get h7 hj
    exact ⟨k,e1,by rw [hN]; exact h8 (k,y) e2⟩
theorem pe_lcM {X : Cx} {elt iter tg : Expr} {pos : Pos} {ifs : List Expr} {scope : Scope} {wi : TI} {g : TG} {tt : TT} {te : TE} (osc : Scope) (N : List Str) (M frees : List Str) (idx : List Nat)
    (hk : compOkM osc N frees idx scope = true) (hi : PI X tg iter wi) (hg : ∀ C s₀ H₀ ex,PG (cxComp X (M ++ frees) scope C s₀ H₀ ex) tg g)
    (ht : ∀ C s₀ H₀ ex,PTs (cxComp X (M ++ frees) scope C s₀ H₀ ex) ifs tt) (he : ∀ C s₀ H₀ ex,PE (cxComp X (M ++ frees) scope C s₀ H₀ ex) elt te)
    (ho : X.env.scope = osc := by rfl) (hN : X.N = N := by rfl) (hc : X.calm = true := by rfl) (hs : ∀ v,foldedSetIterable iter X.env v = pure v := by intro _; rfl) : PE X (.ListComp elt [⟨tg,iter,ifs,0⟩] scope pos) (tCompM M.length idx wi g tt te) := by
  obtain ⟨S,fl⟩ := compOkM_scope (X := X) hk ho hN
  exact pe_lcompM hc S fl hi hg ht he hs
end L2
set_option Elab.async false
set_option linter.all false
set_option maxRecDepth 100000
namespace Fw
open PySem PySem.Spec PyProof.Rows L2
theorem comp_listM {K : PySem.W.Frag} {H : Hp} {n : Nat} {a : Addr} {xs : List V} {g : TG} {tt : TT} {te : TE} {σ' : L2.St} {Q : VK} (Pv : Nat → List V → Hp → Prop) (h0 : Pv 0 [] H) (hl : ∀ i vs H,i ≤ xs.length → Pv i vs H → SqL K H a xs ∧ vs.length < sizeLine)
    (hs : ∀ i x vs H2 (τ : L2.St),τ.length = n → i < xs.length → xs[i]? = some x → Pv i vs H2 → g x (τ ++ σ') H2 fun σ1 H3=>(∃ τ' : L2.St,σ1 = τ' ++ σ' ∧ τ'.length = n) ∧ tt σ1 H3 fun b H4=>if b = true then te σ1 H4 fun v H5=>Nx xs.length i (Pv (i + 1) (vs ++ [v]) H5) else Nx xs.length i (Pv (i + 1) vs H4))
    (hd : ∀ vs H2,Pv xs.length vs H2 → ∀ l,H2 l = none → Q (.ref l) (upd H2 l (.lst vs))) : CompWM n (Itl K a) g tt te σ' Q H := by
  refine ⟨fun i m vs H=>m = xs.length - i ∧ i ≤ xs.length ∧ Pv i vs H,⟨xs.length,by simp,Nat.zero_le _,h0⟩,?_⟩
  rintro i m vs H2 ⟨rfl,hi,p⟩
  obtain ⟨q1,q2⟩ := hl i vs H2 hi p
  refine ⟨q2,?_⟩
  by_cases hlt : i < xs.length
  · refine .inr ⟨⟨xs,xs[i],q1,by simp [hlt]⟩,?_⟩
    rintro τ x H3 lτ ⟨e,y⟩
    subst e
    exact hs i x vs _ τ lτ hlt (y xs q1) p
  · have e : i = xs.length := by omega
    subst e
    exact .inl ⟨⟨xs,q1,Nat.le_refl _⟩,hd vs H2 p⟩
inductive KD : Nat → T → Prop where
  | leaf {n : Nat} {z : Str} (h : z.length ≤ 80) : KD n (.str z)
  | tup {n : Nat} {z : Str} {ks : List T} (h : NQ z) (h1 : 1 ≤ ks.length) (h3 : ks.length ≤ 3) (hk : ∀ k ∈ ks,KD n k) : KD (n + 1) (.tup (.str z :: ks))
def BQ : Nat → Nat
  | 0=>1
  | n + 1=>2 + 3 * BQ n
theorem BQ_pos : ∀ n,1 ≤ BQ n
  | 0=>Nat.le_refl 1
  | n + 1=>by show 1 ≤ 2 + 3 * BQ n; omega
def DQ : Nat → Nat
  | 0=>2
  | n + 1=>2 + 3 * DQ n
theorem DQ_pos : ∀ n,2 ≤ DQ n
  | 0=>Nat.le_refl 2
  | n + 1=>by show 2 ≤ 2 + 3 * DQ n; omega
def hT (h : Str × Int) : T := .tup [.str h.1, .int h.2]
structure Src (H : Hp) (p la ha : Addr) (zs : List Str) (hvs : List V) (hs : List (Str × Int)) : Prop where
  la : H la = some (.lst (zs.map V.str))
  lz : zs.length ≤ 12
  hz : ∀ z ∈ zs,z.length ≤ 80
  ha : H ha = some (.lst hvs)
  hr : Reps H hvs (hs.map hT)
  h1 : 1 ≤ hs.length
  h9 : hs.length ≤ 9
  hh : ∀ h ∈ hs,NQ h.1 ∧ 0 ≤ h.2 ∧ h.2 < 4
theorem PotOk.ne_lst {H : Hp} {p cl b : Addr} {n : Nat} {xs : List V} (h : PotOk H p cl n) (e : H b = some (.lst xs)) : b ≠ p := by
  obtain ⟨cs,a,d,t,h1,_⟩ := h
  exact ne_of e h1 (by intro z; cases z)
theorem Src.grow {H H' : Hp} {p cl la ha : Addr} {zs : List Str} {hvs : List V} {hs : List (Str × Int)} {m n : Nat} (s : Src H p la ha zs hvs hs) (g : GrowP p cl n H H') (h : PotOk H p cl m) : Src H' p la ha zs hvs hs :=
  ⟨g.keep _ _ (h.ne_lst s.la) s.la,s.lz,s.hz,g.keep _ _ (h.ne_lst s.ha) s.ha,s.hr.growP g h,s.h1,s.h9,s.hh⟩
theorem num_len : ("num" : Str).length ≤ 80 := by decide +kernel
theorem arrow_nq : NQ "->" := by
  have : ("->" : Str).cps.toList.head? ≠ some 63 ∧ ("->" : Str).length ≤ 60 := by decide +kernel
  exact this
inductive VL (zs : List Str) : T → Prop where
  | leaf {z : Str} (h : z.cps.toList.head? = some 63 → z ∈ zs) : VL zs (.str z)
  | tup {h : T} {ks : List T} (hk : ∀ k ∈ ks,VL zs k) : VL zs (.tup (h :: ks))
theorem num_nq : ("num" : Str).cps.toList.head? ≠ some 63 := by decide +kernel
def spPKind (n : Nat) : Sp := fun vs H Q _=>∃ (p cl la ha : Addr) (m : Nat) (zs : List Str) (hvs : List V) (hs : List (Str × Int)),vs = [.ref p, .ref la, .ref ha, .int n] ∧ PotOk H p cl m ∧ m + DQ n ≤ 1000000000 ∧ Src H p la ha zs hvs hs ∧
  ∀ v t H',KD n t → VL zs t → Rep H' v t → t.sz ≤ BQ n → GrowP p cl (m + DQ n) H H' → Q v H'
def spPKindN : Nat → Sp
  | 0=>fun _ _ _ _=>False
  | n + 1=>spPKind n
section
variable {P : Program} {w : World} {K : PySem.W.Frag} {mg : Str → Option Value} {base : Heap} {f : Addr} {fd : FuncData}
abbrev s_kind : Stmt := top 21
theorem sc_kind : FnScope ["_law_pot_here","_law_leaves_here","_law_heads","_law_deep","_law_way","_law_bare","_law_word_here","_law_many_here"] ["_law_pot_here","_law_leaves_here","_law_heads","_law_deep"] (defScope s_kind) := ⟨rfl,rfl,rfl,by decide +kernel,rfl,by decide +kernel,by decide +kernel⟩
theorem comp_nd : ((["_law_word_here","_law_many_here"] : List Str) ++ ([] : List Str)).Nodup := by decide +kernel
theorem Reps.at2 {H : Hp} : ∀ {vs : List V} {ts : List T} {i : Nat} {v : V},Reps H vs ts → vs[i]? = some v → ∃ t,ts[i]? = some t ∧ Rep H v t
  | _,_,_,_, .nil,h=>by simp at h
  | _,_,0,_, .cons r _,h=>by
    simp at h; subst h
    exact ⟨_,rfl,r⟩
  | _,_,i + 1,v, .cons _ q,h=>by
    obtain ⟨t,h1,h2⟩ := q.at2 (i := i) (v := v) (by simpa using h)
    exact ⟨t,by simpa using h1,h2⟩
theorem head_at {H : Hp} {hvs : List V} {hs : List (Str × Int)} {i : Nat} {v : V} (r : Reps H hvs (hs.map hT)) (h : hvs[i]? = some v) : ∃ a z k,v = .ref a ∧ H a = some (.tup [.str z, .int k]) ∧ (z,k) ∈ hs := by
  obtain ⟨t,h1,h2⟩ := r.at2 h
  rw [List.getElem?_map] at h1
  cases hh : hs[i]? with
  | none=>rw [hh] at h1; cases h1
  | some zk =>
    rw [hh] at h1
    obtain ⟨z,k⟩ := zk
    have e : hT (z,k) = t := Option.some.inj h1
    subst e
    have h2 : Rep H v (.tup [.str z, .int k]) := h2
    cases h2 with
    | tup ha ra =>
      cases ra with
      | cons r1 rr =>
        cases r1
        cases rr with
        | cons r2 rn =>
          cases r2
          cases rn
          exact ⟨_,z,k,rfl,ha,List.mem_of_getElem? hh⟩
set_option maxHeartbeats 2000000 in
theorem ok_kind {n : Nat} (F : Fun K "_law_kind" "_law_kind" s_kind f fd) (ml : mg "len" = none) (mr : mg "range" = none) (mt : mg "tuple" = none) (h1 : Has P w K mg base 2 "_law_draw" ["_law_pot_here","_law_many_here"] spDraw)
    (h2 : Has P w K mg base (2 + n) "_law_kind" ["_law_pot_here","_law_leaves_here","_law_heads","_law_deep"] (spPKindN n)) : FnOk P w K mg base CX0 (2 + n + 1) f fd ["_law_pot_here","_law_leaves_here","_law_heads","_law_deep"] (spPKind n) := by
  refine F.ok sc_kind (fun vs H Q E h=>?_) (fun cdv A outer s H vs Q E hr h=>?_)
  · obtain ⟨p,cl,la,ha,m,zs,hvs,hs,rfl,_⟩ := h
    rfl
  obtain ⟨p,cl,la,ha,m,zs,hvs,hs,rfl,hp,hm,src,q⟩ := h
  refine ⟨_,pss_cons (ps_set (i := 4) sc_kind.nd rfl (Or.inl rfl) (pcall h1 hr (by omega) rfl (pa_cons (pv 0) (pa_cons pe_int pa_nil))))
    (pss_cons (ps_if (PW.pt (pw_or (pt_cmpR op_eq (pv 3) pe_int (nomark _)) (pw_or1 (pt_cmpR op_lt (pv 4) pe_int (nomark _)))))
      (pss_cons (ps_if (PW.pt (pw_and (pt_cmpR op_gt (pe_op op_mod (pv 4) pe_int) pe_int (nomark _)) (pw_and1 (pt_cmpR op_gt (pe_callB call_len_seq rfl ml PySem.boot_len (pa_cons (pv 1) pa_nil)) pe_int (nomark _)))))
        (pss_one (ps_ret (pe_ix ix_list (pv 1) (pcall h1 hr (by omega) rfl (pa_cons (pv 0) (pa_cons (pe_callB call_len_seq rfl ml PySem.boot_len (pa_cons (pv 1) pa_nil)) pa_nil))) (fun _ _=>rfl)))) pss_nil)
      (pss_cons (ps_set (i := 5) sc_kind.nd rfl (Or.inl rfl) (pe_op op_cat (pe_lst (pa_cons pe_str pa_nil))
        (pe_lcM (g := gTup K 2 (gCons (gName 0) (gCons (gName 1) gNil))) (defScope s_kind) ["_law_pot_here","_law_leaves_here","_law_heads","_law_deep","_law_way","_law_bare","_law_word_here","_law_many_here"] ["_law_word_here","_law_many_here"] [] [] (by decide +kernel) (pi_list (pv 2))
          (fun C s₀ H₀ ex=>pg_tup (n := 2) rfl (pgs_cons (pg_name (i := 0) comp_nd rfl (Or.inl rfl) (Or.inr rfl)) (pgs_cons (pg_name (i := 1) comp_nd rfl (Or.inl rfl) (Or.inr rfl)) pgs_nil)))
          (fun C s₀ H₀ ex=>pts_one (pt_cmpR op_eq (pv 1) pe_int (nomark _))) (fun C s₀ H₀ ex=>pv 0))))
      (pss_one (ps_ret (pe_ix ix_list (pv 5) (pcall h1 hr (by omega) rfl (pa_cons (pv 0) (pa_cons (pe_callB call_len_seq rfl ml PySem.boot_len (pa_cons (pv 5) pa_nil)) pa_nil))) (fun _ _=>rfl)))))) pss_nil)
    (pss_cons (ps_if (pt_cmpR op_lt (pv 4) pe_int (nomark _))
      (pss_one (ps_ret (pe_tup (pa_cons pe_str (pa_cons (pcall h2 hr (by omega) rfl (pa_cons (pv 0) (pa_cons (pv 1) (pa_cons (pv 2) (pa_cons (pe_op op_sub (pv 3) pe_int) pa_nil)))))
        (pa_cons (pcall h2 hr (by omega) rfl (pa_cons (pv 0) (pa_cons (pv 1) (pa_cons (pv 2) (pa_cons (pe_op op_sub (pv 3) pe_int) pa_nil))))) pa_nil)))))) pss_nil)
    (pss_cons (ps_asg (pe_ix ix_list (pv 2) (pcall h1 hr (by omega) rfl (pa_cons (pv 0) (pa_cons (pe_callB call_len_seq rfl ml PySem.boot_len (pa_cons (pv 2) pa_nil)) pa_nil))) (fun _ _=>rfl))
      (pg_tup rfl (pgs_cons (pg_name (i := 6) sc_kind.nd rfl (Or.inl rfl)) (pgs_cons (pg_name (i := 7) sc_kind.nd rfl (Or.inl rfl)) pgs_nil))))
    (pss_cons (ps_if (pt_cmpR op_eq (pv 7) pe_int (nomark _)) (pss_one (ps_ret (pv 6))) pss_nil)
    (pss_one (ps_ret (pe_op op_catT (pe_tup (pa_cons (pv 6) pa_nil)) (pe_callTy call_tuple_of rfl mt boot_tuple (pa_cons
      (pe_lc (defScope s_kind) ["_law_pot_here","_law_leaves_here","_law_heads","_law_deep","_law_way","_law_bare","_law_word_here","_law_many_here"] ["_law_pot_here","_law_leaves_here","_law_heads","_law_deep"] [0,1,2,3] (by decide +kernel) (pi_range1 rfl mr (pa_cons (pv 7) pa_nil)) (fun C s₀ H₀ ex=>pts_nil)
        (fun C s₀ H₀ ex=>pcall h2 hr (by omega) rfl (pa_cons (pv 1) (pa_cons (pv 2) (pa_cons (pv 3) (pa_cons (pe_op op_sub (pv 4) pe_int) pa_nil)))))) pa_nil))))))))),?_⟩
  have d2 := DQ_pos n
  refine ⟨_,rfl,p,cl,m,9,rfl,hp,by omega,by decide,by decide,fun y H1 y0 y1 g1=>?_⟩
  have src1 := src.grow g1 hp
  refine st_if (ts_or (ts_t (ev_eqI (ev_var rfl) fun _ _=>ev_c)) (fun _ H' e'=>ts_t (ev_op (z := .bl (decide (y < 2))) (ev_var rfl) (fun _ _=>ev_c) fun H'' Q'' e'' q''=>⟨_,_,rfl,rfl,q''⟩))) (fun c H2 e2=>?_) (fun c H2 e2=>?_)
  · -- a leaf
    have g2 := g1.trans (growP_same g1.ok e2)
    have src2 := src1.grow (growP_same g1.ok e2) g1.ok
    refine st_if (ts_and (ts_t (ev_op (z := .bl (decide (y % 3 > 0))) (ev_op (x := .int y) (y := .int 3) (z := .int (y % 3)) (ev_var rfl) (fun _ _=>ev_c) fun H'' Q'' e'' q''=>⟨_,_,rfl,rfl,(by show (0 : Int) < 3; decide),q''⟩) (fun _ _=>ev_c) fun H'' Q'' e'' q''=>⟨_,_,rfl,rfl,q''⟩))
      (fun _ H' e'=>ts_t (ev_op (z := .bl (decide (((zs.map V.str).length : Int) > 0))) (ev_lenL (ev_var rfl) (SqL.of (e' _ _ src2.la))) (fun _ _=>ev_c) fun H'' Q'' e'' q''=>⟨_,_,rfl,rfl,q''⟩))) (fun c' H3 e3=>?_) (fun c' H3 e3=>?_)
    · have g3 := g2.trans (growP_same g2.ok e3)
      have src3 := src2.grow (growP_same g2.ok e3) g2.ok
      have l0 : ((zs.map V.str).length : Int) > 0 := by
        rw [Bool.and_eq_true] at c'
        exact of_decide_eq_true c'.2
      have l12 := src.lz
      refine ⟨_,rfl,_,rfl,_,rfl,la,_,rfl, .inl (SqL.of src3.la),p,cl,m + 1,((zs.map V.str).length : Nat),rfl,g3.ok,by omega,l0,by rw [List.length_map]; omega,fun d H4 d0 d1 g4=>?_⟩
      obtain ⟨v,hv,hmem⟩ := at_any (xs := zs.map V.str) d0 d1
      obtain ⟨z,hz,rfl⟩ := List.mem_map.mp hmem
      have lz := src.hz z hz
      exact ⟨la,_,d, .str z,rfl,rfl,SqL.of (src3.grow g4 g3.ok).la,hv,q _ (.str z) H4 (.leaf lz) (.leaf fun _=>hz) (.str z (by omega)) (BQ_pos n) ((g3.trans g4).up (by omega))⟩
    · have g3 := g2.trans (growP_same g2.ok e3)
      have src3 := src2.grow (growP_same g2.ok e3) g2.ok
      refine ⟨small (by show 1 ≤ 1000000; decide),fun lb hlb=>?_⟩
      have e4 := same_new hlb (.lst [.str "num"])
      have hlb4 : (upd H3 lb (.lst [.str "num"])) lb = some (.lst [.str "num"]) := upd_same
      have g4 := g3.trans (growP_same g3.ok e4)
      have src4 := src3.grow (growP_same g3.ok e4) g3.ok
      revert hlb4 g4 src4
      generalize upd H3 lb (.lst [.str "num"]) = H4
      intro hlb4 g4 src4
      have lh := src4.hr.length
      have lh9 := src.h9
      rw [List.length_map] at lh
      refine ⟨_,rfl,ha,rfl,⟨_,SqL.of src4.ha⟩,comp_listM (n := 2) (xs := hvs) (fun i vs H'=>H' = H4 ∧ ∃ bs : List Str,vs = bs.map V.str ∧ (∀ b ∈ bs,b.length ≤ 80 ∧ b.cps.toList.head? ≠ some 63) ∧ bs.length ≤ i) ⟨rfl,[],rfl,(fun _ h=>by cases h),Nat.le_refl _⟩ ?_ ?_ ?_⟩
      · rintro i vs H' hi ⟨rfl,bs,rfl,_,lb'⟩
        exact ⟨SqL.of src4.ha,small' (by rw [List.length_map]; omega)⟩
      · rintro i x vs H' τ lτ hi hx ⟨rfl,bs,rfl,hb,lb'⟩
        obtain ⟨a,z,k,rfl,ha',hmem⟩ := head_at src4.hr hx
        have nz := (src.hh _ hmem).1
        match τ,lτ with
        | [t1,t2],_ =>
          refine ⟨a,[.str z, .int k],rfl,SqT.of ha',rfl, .str z,[.int k],rfl, .int k,[],rfl,rfl,⟨[some (.str z),some (.int k)],rfl,rfl⟩,?_⟩
          refine ⟨_,rfl,rfl,_,rfl,ite2 (fun c3=>?_) (fun c3=>?_)⟩
          · refine ⟨_,rfl,nx hi ⟨rfl,bs ++ [z],by simp,fun b hb'=>?_,by simp; omega⟩⟩
            rcases List.mem_append.mp hb' with h | h
            · exact hb b h
            · rw [List.mem_singleton.mp h]; exact ⟨by have : z.length ≤ 60 := nz.2; omega,nz.1⟩
          · exact nx hi ⟨rfl,bs,rfl,hb,by omega⟩
      · rintro vs H' ⟨rfl,bs,rfl,hb,lb'⟩ l hl
        have e5 := same_new hl (.lst (bs.map V.str))
        refine ⟨lb,l,_,_,rfl,rfl,e5 _ _ hlb4,upd_same,small (by rw [List.length_map]; show 1 + bs.length ≤ 1000000; omega),fun lc hlc=>?_⟩
        have e6 := same_new hlc (.lst ([.str "num"] ++ bs.map V.str))
        have g6 := g4.trans (growP_same g4.ok (e5.trans e6))
        have nlc := (g4.ok.same e5).fresh hlc
        have hlc6 : (upd (upd H' l (.lst (bs.map V.str))) lc (.lst ([.str "num"] ++ bs.map V.str))) lc = some (.lst ((("num" : Str) :: bs).map V.str)) := upd_same
        revert g6 hlc6
        generalize upd (upd H' l (.lst (bs.map V.str))) lc (.lst ([.str "num"] ++ bs.map V.str)) = H6
        intro g6 hlc6
        have lB : ((("num" : Str) :: bs).map V.str).length = bs.length + 1 := by simp
        refine ⟨_,rfl,_,rfl,_,rfl,lc,_,rfl, .inl (SqL.of hlc6),p,cl,m + 1,(((("num" : Str) :: bs).map V.str).length : Nat),rfl,g6.ok,by omega,by rw [lB]; omega,by rw [lB]; omega,fun d H7 d0 d1 g7=>?_⟩
        obtain ⟨v,hv,hmem⟩ := at_any (xs := (("num" : Str) :: bs).map V.str) d0 d1
        obtain ⟨z,hz,rfl⟩ := List.mem_map.mp hmem
        have lz : z.length ≤ 80 ∧ z.cps.toList.head? ≠ some 63 := by
          rcases List.mem_cons.mp hz with rfl | h
          · exact ⟨num_len,num_nq⟩
          · exact hb z h
        exact ⟨lc,_,d, .str z,rfl,rfl,SqL.of (g7.keep _ _ nlc.1 hlc6),hv,q _ (.str z) H7 (.leaf lz.1) (.leaf fun e=>absurd e lz.2) (.str z (by have := lz.1; omega)) (BQ_pos n) ((g6.trans g7).up (by omega))⟩
  · have c1 : ¬ ((n : Int) = 0) ∧ ¬ y < 2 := by
      rw [Bool.or_eq_false_iff] at c
      exact ⟨of_decide_eq_false c.1,of_decide_eq_false c.2⟩
    obtain ⟨j,rfl⟩ : ∃ j,n = j + 1 := ⟨n - 1,by omega⟩
    have em : (((j + 1 : Nat) : Int) - 1) = (j : Int) := by omega
    have eD : DQ (j + 1) = 2 + 3 * DQ j := rfl
    have eB : BQ (j + 1) = 2 + 3 * BQ j := rfl
    have rec_ : ∀ (H3 : Hp) (m3 : Nat) (Q3 : VK),PotOk H3 p cl m3 → m3 + DQ j ≤ 1000000000 → Src H3 p la ha zs hvs hs → (∀ v t H',KD j t → VL zs t → Rep H' v t → t.sz ≤ BQ j → GrowP p cl (m3 + DQ j) H3 H' → Q3 v H') → spPKindN (j + 1) ([V.ref p, .ref la, .ref ha, .int (((j + 1 : Nat) : Int) - 1)] ++ []) H3 Q3 E0 := fun H3 m3 Q3 h3 hm3 s3 q3=>by
      rw [em]
      exact ⟨p,cl,la,ha,m3,zs,hvs,hs,rfl,h3,hm3,s3,q3⟩
    have g2 := g1.trans (growP_same g1.ok e2)
    have src2 := src1.grow (growP_same g1.ok e2) g1.ok
    refine st_if (ts_t (ev_op (z := .bl (decide (y < 5))) (ev_var rfl) (fun _ _=>ev_c) fun H'' Q'' e'' q''=>⟨_,_,rfl,rfl,q''⟩)) (fun c2 H3 e3=>?_) (fun c2 H3 e3=>?_)
    · -- an arrow
      have g3 := g2.trans (growP_same g2.ok e3)
      have src3 := src2.grow (growP_same g2.ok e3) g2.ok
      refine ⟨_,rfl,_,rfl,_,rfl,_,rfl,_,_,rfl,rfl,rec_ H3 (m + 1) _ g3.ok (by omega) src3 fun v1 t1 H4 k1 l1 r1 b1 g4=>?_⟩
      refine ⟨_,rfl,_,rfl,_,rfl,_,rfl,_,_,rfl,rfl,rec_ H4 (m + 1 + DQ j) _ g4.ok (by omega) (src3.grow g4 g3.ok) fun v2 t2 H5 k2 l2 r2 b2 g5=>?_⟩
      refine ⟨small (by show 3 ≤ 1000000; decide),fun a ha'=>?_⟩
      have e6 := same_new ha' (.tup [.str "->",v1,v2])
      refine q _ (.tup [.str "->",t1,t2]) _ (.tup arrow_nq (by simp) (by simp) fun k hk=>?_) (.tup (by
        intro k hk
        simp only [List.mem_cons,List.not_mem_nil,or_false] at hk
        rcases hk with rfl | rfl
        · exact l1
        · exact l2)) (.tup upd_same (.cons (.str _ (by decide +kernel)) (.cons ((r1.growP g5 g4.ok).same e6) (.cons (r2.same e6) .nil)))) ?_ ((((g3.trans g4).trans g5).trans (growP_same g5.ok e6)).up (by omega))
      · simp only [List.mem_cons,List.not_mem_nil,or_false] at hk
        rcases hk with rfl | rfl
        · exact k1
        · exact k2
      · have := BQ_pos j
        simp only [T.sz,szs]
        omega
    · -- a name
      have g3 := g2.trans (growP_same g2.ok e3)
      have src3 := src2.grow (growP_same g2.ok e3) g2.ok
      have lh := src3.hr.length
      rw [List.length_map] at lh
      have h1' := src.h1
      have h9' := src.h9
      refine ⟨_,rfl,_,rfl,_,rfl,ha,_,rfl, .inl (SqL.of src3.ha),p,cl,m + 1,(hvs.length : Nat),rfl,g3.ok,by omega,by omega,by omega,fun d H4 d0 d1 g4=>?_⟩
      have src4 := src3.grow g4 g3.ok
      have hd : d.toNat < hvs.length := by omega
      have ed : ((d.toNat : Nat) : Int) = d := by omega
      obtain ⟨a,z,k,ev,ha4,hmem⟩ := head_at src4.hr (i := d.toNat) (v := hvs[d.toNat]) (List.getElem?_eq_getElem hd)
      have hat : atI hvs d = some (.ref a) := by
        have := atI_nat (xs := hvs) (j := d.toNat) (v := hvs[d.toNat]) (List.getElem?_eq_getElem hd)
        rw [ed,ev] at this
        exact this
      obtain ⟨nz,k0,k4⟩ := src.hh _ hmem
      have lz : z.length ≤ 60 := nz.2
      have k0 : 0 ≤ k := k0
      have k4 : k < 4 := k4
      refine ⟨ha,_,d, .ref a,rfl,rfl,SqL.of src4.ha,hat,a,[.str z, .int k],rfl,SqT.of ha4,rfl, .str z,[.int k],rfl, .int k,[],rfl,rfl,?_⟩
      refine ⟨_,rfl,rfl,_,rfl,ite2 (fun c5=>?_) (fun c5=>?_)⟩
      · exact ⟨_,rfl,q _ (.str z) H4 (.leaf (by omega)) (.leaf fun e=>absurd e nz.1) (.str z (by omega)) (BQ_pos _) ((g3.trans g4).up (by omega))⟩
      · have k1 : 1 ≤ k := by
          have : ¬ (V.int k = V.int 0) := fun e=>c5 (decide_eq_true e)
          have ne : k ≠ 0 := fun e=>this (by rw [e])
          omega
        refine ⟨_,rfl,small (by show 1 ≤ 1000000; decide),fun a1 ha1=>?_⟩
        have e5 := same_new ha1 (.tup [.str z])
        have g5 := growP_same g4.ok e5
        have src5 := src4.grow g5 g4.ok
        have ha15 : (upd H4 a1 (.tup [.str z])) a1 = some (.tup [.str z]) := upd_same
        revert g5 src5 ha15
        generalize upd H4 a1 (.tup [.str z]) = H5
        intro g5 src5 ha15
        refine ⟨_,rfl,k,rfl,by omega,by omega,?_⟩
        refine comp_range (n := k.toNat) (fun i vs H'=>GrowP p cl (m + 2 + i * DQ j) H5 H' ∧ ∃ ts,Reps H' vs ts ∧ ts.length = i ∧ (∀ t ∈ ts,KD j t ∧ VL zs t) ∧ szs ts ≤ i * BQ j) ⟨(GrowP.refl g5.ok).up (by omega),[], .nil,rfl,(fun _ h=>by cases h),by simp [szs]⟩ ?_ ?_ ?_
        · rintro i vs H' hi ⟨g,ts,hr1,hl,_⟩
          exact small' (by rw [hr1.length,hl]; omega)
        · rintro i vs H' hi ⟨g,ts,hr1,hl,hg,hb⟩
          have i3 : i * DQ j ≤ 2 * DQ j := Nat.mul_le_mul_right _ (by omega)
          refine tt1 (iteT ?_)
          refine ⟨_,rfl,_,rfl,_,rfl,_,rfl,_,_,rfl,rfl,rec_ H' (m + 2 + i * DQ j) _ g.ok (by omega) (src5.grow g g5.ok) fun v1 t1 H7 k1' l1' r1 b1 g7=>nx hi ⟨(g.trans g7).up (by rw [Nat.add_mul]; omega),ts ++ [t1],(hr1.growP g7 g.ok).append (.cons r1 .nil),by simp [hl],fun t ht=>?_,?_⟩⟩
          · rcases List.mem_append.mp ht with h | h
            · exact hg t h
            · rw [List.mem_singleton.mp h]; exact ⟨k1',l1'⟩
          · rw [szs_app,Nat.add_mul]
            simp [szs]
            omega
        · rintro vs H' ⟨g,ts,hr1,hl,hg,hb⟩ l hl'
          have e8 := same_new hl' (.lst vs)
          refine ⟨l,vs,rfl, .inl ⟨SqL.of upd_same,fun p2 hp2=>?_⟩⟩
          have e9 := same_new hp2 (.tup vs)
          have hp9 : (upd (upd H' l (.lst vs)) p2 (.tup vs)) a1 = some (.tup [.str z]) := e9 _ _ (e8 _ _ (g.tups g5.ok _ _ ha15))
          have lvs : vs.length = ts.length := hr1.length
          have kt : k.toNat ≤ 3 := by omega
          have i3 : k.toNat * DQ j ≤ 3 * DQ j := Nat.mul_le_mul_right _ kt
          have b3 : k.toNat * BQ j ≤ 3 * BQ j := Nat.mul_le_mul_right _ kt
          refine ⟨a1,p2,[.str z],vs,rfl,rfl,SqT.of hp9,SqT.of upd_same,by simp,small (by simp; omega),fun hv=>?_,fun hv p3 hp3=>?_⟩
          · rw [hv] at lvs
            simp at lvs
            omega
          · have e10 := same_new hp3 (.tup ([.str z] ++ vs))
            refine q _ (.tup (.str z :: ts)) _ (.tup nz (by omega) (by omega) fun t ht=>(hg t ht).1) (.tup fun t ht=>(hg t ht).2) (.tup upd_same (.cons (.str z (by omega)) (hr1.same (e8.trans (e9.trans e10))))) ?_ ?_
            · simp only [T.sz,szs]
              omega
            · exact ((((g3.trans g4).trans g5).trans g).trans (growP_same g.ok (e8.trans (e9.trans e10)))).up (by omega)
theorem kinds_allP (F : Fun K "_law_kind" "_law_kind" s_kind f fd) (bF : Binds K fd ["_law_pot_here","_law_leaves_here","_law_heads","_law_deep"] []) (mF : mg "_law_kind" = some (.ref f)) (ml : mg "len" = none) (mr : mg "range" = none) (mt : mg "tuple" = none)
    (h1 : Has P w K mg base 2 "_law_draw" ["_law_pot_here","_law_many_here"] spDraw) : ∀ n : Nat,Has P w K mg base (2 + n) "_law_kind" ["_law_pot_here","_law_leaves_here","_law_heads","_law_deep"] (spPKindN n)
  | 0=>⟨f,fd,⟨fun vs H Q E h=>h.elim,fun A outer s H args us vs Q E _ _ _ _ h=>h.elim⟩,bF,F.kp,mF⟩
  | n + 1=>⟨f,fd,ok_kind F ml mr mt h1 (kinds_allP F bF mF ml mr mt h1 n),bF,F.kp,mF⟩
end
end Fw
set_option Elab.async false
set_option linter.all false
set_option maxRecDepth 100000
namespace Fw
open PySem PySem.Spec PyProof.Rows L2
section
variable {K : PySem.W.Frag} {H : Hp}
theorem cutn (vs : List V) (n : Nat) : cutV vs (some (n : Int)) none = vs.drop n := by
  unfold cutV
  rw [HT.sIx_none,HT.sIx_nat]
  by_cases h : n ≤ vs.length
  · rw [Nat.min_eq_left h]
    exact List.take_of_length_le (by rw [List.length_drop]; omega)
  · rw [Nat.min_eq_right (by omega),List.drop_eq_nil_of_le (Nat.le_refl _),List.drop_eq_nil_of_le (by omega)]
    simp
theorem cutn_not {vs : List V} {n : Nat} (h : vs ≠ []) (hn : 1 ≤ n) : ¬ (HT.sIx vs.length 0 (some (n : Int)) = 0 ∧ HT.sIx vs.length vs.length none = vs.length) := by
  rw [HT.sIx_nat]
  have : 0 < vs.length := List.length_pos_iff.mpr h
  omega
theorem comp_tup {a : Addr} {xs : List V} {tt : TT} {te : TE} {σ' : L2.St} {Q : VK} (Pv : Nat → List V → Hp → Prop) (h0 : Pv 0 [] H) (hl : ∀ i vs H,i ≤ xs.length → Pv i vs H → SqT K H a xs ∧ vs.length < sizeLine)
    (hs : ∀ i x vs H2,i < xs.length → xs[i]? = some x → Pv i vs H2 → tt (some x :: σ') H2 fun b H4=>if b = true then te (some x :: σ') H4 fun v H5=>Nx xs.length i (Pv (i + 1) (vs ++ [v]) H5) else Nx xs.length i (Pv (i + 1) vs H4))
    (hd : ∀ vs H2,Pv xs.length vs H2 → ∀ l,H2 l = none → Q (.ref l) (upd H2 l (.lst vs))) : CompW (Itt K a) tt te σ' Q H := by
  refine ⟨fun i m vs H=>m = xs.length - i ∧ i ≤ xs.length ∧ Pv i vs H,⟨xs.length,by simp,Nat.zero_le _,h0⟩,?_⟩
  rintro i m vs H2 ⟨rfl,hi,p⟩
  obtain ⟨q1,q2⟩ := hl i vs H2 hi p
  refine ⟨q2,?_⟩
  by_cases hlt : i < xs.length
  · refine .inr ⟨⟨xs,xs[i],q1,by simp [hlt]⟩,?_⟩
    rintro x H3 ⟨e,y⟩
    subst e
    exact hs i x vs _ hlt (y xs q1) p
  · have e : i = xs.length := by omega
    subst e
    exact .inl ⟨⟨xs,q1,Nat.le_refl _⟩,hd vs H2 p⟩
end
theorem cut_head (v : V) (r : List V) (h : 1 ≤ r.length) : cutV (v :: r) none (some 1) = [v] := by
  have e : cutV (v :: r) none (some ((1 : Nat) : Int)) = [v] := by
    unfold cutV
    rw [HT.sIx_none,HT.sIx_nat,List.drop_zero,Nat.sub_zero,Nat.min_eq_left (by simp)]
    rfl
  exact e
theorem cut_head_not (v : V) (r : List V) (h : 1 ≤ r.length) : ¬ (HT.sIx (v :: r).length 0 none = 0 ∧ HT.sIx (v :: r).length (v :: r).length (some 1) = (v :: r).length) := by
  have e : HT.sIx (v :: r).length (v :: r).length (some ((1 : Nat) : Int)) = min 1 (v :: r).length := HT.sIx_nat ..
  intro z
  have z2 := z.2
  rw [show (some (1 : Int)) = some ((1 : Nat) : Int) from rfl,e] at z2
  have l : (v :: r).length = r.length + 1 := rfl
  omega
inductive DReps (H : Hp) : List (Key × V) → List (Str × T) → Prop where
  | nil : DReps H [] []
  | cons {z : Str} {v : V} {t : T} {kvs : List (Key × V)} {m : List (Str × T)} (r : Rep H v t) (q : DReps H kvs m) : DReps H ((Sum.inr z,v) :: kvs) ((z,t) :: m)
theorem DReps.mono {H H' : Hp} (e : ∀ b xs,H b = some (.tup xs) → H' b = some (.tup xs)) : ∀ {kvs : List (Key × V)} {m : List (Str × T)},DReps H kvs m → DReps H' kvs m
  | _,_, .nil=>.nil
  | _,_, .cons r q=>.cons (r.mono e) (q.mono e)
theorem DReps.get {H : Hp} (z : Str) : ∀ {kvs : List (Key × V)} {m : List (Str × T)},DReps H kvs m → (valV kvs (Sum.inr z) = none ∧ m.lookup z = none) ∨ ∃ v t,valV kvs (Sum.inr z) = some v ∧ m.lookup z = some t ∧ Rep H v t
  | _,_, .nil=>.inl ⟨rfl,rfl⟩
  | _,_, .cons (z := y) (v := v) (t := t) (kvs := kvs) (m := m) r q=>by
    by_cases h : y = z
    · subst h
      refine .inr ⟨v,t,by simp [valV],by simp [List.lookup_cons],r⟩
    · have e1 : valV ((Sum.inr y,v) :: kvs) (Sum.inr z) = valV kvs (Sum.inr z) := by
        unfold valV
        rw [List.find?_cons]
        have : decide ((Sum.inr y : Key) = Sum.inr z) = false := decide_eq_false fun e=>h (Sum.inr.inj e)
        simp only [this]
      have e2 : ((y,t) :: m).lookup z = m.lookup z := by
        rw [List.lookup_cons]
        have : (z == y) = false := beq_false_of_ne (Ne.symm h)
        rw [this]
      rw [e1,e2]
      exact q.get z
mutual
def fillT (m : List (Str × T)) : T → T
  | .int i=>.int i
  | .str z=>(m.lookup z).getD (.str z)
  | .tup l=>.tup (fill1 m l)
def fill1 (m : List (Str × T)) : List T → List T
  | []=>[]
  | h :: r=>h :: fills m r
def fills (m : List (Str × T)) : List T → List T
  | []=>[]
  | t :: r=>fillT m t :: fills m r
end
theorem fills_map (m : List (Str × T)) : ∀ l,fills m l = l.map (fillT m)
  | []=>by simp [fills]
  | t :: r=>by simp [fills,fills_map m r]
def spFill (n : Nat) : Sp := fun vs H Q _=>∃ (v : V) (b : Addr) (t : T) (kvs : List (Key × V)) (m : List (Str × T)),vs = [v, .ref b] ∧ Rep H v t ∧ KD n t ∧ H b = some (.dK kvs) ∧ DReps H kvs m ∧ ∀ v' H',Same H H' → Rep H' v' (fillT m t) → Q v' H'
def spFillN : Nat → Sp
  | 0=>fun _ _ _ _=>False
  | n + 1=>spFill n
section
variable {P : Program} {w : World} {K : PySem.W.Frag} {mg : Str → Option Value} {base : Heap} {f : Addr} {fd : FuncData}
abbrev s_filled : Stmt := top 24
theorem sc_filled : FnScope ["_law_kind_here","_law_by"] ["_law_kind_here","_law_by"] (defScope s_filled) := ⟨rfl,rfl,rfl,by decide +kernel,rfl,by decide +kernel,by decide +kernel⟩
set_option maxHeartbeats 1000000 in
theorem ok_filled {n : Nat} (F : Fun K "_law_filled" "_law_filled" s_filled f fd) (mi : mg "isinstance" = none) (mt : mg "tuple" = none) (h2 : Has P w K mg base n "_law_filled" ["_law_kind_here","_law_by"] (spFillN n)) : FnOk P w K mg base CX0 (n + 1) f fd ["_law_kind_here","_law_by"] (spFill n) := by
  refine F.ok sc_filled (fun vs H Q E h=>?_) (fun cdv A outer s H vs Q E hr h=>?_)
  · obtain ⟨v,b,t,kvs,m,rfl,_⟩ := h
    rfl
  obtain ⟨v,b,t,kvs,m,rfl,rt,kt,hb,dr,q⟩ := h
  have hu := hu_of hr
  refine ⟨_,pss_cons (ps_if (pt_val (pe_callB call_isi rfl mi boot_isinstance (pa_cons (pv 0) (pa_cons (pe_bltn (v := .ty "tuple") rfl mt boot_tuple rfl) pa_nil))))
      (pss_one (ps_ret (pe_op op_catT (pe_slice sl_tup (pv 0) po_none (po_some pe_int)) (pe_callTy call_tuple_of rfl mt boot_tuple (pa_cons
        (pe_lc (defScope s_filled) ["_law_kind_here","_law_by"] ["_law_by"] [1] (by decide +kernel) (pi_tup (pe_slice sl_tup (pv 0) (po_some pe_int) po_none)) (fun C s₀ H₀ ex=>pts_nil)
          (fun C s₀ H₀ ex=>pcall h2 hr (Nat.le_refl _) rfl (pa_cons (pv 0) (pa_cons (pv 1) pa_nil)))) pa_nil))))) pss_nil)
    (pss_one (ps_ret (pe_dget2 hu (pv 1) (pv 0) (pv 0) ⟨rfl,rfl,rfl,rfl⟩))),?_⟩
  refine st_if (ts_b (ev_isi (ev_var rfl) rt (kit_tup K))) (fun c H1 e1=>?_) (fun c H1 e1=>?_)
  · cases kt with
    | leaf h=>cases c
    | @tup j z ks nz k1 k3 hk =>
      cases rt with
      | @tup a vs _ hta rr =>
        cases rr with
        | @cons v0 _ vr _ r0 rr =>
          have lr := rr.length
          refine ⟨_,rfl,1,rfl,a,_,rfl,SqT.of (e1 _ _ hta),cut_head_not v0 vr (by omega),fun p1 hp1=>?_⟩
          rw [cut_head v0 vr (by omega)]
          have e2 := same_new hp1 (.tup [v0])
          refine ⟨_,rfl,1,rfl,a,_,rfl,SqT.of (e2 _ _ (e1 _ _ hta)),cutn_not (vs := v0 :: vr) (n := 1) (by simp) (Nat.le_refl _),fun p2 hp2=>?_⟩
          have ec : cutV (v0 :: vr) (some 1) none = vr := cutn (v0 :: vr) 1
          rw [ec]
          have e3 := same_new hp2 (.tup vr)
          have hp2' : (upd (upd H1 p1 (.tup [v0])) p2 (.tup vr)) p2 = some (.tup vr) := upd_same
          have hp1' : (upd (upd H1 p1 (.tup [v0])) p2 (.tup vr)) p1 = some (.tup [v0]) := e3 _ _ upd_same
          have eA := (e1.trans e2).trans e3
          revert hp2' hp1' eA
          generalize upd (upd H1 p1 (.tup [v0])) p2 (.tup vr) = H3
          intro hp2' hp1' eA
          refine ⟨p2,rfl,⟨_,SqT.of hp2'⟩,comp_tup (xs := vr) (fun i ws H'=>Same H3 H' ∧ Reps H' ws (fills m (ks.take i))) ⟨Same.refl _,by simp [fills]; exact .nil⟩ ?_ ?_ ?_⟩
          · rintro i ws H' hi ⟨e,rw'⟩
            refine ⟨SqT.of (e _ _ hp2'),small' ?_⟩
            rw [rw'.length,fills_map,List.length_map,List.length_take]
            omega
          · rintro i x ws H' hi hx ⟨e,rw'⟩
            obtain ⟨t',ht',rx⟩ := rr.at2 hx
            have hmem : t' ∈ ks := List.mem_of_getElem? ht'
            refine tt1 (iteT ⟨_,rfl,_,rfl,x,b,t',kvs,m,rfl,rx.same (eA.trans e),hk t' hmem,(eA.trans e) _ _ hb,dr.mono (Same.tups (eA.trans e)),fun v' H'' e'' r''=>nx hi ⟨e.trans e'',?_⟩⟩)
            have et : ks.take (i + 1) = ks.take i ++ [t'] := by
              rw [List.take_add_one,ht']
              rfl
            rw [et,fills_map,List.map_append,← fills_map]
            exact (rw'.same e'').append (.cons r'' .nil)
          · rintro ws H' ⟨e,rw'⟩ l hl
            have e4 := same_new hl (.lst ws)
            refine ⟨l,ws,rfl, .inl ⟨SqL.of upd_same,fun p4 hp4=>?_⟩⟩
            have e5 := same_new hp4 (.tup ws)
            have lw : ws.length = ks.length := by
              rw [rw'.length,fills_map,List.length_map,List.length_take]
              omega
            rw [List.take_of_length_le (by omega)] at rw'
            refine ⟨p1,p4,[v0],ws,rfl,rfl,SqT.of ((e.trans (e4.trans e5)) _ _ hp1'),SqT.of upd_same,by simp,small (by simp; omega),fun hv=>?_,fun _ p5 hp5=>?_⟩
            · rw [hv] at lw
              simp at lw
              omega
            · have e6 := same_new hp5 (.tup ([v0] ++ ws))
              have eZ := (e4.trans e5).trans e6
              refine q _ _ ((eA.trans e).trans eZ) ?_
              show Rep _ _ (.tup (fill1 m (.str z :: ks)))
              show Rep _ _ (.tup (.str z :: fills m ks))
              exact .tup upd_same (.cons (r0.same ((eA.trans e).trans eZ)) (rw'.same eZ))
  · cases kt with
    | tup nz k1 k3 hk=>cases c
    | @leaf _ z h =>
      cases rt
      refine ⟨_,rfl,b,rfl, .inl ⟨kvs, .inl (e1 _ _ hb)⟩,_,rfl,_,rfl,?_⟩
      have g := DGet.k (k := Sum.inr z) (e1 _ _ hb)
      refine ⟨_,g,?_⟩
      rcases dr.get z with ⟨h1,h2'⟩ | ⟨v',t',h1,h2',r'⟩
      · rw [h1]
        refine q _ H1 e1 ?_
        show Rep H1 (.str z) ((m.lookup z).getD (.str z))
        rw [h2']
        exact .str z (by omega)
      · rw [h1]
        refine q _ H1 e1 ?_
        show Rep H1 v' ((m.lookup z).getD (.str z))
        rw [h2']
        exact r'.same e1
theorem filled_all (F : Fun K "_law_filled" "_law_filled" s_filled f fd) (bF : Binds K fd ["_law_kind_here","_law_by"] []) (mF : mg "_law_filled" = some (.ref f)) (mi : mg "isinstance" = none) (mt : mg "tuple" = none) : ∀ n : Nat,Has P w K mg base n "_law_filled" ["_law_kind_here","_law_by"] (spFillN n)
  | 0=>⟨f,fd,⟨fun vs H Q E h=>h.elim,fun A outer s H args us vs Q E _ _ _ _ h=>h.elim⟩,bF,F.kp,mF⟩
  | n + 1=>⟨f,fd,ok_filled F mi mt (filled_all F bF mF mi mt n),bF,F.kp,mF⟩
end
end Fw
set_option Elab.async false
set_option linter.all false
set_option maxRecDepth 100000
namespace Fw
open PySem PySem.Spec PyProof.Rows L2
theorem DReps.snoc {H : Hp} {z : Str} {v : V} {t : T} (r : Rep H v t) : ∀ {kvs : List (Key × V)} {m : List (Str × T)},DReps H kvs m → DReps H (kvs ++ [(Sum.inr z,v)]) (m ++ [(z,t)])
  | _,_, .nil=>.cons r .nil
  | _,_, .cons r' q=>.cons r' (q.snoc r)
theorem DReps.length {H : Hp} : ∀ {kvs : List (Key × V)} {m : List (Str × T)},DReps H kvs m → kvs.length = m.length
  | _,_, .nil=>rfl
  | _,_, .cons _ q=>congrArg (· + 1) q.length
theorem lookup_no {z : Str} : ∀ {m : List (Str × T)},(∀ p ∈ m,p.1 ≠ z) → m.lookup z = none
  | [],_=>rfl
  | (a,b) :: r,h=>by
    have h1 : (z == a) = false := beq_false_of_ne fun e=>h (a,b) List.mem_cons_self e.symm
    rw [List.lookup_cons,h1]
    exact lookup_no fun p hp=>h p (List.mem_cons_of_mem _ hp)
def spKindLe (N : Nat) : Sp := fun vs H Q E=>∃ n,n ≤ N ∧ spPKind n vs H Q E
theorem DQ_le : ∀ n,n ≤ 2 → DQ n ≤ 26
  | 0,_=>by decide
  | 1,_=>by decide
  | 2,_=>by decide
  | n + 3,h=>by omega
theorem BQ_le : ∀ n,n ≤ 2 → BQ n ≤ BQ 2
  | 0,_=>by decide
  | 1,_=>by decide
  | 2,_=>by decide
  | n + 3,h=>by omega
theorem KD.up {n m : Nat} {t : T} (h : KD n t) (q : n ≤ m) : KD m t := by
  induction h generalizing m with
  | leaf h=>exact .leaf h
  | @tup n z ks nz h1 h3 hk ih =>
    obtain ⟨j,rfl⟩ : ∃ j,m = j + 1 := ⟨m - 1,by omega⟩
    exact .tup nz h1 h3 fun k hk'=>ih k hk' (by omega)
section
variable {P : Program} {w : World} {K : PySem.W.Frag} {mg : Str → Option Value} {base : Heap} {f : Addr} {fd : FuncData}
theorem kinds_le (F : Fun K "_law_kind" "_law_kind" s_kind f fd) (bF : Binds K fd ["_law_pot_here","_law_leaves_here","_law_heads","_law_deep"] []) (mF : mg "_law_kind" = some (.ref f)) (ml : mg "len" = none) (mr : mg "range" = none) (mt : mg "tuple" = none)
    (h1 : Has P w K mg base 2 "_law_draw" ["_law_pot_here","_law_many_here"] spDraw) (N : Nat) : Has P w K mg base (2 + N + 1) "_law_kind" ["_law_pot_here","_law_leaves_here","_law_heads","_law_deep"] (spKindLe N) := by
  have all : ∀ n,n ≤ N → FnOk P w K mg base CX0 (2 + N + 1) f fd ["_law_pot_here","_law_leaves_here","_law_heads","_law_deep"] (spPKind n) := fun n hn=>(ok_kind F ml mr mt h1 (kinds_allP F bF mF ml mr mt h1 n)).mono (by omega)
  refine ⟨f,fd,⟨fun vs H Q E h=>?_,fun A outer s H args us vs Q E a1 a2 a3 a4 h=>?_⟩,bF,F.kp,mF⟩
  · obtain ⟨n,hn,h⟩ := h
    exact (all n hn).len vs H Q E h
  · obtain ⟨n,hn,h⟩ := h
    exact (all n hn).run A outer s H args us vs Q E a1 a2 a3 a4 h
end
end Fw
set_option Elab.async false
set_option linter.all false
set_option maxRecDepth 100000
namespace PySem
open PyProof.Rows
namespace F
theorem owner_rvt : Manifest.owners.lookup (String.ofList ['d','e','s','r','e','v','e','r'].reverse) = some Manifest.sig_reversed := by kernel_rfl
theorem slot_rvt_next : Slot "reversed" "__next__" "reversed.__next__" :=
  .of (owner := "reversed") (n := "__next__") (by rw [typeLookup_type,builtinLookup_eq_fast]; kernel_rfl) (by decide +kernel) (by decide +kernel) (by decide +kernel)
    (by first | exact .inl (by decide +kernel) | exact .inr (by decide +kernel)) (by rw [isSubtype_type]; kernel_rfl)
theorem entry_rvt_next : entryFor table "reversed.__next__" = some Builtin.«reversed.__next__» := entryFor_of_tree (by kernel_rfl)
theorem args_rvt_next (a : Value) : argsOk "reversed.__next__" ⟨[a],[]⟩ := by
  unfold argsOk; rw [signature?_of (id := "reversed.__next__") (n := ['_','_','t','x','e','n','_','_']) (o := ['d','e','s','r','e','v','e','r']) (by kernel_rfl) owner_rvt]; kernel_rfl
theorem slot_rvt_iter : Slot "reversed" "__iter__" "reversed.__iter__" :=
  .of (owner := "reversed") (n := "__iter__") (by rw [typeLookup_type,builtinLookup_eq_fast]; kernel_rfl) (by decide +kernel) (by decide +kernel) (by decide +kernel)
    (by first | exact .inl (by decide +kernel) | exact .inr (by decide +kernel)) (by rw [isSubtype_type]; kernel_rfl)
theorem args_rvt_iter (a : Value) : argsOk "reversed.__iter__" ⟨[a],[]⟩ := by
  unfold argsOk; rw [signature?_of (id := "reversed.__iter__") (n := ['_','_','r','e','t','i','_','_']) (o := ['d','e','s','r','e','v','e','r']) (by kernel_rfl) owner_rvt]; kernel_rfl
theorem entry_rvt_iter : entryFor table "reversed.__iter__" = some Builtin.«dict_keyiterator.__iter__» :=
  entryFor_alias (id' := "dict_keyiterator.__iter__") (by kernel_rfl) (by first | rfl | decide +kernel | (unfold String.splitOn; simp +decide [String.splitOnAux])) (by decide +kernel) (by kernel_rfl)
theorem slot_rvt_hint : Slot "reversed" "__length_hint__" "reversed.__length_hint__" :=
  .of (owner := "reversed") (n := "__length_hint__") (by rw [typeLookup_type,builtinLookup_eq_fast]; kernel_rfl) (by decide +kernel) (by decide +kernel) (by decide +kernel)
    (by first | exact .inl (by decide +kernel) | exact .inr (by decide +kernel)) (by rw [isSubtype_type]; kernel_rfl)
theorem entry_rvt_hint : entryFor table "reversed.__length_hint__" = some Builtin.«reversed.__length_hint__» := entryFor_of_tree (by kernel_rfl)
theorem args_rvt_hint (a : Value) : argsOk "reversed.__length_hint__" ⟨[a],[]⟩ := by
  unfold argsOk; rw [signature?_of (id := "reversed.__length_hint__") (n := ['_','_','t','n','i','h','_','h','t','g','n','e','l','_','_']) (o := ['d','e','s','r','e','v','e','r']) (by kernel_rfl) owner_rvt]; kernel_rfl
theorem nolen_rvt : typeLookup (.type "reversed") "__len__" = pure none := by rw [typeLookup_type,builtinLookup_eq_fast]; kernel_rfl
theorem tup_norev : typeLookup (.type "tuple") "__reversed__" = pure none := by rw [typeLookup_type,builtinLookup_eq_fast]; kernel_rfl
theorem slot_rvt_init : Slot "reversed" "__init__" "object.__init__" :=
  .of (owner := "object") (n := "__init__") (by rw [typeLookup_type,builtinLookup_eq_fast]; kernel_rfl) (by decide +kernel) (by decide +kernel) (by decide +kernel)
    (by first | exact .inl (by decide +kernel) | exact .inr (by decide +kernel)) (by rw [isSubtype_type]; kernel_rfl)
theorem called_reversed : TypeCalled "reversed" "reversed.__new__" "object.__init__" :=
  ⟨by decide +kernel,by decide +kernel,⟨_,_,mro_reversed⟩,made_reversed,by decide +kernel,by rw [isSubtype_type]; kernel_rfl,slot_rvt_init⟩
end F
def rvtObj (l : Addr) (i : Int) : Obj := { cls := .type "reversed",data := .fields #[.ref l,rawInt i] }
def Heap.IsRvt (h : Heap) (a l : Addr) (i : Int) : Prop := h.get? a = some (rvtObj l i)
theorem Heap.IsRvt.typeIs {s : Shared} {a l : Addr} {i : Int} (x : s.heap.IsRvt a l i) : s.TypeIs (.ref a) "reversed" := ⟨_,x,rfl⟩
section
variable {prog : Program} {w : World} {A : Around} {E : Value → Shared → Prop} {s : Shared}
theorem meets_rvt_new (l : Addr) (xs : Array Value) (hz : (xs.size : Int) < 2 ^ 63) :
    Meets (Builtin.«reversed.__new__» ⟨[.type "reversed", .ref l],[]⟩) (fun _ R s=>IsTup s.heap l xs ∧
      R (.ok (.ret (.ref s.heap.objs.size))) { s with heap := s.heap.push (rvtObj l ((xs.size : Int) - 1)),toks := s.toks + 1 + 1 }) :=
  .of_wp fun prog w A R s h=>by
    obtain ⟨hl,h⟩ := h
    unfold Builtin.«reversed.__new__»
    refine wpAny_bind (wpAny_of_eq (newClass_reversed _) ?_)
    try dsimp only
    refine wpAny_bind (wpAny_of_eq (a := ()) (by first | rfl | kernel_rfl) ?_)
    refine wpAny_bind (wpAny_of_eq (a := ()) (by first | rfl | kernel_rfl) ?_)
    try dsimp only
    refine wpAny_bind (wpAny_specialOf hl.typeIs F.tup_norev ?_)
    try dsimp only
    refine wpAny_bind ?_
    show wpAny _ _ (isInstance (.ref l) (.type "dict") >>= _) _ _ _
    refine wpAny_bind (wpAny_isInstance (b := false) hl.typeIs F.sub_tuple_dict ?_)
    rw [if_neg Bool.false_ne_true]
    show wpAny _ _ (specialOf (Value.ref l) (Str.ofString "__getitem__") >>= _) _ _ _
    refine wpAny_bind (wpAny_specialOf hl.typeIs F.slot_tuple_getitem.lookup ?_)
    dsimp only
    rw [if_pos (by decide)]
    refine wpAny_pure ?_
    rw [if_neg (by decide)]
    refine wpAny_bind (len_tuple hl hz ?_)
    refine wpAny_bind (m := asInt? (.int _ _)) (wpAny_pure ?_)
    dsimp only
    refine wpAny_bind ?_
    show wpAny _ _ (newObj (.type "reversed") (.fields #[Value.ref l,rawInt ((xs.size : Int) - 1)])) _ _ _
    refine wpAny_newObj_type ?_
    exact wpAny_pure ⟨_,rfl,h⟩
theorem call_reversed_tuple {l : Addr} {xs : Array Value} {Q : Value → Shared → Prop} (hl : IsTup s.heap l xs) (hz : (xs.size : Int) < 2 ^ 63)
    (h : Q (.ref s.heap.objs.size) { s with heap := s.heap.push (rvtObj l ((xs.size : Int) - 1)),toks := s.toks + 1 + 1 }) : wpAny (model prog w) A (call (.type "reversed") [.ref l]) Q E s :=
  callType_new F.called_reversed (by decide) (F.typeCall_reversed_1 _) (F.newCall_reversed_1 _) (fun obj=>F.args_object_init_2 obj _) F.entry_reversed_new (meets_rvt_new l xs hz)
    ⟨hl,⟨_,Heap.get?_push_size _ rfl,rfl⟩,h⟩
theorem wpAny_pyNext_rvt_item {it l : Addr} {i : Nat} {xs : Array Value} {x : Value} {Q : Option Value → Shared → Prop} (hit : s.heap.IsRvt it l (i : Int)) (hl : IsTup s.heap l xs) (hz : (xs.size : Int) < 2 ^ 63) (hx : xs[i]? = some x)
    (hQ : ∀ h' tk,s.toks ≤ tk → h'.IsRvt it l ((i : Int) - 1) → Heap.SameBut it s.heap h' → Q (some x) { s with heap := h',toks := tk }) : wpAny (model prog w) A (pyNext (.ref it)) Q E s := by
  have hlt : i < xs.size := (Array.getElem?_eq_some_iff.mp hx).1
  unfold pyNext
  refine wpAny_bind (wpAny_attempt (wpAny_callSpecial?_slot (name := Str.ofString "__next__") hit.typeIs F.slot_rvt_next
    (wpAny_call_entry F.slot_rvt_next hit.typeIs F.entry_rvt_next ?_ (F.args_rvt_next _))))
  unfold Builtin.«reversed.__next__»
  refine wpAny_bind (wpAny_of_eq (a := (Value.ref it,[])) rfl ?_)
  try dsimp only
  refine wpAny_bind (wpAny_field hit rfl (x := .ref l) rfl ?_)
  show wpAny _ _ (field (.ref it) 1 >>= _) _ _ s
  refine wpAny_bind (wpAny_field hit rfl (x := rawInt (i : Int)) rfl ?_)
  show wpAny _ _ (if (i : Int) < 0 then _ else _) _ _ s
  rw [if_neg (by omega)]
  refine wpAny_bind (wpAny_specialOf hl.typeIs F.slot_tuple_getitem.lookup ?_)
  rw [if_neg (by simp)]
  refine wpAny_bind (wpAny_mkInt ?_)
  refine wpAny_bind (wpAny_attempt ?_)
  refine getItem_tuple (j := i) (x := x) hl (by omega) (by omega) (by unfold seqIndex?; simp; omega) hx ?_
  dsimp only
  refine wpAny_bind (wpAny_field (s := { s with toks := _ }) hit rfl (x := rawInt (i : Int)) rfl ?_)
  show wpAny _ _ (setField (Value.ref it) 1 (rawInt ((i : Int) - 1)) >>= fun _=>ret x) _ _ _
  refine wpAny_bind (wpAny_setField_rec (s := { s with toks := s.toks + 1 }) hit (by simp) fun h' e1 e2=>?_)
  exact wpAny_pure ⟨x,rfl,wpAny_pure (hQ h' (s.toks + 1) (Nat.le_succ _) e1 e2)⟩
theorem wpAny_pyNext_rvt_end {it l : Addr} {Q : Option Value → Shared → Prop} (hh : A.handled = none) (hit : s.heap.IsRvt it l (-1))
    (hQ : ∀ h',Heap.ExtBut it s.heap h' → Q none { s with heap := h' }) : wpAny (model prog w) A (pyNext (.ref it)) Q E s := by
  unfold pyNext
  refine wpAny_bind (wpAny_attempt (wpAny_callSpecial?_slot (name := Str.ofString "__next__") hit.typeIs F.slot_rvt_next
    (wpAny_call_entry F.slot_rvt_next hit.typeIs F.entry_rvt_next ?_ (F.args_rvt_next _))))
  unfold Builtin.«reversed.__next__»
  refine wpAny_bind (wpAny_of_eq (a := (Value.ref it,[])) rfl ?_)
  try dsimp only
  refine wpAny_bind (wpAny_field hit rfl (x := .ref l) rfl ?_)
  show wpAny _ _ (field (.ref it) 1 >>= _) _ _ s
  refine wpAny_bind (wpAny_field hit rfl (x := rawInt (-1)) rfl ?_)
  show wpAny _ _ (if (-1 : Int) < 0 then _ else _) _ _ s
  rw [if_pos (by decide)]
  refine wpAny_bind (wpAny_rule ?_)
  refine wpAny_bind ?_
  show wpAny _ _ (setField (.ref it) 1 (rawInt (-1)) >>= fun _=>setField (.ref it) 0 .none) _ _ _
  refine wpAny_bind (wpAny_setField_rec hit (by simp) fun h1 e1 f1=>?_)
  refine wpAny_setField_rec (s := { s with heap := h1 }) e1 (by simp) fun h2 e2 f2=>?_
  first
  | show wpAny _ _ (newExc (.type "StopIteration") [] >>= _) _ _ _
  | (refine wpAny_bind ?_; show wpAny _ _ (newExc (.type "StopIteration") [] >>= _) _ _ _)
  refine wpAny_bind ?_
  simp only [newExc,newTuple]
  refine wpAny_bind (wpAny_newObj_type ?_ (by size_fits))
  refine wpAny_bind (m := firstArgMember _ _) (wpAny_of_eq (a := Value.none) (by first | rfl | (simp only [firstArgMember]; rfl)) ?_)
  refine wpAny_newObj_type ?_ (by size_fits)
  simp only [raiseNew]
  refine wpAny_bind (wpAny_handled ?_)
  first | rw [show A.in1.handled = none from hh] | rw [hh]
  refine wpAny_bind (wpAny_pure (wpAny_throw ?_))
  refine wpAny_bind (wpAny_isInstance (T := "StopIteration") (b := true) ⟨_,Heap.get?_push_size _ rfl,rfl⟩ isSubtype_stop ?_)
  exact wpAny_pure (hQ _ (fun b o hb e=>Heap.get?_push_of_some _ (Heap.get?_push_of_some _ (f2.extBut b o hb (f1.extBut b o hb e)))))
theorem wpAny_pyIter_rvt {it l : Addr} {i : Int} {Q : Value → Shared → Prop} (hit : s.heap.IsRvt it l i) (h : Q (.ref it) s) : wpAny (model prog w) A (pyIter (.ref it)) Q E s := by
  refine wpAny_pyIter_slot hit.typeIs F.slot_rvt_iter (wpAny_call_entry F.slot_rvt_iter hit.typeIs F.entry_rvt_iter ?_ (F.args_rvt_iter _))
  show wpAny _ _ (ret (.ref it)) _ _ s
  exact wpAny_pure ⟨_,rfl,"reversed",_,hit.typeIs,F.slot_rvt_next.lookup,h⟩
theorem WalksS.rvt (hh : A.handled = none) (I l : Addr) (hne : l ≠ I) (xs : Array Value) (hz : (xs.size : Int) < 2 ^ 63) :
    WalksS prog w A I [I,l] [I] (fun a b=>a = b) xs.size (fun i v=>xs[xs.size - 1 - i]? = some v) (fun i s=>s.heap.IsRvt I l ((xs.size : Int) - 1 - (i : Int)) ∧ IsTup s.heap l xs) where
  sub := fun b hb=>by simp at hb; simp [hb]
  grefl := fun _=>rfl
  gtrans := fun _ _ _ a b=>a.trans b
  frame := fun i s h' tk x _ hk=>⟨hk I (by simp) _ x.1,by obtain ⟨o,ho,r⟩ := x.2; exact ⟨o,hk l (by simp) _ ho,r⟩⟩
  item := fun i s Q E hi x hQ=>by
    have e : (xs.size : Int) - 1 - (i : Int) = ((xs.size - 1 - i : Nat) : Int) := by omega
    have hit := x.1
    rw [e] at hit
    have hx : xs[xs.size - 1 - i]? = some (xs[xs.size - 1 - i]'(by omega)) := Array.getElem?_eq_getElem (by omega)
    refine wpAny_pyNext_rvt_item hit x.2 hz hx fun h' tk ht hit' hs'=>?_
    have e2 : ((xs.size - 1 - i : Nat) : Int) - 1 = (xs.size : Int) - 1 - ((i + 1 : Nat) : Int) := by omega
    rw [e2] at hit'
    refine hQ _ { s with heap := h',toks := tk } hx ⟨hit',x.2.extBut hs'.extBut hne⟩ ⟨fun b o hb eo=>hs'.extBut b o (fun h=>hb (by simp [h])) eo,rfl,rfl,rfl,ht⟩
  done := fun s Q E x hQ=>by
    have e : (xs.size : Int) - 1 - (xs.size : Int) = -1 := by omega
    have hit := x.1
    rw [e] at hit
    exact wpAny_pyNext_rvt_end hh hit fun h' he'=>hQ { s with heap := h' } ⟨fun b o hb eo=>he' b o (fun h=>hb (by simp [h])) eo,rfl,rfl,rfl,Nat.le_refl _⟩
  self := fun _ _ _ _ x hQ=>wpAny_pyIter_rvt x.1 hQ
end
end PySem
set_option Elab.async false
set_option linter.all false
set_option maxRecDepth 100000
namespace PySem
open PyProof.Rows
section
variable {prog : Program} {w : World} {A : Around} {E : Value → Shared → Prop} {s : Shared}
theorem call_rvt_hint {it l : Addr} {i : Int} {xs : Array Value} {Q : Value → Shared → Prop} (hit : s.heap.IsRvt it l i) (hl : IsTup s.heap l xs) (hz : (xs.size : Int) < 2 ^ 63) (hi : i + 1 ≤ xs.size)
    (hQ : ∀ u tk,s.toks ≤ tk → Q (.int (i + 1) u) { s with toks := tk }) : wpAny (model prog w) A (call (.builtin "reversed.__length_hint__") [.ref it]) Q E s := by
  refine wpAny_call_entry F.slot_rvt_hint hit.typeIs F.entry_rvt_hint ?_ (F.args_rvt_hint _)
  unfold Builtin.«reversed.__length_hint__»
  refine wpAny_bind (wpAny_of_eq (a := Value.ref it) rfl ?_)
  refine wpAny_bind (wpAny_field hit rfl (x := .ref l) rfl ?_)
  rw [if_neg (show ¬ ((Value.ref l == Value.none) = true) from Bool.false_ne_true)]
  refine wpAny_bind (len_tuple hl hz ?_)
  refine wpAny_bind (m := asInt? (.int _ _)) (wpAny_pure ?_)
  dsimp only
  refine wpAny_bind (wpAny_field (s := { s with toks := _ }) hit rfl (x := rawInt i) rfl ?_)
  show wpAny _ _ (if ((xs.size : Nat) : Int) < i + 1 then _ else retInt (i + 1)) _ _ _
  rw [if_neg (by omega)]
  refine wpAny_bind (wpAny_mkInt (wpAny_pure ⟨_,rfl,?_⟩))
  exact hQ _ _ (by show s.toks ≤ s.toks + 1 + 1 + 1; omega)
end
section
variable {prog : Program} {w : World} {A : Around} {s : Shared} {R : Result → Shared → Prop}
theorem wpAny_extend_rvt (hh : A.handled = none) (S I l : Addr) (res : Value) (c₀ : Nat) {xs : Array Value} (hn : xs.size ≤ sizeLine) (hlI : l ≠ I) (hSI : S ≠ I) (hSl : S ≠ l) (hit : s.heap.IsRvt I l ((xs.size : Int) - 1)) (hl : IsTup s.heap l xs)
    (hS : s.heap.get? S = some { cls := .type "list",data := .seq #[] c₀ })
    (hR : ∀ s' acc' c',Moved [S,I] (fun a b=>a = b) s s' → s'.heap.get? S = some { cls := .type "list",dict := none,data := .seq acc' c',slots := #[] } → ItemsOf (fun i v=>xs[xs.size - 1 - i]? = some v) acc' xs.size → R (.ok (.ret res)) s') :
    wpAny (model prog w) A.in1 (Builtin.List.listExtendWith (.ref S) (.ref I) res)
      (fun fin s'=>match fin with | .done f=>R (.ok f) s' | .again c'=>c'.quiet = true ∧ codeAny (model prog w) A c' R s') (fun e s'=>R (.error e) s') s := by
  have l63 := L2.line63
  have hz : (xs.size : Int) < 2 ^ 63 := by omega
  have W := WalksS.rvt (prog := prog) (w := w) (A := A.in1) hh I l hlI xs hz
  have hSf : S ∉ [I,l] := by simp [hSI,hSl]
  unfold Builtin.List.listExtendWith
  refine wpAny_bind (wpAny_typeOf hit.typeIs ?_)
  have h1 : Builtin.List.listSameRef (.ref S) (.ref I) = false := by simp [Builtin.List.listSameRef,hSI]
  have h2 : (Value.type "reversed" == Value.type "list") = false := by decide
  have h3 : (Value.type "reversed" == Value.type "tuple") = false := by decide
  simp only [h1,h2,h3,Bool.or_false,Bool.false_eq_true,if_false]
  refine wpAny_bind (wpAny_pyIter_rvt hit ?_)
  refine wpAny_bind (wpAny_holding ?_)
  unfold Builtin.List.listLengthHint
  refine wpAny_bind (wpAny_specialOf hit.typeIs F.nolen_rvt ?_)
  show wpAny _ A.in1 (specialOf (Value.ref I) (Str.ofString "__length_hint__") >>= _) _ _ _
  refine wpAny_bind (wpAny_specialOf hit.typeIs F.slot_rvt_hint.lookup ?_)
  (generalize hid : ("reversed.__length_hint__" : String) = id0; (fail_if_success (clear hid id0)); wp_delta; rw [show splitId id0 = some ("reversed","__length_hint__") from by subst hid; decide +kernel]; subst hid)
  refine wpAny_bind (wpAny_isInstance (b := true) hit.typeIs (by rw [isSubtype_type]; kernel_rfl) ?_)
  rw [if_neg (by decide)]
  dsimp only
  rw [if_neg (by decide +kernel)]
  refine wpAny_bind (wpAny_rule ?_)
  refine wpAny_bind (wpAny_of_eq (F.slot_rvt_hint.bind _) ?_)
  dsimp only
  refine wpAny_bind (wpAny_attempt (call_rvt_hint hit hl hz (by omega) fun u tk htk=>?_))
  dsimp only
  refine wpAny_bind (m := asInt? (.int _ _)) (wpAny_pure ?_)
  dsimp only
  have ei : ((xs.size : Int) - 1 + 1) = xs.size := by omega
  rw [ei]
  have f1 : Builtin.List.listFitsIndex (xs.size : Int) = true := by unfold Builtin.List.listFitsIndex; simp; omega
  have f2 : Builtin.List.listTooLong (xs.size : Int).toNat = false := by unfold Builtin.List.listTooLong; simp; omega
  rw [if_neg (by rw [f1]; decide),if_neg (by omega),if_neg (by rw [f2]; decide)]
  refine wpAny_pure ?_
  have hit' : Heap.IsRvt ({ s with toks := tk } : Shared).heap I l ((xs.size : Int) - 1) := hit
  have key : ∀ (h' : Heap) (c₁ : Nat),h'.get? S = some { cls := .type "list",data := .seq #[] c₁ } → (∀ b o,b ≠ S → s.heap.get? b = some o → h'.get? b = some o) →
      codeAny (model prog w) A (.builtin "list.extend.loop" ⟨[.ref S, .ref I,res],[]⟩) R { s with heap := h',toks := tk } := fun h' c₁ hS' kp=>by
    have st : (fun (i : Nat) (s : Shared)=>s.heap.IsRvt I l ((xs.size : Int) - 1 - (i : Int)) ∧ IsTup s.heap l xs) 0 { s with heap := h',toks := tk } := by
      refine ⟨?_,?_⟩
      · have e : (xs.size : Int) - 1 - ((0 : Nat) : Int) = (xs.size : Int) - 1 := by omega
        show Heap.IsRvt h' I l ((xs.size : Int) - 1 - ((0 : Nat) : Int))
        rw [e]
        exact kp I _ (Ne.symm hSI) hit
      · obtain ⟨o,ho,r⟩ := hl
        exact ⟨o,kp l _ (Ne.symm hSl) ho,r⟩
    refine codeAny_extend_loopS W hn S hSf res xs.size 0 _ #[] c₁ rfl (Nat.zero_le _) st hS' (ItemsOf.nil _) fun s' acc' c' hm hS'' hacc=>?_
    exact hR s' acc' c' ⟨fun b o hb e=>hm.heap b o hb (kp b o (fun z=>hb (by simp [z])) e),hm.gens,hm.drawn,hm.os,Nat.le_trans htk hm.toks⟩ hS'' hacc
  split
  · refine wpAny_bind (wpAny_rule ?_)
    refine wpAny_bind ?_
    show wpAny _ A.in1 (updateSeq S (·.push .none) >>= fun _=>updateSeq S (·.pop)) _ _ _
    clear l63 hz f1 f2 ei hn
    refine wpAny_bind (wpAny_updateSeq (s := { s with toks := tk }) hS rfl ?_)
    have hS₂ := Heap.get?_update_self (Obj.mapSeq (·.push Value.none)) hS rfl
    refine wpAny_updateSeq (hz := by seq_fits) hS₂ rfl ?_
    have hS₃ := Heap.get?_update_self (Obj.mapSeq (·.pop)) hS₂ rfl
    exact wpAny_pure ⟨plainId_quiet F.plain_extend_loop _,key _ _ hS₃ fun b o hb e=>(Heap.get?_update_other _ _ (Ne.symm hb)).trans ((Heap.get?_update_other _ _ (Ne.symm hb)).trans e)⟩
  · exact wpAny_pure ⟨plainId_quiet F.plain_extend_loop _,key _ _ hS fun b o _ e=>e⟩
theorem wpAny_list_init_rvt (hh : A.handled = none) (S I l : Addr) {xs : Array Value} (hn : xs.size ≤ sizeLine) (hlI : l ≠ I) (hSI : S ≠ I) (hSl : S ≠ l) (hit : s.heap.IsRvt I l ((xs.size : Int) - 1)) (hl : IsTup s.heap l xs)
    (hS : s.heap.get? S = some { cls := .type "list",data := .seq #[] })
    (hR : ∀ s' acc' c',Moved [S,I] (fun a b=>a = b) s s' → s'.heap.get? S = some { cls := .type "list",dict := none,data := .seq acc' c',slots := #[] } → ItemsOf (fun i v=>xs[xs.size - 1 - i]? = some v) acc' xs.size → R (.ok (.ret .none)) s') :
    wpAny (model prog w) A.in1 (Builtin.«list.__init__» ⟨[.ref S, .ref I],[]⟩)
      (fun fin s'=>match fin with | .done f=>R (.ok f) s' | .again c'=>c'.quiet = true ∧ codeAny (model prog w) A c' R s') (fun e s'=>R (.error e) s') s := by
  show wpAny _ A.in1 (do let old ← Builtin.List.listItems (.ref S); Builtin.List.listUpdate (.ref S) (fun _=>#[]); letGo old.toList.reverse; Builtin.List.listExtendWith (.ref S) (.ref I) .none) _ _ s
  refine wpAny_bind ?_
  unfold Builtin.List.listItems
  refine wpAny_bind (wpAny_seqItems hS rfl (wpAny_pure ?_))
  show wpAny _ A.in1 (updateSeq S (fun _=>#[]) >>= fun _=>letGo (#[] : Array Value).toList.reverse >>= fun _=>Builtin.List.listExtendWith (.ref S) (.ref I) .none) _ _ s
  refine wpAny_bind (wpAny_updateSeq hS rfl ?_)
  have hS₂ := Heap.get?_update_self (Obj.mapSeq (fun _=>(#[] : Array Value))) hS rfl
  have oth : ∀ b o,b ≠ S → s.heap.get? b = some o → (s.heap.update S (Obj.mapSeq (fun _=>(#[] : Array Value)))).get? b = some o :=
    fun b o hb e=>(Heap.get?_update_other _ _ (Ne.symm hb)).trans e
  refine wpAny_bind (wpAny_letGo ?_)
  refine wpAny_extend_rvt hh S I l .none _ hn hlI hSI hSl (oth _ _ (Ne.symm hSI) hit) (by obtain ⟨o,ho,r⟩ := hl; exact ⟨o,oth _ _ (Ne.symm hSl) ho,r⟩) hS₂ fun s' acc' c' hm hS' hacc=>?_
  exact hR s' acc' c' ⟨fun b o hb e=>hm.heap b o hb (oth b o (fun z=>hb (by simp [z])) e),hm.gens,hm.drawn,hm.os,hm.toks⟩ hS' hacc
end
section
variable {prog : Program} {w : World} {A : Around} {E : Value → Shared → Prop} {s : Shared}
theorem call_list_rvt {Q : Value → Shared → Prop} (hh : A.handled = none) (I l : Addr) {xs : Array Value} (hn : xs.size ≤ sizeLine) (hlI : l ≠ I) (hit : s.heap.IsRvt I l ((xs.size : Int) - 1)) (hl : IsTup s.heap l xs)
    (hQ : ∀ s' acc' c',Moved [s.heap.objs.size,I] (fun a b=>a = b) s s' → s'.heap.get? s.heap.objs.size = some { cls := .type "list",dict := none,data := .seq acc' c',slots := #[] } → ItemsOf (fun i v=>xs[xs.size - 1 - i]? = some v) acc' xs.size → Q (.ref s.heap.objs.size) s') :
    wpAny (model prog w) A (call (.type "list") [.ref I]) Q E s := by
  refine callType_codes (Q₁ := fun obj s₁=>obj = .ref s.heap.objs.size ∧ s₁ = { s with heap := s.heap.push { cls := .type "list",data := .seq #[] } }) F.called_list (F.typeCall_list_1 _) F.entry_list_init
    (code_list_new _ ⟨rfl,rfl⟩) fun obj s₁ h₁=>?_
  obtain ⟨rfl,rfl⟩ := h₁
  have hS : (s.heap.push { cls := .type "list",data := .seq #[] }).get? s.heap.objs.size = some { cls := .type "list",data := .seq #[] } := Heap.get?_push_size _ rfl
  have hSI : s.heap.objs.size ≠ I := fun e=>Nat.lt_irrefl _ (by have := Heap.lt_size hit; rw [← e] at this; exact this)
  have hSl : s.heap.objs.size ≠ l := fun e=>by
    obtain ⟨o,ho,_⟩ := hl
    have := Heap.lt_size ho
    rw [← e] at this
    exact Nat.lt_irrefl _ this
  refine ⟨⟨_,hS,rfl⟩,F.args_list_init_2 _ _,wpAny_list_init_rvt (A := A.in1) (s := { s with heap := s.heap.push { cls := .type "list",data := .seq #[] } }) hh _ I l hn hlI hSI hSl (Heap.get?_push_of_some _ hit) (hl.push _) hS fun s' acc' c' hm hS' hacc=>?_⟩
  exact ⟨rfl,hQ s' acc' c' ⟨fun b o hb e=>hm.heap b o hb (Heap.get?_push_of_some _ e),hm.gens,hm.drawn,hm.os,hm.toks⟩ hS' hacc⟩
end
end PySem
set_option Elab.async false
set_option linter.all false
set_option maxRecDepth 100000
namespace L2
open PySem PySem.Spec PyProof.Rows
section
variable {X : Cx}
theorem boot_rev : bootBuiltins "reversed" = some (.type "reversed") := PyProof.Rows.boot_reversed
def tListRev (K : PySem.W.Frag) (te : TE) : TE := fun σ H Q=>te σ H fun x H1=>∃ a xs,x = .ref a ∧ SqT K H1 a xs ∧ ∀ l,H1 l = none → Q (.ref l) (upd H1 l (.lst xs.reverse))
theorem Vals.of_get : ∀ {xs : List V} {us : List Value},xs.length = us.length → (∀ (i : Nat) (x : V) (u : Value),xs[i]? = some x → us[i]? = some u → RelV x u) → Vals xs us
  | [],[],_,_=>.nil
  | [],_ :: _,h,_=>by simp at h
  | _ :: _,[],h,_=>by simp at h
  | x :: xs,u :: us,h,g=>.cons (g 0 x u rfl rfl) (Vals.of_get (by simpa using h) fun i a b e f=>g (i + 1) a b (by simpa using e) (by simpa using f))
theorem pe_listRev {e : Expr} {te : TE} {p pos p2 pos2 : Pos} (hc : X.calm = true) (hgl : Gl X "list") (hml : X.mg "list" = none) (hgr : Gl X "reversed") (hmr : X.mg "reversed" = none) (he : PE X e te)
    (hs1 : starEach [Expr.Call (.Name "reversed" p2) [e] [] pos2] X.env = [(false,eval (Expr.Call (.Name "reversed" p2) [e] [] pos2) X.env)] := by rfl) (hs2 : starEach [e] X.env = [(false,eval e X.env)] := by rfl) :
    PE X (.Call (.Name "list" p) [.Call (.Name "reversed" p2) [e] [] pos2] [] pos) (tListRev X.K te) := by
  intro pins s σ H Q I h
  refine wpAny_Call_Name_kw (ld_blt I hgl hml boot_list ?_ (by decide) (by decide))
  refine PyProof.Rows.callWith_type1 ?_ hs1 rfl
  rw [hs1]
  refine Calls.spliced_cons ?_
  refine wpAny_Call_Name_kw (ld_blt I hgr hmr boot_rev ?_ (by decide) (by decide))
  refine PyProof.Rows.callWith_type1 ?_ hs2 rfl
  rw [hs2]
  refine Calls.spliced_cons (thn (he pins s σ H _ I h) fun u s1 ⟨x,H1,I1,r1,q1⟩=>?_)
  refine Calls.spliced_nil ?_
  obtain ⟨a,xs,rfl,hq,q⟩ := q1
  cases r1
  obtain ⟨its,rv,pt,hz⟩ := I1.tuple hq
  have hlen := rv.length
  have h63 := line63
  refine call_reversed_tuple pt (by simp; omega) ?_
  refine Calls.spliced_nil ?_
  have ha : a < s1.heap.objs.size := by obtain ⟨o,ho,_⟩ := pt; exact Heap.lt_size ho
  refine call_list_rvt (I1.ok.hd hc) s1.heap.objs.size a (xs := its.toArray) (by simp; omega) (Nat.ne_of_lt ha) (Heap.get?_push_size _ rfl) (pt.push _) fun s' acc c hm hS hacc=>?_
  obtain ⟨h',g',d',t',o'⟩ := s'
  have eg : s1.gens = g' := hm.gens
  have ed : d' = s1.drawn := hm.drawn
  have eo : o' = s1.os := hm.os
  subst eg ed eo
  have sz : (s1.heap.push (rvtObj a (((its.toArray).size : Int) - 1))).objs.size = s1.heap.objs.size + 1 := Heap.size_push ..
  have kp : ∀ b o,s1.heap.get? b = some o → h'.get? b = some o := fun b o e=>by
    have hb := Heap.lt_size e
    refine hm.heap b o ?_ (Heap.get?_push_of_some _ e)
    simp only [List.mem_cons,List.not_mem_nil,or_false,not_or]
    exact ⟨Nat.ne_of_lt (Nat.lt_of_lt_of_le hb (Nat.le_of_lt (by rw [sz]; exact Nat.lt_succ_self _))),Nat.ne_of_lt hb⟩
  have va : Vals xs.reverse acc.toList := by
    refine Vals.of_get (by rw [List.length_reverse,hlen]; have := hacc.1; simp at this; simp [this]) fun i x u e f=>?_
    have hi : i < xs.length := by have := (List.getElem?_eq_some_iff.mp e).1; simpa using this
    rw [List.getElem?_reverse hi] at e
    have f' : acc[i]? = some u := by simpa using f
    have g := hacc.2 i u f'
    have g' : its[xs.length - 1 - i]? = some u := by
      have : its.toArray[its.toArray.size - 1 - i]? = some u := g
      simp only [List.size_toArray,List.getElem?_toArray] at this
      rw [hlen]; exact this
    obtain ⟨u',hu',ru⟩ := rv.get e
    rw [g'] at hu'
    cases hu'
    exact ru
  have ea : acc.toList.toArray = acc := by simp
  refine ⟨.ref _,_,I1.laid (t' := t') kp (a := (s1.heap.push (rvtObj a (((its.toArray).size : Int) - 1))).objs.size) (by rw [sz]; omega) (show ObjOk X.prog X.w _ h' _ (.lst xs.reverse) from ⟨by simpa using hz,acc.toList,c,va,by rw [ea]; exact hS⟩),rfl,q _ (I1.hok.fresh (by rw [sz]; omega))⟩
def Itv (K : PySem.W.Frag) (a : Addr) (n : Nat) : It :=
  ⟨fun i H=>∃ xs,SqL K H a xs ∧ xs.length = n ∧ i < n,fun i H x H'=>H' = H ∧ ∀ xs,SqL K H a xs → xs[n - 1 - i]? = some x,fun i H=>i = n⟩
theorem turn_rev {P : Program} {w : World} {K : PySem.W.Frag} {tg : Expr} (a it : Addr) (n : Nat) : Turn P w K tg (Itv K a n) [it] it (fun i h=>h.IsRevIter it a ((n : Int) - 1 - (i : Int))) where
  mem := by simp
  obj := fun i h st b hb=>by
    have e : b = it := by simpa using hb
    subst e
    obtain ⟨o,e,c,d⟩ := st
    exact ⟨o,e,fun v z=>by rw [d] at z; cases z⟩
  keep := fun i h h' st k=>st.at fun o e=>k it (by simp) o e
  item := by
    intro X hP hw hK hc i pins s σ H E I hf st hg
    subst hP hw hK
    obtain ⟨xs,hq,hn,hi⟩ := hg
    obtain ⟨its,rv,p,hz⟩ := I.list hq
    have hx : xs[n - 1 - i]? = some (xs[n - 1 - i]'(by omega)) := List.getElem?_eq_getElem (by omega)
    obtain ⟨u,hu,ru⟩ := rv.get hx
    obtain ⟨f0,f1,f2,f3,f4,f5⟩ := hf it (by simp)
    have e : (n : Int) - 1 - (i : Int) = ((n - 1 - i : Nat) : Int) := by omega
    have st2 : s.heap.IsRevIter it a ((n - 1 - i : Nat) : Int) := by rw [← e]; exact st
    refine wpAny_pyNext_rev_item st2 p.isList (x := u) (by simpa using hu) fun h' st' sb=>?_
    have I1 : Inv X pins σ H { s with heap := h' } := I.turned (t' := s.toks) (fun b o hb e=>(sb.2 b hb).trans e) f0 f1 f3 f4 f5
    have st3 : h'.IsRevIter it a ((n : Int) - 1 - ((i + 1 : Nat) : Int)) := by
      have e2 : ((n - 1 - i : Nat) : Int) - 1 = (n : Int) - 1 - ((i + 1 : Nat) : Int) := by omega
      rw [← e2]; exact st'
    obtain ⟨o,e,c,d⟩ := id st'
    exact ⟨u,rfl,go_of (s := { s with heap := h' }) e c d (by decide) ⟨_,H,I1,ru,⟨rfl,fun ys hy=>by rw [I.list_inj hy hq]; exact hx⟩,st3,fun b hb=>(hf b hb).1⟩⟩
  done := by
    intro X hP hw hK hc i pins s σ H E I hf st hg
    subst hP hw hK
    have hg : i = n := hg
    subst hg
    obtain ⟨f0,f1,f2,f3,f4,f5⟩ := hf it (by simp)
    have e : (i : Int) - 1 - (i : Int) = -1 := by omega
    have st2 : s.heap.IsRevIter it a (-1) := by rw [← e]; exact st
    exact wpAny_pyNext_rev_end (I.ok.hd hc) st2 fun h' eb=>⟨rfl,I.turned (t' := s.toks) (fun b o hb e=>eb b o hb e) f0 f1 f3 f4 f5⟩
  self := fun _ _ _ _ _ st h=>wpAny_pyIter_revIter st h
def iRev (K : PySem.W.Frag) (tl : TE) : TI := fun σ H R=>tl σ H fun x H1=>∃ a xs,x = .ref a ∧ SqL K H1 a xs ∧ R (Itv K a xs.length) H1
theorem pi_rev {l tg : Expr} {tl : TE} {p pos : Pos} (hg : Gl X "reversed") (hm : X.mg "reversed" = none) (hl : PE X l tl) (hs : starEach [l] X.env = [(false,eval l X.env)] := by rfl) : PI X tg (.Call (.Name "reversed" p) [l] [] pos) (iRev X.K tl) := by
  intro pins s σ H R I h
  refine wpAny_Call_Name_kw (ld_blt I hg hm boot_rev ?_ (by decide) (by decide))
  refine PyProof.Rows.callWith_type1 ?_ hs rfl
  rw [hs]
  refine Calls.spliced_cons (thn (hl pins s σ H _ I h) fun v s1 ⟨x,H1,I1,r1,q1⟩=>?_)
  refine Calls.spliced_nil ?_
  obtain ⟨a,xs,rfl,hq,q⟩ := q1
  cases r1
  obtain ⟨its,rv,p,hz⟩ := I1.list hq
  have hlen := rv.length
  refine call_reversed_list p.isList ?_
  have st : Heap.IsRevIter (s1.heap.push (revObj a ((its.toArray.size : Int) - 1))) s1.heap.objs.size a ((xs.length : Int) - 1 - ((0 : Nat) : Int)) := by
    refine ⟨_,Heap.get?_push_size _ rfl,rfl,?_⟩
    show Data.fields _ = _
    simp [hlen]
  refine wpAny_pyIter_revIter (s := { s1 with heap := _ }) st ?_
  refine ⟨s1.heap.objs.size,[s1.heap.objs.size],_,_,H1,rfl,I1.kept (t' := s1.toks) fun b o e=>Heap.get?_push_of_some _ e,turn_rev a _ xs.length,st,fun b hb=>?_,q⟩
  have e : b = s1.heap.objs.size := by simpa using hb
  subst e
  exact I1.fpOk (Nat.le_refl _) (I1.hok.fresh (Nat.le_refl _))
theorem for_rev {K : PySem.W.Frag} {a : Addr} {xs : List V} {g : TG} {tb : TS} {D : Ends} {σ : St} {H : Hp} (Pv : Nat → St → Hp → Prop) (h0 : Pv 0 σ H) (hl : ∀ i σ H,i ≤ xs.length → Pv i σ H → SqL K H a xs)
    (hs : ∀ i x σ H,i < xs.length → xs[xs.length - 1 - i]? = some x → Pv i σ H → g x σ H fun σ2 H2=>tb { D with nx := Pv (i + 1),ct := Pv (i + 1),bk := D.nx } σ2 H2) (hd : ∀ σ H,Pv xs.length σ H → D.nx σ H) :
    ∃ W : Nat → Nat → St → Hp → Prop,(∃ m,W 0 m σ H) ∧ ∀ i m σ H,W i m σ H →
      ((Itv K a xs.length).stop i H ∧ D.nx σ H) ∨ ((Itv K a xs.length).go i H ∧ ∃ N : St → Hp → Prop,(∀ σ' H',N σ' H' → ∃ m',m' < m ∧ W (i + 1) m' σ' H') ∧ ∀ x H',(Itv K a xs.length).yld i H x H' → g x σ H' fun σ2 H2=>tb { D with nx := N,ct := N,bk := D.nx } σ2 H2) := by
  refine ⟨fun i m σ H=>m = xs.length - i ∧ i ≤ xs.length ∧ Pv i σ H,⟨xs.length,by simp,Nat.zero_le _,h0⟩,?_⟩
  rintro i m σ H ⟨rfl,hi,p⟩
  have q := hl i σ H hi p
  by_cases hlt : i < xs.length
  · refine .inr ⟨⟨xs,q,rfl,hlt⟩,Pv (i + 1),fun σ' H' p'=>⟨xs.length - (i + 1),by omega,rfl,hlt,p'⟩,fun x H' y=>?_⟩
    obtain ⟨e,y⟩ := y
    subst e
    exact hs i x σ _ hlt (y xs q) p
  · have e : i = xs.length := by omega
    subst e
    exact .inl ⟨rfl,hd σ H p⟩
end
end L2
set_option Elab.async false
set_option linter.all false
set_option maxRecDepth 100000
namespace Fw
open PySem PySem.Spec PyProof.Rows L2
mutual
def pre : T → List T
  | .tup l=>.tup l :: pre1 l
  | .str z=>[.str z]
  | .int i=>[.int i]
def pre1 : List T → List T
  | []=>[]
  | _ :: ks=>pres ks
def pres : List T → List T
  | []=>[]
  | t :: r=>pre t ++ pres r
end
theorem pres_app : ∀ (a b : List T),pres (a ++ b) = pres a ++ pres b
  | [],b=>rfl
  | t :: r,b=>by show pre t ++ pres (r ++ b) = (pre t ++ pres r) ++ pres b; rw [pres_app r b,List.append_assoc]
theorem szs_reverse (l : List T) : szs l.reverse = szs l := by
  induction l with
  | nil=>rfl
  | cons t r ih=>rw [List.reverse_cons,szs_app,ih]; show szs r + (t.sz + 0) = t.sz + szs r; omega
theorem Reps.reverse {H : Hp} : ∀ {vs : List V} {ts : List T},Reps H vs ts → Reps H vs.reverse ts.reverse
  | _,_, .nil=>.nil
  | _,_, .cons r q=>by rw [List.reverse_cons,List.reverse_cons]; exact q.reverse.append (.cons r .nil)
theorem cutq (vs : List V) (n : Nat) : cutV vs (some (n : Int)) none = vs.drop n := by
  unfold cutV
  rw [HT.sIx_none,HT.sIx_nat]
  by_cases h : n ≤ vs.length
  · rw [Nat.min_eq_left h,List.take_of_length_le (by rw [List.length_drop]; omega)]
  · rw [Nat.min_eq_right (by omega),List.drop_eq_nil_of_le (Nat.le_refl _),List.drop_eq_nil_of_le (by omega)]
    simp
theorem cutq_not {vs : List V} {n : Nat} (h : vs ≠ []) (hn : 1 ≤ n) : ¬ (HT.sIx vs.length 0 (some (n : Int)) = 0 ∧ HT.sIx vs.length vs.length none = vs.length) := by
  rw [HT.sIx_nat]
  have : 0 < vs.length := List.length_pos_iff.mpr h
  rintro ⟨e,_⟩
  rcases Nat.le_total n vs.length with z | z
  · rw [Nat.min_eq_left z] at e; omega
  · rw [Nat.min_eq_right z] at e; omega
def openT : T → Bool
  | .str z=>Txt.startswith z "?"
  | _=>false
def spOpen : Sp := fun vs H Q _=>∃ v t,vs = [v] ∧ Rep H v t ∧ Q (.bl (openT t)) H
def spOuter : Sp := fun vs H Q _=>∃ v t n,vs = [v] ∧ Rep H v t ∧ KD n t ∧ t.sz ≤ 100000 ∧ ∀ (l : Addr) (ws : List V) H',Same H H' → H l = none → H' l = some (.lst ws) → Reps H' ws (pre t) → ws.length ≤ 100000 → Q (.ref l) H'
section
variable {P : Program} {w : World} {K : PySem.W.Frag} {mg : Str → Option Value} {base : Heap} {f : Addr} {fd : FuncData}
abbrev s_is_open : Stmt := top 2
abbrev s_outer : Stmt := top 5
theorem sc_is_open : FnScope ["thing"] ["thing"] (defScope s_is_open) := ⟨rfl,rfl,rfl,by decide +kernel,rfl,by decide +kernel,by decide +kernel⟩
theorem ok_is_open (F : Fun K "is_open" "is_open" s_is_open f fd) (mi : mg "isinstance" = none) (ms : mg "str" = none) : FnOk P w K mg base CX0 1 f fd ["thing"] spOpen := by
  refine F.ok sc_is_open (fun vs H Q E h=>?_) (fun cdv A outer s H vs Q E hr h=>?_)
  · obtain ⟨v,t,rfl,_⟩ := h
    rfl
  obtain ⟨v,t,rfl,rt,q⟩ := h
  refine ⟨_,pss_one (ps_ret (pe_and (pe_callB call_isi rfl mi boot_isinstance (pa_cons (pv 0) (pa_cons (pe_bltn (v := .ty "str") rfl ms boot_str rfl) pa_nil)))
    (pe_one (pe_bm PySem.F.plainAttrs_str PySem.F.slot_str_startswith PySem.F.type_str_startswith mt_startswith (pv 0) (pa_cons pe_str pa_nil))))),?_⟩
  refine ⟨_,rfl,_,_,_,_,rfl,rep_ty rt,kit_str K t,_,rfl,?_⟩
  cases rt with
  | int i=>exact iteF q
  | tup h r=>exact iteF q
  | str z hz=>exact iteT ⟨_,rfl,rfl,z,"?",rfl,rfl,q⟩
theorem sc_outer : FnScope ["kind","waiting","parts","part"] ["kind"] (defScope s_outer) := ⟨rfl,rfl,rfl,by decide +kernel,rfl,by decide +kernel,by decide +kernel⟩
set_option maxHeartbeats 1000000 in
theorem ok_outer (F : Fun K "outer_first" "outer_first" s_outer f fd) (ml : mg "len" = none) (mi : mg "isinstance" = none) (mt : mg "tuple" = none) (mL : mg "list" = none) (mr : mg "reversed" = none) : FnOk P w K mg base CX0 1 f fd ["kind"] spOuter := by
  refine F.ok sc_outer (fun vs H Q E h=>?_) (fun cdv A outer s H vs Q E hr h=>?_)
  · obtain ⟨v,t,n,rfl,_⟩ := h
    rfl
  obtain ⟨v,t,n,rfl,rt,kt,hsz,q⟩ := h
  refine ⟨_,pss_cons (ps_set (i := 1) sc_outer.nd rfl (Or.inl rfl) (pe_lst (pa_cons (pv 0) pa_nil)))
    (pss_cons (ps_set (i := 2) sc_outer.nd rfl (Or.inl rfl) (pe_lst pa_nil))
    (pss_cons (ps_while PassesOwn.never (pt_cmpR op_gt (pe_callB call_len_seq rfl ml PySem.boot_len (pa_cons (pv 1) pa_nil)) pe_int (nomark _))
      (pss_cons (ps_set (i := 3) sc_outer.nd rfl (Or.inl rfl) (pe_bm0 PySem.F.plainAttrs_list PySem.F.slot_list_pop PySem.F.type_list_pop mt_pop (pv 1)))
      (pss_cons (ps_expr (pe_bm PySem.F.plainAttrs_list PySem.F.slot_list_append PySem.F.type_list_append mt_append (pv 2) (pa_cons (pv 3) pa_nil)))
      (pss_one (ps_if (pt_val (pe_callB call_isi rfl mi boot_isinstance (pa_cons (pv 3) (pa_cons (pe_bltn (v := .ty "tuple") rfl mt boot_tuple rfl) pa_nil))))
        (pss_one (ps_expr (pe_bm PySem.F.plainAttrs_list PySem.F.slot_list_extend PySem.F.type_list_extend mt_extend (pv 1) (pa_cons (pe_listRev rfl rfl mL rfl mr (pe_slice sl_tup (pv 3) (po_some pe_int) po_none)) pa_nil)))) pss_nil)))))
    (pss_one (ps_ret (pv 2))))),?_⟩
  refine ⟨_,rfl,small (by show 1 ≤ 1000000; decide),fun lw hlw=>?_⟩
  refine ⟨small (by show 0 ≤ 1000000; decide),fun lp hlp=>?_⟩
  have hlp0 : H lp = none := (same_new hlw (.lst [v])).free hlp
  have nwp : lw ≠ lp := fun e=>by rw [e] at hlw; rw [← e,upd_same] at hlp; cases hlp
  have e0 : Same H (upd (upd H lw (.lst [v])) lp (.lst [])) := (same_new hlw _).trans (same_new hlp _)
  refine ⟨fun m σ H'=>∃ (o : Option V) (ws ps : List V) (ts ds : List T),σ = [some v,some (.ref lw),some (.ref lp),o] ∧ H' lw = some (.lst ws) ∧ H' lp = some (.lst ps) ∧ Reps H' ws ts ∧ Reps H' ps ds ∧
      pre t = ds ++ pres ts.reverse ∧ (∀ t' ∈ ts,∃ n,KD n t') ∧ m = szs ts ∧ ds.length + szs ts ≤ 100000 ∧ Same H H',
    ⟨szs [t],none,[v],[],[t],[],rfl,by rw [upd_ne nwp]; exact upd_same,upd_same, .cons (rt.same e0) .nil, .nil,by simp [pres],fun t' h=>⟨n,by rw [List.mem_singleton.mp h]; exact kt⟩,rfl,by simpa [szs] using hsz,e0⟩,?_⟩
  rintro m σ H1 ⟨o,ws,ps,ts,ds,rfl,hw1,hp1,rw1,rp1,pre1',kd1,rfl,hs1,e1⟩
  refine ⟨_,rfl,lw,ws,rfl, .inl (SqL.of hw1),_,_,rfl,rfl,_,rfl,?_⟩
  refine ite2 (fun c=>?_) (fun c=>?_)
  · have c1 : (0 : Int) < ws.length := of_decide_eq_true c
    have ne : ws ≠ [] := fun e=>by rw [e] at c1; simp at c1
    obtain ⟨ws,us,v',t',rfl,rfl,hws,hv'⟩ := rw1.snoc_inv ne
    obtain ⟨n',kd'⟩ := kd1 t' (by simp)
    have tups2 : ∀ b xs,H1 b = some (.tup xs) → (upd H1 lw (.lst (ws ++ [v']).dropLast)) b = some (.tup xs) := fun b xs h=>by
      rw [upd_ne (ne_of h hw1 (by intro z; cases z))]; exact h
    have sz1 : szs (us ++ [t']) = szs us + t'.sz := by rw [szs_app]; simp [szs]
    have lps := rp1.length
    have lus := hws.length
    have lsz := len_szs us
    refine ⟨_,fun _ _ h=>h,?_⟩
    refine ⟨_,rfl, .inl ⟨rfl,_,SqL.of hw1⟩,lw,ws ++ [v'],v',rfl,rfl,hw1,by simp,?_⟩
    rw [List.dropLast_concat] at tups2 ⊢
    have hp2 : (upd H1 lw (.lst ws)) lp = some (.lst ps) := by rw [upd_ne (Ne.symm nwp)]; exact hp1
    refine ⟨_,rfl, .inl ⟨rfl,_,SqL.of hp2⟩,_,rfl,lp,ps,v',rfl,rfl,hp2,small' (by omega),?_⟩
    generalize hH3 : upd (upd H1 lw (.lst ws)) lp (.lst (ps ++ [v'])) = H3
    have hw3 : H3 lw = some (.lst ws) := by rw [← hH3,upd_ne nwp]; exact upd_same
    have hp3 : H3 lp = some (.lst (ps ++ [v'])) := by rw [← hH3]; exact upd_same
    have tups3 : ∀ b xs,H1 b = some (.tup xs) → H3 b = some (.tup xs) := fun b xs h=>by
      rw [← hH3,upd_ne (ne_of (tups2 b xs h) hp2 (by intro z; cases z))]; exact tups2 b xs h
    have e3 : Same H H3 := fun b u h=>by
      rw [← hH3,upd_ne (ne_of_none h hlp0),upd_ne (ne_of_none h hlw)]; exact e1 b u h
    have rv3 := hv'.mono tups3
    refine ⟨_,rfl,_,_,_,_,rfl,rep_ty rv3,kit_tup K t',?_⟩
    refine ⟨_,rfl,?_⟩
    cases kd' with
    | @leaf _ z hz =>
      refine iteF ?_
      refine ⟨szs us,by rw [sz1]; have := sz_pos (.str z); omega,some v',ws,ps ++ [v'],us,ds ++ [.str z],rfl,hw3,hp3,hws.mono tups3,(rp1.mono tups3).append (.cons rv3 .nil),?_,fun x hx=>kd1 x (by simp [hx]),rfl,?_,e3⟩
      · rw [pre1',List.reverse_append]
        show ds ++ pres (.str z :: us.reverse) = _
        show ds ++ ([.str z] ++ pres us.reverse) = _
        rw [List.append_assoc]
      · have := sz_pos (.str z)
        rw [List.length_append]; simp only [List.length_singleton]; omega
    | @tup j z ks nz k1 k3 hk =>
      refine iteT ?_
      cases rv3 with
      | @tup a vs _ hta rr =>
        cases rr with
        | @cons v0 _ vr _ r0 rr =>
          have lr := rr.length
          refine ⟨_,rfl, .inl ⟨rfl,_,SqL.of hw3⟩,_,rfl,1,rfl,a,_,rfl,SqT.of hta,cutq_not (vs := v0 :: vr) (n := 1) (by simp) (Nat.le_refl _),fun p4 hp4=>?_⟩
          have ec : cutV (v0 :: vr) (some 1) none = vr := cutq (v0 :: vr) 1
          rw [ec]
          have e4 := same_new hp4 (.tup vr)
          refine ⟨p4,vr,rfl,SqT.of upd_same,fun l5 hl5=>?_⟩
          have e5 := same_new hl5 (.lst vr.reverse)
          have hw5 := e5 _ _ (e4 _ _ hw3)
          have hp5 := e5 _ _ (e4 _ _ hp3)
          have e45 := e4.trans e5
          have szk : (T.tup (.str z :: ks)).sz = 1 + (1 + szs ks) := rfl
          refine ⟨lw,l5,ws,vr.reverse,rfl,rfl,hw5,upd_same,small (by rw [List.length_reverse,lr]; have := len_szs ks; omega),?_⟩
          have tups6 : ∀ b xs,H3 b = some (.tup xs) → (upd (upd (upd H3 p4 (.tup vr)) l5 (.lst vr.reverse)) lw (.lst (ws ++ vr.reverse))) b = some (.tup xs) := fun b xs h=>by
            rw [upd_ne (ne_of h hw3 (by intro z; cases z))]; exact e45 b _ h
          refine ⟨szs (us ++ ks.reverse),by rw [sz1,szs_app,szs_reverse,szk]; omega,some (.ref a),ws ++ vr.reverse,ps ++ [.ref a],us ++ ks.reverse,ds ++ [.tup (.str z :: ks)],rfl,upd_same,by rw [upd_ne (Ne.symm nwp)]; exact hp5,?_,?_,?_,fun x hx=>?_,rfl,?_,fun b u h=>?_⟩
          · exact (hws.mono fun b xs h=>tups6 b xs (tups3 b xs h)).append (rr.mono tups6).reverse
          · exact (rp1.mono fun b xs h=>tups6 b xs (tups3 b xs h)).append (.cons (.tup (tups6 _ _ hta) ((Reps.cons r0 rr).mono tups6)) .nil)
          · have a1 : pres (us ++ [T.tup (.str z :: ks)]).reverse = (T.tup (.str z :: ks) :: pres ks) ++ pres us.reverse := by rw [List.reverse_append]; rfl
            have a2 : pres (us ++ ks.reverse).reverse = pres ks ++ pres us.reverse := by rw [List.reverse_append,List.reverse_reverse,pres_app]
            rw [pre1',a1,a2]
            simp
          · rcases List.mem_append.mp hx with h | h
            · exact kd1 x (by simp [h])
            · exact ⟨j,hk x (List.mem_reverse.mp h)⟩
          · rw [List.length_append,szs_app,szs_reverse]; simp only [List.length_singleton]; rw [sz1,szk] at hs1; omega
          · rw [upd_ne (ne_of_none h hlw)]; exact e45 b u (e3 b u h)
  · have c1 : ¬ (0 : Int) < ws.length := fun h=>c (decide_eq_true h)
    have e : ws = [] := by
      cases ws with
      | nil=>rfl
      | cons a b=>exact absurd (by simp) c1
    subst e
    cases rw1
    have lps := rp1.length
    rw [show pres ([] : List T).reverse = [] from rfl,List.append_nil] at pre1'
    exact ⟨_,rfl,q lp ps H1 e1 hlp0 hp1 (by rw [pre1']; exact rp1) (by omega)⟩
end
end Fw
set_option Elab.async false
set_option linter.all false
set_option maxRecDepth 100000
namespace PySem
open PyProof.Rows
section
variable {prog : Program} {w : World} {A : Around} {E : Value → Shared → Prop} {s : Shared}
theorem nextOfT_item {it t : Addr} {i : Nat} {xs : Array Value} {x : Value} {Q : Value → Shared → Prop} (hit : s.heap.IsTupleIter it t i) (ht : s.heap.IsTuple t xs) (hx : xs[i]? = some x)
    (hQ : ∀ h',h'.IsTupleIter it t (i + 1) → Heap.SameBut it s.heap h' → Q x { s with heap := h' }) : wpAny (model prog w) A (Builtin.SmallTypes.nextOf (.ref it)) Q E s := by
  obtain ⟨o,ho,hc,hd⟩ := id hit
  obtain ⟨u,hu,_,n,hn⟩ := ht
  unfold Builtin.SmallTypes.nextOf
  refine wpAny_bind (wpAny_callSpecial?_slot (name := Str.ofString "__next__") hit.typeIs F.slot_tuple_iterator_next (wpAny_call_entry F.slot_tuple_iterator_next hit.typeIs F.entry_tuple_iterator_next ?_ (F.args_tuple_iterator_next_1 _)))
  show wpAny _ _ (field (.ref it) 0 >>= _) _ _ s
  refine wpAny_bind (wpAny_field ho hd (x := .ref t) rfl ?_)
  rw [if_neg (show ¬ ((Value.ref t == Value.none) = true) from Bool.false_ne_true)]
  show wpAny _ _ (field (.ref it) 1 >>= _) _ _ s
  refine wpAny_bind (wpAny_field ho hd (x := .int i 0) rfl ?_)
  show wpAny _ _ (seqItems? (.ref t) >>= _) _ _ s
  refine wpAny_bind (wpAny_seqItems hu hn ?_)
  simp only [Int.toNat_natCast,hx]
  refine wpAny_bind (wpAny_setField ho hd (by simp) (wpAny_pure ⟨x,rfl,wpAny_pure (hQ _ ⟨_,Heap.get?_update_self _ ho (Obj.isFreed_of_fields (Obj.data_mapFields hd _)),(Obj.cls_mapFields ..).trans hc,by rw [Obj.data_mapFields hd]; simp [rawInt]⟩ (Heap.SameBut.update ..))⟩))
theorem nextOfT_end {it t : Addr} {i : Nat} {xs : Array Value} {Q : Value → Shared → Prop} (hh : A.handled = none) (hit : s.heap.IsTupleIter it t i) (ht : s.heap.IsTuple t xs) (hx : xs[i]? = none)
    (hE : ∀ h' e,Heap.ExtBut it s.heap h' → (∃ o,h'.get? e = some o ∧ o.cls = .type "StopIteration") → E (.ref e) { s with heap := h' }) : wpAny (model prog w) A (Builtin.SmallTypes.nextOf (.ref it)) Q E s := by
  obtain ⟨o,ho,hc,hd⟩ := id hit
  obtain ⟨u,hu,_,n,hn⟩ := ht
  unfold Builtin.SmallTypes.nextOf
  refine wpAny_bind (wpAny_callSpecial?_slot (name := Str.ofString "__next__") hit.typeIs F.slot_tuple_iterator_next (wpAny_call_entry F.slot_tuple_iterator_next hit.typeIs F.entry_tuple_iterator_next ?_ (F.args_tuple_iterator_next_1 _)))
  show wpAny _ _ (field (.ref it) 0 >>= _) _ _ s
  refine wpAny_bind (wpAny_field ho hd (x := .ref t) rfl ?_)
  rw [if_neg (show ¬ ((Value.ref t == Value.none) = true) from Bool.false_ne_true)]
  show wpAny _ _ (field (.ref it) 1 >>= _) _ _ s
  refine wpAny_bind (wpAny_field ho hd (x := .int i 0) rfl ?_)
  show wpAny _ _ (seqItems? (.ref t) >>= _) _ _ s
  refine wpAny_bind (wpAny_seqItems hu hn ?_)
  simp only [Int.toNat_natCast,hx]
  refine wpAny_bind (wpAny_rule (wpAny_bind (wpAny_setField ho hd (by simp) ?_)))
  show wpAny _ _ (newExc (.type "StopIteration") [] >>= _) _ _ _
  refine wpAny_bind ?_
  simp only [newExc,newTuple]
  refine wpAny_bind (wpAny_newObj_type ?_ (by size_fits))
  refine wpAny_bind (m := firstArgMember _ _) (wpAny_of_eq (a := Value.none) (by first | rfl | (simp only [firstArgMember]; rfl)) ?_)
  refine wpAny_newObj_type ?_ (by size_fits)
  simp only [raiseNew]
  refine wpAny_bind (wpAny_handled ?_)
  first | rw [show A.in1.handled = none from hh] | rw [hh]
  exact wpAny_bind (wpAny_pure (wpAny_throw (hE _ _ (((Heap.SameBut.update ..).extBut.push _).push _) ⟨_,Heap.get?_push_size _ rfl,rfl⟩)))
structure ZipT (h : Heap) (z TI TO i1 i2 t1 t2 : Addr) (k : Nat) : Prop where
  nd : [z,TI,TO,i1,i2].Nodup
  zz : IsZip h z TI TO .none
  ti : IsPair h TI (.ref i1) (.ref i2)
  tO : ∃ a b,IsPair h TO a b
  j1 : h.IsTupleIter i1 t1 k
  j2 : h.IsTupleIter i2 t2 k
theorem zipT_item {z TI TO i1 i2 t1 t2 : Addr} {k : Nat} {xs ys : Array Value} {x y : Value} {Q : Option Value → Shared → Prop} (Z : ZipT s.heap z TI TO i1 i2 t1 t2 k) (n1 : t1 ∉ [z,TO,i1,i2]) (n2 : t2 ∉ [z,TO,i1,i2])
    (h1 : s.heap.IsTuple t1 xs) (h2 : s.heap.IsTuple t2 ys) (hx : xs[k]? = some x) (hy : ys[k]? = some y)
    (hQ : ∀ h',IsZip h' z TI TO (rawInt s.heap.objs.size) → IsPair h' TI (.ref i1) (.ref i2) → IsPair h' TO x y → h'.IsTupleIter i1 t1 (k + 1) → h'.IsTupleIter i2 t2 (k + 1) → IsPair h' s.heap.objs.size x y → h'.objs.size = s.heap.objs.size + 1 →
      (∀ c o,c ∉ [z,TO,i1,i2] → s.heap.get? c = some o → h'.get? c = some o) → Q (some (.ref s.heap.objs.size)) { s with heap := h' }) : wpAny (model prog w) A (pyNext (.ref z)) Q E s := by
  obtain ⟨nd,zz,ti,⟨a,b,tO⟩,j1,j2⟩ := Z
  simp only [List.nodup_cons,List.mem_cons,List.not_mem_nil,or_false,not_or,List.nodup_nil,and_true,not_false_eq_true] at nd n1 n2
  obtain ⟨⟨zTI,zTO,z1,z2⟩,⟨TITO,TI1,TI2⟩,⟨TO1,TO2⟩,i12⟩ := nd
  obtain ⟨a1,a2,a3,a4⟩ := n1
  obtain ⟨b1,b2,b3,b4⟩ := n2
  have hT : s.TypeIs (.ref z) "zip" := ⟨_,zz,rfl⟩
  unfold pyNext
  refine wpAny_bind (wpAny_attempt (wpAny_callSpecial?_slot (name := Str.ofString "__next__") hT F.slot_zip_next (wpAny_call_entry F.slot_zip_next hT F.entry_zip_next ?_ (F.args_zip_next_1 _))))
  show wpAny _ _ (field (.ref z) 2 >>= _) _ _ _
  refine wpAny_bind (wpAny_field zz rfl (x := .bool false) rfl ?_)
  show wpAny _ _ (field (.ref z) 3 >>= _) _ _ _
  refine wpAny_bind (wpAny_field zz rfl (x := .ref TI) rfl (wpAny_bind (wpAny_seqItems ti rfl ?_)))
  show wpAny _ _ (Builtin.SmallTypes.ownedTupleIsFree (.ref z) >>= _) _ _ _
  refine wpAny_bind ?_
  unfold Builtin.SmallTypes.ownedTupleIsFree
  refine wpAny_bind (wpAny_field zz rfl (x := .none) rfl (wpAny_pure ?_))
  simp only [if_true]
  refine wpAny_bind (wpAny_rule (wpAny_bind (wpAny_field zz rfl (x := .ref TO) rfl (wpAny_bind (wpAny_setField_rec zz (by simp) fun g1 q1 r1=>?_)))))
  replace q1 : IsZip g1 z TI TO .ellipsis := q1
  refine wpAny_bind ?_
  simp only [List.zipIdx_cons,List.zipIdx_nil,List.forIn_cons,List.forIn_nil]
  refine wpAny_bind (wpAny_bind (wpAny_onRaise ?_))
  show wpAny _ _ (Builtin.SmallTypes.nextOf (.ref i1) >>= _) _ _ _
  refine wpAny_bind (nextOfT_item (j1.extBut r1.extBut (Ne.symm z1)) (h1.extBut r1.extBut a1) hx fun g2 q2 r2=>wpAny_pure ?_)
  have tO2 : IsPair g2 TO a b := r2.extBut _ _ TO1 (r1.extBut _ _ (Ne.symm zTO) tO)
  refine wpAny_bind (wpAny_seqItems tO2 rfl (wpAny_bind (wpAny_updateSeq_pair tO2 fun g3 q3 r3=>?_)))
  replace q3 : IsPair g3 TO x b := q3
  refine wpAny_bind (wpAny_letGo (wpAny_pure ?_))
  refine wpAny_bind (wpAny_bind (wpAny_onRaise ?_))
  show wpAny _ _ (Builtin.SmallTypes.nextOf (.ref i2) >>= _) _ _ _
  refine wpAny_bind (nextOfT_item (((j2.extBut r1.extBut (Ne.symm z2)).extBut r2.extBut (Ne.symm i12)).extBut r3.extBut (Ne.symm TO2)) (((h2.extBut r1.extBut b1).extBut r2.extBut b3).extBut r3.extBut b2) hy fun g4 q4 r4=>wpAny_pure ?_)
  have tO4 : IsPair g4 TO x b := r4.extBut _ _ TO2 q3
  refine wpAny_bind (wpAny_seqItems tO4 rfl (wpAny_bind (wpAny_updateSeq_pair tO4 fun g5 q5 r5=>?_)))
  replace q5 : IsPair g5 TO x y := q5
  refine wpAny_bind (wpAny_letGo (wpAny_pure (wpAny_pure ?_)))
  refine wpAny_bind (wpAny_seqItems q5 rfl (wpAny_bind (wpAny_newTuple ?_)))
  have sz : g5.objs.size = s.heap.objs.size := by rw [r5.1,r4.1,r3.1,r2.1,r1.1]
  have kp5 : ∀ c o,c ≠ z → c ≠ TO → c ≠ i1 → c ≠ i2 → s.heap.get? c = some o → g5.get? c = some o := fun c o c1 c2 c3 c4 e=>r5.extBut _ _ c2 (r4.extBut _ _ c4 (r3.extBut _ _ c2 (r2.extBut _ _ c3 (r1.extBut _ _ c1 e))))
  have zz5 : IsZip g5 z TI TO .ellipsis := r5.extBut _ _ zTO (r4.extBut _ _ z2 (r3.extBut _ _ zTO (r2.extBut _ _ z1 q1)))
  have k15 : g5.IsTupleIter i1 t1 (k + 1) := ((q2.extBut r3.extBut (Ne.symm TO1)).extBut r4.extBut i12).extBut r5.extBut (Ne.symm TO1)
  have k25 : g5.IsTupleIter i2 t2 (k + 1) := q4.extBut r5.extBut (Ne.symm TO2)
  have ti5 : IsPair g5 TI (.ref i1) (.ref i2) := kp5 _ _ (Ne.symm zTI) TITO TI1 TI2 ti
  show wpAny _ _ (Builtin.SmallTypes.ownedTupleHandOut (.ref z) (.ref g5.objs.size) >>= _) _ _ _
  refine wpAny_bind ?_
  unfold Builtin.SmallTypes.ownedTupleHandOut
  refine wpAny_bind (wpAny_setField_rec (Heap.get?_push_of_some _ zz5) (by simp) fun g7 q7 r7=>?_)
  replace q7 : IsZip g7 z TI TO (rawInt g5.objs.size) := q7
  refine wpAny_setField_rec q7 (by simp) fun g8 q8 r8=>?_
  replace q8 : IsZip g8 z TI TO (rawInt g5.objs.size) := q8
  have up : ∀ c o,c ≠ z → g5.get? c = some o → g8.get? c = some o := fun c o c1 e=>r8.extBut _ _ c1 (r7.extBut _ _ c1 (Heap.get?_push_of_some _ e))
  have new : IsPair g8 g5.objs.size x y := r8.extBut _ _ (Nat.ne_of_gt (Heap.lt_size zz5)) (r7.extBut _ _ (Nat.ne_of_gt (Heap.lt_size zz5)) (Heap.get?_push_size _ rfl))
  have sz8 : g8.objs.size = s.heap.objs.size + 1 := by rw [r8.1,r7.1,Heap.size_push,sz]
  rw [sz] at q8 new
  refine wpAny_pure ⟨_,rfl,?_⟩
  refine wpAny_pure ?_
  show Q (some (.ref g5.objs.size)) _
  rw [sz]
  exact hQ g8 q8 (up _ _ (Ne.symm zTI) ti5) (up _ _ (Ne.symm zTO) q5) (let ⟨o,e,r⟩ := k15; ⟨o,up _ o (Ne.symm z1) e,r⟩) (let ⟨o,e,r⟩ := k25; ⟨o,up _ o (Ne.symm z2) e,r⟩) new sz8 fun c o hc e=>by
    simp only [List.mem_cons,List.not_mem_nil,or_false,not_or] at hc
    exact up c o hc.1 (kp5 c o hc.1 hc.2.1 hc.2.2.1 hc.2.2.2 e)
theorem zipT_end {z TI TO i1 i2 t1 t2 : Addr} {k : Nat} {xs : Array Value} {Q : Option Value → Shared → Prop} (hh : A.handled = none) (Z : ZipT s.heap z TI TO i1 i2 t1 t2 k) (n1 : t1 ∉ [z,TO,i1,i2])
    (h1 : s.heap.IsTuple t1 xs) (hx : xs[k]? = none) (hQ : ∀ h',(∀ c o,c ∉ [z,TO,i1,i2] → s.heap.get? c = some o → h'.get? c = some o) → Q none { s with heap := h' }) : wpAny (model prog w) A (pyNext (.ref z)) Q E s := by
  obtain ⟨nd,zz,ti,⟨a,b,tO⟩,j1,j2⟩ := Z
  simp only [List.nodup_cons,List.mem_cons,List.not_mem_nil,or_false,not_or,List.nodup_nil,and_true,not_false_eq_true] at nd n1
  obtain ⟨⟨zTI,zTO,z1,z2⟩,⟨TITO,TI1,TI2⟩,⟨TO1,TO2⟩,i12⟩ := nd
  obtain ⟨a1,a2,a3,a4⟩ := n1
  have hT : s.TypeIs (.ref z) "zip" := ⟨_,zz,rfl⟩
  unfold pyNext
  refine wpAny_bind (wpAny_attempt (wpAny_callSpecial?_slot (name := Str.ofString "__next__") hT F.slot_zip_next (wpAny_call_entry F.slot_zip_next hT F.entry_zip_next ?_ (F.args_zip_next_1 _))))
  show wpAny _ _ (field (.ref z) 2 >>= _) _ _ _
  refine wpAny_bind (wpAny_field zz rfl (x := .bool false) rfl ?_)
  show wpAny _ _ (field (.ref z) 3 >>= _) _ _ _
  refine wpAny_bind (wpAny_field zz rfl (x := .ref TI) rfl (wpAny_bind (wpAny_seqItems ti rfl ?_)))
  show wpAny _ _ (Builtin.SmallTypes.ownedTupleIsFree (.ref z) >>= _) _ _ _
  refine wpAny_bind ?_
  unfold Builtin.SmallTypes.ownedTupleIsFree
  refine wpAny_bind (wpAny_field zz rfl (x := .none) rfl (wpAny_pure ?_))
  simp only [if_true]
  refine wpAny_bind (wpAny_rule (wpAny_bind (wpAny_field zz rfl (x := .ref TO) rfl (wpAny_bind (wpAny_setField_rec zz (by simp) fun g1 q1 r1=>?_)))))
  replace q1 : IsZip g1 z TI TO .ellipsis := q1
  refine wpAny_bind ?_
  simp only [List.zipIdx_cons,List.zipIdx_nil,List.forIn_cons,List.forIn_nil]
  refine wpAny_bind (wpAny_bind (wpAny_onRaise ?_))
  show wpAny _ _ (Builtin.SmallTypes.nextOf (.ref i1) >>= _) _ _ _
  refine wpAny_bind (nextOfT_end hh (j1.extBut r1.extBut (Ne.symm z1)) (h1.extBut r1.extBut a1) hx fun g2 e r2 he=>?_)
  obtain ⟨oe,ho,hc⟩ := he
  have zz2 : IsZip g2 z TI TO .ellipsis := r2 _ _ z1 q1
  have ez : e ≠ z := fun q=>by subst q; rw [zz2] at ho; cases ho; simp at hc
  refine wpAny_setField_rec (s := { s with heap := g2 }) zz2 (by simp) fun g3 q3 r3=>?_
  refine wpAny_bind (wpAny_isInstance (T := "StopIteration") (b := true) ⟨oe,r3.extBut _ _ ez ho,hc⟩ isSubtype_stop ?_)
  exact wpAny_pure (hQ _ fun c o hcc e=>by
    simp only [List.mem_cons,List.not_mem_nil,or_false,not_or] at hcc
    exact r3.extBut _ _ hcc.1 (r2 _ _ hcc.2.2.1 (r1.extBut _ _ hcc.1 e)))
abbrev zt1 (h : Heap) (t1 : Addr) : Heap := h.push { cls := .type "tuple_iterator",data := .fields #[.ref t1, .int 0 0] }
abbrev zt2 (h : Heap) (t1 t2 : Addr) : Heap := (zt1 h t1).push { cls := .type "tuple_iterator",data := .fields #[.ref t2, .int 0 0] }
abbrev zt3 (h : Heap) (t1 t2 : Addr) : Heap := (zt2 h t1 t2).push { cls := .type "tuple",data := .seq #[.ref h.objs.size, .ref (zt1 h t1).objs.size] }
abbrev zt4 (h : Heap) (t1 t2 : Addr) : Heap := (zt3 h t1 t2).push { cls := .type "tuple",data := .seq #[.none, .none] }
abbrev zt5 (h : Heap) (t1 t2 : Addr) : Heap := (zt4 h t1 t2).push { cls := .type "zip",data := .fields #[.none, .bool false, .bool false, .ref (zt2 h t1 t2).objs.size, .ref (zt3 h t1 t2).objs.size] }
theorem meets_zipT (t1 t2 : Addr) (xs ys : Array Value) :
    Meets (Builtin.«zip.__new__» ⟨[.type "zip", .ref t1, .ref t2],[]⟩) (fun _ R s=>s.heap.IsTuple t1 xs ∧ s.heap.IsTuple t2 ys ∧ R (.ok (.ret (.ref (zt4 s.heap t1 t2).objs.size))) { s with heap := zt5 s.heap t1 t2 }) :=
  .of_wp fun prog w A R s h=>by
    obtain ⟨hp,g,d,tk,os⟩ := s
    obtain ⟨h1,h2,h⟩ := h
    have hsub := sub_zip
    have q1 : Heap.IsTuple (Shared.heap ⟨hp,g,d,tk,os⟩) t1 xs := h1
    have q2 : Heap.IsTuple (Shared.heap ⟨hp.push { cls := .type "tuple_iterator",data := .fields #[.ref t1, .int 0 0] },g,d,tk,os⟩) t2 ys := Heap.IsTuple.push h2 _
    wp_walk using wpAny_pyIter_tuple q1,wpAny_pyIter_tuple q2
    exact ⟨_,rfl,h⟩
theorem call_zipT {t1 t2 : Addr} {xs ys : Array Value} {Q : Value → Shared → Prop} (h1 : s.heap.IsTuple t1 xs) (h2 : s.heap.IsTuple t2 ys)
    (h : ∀ h' z TI TO i1 i2,s.heap.objs.size ≤ z → s.heap.objs.size ≤ TI → s.heap.objs.size ≤ TO → s.heap.objs.size ≤ i1 → s.heap.objs.size ≤ i2 → ZipT h' z TI TO i1 i2 t1 t2 0 → (∀ c o,s.heap.get? c = some o → h'.get? c = some o) → Q (.ref z) { s with heap := h' }) :
    wpAny (model prog w) A (call (.type "zip") [.ref t1, .ref t2]) Q E s := by
  refine callType_new F.called_zip (by decide) (F.typeCall_zip_2 _ _) (F.newCall_zip_2 _ _) (fun obj=>F.args_object_init_3 obj _ _) F.entry_zip_new (meets_zipT t1 t2 xs ys) ⟨h1,h2,?_⟩
  have z1 : (zt1 s.heap t1).objs.size = s.heap.objs.size + 1 := Heap.size_push ..
  have z2 : (zt2 s.heap t1 t2).objs.size = s.heap.objs.size + 2 := by rw [Heap.size_push,z1]
  have z3 : (zt3 s.heap t1 t2).objs.size = s.heap.objs.size + 3 := by rw [Heap.size_push,z2]
  have z4 : (zt4 s.heap t1 t2).objs.size = s.heap.objs.size + 4 := by rw [Heap.size_push,z3]
  have p5 : (zt5 s.heap t1 t2).get? (zt4 s.heap t1 t2).objs.size = some _ := Heap.get?_push_size _ rfl
  have p4 : (zt5 s.heap t1 t2).get? (zt3 s.heap t1 t2).objs.size = some _ := Heap.get?_push_of_some _ (Heap.get?_push_size _ rfl)
  have p3 : (zt5 s.heap t1 t2).get? (zt2 s.heap t1 t2).objs.size = some _ := Heap.get?_push_of_some _ (Heap.get?_push_of_some _ (Heap.get?_push_size _ rfl))
  have p2 : (zt5 s.heap t1 t2).get? (zt1 s.heap t1).objs.size = some _ := Heap.get?_push_of_some _ (Heap.get?_push_of_some _ (Heap.get?_push_of_some _ (Heap.get?_push_size _ rfl)))
  have p1 : (zt5 s.heap t1 t2).get? s.heap.objs.size = some _ := Heap.get?_push_of_some _ (Heap.get?_push_of_some _ (Heap.get?_push_of_some _ (Heap.get?_push_of_some _ (Heap.get?_push_size _ rfl))))
  refine ⟨⟨_,p5,rfl⟩,h _ _ _ _ _ _ ?_ ?_ ?_ (Nat.le_refl _) ?_ ⟨?_,p5,p3,⟨_,_,p4⟩,⟨_,p1,rfl,rfl⟩,⟨_,p2,rfl,rfl⟩⟩ fun c o e=>Heap.get?_push_of_some _ (Heap.get?_push_of_some _ (Heap.get?_push_of_some _ (Heap.get?_push_of_some _ (Heap.get?_push_of_some _ e))))⟩
  · rw [z4]; exact Nat.le_add_right _ _
  · rw [z2]; exact Nat.le_add_right _ _
  · rw [z3]; exact Nat.le_add_right _ _
  · rw [z1]; exact Nat.le_add_right _ _
  · rw [z1,z2,z3,z4]
    generalize s.heap.objs.size = n
    simp only [List.nodup_cons,List.mem_cons,List.not_mem_nil,or_false,not_or,List.nodup_nil,and_true,not_false_eq_true]
    refine ⟨⟨?_,?_,?_,?_⟩,⟨?_,?_,?_⟩,⟨?_,?_⟩,?_⟩ <;> (intro q; simp at q)
end
end PySem
set_option Elab.async false
set_option linter.all false
set_option maxRecDepth 100000
namespace L2
open PySem PySem.Spec PyProof.Rows
section
variable {X : Cx} {pins : List (Addr × Obj)} {σ : St} {H : Hp} {s : Shared} {h' : Heap}
theorem Inv.turnedL {t' : Nat} {ch : List Addr} (I : Inv X pins σ H s) (k : ∀ b o,b ∉ ch → s.heap.get? b = some o → h'.get? b = some o) (hf : ∀ b ∈ ch,FpOk X pins H b) : Inv X pins σ H { s with heap := h',toks := t' } := by
  have nit : ∀ b u,H b = some u → b ∉ ch := fun b u e z=>by rw [(hf b z).1] at e; cases e
  refine I.step (g' := s.gens) (d' := s.drawn) (ch := ch) (fun b hb=>?_) (fun b o _ _ hc e _=>k b o hc e) (fun b o _ _ hc e _=>⟨o.slots,k b o hc e⟩) (fun _ _ _ _ n=>n)
    (fun b o hc e=>⟨o,k b o hc e⟩) (fun _ _ e=>e) (fun _ _ _ e=>e) (fun b ps e=>⟨#[],by rw [e]; simp⟩) (fun m hm=>?_) (fun b u e=>?_) I.bare
  · obtain ⟨f0,f1,f2,f3,f4,f5⟩ := hf b hb
    exact ⟨f3,f1,f4,f5⟩
  · obtain ⟨o,es,ep,ho,r⟩ := hm
    exact ⟨o,es,ep,k _ o (fun z=>(hf _ z).2.1 rfl) ho,r⟩
  · refine (I.hok b u e).stay (fun c v hc q=>k c v ?_ q) (fun _ q=>q) fun _ _ q=>q
    rcases hc with z | z
    · rw [z]; exact nit b u e
    · exact nit c _ z
theorem Inv.trackT {D : Addr} {vs : List V} {its : List Value} (I : Inv X pins σ H s) (hf : FpOk X pins H D) (hz : vs.length ≤ sizeLine) (hv : Vals vs its) (e : IsTup s.heap D its.toArray) : Inv X pins σ (upd H D (.tup vs)) s := by
  obtain ⟨hD,h2,_,h1,h3,h4⟩ := hf
  obtain ⟨hh,g,d,t,o⟩ := s
  have nD : ∀ b u,H b = some u → b ≠ D := fun b u q z=>by rw [z,hD] at q; cases q
  refine I.step (g' := g) (d' := d) (t' := t) (h' := hh) (ch := [D]) (fun b hb=>?_) (fun b o _ _ _ q _=>q) (fun b o _ _ _ q _=>⟨o.slots,q⟩) (fun b o hb q n=>?_) (fun b o _ q=>⟨o,q⟩)
    (fun b xs q=>by rw [upd_ne (nD b _ q)]; exact q) (fun b o u q=>by rw [upd_ne (nD b _ q)]; exact q) (fun b ps q=>⟨#[],by rw [upd_ne (nD b _ q),q]; simp⟩) (fun m q=>q) (fun b u q=>?_) I.bare
  · have z : b = D := by simpa using hb
    subst z
    exact ⟨h1,h2,h3,h4⟩
  · rw [upd_ne (by simpa using hb)]; exact n
  · by_cases z : b = D
    · subst z
      rw [upd_same] at q; cases q
      exact ⟨hz,its,hv,e⟩
    · rw [upd_ne z] at q
      exact (I.hok b u q).stay (fun _ _ _ q=>q) (fun c q=>by rw [upd_ne (nD c _ q)]; exact q) fun c xs q=>by rw [upd_ne (nD c _ q)]; exact q
end
def Itz (a b : Addr) : It :=
  ⟨fun i H=>∃ xs ys x y,H a = some (.tup xs) ∧ H b = some (.tup ys) ∧ xs[i]? = some x ∧ ys[i]? = some y,
   fun i H v H'=>∃ (T : Addr) (xs ys : List V) (x y : V),H a = some (.tup xs) ∧ H b = some (.tup ys) ∧ xs[i]? = some x ∧ ys[i]? = some y ∧ H T = none ∧ v = .ref T ∧ H' = upd H T (.tup [x,y]),
   fun i H=>∃ xs,H a = some (.tup xs) ∧ xs.length ≤ i⟩
theorem turn_zip {P : Program} {w : World} {K : PySem.W.Frag} {elts : List Expr} {x1} {pos : Pos} (a b z TI TO i1 i2 : Addr) : Turn P w K (.Tuple elts x1 pos) (Itz a b) [z,TI,TO,i1,i2] z (fun i h=>ZipT h z TI TO i1 i2 a b i) where
  mem := by simp
  obj := fun i h st c hc=>by
    simp only [List.mem_cons,List.not_mem_nil,or_false] at hc
    obtain ⟨nd,zz,ti,⟨u,v,tO⟩,⟨o1,j1,c1,d1⟩,⟨o2,j2,c2,d2⟩⟩ := st
    rcases hc with rfl | rfl | rfl | rfl | rfl
    · exact ⟨_,zz,fun v q=>by cases q⟩
    · exact ⟨_,ti,fun v q=>by cases q⟩
    · exact ⟨_,tO,fun v q=>by cases q⟩
    · exact ⟨o1,j1,fun v q=>by rw [d1] at q; cases q⟩
    · exact ⟨o2,j2,fun v q=>by rw [d2] at q; cases q⟩
  keep := fun i h h' st k=>by
    obtain ⟨nd,zz,ti,⟨u,v,tO⟩,⟨o1,j1,r1⟩,⟨o2,j2,r2⟩⟩ := st
    exact ⟨nd,k _ (by simp) _ zz,k _ (by simp) _ ti,⟨u,v,k _ (by simp) _ tO⟩,⟨o1,k _ (by simp) _ j1,r1⟩,⟨o2,k _ (by simp) _ j2,r2⟩⟩
  item := by
    intro X hP hw hK hc i pins s σ H E I hf st hg
    subst hP hw hK
    obtain ⟨xs,ys,x,y,ha,hb,hx,hy⟩ := hg
    obtain ⟨its1,rv1,p1,z1⟩ := I.tuple (SqT.of ha)
    obtain ⟨its2,rv2,p2,z2⟩ := I.tuple (SqT.of hb)
    obtain ⟨u1,hu1,ru1⟩ := rv1.get hx
    obtain ⟨u2,hu2,ru2⟩ := rv2.get hy
    have sub : ∀ c ∈ [z,TO,i1,i2],c ∈ [z,TI,TO,i1,i2] := fun c hc=>by
      simp only [List.mem_cons,List.not_mem_nil,or_false] at hc ⊢
      rcases hc with h | h | h | h
      · exact .inl h
      · exact .inr (.inr (.inl h))
      · exact .inr (.inr (.inr (.inl h)))
      · exact .inr (.inr (.inr (.inr h)))
    have no : ∀ c u,H c = some u → c ∉ [z,TO,i1,i2] := fun c u e q=>by rw [(hf c (sub c q)).1] at e; cases e
    have lt : ∀ c ∈ [z,TI,TO,i1,i2],c < s.heap.objs.size := fun c hc=>by
      simp only [List.mem_cons,List.not_mem_nil,or_false] at hc
      obtain ⟨nd,zz,ti,⟨u,v,tO⟩,⟨o1,j1,c1,d1⟩,⟨o2,j2,c2,d2⟩⟩ := st
      rcases hc with rfl | rfl | rfl | rfl | rfl
      · exact Heap.lt_size zz
      · exact Heap.lt_size ti
      · exact Heap.lt_size tO
      · exact Heap.lt_size j1
      · exact Heap.lt_size j2
    refine zipT_item st (no a _ ha) (no b _ hb) (show s.heap.IsTuple a its1.toArray from p1) (show s.heap.IsTuple b its2.toArray from p2) (x := u1) (y := u2) (by simpa using hu1) (by simpa using hu2) fun h' q1 q2 q3 q4 q5 q6 _ kp=>⟨_,rfl,?_⟩
    refine wpAny_letOwnedTupleGo_zip (s := { s with heap := h' }) q1 fun h2 q7 r7=>?_
    have nd := st.nd
    have I1 : Inv X pins σ H { s with heap := h2 } := I.turnedL (t' := s.toks) (ch := [z,TO,i1,i2]) (fun c o hc e=>r7.extBut c o (fun q=>hc (by simp [q])) (kp c o hc e)) fun c hc=>hf c (sub c hc)
    have fr : H s.heap.objs.size = none := I.hok.fresh (Nat.le_refl _)
    have ne : ∀ c ∈ [z,TI,TO,i1,i2],c ≠ s.heap.objs.size := fun c hc q=>by have := lt c hc; rw [q] at this; exact Nat.lt_irrefl _ this
    have I2 := I1.trackT (D := s.heap.objs.size) (vs := [x,y]) (its := [u1,u2]) (I.fpOk (Nat.le_refl _) fr) (by show 2 ≤ sizeLine; rw [sizeLine_eq]; decide) (.cons ru1 (.cons ru2 .nil)) ⟨_,r7.extBut _ _ (Ne.symm (ne z (by simp))) q6,rfl,_,rfl⟩
    simp only [List.nodup_cons,List.mem_cons,List.not_mem_nil,or_false,not_or,List.nodup_nil,and_true,not_false_eq_true] at nd
    obtain ⟨⟨zTI,zTO,z1',z2'⟩,_⟩ := nd
    refine ⟨.ref s.heap.objs.size,_,I2,rfl,⟨_,xs,ys,x,y,ha,hb,hx,hy,fr,rfl,rfl⟩,⟨st.nd,q7,r7.extBut _ _ (Ne.symm zTI) q2,⟨_,_,r7.extBut _ _ (Ne.symm zTO) q3⟩,q4.extBut r7.extBut (Ne.symm z1'),q5.extBut r7.extBut (Ne.symm z2')⟩,fun c hc=>?_⟩
    rw [upd_ne (ne c hc)]
    exact (hf c hc).1
  done := by
    intro X hP hw hK hc i pins s σ H E I hf st hg
    subst hP hw hK
    obtain ⟨xs,ha,hx⟩ := hg
    obtain ⟨its1,rv1,p1,z1⟩ := I.tuple (SqT.of ha)
    have hl := rv1.length
    have sub : ∀ c ∈ [z,TO,i1,i2],c ∈ [z,TI,TO,i1,i2] := fun c hc=>by
      simp only [List.mem_cons,List.not_mem_nil,or_false] at hc ⊢
      rcases hc with h | h | h | h
      · exact .inl h
      · exact .inr (.inr (.inl h))
      · exact .inr (.inr (.inr (.inl h)))
      · exact .inr (.inr (.inr (.inr h)))
    have no : ∀ c u,H c = some u → c ∉ [z,TO,i1,i2] := fun c u e q=>by rw [(hf c (sub c q)).1] at e; cases e
    exact zipT_end (I.ok.hd hc) st (no a _ ha) (show s.heap.IsTuple a its1.toArray from p1) (by simp; omega) fun h' kp=>⟨rfl,I.turnedL (t' := s.toks) (ch := [z,TO,i1,i2]) kp fun c hc=>hf c (sub c hc)⟩
  self := fun _ _ _ _ _ st h=>wpAny_pyIter_zip st.zz h
theorem boot_zip' : bootBuiltins "zip" = some (.type "zip") := by decide +kernel
def iZip (ta : TA) : TI := fun σ H R=>ta σ H fun vs H1=>∃ a b xs ys,vs = [.ref a, .ref b] ∧ H1 a = some (.tup xs) ∧ H1 b = some (.tup ys) ∧ R (Itz a b) H1
theorem pi_zip {X : Cx} {e1 e2 : Expr} {ta : TA} {p pos pt : Pos} {elts : List Expr} {x1} (hg : Gl X "zip") (hm : X.mg "zip" = none) (ha : PA X [e1,e2] ta)
    (hs : starEach [e1,e2] X.env = [(false,eval e1 X.env),(false,eval e2 X.env)] := by rfl) (hs2 : starEach [e2] X.env = [(false,eval e2 X.env)] := by rfl) : PI X (.Tuple elts x1 pt) (.Call (.Name "zip" p) [e1,e2] [] pos) (iZip ta) := by
  intro pins s σ H R I h
  refine Call_ (ld_blt I hg hm boot_zip' (PyProof.Rows.callWith_type1 (thn (ha pos pins s σ H _ I h) fun us s1 ⟨vs,H1,I1,r1,q1⟩=>?_) (by rw [hs,hs2]) (by rw [hs2]; rfl)))
  obtain ⟨a,b,xs,ys,rfl,h1,h2,q⟩ := q1
  cases r1 with
  | cons r rr =>
    cases rr with
    | cons r' rr =>
      cases rr
      cases r
      cases r'
      obtain ⟨its1,rv1,p1,z1⟩ := I1.tuple (SqT.of h1)
      obtain ⟨its2,rv2,p2,z2⟩ := I1.tuple (SqT.of h2)
      refine call_zipT (show s1.heap.IsTuple a its1.toArray from p1) (show s1.heap.IsTuple b its2.toArray from p2) fun h' z TI TO i1 i2 l1 l2 l3 l4 l5 Z kp=>?_
      refine wpAny_pyIter_zip (s := { s1 with heap := h' }) Z.zz ?_
      refine ⟨z,[z,TI,TO,i1,i2],_,_,H1,rfl,I1.kept (t' := s1.toks) kp,turn_zip a b z TI TO i1 i2,Z,fun c hc=>?_,q⟩
      simp only [List.mem_cons,List.not_mem_nil,or_false] at hc
      rcases hc with rfl | rfl | rfl | rfl | rfl
      · exact I1.fpOk l1 (I1.hok.fresh l1)
      · exact I1.fpOk l2 (I1.hok.fresh l2)
      · exact I1.fpOk l3 (I1.hok.fresh l3)
      · exact I1.fpOk l4 (I1.hok.fresh l4)
      · exact I1.fpOk l5 (I1.hok.fresh l5)
end L2
set_option Elab.async false
set_option linter.all false
set_option maxRecDepth 100000
namespace L2
open PySem PySem.Spec PyProof.Rows
theorem ps_lcomp {X : Cx} {elt iter : Expr} {x y : Str} {px py pos pos0 : Pos} {ifs : List Expr} {scope : Scope} {frees : List Str} {idx : List Nat} {wi : TI} {tt : TT} {te : TE} {g : TG}
    (hc : X.calm = true) (S : CompScope X x frees idx scope) (hfl : ∀ y ∈ frees,scope.names.lookup y = some .free) (hi : PI X (.Name x px) iter wi) (hgy : PG X (.Name y py) g)
    (ht : ∀ C s₀ H₀ ex,PTs (cxComp X (x :: frees) scope C s₀ H₀ ex) ifs tt) (he : ∀ C s₀ H₀ ex,PE (cxComp X (x :: frees) scope C s₀ H₀ ex) elt te)
    (hsw : swapsWith (.ListComp elt [⟨.Name x px,iter,ifs,0⟩] scope pos) (some (.Name y py)) pos0.line X.env = pure true)
    (hs : ∀ v,foldedSetIterable iter X.env v = pure v := by intro _; rfl) : PS X (.Assign [.Name y py] (.ListComp elt [⟨.Name x px,iter,ifs,0⟩] scope pos) pos0) (tAsg (tComp idx wi tt te) g) := by
  intro pins s σ H D I h
  rw [exec_Assign_Name_used _ _ _ _ hsw]
  refine wpAny_bind (wpAny_standAt ?_)
  refine wpAny_bind ?_
  show wpAny _ _ (comprehension (.ListComp elt [⟨.Name x px,iter,ifs,0⟩] scope pos) scope X.env _ (newList []) _ _ (some (assign (.Name y py) X.env)) >>= fun _=>pure ()) _ _ s
  refine wpAny_bind (wpAny_mono (Q := fun _ s'=>∃ σ' H',Inv X pins σ' H' s' ∧ D.nx σ' H') ?_ (fun _ s' h'=>wpAny_pure (wpAny_pure h')) fun _ _ h'=>h')
  have hclos := closL_eq (scope := scope) (env := X.env) fun p hp hf=>I.ok.has p.1 (S.fr p hp hf)
  refine wpAny_comprehension_free (use := some (assign (.Name y py) X.env)) rfl hs hclos S.kind S.loc (thn (hi pins s σ H _ I h) fun v s1 h1=>thn h1 fun itv s2 h2=>?_)
  obtain ⟨it,fp,tn,J,H2,rfl,I2,T,st2,f2,W,⟨m0,w0⟩,turn⟩ := h2
  refine wpAny_newObj_type (wpAny_newFunctionEnv S.nocell (by intro y hy; simp at hy) (fun h₁ hns₁ hsb₁=>?_) S.kind)
  dsimp only at hns₁ hsb₁ ⊢
  generalize hH2 : s2.heap.push { cls := .type "list",dict := none,data := .seq ([] : List Value).toArray } = G2 at hns₁ hsb₁ ⊢
  have hCe : G2.objs.size = s2.heap.objs.size + 1 := by rw [← hH2,Heap.size_push]
  generalize hC : G2.objs.size = C at hns₁ hsb₁ hCe ⊢
  have hCle : s2.heap.objs.size ≤ C := by omega
  have hDC : s2.heap.objs.size ≠ C := by omega
  have below : ∀ b,b < s2.heap.objs.size → b ≠ C := fun b hb=>by omega
  have old : ∀ b o,s2.heap.get? b = some o → h₁.get? b = some o := fun b o e=>hsb₁.extBut b o (below b (Heap.lt_size e)) (Heap.get?_push_of_some _ (hH2 ▸ Heap.get?_push_of_some _ e))
  have hacc : ∃ k,h₁.get? s2.heap.objs.size = some { cls := .type "list",data := .seq ([] : List Value).toArray k } := ⟨_,hsb₁.extBut _ _ hDC (Heap.get?_push_of_some _ (hH2 ▸ Heap.get?_push_size _ rfl))⟩
  have look : ∀ y c,(closL X.env.cells scope.names []).lookup y = some c → X.env.cells.lookup y = some c := fun y c e=>by
    rcases closL_look _ _ y c e with q | q
    · exact q
    · cases q
  have fpD : ∀ b ∈ fp,b < s2.heap.objs.size := fun b hb=>by
    obtain ⟨o,e,_⟩ := T.obj _ _ st2 b hb
    exact Heap.lt_size e
  have ok' : (cxComp X (x :: frees) scope C s2 H2 fp).Ok := {
    mod := I2.ok.mod
    kind := S.kind
    glob := I2.ok.glob
    blt := I2.ok.blt
    above := hCle
    inj := fun y z c e1 e2=>I2.ok.inj y z c (look y c e1) (look z c e2)
    has := fun y hy=>by
      have q := relabel_free (scope := scope) (env := X.env) hy S.nocell
      exact closL_has _ _ y q (I2.ok.has y (S.fr _ q rfl))
    cab := fun y c hf=>by cases hf
    hd := I2.ok.hd
    frames := I2.ok.frames
    stk := .inl rfl
    exf := fun b hb=>⟨below b (fpD b hb),fun y c e=>(f2 b hb).2.2.2.2.1 y c (look y c e)⟩
    bs := I2.bs
    bsz := Nat.le_trans I2.ok.bsz I2.sz
    noex := fun b o e hb=>by
      rcases (f2 b hb).2.2.2.1 with z | z
      · exact I2.ok.noex b o e z
      · exact absurd (Nat.lt_of_lt_of_le (Heap.lt_size e) (Nat.le_trans I2.ok.bsz z)) (Nat.lt_irrefl _)
    exfs := fun b hb hf=>by
      rcases List.mem_cons.mp (I2.stkSub b hf) with z | z
      · exact (f2 b hb).2.1 z
      · exact (f2 b hb).2.2.1 z
    funs := I2.stack
    frf := I2.stkFree }
  have Dfs : s2.heap.objs.size ∉ frs X.stack := fun hb=>by
    rcases List.mem_cons.mp (I2.stkSub _ hb) with z | z
    · have q := I2.lt
      rw [← z] at q
      exact Nat.lt_irrefl _ q
    · exact I2.nofs (Nat.le_refl _) z
  have Dcell : ∀ y c,X.env.cells.lookup y = some c → c ≠ s2.heap.objs.size := fun y c e z=>by
    obtain ⟨v,q⟩ := I2.cell y c e
    have q' := q.lt
    rw [z] at q'
    exact Nat.lt_irrefl _ q'
  have Dpin : ∀ p ∈ X.pn ++ pins,p.1 ≠ s2.heap.objs.size := fun p hp z=>by
    have q' := Heap.lt_size (I2.pin p hp).1
    rw [z] at q'
    exact Nat.lt_irrefl _ q'
  have I3 : Inv (cxComp X (x :: frees) scope C s2 H2 fp) pins (none :: outs σ idx) H2 { s2 with heap := h₁,toks := s2.toks + ([] : List (Str × Value)).length } := {
    ok := ok'
    os := rfl
    bare := I2.bare
    base := Un.kept old
    loc := by
      refine ⟨_,hns₁,fun i y v e1 e2 e3=>?_⟩
      cases i with
      | zero=>cases e2
      | succ j =>
        have e1' : frees[j]? = some y := e1
        have e2' : (outs σ idx)[j]? = some (some v) := e2
        obtain ⟨k,hk,hN⟩ := S.ix j y e1'
        have hy : y ∈ frees := List.mem_of_getElem? e1'
        have e4 : σ[k]? = some (some v) := by
          unfold outs at e2'
          rw [List.getElem?_map,hk] at e2'
          have e5 : (σ[k]?).join = some v := Option.some.inj e2'
          cases q : σ[k]? with
          | none=>rw [q] at e5; cases e5
          | some o=>rw [q] at e5; exact congrArg some e5
        obtain ⟨m,hn,hl⟩ := I2.loc
        have kin := S.fr _ (S.cl y hy) rfl
        have vis : Vis X.env.scope y := by
          rcases kin with z | z
          · exact .inr (.inl z)
          · exact .inr (.inr z)
        obtain ⟨u,r,l⟩ := hl k y v hN e4 vis
        refine ⟨u,r, .inr ⟨lookup_relabel_free (env := X.env) (hfl y hy),?_⟩⟩
        rcases l with ⟨z,_⟩ | ⟨_,c,ec,ic⟩
        · rcases kin with z' | z'
          · have z'' : X.env.kindOf y = some .cell := z'
            rw [z] at z''; cases z''
          · have z'' : X.env.kindOf y = some .free := z'
            rw [z] at z''; cases z''
        · obtain ⟨c',ec'⟩ := closL_has (cells := X.env.cells) scope.names [] y (S.cl y hy) ⟨c,ec⟩
          have : c' = c := Option.some.inj ((look y c' ec').symm.trans ec)
          subst this
          obtain ⟨o,ho,hd⟩ := ic
          exact ⟨c',ec',o,old _ _ ho,hd⟩
    cell := fun y c e=>by
      obtain ⟨v,o,ho,hd⟩ := I2.cell y c (look y c e)
      exact ⟨v,o,old _ _ ho,hd⟩
    free := I2.hok.fresh hCle
    freeC := fun y c e=>I2.freeC y c (look y c e)
    pin := fun p hp=>by
      obtain ⟨e,n,ne,nf,d⟩ := I2.pin p hp
      refine ⟨old _ _ e,n,below _ (Heap.lt_size e),fun hb=>?_,d⟩
      rcases List.mem_cons.mp (I2.stkSub _ hb) with z | z
      · exact ne z
      · exact nf z
    hok := I2.hok.kept old
    len := by simp [cxComp,outs,S.len] }
  have fok : ∀ {pp : List (Addr × Obj)} {H' : Hp},(∀ b ∈ fp,H' b = none) → (∀ p ∈ pp,p.1 = s2.heap.objs.size) → ∀ b ∈ fp,FpOk (cxComp X (x :: frees) scope C s2 H2 fp) (pins ++ pp) H' b := fun {pp H'} hn hp b hb=>by
    obtain ⟨_,f1,f2',f3,f4,f5⟩ := f2 b hb
    refine ⟨hn b hb,below b (fpD b hb),fun hf=>?_, .inl hb,fun y c e=>f4 y c (look y c e),fun p hpp z=>?_⟩
    · rcases List.mem_cons.mp (I2.stkSub b hf) with z | z
      · exact f1 z
      · exact f2' z
    · have hpp' : p ∈ X.pn ++ (pins ++ pp) := hpp
      rw [← List.append_assoc] at hpp'
      rcases List.mem_append.mp hpp' with q | q
      · exact f5 p q z
      · have q' := fpD b hb
        rw [← z,hp p q] at q'
        exact Nat.lt_irrefl _ q'
  have loop : ∀ s3 : Shared,s3 = { s2 with heap := h₁,toks := s2.toks + ([] : List (Str × Value)).length } →
      codeAny (model X.prog X.w) X.A (.compLoop (.ListComp elt [⟨.Name x px,iter,ifs,0⟩] scope pos) 0 (.ref it) (.ref s2.heap.objs.size) (compEnvC scope (closL X.env.cells scope.names []) C X.env))
        (compPost (model X.prog X.w) X.A X.xe (some (assign (.Name y py) X.env)) (fun _ s'=>∃ σ' H',Inv X pins σ' H' s' ∧ D.nx σ' H') (.ref s2.heap.objs.size) C) s3 := by
    rintro s3 rfl
    obtain ⟨k0,hacc⟩ := hacc
    refine compLoop_go (fun n s'=>∃ i o vs H' its k,Inv (cxComp X (x :: frees) scope C s2 H2 fp) pins (o :: outs σ idx) H' s' ∧ tn i s'.heap ∧ (∀ b ∈ fp,H' b = none) ∧ H' s2.heap.objs.size = none ∧
      s'.heap.get? s2.heap.objs.size = some { cls := .type "list",data := .seq its.toArray k } ∧ Vals vs its ∧ W i n vs H') ?_ m0
      ⟨0,none,[],H2,[],k0,I3,T.keep _ _ _ st2 fun b _ o e=>old b o e,fun b hb=>(f2 b hb).1,I2.hok.fresh (Nat.le_refl _),hacc, .nil,w0⟩
    rintro n s' ⟨i,o,vs,H',its,k,I',st',fr',hD',hg',hv',w'⟩
    obtain ⟨hlen,alt⟩ := turn i n vs H' w'
    have IP : Inv (cxComp X (x :: frees) scope C s2 H2 fp) (pins ++ [(s2.heap.objs.size,{ cls := .type "list",data := .seq its.toArray k })]) (o :: outs σ idx) H' s' :=
      I'.pins_of fun p hp=>(List.mem_append.mp hp).elim (fun z=>I'.pin p (List.mem_append_right _ z)) fun z=>by
        have z' : p = (s2.heap.objs.size,{ cls := .type "list",data := .seq its.toArray k }) := by simpa using z
        subst z'
        exact ⟨hg',hD',hDC,Dfs,fun v q=>by cases q⟩
    have FP := fok (pp := [(s2.heap.objs.size,{ cls := .type "list",data := .seq its.toArray k })]) fr' (fun p hp=>by
      have z' : p = (s2.heap.objs.size,{ cls := .type "list",data := .seq its.toArray k }) := by simpa using hp
      rw [z'])
    rcases alt with ⟨stop,qn⟩ | ⟨go,step⟩
    · refine thn (T.done (cxComp X (x :: frees) scope C s2 H2 fp) rfl rfl rfl hc i _ s' _ H' (fun _ _=>False) IP FP st' stop) fun r s4 ⟨hr,I4⟩=>?_
      subst hr
      obtain ⟨m4,hn4,_⟩ := id I4.loc
      show wpAny _ _ (assign (.Name y py) X.env (.ref s2.heap.objs.size)) _ _ s4
      obtain ⟨h',hh'⟩ : ∃ h',h' = s4.heap := ⟨_,rfl⟩
      have hsb : Heap.SameBut C s4.heap h' := by rw [hh']; exact ⟨rfl,fun _ _=>rfl⟩
      have gD : s4.heap.get? s2.heap.objs.size = some { cls := .type "list",data := .seq its.toArray k } := (I4.pin (s2.heap.objs.size,_) (List.mem_append_right _ (List.mem_append_right _ (List.mem_singleton.mpr rfl)))).1
      have hx : ∀ b o,b ≠ C → s4.heap.get? b = some o → h'.get? b = some o := fun b o hb e=>(hsb.2 b hb).trans e
      have J1 : Inv X pins σ H' { s4 with heap := h' } := by
        refine I2.call' (ch := fp) I4.os ⟨fun b o e n hb hx'=>?_,fun b o e n hb hx'=>?_,I4.base.free,fun b o e hx'=>?_,I4.base.tups,I4.base.frzs,I4.base.tbls⟩ (fun b u e=>?_) I4.bare fun b hb=>?_
        · exact hx b o (below b (Heap.lt_size e)) (I4.base.keep b o e n hb hx')
        · obtain ⟨sl,q⟩ := I4.base.slot b o e n hb hx'
          exact ⟨sl,hx b _ (below b (Heap.lt_size e)) q⟩
        · obtain ⟨o',q⟩ := I4.base.there b o e hx'
          exact ⟨o',hx b _ (below b (Heap.lt_size e)) q⟩
        · refine (I4.hok b u e).stay (fun c v hcc q=>hx c v ?_ q) (fun _ q=>q) fun _ _ q=>q
          rintro rfl
          rcases hcc with z | z
          · rw [← z] at e
            have := I4.free
            rw [show H' c = none from this] at e; cases e
          · have := I4.free
            rw [show H' c = none from this] at z; cases z
        · obtain ⟨_,f1,f2',f3,f4,f5⟩ := f2 b hb
          exact ⟨f3,f1,f4,f5⟩
      have I5 := J1.track hD' (Nat.le_of_lt hlen) hv' (hx _ _ hDC gD) (.inr I2.sz) (fun z=>by have q := I2.lt; rw [← z] at q; exact Nat.lt_irrefl _ q) Dcell Dpin
      have e4 : ({ s4 with heap := h' } : Shared) = s4 := by rw [hh']
      rw [e4] at I5
      have HC : H' C = none := I4.free
      obtain ⟨oC,es,ep,gC,rC⟩ := id hn4
      have nC : C ≠ X.env.locals := fun z=>by have q := I2.lt; rw [← z] at q; exact Nat.lt_irrefl _ (Nat.lt_of_lt_of_le q hCle)
      have uC : (upd H' s2.heap.objs.size (.lst vs)) C = none := by rw [upd_ne (Ne.symm hDC)]; exact HC
      have IPn : Inv X (pins ++ [(C,oC)]) σ (upd H' s2.heap.objs.size (.lst vs)) s4 := I5.pins_of fun p hp=>(List.mem_append.mp hp).elim (fun z=>I5.pin p (List.mem_append_right _ z)) fun z=>by
        have z' : p = (C,oC) := by simpa using z
        subst z'
        exact ⟨gC,uC,nC,I2.nofs hCle,fun v q=>by have q2 : oC.data = .cell v := q; have q3 := rC.1; rw [q2] at q3; cases q3⟩
      refine thn (hgy _ s4 σ _ (.ref s2.heap.objs.size) _ _ IPn rfl (qn _ hD')) fun _ s6 ⟨σ6,H6,I6,q6⟩=>?_
      have pC := I6.pin (C,oC) (List.mem_append_right _ (List.mem_append_right _ (List.mem_singleton.mpr rfl)))
      refine ⟨m4,hn4.at' (fun o e=>by rw [gC] at e; cases e; exact pC.1),fun h'' sb=>⟨σ6,H6,?_,q6⟩⟩
      exact I6.unpinned.turned (t' := s6.toks) (fun b o hb e=>(sb.2 b hb).trans e) pC.2.1 nC (.inr (Nat.le_trans I2.sz hCle)) (fun z c e zz=>by
        obtain ⟨v,q⟩ := I2.cell z c e
        have q' := q.lt
        rw [zz] at q'
        exact Nat.lt_irrefl _ (Nat.lt_of_lt_of_le q' hCle)) (fun p hp zz=>by
        have q' := Heap.lt_size (I2.pin p hp).1
        rw [zz] at q'
        exact Nat.lt_irrefl _ (Nat.lt_of_lt_of_le q' hCle))
    · refine thn (T.item (cxComp X (x :: frees) scope C s2 H2 fp) rfl rfl rfl hc i _ s' _ H' (fun _ _=>False) IP FP st' go) fun r s4 ⟨u,hr,h4⟩=>?_
      subst hr
      refine thn h4 fun _ s5 ⟨xv,H5,I5,r5,y5,st5,fr5⟩=>?_
      have I5' := I5.pinned (fok (pp := [(s2.heap.objs.size,{ cls := .type "list",data := .seq its.toArray k })]) fr5 (fun p hp=>by
        have z' : p = (s2.heap.objs.size,{ cls := .type "list",data := .seq its.toArray k }) := by simpa using hp
        rw [z'])) (T.obj _ _ st5)
      refine wpAny_assign_Name (store_ok (i := 0) (X := cxComp X (x :: frees) scope C s2 H2 fp) I5' S.nd rfl (.inl (lookup_relabel_local S.tgt)) r5 (fun s6 I6=>?_) (.inr (lookup_relabel_local S.tgt)))
      have q6 := step xv H5 y5
      refine thn (ht C s2 H2 fp _ s6 _ H5 _ I6 q6) fun b s7 ⟨H7,I7,q7⟩=>?_
      have keepT : ∀ {s8 : Shared} {σ8 : St} {H8 : Hp},Inv (cxComp X (x :: frees) scope C s2 H2 fp) ((pins ++ [(s2.heap.objs.size,{ cls := .type "list",data := .seq its.toArray k })]) ++ pinsAt fp s5.heap) σ8 H8 s8 →
          tn (i + 1) s8.heap ∧ (∀ b ∈ fp,H8 b = none) ∧ H8 s2.heap.objs.size = none ∧ s8.heap.get? s2.heap.objs.size = some { cls := .type "list",data := .seq its.toArray k } := fun {s8 σ8 H8} I8=>by
        refine ⟨T.keep _ _ _ st5 fun b hb o e=>(I8.pin (b,o) (List.mem_append_right _ (List.mem_append_right _ (mem_pinsAt hb e)))).1,fun b hb=>?_,?_,?_⟩
        · obtain ⟨o,e,d⟩ := T.obj _ _ st5 b hb
          exact (I8.pin (b,o) (List.mem_append_right _ (List.mem_append_right _ (mem_pinsAt hb e)))).2.1
        · exact (I8.pin (s2.heap.objs.size,_) (List.mem_append_right _ (List.mem_append_left _ (List.mem_append_right _ (List.mem_singleton.mpr rfl))))).2.1
        · exact (I8.pin (s2.heap.objs.size,_) (List.mem_append_right _ (List.mem_append_left _ (List.mem_append_right _ (List.mem_singleton.mpr rfl))))).1
      cases b with
      | false =>
        rw [if_neg Bool.false_ne_true] at q7 ⊢
        obtain ⟨m',hm,w7⟩ := q7
        obtain ⟨a1,a2,a3,a4⟩ := keepT I7
        exact ⟨m',hm,i + 1,some xv,vs,H7,its,k,I7.unpinned.unpinned,a1,a2,a3,a4,hv',w7⟩
      | true =>
        rw [if_pos rfl] at q7 ⊢
        refine thn (he C s2 H2 fp _ s7 _ H7 _ I7 q7) fun u8 s8 ⟨v8,H8,I8,r8,m',hm,w8⟩=>?_
        obtain ⟨a1,a2,a3,a4⟩ := keepT I8
        refine wpAny_list_append_plain (items := its.toArray) ⟨k,a4⟩ (fun h9 pl sb=>?_) (by rw [List.size_toArray,← hv'.length]; exact Nat.le_of_lt hlen)
        obtain ⟨k9,e9⟩ := pl
        have ne : ∀ b ∈ fp,b ≠ s2.heap.objs.size := fun b hb=>Nat.ne_of_lt (fpD b hb)
        have I9 : Inv (cxComp X (x :: frees) scope C s2 H2 fp) pins (some xv :: outs σ idx) H8 { s8 with heap := h9 } :=
          I8.unpinned.unpinned.turned (t' := s8.toks) (fun b o hb e=>(sb.2 b hb).trans e) a3 hDC (.inr (Nat.le_refl _)) (fun y c e=>Dcell y c (look y c e)) Dpin
        refine ⟨m',hm,i + 1,some xv,vs ++ [v8],H8,its ++ [u8],k9,I9,T.keep _ _ _ a1 fun b hb o e=>(sb.2 b (ne b hb)).trans e,a2,a3,?_,hv'.snoc r8,w8⟩
        rw [List.push_toArray] at e9
        exact e9
  exact codeAny_compStart_list (loop _ rfl) (T.self _ 0 _ _ _ (T.keep _ _ _ st2 fun b _ o e=>old b o e) (loop _ rfl))
theorem ps_lc {X : Cx} {elt iter : Expr} {x y : Str} {px py pos pos0 : Pos} {ifs : List Expr} {scope : Scope} {wi : TI} {tt : TT} {te : TE} {g : TG} (osc : Scope) (N : List Str) (frees : List Str) (idx : List Nat)
    (hk : compOk osc N x frees idx scope = true) (hi : PI X (.Name x px) iter wi) (hgy : PG X (.Name y py) g)
    (ht : ∀ C s₀ H₀ ex,PTs (cxComp X (x :: frees) scope C s₀ H₀ ex) ifs tt) (he : ∀ C s₀ H₀ ex,PE (cxComp X (x :: frees) scope C s₀ H₀ ex) elt te)
    (hsw : swapsWith (.ListComp elt [⟨.Name x px,iter,ifs,0⟩] scope pos) (some (.Name y py)) pos0.line X.env = pure true)
    (ho : X.env.scope = osc := by rfl) (hN : X.N = N := by rfl) (hc : X.calm = true := by rfl) (hs : ∀ v,foldedSetIterable iter X.env v = pure v := by intro _; rfl) :
    PS X (.Assign [.Name y py] (.ListComp elt [⟨.Name x px,iter,ifs,0⟩] scope pos) pos0) (tAsg (tComp idx wi tt te) g) := by
  obtain ⟨S,fl⟩ := compOk_scope (X := X) hk ho hN
  exact ps_lcomp hc S fl hi hgy ht he hsw hs
end L2
set_option Elab.async false
set_option linter.all false
set_option maxRecDepth 100000
namespace Fw
open PySem PySem.Spec PyProof.Rows L2
theorem comp_zip {H : Hp} {n : Nat} {a b : Addr} {xs ys : List V} {g : TG} {tt : TT} {te : TE} {σ' : L2.St} {Q : VK} (hlen : xs.length = ys.length) (Pv : Nat → List V → Hp → Prop) (h0 : Pv 0 [] H)
    (hl : ∀ i vs H,i ≤ xs.length → Pv i vs H → H a = some (.tup xs) ∧ H b = some (.tup ys) ∧ vs.length < sizeLine)
    (hs : ∀ i x y (T : Addr) vs H2 (τ : L2.St),τ.length = n → i < xs.length → xs[i]? = some x → ys[i]? = some y → H2 T = none → Pv i vs H2 → g (.ref T) (τ ++ σ') (upd H2 T (.tup [x,y])) fun σ1 H3=>(∃ τ' : L2.St,σ1 = τ' ++ σ' ∧ τ'.length = n) ∧ tt σ1 H3 fun b H4=>if b = true then te σ1 H4 fun v H5=>Nx xs.length i (Pv (i + 1) (vs ++ [v]) H5) else Nx xs.length i (Pv (i + 1) vs H4))
    (hd : ∀ vs H2,Pv xs.length vs H2 → ∀ l,H2 l = none → Q (.ref l) (upd H2 l (.lst vs))) : CompWM n (Itz a b) g tt te σ' Q H := by
  refine ⟨fun i m vs H=>m = xs.length - i ∧ i ≤ xs.length ∧ Pv i vs H,⟨xs.length,by simp,Nat.zero_le _,h0⟩,?_⟩
  rintro i m vs H2 ⟨rfl,hi,p⟩
  obtain ⟨q1,q2,q3⟩ := hl i vs H2 hi p
  refine ⟨q3,?_⟩
  by_cases hlt : i < xs.length
  · refine .inr ⟨⟨xs,ys,xs[i],ys[i],q1,q2,by simp [hlt],by simp [← hlen,hlt]⟩,?_⟩
    rintro τ v H3 lτ ⟨T,xs',ys',x,y,e1,e2,hx,hy,hT,rfl,rfl⟩
    rw [q1] at e1
    rw [q2] at e2
    cases e1
    cases e2
    exact hs i x y T vs _ τ lτ hlt hx hy hT p
  · have e : i = xs.length := by omega
    subst e
    exact .inl ⟨⟨xs,q1,Nat.le_refl _⟩,hd vs H2 p⟩
def spSame (n : Nat) : Sp := fun vs H Q _=>∃ (v1 v2 : V) (t : T),vs = [v1,v2] ∧ Rep H v1 t ∧ Rep H v2 t ∧ KD n t ∧ ∀ H',Same H H' → Q (.bl true) H'
def spSameN : Nat → Sp
  | 0=>fun _ _ _ _=>False
  | n + 1=>spSame n
section
variable {P : Program} {w : World} {K : PySem.W.Frag} {mg : Str → Option Value} {base : Heap} {f : Addr} {fd : FuncData}
abbrev s_same : Stmt := top 23
theorem sc_same : FnScope ["_law_one","_law_due"] ["_law_one","_law_due"] (defScope s_same) := ⟨rfl,rfl,rfl,by decide +kernel,rfl,by decide +kernel,by decide +kernel⟩
theorem comp_nd2 : ((["_law_part","_law_other"] : List Str) ++ ([] : List Str)).Nodup := by decide +kernel
set_option maxHeartbeats 1000000 in
theorem ok_same {n : Nat} (F : Fun K "_law_same" "_law_same" s_same f fd) (mi : mg "isinstance" = none) (mt : mg "tuple" = none) (ms : mg "str" = none) (ml : mg "len" = none) (ma : mg "all" = none) (mz : mg "zip" = none)
    (h2 : Has P w K mg base n "_law_same" ["_law_one","_law_due"] (spSameN n)) : FnOk P w K mg base CX0 (n + 1) f fd ["_law_one","_law_due"] (spSame n) := by
  refine F.ok sc_same (fun vs H Q E h=>?_) (fun cdv A outer s H vs Q E hr h=>?_)
  · obtain ⟨v1,v2,t,rfl,_⟩ := h
    rfl
  obtain ⟨v1,v2,t,rfl,r1,r2,kt,q⟩ := h
  refine ⟨_,pss_cons (ps_if (pt_val (pe_callB call_isi rfl mi boot_isinstance (pa_cons (pv 1) (pa_cons (pe_bltn (v := .ty "tuple") rfl mt boot_tuple rfl) pa_nil))))
      (pss_cons (ps_if (PW.pt (pw_or (pt_not (pt_val (pe_callB call_isi rfl mi boot_isinstance (pa_cons (pv 0) (pa_cons (pe_bltn (v := .ty "tuple") rfl mt boot_tuple rfl) pa_nil)))))
          (pw_or1 (pt_cmpR op_ne (pe_callB call_len_seq rfl ml PySem.boot_len (pa_cons (pv 0) pa_nil)) (pe_callB call_len_seq rfl ml PySem.boot_len (pa_cons (pv 1) pa_nil)) (nomark _))))) (pss_one (ps_ret pe_bl)) pss_nil)
      (pss_one (ps_ret (pe_callB (call_all rfl) rfl ma boot_all (pa_cons
        (pe_lcM (g := gTup K 2 (gCons (gName 0) (gCons (gName 1) gNil))) (defScope s_same) ["_law_one","_law_due"] ["_law_part","_law_other"] [] [] (by decide +kernel) (pi_zip rfl mz (pa_cons (pv 0) (pa_cons (pv 1) pa_nil)))
          (fun C s₀ H₀ ex=>pg_tup (n := 2) rfl (pgs_cons (pg_name (i := 0) comp_nd2 rfl (Or.inl rfl) (Or.inr rfl)) (pgs_cons (pg_name (i := 1) comp_nd2 rfl (Or.inl rfl) (Or.inr rfl)) pgs_nil)))
          (fun C s₀ H₀ ex=>pts_nil) (fun C s₀ H₀ ex=>pcall h2 hr (Nat.le_refl _) rfl (pa_cons (pv 0) (pa_cons (pv 1) pa_nil)))) pa_nil))))) pss_nil)
    (pss_one (ps_ret (pe_and (pe_callB call_isi rfl mi boot_isinstance (pa_cons (pv 0) (pa_cons (pe_bltn (v := .ty "str") rfl ms boot_str rfl) pa_nil))) (pe_one (pe_cmpR op_eq (pv 0) (pv 1) (nomark _)))))),?_⟩
  refine ⟨_,rfl,_,_,_,_,rfl,rep_ty r2,kit_tup K t,_,rfl,?_⟩
  cases kt with
  | @leaf _ z hz =>
    refine iteF ?_
    cases r1
    cases r2
    refine ⟨_,rfl,_,_,_,_,rfl, .str z,kit_str K (.str z),_,rfl,iteT ⟨_,rfl,_,rfl,rfl,?_⟩⟩
    rw [decide_eq_true rfl]
    exact q _ (Same.refl _)
  | @tup j z ks nz k1 k3 hk =>
    refine iteT ?_
    cases r1 with
    | @tup a xs _ ha ra =>
      cases r2 with
      | @tup b ys _ hb rb =>
        have lx := ra.length
        have ly := rb.length
        refine ⟨_,rfl,_,_,_,_,rfl, .tup ha,kit_tup K (.tup []),_,rfl,iteF ?_⟩
        refine ⟨_,rfl,a,xs,rfl, .inr (SqT.of ha),_,rfl,b,ys,rfl, .inr (SqT.of hb),rfl,_,rfl,?_⟩
        rw [show xs.length = ys.length by omega,decide_eq_true rfl]
        refine iteF ?_
        refine ⟨_,rfl,_,rfl,a,b,xs,ys,rfl,ha,hb,comp_zip (xs := xs) (ys := ys) (by omega) (fun i ws H'=>Same H H' ∧ ws = List.replicate i (V.bl true)) ⟨Same.refl _,rfl⟩ ?_ ?_ ?_⟩
        · rintro i ws H' hi ⟨e,rfl⟩
          exact ⟨e _ _ ha,e _ _ hb,small' (by rw [List.length_replicate]; simp at lx; omega)⟩
        · rintro i x y T0 ws H' τ lτ hi hx hy hT ⟨e,rfl⟩
          obtain ⟨t1,ht1,rx⟩ := ra.at2 hx
          obtain ⟨t2,ht2,ry⟩ := rb.at2 hy
          rw [ht1] at ht2
          cases ht2
          have kt1 : KD j t1 := by
            have hm : t1 ∈ (T.str z :: ks) := List.mem_of_getElem? ht1
            rcases List.mem_cons.mp hm with h | h
            · rw [h]; exact .leaf (by have := nz.2; omega)
            · exact hk t1 h
          have eT := same_new hT (.tup [x,y])
          match τ,lτ with
          | [o1,o2],_ =>
            refine ⟨T0,[x,y],rfl,SqT.of upd_same,rfl,x,[y],rfl,y,[],rfl,rfl,⟨[some x,some y],rfl,rfl⟩,?_⟩
            have eA := e.trans eT
            refine tt1 (iteT ⟨_,rfl,_,rfl,x,y,t1,rfl,rx.same eA,ry.same eA,kt1,fun H5 e5=>nx hi ⟨eA.trans e5,?_⟩⟩)
            rw [List.replicate_succ']
        · rintro ws H' ⟨e,rfl⟩ l hl
          refine ⟨l,List.replicate xs.length true,rfl,?_,?_⟩
          · rw [List.map_replicate]
            exact SqL.of upd_same
          · have : (List.replicate xs.length true).all id = true := by
              rw [List.all_eq_true]
              intro b hb
              rw [(List.mem_replicate.mp hb).2]
              rfl
            rw [this]
            exact q _ (e.trans (same_new hl _))
theorem same_all (F : Fun K "_law_same" "_law_same" s_same f fd) (bF : Binds K fd ["_law_one","_law_due"] []) (mF : mg "_law_same" = some (.ref f)) (mi : mg "isinstance" = none) (mt : mg "tuple" = none) (ms : mg "str" = none) (ml : mg "len" = none) (ma : mg "all" = none) (mz : mg "zip" = none) :
    ∀ n : Nat,Has P w K mg base n "_law_same" ["_law_one","_law_due"] (spSameN n)
  | 0=>⟨f,fd,⟨fun vs H Q E h=>h.elim,fun A outer s H args us vs Q E _ _ _ _ h=>h.elim⟩,bF,F.kp,mF⟩
  | n + 1=>⟨f,fd,ok_same F mi mt ms ml ma mz (same_all F bF mF mi mt ms ml ma mz n),bF,F.kp,mF⟩
end
end Fw
set_option Elab.async false
set_option linter.all false
set_option maxRecDepth 100000
namespace Fw
open PySem PySem.Spec PyProof.Rows L2
def kidsT : T → List T
  | .tup l=>l.tail
  | _=>[]
theorem pre_kids : ∀ t : T,pre t = t :: pres (kidsT t)
  | .int i=>rfl
  | .str z=>rfl
  | .tup []=>rfl
  | .tup (_ :: _)=>rfl
def stepS : List T → List T
  | []=>[]
  | p :: r=>kidsT p ++ r
theorem pres_step (S : List T) : pres (stepS S) = (pres S).tail := by
  cases S with
  | nil=>rfl
  | cons p r =>
    show pres (kidsT p ++ r) = (pre p ++ pres r).tail
    rw [pre_kids p,pres_app]
    rfl
def stk (t : T) : Nat → List T
  | 0=>[t]
  | i + 1=>stepS (stk t i)
theorem pres_stk (t : T) : ∀ i,pres (stk t i) = (pre t).drop i
  | 0=>by show pre t ++ [] = _; rw [List.append_nil]; rfl
  | i + 1=>by
    show pres (stepS (stk t i)) = _
    rw [pres_step,pres_stk t i,List.tail_drop]
theorem len_pres : ∀ S : List T,S.length ≤ (pres S).length
  | []=>Nat.le_refl _
  | p :: r=>by
    show r.length + 1 ≤ (pre p ++ pres r).length
    rw [pre_kids p,List.length_append]
    have := len_pres r
    simp only [List.length_cons]
    omega
theorem stk_at {t p : T} {i : Nat} (h : (pre t)[i]? = some p) : ∃ r,stk t i = p :: r := by
  have hp := pres_stk t i
  have hi : i < (pre t).length := (List.getElem?_eq_some_iff.mp h).1
  rw [List.drop_eq_getElem_cons hi] at hp
  have hg : (pre t)[i] = p := (List.getElem?_eq_some_iff.mp h).2
  rw [hg] at hp
  cases hs : stk t i with
  | nil=>rw [hs] at hp; cases hp
  | cons q r =>
    rw [hs] at hp
    have hp' : pre q ++ pres r = p :: _ := hp
    rw [pre_kids q] at hp'
    have e : q = p := by simpa using (List.cons.inj hp').1
    exact ⟨r,by rw [e]⟩
theorem stk_end (t : T) : stk t (pre t).length = [] := by
  have hp := pres_stk t (pre t).length
  rw [List.drop_eq_nil_of_le (Nat.le_refl _)] at hp
  have := len_pres (stk t (pre t).length)
  rw [hp] at this
  exact List.length_eq_zero_iff.mp (by simpa using this)
theorem stk_len (t : T) (i : Nat) : (stk t i).length ≤ (pre t).length := by
  have := len_pres (stk t i)
  rw [pres_stk,List.length_drop] at this
  omega
theorem mem_pres : ∀ {S : List T} {p : T},p ∈ pres S → ∃ k ∈ S,p ∈ pre k
  | [],_,h=>by cases h
  | q :: r,p,h=>by
    rcases List.mem_append.mp (show p ∈ pre q ++ pres r from h) with h | h
    · exact ⟨q,List.mem_cons_self,h⟩
    · obtain ⟨k,hk,hp⟩ := mem_pres h
      exact ⟨k,List.mem_cons_of_mem _ hk,hp⟩
theorem kd_pre {n : Nat} {t : T} (h : KD n t) : ∀ p ∈ pre t,∃ n,KD n p := by
  induction h with
  | @leaf n z hz =>
    intro p hp
    have : p = .str z := by simpa [pre] using hp
    rw [this]
    exact ⟨0, .leaf hz⟩
  | @tup n z ks nz k1 k3 hk ih =>
    intro p hp
    rcases List.mem_cons.mp (show p ∈ T.tup (.str z :: ks) :: pres ks from hp) with h | h
    · rw [h]
      exact ⟨n + 1, .tup nz k1 k3 hk⟩
    · obtain ⟨k,hk',hp'⟩ := mem_pres h
      exact ih k hk' p hp'
mutual
theorem fill_nil : ∀ t : T,fillT [] t = t
  | .int i=>rfl
  | .str z=>rfl
  | .tup []=>rfl
  | .tup (h :: r)=>by show T.tup (h :: fills [] r) = _; rw [fills_nil r]
theorem fills_nil : ∀ l : List T,fills [] l = l
  | []=>rfl
  | t :: r=>by show fillT [] t :: fills [] r = _; rw [fill_nil t,fills_nil r]
end
theorem Reps.split {H : Hp} : ∀ {a b : List T} {vs : List V},Reps H vs (a ++ b) → ∃ va vb,vs = va ++ vb ∧ Reps H va a ∧ Reps H vb b
  | [],b,vs,h=>⟨[],vs,rfl, .nil,h⟩
  | t :: a,b,_, .cons r q=>by
    obtain ⟨va,vb,e,h1,h2⟩ := q.split
    exact ⟨_ :: va,vb,by rw [e]; rfl, .cons r h1,h2⟩
end Fw
set_option Elab.async false
set_option linter.all false
set_option maxRecDepth 100000
namespace L2
open PySem PySem.Spec PyProof.Rows
def objO (a : Addr) (o : Obj) : HO := .ext fun h=>h.get? a = some o
def del (H : Hp) (c : Addr) : Hp := fun b=>if b = c then none else H b
section
variable {P : Program} {w : World} {H H' : Hp} {h h' : Heap} {a b c : Addr} {o : Obj}
theorem del_same : del H c c = none := if_pos rfl
theorem del_ne (n : b ≠ c) : del H c b = H b := if_neg n
theorem del_none (e : H b = none) : del H c b = none := by
  by_cases hb : b = c
  · rw [hb]; exact del_same
  · rw [del_ne hb]; exact e
theorem objO_ok (e : h.get? a = some o) : ObjOk P w H h a (objO a o) := ⟨e,⟨o,e⟩,fun h1 h2 q k=>k o q⟩
theorem objO_at (ok : HOk P w H h) (q : H a = some (objO a o)) : h.get? a = some o := (ok a _ q).1
theorem objO_own {y : Addr} (e : H c = some (objO c o)) (q : H b = some (.own y)) : b ≠ c := fun z=>by
  rw [z,e] at q
  have q' : some (HO.ext _) = some (HO.own y) := q
  cases q'
theorem objO_tup {xs : List V} (e : H c = some (objO c o)) (q : H b = some (.tup xs)) : b ≠ c := fun z=>by
  rw [z,e] at q
  have q' : some (HO.ext _) = some (HO.tup xs) := q
  cases q'
theorem objO_frz {ob : Obj} {x : HO} (e : H c = some (objO c o)) (q : H b = some (.frz ob x)) : b ≠ c := fun z=>by
  rw [z,e] at q
  have q' : some (HO.ext _) = some (HO.frz ob x) := q
  cases q'
theorem objO_tbl {ps : Array Value} (e : H c = some (objO c o)) (q : H b = some (.tbl ps)) : b ≠ c := fun z=>by
  rw [z,e] at q
  have q' : some (HO.ext _) = some (HO.tbl ps) := q
  cases q'
theorem HOk.del (ok : HOk P w H h) (e : H c = some (objO c o)) : HOk P w (L2.del H c) h := fun b u q=>by
  by_cases hb : b = c
  · rw [hb,del_same] at q; cases q
  · rw [del_ne hb] at q
    exact (ok b u q).stay (fun _ _ _ e=>e) (fun d r=>by rw [del_ne (objO_own e r)]; exact r) fun d xs r=>by rw [del_ne (objO_tup e r)]; exact r
theorem HOk.obj (ok : HOk P w H h) (n : H c = none) (e : h.get? c = some o) : HOk P w (upd H c (objO c o)) h := fun b u q=>by
  by_cases hb : b = c
  · subst hb; rw [upd_same] at q; cases q; exact objO_ok e
  · rw [upd_ne hb] at q
    exact (ok b u q).stay (fun _ _ _ e=>e) (fun d r=>by rw [upd_ne (ne_of_none r n)]; exact r) fun d xs r=>by rw [upd_ne (ne_of_none r n)]; exact r
theorem Un.lent {fs : List Addr} {H1 : Hp} (un : Un fs [] (upd H c (objO c o)) H1 h h') (n : H c = none) (e : h.get? c = some o) (e' : H1 c = some (objO c o)) (k : h'.get? c = some o) : Un fs [] H (L2.del H1 c) h h' where
  keep := fun b ob q m hb hx=>by
    by_cases z : b = c
    · subst z; rw [e] at q; cases q; exact k
    · exact un.keep b ob q (by rw [upd_ne z]; exact m) hb hx
  slot := fun b ob q m hb hx=>by
    by_cases z : b = c
    · subst z; rw [e] at q; cases q; exact ⟨o.slots,k⟩
    · exact un.slot b ob q (by rw [upd_ne z]; exact m) hb hx
  free := fun b ob q m hx=>by
    by_cases z : b = c
    · rw [z]; exact del_same
    · rw [del_ne z]; exact un.free b ob q (by rw [upd_ne z]; exact m) hx
  there := fun b ob q hx=>un.there b ob q hx
  tups := fun b xs q=>by
    have z := ne_of_none q n
    rw [del_ne z]; exact un.tups b xs (by rw [upd_ne z]; exact q)
  frzs := fun b ob u q=>by
    have z := ne_of_none q n
    rw [del_ne z]; exact un.frzs b ob u (by rw [upd_ne z]; exact q)
  tbls := fun b ps q=>by
    have z := ne_of_none q n
    rw [del_ne z]; exact un.tbls b ps (by rw [upd_ne z]; exact q)
theorem Un.back {fs : List Addr} {H1 : Hp} (un : Un fs [] (L2.del H c) H1 h h') (e : H c = some (objO c o)) : Un fs [] H (upd H1 c (objO c o)) h h' where
  keep := fun b ob q m hb hx=>un.keep b ob q (del_none m) hb hx
  slot := fun b ob q m hb hx=>un.slot b ob q (del_none m) hb hx
  free := fun b ob q m hx=>by
    have z : b ≠ c := fun z=>by rw [z,e] at m; cases m
    rw [upd_ne z]; exact un.free b ob q (del_none m) hx
  there := fun b ob q hx=>un.there b ob q hx
  tups := fun b xs q=>by
    have z := objO_tup e q
    rw [upd_ne z]; exact un.tups b xs (by rw [del_ne z]; exact q)
  frzs := fun b ob u q=>by
    have z := objO_frz e q
    rw [upd_ne z]; exact un.frzs b ob u (by rw [del_ne z]; exact q)
  tbls := fun b ps q=>by
    have z := objO_tbl e q
    rw [upd_ne z]; exact un.tbls b ps (by rw [del_ne z]; exact q)
end
def tCallV (X : Cx) (i : Nat) (t : TA) : TE := fun σ H Q=>∃ (f : Addr) (o : Obj) (fd fd' : FuncData) (ps : List Str) (sp : Sp) (k : Nat),σ[i]? = some (some (.ref f)) ∧ H f = some (objO f o) ∧ o.data = .func fd' ∧ Room k X.A ∧
  FnOk X.prog X.w X.K X.mg X.base CX0 k f fd ps sp ∧ Binds X.K fd ps [] ∧ t σ H fun vs H1=>H1 f = some (objO f o) ∧ sp vs H1 Q E0
theorem pe_callF {X : Cx} {i : Nat} {x : Str} {p pos : Pos} {e : Expr} {es : List Expr} {t : TA} (hv : PE X (.Name x p) (tVar i)) (ha : PA X (e :: es) t)
    (he : starEach (e :: es) X.env = (false,eval e X.env) :: starEach es X.env := by rfl) (hpl : (backTo pos (starEach es X.env)).any (·.1) = false := by rfl) : PE X (.Call (.Name x p) (e :: es) [] pos) (tCallV X i t) := by
  intro pins s σ H Q I h
  obtain ⟨f,o,fd,fd',ps,sp,k,e1,e2,e3,hr,F,hb,h⟩ := h
  refine wpAny_Call_Name_kw (thn (hv pins s σ H (fun v H1=>v = .ref f ∧ H1 = H) I ⟨_,e1,rfl,rfl⟩) fun u s1 ⟨v,H1,I1,r1,q1,q2⟩=>?_)
  subst q1 q2
  obtain rfl : u = Value.ref f := r1
  have at_ : ∀ {H : Hp} {s : Shared},Inv X pins σ H s → H f = some (objO f o) → PySem.W.FnAt f s.heap := fun I q=>by
    have e := objO_at I.hok q
    obtain ⟨oc,od,dt,sl⟩ := o
    have e3' : dt = .func fd' := e3
    subst e3'
    exact ⟨oc,od,fd',sl,e⟩
  refine PySem.W.callWith_F (at_ I1 e2) (thn (ha pos pins s1 σ H1 _ I1 h) fun us s2 ⟨vs,H2,I2,r,q,q2⟩=>⟨at_ I2 q,?_⟩) he hpl
  exact run_fn (dvs := []) F hr hb .nil pass0 I2 r (by rw [List.append_nil]; exact q2)
structure LamScope (N ps : List Str) (y : Str) (sc : Scope) : Prop where
  kind : sc.kind = .function
  co : sc.isCoroutine = false
  gen : sc.isGenerator = false
  nd : ps.Nodup
  eq : N = ps ++ [y]
  par : ∀ x ∈ ps,sc.names.lookup x = some .local
  fr : sc.names.lookup y = some .free
  nocell : ∀ z ∈ sc.names,z.2 ≠ .cell
  only : ∀ z ∈ sc.names,z.2 = .free → z.1 = y
def cxLam (P : Program) (w : World) (K : PySem.W.Frag) (mg : Str → Option Value) (base : Heap) (N : List Str) (qual : Str) (scope : Scope) (f : Addr) (cd : Value) (cl : List (Str × Addr)) (A : Around) (outer : List Env) (s : Shared) (H : Hp) : Cx where
  prog := P
  w := w
  K := K
  mg := mg
  base := base
  A := A.deeper (PySem.W.envX qual scope s.heap.objs.size f cd cl)
  N := N
  s₀ := s
  H₀ := H
  env := PySem.W.envX qual scope s.heap.objs.size f cd cl
  outer := outer
  stack := PySem.W.envX qual scope s.heap.objs.size f cd cl :: outer
  ex := []
  calm := true
  fn := fun _=>false
  pn := []
  xe := fun _ _=>False
theorem lookup_ndV : ∀ {l : List (Str × Value)} {x : Str} {u : Value},(l.map (·.1)).Nodup → (x,u) ∈ l → l.lookup x = some u
  | [],_,_,_,h=>by cases h
  | (n,v) :: r,x,u,nd,h=>by
    rw [List.map_cons,List.nodup_cons] at nd
    rw [List.lookup_cons]
    rcases List.mem_cons.mp h with e | e
    · cases e; simp
    · have ne : ¬ x = n := fun z=>nd.1 (z ▸ List.mem_map_of_mem (f := (·.1)) e)
      have : (x == n) = false := by simpa using ne
      rw [this]
      exact lookup_ndV nd.2 e
theorem lam_fn {P : Program} {w : World} {K : PySem.W.Frag} {mg : Str → Option Value} {base : Heap} {k : Nat} {f c' c : Addr} {name qual y : Str} {params : Arguments} {body : Expr} {scope : Scope} {pm ctv u t0 : Value} {oc oy : Obj} {N ps : List Str} {v : V} {sp : Sp} {vs0 : Array Value} {tq : Tok}
    (S : LamScope N ps y scope) (hoc : oc.data = .fields vs0) (hvs : vs0[1]? = some (.str qual tq)) (hoy : oy.data = .cell (some u)) (rv : RelV v u) (len : ∀ vs H Q E,sp vs H Q E → vs.length = ps.length)
    (hbody : ∀ (A : Around) (outer : List Env) (s : Shared) (H : Hp) (vs : List V) (Q : VK) (E : XK),Room k (A.deeper (PySem.W.envX qual scope s.heap.objs.size f (.ref c') [(y,c)])) → sp vs H Q E →
      H f = some (objO f (PySem.W.kla_obj name qual params body scope [(y,c)] pm c' ctv)) ∧ H c' = some (objO c' oc) ∧ H c = some (objO c oy) ∧
      ∃ t,PE (cxLam P w K mg base N qual scope f (.ref c') [(y,c)] A outer s (del H c)) body t ∧ t (vs.map some ++ [some v]) (del H c) fun r H'=>H' c = none → Q r (upd H' c (objO c oy))) :
    FnOk P w K mg base CX0 (k + 1) f (PySem.W.kla_fn name qual params body scope [(y,c)] pm (.ref c') ctv) ps sp := by
  refine ⟨len,fun A outer s H args us vs Q E hr e0 hb r hsp=>?_⟩
  have hl := len _ _ _ _ hsp
  obtain ⟨e1,e2,e3,t,ht,hq⟩ := hbody A outer s H vs Q E (hr.deeper _) hsp
  have KX : K.In s.heap := e0.mod.kin.keeps fun b o e=>(e0.bs b o e).1
  have lim : s.heap.NoLimit := e0.mod.nolimit.keeps fun b o e=>(e0.bs b o e).1
  have a1 := objO_at e0.hok e1
  have a2 := objO_at e0.hok e2
  have a3 := objO_at e0.hok e3
  have hlu : us.length = ps.length := by rw [← r.length]; exact hl
  have hz : (ps.zip us).map (·.1) = ps := List.map_fst_zip (by omega)
  refine PySem.W.kla_callFunE hr.depth a1 rfl S.co S.gen rfl ⟨c',oc,vs0,tq,rfl,a2,hoc,hvs⟩ (hb _ _ _ _ ?_)
  refine wpAny_newFunctionEnv S.nocell (fun x hx=>S.par _ (List.of_mem_zip (show (x.1,x.2) ∈ ps.zip us from hx)).1) (fun h₁ hns hsb=>?_) S.kind
  have hk₁ : ∀ b o,s.heap.get? b = some o → h₁.get? b = some o := fun b o e=>hsb.extBut b o (Nat.ne_of_lt (Heap.lt_size e)) (Heap.get?_push_of_some _ e)
  refine ⟨lim.keeps hk₁,?_⟩
  have I : Inv (cxLam P w K mg base N qual scope f (.ref c') [(y,c)] A outer s (del H c)) [] (vs.map some ++ [some v]) (del H c) { s with heap := h₁,toks := s.toks + (ps.zip us).length } := by
    have lk : ∀ {z d},([(y,c)] : List (Str × Addr)).lookup z = some d → z = y ∧ d = c := fun {z d} e=>by
      rw [List.lookup_cons] at e
      cases hzy : z == y with
      | true=>rw [hzy] at e; cases e; exact ⟨by simpa using hzy,rfl⟩
      | false=>rw [hzy] at e; cases e
    have ly : ([(y,c)] : List (Str × Addr)).lookup y = some c := by simp
    have hcell : h₁.IsCell c (some u) := ⟨oy,hk₁ _ _ a3,hoy⟩
    have noA : ∀ b : Addr,b ∉ ([] : List Addr) := fun b z=>by cases z
    refine ⟨⟨e0.mod,S.kind,rfl,rfl,Nat.le_refl _,fun z1 z2 d q1 q2=>?_,fun z hz'=>?_,(fun z d q=>(by cases q)),fun _=>hr.hd,Around.frames_deeper e0.frames, .inr ⟨rfl,rfl⟩,fun b z=>absurd z (noA b),fun b o e=>⟨(e0.bs b o e).1,del_none (e0.bs b o e).2⟩,e0.bsz,fun b _ _=>noA b,fun b z=>absurd z (noA b),e0.funs,fun b hb'=>del_none (e0.frf b hb')⟩,
      rfl,e0.bare,Un.kept hk₁,⟨_,hns,fun i x v' q1 q2 q3=>?_⟩,fun z d q=>?_,?_,fun z d q=>?_,fun p hp=>absurd (show p ∈ ([] : List (Addr × Obj)) from hp) (by simp),(e0.hok.del e3).kept hk₁,?_⟩
    · rw [(lk q1).1,(lk q2).1]
    · have hz'' : scope.names.lookup z = some .cell ∨ scope.names.lookup z = some .free := hz'
      rcases hz'' with q | q
      · exact absurd rfl (S.nocell _ (PySem.mem_of_lookup q))
      · have := S.only _ (PySem.mem_of_lookup q) rfl
        have e : z = y := this
        subst e
        exact ⟨c,ly⟩
    · have q1' : (ps ++ [y])[i]? = some x := by rw [← S.eq]; exact q1
      by_cases hi : i < ps.length
      · rw [List.getElem?_append_left hi] at q1'
        rw [List.getElem?_append_left (by rw [List.length_map]; omega),List.getElem?_map] at q2
        cases ev : vs[i]? with
        | none=>rw [ev] at q2; cases q2
        | some v0 =>
          rw [ev] at q2
          cases q2
          obtain ⟨u',hu',rv'⟩ := r.get ev
          refine ⟨u',rv', .inl ⟨S.par _ (List.mem_of_getElem? q1'),?_⟩⟩
          have hm : (x,u') ∈ ps.zip us := List.mem_of_getElem? (i := i) (by rw [List.getElem?_zip_eq_some]; exact ⟨q1',hu'⟩)
          exact lookup_ndV (by rw [List.map_reverse,hz]; exact List.pairwise_reverse.mpr (S.nd.imp fun h=>Ne.symm h)) (List.mem_reverse.mpr hm)
      · rw [List.getElem?_append_right (by omega)] at q1'
        rw [List.getElem?_append_right (by rw [List.length_map]; omega),List.length_map,hl] at q2
        have hi0 : i - ps.length = 0 := by
          cases hj : i - ps.length with
          | zero=>rfl
          | succ j=>rw [hj] at q1'; simp at q1'
        rw [hi0] at q1' q2
        have e1' : y = x := by simpa using q1'
        have e2' : v = v' := by simpa using q2
        subst e1' e2'
        exact ⟨u,rv, .inr ⟨.inr S.fr,c,ly,hcell⟩⟩
    · obtain ⟨_,rfl⟩ := lk q
      exact ⟨_,hcell⟩
    · exact del_none (e0.hok.fresh (Nat.le_refl _))
    · obtain ⟨_,rfl⟩ := lk q
      exact del_same
    · show _ = N.length
      rw [S.eq,List.length_append,List.length_append,List.length_map,hl]
      rfl
  show codeAny _ _ (.expr body (PySem.W.envX qual scope s.heap.objs.size f (.ref c') [(y,c)])) _ _
  refine PySem.W.kla_codeExpr (wpAny_mono (ht [] _ _ _ _ I hq) (fun vr s' hs=>?_) fun _ _ z=>False.elim z)
  obtain ⟨x,H',J,rx,q⟩ := hs
  have un : Un (frs outer) [] (del H c) H' s.heap s'.heap := J.base
  have cf : c ∉ frs outer := fun hb'=>by rw [e0.frf c hb'] at e3; cases e3
  have kc : s'.heap.get? c = some oy := un.keep c oy a3 del_same cf (by simp)
  have nc : H' c = none := un.free c oy a3 del_same (by simp)
  exact ⟨x,_,J.os,J.bare,un.back e3,J.hok.obj nc kc,rx,q nc⟩
end L2
set_option Elab.async false
set_option linter.all false
set_option maxRecDepth 100000
namespace L2
open PySem PySem.Spec PyProof.Rows
def BMain (mg : Str → Option Value) (h : Heap) : Prop := ∃ bm ob,mg "__builtins__" = some (.ref bm) ∧ bm ≠ builtinsNs ∧ h.get? bm = some ob ∧ ob.cls = .type "module" ∧ ob.dict = some builtinsNs ∧ ob.data = .plain
def CodeO (o : Obj) (qual : Str) : Prop := ∃ vs t,o.data = .fields vs ∧ vs[1]? = some (.str qual t)
def lamO (X : Cx) (params : Arguments) (body : Expr) (scope : Scope) (clos : List (Str × Addr)) (c' : Addr) (ctv : Value) : Obj := PySem.W.kla_obj "<lambda>" (X.env.qual ++ "<lambda>") params body scope clos ((X.mg "__name__").getD .none) c' ctv
def tLam (X : Cx) (P : Addr) (params : Arguments) (body : Expr) (scope : Scope) (clos : List (Str × Addr)) (pos : Pos) : TE := fun σ H Q=>∃ ps,H P = some (.tbl ps) ∧ TriplesOk ps.toList ∧
  ((codeAmong pos ps.toList = none ∧ ∀ (f c' : Addr) (oc : Obj) (ctv : Value),H c' = none → H f = none → c' ≠ f → CodeO oc (X.env.qual ++ "<lambda>") →
      Q (.ref f) (upd (upd (upd H P (.tbl (ps ++ #[rawInt pos.line,rawInt pos.col, .ref c']))) c' (objO c' oc)) f (objO f (lamO X params body scope clos c' ctv)))) ∨
   ∃ c',codeAmong pos ps.toList = some (.ref c') ∧ ∀ (f : Addr) (ctv : Value),H f = none → Q (.ref f) (upd H f (objO f (lamO X params body scope clos c' ctv))))
section
variable {X : Cx} {P cp : Addr} {params : Arguments} {body : Expr} {scope : Scope} {clos : List (Str × Addr)} {pos : Pos}
theorem pe_lam (hcl : closureFor scope X.env = pure clos) (hcode : X.env.code = .ref cp) (C : PySem.W.CodeHd X.base cp P) (B : BMain X.mg X.base) (hdef : defaultsOf params X.env = ([],[]) := by rfl) : PE X (.Lambda params body scope pos) (tLam X P params body scope clos pos) := by
  intro pins s σ H Q I h
  obtain ⟨ps,hH,ht,h⟩ := h
  have hP : s.heap.get? P = some (PySem.W.tabObj ps) := I.hok P _ hH
  have hgs : s.heap.Ns mainGlobals X.mg := I.mod.glob.keeps I.bk
  have hgP : mainGlobals ≠ P := fun q=>by
    obtain ⟨o,es,ep,e,hd,_⟩ := hgs
    rw [q,hP] at e; cases e; cases hd
  obtain ⟨bm,ob,b1,b2,b3,b4,b5,b6⟩ := B
  have hbo := I.bk _ _ b3
  have hbP : bm ≠ P := fun q=>by rw [q,hP] at hbo; cases hbo; cases b4
  have hbG : bm ≠ mainGlobals := fun q=>by
    obtain ⟨o,es,ep,e,hd,_⟩ := hgs
    rw [q,e] at hbo; cases hbo; rw [hd] at b6; cases b6
  have hLP : X.env.locals ≠ P := fun q=>by have := I.free; rw [q,hH] at this; cases this
  refine PySem.W.kla_eval hdef ?_
  rcases h with ⟨hnf,h⟩ | ⟨c',hf,h⟩
  · refine PySem.W.kla_makeFunction (mg := X.mg) hcl I.ok.glob hgs hcode (C.keeps I.bk) hP ht hnf hgP ⟨bm,ob,b1,b2,hbG,hbP,hbo,b4,b5,b6⟩ fun c' ctv h' tk hx hge hlt hrec htb=>?_
    obtain ⟨c₂,oc,vs,t,e2,hoc,hd,hv⟩ := hrec
    cases e2
    have kp : ∀ b o,b ≠ P → s.heap.get? b = some o → (h'.push (lamO X params body scope clos c' ctv)).get? b = some o := fun b o n e=>Heap.get?_push_of_some _ (hx b o n e)
    have nc : H c' = none := I.hok.fresh hge
    have hsz : s.heap.objs.size ≤ h'.objs.size := Nat.le_of_lt (Nat.lt_of_le_of_lt hge hlt)
    have nf : H h'.objs.size = none := I.hok.fresh hsz
    have cf : c' ≠ h'.objs.size := Nat.ne_of_lt hlt
    have cP : c' ≠ P := fun q=>by rw [q,hH] at nc; cases nc
    have fP : h'.objs.size ≠ P := fun q=>by rw [q,hH] at nf; cases nf
    have old : ∀ b o,s.heap.get? b = some o → b ≠ c' ∧ b ≠ h'.objs.size := fun b o e=>⟨Nat.ne_of_lt (Nat.lt_of_lt_of_le (Heap.lt_size e) hge),Nat.ne_of_lt (Nat.lt_of_lt_of_le (Heap.lt_size e) hsz)⟩
    have trk : ∀ {b u},H b = some u → b ≠ c' ∧ b ≠ h'.objs.size := fun e=>⟨ne_of_none e nc,ne_of_none e nf⟩
    have up : ∀ {b u},H b = some u → b ≠ P → (upd (upd (upd H P (.tbl (ps ++ #[rawInt pos.line,rawInt pos.col, .ref c']))) c' (objO c' oc)) h'.objs.size (objO h'.objs.size (lamO X params body scope clos c' ctv))) b = some u := fun e n=>by
      rw [upd_ne (trk e).2,upd_ne (trk e).1,upd_ne n]; exact e
    have atP : (upd (upd (upd H P (.tbl (ps ++ #[rawInt pos.line,rawInt pos.col, .ref c']))) c' (objO c' oc)) h'.objs.size (objO h'.objs.size (lamO X params body scope clos c' ctv))) P = some (.tbl (ps ++ #[rawInt pos.line,rawInt pos.col, .ref c'])) := by
      rw [upd_ne (Ne.symm fP),upd_ne (Ne.symm cP),upd_same]
    have un : Un X.fs [] H (upd (upd (upd H P (.tbl (ps ++ #[rawInt pos.line,rawInt pos.col, .ref c']))) c' (objO c' oc)) h'.objs.size (objO h'.objs.size (lamO X params body scope clos c' ctv))) s.heap (h'.push (lamO X params body scope clos c' ctv)) := {
      keep := fun b o e n _ _=>kp b o (fun q=>by rw [q,hH] at n; cases n) e
      slot := fun b o e n _ _=>⟨o.slots,kp b o (fun q=>by rw [q,hH] at n; cases n) e⟩
      free := fun b o e n _=>by
        rw [upd_ne (old b o e).2,upd_ne (old b o e).1,upd_ne (fun q=>by rw [q,hH] at n; cases n)]; exact n
      there := fun b o e _=>by
        by_cases z : b = P
        · rw [z]; exact ⟨_,Heap.get?_push_of_some _ htb⟩
        · exact ⟨o,kp b o z e⟩
      tups := fun b xs e=>up e (fun q=>by rw [q,hH] at e; cases e)
      frzs := fun b o u e=>up e (fun q=>by rw [q,hH] at e; cases e)
      tbls := fun b qs e=>by
        by_cases z : b = P
        · rw [z,hH] at e; cases e; rw [z]; exact ⟨_,atP⟩
        · exact ⟨#[],by rw [up e z]; simp⟩ }
    refine ⟨.ref h'.objs.size,_,I.un (t' := tk) un (fun b u e=>?_),rfl,h _ c' oc ctv nc nf cf ⟨vs,t,hd,hv⟩⟩
    by_cases z1 : b = h'.objs.size
    · subst z1
      rw [upd_same] at e; cases e
      exact objO_ok (Heap.get?_push_size _ rfl)
    · rw [upd_ne z1] at e
      by_cases z2 : b = c'
      · subst z2
        rw [upd_same] at e; cases e
        exact objO_ok (Heap.get?_push_of_some _ hoc)
      · rw [upd_ne z2] at e
        by_cases z3 : b = P
        · subst z3
          rw [upd_same] at e; cases e
          exact Heap.get?_push_of_some _ htb
        · rw [upd_ne z3] at e
          refine (I.hok b u e).stay (fun d o hd' q=>kp d o ?_ q) (fun d r=>up r (fun q=>by rw [q,hH] at r; cases r)) fun d xs r=>up r (fun q=>by rw [q,hH] at r; cases r)
          rcases hd' with z | z
          · rw [z]; exact z3
          · intro q; rw [q,hH] at z; cases z
  · refine PySem.W.kla_makeFunctionHit (mg := X.mg) hcl I.ok.glob hgs hcode (C.keeps I.bk) hP ht hf ⟨bm,ob,b1,b2,hbG,hbP,hbo,b4,b5,b6⟩ fun ctv h' tk hk hsz=>?_
    exact ⟨.ref h'.objs.size,_,I.laid (a := h'.objs.size) (t' := tk) (fun b u e=>Heap.get?_push_of_some _ (hk b u e)) hsz (objO_ok (Heap.get?_push_size _ rfl)),rfl,h _ ctv (I.hok.fresh hsz)⟩
end
def tCallL (i : Nat) (c : Addr) (sp : Sp) (t : TA) : TE := fun σ H Q=>t σ H fun vs H1=>∃ v,σ[i]? = some (some v) ∧ ∀ (oy : Obj) (u : Value),oy.data = .cell (some u) → RelV v u → H1 c = none →
  sp vs (upd H1 c (objO c oy)) (fun r H'=>H' c = some (objO c oy) ∧ Q r (del H' c)) E0
theorem pe_callL {X : Cx} {k i : Nat} {x y : Str} {ps : List Str} {sp : Sp} {p pos : Pos} {e : Expr} {es : List Expr} {t : TA} {f c : Addr} {fd : FuncData} (F : FnOk X.prog X.w X.K X.mg X.base CX0 k f fd ps sp) (hb : Binds X.K fd ps []) (hk : PySem.W.keepIn X.K (.ref f) = true) (hm : X.mg x = some (.ref f)) (hr : Room k X.A) (hg : Gl X x)
    (hN : X.N[i]? = some y) (hy : X.env.scope.names.lookup y = some .cell) (hc : X.env.cells.lookup y = some c) (hfn : X.fn y = true) (ha : PA X (e :: es) t)
    (hdb : (x == ("__debug__" : Str)) = false := by decide) (he : starEach (e :: es) X.env = (false,eval e X.env) :: starEach es X.env := by rfl) (hpl : (backTo pos (starEach es X.env)).any (·.1) = false := by rfl) :
    PE X (.Call (.Name x p) (e :: es) [] pos) (tCallL i c sp t) := by
  intro pins s σ H Q I h
  refine wpAny_Call_Name_kw (ld_glob I hg hm ?_ hdb)
  refine PySem.W.callWith_K (h₀ := X.base) I.ok.mod.kin hk (thn (ha pos pins s σ H _ I h) fun us s1 ⟨vs,H1,I1,r,v,ev,q⟩=>⟨I1.kIn,?_⟩) he hpl
  obtain ⟨m,hn,hl⟩ := I1.loc
  obtain ⟨u,rv,l⟩ := hl i y v hN ev (.inr (.inl hy))
  have hc1 : s1.heap.IsCell c (some u) := by
    rcases l with ⟨l1,_⟩ | ⟨_,c2,l2,l3⟩
    · have l1' : X.env.scope.names.lookup y = some .local := l1
      rw [hy] at l1'; cases l1'
    · rw [hc] at l2; cases l2; exact l3
  obtain ⟨oy,ho,hd⟩ := hc1
  have n1 := I1.freeC y c hc
  have cab := I1.ok.cab y c hfn hc
  have e0 : Env0 X.prog X.w X.K X.mg X.base X.A X.stack s1 (upd H1 c (objO c oy)) := ⟨I1.ok.frames,I1.ok.mod,fun b o e=>⟨(I1.bs b o e).1,by
      rw [upd_ne (Nat.ne_of_lt (Nat.lt_of_lt_of_le (Heap.lt_size e) (Nat.le_trans I1.ok.bsz cab)))]; exact (I1.bs b o e).2⟩,Nat.le_trans I1.ok.bsz I1.sz,I1.stack,fun b hb'=>by
      have z : b ≠ c := by
        rcases List.mem_cons.mp (I1.stkSub b hb') with z | z
        · rw [z]; exact Ne.symm (I1.cne y c hc)
        · obtain ⟨_,o,ho',_⟩ := I1.ok.funs.mem z
          exact Nat.ne_of_lt (Nat.lt_of_lt_of_le (Heap.lt_size ho') cab)
      rw [upd_ne z]; exact I1.stkFree b hb',I1.hok.obj n1 ho,I1.bare⟩
  have q' := q oy u hd rv n1
  have hl' : us.length = ps.length := by rw [← r.length]; exact F.len _ _ _ _ q'
  have bt : BindsTo s1 fd ⟨us,[]⟩ (ps.zip us) := by
    have := hb s1 us I1.kIn (by rw [List.append_nil]; exact hl')
    rw [List.append_nil] at this
    exact this
  refine wpAny_call (codeAny_mono (F.run X.A X.stack s1 _ ⟨us,[]⟩ us vs _ _ hr e0 bt r q') fun r' s' hq=>?_)
  cases r' with
  | error e=>exact False.elim hq
  | ok fl =>
    cases fl with
    | ret u' =>
      obtain ⟨v',H',os,bare,un,hok,r2,q1,q2⟩ := hq
      exact I1.after ⟨v',_,os,bare,un.lent n1 ho q1 (objO_at hok q1),hok.del q1,r2,q2⟩
    | next=>exact False.elim hq
    | brk=>exact False.elim hq
    | cont=>exact False.elim hq
end L2
set_option Elab.async false
set_option linter.all false
set_option maxRecDepth 100000
namespace L2
open PySem PySem.Spec PyProof.Rows
theorem law_callT {P : Program} {w : World} {K : PySem.W.Frag} {mg mb : Str → Option Value} {k : Nat} {fa a cp Pt : Addr} {fd : FuncData} {x : Str} {sp : Sp} {s₁ : Shared} {vs : List Value} {ns : List Int}
    (KX : K.In s₁.heap) (hns : s₁.heap.Ns mainGlobals mg) (hb : s₁.heap.Ns builtinsNs mb) (hbb : ∀ x : Str,x ≠ "__name__" → mb x = bootBuiltins x) (hlim : s₁.heap.NoLimit) (hg : s₁.gens = #[])
    (ha : s₁.heap.get? a = some { cls := .type "list",data := .seq vs.toArray }) (hi : IntsAre vs ns) (hl : ns.length ≤ sizeLine) (hr : Room k callerA) (nT : PySem.W.noTabs K = true) (hC : PySem.W.CodeHd s₁.heap cp Pt) (hP : s₁.heap.get? Pt = some (PySem.W.tabObj #[])) (hB : BMain mg s₁.heap)
    (F : ∀ base : Heap,K.In base → base.Ns mainGlobals mg → BMain mg base → FnOk P w K mg base CX0 k fa fd [x] sp) (hbind : ∀ (s : Shared) (u : Value),BindsTo s fd ⟨[u],[]⟩ [(x,u)])
    (hsp : ∀ H : Hp,SqL K H a (ns.map V.int) → H Pt = some (.tbl #[]) → sp [.ref a] H (fun v _=>v = .bl true) fun _ _ _=>False) :
    codeAny (model P w) callerA (.call (.ref fa) ⟨[.ref a],[]⟩) (fun r s'=>r = .ok (.ret (.bool true)) ∧ OldK s₁.heap s'.heap ∧ s'.os = s₁.os ∧ AllBare s'.gens) s₁ := by
  have rv := vals_ints hi
  have lenV := hi.length
  have naP : a ≠ Pt := fun q=>by rw [q,hP] at ha; cases ha
  have KP : K.lookup Pt = none := by
    cases q : K.lookup Pt with
    | none=>rfl
    | some o =>
      have e := KX _ _ q
      rw [hP] at e
      cases e
      have h2 := List.all_eq_true.mp nT (Pt,PySem.W.tabObj #[]) (PySem.W.mem_of_lookupK q)
      exact absurd (show false = true from h2) Bool.false_ne_true
  have core : ∀ H : Hp,SqL K H a (ns.map V.int) → H Pt = some (.tbl #[]) → HOk P w H s₁.heap → (∀ b,b ≠ Pt → H b ≠ none → b = a) → (∀ u,H a = some u → ∃ ob xs,u = .frz ob (.lst xs)) → (H a ≠ none → K.lookup a = none) →
      codeAny (model P w) callerA (.call (.ref fa) ⟨[.ref a],[]⟩) (fun r s'=>r = .ok (.ret (.bool true)) ∧ OldK s₁.heap s'.heap ∧ s'.os = s₁.os ∧ AllBare s'.gens) s₁ := by
    intro H hS hT hok hA hF hK
    have base_of : ∀ {b : Addr} {o : Obj},s₁.heap.get? b = some o → H b = none → (hidT s₁.heap H).get? b = some o := fun e n=>hidT_get e n
    have untr : ∀ {b : Addr},b ≠ a → b ≠ Pt → H b = none := fun {b} n1 n2=>by
      cases q : H b with
      | none=>rfl
      | some u=>exact absurd (hA b n2 (by rw [q]; simp)) n1
    have noA : ∀ {b : Addr} {o : Obj} {es : Array DictEntry} {ep : Nat},s₁.heap.get? b = some o → o.data = .dict es ep → H b = none := fun {b o es ep} e d=>by
      refine untr (fun q=>?_) (fun q=>?_)
      · rw [q,ha] at e; cases e; cases d
      · rw [q,hP] at e; cases e; cases d
    have nsK : ∀ {b : Addr} {m : Str → Option Value},s₁.heap.Ns b m → (hidT s₁.heap H).Ns b m := fun {b m} ⟨o,es,ep,e,d,r⟩=>⟨o,es,ep,base_of e (noA e d),d,r⟩
    have hKb : K.In (hidT s₁.heap H) := fun b o e=>base_of (KX b o e) (by
      by_cases n2 : b = Pt
      · rw [n2,KP] at e; cases e
      · by_cases n1 : b = a
        · subst n1
          cases q : H b with
          | none=>rfl
          | some u=>rw [hK (by rw [q]; simp)] at e; cases e
        · exact untr n1 n2)
    have hBb : BMain mg (hidT s₁.heap H) := by
      obtain ⟨bm,ob,b1,b2,b3,b4,b5,b6⟩ := hB
      refine ⟨bm,ob,b1,b2,base_of b3 (untr (fun q=>?_) fun q=>?_),b4,b5,b6⟩
      · rw [q,ha] at b3; cases b3; cases b6
      · rw [q,hP] at b3; cases b3; cases b4
    have hM : Mod K mg (hidT s₁.heap H) := ⟨hKb,nsK hns,⟨mb,nsK hb,hbb⟩,let ⟨mc,h1,h2⟩ := hlim; ⟨mc,nsK h1,h2⟩⟩
    have e0 : Env0 P w K mg (hidT s₁.heap H) callerA [] s₁ H := ⟨rfl,hM,fun b o e=>of_hidT e,Nat.le_of_eq (hidT_size _ _),trivial,fun b hb=>absurd (show b ∈ ([] : List Addr) from hb) (by simp),hok, .of_eq hg⟩
    refine codeAny_mono ((F _ hKb (nsK hns) hBb).run callerA [] s₁ H ⟨[.ref a],[]⟩ [.ref a] [.ref a] _ _ hr e0 (hbind s₁ (.ref a)) (.cons rfl .nil) (hsp H hS hT)) fun r s' h=>?_
    cases r with
    | error e=>exact False.elim h
    | ok fl =>
      cases fl with
      | next=>exact False.elim h
      | brk=>exact False.elim h
      | cont=>exact False.elim h
      | ret u =>
        obtain ⟨v,H',os,bare,un,hok',r',q⟩ := h
        have q' : v = .bl true := q
        subst q'
        obtain rfl : u = Value.bool true := r'
        have keepN : ∀ {b o},s₁.heap.get? b = some o → H b = none → s'.heap.get? b = some o := fun {b o} e q=>un.keep b o e q (by intro z; exact absurd (show b ∈ ([] : List Addr) from z) (by simp)) (by simp)
        obtain ⟨more,hT'⟩ := un.tbls Pt _ hT
        have eT : s'.heap.get? Pt = some { cls := .none,data := .fields (#[] ++ more) } := hok' Pt _ hT'
        refine ⟨rfl,⟨fun b o e=>?_,fun b o e=>?_⟩,os,bare⟩
        · by_cases n2 : b = Pt
          · subst n2
            rw [hP] at e; cases e
            exact .inr (.inl ⟨(hC.tab hP).isCodeTable,rfl,#[],more,rfl,eT⟩)
          · refine .inl ?_
            cases q : H b with
            | none=>exact keepN e q
            | some u =>
              have e1 := hA b n2 (by rw [q]; simp)
              subst e1
              obtain ⟨ob,xs,rfl⟩ := hF u q
              have z2 := un.frzs b ob _ q
              obtain ⟨e1,_⟩ := hok b _ q
              obtain ⟨e2,_⟩ := hok' b _ z2
              rw [e] at e1; cases e1
              exact e2
        · exact un.there b o e (by simp)
  cases hk : K.lookup a with
  | some o =>
    have e := KX a o hk
    rw [ha] at e
    cases e
    refine core (fun b=>if b = Pt then some (.tbl #[]) else none) (.inr ⟨_,vs.toArray,_,hk,rfl,rfl,rfl,by rw [List.size_toArray,lenV]; exact hl,by simpa using rv⟩) (if_pos rfl) (fun b u z=>?_) (fun b n z=>absurd (if_neg n) z) (fun u z=>?_) fun z=>absurd (if_neg naP) z
    · by_cases n : b = Pt
      · have z' := (if_pos n).symm.trans z
        cases z'
        subst n
        exact hP
      · have z' := (if_neg n).symm.trans z
        cases z'
    · have z' := (if_neg naP).symm.trans z
      cases z'
  | none =>
    have hH : ∀ b,b ≠ Pt → (fun b=>if b = Pt then some (HO.tbl #[]) else if b = a then some (.frz { cls := .type "list",data := .seq vs.toArray } (.lst (ns.map V.int))) else none : Hp) b = (if b = a then some (.frz { cls := .type "list",data := .seq vs.toArray } (.lst (ns.map V.int))) else none) := fun b n=>if_neg n
    have hHa : (fun b=>if b = Pt then some (HO.tbl #[]) else if b = a then some (.frz { cls := .type "list",data := .seq vs.toArray } (.lst (ns.map V.int))) else none : Hp) a = some (.frz { cls := .type "list",data := .seq vs.toArray } (.lst (ns.map V.int))) := (hH a naP).trans (if_pos rfl)
    refine core (fun b=>if b = Pt then some (HO.tbl #[]) else if b = a then some (.frz { cls := .type "list",data := .seq vs.toArray } (.lst (ns.map V.int))) else none) (.inl (.inr ⟨{ cls := .type "list",data := .seq vs.toArray },hHa⟩)) (if_pos rfl) (fun b u z=>?_) (fun b n z=>?_) (fun u z=>?_) fun _=>hk
    · by_cases n : b = Pt
      · have z' := (if_pos n).symm.trans z
        cases z'
        subst n
        exact hP
      · have z1 := (hH b n).symm.trans z
        by_cases hb : b = a
        · have z' := (if_pos hb).symm.trans z1
          cases z'
          subst hb
          exact ⟨ha,by rw [List.length_map]; exact hl,vs,_,rv,ha⟩
        · have z' := (if_neg hb).symm.trans z1
          cases z'
    · by_cases hb : b = a
      · exact hb
      · exact absurd ((hH b n).trans (if_neg hb)) z
    · have z' := hHa.symm.trans z
      cases z'
      exact ⟨_,_,rfl⟩
theorem walk_ofT {l : PySem.W.OpenLaw} {n k : Nat} {q : Program} {loose : List Str} {XP : (Str → Option Value) → Heap → Prop} {YP : World → Heap → Prop} {d : DefRec} {K : Params → PySem.W.Frag} {sp : PySem.W.Frag → Sp} {x : Str} {cp Pt : Addr}
    (hn : l.most = some n) (hn2 : n ≤ sizeLine) (hdf : d.params.defaults = []) (hr : Room k callerA)
    (hY : ∀ (w : World) (h : Heap),YP w h → (K w.params).In h) (nT : ∀ w : World,PySem.W.noTabs (K w.params) = true) (hcd : ∀ w : World,PySem.W.codeHdIn (K w.params) cp Pt = true) (hT : ∀ (w : World) (h : Heap),YP w h → h.get? Pt = some (PySem.W.tabObj #[]))
    (F : ∀ (w : World) (mg : Str → Option Value) (fa : Addr) (h : Heap),(K w.params).In h → h.Ns mainGlobals mg → mg d.name = some (.ref fa) →
      ∃ fd : FuncData,(∀ (s : Shared) (u : Value),BindsTo s fd ⟨[u],[]⟩ [(x,u)]) ∧
        ∀ base : Heap,(K w.params).In base → base.Ns mainGlobals mg → BMain mg base → PySem.W.CodeHd base cp Pt → FnOk l.prog w (K w.params) mg base CX0 k fa fd [x] (sp (K w.params)))
    (hsp : ∀ (K : PySem.W.Frag) (H : Hp) (a : Addr) (ns : List Int),ns.length ≤ n → SqL K H a (ns.map V.int) → H Pt = some (.tbl #[]) → sp K [.ref a] H (fun v _=>v = .bl true) fun _ _ _=>False) :
    PySem.W.WalkO q loose XP YP l.row.toRowW d [] (fun f vs=>PySem.call f vs) := by
  refine Att.attach_call hn hdf fun w s₀ s₁ mg mb fa o pm cd doc a vs ns G Y ho hd hcd' hmg hobj hints hlen hg=>?_
  have KX := hY w _ Y
  obtain ⟨fd,hb,hF⟩ := F w mg fa _ KX G.T.g hmg
  exact law_callT KX G.T.g G.T.b G.T.builtins G.T.nolimit hg hobj hints (Nat.le_trans hlen hn2) hr (nT w) (PySem.W.codeHd_of_K KX (hcd w)) (hT w _ Y) G.T.bmain (fun base h1 h2 h3=>hF base h1 h2 h3 (PySem.W.codeHd_of_K h1 (hcd w))) hb (fun H hS hP=>hsp _ H a ns hlen hS hP)
end L2
set_option Elab.async false
set_option linter.all false
set_option maxRecDepth 100000
namespace Fw
open PySem PySem.Spec PyProof.Rows L2
mutual
def remT (g : Str → List T → T) : T → T
  | .int i=>.int i
  | .str z=>g z []
  | .tup l=>rem1 g l
def rem1 (g : Str → List T → T) : List T → T
  | []=>.tup []
  | .str z :: r=>g z (rems g r)
  | h :: r=>.tup (h :: rems g r)
def rems (g : Str → List T → T) : List T → List T
  | []=>[]
  | t :: r=>remT g t :: rems g r
end
theorem rems_map (g : Str → List T → T) : ∀ l,rems g l = l.map (remT g)
  | []=>by rw [rems]; rfl
  | t :: r=>by rw [rems,rems_map g r]; rfl
theorem rems_app (g : Str → List T → T) (a b : List T) : rems g (a ++ b) = rems g a ++ rems g b := by rw [rems_map,rems_map,rems_map,List.map_append]
def hdT : T → List T
  | .tup l=>l
  | t=>[t]
theorem KD.head {n : Nat} {p : T} (k : KD n p) : ∃ z,hdT p = .str z :: kidsT p ∧ z.length ≤ 80 ∧ (kidsT p).length ≤ 3 ∧ (kidsT p ≠ [] → NQ z) ∧ ∀ g,remT g p = g z (rems g (kidsT p)) := by
  cases k with
  | @leaf _ z hz=>exact ⟨z,rfl,hz,(by show 0 ≤ 3; decide),fun h=>absurd rfl h,fun g=>by rw [remT]; show _ = g z (rems g []); rw [rems]⟩
  | @tup j z ks nz k1 k3 hk=>exact ⟨z,rfl,by have := nz.2; omega,k3,fun _=>nz,fun g=>by rw [remT,rem1]; rfl⟩
def spHeaded : Sp := fun vs H Q _=>∃ v t n,vs = [v] ∧ Rep H v t ∧ KD n t ∧ ∀ (a : Addr) (xs : List V) H',Same H H' → H' a = some (.tup xs) → Reps H' xs (hdT t) → Q (.ref a) H'
def spMk (H0 : Hp) (g : Str → List T → T) : Sp := fun vs H Q _=>∃ (z : Str) (li : Addr) (us : List V) (ts : List T),vs = [.str z, .ref li] ∧ Same H0 H ∧ H li = some (.lst us) ∧ Reps H us ts ∧ z.length ≤ 80 ∧ ts.length ≤ 3 ∧ (ts ≠ [] → NQ z) ∧
  ∀ v' H',Same H H' → Rep H' v' (g z ts) → Q v' H'
def spRemade (P : Program) (w : World) (K : PySem.W.Frag) (mg : Str → Option Value) (base : Heap) : Sp := fun vs H Q _=>∃ (v : V) (f : Addr) (t : T) (n : Nat) (g : Str → List T → T) (fo : Obj) (fd fd' : FuncData),vs = [v, .ref f] ∧ Rep H v t ∧ KD n t ∧ t.sz ≤ 100000 ∧ H f = some (objO f fo) ∧ fo.data = .func fd' ∧
  FnOk P w K mg base CX0 2 f fd ["head","inner"] (spMk H g) ∧ Binds K fd ["head","inner"] [] ∧ ∀ v' H',Same H H' → Rep H' v' (remT g t) → Q v' H'
section
variable {P : Program} {w : World} {K : PySem.W.Frag} {mg : Str → Option Value} {base : Heap} {f : Addr} {fd : FuncData}
abbrev s_headed : Stmt := top 1
abbrev s_remade : Stmt := top 7
theorem sc_headed : FnScope ["thing"] ["thing"] (defScope s_headed) := ⟨rfl,rfl,rfl,by decide +kernel,rfl,by decide +kernel,by decide +kernel⟩
theorem ok_headed (F : Fun K "headed" "headed" s_headed f fd) (mi : mg "isinstance" = none) (mt : mg "tuple" = none) : FnOk P w K mg base CX0 1 f fd ["thing"] spHeaded := by
  refine F.ok sc_headed (fun vs H Q E h=>?_) (fun cdv A outer s H vs Q E hr h=>?_)
  · obtain ⟨v,t,n,rfl,_⟩ := h
    rfl
  obtain ⟨v,t,n,rfl,rt,kt,q⟩ := h
  refine ⟨_,pss_one (ps_ret (pe_ifExp (pt_val (pe_callB call_isi rfl mi boot_isinstance (pa_cons (pv 0) (pa_cons (pe_bltn (v := .ty "tuple") rfl mt boot_tuple rfl) pa_nil)))) (pv 0) (pe_tup (pa_cons (pv 0) pa_nil)))),?_⟩
  refine ⟨_,rfl,_,_,_,_,rfl,rep_ty rt,kit_tup K t,_,rfl,?_⟩
  cases kt with
  | @leaf _ z hz =>
    cases rt
    refine iteF ⟨_,rfl,small (by show 1 ≤ 1000000; decide),fun p hp=>?_⟩
    exact q p [.str z] _ (same_new hp _) upd_same (.cons (.str z (by omega)) .nil)
  | @tup j z ks nz k1 k3 hk =>
    cases rt with
    | @tup a xs _ ha ra=>exact iteT ⟨_,rfl,q a xs H (Same.refl _) ha ra⟩
abbrev nR : List Str := ["kind","make","done","part","words","inner"]
theorem sc_remade : FnScope nR ["kind","make"] (defScope s_remade) := ⟨rfl,rfl,rfl,by decide +kernel,rfl,by decide +kernel,by decide +kernel⟩
set_option maxHeartbeats 2000000 in
theorem ok_remade (F : Fun K "remade" "remade" s_remade f fd) (ml : mg "len" = none) (mr : mg "range" = none) (mv : mg "reversed" = none)
    (h1 : Has P w K mg base 1 "headed" ["thing"] spHeaded) (h2 : Has P w K mg base 1 "outer_first" ["kind"] spOuter) : FnOk P w K mg base CX0 3 f fd ["kind","make"] (spRemade P w K mg base) := by
  refine F.ok sc_remade (fun vs H Q E h=>?_) (fun cdv A outer s H vs Q E hr h=>?_)
  · obtain ⟨v,fm,t,n,g,fo,gd,gd',rfl,_⟩ := h
    rfl
  obtain ⟨v,fm,t,n,g,fo,gd,gd',rfl,rt,kt,hsz,hfm,hfd,G,gb,q⟩ := h
  refine ⟨_,pss_cons (ps_set (i := 2) sc_remade.nd rfl (Or.inr rfl) (pe_lst pa_nil))
    (pss_cons (ps_for PassesOwn.never rfl (pi_rev rfl mv (pcall h2 hr (by decide) rfl (pa_cons (pv 0) pa_nil))) (pg_name (i := 3) sc_remade.nd rfl (Or.inl rfl))
      (pss_cons (ps_set (i := 4) sc_remade.nd rfl (Or.inl rfl) (pcall h1 hr (by decide) rfl (pa_cons (pv 3) pa_nil)))
      (pss_cons (ps_lc (te := tBM0 K "list" rPop (tVar 1)) (defScope s_remade) nR ["done"] [2] (by decide +kernel) (pi_range2 rfl mr (pa_cons pe_int (pa_cons (pe_callB call_len_seq rfl ml PySem.boot_len (pa_cons (pv 4) pa_nil)) pa_nil))) (pg_name (i := 5) sc_remade.nd rfl (Or.inl rfl))
            (fun C s₀ H₀ ex=>pts_nil) (fun C s₀ H₀ ex=>by exact pe_bm0 PySem.F.plainAttrs_list PySem.F.slot_list_pop PySem.F.type_list_pop mt_pop (pv 1)) (by with_unfolding_all rfl))
      (pss_one (ps_expr (pe_bm PySem.F.plainAttrs_list PySem.F.slot_list_append PySem.F.type_list_append mt_append (pv 2) (pa_cons (pe_callF (pv 1) (pa_cons (pe_ix ix_tup (pv 4) pe_int (fun _ _=>rfl)) (pa_cons (pv 5) pa_nil))) pa_nil)))))))
    (pss_one (ps_ret (pe_ix ix_list (pv 2) pe_int (fun _ _=>rfl))))),?_⟩
  refine ⟨small (by show 0 ≤ 1000000; decide),fun ld hld=>?_⟩
  have e1 := same_new hld (.lst [])
  refine ⟨_,rfl,v,t,n,rfl,rt.same e1,kt,hsz,fun l ws H2 e2 hl hl2 rw2 lw=>?_⟩
  have nl : l ≠ ld := fun e=>by rw [e,upd_same] at hl; cases hl
  have lpre := rw2.length
  refine ⟨l,ws,rfl,SqL.of hl2,for_rev (xs := ws) (fun j σ H'=>∃ (o3 o4 o5 : Option V) (vs : List V),σ = [some v,some (.ref fm),some (.ref ld),o3,o4,o5] ∧ H' ld = some (.lst vs) ∧ H' l = some (.lst ws) ∧
      Reps H' vs.reverse (rems g (stk t (ws.length - j))) ∧ Reps H' ws (pre t) ∧ Same H H')
    ⟨none,none,none,[],rfl,e2 _ _ upd_same,hl2,?_,rw2,e1.trans e2⟩ ?_ ?_ ?_⟩
  · rw [Nat.sub_zero,lpre,stk_end,rems]
    exact .nil
  · rintro j σ H' hj ⟨o3,o4,o5,vs,rfl,_,h,_⟩
    exact SqL.of h
  · rintro j x σ H3 hj hx ⟨o3,o4,o5,vs,rfl,hd3,hl3,rv3,rw3,e3⟩
    obtain ⟨p,hp,rx⟩ := rw3.at2 hx
    obtain ⟨r,hr'⟩ := stk_at hp
    obtain ⟨n',kp⟩ := kd_pre kt p (List.mem_of_getElem? hp)
    have es : stk t (ws.length - j) = kidsT p ++ r := by
      rw [show ws.length - j = (ws.length - 1 - j) + 1 by omega]
      show stepS (stk t (ws.length - 1 - j)) = _
      rw [hr']
      rfl
    have es1 : stk t (ws.length - (j + 1)) = p :: r := by rw [show ws.length - (j + 1) = ws.length - 1 - j by omega]; exact hr'
    rw [es] at rv3
    have lvs : vs.length ≤ 100000 := by
      have h1 := rv3.length
      rw [← es,rems_map,List.length_map,List.length_reverse] at h1
      have h2 := stk_len t (ws.length - j)
      omega
    obtain ⟨z,hh,hz,l3,hnz,hrem⟩ := kp.head
    refine ⟨_,rfl,x,p,n',rfl,rx,kp,fun a xs H4 e4 ha4 rxs=>?_⟩
    rw [hh] at rxs
    generalize hks : kidsT p = ks at *
    have hd4 := e4 _ _ hd3
    have hl4 := e4 _ _ hl3
    have rvk : Reps H4 vs.reverse (rems g ks ++ rems g r) := by rw [← rems_app]; exact rv3.same e4
    have rw4 := rw3.same e4
    have s4 := e3.trans e4
    obtain ⟨RA,RB,eR,rA,rB⟩ := rvk.split
    have ev : vs = RB.reverse ++ RA.reverse := by
      have := congrArg List.reverse eR
      rw [List.reverse_reverse,List.reverse_append] at this
      exact this
    have lA : RA.length = ks.length := by rw [rA.length,rems_map,List.length_map]
    have lB : RB.length ≤ 100000 := by rw [ev] at lvs; rw [List.length_append,List.length_reverse,List.length_reverse] at lvs; omega
    cases rxs with
    | @cons v0 _ vr _ r0 rr =>
      cases r0
      have lr := rr.length
      refine ⟨_,rfl,a,_,rfl, .inr (SqT.of ha4),1,((V.str z :: vr).length : Nat),rfl,⟨by decide,by decide,by omega,by simp only [List.length_cons]; omega⟩,?_⟩
      have en : (((V.str z :: vr).length : Nat) - 1 : Int).toNat = ks.length := by simp only [List.length_cons]; omega
      rw [en]
      have kpt : ∀ H' : Hp,(∀ c u,c ≠ ld → H4 c = some u → H' c = some u) → ∀ c xs,H4 c = some (.tup xs) → H' c = some (.tup xs) := fun H' k c xs h=>k c _ (ne_of h hd4 (by intro z; cases z)) h
      refine comp_range (n := ks.length) (fun k us H'=>H' ld = some (.lst (RB.reverse ++ (RA.drop k).reverse)) ∧ us = RA.take k ∧ ∀ c u,c ≠ ld → H4 c = some u → H' c = some u)
        ⟨by rw [List.drop_zero,← ev]; exact hd4,by simp,fun c u _ h=>h⟩ ?_ ?_ ?_
      · rintro k us H' hk' ⟨_,rfl,_⟩
        exact small' (by rw [List.length_take]; omega)
      · rintro k us H' hk' ⟨hd',rfl,kk⟩
        have hka : k < RA.length := by omega
        have ed : RA.drop k = RA[k] :: RA.drop (k + 1) := List.drop_eq_getElem_cons hka
        have ex : RB.reverse ++ (RA.drop k).reverse = (RB.reverse ++ (RA.drop (k + 1)).reverse) ++ [RA[k]] := by rw [ed,List.reverse_cons,List.append_assoc]
        rw [ex] at hd'
        refine tt1 (iteT ⟨_,rfl, .inl ⟨rfl,_,SqL.of hd'⟩,ld,_,RA[k],rfl,rfl,hd',by simp,nx hk' ?_⟩)
        rw [List.dropLast_concat]
        refine ⟨upd_same,?_,fun c u hc h=>by rw [upd_ne hc]; exact kk c u hc h⟩
        rw [List.take_add_one,List.getElem?_eq_getElem hka]
        rfl
      · rintro us H5 ⟨hd5,rfl,kk⟩ li hli
        rw [List.drop_eq_nil_of_le (by omega),List.reverse_nil,List.append_nil] at hd5
        have eT : RA.take ks.length = RA := List.take_of_length_le (by omega)
        rw [eT]
        have s6 := same_new hli (.lst RA)
        have hd6 := s6 _ _ hd5
        have hli6 : (upd H5 li (.lst RA)) li = some (.lst RA) := upd_same
        have k6 : ∀ c u,c ≠ ld → H4 c = some u → (upd H5 li (.lst RA)) c = some u := fun c u hc h=>s6 _ _ (kk c u hc h)
        revert s6 hd6 hli6 k6
        generalize upd H5 li (.lst RA) = H6
        intro s6 hd6 hli6 k6
        have tu6 := kpt H6 k6
        have s06 : Same H H6 := fun c u h=>k6 c u (ne_of_none h hld) (s4 c u h)
        refine ⟨_,rfl, .inl ⟨rfl,_,SqL.of hd6⟩,fm,fo,gd,gd',_,_,2,rfl,s06 _ _ hfm,hfd,hr,G,gb,_,rfl,a,_,0, .str z,rfl,rfl,SqT.of (tu6 _ _ ha4),atI_nat (j := 0) rfl,_,rfl,s06 _ _ hfm,z,li,RA,rems g ks,rfl,s06,hli6,rA.mono tu6,hz,by rw [rems_map,List.length_map]; exact l3,fun hne=>hnz (fun e=>hne (by rw [e,rems])),fun v' H7 e7 rv'=>?_⟩
        have hd7 := e7 _ _ hd6
        refine ⟨ld,RB.reverse,v',rfl,rfl,hd7,small' (by rw [List.length_reverse]; omega),?_⟩
        have k8 : ∀ c u,c ≠ ld → H4 c = some u → (upd H7 ld (.lst (RB.reverse ++ [v']))) c = some u := fun c u hc h=>by rw [upd_ne hc]; exact e7 _ _ (k6 c u hc h)
        have tu8 := kpt _ k8
        have tu7 : ∀ c xs,H7 c = some (.tup xs) → (upd H7 ld (.lst (RB.reverse ++ [v']))) c = some (.tup xs) := fun c xs h=>by rw [upd_ne (ne_of h hd7 (by intro z; cases z))]; exact h
        refine ⟨_,_,_,RB.reverse ++ [v'],rfl,upd_same,k8 l _ nl hl4,?_,rw4.mono tu8,fun c u h=>k8 c u (ne_of_none h hld) (s4 c u h)⟩
        rw [es1,List.reverse_append,List.reverse_reverse,rems,hrem g]
        exact .cons (rv'.mono tu7) (rB.mono tu8)
  · rintro σ H3 ⟨o3,o4,o5,vs,rfl,hd3,hl3,rv3,rw3,e3⟩
    rw [Nat.sub_self] at rv3
    have rv3' : Reps H3 vs.reverse [remT g t] := by
      have h0 : rems g (stk t 0) = [remT g t] := by show rems g [t] = _; rw [rems,rems]
      rw [h0] at rv3; exact rv3
    cases hv : vs.reverse with
    | nil=>rw [hv] at rv3'; cases rv3'
    | cons v' rest =>
      rw [hv] at rv3'
      cases rv3' with
      | cons rv' rr =>
        cases rr
        have ev : vs = [v'] := by
          have := congrArg List.reverse hv
          rw [List.reverse_reverse] at this
          rw [this]; rfl
        subst ev
        exact ⟨_,rfl,ld,_,0,v',rfl,rfl,SqL.of hd3,atI_nat (j := 0) rfl,q v' H3 e3 rv'⟩
end
end Fw
set_option Elab.async false
set_option linter.all false
set_option maxRecDepth 100000
namespace Fw
open PySem PySem.Spec PyProof.Rows L2
def SameT (H H' : Hp) : Prop := ∀ b o,(∀ ps,o ≠ .tbl ps) → H b = some o → H' b = some o
theorem Same.toT {H H' : Hp} (e : Same H H') : SameT H H' := fun b o _ h=>e b o h
theorem SameT.trans {H H1 H2 : Hp} (a : SameT H H1) (b : SameT H1 H2) : SameT H H2 := fun c o n h=>b c o n (a c o n h)
theorem SameT.tups {H H' : Hp} (e : SameT H H') : ∀ b xs,H b = some (.tup xs) → H' b = some (.tup xs) := fun b xs h=>e b _ (fun ps z=>by cases z) h
theorem SameT.lst {H H' : Hp} (e : SameT H H') {b : Addr} {xs : List V} (h : H b = some (.lst xs)) : H' b = some (.lst xs) := e b _ (fun ps z=>by cases z) h
theorem SameT.dK {H H' : Hp} (e : SameT H H') {b : Addr} {k : List (Key × V)} (h : H b = some (.dK k)) : H' b = some (.dK k) := e b _ (fun ps z=>by cases z) h
def TbOk (Pt : Addr) (q : Str) (pos : Pos) (H : Hp) : Prop := H Pt = some (.tbl #[]) ∨ ∃ c' oc,H Pt = some (.tbl #[rawInt pos.line,rawInt pos.col, .ref c']) ∧ H c' = some (objO c' oc) ∧ CodeO oc q
theorem TbOk.same {Pt : Addr} {q : Str} {pos : Pos} {H H' : Hp} (h : TbOk Pt q pos H) (e : Same H H') : TbOk Pt q pos H' := by
  rcases h with h | ⟨c',oc,h1,h2,h3⟩
  · exact .inl (e _ _ h)
  · exact .inr ⟨c',oc,e _ _ h1,e _ _ h2,h3⟩
def gPut (m : List (Str × T)) (z : Str) : List T → T
  | []=>fillT m (.str z)
  | t :: r=>.tup (.str z :: t :: r)
theorem rem_put (m : List (Str × T)) {n : Nat} {t : T} (h : KD n t) : remT (gPut m) t = fillT m t := by
  induction h with
  | @leaf n z hz=>rw [remT]; rfl
  | @tup n z ks nz k1 k3 hk ih =>
    rw [remT,rem1,rems_map]
    have e : ks.map (remT (gPut m)) = ks.map (fillT m) := List.map_congr_left fun k hk'=>ih k hk'
    rw [e]
    have e2 : fillT m (.tup (.str z :: ks)) = .tup (.str z :: fills m ks) := by rw [fillT,fill1]
    rw [e2,fills_map]
    cases ks with
    | nil=>simp at k1
    | cons k r=>rfl
def spFormed : Sp := fun vs H Q _=>∃ (z : Str) (a : Addr) (xs : List V) (ts : List T),vs = [.str z, .ref a] ∧ z.length ≤ 100000 ∧ H a = some (.lst xs) ∧ Reps H xs ts ∧ xs.length ≤ 1000 ∧ ∀ v H',Same H H' → Rep H' v (match ts with | []=>.str z | t :: r=>.tup (.str z :: t :: r)) → Q v H'
section
variable {P : Program} {w : World} {K : PySem.W.Frag} {mg : Str → Option Value} {base : Heap} {f : Addr} {fd : FuncData}
abbrev s_formed : Stmt := top 3
theorem sc_formed : FnScope ["head","inner"] ["head","inner"] (defScope s_formed) := ⟨rfl,rfl,rfl,by decide +kernel,rfl,by decide +kernel,by decide +kernel⟩
theorem ok_formed (F : Fun K "formed" "formed" s_formed f fd) (ml : mg "len" = none) (mt : mg "tuple" = none) : FnOk P w K mg base CX0 1 f fd ["head","inner"] spFormed := by
  refine F.ok sc_formed (fun vs H Q E h=>?_) (fun cdv A outer s H vs Q E hr h=>?_)
  · obtain ⟨z,a,xs,ts,rfl,_⟩ := h
    rfl
  obtain ⟨z,a,xs,ts,rfl,hz,ha,ra,hl,q⟩ := h
  refine ⟨_,pss_one (ps_ret (pe_ifExp (pt_cmpR op_gt (pe_callB call_len_seq rfl ml PySem.boot_len (pa_cons (pv 1) pa_nil)) pe_int (nomark _))
    (pe_op op_catT (pe_tup (pa_cons (pv 0) pa_nil)) (pe_callTy call_tuple_of rfl mt boot_tuple (pa_cons (pv 1) pa_nil))) (pv 0))),?_⟩
  refine ⟨_,rfl,a,xs,rfl, .inl (SqL.of ha),_,_,rfl,rfl,_,rfl,ite2 (fun c=>?_) (fun c=>?_)⟩
  · have c1 : (0 : Int) < xs.length := of_decide_eq_true c
    refine ⟨_,rfl,small (by show 1 ≤ 1000000; decide),fun p hp=>?_⟩
    have e1 := same_new hp (.tup [V.str z])
    refine ⟨_,rfl,a,xs,rfl, .inl ⟨SqL.of (e1 _ _ ha),fun p1 hp1=>?_⟩⟩
    have e2 := same_new hp1 (.tup xs)
    refine ⟨p,p1,_,xs,rfl,rfl,SqT.of (e2 _ _ upd_same),SqT.of upd_same,by simp,small (by simp; omega),(fun e=>by rw [e] at c1; simp at c1),fun _ p2 hp2=>?_⟩
    have e3 := same_new hp2 (.tup ([V.str z] ++ xs))
    have e13 := (e1.trans e2).trans e3
    cases ra with
    | nil=>simp at c1
    | @cons v0 t0 vr tr r0 rr=>exact q _ _ e13 (.tup upd_same (.cons (.str z (by omega)) (.cons (r0.same e13) (rr.same e13))))
  · cases ra with
    | nil=>exact ⟨_,rfl,q _ H (Same.refl _) (.str z (by omega))⟩
    | cons r0 rr=>exact absurd (decide_eq_true (by simp)) c
abbrev s_put : Stmt := top 8
def lamE : Expr := match (defBody s_put).getD 1 (.Pass ⟨0,0,0,0⟩) with
  | .Return (some (.Call _ as _ _)) _=>as.getD 1 (.List [] ⟨0,0,0,0⟩)
  | _=>.List [] ⟨0,0,0,0⟩
def lamA : Arguments := match lamE with
  | .Lambda a _ _ _=>a
  | _=>defArgs s_put
def lamB : Expr := match lamE with
  | .Lambda _ b _ _=>b
  | _=>lamE
def lamS : Scope := match lamE with
  | .Lambda _ _ s _=>s
  | _=>defScope s_put
def lamP : Pos := match lamE with
  | .Lambda _ _ _ p=>p
  | _=>⟨0,0,0,0⟩
abbrev lamQ : Str := "put" ++ ".<locals>." ++ "<lambda>"
theorem sc_lam : LamScope ["head","inner","by"] ["head","inner"] "by" lamS := ⟨rfl,rfl,rfl,by decide +kernel,rfl,by decide +kernel,rfl,by decide +kernel,by decide +kernel⟩
theorem starts_nq {z : Str} (h : NQ z) : Txt.startswith z "?" = false := by rw [starts_qm]; exact decide_eq_false h.1
set_option maxHeartbeats 1000000 in
theorem ok_lam {H0 : Hp} {fl c' c b : Addr} {pm ctv : Value} {oc oy : Obj} {u : Value} {kvs : List (Key × V)} {m : List (Str × T)} (h1 : Has P w K mg base 1 "is_open" ["thing"] spOpen) (h2 : Has P w K mg base 1 "formed" ["head","inner"] spFormed)
    (hc : CodeO oc lamQ) (hoy : oy.data = .cell (some u)) (ru : RelV (.ref b) u) (e1 : H0 fl = some (objO fl (PySem.W.kla_obj "<lambda>" lamQ lamA lamB lamS [("by",c)] pm c' ctv))) (e2 : H0 c' = some (objO c' oc)) (e3 : H0 c = some (objO c oy)) (hb : H0 b = some (.dK kvs)) (dr : DReps H0 kvs m) (hop : ∀ x ∈ m,Txt.startswith x.1 "?" = true) :
    FnOk P w K mg base CX0 2 fl (PySem.W.kla_fn "<lambda>" lamQ lamA lamB lamS [("by",c)] pm (.ref c') ctv) ["head","inner"] (spMk H0 (gPut m)) := by
  obtain ⟨vs0,tq,hd0,hv0⟩ := hc
  refine lam_fn (v := .ref b) (t0 := u) sc_lam hd0 hv0 hoy ru (fun vs H Q E h=>?_) (fun A outer s H vs Q E hr h=>?_)
  · obtain ⟨z,li,us,ts,rfl,_⟩ := h
    rfl
  obtain ⟨z,li,us,ts,rfl,s0,hli,rus,hz,l3,hnz,q⟩ := h
  have hu := hu_of hr
  have n : ∀ {x : Addr} {o : HO},H x = some o → o ≠ objO c oy → x ≠ c := fun hx no z=>by rw [z,s0 _ _ e3] at hx; exact no (Option.some.inj hx).symm
  have nl : ∀ {xs : List V},HO.lst xs ≠ objO c oy := fun z=>by
    have z' : HO.lst _ = HO.ext _ := z
    cases z'
  have nd : ∀ {xs : List (Key × V)},HO.dK xs ≠ objO c oy := fun z=>by
    have z' : HO.dK _ = HO.ext _ := z
    cases z'
  have tu : ∀ b xs,H b = some (.tup xs) → (del H c) b = some (.tup xs) := fun b xs h=>by rw [del_ne (objO_tup (s0 _ _ e3) h)]; exact h
  have hbH := s0 _ _ hb
  have hb' : (del H c) b = some (.dK kvs) := by rw [del_ne (n hbH nd)]; exact hbH
  have hli' : (del H c) li = some (.lst us) := by rw [del_ne (n hli nl)]; exact hli
  have back : ∀ {v' : V} {H' : Hp} {t' : T},Same (del H c) H' → Rep H' v' t' → H' c = none → Same H (upd H' c (objO c oy)) ∧ Rep (upd H' c (objO c oy)) v' t' := fun {v' H' t'} sm r nc=>by
    refine ⟨fun d o hd=>?_,r.mono fun d xs hd=>by rw [upd_ne (ne_of_none hd nc)]; exact hd⟩
    by_cases z : d = c
    · rw [z,s0 _ _ e3] at hd; cases hd; rw [z]; exact upd_same
    · rw [upd_ne z]; exact sm _ _ (by rw [del_ne z]; exact hd)
  refine ⟨s0 _ _ e1,s0 _ _ e2,s0 _ _ e3,_,pe_ifExp (pt_val (pcall h1 hr (by decide) rfl (pa_cons (pv 0) pa_nil))) (pe_dget2 hu (pv 2) (pv 0) (pv 0) ⟨rfl,rfl,rfl,rfl⟩) (pcall h2 hr (by decide) rfl (pa_cons (pv 0) (pa_cons (pv 1) pa_nil))),?_⟩
  refine ⟨_,rfl, .str z, .str z,rfl, .str z (by omega),_,rfl,ite2 (fun c2=>?_) (fun c2=>?_)⟩
  · have c3 : Txt.startswith z "?" = true := c2
    have e0 : ts = [] := by
      cases ts with
      | nil=>rfl
      | cons t r=>rw [starts_nq (hnz (by simp))] at c3; cases c3
    subst e0
    refine ⟨_,rfl,b,rfl, .inl ⟨kvs, .inl hb'⟩,_,rfl,_,rfl,_,DGet.k (k := Sum.inr z) hb',?_⟩
    have dr' : DReps (del H c) kvs m := (dr.mono (Same.tups s0)).mono tu
    rcases dr'.get z with ⟨g1,g2⟩ | ⟨v',t',g1,g2,r'⟩
    · rw [g1]
      intro nc
      obtain ⟨k1,k2⟩ := back (v' := .str z) (t' := .str z) (Same.refl _) (.str z (by omega)) nc
      refine q _ _ k1 ?_
      show Rep _ _ ((m.lookup z).getD (.str z))
      rw [g2]
      exact k2
    · rw [g1]
      intro nc
      obtain ⟨k1,k2⟩ := back (Same.refl _) r' nc
      refine q _ _ k1 ?_
      show Rep _ _ ((m.lookup z).getD (.str z))
      rw [g2]
      exact k2
  · have lus := rus.length
    refine ⟨_,rfl,_,rfl,z,li,us,ts,rfl,by omega,hli',rus.mono tu,by omega,fun v' H' sm r=>?_⟩
    intro nc
    obtain ⟨k1,k2⟩ := back sm r nc
    refine q _ _ k1 ?_
    cases ts with
    | nil =>
      show Rep _ _ ((m.lookup z).getD (.str z))
      rw [lookup_no fun y hy e=>c2 (by have := hop y hy; rw [e] at this; exact this)]
      exact k2
    | cons t r=>exact k2
end
end Fw
set_option Elab.async false
set_option linter.all false
set_option maxRecDepth 100000
namespace L2
open PySem PySem.Spec PyProof.Rows
theorem Fun.okC {P : Program} {w : World} {K : PySem.W.Frag} {mg : Str → Option Value} {base : Heap} {x qual : Str} {st : Stmt} {f : Addr} {fd : FuncData} {N ps : List Str} {k : Nat} {sp : Sp} {cd : Value} (F : Fun K x qual st f fd) (S : FnScope N ps (defScope st)) (hcode : fd.code = cd) (len : ∀ vs H Q E,sp vs H Q E → vs.length = ps.length)
    (hbody : ∀ (A : Around) (outer : List Env) (s : Shared) (H : Hp) (vs : List V) (Q : VK) (E : XK),Room k (A.deeper (envOfC qual (defScope st) s.heap.objs.size f cd)) → sp vs H Q E →
      ∃ t,PSs (cxOf CX0 P w K mg base N qual (defScope st) f cd A outer s H E).nox (defBody st) t ∧ t { nx := fun _ H'=>Q .non H',rt := Q } (start N vs) H) : FnOk P w K mg base CX0 (k + 1) f fd ps sp := by
  obtain ⟨oc,od,kV,doc,pm,an,cdv,ct,osl,rfl,lk,hcd⟩ := F.ex
  have e : cdv = cd := hcode
  subst e
  refine fn_of lk hcd S len fun A outer s H vs Q E hr hsp=>?_
  obtain ⟨t,h,q⟩ := hbody A outer s H vs Q E hr hsp
  exact ⟨t,h.nox,q⟩
theorem closL_nil {cells : List (Str × Addr)} : ∀ (names : List (Str × NameKind)) (acc : List (Str × Addr)),(names.filter fun p=>p.2 == .free) = [] → closL cells names acc = acc
  | [],acc,_=>rfl
  | (n,k) :: r,acc,h=>by
    cases hk : k == NameKind.free with
    | true=>rw [List.filter_cons_of_pos (by exact hk)] at h; cases h
    | false =>
      rw [List.filter_cons_of_neg (by show ¬ (k == NameKind.free) = true; rw [hk]; simp)] at h
      unfold closL
      rw [hk]
      exact closL_nil r acc h
theorem closL_one {cells : List (Str × Addr)} {y : Str} {c : Addr} (hc : cells.lookup y = some c) : ∀ (names : List (Str × NameKind)) (acc : List (Str × Addr)),(names.filter fun p=>p.2 == .free) = [(y, .free)] → closL cells names acc = (y,c) :: acc
  | [],acc,h=>by cases h
  | (n,k) :: r,acc,h=>by
    cases hk : k == NameKind.free with
    | true =>
      rw [List.filter_cons_of_pos (by exact hk)] at h
      have h1 := (List.cons.inj h).1
      have h2 := (List.cons.inj h).2
      cases h1
      unfold closL
      rw [hk,hc]
      exact closL_nil r _ h2
    | false =>
      rw [List.filter_cons_of_neg (by show ¬ (k == NameKind.free) = true; rw [hk]; simp)] at h
      unfold closL
      rw [hk]
      exact closL_one hc r acc h
theorem clos_one {scope : Scope} {env : Env} {y : Str} {c : Addr} (hc : env.cells.lookup y = some c) (h : (scope.names.filter fun p=>p.2 == .free) = [(y, .free)]) : closureFor scope env = pure [(y,c)] := by
  rw [closL_eq (scope := scope) (env := env) fun p hp hf=>by
    have : p ∈ scope.names.filter fun p=>p.2 == .free := List.mem_filter.mpr ⟨hp,by rw [hf]; rfl⟩
    rw [h,List.mem_singleton] at this
    rw [this]
    exact ⟨c,hc⟩,closL_one hc _ _ h]
end L2
namespace Fw
open PySem PySem.Spec PyProof.Rows L2
def spPut (Pt : Addr) : Sp := fun vs H Q _=>∃ (v : V) (b : Addr) (t : T) (n : Nat) (kvs : List (Key × V)) (m : List (Str × T)),vs = [v, .ref b] ∧ Rep H v t ∧ KD n t ∧ t.sz ≤ 100000 ∧ H b = some (.dK kvs) ∧ DReps H kvs m ∧
  (∀ x ∈ m,Txt.startswith x.1 "?" = true) ∧ TbOk Pt lamQ lamP H ∧ ∀ v' H',SameT H H' → TbOk Pt lamQ lamP H' → Rep H' v' (fillT m t) → Q v' H'
theorem lam_free : (lamS.names.filter fun p=>p.2 == .free) = [(("by" : Str),NameKind.free)] := by first | rfl | decide +kernel
theorem put_cell : (defScope s_put).names.lookup ("by" : Str) = some .cell := by first | rfl | decide +kernel
section
variable {P : Program} {w : World} {K : PySem.W.Frag} {mg : Str → Option Value} {base : Heap} {f cp Pt : Addr} {fd : FuncData}
theorem sc_put : FnScope ["kind","by"] ["kind","by"] (defScope s_put) := ⟨rfl,rfl,rfl,by decide +kernel,rfl,by decide +kernel,by decide +kernel⟩
theorem lam_binds {pm cdv ctv : Value} {c : Addr} : Binds K (PySem.W.kla_fn "<lambda>" lamQ lamA lamB lamS [("by",c)] pm cdv ctv) ["head","inner"] [] := .all fun us hl=>match us,hl with
  | [_,_],_=>rfl
set_option maxHeartbeats 2000000 in
theorem ok_put (F : Fun K "put" "put" s_put f fd) (hcode : fd.code = .ref cp) (CH : PySem.W.CodeHd base cp Pt) (BM : BMain mg base) (ml : mg "len" = none) (h1 : Has P w K mg base 1 "is_open" ["thing"] spOpen) (h2 : Has P w K mg base 1 "formed" ["head","inner"] spFormed)
    (h3 : Has P w K mg base 3 "remade" ["kind","make"] (spRemade P w K mg base)) : FnOk P w K mg base CX0 4 f fd ["kind","by"] (spPut Pt) := by
  obtain ⟨fr,gr,Fr,br,kr,mr⟩ := h3
  refine F.okC sc_put hcode (fun vs H Q E h=>?_) (fun A outer s H vs Q E hr h=>?_)
  · obtain ⟨v,b,t,n,kvs,m,rfl,_⟩ := h
    rfl
  obtain ⟨v,b,t,n,kvs,m,rfl,rt,kt,hsz,hb,dr,hop,tb,q⟩ := h
  obtain ⟨c,hc⟩ := cell_has (n := s.heap.objs.size + 1) put_cell
  refine ⟨_,pss_cons (ps_if (pt_cmpR op_eq (pe_callB call_lenD rfl ml PySem.boot_len (pa_cons (pv 1) pa_nil)) pe_int (nomark _)) (pss_one (ps_ret (pv 0))) pss_nil)
    (pss_one (ps_ret (pe_callL (i := 1) (y := "by") (c := c) Fr br kr mr hr rfl rfl put_cell hc rfl (pa_cons (pv 0) (pa_cons (pe_lam (P := Pt) (cp := cp) (params := lamA) (body := lamB) (scope := lamS) (pos := lamP) (clos := [("by",c)]) (clos_one hc lam_free) rfl CH BM) pa_nil))))),?_⟩
  refine ⟨_,rfl,b,kvs,rfl,hb,rfl,_,rfl,?_⟩
  refine ite2 (fun c=>?_) (fun _=>?_)
  · have c1 : (kvs.length : Int) = 0 := by
      have := of_decide_eq_true c
      injection this
    have e : kvs = [] := List.length_eq_zero_iff.mp (by omega)
    subst e
    cases dr
    exact ⟨_,rfl,q v H (Same.toT (Same.refl _)) tb (by rw [fill_nil]; exact rt)⟩
  have go : ∀ (H1 : Hp) (fl c' : Addr) (oc : Obj) (ctv : Value),SameT H H1 → H1 fl = some (objO fl (PySem.W.kla_obj "<lambda>" lamQ lamA lamB lamS [("by",c)] ((mg "__name__").getD .none) c' ctv)) → H1 c' = some (objO c' oc) → CodeO oc lamQ → H1 Pt = some (.tbl #[rawInt lamP.line,rawInt lamP.col, .ref c']) →
      ∀ (oy : Obj) (u : Value),oy.data = .cell (some u) → RelV (.ref b) u → H1 c = none → spRemade P w K mg base [v, .ref fl] (upd H1 c (objO c oy)) (fun r H'=>H' c = some (objO c oy) ∧ Q r (del H' c)) E0 := by
    intro H1 fl c' oc ctv s1 e1 e2 e3 e4 oy u hoy ru nc
    have up : ∀ {d : Addr} {o : HO},H1 d = some o → (upd H1 c (objO c oy)) d = some o := fun h=>by rw [upd_ne (ne_of_none h nc)]; exact h
    have s2 : SameT H (upd H1 c (objO c oy)) := fun d o n h=>up (s1 d o n h)
    have hat : (upd H1 c (objO c oy)) c = some (objO c oy) := upd_same
    refine ⟨v,fl,t,n,gPut m,_,_,_,rfl,rt.mono s2.tups,kt,hsz,up e1,rfl,ok_lam h1 h2 e3 hoy ru (up e1) (up e2) hat (s2.dK hb) (dr.mono s2.tups) hop,lam_binds,fun v' H' e rv=>⟨e _ _ hat,?_⟩⟩
    rw [rem_put m kt] at rv
    have hc' : H' c = some (objO c oy) := e _ _ hat
    refine q v' _ (fun d o n h=>?_) (.inr ⟨c',oc,?_,?_,e3⟩) (rv.mono fun d xs hd=>by rw [del_ne (objO_tup hc' hd)]; exact hd)
    · rw [del_ne (ne_of_none (s1 d o n h) nc)]; exact e _ _ (s2 d o n h)
    · rw [del_ne (ne_of_none e4 nc)]; exact e _ _ (up e4)
    · rw [del_ne (ne_of_none e2 nc)]; exact e _ _ (up e2)
  refine ⟨_,rfl,?_⟩
  rcases tb with tb | ⟨c',oc,tb,hc1,hc2⟩
  · refine ⟨#[],tb,trivial, .inl ⟨rfl,fun fl c' oc ctv nc nf ncf hco=>⟨_,rfl,?_⟩⟩⟩
    have nP : ∀ {d : Addr} {o : HO},(∀ ps,o ≠ .tbl ps) → H d = some o → d ≠ Pt := fun n h z=>by rw [z,tb] at h; exact n _ (Option.some.inj h).symm
    have cP : c' ≠ Pt := fun z=>by rw [z,tb] at nc; cases nc
    have fP : fl ≠ Pt := fun z=>by rw [z,tb] at nf; cases nf
    refine go _ fl c' oc ctv (fun d o n h=>?_) upd_same ?_ hco ?_
    · rw [upd_ne (ne_of_none h nf),upd_ne (ne_of_none h nc),upd_ne (nP n h)]; exact h
    · rw [upd_ne ncf]; exact upd_same
    · rw [upd_ne (Ne.symm fP),upd_ne (Ne.symm cP)]; exact upd_same
  · refine ⟨_,tb,by trivial, .inr ⟨c',?_,fun fl ctv nf=>⟨_,rfl,?_⟩⟩⟩
    · simp [codeAmong,rawInt]
    exact go _ fl c' oc ctv (fun d o n h=>by rw [upd_ne (ne_of_none h nf)]; exact h) upd_same (by rw [upd_ne (ne_of_none hc1 nf)]; exact hc1) hc2 (by rw [upd_ne (ne_of_none tb nf)]; exact tb)
end
end Fw
set_option Elab.async false
set_option linter.all false
set_option maxRecDepth 100000
namespace L2
open PySem PySem.Spec PyProof.Rows PySem.W
theorem mix_rel {P : Program} {w : World} {k : Key} {v : Value} (h : (mixKind P w).is k v = true) : RelV (kV k) v := by
  cases k with
  | inl i=>exact ⟨_,(Value.isInt_shape h).choose_spec⟩
  | inr z=>exact ⟨_,(Value.isStrOf_shape h).choose_spec⟩
theorem call_list_d {X : Cx} (hc : X.calm = true) : CallR X (.type "list") (fun xs H Q=>∃ a kvs,xs = [V.ref a] ∧ H a = some (.dK kvs) ∧ ∀ l,H l = none → Q (.ref l) (upd H l (.lst (kvs.map fun kv=>kV kv.1)))) := by
  intro pins s σ H xs us Q I r h
  obtain ⟨a,kvs,rfl,e,q⟩ := h
  obtain ⟨u,rfl,rx⟩ := vals1 r
  cases rx
  obtain ⟨hz,hs,vs,kv,dd⟩ := dk_of I.hok e
  obtain ⟨ep,hat⟩ := dd.dictAt
  have hl := kv.length
  refine kdl_call (kdl_dict (knd := mixKind X.prog X.w) (kvs := vs) (ep := ep) hs) (I.ok.hd hc) hat (by rw [← hl]; exact hz) fun h' tk acc c kp hS hacc=>?_
  have hk := kv.keys
  have va : Vals (kvs.map fun kv=>kV kv.1) acc.toList := by
    refine Vals.of_get (by rw [List.length_map,hl,← hacc.1]; simp) fun i x u ex eu=>?_
    have eu' : acc[i]? = some u := by simpa using eu
    obtain ⟨k,y,hk1,hk2⟩ := hacc.2 i u eu'
    have q1 : (kvs.map (·.1))[i]? = some k := by rw [hk,List.getElem?_map,hk1]; rfl
    have q2 : (kvs.map fun kv=>kV kv.1)[i]? = some (kV k) := by
      rw [show (kvs.map fun kv=>kV kv.1) = (kvs.map (·.1)).map kV by rw [List.map_map]; rfl,List.getElem?_map,q1]; rfl
    rw [q2] at ex
    cases ex
    exact mix_rel hk2
  have ea : acc.toList.toArray = acc := by simp
  exact ⟨.ref s.heap.objs.size,_,I.laid (t' := tk) kp (Nat.le_refl _) (show ObjOk X.prog X.w _ h' _ (.lst (kvs.map fun kv=>kV kv.1)) from ⟨by rw [List.length_map]; exact hz,acc.toList,c,va,by rw [ea]; exact hS⟩),rfl,q _ (I.hok.fresh (Nat.le_refl _))⟩
end L2
set_option Elab.async false
set_option linter.all false
set_option maxRecDepth 100000
namespace L2
open PySem PySem.Spec PyProof.Rows
theorem boot_dict' : bootBuiltins "dict" = some (.type "dict") := by decide +kernel
theorem call_dict_d {X : Cx} : CallR X (.type "dict") (fun xs H Q=>∃ a kvs,xs = [V.ref a] ∧ H a = some (.dK kvs) ∧ ∀ p,H p = none → Q (.ref p) (upd H p (.dK kvs))) := by
  intro pins s σ H xs us Q I r h
  obtain ⟨a,kvs,rfl,e,q⟩ := h
  obtain ⟨u,rfl,rx⟩ := vals1 r
  cases rx
  exact d_copyOf I (.inl e) fun p s' hp I'=>⟨.ref p,_,I',rfl,q p hp⟩
end L2
namespace Fw
open PySem PySem.Spec PyProof.Rows L2
theorem lq_open {n : Nat} {z : Str} (h : LQ n z) : Txt.startswith z "?" = true := by rw [starts_qm]; exact decide_eq_true h.1
mutual
theorem fill_self {m : List (Str × T)} (h : ∀ z,fillT m (.str z) = .str z) : ∀ t : T,fillT m t = t
  | .int i=>rfl
  | .str z=>h z
  | .tup []=>rfl
  | .tup (a :: r)=>by show T.tup (a :: fills m r) = _; rw [fills_self h r]
theorem fills_self {m : List (Str × T)} (h : ∀ z,fillT m (.str z) = .str z) : ∀ l : List T,fills m l = l
  | []=>rfl
  | t :: r=>by show fillT m t :: fills m r = _; rw [fill_self h t,fills_self h r]
end
theorem lookup_mem {m : List (Str × T)} {z : Str} {t : T} (h : m.lookup z = some t) : (z,t) ∈ m := mem_of_lookup' h
theorem KD.fill {n k : Nat} {m : List (Str × T)} (hm : ∀ x ∈ m,KD k x.2) {t : T} (h : KD n t) : KD (n + k) (fillT m t) := by
  induction h with
  | @leaf n z hz =>
    show KD (n + k) ((m.lookup z).getD (.str z))
    cases e : m.lookup z with
    | none=>exact .leaf hz
    | some t=>exact (hm _ (lookup_mem e)).up (by omega)
  | @tup n z ks nz k1 k3 hk ih =>
    show KD (n + 1 + k) (T.tup (.str z :: fills m ks))
    rw [show n + 1 + k = (n + k) + 1 by omega]
    refine .tup nz (by rw [fills_map,List.length_map]; exact k1) (by rw [fills_map,List.length_map]; exact k3) fun x hx=>?_
    rw [fills_map] at hx
    obtain ⟨y,hy,rfl⟩ := List.mem_map.mp hx
    exact ih y hy
end Fw
set_option Elab.async false
set_option linter.all false
set_option maxRecDepth 100000
namespace Fw
open PySem PySem.Spec PyProof.Rows L2
theorem comp_lst {K : PySem.W.Frag} {H : Hp} {a : Addr} {xs : List V} {tt : TT} {te : TE} {σ' : L2.St} {Q : VK} (Pv : Nat → List V → Hp → Prop) (h0 : Pv 0 [] H) (hl : ∀ i vs H,i ≤ xs.length → Pv i vs H → SqL K H a xs ∧ vs.length < sizeLine)
    (hs : ∀ i x vs H2,i < xs.length → xs[i]? = some x → Pv i vs H2 → tt (some x :: σ') H2 fun b H4=>if b = true then te (some x :: σ') H4 fun v H5=>Nx xs.length i (Pv (i + 1) (vs ++ [v]) H5) else Nx xs.length i (Pv (i + 1) vs H4))
    (hd : ∀ vs H2,Pv xs.length vs H2 → ∀ l,H2 l = none → Q (.ref l) (upd H2 l (.lst vs))) : CompW (Itl K a) tt te σ' Q H := by
  refine ⟨fun i m vs H=>m = xs.length - i ∧ i ≤ xs.length ∧ Pv i vs H,⟨xs.length,by simp,Nat.zero_le _,h0⟩,?_⟩
  rintro i m vs H2 ⟨rfl,hi,p⟩
  obtain ⟨q1,q2⟩ := hl i vs H2 hi p
  refine ⟨q2,?_⟩
  by_cases hlt : i < xs.length
  · refine .inr ⟨⟨xs,xs[i],q1,by simp [hlt]⟩,?_⟩
    rintro x H3 ⟨e,y⟩
    subst e
    exact hs i x vs _ hlt (y xs q1) p
  · have e : i = xs.length := by omega
    subst e
    exact .inl ⟨⟨xs,q1,Nat.le_refl _⟩,hd vs H2 p⟩
def stand1 (acc : List Str) : T → List Str
  | .str z=>if Txt.startswith z "?" = true then (if z ∈ acc then acc else acc ++ [z]) else acc
  | _=>acc
def stand (ts : List T) : List Str := ts.foldl stand1 []
theorem stand_snoc (ts : List T) (t : T) : stand (ts ++ [t]) = stand1 (stand ts) t := by unfold stand; rw [List.foldl_append]; rfl
theorem stand1_len (acc : List Str) (t : T) : (stand1 acc t).length ≤ acc.length + 1 := by
  cases t with
  | str z =>
    unfold stand1
    dsimp only
    split
    · split
      · omega
      · rw [List.length_append]; simp
    · omega
  | int i=>exact Nat.le_succ _
  | tup l=>exact Nat.le_succ _
def dq (zs : List Str) : List (Key × V) := zs.map fun z=>(Sum.inr z,V.bl true)
theorem dq_len (zs : List Str) : (dq zs).length = zs.length := List.length_map _
theorem dq_val (z : Str) : ∀ zs : List Str,valV (dq zs) (Sum.inr z) = if z ∈ zs then some (.bl true) else none
  | []=>rfl
  | y :: r=>by
    show valV ((Sum.inr y,V.bl true) :: dq r) (Sum.inr z) = _
    by_cases e : y = z
    · subst e
      rw [valV_pos rfl,if_pos List.mem_cons_self]
    · rw [valV_neg (by intro h; exact e (Sum.inr.inj h)),dq_val z r]
      by_cases h : z ∈ r
      · rw [if_pos h,if_pos (List.mem_cons_of_mem _ h)]
      · rw [if_neg h,if_neg (by intro h'; rcases List.mem_cons.mp h' with h' | h'; exact e h'.symm; exact h h')]
theorem dq_put (zs : List Str) (z : Str) : putK (dq zs) (Sum.inr z) (.bl true) = dq (if z ∈ zs then zs else zs ++ [z]) := by
  by_cases h : z ∈ zs
  · rw [if_pos h]
    unfold putK
    rw [valV_any,dq_val,if_pos h]
    simp only [Option.isSome_some,if_true]
    unfold dq
    rw [List.map_map]
    refine List.map_congr_left fun y _=>?_
    show (if (Sum.inr y : Key) = Sum.inr z then _ else _) = _
    split <;> rfl
  · rw [if_neg h,putK_new _ (by rw [dq_val,if_neg h])]
    unfold dq
    rw [List.map_append]
    rfl
theorem dq_keys (zs : List Str) : ((dq zs).map fun kv=>kV kv.1) = zs.map V.str := by unfold dq; rw [List.map_map]; rfl
def spVars : Sp := fun vs H Q _=>∃ v t n,vs = [v] ∧ Rep H v t ∧ KD n t ∧ t.sz ≤ 100000 ∧ ∀ (l : Addr) H',Same H H' → H l = none → H' l = some (.lst ((stand (pre t)).map V.str)) → (stand (pre t)).length ≤ 100000 → Q (.ref l) H'
section
variable {P : Program} {w : World} {K : PySem.W.Frag} {mg : Str → Option Value} {base : Heap} {f : Addr} {fd : FuncData}
abbrev s_variables : Stmt := top 6
theorem sc_variables : FnScope ["kind","standing","part"] ["kind"] (defScope s_variables) := ⟨rfl,rfl,rfl,by decide +kernel,rfl,by decide +kernel,by decide +kernel⟩
set_option maxHeartbeats 1000000 in
theorem ok_variables (F : Fun K "variables" "variables" s_variables f fd) (mL : mg "list" = none) (h1 : Has P w K mg base 1 "is_open" ["thing"] spOpen) (h2 : Has P w K mg base 1 "outer_first" ["kind"] spOuter) : FnOk P w K mg base CX0 2 f fd ["kind"] spVars := by
  refine F.ok sc_variables (fun vs H Q E h=>?_) (fun cdv A outer s H vs Q E hr h=>?_)
  · obtain ⟨v,t,n,rfl,_⟩ := h
    rfl
  obtain ⟨v,t,n,rfl,rt,kt,hsz,q⟩ := h
  have hu := hu_of hr
  refine ⟨_,pss_cons (ps_set (i := 1) sc_variables.nd rfl (Or.inl rfl) pe_dnewK)
    (pss_cons (ps_for PassesOwn.never rfl (pi_list (pcall h2 hr (by decide) rfl (pa_cons (pv 0) pa_nil))) (pg_name (i := 2) sc_variables.nd rfl (Or.inl rfl))
      (pss_one (ps_if (pt_val (pcall h1 hr (by decide) rfl (pa_cons (pv 2) pa_nil))) (pss_one (ps_dput hu (pv 1) (pv 2) pe_bl rfl)) pss_nil)))
    (pss_one (ps_ret (pe_callTy (call_list_d rfl) rfl mL boot_list (pa_cons (pv 1) pa_nil))))),?_⟩
  intro d hd
  have e1 := same_new hd (.dK [])
  refine ⟨_,rfl,v,t,n,rfl,rt.same e1,kt,hsz,fun l ws H2 e2 hl hl2 rw2 lw=>?_⟩
  have ld : l ≠ d := fun e=>by rw [e,upd_same] at hl; cases hl
  have lpre := rw2.length
  refine ⟨l,rfl,⟨_,SqL.of hl2⟩,for_list (xs := ws) (fun i σ H'=>∃ o,σ = [some v,some (.ref d),o] ∧ H' d = some (.dK (dq (stand ((pre t).take i)))) ∧ (stand ((pre t).take i)).length ≤ i ∧ H' l = some (.lst ws) ∧ Reps H' ws (pre t) ∧ Same H H')
    ⟨none,rfl,e2 _ _ upd_same,Nat.le_refl _,hl2,rw2,e1.trans e2⟩ ?_ ?_ ?_⟩
  · rintro i σ H' hi ⟨o,rfl,_,_,h,_⟩
    exact SqL.of h
  · rintro i x σ H3 hx ⟨o,rfl,hd3,lz,hl3,rw3,e3⟩
    obtain ⟨t',ht',rx⟩ := rw3.at2 hx
    have hi : i < ws.length := (List.getElem?_eq_some_iff.mp hx).1
    have et : stand ((pre t).take (i + 1)) = stand1 (stand ((pre t).take i)) t' := by
      rw [List.take_add_one,ht']
      exact stand_snoc _ _
    have lz' := stand1_len (stand ((pre t).take i)) t'
    refine ⟨_,rfl,x,t',rfl,rx,_,rfl,?_⟩
    cases rx with
    | int j=>exact iteF ⟨_,rfl,by rw [et]; exact hd3,by rw [et]; omega,hl3,rw3,e3⟩
    | tup ha r=>exact iteF ⟨_,rfl,by rw [et]; exact hd3,by rw [et]; omega,hl3,rw3,e3⟩
    | str z hz =>
      show (if Txt.startswith z "?" = true then _ else _)
      by_cases c : Txt.startswith z "?" = true
      · rw [if_pos c]
        refine ⟨_,rfl,_,rfl,d,_,rfl,DPut.k (k := Sum.inr z) (v := .bl true) hd3 (small' (by rw [dq_len]; omega)),?_⟩
        rw [dq_put]
        have es : stand1 (stand ((pre t).take i)) (.str z) = if z ∈ stand ((pre t).take i) then stand ((pre t).take i) else stand ((pre t).take i) ++ [z] := by
          show (if Txt.startswith z "?" = true then _ else _) = _
          rw [if_pos c]
        refine ⟨_,rfl,by rw [et,es]; exact upd_same,by rw [et]; omega,by rw [upd_ne ld]; exact hl3,rw3.mono fun b xs h=>?_,fun b u h=>?_⟩
        · rw [upd_ne (ne_of h hd3 (by intro z; cases z))]; exact h
        · rw [upd_ne (ne_of_none h hd)]; exact e3 b u h
      · rw [if_neg c]
        have es : stand1 (stand ((pre t).take i)) (.str z) = stand ((pre t).take i) := by
          show (if Txt.startswith z "?" = true then _ else _) = _
          rw [if_neg c]
        exact ⟨_,rfl,by rw [et,es]; exact hd3,by rw [et]; omega,hl3,rw3,e3⟩
  · rintro σ H3 ⟨o,rfl,hd3,lz,hl3,rw3,e3⟩
    rw [List.take_of_length_le (by omega)] at hd3 lz
    refine ⟨_,rfl,d,_,rfl,hd3,fun l4 hl4=>?_⟩
    rw [dq_keys]
    exact q l4 _ (e3.trans (same_new hl4 _)) (e3.free hl4) upd_same (by omega)
end
end Fw
set_option Elab.async false
set_option linter.all false
set_option maxRecDepth 100000
namespace Fw
open PySem PySem.Spec PyProof.Rows L2
section
variable {P : Program} {w : World} {K : PySem.W.Frag} {mg : Str → Option Value} {base : Heap} {f : Addr} {fd : FuncData}
abbrev s_standing : Stmt := top 22
theorem sc_standing : FnScope ["_law_kind_here","_law_some","_law_waiting","_law_one"] ["_law_kind_here"] (defScope s_standing) := ⟨rfl,rfl,rfl,by decide +kernel,rfl,by decide +kernel,by decide +kernel⟩
set_option maxHeartbeats 1000000 in
theorem ok_standing (F : Fun K "_law_standing" "_law_standing" s_standing f fd) (ml : mg "len" = none) (mi : mg "isinstance" = none) (mt : mg "tuple" = none) (mL : mg "list" = none) (mr : mg "reversed" = none) : FnOk P w K mg base CX0 1 f fd ["_law_kind_here"] spVars := by
  refine F.ok sc_standing (fun vs H Q E h=>?_) (fun cdv A outer s H vs Q E hr h=>?_)
  · obtain ⟨v,t,n,rfl,_⟩ := h
    rfl
  obtain ⟨v,t,n,rfl,rt,kt,hsz,q⟩ := h
  refine ⟨_,pss_cons (ps_set (i := 1) sc_standing.nd rfl (Or.inl rfl) (pe_lst pa_nil))
    (pss_cons (ps_set (i := 2) sc_standing.nd rfl (Or.inl rfl) (pe_lst (pa_cons (pv 0) pa_nil)))
    (pss_cons (ps_while PassesOwn.never (pt_cmpR op_gt (pe_callB call_len_seq rfl ml PySem.boot_len (pa_cons (pv 2) pa_nil)) pe_int (nomark _))
      (pss_cons (ps_set (i := 3) sc_standing.nd rfl (Or.inl rfl) (pe_bm0 PySem.F.plainAttrs_list PySem.F.slot_list_pop PySem.F.type_list_pop mt_pop (pv 2)))
      (pss_one (ps_if (pt_val (pe_callB call_isi rfl mi boot_isinstance (pa_cons (pv 3) (pa_cons (pe_bltn (v := .ty "tuple") rfl mt boot_tuple rfl) pa_nil))))
        (pss_one (ps_expr (pe_bm PySem.F.plainAttrs_list PySem.F.slot_list_extend PySem.F.type_list_extend mt_extend (pv 2) (pa_cons (pe_listRev rfl rfl mL rfl mr (pe_slice sl_tup (pv 3) (po_some pe_int) po_none)) pa_nil))))
        (pss_one (ps_if (PW.pt (pw_and (pt_val (pe_bm PySem.F.plainAttrs_str PySem.F.slot_str_startswith PySem.F.type_str_startswith mt_startswith (pv 3) (pa_cons pe_str pa_nil))) (pw_and1 (pt_cmpR op_notIn_seq (pv 3) (pv 1) (by with_unfolding_all rfl)))))
          (pss_one (ps_expr (pe_bm PySem.F.plainAttrs_list PySem.F.slot_list_append PySem.F.type_list_append mt_append (pv 1) (pa_cons (pv 3) pa_nil)))) pss_nil))))))
    (pss_one (ps_ret (pv 1))))),?_⟩
  refine ⟨small (by show 0 ≤ 1000000; decide),fun lp hlp=>?_⟩
  refine ⟨_,rfl,small (by show 1 ≤ 1000000; decide),fun lw hlw=>?_⟩
  have hlw0 : H lw = none := (same_new hlp (.lst [])).free hlw
  have npw : lp ≠ lw := fun e=>by rw [e] at hlp; rw [← e,upd_same] at hlw; cases hlw
  have e0 : Same H (upd (upd H lp (.lst [])) lw (.lst [v])) := (same_new hlp _).trans (same_new hlw _)
  refine ⟨fun m σ H'=>∃ (o : Option V) (ws : List V) (ts ds : List T),σ = [some v,some (.ref lp),some (.ref lw),o] ∧ H' lw = some (.lst ws) ∧ H' lp = some (.lst ((stand ds).map V.str)) ∧ Reps H' ws ts ∧
      pre t = ds ++ pres ts.reverse ∧ (stand ds).length ≤ ds.length ∧ (∀ t' ∈ ts,∃ n,KD n t') ∧ m = szs ts ∧ ds.length + szs ts ≤ 100000 ∧ Same H H',
    ⟨szs [t],none,[v],[t],[],rfl,upd_same,by rw [upd_ne npw]; exact upd_same, .cons (rt.same e0) .nil,by simp [pres],Nat.le_refl _,fun t' h=>⟨n,by rw [List.mem_singleton.mp h]; exact kt⟩,rfl,by simpa [szs] using hsz,e0⟩,?_⟩
  rintro m σ H1 ⟨o,ws,ts,ds,rfl,hw1,hp1,rw1,pre1',lst1,kd1,rfl,hs1,e1⟩
  refine ⟨_,rfl,lw,ws,rfl, .inl (SqL.of hw1),_,_,rfl,rfl,_,rfl,?_⟩
  refine ite2 (fun c=>?_) (fun c=>?_)
  · have c1 : (0 : Int) < ws.length := of_decide_eq_true c
    have ne : ws ≠ [] := fun e=>by rw [e] at c1; simp at c1
    obtain ⟨ws,us,v',t',rfl,rfl,hws,hv'⟩ := rw1.snoc_inv ne
    obtain ⟨n',kd'⟩ := kd1 t' (by simp)
    have tups2 : ∀ b xs,H1 b = some (.tup xs) → (upd H1 lw (.lst (ws ++ [v']).dropLast)) b = some (.tup xs) := fun b xs h=>by
      rw [upd_ne (ne_of h hw1 (by intro z; cases z))]; exact h
    have sz1 : szs (us ++ [t']) = szs us + t'.sz := by rw [szs_app]; simp [szs]
    have lus := hws.length
    have lsz := len_szs us
    have lsd := stand1_len (stand ds) t'
    refine ⟨_,fun _ _ h=>h,?_⟩
    refine ⟨_,rfl, .inl ⟨rfl,_,SqL.of hw1⟩,lw,ws ++ [v'],v',rfl,rfl,hw1,by simp,?_⟩
    rw [List.dropLast_concat] at tups2 ⊢
    generalize hH3 : upd H1 lw (.lst ws) = H3
    have hw3 : H3 lw = some (.lst ws) := by rw [← hH3]; exact upd_same
    have hp3 : H3 lp = some (.lst ((stand ds).map V.str)) := by rw [← hH3,upd_ne npw]; exact hp1
    have tups3 : ∀ b xs,H1 b = some (.tup xs) → H3 b = some (.tup xs) := fun b xs h=>by rw [← hH3]; exact tups2 b xs h
    have e3 : Same H H3 := fun b u h=>by
      rw [← hH3,upd_ne (ne_of_none h hlw0)]; exact e1 b u h
    have rv3 := hv'.mono tups3
    refine ⟨_,rfl,_,_,_,_,rfl,rep_ty rv3,kit_tup K t',?_⟩
    refine ⟨_,rfl,?_⟩
    cases kd' with
    | @leaf _ z hz =>
      refine iteF ?_
      have s1 := sz_pos (.str z)
      have pe : pre t = (ds ++ [.str z]) ++ pres us.reverse := by
        rw [pre1',List.reverse_append]
        show ds ++ ([.str z] ++ pres us.reverse) = _
        rw [List.append_assoc]
      have es : stand (ds ++ [.str z]) = stand1 (stand ds) (.str z) := stand_snoc _ _
      have sm : szs us < szs (us ++ [.str z]) := by rw [sz1]; omega
      cases rv3
      refine ⟨_,rfl,rfl,z,"?",rfl,rfl,_,rfl,?_⟩
      refine ite2 (fun c2=>?_) (fun c2=>?_)
      · refine ⟨_,rfl,_,rfl,lp,_,rfl, .inl (SqL.of hp3),rfl,flat_strs _,?_⟩
        rw [inV_str]
        refine ⟨_,rfl,?_⟩
        have es2 : stand1 (stand ds) (.str z) = if z ∈ stand ds then stand ds else stand ds ++ [z] := by
          show (if Txt.startswith z "?" = true then _ else _) = _
          rw [if_pos c2]
        by_cases c3 : z ∈ stand ds
        · rw [if_pos c3] at es2
          rw [decide_eq_true c3]
          refine iteF ⟨szs us,sm,_,ws,us,ds ++ [.str z],rfl,hw3,by rw [es,es2]; exact hp3,hws.mono tups3,pe,by rw [es]; simp; omega,fun x hx=>kd1 x (by simp [hx]),rfl,by simp; omega,e3⟩
        · rw [if_neg c3] at es2
          rw [decide_eq_false c3]
          refine iteT ⟨_,rfl, .inl ⟨rfl,_,SqL.of hp3⟩,_,rfl,lp,_, .str z,rfl,rfl,hp3,small' (by rw [List.length_map]; omega),?_⟩
          have tups4 : ∀ b xs,H3 b = some (.tup xs) → (upd H3 lp (.lst ((stand ds).map V.str ++ [V.str z]))) b = some (.tup xs) := fun b xs h=>by
            rw [upd_ne (ne_of h hp3 (by intro z; cases z))]; exact h
          refine ⟨szs us,sm,_,ws,us,ds ++ [.str z],rfl,by rw [upd_ne (Ne.symm npw)]; exact hw3,by rw [upd_same,es,es2,List.map_append]; rfl,hws.mono fun b xs h=>tups4 b xs (tups3 b xs h),pe,by rw [es]; simp; omega,fun x hx=>kd1 x (by simp [hx]),rfl,by simp; omega,fun b u h=>by rw [upd_ne (ne_of_none h hlp)]; exact e3 b u h⟩
      · have es2 : stand1 (stand ds) (.str z) = stand ds := by
          show (if Txt.startswith z "?" = true then _ else _) = _
          rw [if_neg c2]
        exact iteF ⟨szs us,sm,_,ws,us,ds ++ [.str z],rfl,hw3,by rw [es,es2]; exact hp3,hws.mono tups3,pe,by rw [es]; simp; omega,fun x hx=>kd1 x (by simp [hx]),rfl,by simp; omega,e3⟩
    | @tup j z ks nz k1 k3 hk =>
      refine iteT ?_
      cases rv3 with
      | @tup a vs _ hta rr =>
        cases rr with
        | @cons v0 _ vr _ r0 rr =>
          have lr := rr.length
          refine ⟨_,rfl, .inl ⟨rfl,_,SqL.of hw3⟩,_,rfl,1,rfl,a,_,rfl,SqT.of hta,cutq_not (vs := v0 :: vr) (n := 1) (by simp) (Nat.le_refl _),fun p4 hp4=>?_⟩
          have ec : cutV (v0 :: vr) (some 1) none = vr := cutq (v0 :: vr) 1
          rw [ec]
          have e4 := same_new hp4 (.tup vr)
          refine ⟨p4,vr,rfl,SqT.of upd_same,fun l5 hl5=>?_⟩
          have e5 := same_new hl5 (.lst vr.reverse)
          have hw5 := e5 _ _ (e4 _ _ hw3)
          have hp5 := e5 _ _ (e4 _ _ hp3)
          have e45 := e4.trans e5
          have szk : (T.tup (.str z :: ks)).sz = 1 + (1 + szs ks) := rfl
          refine ⟨lw,l5,ws,vr.reverse,rfl,rfl,hw5,upd_same,small (by rw [List.length_reverse,lr]; have := len_szs ks; omega),?_⟩
          have tups6 : ∀ b xs,H3 b = some (.tup xs) → (upd (upd (upd H3 p4 (.tup vr)) l5 (.lst vr.reverse)) lw (.lst (ws ++ vr.reverse))) b = some (.tup xs) := fun b xs h=>by
            rw [upd_ne (ne_of h hw3 (by intro z; cases z))]; exact e45 b _ h
          have es : stand (ds ++ [.tup (.str z :: ks)]) = stand ds := stand_snoc _ _
          refine ⟨szs (us ++ ks.reverse),by rw [sz1,szs_app,szs_reverse,szk]; omega,some (.ref a),ws ++ vr.reverse,us ++ ks.reverse,ds ++ [.tup (.str z :: ks)],rfl,upd_same,by rw [upd_ne npw,es]; exact hp5,?_,?_,?_,fun x hx=>?_,rfl,?_,fun b u h=>?_⟩
          · exact (hws.mono fun b xs h=>tups6 b xs (tups3 b xs h)).append (rr.mono tups6).reverse
          · have a1 : pres (us ++ [T.tup (.str z :: ks)]).reverse = (T.tup (.str z :: ks) :: pres ks) ++ pres us.reverse := by rw [List.reverse_append]; rfl
            have a2 : pres (us ++ ks.reverse).reverse = pres ks ++ pres us.reverse := by rw [List.reverse_append,List.reverse_reverse,pres_app]
            rw [pre1',a1,a2]
            simp
          · rw [es,List.length_append]; omega
          · rcases List.mem_append.mp hx with h | h
            · exact kd1 x (by simp [h])
            · exact ⟨j,hk x (List.mem_reverse.mp h)⟩
          · rw [List.length_append,szs_app,szs_reverse]; simp only [List.length_singleton]; rw [sz1,szk] at hs1; omega
          · rw [upd_ne (ne_of_none h hlw0)]; exact e45 b u (e3 b u h)
  · have c1 : ¬ (0 : Int) < ws.length := fun h=>c (decide_eq_true h)
    have e : ws = [] := by
      cases ws with
      | nil=>rfl
      | cons a b=>exact absurd (by simp) c1
    subst e
    cases rw1
    rw [show pres ([] : List T).reverse = [] from rfl,List.append_nil] at pre1'
    exact ⟨_,rfl,q lp H1 e1 hlp (by rw [pre1']; exact hp1) (by rw [pre1']; simp [szs] at hs1; omega)⟩
end
end Fw
set_option Elab.async false
set_option linter.all false
set_option maxRecDepth 100000
namespace L2
open PySem PySem.Spec PyProof.Rows
section
variable {X : Cx} {pins : List (Addr × Obj)} {σ : St} {H : Hp} {s : Shared}
theorem Inv.refit {a : Addr} {u0 u1 : HO} (I : Inv X pins σ H s) (e0 : H a = some u0) (n1 : ∀ xs,u0 ≠ .tup xs) (n2 : ∀ ps,u0 ≠ .tbl ps) (n3 : ∀ x,u0 ≠ .own x) (n4 : ∀ o u,X.H₀ a ≠ some (.frz o u)) (new : ObjOk X.prog X.w (upd H a u1) s.heap a u1) :
    Inv X pins σ (upd H a u1) s := by
  have ne : ∀ b,H b = none → b ≠ a := fun b h e=>by rw [e,e0] at h; cases h
  exact {
    ok := I.ok
    os := I.os
    bare := I.bare
    base := ⟨I.base.keep,I.base.slot,fun b o h n hx=>by have q := I.base.free b o h n hx; rw [upd_ne (ne b q)]; exact q,I.base.there,
      fun b xs h=>by
        have q := I.base.tups b xs h
        rw [upd_ne (fun e=>by rw [e,e0] at q; exact n1 xs (Option.some.inj q))]; exact q,
      fun b o u h=>by
        have q := I.base.frzs b o u h
        rw [upd_ne (fun e=>by rw [e] at h; exact n4 o u h)]; exact q,
      fun b ps h=>by
        obtain ⟨more,q⟩ := I.base.tbls b ps h
        exact ⟨more,by rw [upd_ne (fun e=>by rw [e,e0] at q; exact n2 _ (Option.some.inj q))]; exact q⟩⟩
    loc := I.loc
    cell := I.cell
    free := by rw [upd_ne (ne _ I.free)]; exact I.free
    freeC := fun x c h=>by rw [upd_ne (ne _ (I.freeC x c h))]; exact I.freeC x c h
    pin := fun p hp=>by
      obtain ⟨p1,p2,p3⟩ := I.pin p hp
      exact ⟨p1,by rw [upd_ne (ne _ p2)]; exact p2,p3⟩
    hok := fun b u h=>by
      by_cases e : b = a
      · subst e
        rw [upd_same] at h
        cases h
        exact new
      · rw [upd_ne e] at h
        refine (I.hok b u h).stay (fun _ _ _ q=>q) (fun c q=>?_) fun c xs q=>?_
        · rw [upd_ne (fun z=>by rw [z,e0] at q; exact n3 _ (Option.some.inj q))]; exact q
        · rw [upd_ne (fun z=>by rw [z,e0] at q; exact n1 _ (Option.some.inj q))]; exact q
    len := I.len }
theorem Inv.freeze {a : Addr} {kvs : List (Key × V)} (I : Inv X pins σ H s) (e : H a = some (.dK kvs)) : ∃ o,s.heap.get? a = some o ∧ (∀ o' u,X.H₀ a ≠ some (.frz o' u)) ∧ Inv X pins σ (upd H a (.frz o (.dK kvs))) s := by
  obtain ⟨z,hd,vs,rel,dd⟩ := dk_of I.hok e
  obtain ⟨o,es,ep,ho,r⟩ := id dd
  have n4 : ∀ o' u,X.H₀ a ≠ some (.frz o' u) := fun o' u h=>by have := I.base.frzs a o' u h; rw [e] at this; cases this
  exact ⟨o,ho,n4,I.refit e (fun _ h=>by cases h) (fun _ h=>by cases h) (fun _ h=>by cases h) n4 ⟨ho,z,hd,vs,rel,dd⟩⟩
theorem Inv.thaw {a : Addr} {o : Obj} {kvs : List (Key × V)} (I : Inv X pins σ H s) (n4 : ∀ o' u,X.H₀ a ≠ some (.frz o' u)) (e : H a = some (.frz o (.dK kvs))) : Inv X pins σ (upd H a (.dK kvs)) s := by
  have h := I.hok a _ e
  exact I.refit e (fun _ h=>by cases h) (fun _ h=>by cases h) (fun _ h=>by cases h) n4 h.2
end
def tFrz (t : TE) : TE := fun σ H Q=>∃ a kvs,H a = some (.dK kvs) ∧ ∀ o,t σ (upd H a (.frz o (.dK kvs))) fun v H'=>H' a = some (.frz o (.dK kvs)) ∧ Q v (upd H' a (.dK kvs))
theorem pe_frz {X : Cx} {e : Expr} {t : TE} (h : PE X e t) : PE X e (tFrz t) := by
  intro pins s σ H Q I q
  obtain ⟨a,kvs,e0,q⟩ := q
  obtain ⟨o,ho,n4,I1⟩ := I.freeze e0
  exact thn (h pins s σ _ _ I1 (q o)) fun v s1 ⟨x,H1,I2,r,e1,q1⟩=>⟨x,_,I2.thaw n4 e1,r,q1⟩
def dFrz (a : Addr) (kvs : List (Key × V)) (o : Obj) (D : Ends) : Ends where
  nx := fun σ' H'=>H' a = some (.frz o (.dK kvs)) ∧ D.nx σ' (upd H' a (.dK kvs))
  rt := fun v H'=>H' a = some (.frz o (.dK kvs)) ∧ D.rt v (upd H' a (.dK kvs))
  bk := fun σ' H'=>H' a = some (.frz o (.dK kvs)) ∧ D.bk σ' (upd H' a (.dK kvs))
  ct := fun σ' H'=>H' a = some (.frz o (.dK kvs)) ∧ D.ct σ' (upd H' a (.dK kvs))
def sFrz (t : TS) : TS := fun D σ H=>∃ a kvs,H a = some (.dK kvs) ∧ ∀ o,t (dFrz a kvs o D) σ (upd H a (.frz o (.dK kvs)))
theorem ps_frz {X : Cx} {st : Stmt} {t : TS} (h : PS X st t) : PS X st (sFrz t) := by
  intro pins s σ H D I q
  obtain ⟨a,kvs,e0,q⟩ := q
  obtain ⟨o,ho,n4,I1⟩ := I.freeze e0
  refine thn (h pins s σ _ _ I1 (q o)) fun fl s1 hs=>?_
  cases fl with
  | next=>obtain ⟨σ',H',I2,e1,q1⟩ := hs; exact ⟨σ',_,I2.thaw n4 e1,q1⟩
  | brk=>obtain ⟨σ',H',I2,e1,q1⟩ := hs; exact ⟨σ',_,I2.thaw n4 e1,q1⟩
  | cont=>obtain ⟨σ',H',I2,e1,q1⟩ := hs; exact ⟨σ',_,I2.thaw n4 e1,q1⟩
  | ret u=>obtain ⟨v,σ',H',I2,r,e1,q1⟩ := hs; exact ⟨v,σ',_,I2.thaw n4 e1,r,q1⟩
def Itk (a : Addr) (o : Obj) (kvs : List (Key × V)) : It :=
  ⟨fun i H=>H a = some (.frz o (.dK kvs)) ∧ i < kvs.length,fun i H x H'=>H' = H ∧ ∃ k v,kvs[i]? = some (k,v) ∧ x = kV k,fun i H=>H a = some (.frz o (.dK kvs)) ∧ kvs.length ≤ i⟩
theorem frz_at {X : Cx} {pins : List (Addr × Obj)} {σ : St} {H : Hp} {s : Shared} {a : Addr} {o : Obj} {kvs : List (Key × V)} {es : Array DictEntry} {ep : Nat} (I : Inv X pins σ H s) (e : H a = some (.frz o (.dK kvs))) (hep : o.data = .dict es ep) :
    (a == sysModules) = false ∧ kvs.length ≤ sizeLine ∧ ∃ vs,KV kvs vs ∧ s.heap.DictAt (mixKind X.prog X.w) a vs ep := by
  obtain ⟨ho,z,hd,vs,rel,dd⟩ := I.hok a _ e
  refine ⟨hd,z,vs,rel,?_⟩
  obtain ⟨o2,es2,ep2,ho2,h2,h3,r⟩ := dd
  rw [ho] at ho2
  cases ho2
  rw [hep] at h3
  cases h3
  exact ⟨o,es,ho,h2,hep,r⟩
theorem turn_keys {P : Program} {w : World} {K : PySem.W.Frag} {tg : Expr} (a it : Addr) (o : Obj) (kvs : List (Key × V)) (es : Array DictEntry) (ep : Nat) (hep : o.data = .dict es ep) : Turn P w K tg (Itk a o kvs) [it] it (fun i h=>h.IsKeyIter it a i kvs.length ep) where
  mem := by simp
  obj := fun i h st b hb=>by
    have e : b = it := by simpa using hb
    subst e
    obtain ⟨o,e,c,d⟩ := st
    exact ⟨o,e,fun v z=>by rw [d] at z; cases z⟩
  keep := fun i h h' st k=>by
    obtain ⟨o,e,r⟩ := st
    exact ⟨o,k it (by simp) o e,r⟩
  item := by
    intro X hP hw hK hc i pins s σ H E I hf st hg
    subst hP hw hK
    obtain ⟨ha,hi⟩ := hg
    obtain ⟨hd,hz,vs,rel,dd⟩ := frz_at I ha hep
    have hl := rel.length
    have hk := rel.keys
    obtain ⟨⟨k,v⟩,hx⟩ : ∃ p,vs[i]? = some p := ⟨vs[i]'(by omega),List.getElem?_eq_getElem (by omega)⟩
    obtain ⟨⟨k',v'⟩,hy⟩ : ∃ p,kvs[i]? = some p := ⟨kvs[i],List.getElem?_eq_getElem hi⟩
    have ek : k' = k := by
      have q := congrArg (fun l=>l[i]?) hk
      simp only [List.getElem?_map,hx,hy,Option.map_some] at q
      exact Option.some.inj q
    subst ek
    obtain ⟨f0,f1,f2,f3,f4,f5⟩ := hf it (by simp)
    rw [hl] at st
    refine wpAny_pyNext_dict_item st dd hx fun key h' hkey st' sb=>?_
    have I1 : Inv X pins σ H { s with heap := h' } := I.turned (t' := s.toks) (fun b o hb e=>(sb.2 b hb).trans e) f0 f1 f3 f4 f5
    obtain ⟨o',e',c',d'⟩ := id st'
    rw [← hl] at st'
    exact ⟨key,rfl,go_of (s := { s with heap := h' }) e' c' d' (by decide) ⟨kV k',H,I1,mix_rel hkey,⟨rfl,k',v',hy,rfl⟩,st',fun b hb=>(hf b hb).1⟩⟩
  done := by
    intro X hP hw hK hc i pins s σ H E I hf st hg
    subst hP hw hK
    obtain ⟨ha,hi⟩ := hg
    obtain ⟨hd,hz,vs,rel,dd⟩ := frz_at I ha hep
    have hl := rel.length
    obtain ⟨f0,f1,f2,f3,f4,f5⟩ := hf it (by simp)
    rw [hl] at st
    exact wpAny_pyNext_dict_end (I.ok.hd hc) st dd (List.getElem?_eq_none (by omega)) fun h' eb=>⟨rfl,I.turned (t' := s.toks) (fun b o hb e=>eb b o hb e) f0 f1 f3 f4 f5⟩
  self := fun _ _ _ _ _ st h=>wpAny_pyIter_keyiter st h
def iKeys (tl : TE) : TI := fun σ H R=>tl σ H fun x H1=>∃ a o kvs,x = .ref a ∧ H1 a = some (.frz o (.dK kvs)) ∧ R (Itk a o kvs) H1
theorem pi_keys {X : Cx} {tg l : Expr} {tl : TE} (hl : PE X l tl) : PI X tg l (iKeys tl) := by
  intro pins s σ H R I h
  refine thn (hl pins s σ H _ I h) fun v s1 ⟨x,H1,I1,r1,q1⟩=>?_
  obtain ⟨a,o,kvs,rfl,ha,q⟩ := q1
  cases r1
  have hob := I1.hok a _ ha
  obtain ⟨ho,z,hd,vs,rel,dd⟩ := hob
  obtain ⟨o2,es,ep,ho2,h2,h3,r⟩ := id dd
  rw [ho] at ho2
  cases ho2
  refine wpAny_pyIter_dict (knd := mixKind X.prog X.w) (kvs := vs) (ep := ep) hd ⟨o,es,ho,h2,h3,r⟩ ?_
  have hlen := rel.length
  refine ⟨s1.heap.objs.size,[s1.heap.objs.size],_,_,H1,rfl,I1.kept (t' := s1.toks) fun b o e=>Heap.get?_push_of_some _ e,turn_keys a _ o kvs es ep h3,⟨_,Heap.get?_push_size _ rfl,rfl,by rw [hlen]; rfl⟩,fun b hb=>?_,q⟩
  have e : b = s1.heap.objs.size := by simpa using hb
  subst e
  exact I1.fpOk (Nat.le_refl _) (I1.hok.fresh (Nat.le_refl _))
theorem for_keys {a : Addr} {o : Obj} {kvs : List (Key × V)} {g : TG} {tb : TS} {D : Ends} {σ : St} {H : Hp} (Pv : Nat → St → Hp → Prop) (h0 : Pv 0 σ H) (hl : ∀ i σ H,i ≤ kvs.length → Pv i σ H → H a = some (.frz o (.dK kvs)))
    (hs : ∀ i k v σ H,kvs[i]? = some (k,v) → Pv i σ H → g (kV k) σ H fun σ2 H2=>tb { D with nx := Pv (i + 1),ct := Pv (i + 1),bk := D.nx } σ2 H2) (hd : ∀ σ H,Pv kvs.length σ H → D.nx σ H) :
    ∃ W : Nat → Nat → St → Hp → Prop,(∃ m,W 0 m σ H) ∧ ∀ i m σ H,W i m σ H →
      ((Itk a o kvs).stop i H ∧ D.nx σ H) ∨ ((Itk a o kvs).go i H ∧ ∃ N : St → Hp → Prop,(∀ σ' H',N σ' H' → ∃ m',m' < m ∧ W (i + 1) m' σ' H') ∧ ∀ x H',(Itk a o kvs).yld i H x H' → g x σ H' fun σ2 H2=>tb { D with nx := N,ct := N,bk := D.nx } σ2 H2) := by
  refine ⟨fun i m σ H=>m = kvs.length - i ∧ i ≤ kvs.length ∧ Pv i σ H,⟨kvs.length,by simp,Nat.zero_le _,h0⟩,?_⟩
  rintro i m σ H ⟨rfl,hi,p⟩
  have q := hl i σ H hi p
  by_cases hlt : i < kvs.length
  · refine .inr ⟨⟨q,hlt⟩,Pv (i + 1),fun σ' H' p'=>⟨kvs.length - (i + 1),by omega,rfl,hlt,p'⟩,fun x H' y=>?_⟩
    obtain ⟨e,k,v,hk,rfl⟩ := y
    subst e
    exact hs i k v σ _ hk p
  · have e : i = kvs.length := by omega
    subst e
    exact .inl ⟨⟨q,Nat.le_refl _⟩,hd σ H p⟩
end L2
set_option Elab.async false
set_option linter.all false
set_option maxRecDepth 100000
namespace L2
open PySem PySem.Spec PyProof.Rows PySem.W
theorem op_inD {X : Cx} (hu : X.A.units + 1 < cLine) : OpR X (compareOp .In) (fun x y H Q=>∃ a o,y = V.ref a ∧ DGet H a x o ∧ Q (.bl o.isSome) H) := by
  intro pins s σ H x y v u Q I rx ry h
  obtain ⟨a,o,rfl,g,q⟩ := h
  cases ry
  exact d_in hu I g rx fun s' I'=>⟨.bl o.isSome,H,I',rfl,q⟩
theorem op_notInD {X : Cx} (hu : X.A.units + 1 < cLine) : OpR X (compareOp .NotIn) (fun x y H Q=>∃ a o,y = V.ref a ∧ DGet H a x o ∧ Q (.bl (!o.isSome)) H) := by
  intro pins s σ H x y v u Q I rx ry h
  obtain ⟨a,o,rfl,g,q⟩ := h
  cases ry
  exact d_notIn hu I g rx fun s' I'=>⟨.bl (!o.isSome),H,I',rfl,q⟩
end L2
set_option Elab.async false
set_option linter.all false
set_option maxRecDepth 100000
namespace PySem
open PyProof.Rows
section
variable {prog : Program} {w : World} {A : Around} {E : Value → Shared → Prop} {s : Shared}
theorem wpAny_loadIfAlive {M : Model} {a : Addr} {Q : Option Obj → Shared → Prop} (h : Q (s.heap.get? a) s) : wpAny M A (loadIfAlive a) Q E s := fun Γ p hΓ=>by
  unfold loadIfAlive
  rw [Sem.wp_loadIfAlive]
  exact (wpAny_pure h : wpAny M A (pure (s.heap.get? a)) Q E s) Γ p hΓ
abbrev IsZipL (h : Heap) (z TI TO T0 : Addr) (fl : Bool) : Prop := h.get? z = some { cls := .type "zip",dict := none,data := .fields #[rawInt T0, .bool fl, .bool false, .ref TI, .ref TO],slots := #[] }
theorem zipL_item {z TI TO i1 i2 t1 t2 T0 : Addr} {fl : Bool} {k : Nat} {xs ys : Array Value} {x y : Value} {o0 : Obj} {Q : Option Value → Shared → Prop} (nd : [z,TI,i1,i2].Nodup) (zz : IsZipL s.heap z TI TO T0 fl) (ti : IsPair s.heap TI (.ref i1) (.ref i2))
    (h0 : s.heap.get? T0 = some o0) (n0 : T0 ∉ [z,i1,i2]) (j1 : s.heap.IsTupleIter i1 t1 k) (j2 : s.heap.IsTupleIter i2 t2 k) (n1 : t1 ∉ [z,i1,i2]) (n2 : t2 ∉ [z,i1,i2])
    (h1 : s.heap.IsTuple t1 xs) (h2 : s.heap.IsTuple t2 ys) (hx : xs[k]? = some x) (hy : ys[k]? = some y)
    (hQ : ∀ h',IsZipL h' z TI TO T0 true → h'.IsTupleIter i1 t1 (k + 1) → h'.IsTupleIter i2 t2 (k + 1) → IsPair h' s.heap.objs.size x y → h'.objs.size = s.heap.objs.size + 1 →
      (∀ c o,c ∉ [z,i1,i2] → s.heap.get? c = some o → h'.get? c = some o) → Q (some (.ref s.heap.objs.size)) { s with heap := h' }) : wpAny (model prog w) A (pyNext (.ref z)) Q E s := by
  simp only [List.nodup_cons,List.mem_cons,List.not_mem_nil,or_false,not_or,List.nodup_nil,and_true,not_false_eq_true] at nd n1 n2 n0
  obtain ⟨⟨zTI,z1,z2⟩,⟨TI1,TI2⟩,i12⟩ := nd
  obtain ⟨a1,a3,a4⟩ := n1
  obtain ⟨b1,b3,b4⟩ := n2
  have hT : s.TypeIs (.ref z) "zip" := ⟨_,zz,rfl⟩
  unfold pyNext
  refine wpAny_bind (wpAny_attempt (wpAny_callSpecial?_slot (name := Str.ofString "__next__") hT F.slot_zip_next (wpAny_call_entry F.slot_zip_next hT F.entry_zip_next ?_ (F.args_zip_next_1 _))))
  show wpAny _ _ (field (.ref z) 2 >>= _) _ _ _
  refine wpAny_bind (wpAny_field zz rfl (x := .bool false) rfl ?_)
  show wpAny _ _ (field (.ref z) 3 >>= _) _ _ _
  refine wpAny_bind (wpAny_field zz rfl (x := .ref TI) rfl (wpAny_bind (wpAny_seqItems ti rfl ?_)))
  show wpAny _ _ (Builtin.SmallTypes.ownedTupleIsFree (.ref z) >>= _) _ _ _
  refine wpAny_bind ?_
  unfold Builtin.SmallTypes.ownedTupleIsFree
  refine wpAny_bind (wpAny_field zz rfl (x := rawInt T0) rfl ?_)
  show wpAny _ _ (loadIfAlive (T0 : Int).toNat >>= _) _ _ _
  refine wpAny_bind (wpAny_loadIfAlive ?_)
  rw [Int.toNat_natCast,h0]
  rw [if_neg (by simp)]
  refine wpAny_bind (wpAny_field zz rfl (x := .bool fl) rfl ?_)
  cases fl with
  | true =>
    rw [if_neg (by decide)]
    refine wpAny_pure ?_
    have q1 : IsZipL s.heap z TI TO T0 true := zz
    have r1 : Heap.ExtBut z s.heap s.heap := fun _ _ _ e=>e
    have rs : s.heap.objs.size = s.heap.objs.size := rfl
    rw [if_neg Bool.false_ne_true]
    dsimp only
    refine wpAny_bind ?_
    rw [← Array.forIn_toList]
    simp only [List.forIn_cons,List.forIn_nil]
    refine wpAny_bind (wpAny_bind (wpAny_holding ?_))
    show wpAny _ _ (Builtin.SmallTypes.nextOf (.ref i1) >>= _) _ _ _
    refine wpAny_bind (nextOfT_item (j1.extBut r1 (Ne.symm z1)) (h1.extBut r1 a1) hx fun g2 q2 r2=>wpAny_pure ?_)
    dsimp only
    refine wpAny_pure ?_
    dsimp only
    refine wpAny_bind (wpAny_bind (wpAny_holding ?_))
    show wpAny _ _ (Builtin.SmallTypes.nextOf (.ref i2) >>= _) _ _ _
    refine wpAny_bind (nextOfT_item ((j2.extBut r1 (Ne.symm z2)).extBut r2.extBut (Ne.symm i12)) ((h2.extBut r1 b1).extBut r2.extBut b3) hy fun g3 q3 r3=>wpAny_pure ?_)
    dsimp only
    refine wpAny_pure ?_
    dsimp only
    refine wpAny_pure ?_
    dsimp only
    refine wpAny_bind (wpAny_newTuple ?_ (by show 2 ≤ sizeLine; rw [sizeLine_eq]; decide))
    have sz : g3.objs.size = s.heap.objs.size := by rw [r3.1,r2.1,rs]
    refine wpAny_pure ⟨_,rfl,wpAny_pure ?_⟩
    show Q (some (.ref g3.objs.size)) _
    rw [sz]
    have zz3 : IsZipL g3 z TI TO T0 true := r3.extBut _ _ z2 (r2.extBut _ _ z1 q1)
    have e1 : g3.IsTupleIter i1 t1 (k + 1) := q2.extBut r3.extBut i12
    refine hQ _ (Heap.get?_push_of_some _ zz3) (let ⟨o,e,r⟩ := e1; ⟨o,Heap.get?_push_of_some _ e,r⟩) (let ⟨o,e,r⟩ := q3; ⟨o,Heap.get?_push_of_some _ e,r⟩) (by rw [← sz]; exact Heap.get?_push_size _ rfl) (by rw [Heap.size_push,sz]) fun c o hc e=>?_
    simp only [List.mem_cons,List.not_mem_nil,or_false,not_or] at hc
    exact Heap.get?_push_of_some _ (r3.extBut _ _ hc.2.2 (r2.extBut _ _ hc.2.1 (r1 _ _ hc.1 e)))
  | false =>
    rw [if_pos (by decide)]
    refine wpAny_bind (wpAny_setField_rec zz (by simp) fun g1 q1 r1'=>wpAny_pure ?_)
    replace q1 : IsZipL g1 z TI TO T0 true := q1
    have r1 : Heap.ExtBut z s.heap g1 := r1'.extBut
    have rs : g1.objs.size = s.heap.objs.size := r1'.1
    rw [if_neg Bool.false_ne_true]
    dsimp only
    refine wpAny_bind ?_
    rw [← Array.forIn_toList]
    simp only [List.forIn_cons,List.forIn_nil]
    refine wpAny_bind (wpAny_bind (wpAny_holding ?_))
    show wpAny _ _ (Builtin.SmallTypes.nextOf (.ref i1) >>= _) _ _ _
    refine wpAny_bind (nextOfT_item (j1.extBut r1 (Ne.symm z1)) (h1.extBut r1 a1) hx fun g2 q2 r2=>wpAny_pure ?_)
    dsimp only
    refine wpAny_pure ?_
    dsimp only
    refine wpAny_bind (wpAny_bind (wpAny_holding ?_))
    show wpAny _ _ (Builtin.SmallTypes.nextOf (.ref i2) >>= _) _ _ _
    refine wpAny_bind (nextOfT_item ((j2.extBut r1 (Ne.symm z2)).extBut r2.extBut (Ne.symm i12)) ((h2.extBut r1 b1).extBut r2.extBut b3) hy fun g3 q3 r3=>wpAny_pure ?_)
    dsimp only
    refine wpAny_pure ?_
    dsimp only
    refine wpAny_pure ?_
    dsimp only
    refine wpAny_bind (wpAny_newTuple ?_ (by show 2 ≤ sizeLine; rw [sizeLine_eq]; decide))
    have sz : g3.objs.size = s.heap.objs.size := by rw [r3.1,r2.1,rs]
    refine wpAny_pure ⟨_,rfl,wpAny_pure ?_⟩
    show Q (some (.ref g3.objs.size)) _
    rw [sz]
    have zz3 : IsZipL g3 z TI TO T0 true := r3.extBut _ _ z2 (r2.extBut _ _ z1 q1)
    have e1 : g3.IsTupleIter i1 t1 (k + 1) := q2.extBut r3.extBut i12
    refine hQ _ (Heap.get?_push_of_some _ zz3) (let ⟨o,e,r⟩ := e1; ⟨o,Heap.get?_push_of_some _ e,r⟩) (let ⟨o,e,r⟩ := q3; ⟨o,Heap.get?_push_of_some _ e,r⟩) (by rw [← sz]; exact Heap.get?_push_size _ rfl) (by rw [Heap.size_push,sz]) fun c o hc e=>?_
    simp only [List.mem_cons,List.not_mem_nil,or_false,not_or] at hc
    exact Heap.get?_push_of_some _ (r3.extBut _ _ hc.2.2 (r2.extBut _ _ hc.2.1 (r1 _ _ hc.1 e)))
theorem zipL_end {z TI TO i1 i2 t1 T0 : Addr} {fl : Bool} {k : Nat} {xs : Array Value} {o0 : Obj} {Q : Option Value → Shared → Prop} (hh : A.handled = none) (nd : [z,TI,i1,i2].Nodup) (zz : IsZipL s.heap z TI TO T0 fl) (ti : IsPair s.heap TI (.ref i1) (.ref i2))
    (h0 : s.heap.get? T0 = some o0) (j1 : s.heap.IsTupleIter i1 t1 k) (n1 : t1 ∉ [z,i1,i2]) (h1 : s.heap.IsTuple t1 xs) (hx : xs[k]? = none)
    (hQ : ∀ h',(∀ c o,c ∉ [z,i1,i2] → s.heap.get? c = some o → h'.get? c = some o) → Q none { s with heap := h' }) : wpAny (model prog w) A (pyNext (.ref z)) Q E s := by
  simp only [List.nodup_cons,List.mem_cons,List.not_mem_nil,or_false,not_or,List.nodup_nil,and_true,not_false_eq_true] at nd n1
  obtain ⟨⟨zTI,z1,z2⟩,⟨TI1,TI2⟩,i12⟩ := nd
  obtain ⟨a1,a3,a4⟩ := n1
  have hT : s.TypeIs (.ref z) "zip" := ⟨_,zz,rfl⟩
  unfold pyNext
  refine wpAny_bind (wpAny_attempt (wpAny_callSpecial?_slot (name := Str.ofString "__next__") hT F.slot_zip_next (wpAny_call_entry F.slot_zip_next hT F.entry_zip_next ?_ (F.args_zip_next_1 _))))
  show wpAny _ _ (field (.ref z) 2 >>= _) _ _ _
  refine wpAny_bind (wpAny_field zz rfl (x := .bool false) rfl ?_)
  show wpAny _ _ (field (.ref z) 3 >>= _) _ _ _
  refine wpAny_bind (wpAny_field zz rfl (x := .ref TI) rfl (wpAny_bind (wpAny_seqItems ti rfl ?_)))
  show wpAny _ _ (Builtin.SmallTypes.ownedTupleIsFree (.ref z) >>= _) _ _ _
  refine wpAny_bind ?_
  unfold Builtin.SmallTypes.ownedTupleIsFree
  refine wpAny_bind (wpAny_field zz rfl (x := rawInt T0) rfl ?_)
  show wpAny _ _ (loadIfAlive (T0 : Int).toNat >>= _) _ _ _
  refine wpAny_bind (wpAny_loadIfAlive ?_)
  rw [Int.toNat_natCast,h0]
  rw [if_neg (by simp)]
  refine wpAny_bind (wpAny_field zz rfl (x := .bool fl) rfl ?_)
  cases fl with
  | true =>
    rw [if_neg (by decide)]
    refine wpAny_pure ?_
    have r1 : Heap.ExtBut z s.heap s.heap := fun _ _ _ e=>e
    rw [if_neg Bool.false_ne_true]
    dsimp only
    refine wpAny_bind ?_
    rw [← Array.forIn_toList]
    simp only [List.forIn_cons,List.forIn_nil]
    refine wpAny_bind (wpAny_bind (wpAny_holding ?_))
    show wpAny _ _ (Builtin.SmallTypes.nextOf (.ref i1) >>= _) _ _ _
    refine wpAny_bind (nextOfT_end hh (j1.extBut r1 (Ne.symm z1)) (h1.extBut r1 a1) hx fun g2 e r2 he=>?_)
    obtain ⟨oe,ho,hc⟩ := he
    refine wpAny_bind (wpAny_isInstance (T := "StopIteration") (b := true) ⟨oe,ho,hc⟩ isSubtype_stop ?_)
    exact wpAny_pure (hQ _ fun c o hcc e=>by
      simp only [List.mem_cons,List.not_mem_nil,or_false,not_or] at hcc
      exact r2 _ _ hcc.2.1 (r1 _ _ hcc.1 e))
  | false =>
    rw [if_pos (by decide)]
    refine wpAny_bind (wpAny_setField_rec zz (by simp) fun g1 q1 r1'=>wpAny_pure ?_)
    have r1 : Heap.ExtBut z s.heap g1 := r1'.extBut
    rw [if_neg Bool.false_ne_true]
    dsimp only
    refine wpAny_bind ?_
    rw [← Array.forIn_toList]
    simp only [List.forIn_cons,List.forIn_nil]
    refine wpAny_bind (wpAny_bind (wpAny_holding ?_))
    show wpAny _ _ (Builtin.SmallTypes.nextOf (.ref i1) >>= _) _ _ _
    refine wpAny_bind (nextOfT_end hh (j1.extBut r1 (Ne.symm z1)) (h1.extBut r1 a1) hx fun g2 e r2 he=>?_)
    obtain ⟨oe,ho,hc⟩ := he
    refine wpAny_bind (wpAny_isInstance (T := "StopIteration") (b := true) ⟨oe,ho,hc⟩ isSubtype_stop ?_)
    exact wpAny_pure (hQ _ fun c o hcc e=>by
      simp only [List.mem_cons,List.not_mem_nil,or_false,not_or] at hcc
      exact r2 _ _ hcc.2.1 (r1 _ _ hcc.1 e))
structure ZW (h : Heap) (z TI TO i1 i2 t1 t2 S N : Addr) (xs ys : Array Value) (i : Nat) (acc : Array Value) (c : Nat) : Prop where
  sz : h.objs.size = N + i
  nd : [z,TI,TO,i1,i2].Nodup
  lt : ∀ b ∈ [z,TI,TO,i1,i2],b < N
  sS : S ∉ [z,TI,TO,i1,i2]
  sN : S < N
  n1 : t1 ∉ [z,TI,TO,i1,i2] ∧ t1 ≠ S
  n2 : t2 ∉ [z,TI,TO,i1,i2] ∧ t2 ≠ S
  zs : ZipT h z TI TO i1 i2 t1 t2 0 ∧ i = 0 ∨ (0 < i ∧ (∃ fl,IsZipL h z TI TO N fl) ∧ IsPair h TI (.ref i1) (.ref i2) ∧ h.IsTupleIter i1 t1 i ∧ h.IsTupleIter i2 t2 i)
  h1 : h.IsTuple t1 xs
  h2 : h.IsTuple t2 ys
  ps : ∀ j x y,j < i → xs[j]? = some x → ys[j]? = some y → IsPair h (N + j) x y
  hS : h.get? S = some { cls := .type "list",dict := none,data := .seq acc c,slots := #[] }
  ac : acc = ((List.range i).map fun j=>Value.ref (N + j)).toArray
end
section
variable {prog : Program} {w : World} {A : Around} {R : Result → Shared → Prop}
theorem extend_zip {z TI TO i1 i2 t1 t2 S N : Addr} {xs ys : Array Value} (hh : A.handled = none) (hn : xs.size ≤ sizeLine) (hxy : xs.size = ys.size) (res : Value) :
    ∀ (m i : Nat) (s : Shared) (acc : Array Value) (c : Nat),xs.size - i = m → i ≤ xs.size → ZW s.heap z TI TO i1 i2 t1 t2 S N xs ys i acc c →
    (∀ h' acc' c',(∀ b o,b ∉ [S,z,TO,i1,i2] → s.heap.get? b = some o → h'.get? b = some o) → h'.get? S = some { cls := .type "list",dict := none,data := .seq acc' c',slots := #[] } → acc' = ((List.range xs.size).map fun j=>Value.ref (N + j)).toArray →
      (∀ j x y,j < xs.size → xs[j]? = some x → ys[j]? = some y → IsPair h' (N + j) x y) → R (.ok (.ret res)) { s with heap := h' }) →
    codeAny (model prog w) A (.builtin "list.extend.loop" ⟨[.ref S, .ref z,res],[]⟩) R s := by
  intro m
  induction m with
  | zero =>
    intro i s acc c hm hi W hR
    have e : i = xs.size := by omega
    subst e
    refine codeAny_builtin F.entry_extend_loop ?_
    rw [Around.under_plainId F.plain_extend_loop _]
    show wpAny _ A.in1 (pyNext (.ref z) >>= _) _ _ s
    have sub : ∀ b : Addr,b ∉ [S,z,TO,i1,i2] → b ∉ [z,TO,i1,i2] := fun b h q=>h (List.mem_cons_of_mem _ q)
    have hx : xs[xs.size]? = none := by simp
    have nz : t1 ∉ [z,TO,i1,i2] := fun h=>W.n1.1 (by simp only [List.mem_cons,List.not_mem_nil,or_false] at h ⊢; rcases h with h | h | h | h <;> simp [h])
    have nS : S ∉ [z,TO,i1,i2] := fun h=>W.sS (by simp only [List.mem_cons,List.not_mem_nil,or_false] at h ⊢; rcases h with h | h | h | h <;> simp [h])
    have nP : ∀ j,N + j ∉ [z,TO,i1,i2] := fun j h=>by
      have q : N + j < N := W.lt _ (by simp only [List.mem_cons,List.not_mem_nil,or_false] at h ⊢; rcases h with h | h | h | h <;> simp [h])
      exact absurd q (Nat.not_lt.mpr (Nat.le_add_right _ _))
    rcases W.zs with ⟨Z,e0⟩ | ⟨hpos,⟨fl,zz⟩,ti,j1,j2⟩
    · rw [e0] at hx
      refine wpAny_bind (zipT_end hh Z nz W.h1 hx fun h' kp=>wpAny_pure (hR h' acc c (fun b o hb e=>kp b o (sub b hb) e) (kp S _ nS W.hS) W.ac fun j x y hj e1 e2=>kp _ _ (nP j) (W.ps j x y hj e1 e2)))
    · have hpos' : 0 < ys.size := by omega
      have hp := W.ps 0 xs[0] ys[0] hpos (by simp [hpos]) (by simp [hpos'])
      have hp' : IsPair s.heap N xs[0] ys[0] := hp
      refine wpAny_bind (zipL_end hh (W.nd.sublist (by simp)) zz ti hp' j1 (fun h=>nz (by simp only [List.mem_cons,List.not_mem_nil,or_false] at h ⊢; rcases h with h | h | h <;> simp [h])) W.h1 hx fun h' kp=>wpAny_pure (hR h' acc c (fun b o hb e=>kp b o (fun q=>sub b hb (by simp only [List.mem_cons,List.not_mem_nil,or_false] at q ⊢; rcases q with h | h | h <;> simp [h])) e)
        (kp S _ (fun q=>nS (by simp only [List.mem_cons,List.not_mem_nil,or_false] at q ⊢; rcases q with h | h | h <;> simp [h])) W.hS) W.ac fun j x y hj e1 e2=>kp _ _ (fun q=>nP j (by simp only [List.mem_cons,List.not_mem_nil,or_false] at q ⊢; rcases q with h | h | h <;> simp [h])) (W.ps j x y hj e1 e2)))
  | succ m ih =>
    intro i s acc c hm hi W hR
    have hlt : i < xs.size := by omega
    have hlt' : i < ys.size := by omega
    refine codeAny_builtin F.entry_extend_loop ?_
    rw [Around.under_plainId F.plain_extend_loop _]
    show wpAny _ A.in1 (pyNext (.ref z) >>= _) _ _ s
    have hx : xs[i]? = some xs[i] := by simp [hlt]
    have hy : ys[i]? = some ys[i] := by simp [hlt']
    have in4 : ∀ b : Addr,b ∈ [z,TO,i1,i2] → b ∈ [z,TI,TO,i1,i2] := fun b h=>by simp only [List.mem_cons,List.not_mem_nil,or_false] at h ⊢; rcases h with h | h | h | h <;> simp [h]
    have in3 : ∀ b : Addr,b ∈ [z,i1,i2] → b ∈ [z,TO,i1,i2] := fun b h=>by simp only [List.mem_cons,List.not_mem_nil,or_false] at h ⊢; rcases h with h | h | h <;> simp [h]
    have nP : ∀ j,N + j ∉ [z,TI,TO,i1,i2] := fun j h=>absurd (W.lt _ h) (Nat.not_lt.mpr (Nat.le_add_right _ _))
    have key : ∀ h',((∃ fl,IsZipL h' z TI TO N fl) ∧ IsPair h' TI (.ref i1) (.ref i2) ∧ h'.IsTupleIter i1 t1 (i + 1) ∧ h'.IsTupleIter i2 t2 (i + 1)) → IsPair h' s.heap.objs.size xs[i] ys[i] → h'.objs.size = s.heap.objs.size + 1 → (∀ c o,c ∉ [z,TO,i1,i2] → s.heap.get? c = some o → h'.get? c = some o) →
        wpAny (model prog w) A.in1 (updateSeq S (·.push (.ref s.heap.objs.size)) >>= fun _=>again (.builtin "list.extend.loop" ⟨[.ref S, .ref z,res],[]⟩))
          (fun fin s'=>match fin with | .done f=>R (.ok f) s' | .again c'=>c'.quiet = true ∧ codeAny (model prog w) A c' R s') (fun e s'=>R (.error e) s') { s with heap := h' } := fun h' st np sz kp=>by
      have hS' := kp S _ (fun q=>W.sS (in4 _ q)) W.hS
      have asz : acc.size = i := by rw [W.ac]; simp
      obtain ⟨c2,hS2⟩ : ∃ c2,(h'.update S (Obj.mapSeq (·.push (.ref s.heap.objs.size)))).get? S = some { cls := .type "list",dict := none,data := .seq (acc.push (.ref s.heap.objs.size)) c2,slots := #[] } := ⟨_,Heap.get?_update_self _ hS' rfl⟩
      refine wpAny_bind (wpAny_updateSeq (s := { s with heap := h' }) hS' rfl (wpAny_pure ⟨plainId_quiet F.plain_extend_loop _,ih (i + 1) _ (acc.push (.ref s.heap.objs.size)) c2 (by omega) hlt ?_ fun h3 acc' c' kp3 hS3 ha3 hp3=>?_⟩) (by rw [asz]; omega) (by show (acc.push _).size ≤ sizeLine + 1; rw [Array.size_push,asz]; omega))
      · have sb := Heap.SameBut.update (h := h') (a := S) (f := Obj.mapSeq (·.push (.ref s.heap.objs.size)))
        have up : ∀ b o,b ≠ S → h'.get? b = some o → (h'.update S (Obj.mapSeq (·.push (.ref s.heap.objs.size)))).get? b = some o := fun b o hb e=>(Heap.get?_update_other _ _ (Ne.symm hb)).trans e
        have neS : ∀ b ∈ [z,TI,TO,i1,i2],b ≠ S := fun b hb e=>W.sS (e ▸ hb)
        obtain ⟨⟨fl,s1⟩,s2,s3,s4⟩ := st
        have szN : s.heap.objs.size = N + i := W.sz
        refine ⟨?_,W.nd,W.lt,W.sS,W.sN,W.n1,W.n2, .inr ⟨Nat.succ_pos _,⟨fl,up _ _ (neS z (by simp)) s1⟩,up _ _ (neS TI (by simp)) s2,(let ⟨o,e,r⟩ := s3; ⟨o,up _ o (neS i1 (by simp)) e,r⟩),(let ⟨o,e,r⟩ := s4; ⟨o,up _ o (neS i2 (by simp)) e,r⟩)⟩,?_,?_,fun j x y hj e1 e2=>?_,hS2,?_⟩
        · show (h'.update S _).objs.size = _
          rw [sb.1,sz,szN]; rfl
        · obtain ⟨o,e,r⟩ := W.h1
          exact ⟨o,up _ o W.n1.2 (kp _ _ (fun q=>W.n1.1 (in4 _ q)) e),r⟩
        · obtain ⟨o,e,r⟩ := W.h2
          exact ⟨o,up _ o W.n2.2 (kp _ _ (fun q=>W.n2.1 (in4 _ q)) e),r⟩
        · have njS : N + j ≠ S := fun e=>absurd W.sN (by rw [← e]; exact Nat.not_lt.mpr (Nat.le_add_right _ _))
          by_cases ej : j = i
          · subst ej
            rw [hx] at e1
            rw [hy] at e2
            cases e1
            cases e2
            rw [szN] at np
            exact up _ _ njS np
          · exact up _ _ njS (kp _ _ (fun q=>nP j (in4 _ q)) (W.ps j x y (by omega) e1 e2))
        · rw [W.ac,szN,List.range_succ,List.map_append]
          simp
      · refine hR h3 acc' c' (fun b o hb e=>?_) hS3 ha3 hp3
        have hb2 : b ∉ [z,TO,i1,i2] ∧ b ≠ S := ⟨fun q=>hb (List.mem_cons_of_mem _ q),fun q=>hb (by simp [q])⟩
        exact kp3 b o hb ((Heap.get?_update_other _ _ (Ne.symm hb2.2)).trans (kp b o hb2.1 e))
    rcases W.zs with ⟨Z,e0⟩ | ⟨hpos,⟨fl,zz⟩,ti,j1,j2⟩
    · subst e0
      have szN : s.heap.objs.size = N := W.sz
      refine wpAny_bind (zipT_item Z (fun q=>W.n1.1 (in4 _ q)) (fun q=>W.n2.1 (in4 _ q)) W.h1 W.h2 hx hy fun h' q1 q2 q3 q4 q5 q6 q7 kp=>key h' ⟨⟨false,?_⟩,q2,q4,q5⟩ q6 q7 kp)
      rw [szN] at q1
      exact q1
    · have hpos' : 0 < ys.size := by omega
      have hpos2 : 0 < xs.size := by omega
      have hp : IsPair s.heap N xs[0] ys[0] := W.ps 0 xs[0] ys[0] hpos (by simp [hpos2]) (by simp [hpos'])
      have n0 : N ∉ [z,i1,i2] := fun q=>nP 0 (in4 _ (in3 _ q))
      refine wpAny_bind (zipL_item (W.nd.sublist (by simp)) zz ti hp n0 j1 j2 (fun q=>W.n1.1 (in4 _ (in3 _ q))) (fun q=>W.n2.1 (in4 _ (in3 _ q))) W.h1 W.h2 hx hy fun h' q1 q4 q5 q6 q7 kp=>key h' ⟨⟨true,q1⟩,kp TI _ (fun q=>?_) ti,q4,q5⟩ q6 q7 fun c o hc e=>kp c o (fun q=>hc (in3 _ q)) e)
      have nd := W.nd
      simp only [List.nodup_cons,List.mem_cons,List.not_mem_nil,or_false,not_or] at nd q
      rcases q with h | h | h
      · exact nd.1.1 h.symm
      · exact nd.2.1.2.1 h
      · exact nd.2.1.2.2 h
end
end PySem
set_option Elab.async false
set_option linter.all false
set_option maxRecDepth 100000
namespace PySem
open PyProof.Rows
namespace F
theorem nolen_zipT : typeLookup (.type "zip") "__len__" = pure none := by rw [typeLookup_type,builtinLookup_eq_fast]; kernel_rfl
theorem nohint_zipT : typeLookup (.type "zip") "__length_hint__" = pure none := by rw [typeLookup_type,builtinLookup_eq_fast]; kernel_rfl
end F
section
variable {prog : Program} {w : World} {A : Around} {E : Value → Shared → Prop} {s : Shared}
theorem call_list_zipT {z TI TO i1 i2 t1 t2 : Addr} {xs ys : Array Value} {Q : Value → Shared → Prop} (hh : A.handled = none) (hn : xs.size ≤ sizeLine) (hxy : xs.size = ys.size) (Z : ZipT s.heap z TI TO i1 i2 t1 t2 0)
    (h1 : s.heap.IsTuple t1 xs) (h2 : s.heap.IsTuple t2 ys) (n1 : t1 ∉ [z,TI,TO,i1,i2]) (n2 : t2 ∉ [z,TI,TO,i1,i2])
    (hQ : ∀ h' c',(∀ b o,b ∉ [s.heap.objs.size,z,TO,i1,i2] → s.heap.get? b = some o → h'.get? b = some o) → h'.get? s.heap.objs.size = some { cls := .type "list",dict := none,data := .seq ((List.range xs.size).map fun j=>Value.ref (s.heap.objs.size + 1 + j)).toArray c',slots := #[] } →
      (∀ j x y,j < xs.size → xs[j]? = some x → ys[j]? = some y → IsPair h' (s.heap.objs.size + 1 + j) x y) → Q (.ref s.heap.objs.size) { s with heap := h' }) :
    wpAny (model prog w) A (call (.type "list") [.ref z]) Q E s := by
  have lt : ∀ c ∈ [z,TI,TO,i1,i2],c < s.heap.objs.size := fun c hc=>by
    simp only [List.mem_cons,List.not_mem_nil,or_false] at hc
    obtain ⟨nd,zz,ti,⟨u,v,tO⟩,⟨o1,j1,c1,d1⟩,⟨o2,j2,c2,d2⟩⟩ := Z
    rcases hc with rfl | rfl | rfl | rfl | rfl
    · exact Heap.lt_size zz
    · exact Heap.lt_size ti
    · exact Heap.lt_size tO
    · exact Heap.lt_size j1
    · exact Heap.lt_size j2
  refine callType_codes (Q₁ := fun obj s₁=>obj = .ref s.heap.objs.size ∧ s₁ = { s with heap := s.heap.push { cls := .type "list",data := .seq #[] } }) F.called_list (F.typeCall_list_1 _) F.entry_list_init
    (code_list_new _ ⟨rfl,rfl⟩) fun obj s₁ h₁=>?_
  obtain ⟨rfl,rfl⟩ := h₁
  have hS : (s.heap.push { cls := .type "list",data := .seq #[] }).get? s.heap.objs.size = some { cls := .type "list",data := .seq #[] } := Heap.get?_push_size _ rfl
  refine ⟨⟨_,hS,rfl⟩,F.args_list_init_2 _ _,?_⟩
  show wpAny _ A.in1.in1 (do let old ← Builtin.List.listItems (.ref s.heap.objs.size); Builtin.List.listUpdate (.ref s.heap.objs.size) (fun _=>#[]); letGo old.toList.reverse; Builtin.List.listExtendWith (.ref s.heap.objs.size) (.ref z) .none) _ _ _
  refine wpAny_bind ?_
  unfold Builtin.List.listItems
  refine wpAny_bind (wpAny_seqItems hS rfl (wpAny_pure ?_))
  show wpAny _ A.in1.in1 (updateSeq s.heap.objs.size (fun _=>#[]) >>= fun _=>letGo (#[] : Array Value).toList.reverse >>= fun _=>Builtin.List.listExtendWith (.ref s.heap.objs.size) (.ref z) .none) _ _ _
  refine wpAny_bind (wpAny_updateSeq (s := { s with heap := s.heap.push { cls := .type "list",data := .seq #[] } }) hS rfl ?_)
  have hS₂ := Heap.get?_update_self (Obj.mapSeq (fun _=>(#[] : Array Value))) hS rfl
  have szp : (s.heap.push { cls := .type "list",data := .seq #[] }).objs.size = s.heap.objs.size + 1 := Heap.size_push ..
  have sb2 := Heap.SameBut.update (h := s.heap.push { cls := .type "list",data := .seq #[] }) (a := s.heap.objs.size) (f := Obj.mapSeq (fun _=>(#[] : Array Value)))
  have up2 : ∀ b o,s.heap.get? b = some o → ((s.heap.push { cls := .type "list",data := .seq #[] }).update s.heap.objs.size (Obj.mapSeq (fun _=>(#[] : Array Value)))).get? b = some o := fun b o e =>
    (Heap.get?_update_other _ _ (Nat.ne_of_gt (Heap.lt_size e))).trans (Heap.get?_push_of_some _ e)
  have sz2 : ((s.heap.push { cls := .type "list",data := .seq #[] }).update s.heap.objs.size (Obj.mapSeq (fun _=>(#[] : Array Value)))).objs.size = s.heap.objs.size + 1 := by rw [sb2.1,szp]
  revert hS₂ up2 sz2
  generalize (s.heap.push { cls := .type "list",data := .seq #[] }).update s.heap.objs.size (Obj.mapSeq (fun _=>(#[] : Array Value))) = g2
  intro hS2 up2 sz2
  have Z2 : ZipT g2 z TI TO i1 i2 t1 t2 0 := by
    obtain ⟨nd,zz,ti,⟨u,v,tO⟩,⟨o1,j1,r1⟩,⟨o2,j2,r2⟩⟩ := Z
    exact ⟨nd,up2 _ _ zz,up2 _ _ ti,⟨u,v,up2 _ _ tO⟩,⟨o1,up2 _ _ j1,r1⟩,⟨o2,up2 _ _ j2,r2⟩⟩
  refine wpAny_bind (wpAny_letGo ?_)
  unfold Builtin.List.listExtendWith
  have hT : Shared.TypeIs { s with heap := g2 } (.ref z) "zip" := ⟨_,Z2.zz,rfl⟩
  refine wpAny_bind (wpAny_typeOf hT ?_)
  have zne : s.heap.objs.size ≠ z := fun e=>Nat.lt_irrefl _ (by have := lt z (by simp); rw [← e] at this; exact this)
  have k1 : Builtin.List.listSameRef (.ref s.heap.objs.size) (.ref z) = false := by simp [Builtin.List.listSameRef,zne]
  have k2 : (Value.type "zip" == Value.type "list") = false := by decide
  have k3 : (Value.type "zip" == Value.type "tuple") = false := by decide
  simp only [k1,k2,k3,Bool.or_false,Bool.false_eq_true,if_false]
  refine wpAny_bind (wpAny_pyIter_zip (s := { s with heap := g2 }) Z2.zz ?_)
  refine wpAny_bind (wpAny_holding ?_)
  unfold Builtin.List.listLengthHint
  refine wpAny_bind (wpAny_specialOf hT F.nolen_zipT ?_)
  show wpAny _ A.in1.in1 (specialOf (Value.ref z) (Str.ofString "__length_hint__") >>= _) _ _ _
  refine wpAny_bind (wpAny_specialOf hT F.nohint_zipT (wpAny_pure ?_))
  show wpAny _ A.in1.in1 (rule "list.extend.makes-room" >>= fun _=>Builtin.List.listTouch (.ref s.heap.objs.size) >>= fun _=>again (.builtin "list.extend.loop" ⟨[.ref s.heap.objs.size, .ref z, .none],[]⟩)) _ _ _
  refine wpAny_bind (wpAny_rule (wpAny_bind ?_))
  show wpAny _ A.in1.in1 (updateSeq s.heap.objs.size (·.push .none) >>= fun _=>updateSeq s.heap.objs.size (·.pop)) _ _ _
  refine wpAny_bind (wpAny_updateSeq (s := { s with heap := g2 }) hS2 rfl ?_)
  have hS₃ := Heap.get?_update_self (Obj.mapSeq (·.push Value.none)) hS2 rfl
  refine wpAny_updateSeq (hz := by seq_fits) hS₃ rfl ?_
  have hS₄ := Heap.get?_update_self (Obj.mapSeq (·.pop)) hS₃ rfl
  have sb3 := Heap.SameBut.update (h := g2) (a := s.heap.objs.size) (f := Obj.mapSeq (·.push Value.none))
  have sb4 := Heap.SameBut.update (h := g2.update s.heap.objs.size (Obj.mapSeq (·.push Value.none))) (a := s.heap.objs.size) (f := Obj.mapSeq (·.pop))
  have up4 : ∀ b o,b ≠ s.heap.objs.size → g2.get? b = some o → ((g2.update s.heap.objs.size (Obj.mapSeq (·.push Value.none))).update s.heap.objs.size (Obj.mapSeq (·.pop))).get? b = some o := fun b o hb e =>
    (Heap.get?_update_other _ _ (Ne.symm hb)).trans ((Heap.get?_update_other _ _ (Ne.symm hb)).trans e)
  have sz4 : ((g2.update s.heap.objs.size (Obj.mapSeq (·.push Value.none))).update s.heap.objs.size (Obj.mapSeq (·.pop))).objs.size = s.heap.objs.size + 1 := by rw [sb4.1,sb3.1,sz2]
  obtain ⟨c4,hS4⟩ : ∃ c4,((g2.update s.heap.objs.size (Obj.mapSeq (·.push Value.none))).update s.heap.objs.size (Obj.mapSeq (·.pop))).get? s.heap.objs.size = some { cls := .type "list",dict := none,data := .seq #[] c4,slots := #[] } := ⟨_,hS₄⟩
  revert hS4 up4 sz4
  generalize (g2.update s.heap.objs.size (Obj.mapSeq (·.push Value.none))).update s.heap.objs.size (Obj.mapSeq (·.pop)) = g4
  intro up4 sz4 hS4
  have neS : ∀ c ∈ [z,TI,TO,i1,i2],c ≠ s.heap.objs.size := fun c hc e=>by have := lt c hc; rw [e] at this; exact Nat.lt_irrefl _ this
  have ne1 : t1 ≠ s.heap.objs.size := fun e=>by obtain ⟨o,ho,_⟩ := h1; have := Heap.lt_size ho; rw [e] at this; exact Nat.lt_irrefl _ this
  have ne2 : t2 ≠ s.heap.objs.size := fun e=>by obtain ⟨o,ho,_⟩ := h2; have := Heap.lt_size ho; rw [e] at this; exact Nat.lt_irrefl _ this
  have Z4 : ZipT g4 z TI TO i1 i2 t1 t2 0 := by
    obtain ⟨nd,zz,ti,⟨u,v,tO⟩,⟨o1,j1,r1⟩,⟨o2,j2,r2⟩⟩ := Z2
    exact ⟨nd,up4 _ _ (neS z (by simp)) zz,up4 _ _ (neS TI (by simp)) ti,⟨u,v,up4 _ _ (neS TO (by simp)) tO⟩,⟨o1,up4 _ _ (neS i1 (by simp)) j1,r1⟩,⟨o2,up4 _ _ (neS i2 (by simp)) j2,r2⟩⟩
  refine wpAny_pure ⟨plainId_quiet F.plain_extend_loop _,extend_zip (A := A.in1) (N := s.heap.objs.size + 1) (S := s.heap.objs.size) hh hn hxy .none xs.size 0 _ #[] c4 rfl (Nat.zero_le _)
    ⟨sz4,Z.nd,fun b hb=>Nat.lt_succ_of_lt (lt b hb),fun h=>neS _ h rfl,Nat.lt_succ_self _,⟨n1,ne1⟩,⟨n2,ne2⟩, .inl ⟨Z4,rfl⟩,(let ⟨o,e,r⟩ := h1; ⟨o,up4 _ o ne1 (up2 _ o e),r⟩),(let ⟨o,e,r⟩ := h2; ⟨o,up4 _ o ne2 (up2 _ o e),r⟩),fun j x y hj=>absurd hj (Nat.not_lt_zero _),hS4,rfl⟩ fun h' acc' c' kp hS' ha hp=>?_⟩
  subst ha
  exact ⟨rfl,hQ h' c' (fun b o hb e=>kp b o hb (up4 b o (fun q=>hb (by simp [q])) (up2 b o e))) hS' hp⟩
end
end PySem
set_option Elab.async false
set_option linter.all false
set_option maxRecDepth 100000
namespace L2
open PySem PySem.Spec PyProof.Rows
def hPs (H : Hp) (N : Addr) : List (V × V) → Hp
  | []=>H
  | (x,y) :: r=>upd (hPs H (N + 1) r) N (.tup [x,y])
section
variable {X : Cx} {pins : List (Addr × Obj)} {σ : St} {s : Shared}
theorem hPs_old {H : Hp} : ∀ {l : List (V × V)} {N b : Addr},b < N → hPs H N l b = H b
  | [],_,_,_=>rfl
  | (x,y) :: r,N,b,h=>by
    show upd (hPs H (N + 1) r) N _ b = _
    rw [upd_ne (Nat.ne_of_lt h),hPs_old (Nat.lt_succ_of_lt h)]
theorem hPs_at {H : Hp} : ∀ {l : List (V × V)} {N j : Nat} {x y : V},l[j]? = some (x,y) → hPs H N l (N + j) = some (.tup [x,y])
  | [],_,_,_,_,h=>by simp at h
  | (a,b) :: r,N,0,x,y,h=>by
    simp only [List.getElem?_cons_zero,Option.some.injEq,Prod.mk.injEq] at h
    show upd _ N _ N = _
    rw [upd_same,h.1,h.2]
  | (a,b) :: r,N,j + 1,x,y,h=>by
    show upd (hPs H (N + 1) r) N _ (N + (j + 1)) = _
    rw [upd_ne (Nat.ne_of_gt (Nat.lt_add_of_pos_right (Nat.succ_pos _))),show N + (j + 1) = (N + 1) + j by omega]
    exact hPs_at (by simpa using h)
theorem Inv.trackPs {H : Hp} (I : Inv X pins σ H s) : ∀ {l : List (V × V)} {N : Addr},(∀ b,N ≤ b → b < N + l.length → FpOk X pins H b) → (∀ (j : Nat) (x y : V),l[j]? = some (x,y) → ∃ u v,RelV x u ∧ RelV y v ∧ IsTup s.heap (N + j) #[u,v]) → Inv X pins σ (hPs H N l) s
  | [],N,_,_=>I
  | (x,y) :: r,N,hf,hp=>by
    have ih := I.trackPs (l := r) (N := N + 1) (fun b h1 h2=>hf b (Nat.le_of_succ_le h1) (by rw [Nat.succ_add] at h2; exact h2)) (fun j a b h=>by
      have := hp (j + 1) a b (by simpa using h)
      rw [show N + (j + 1) = (N + 1) + j from by rw [Nat.add_assoc,Nat.add_comm 1 j]] at this
      exact this)
    obtain ⟨u,v,ru,rv,ht⟩ := hp 0 x y rfl
    obtain ⟨f0,f1⟩ := hf N (Nat.le_refl _) (Nat.lt_add_of_pos_right (Nat.succ_pos _))
    have f0' : hPs H (N + 1) r N = none := by rw [hPs_old (Nat.lt_succ_self _)]; exact f0
    exact ih.trackT (its := [u,v]) ⟨f0',f1⟩ (by show 2 ≤ sizeLine; rw [sizeLine_eq]; decide) (.cons ru (.cons rv .nil)) ht
end
def tListZip (ta : TA) : TE := fun σ H Q=>ta σ H fun vs H1=>∃ a b xs ys,vs = [.ref a, .ref b] ∧ H1 a = some (.tup xs) ∧ H1 b = some (.tup ys) ∧ xs.length = ys.length ∧
  ∀ (l : Addr) (ps : List Addr) H',Same H1 H' → H1 l = none → H' l = some (.lst (ps.map V.ref)) → ps.length = xs.length → (∀ (j : Nat) (x y : V),xs[j]? = some x → ys[j]? = some y → ∃ p,ps[j]? = some p ∧ H' p = some (.tup [x,y])) → Q (.ref l) H'
theorem pe_listZip {X : Cx} {e1 e2 : Expr} {ta : TA} {p pos p2 pos2 : Pos} (hc : X.calm = true) (hgl : Gl X "list") (hml : X.mg "list" = none) (hg : Gl X "zip") (hm : X.mg "zip" = none) (ha : PA X [e1,e2] ta)
    (hs1 : starEach [Expr.Call (.Name "zip" p2) [e1,e2] [] pos2] X.env = [(false,eval (Expr.Call (.Name "zip" p2) [e1,e2] [] pos2) X.env)] := by rfl)
    (hs : starEach [e1,e2] X.env = [(false,eval e1 X.env),(false,eval e2 X.env)] := by rfl) (hs2 : starEach [e2] X.env = [(false,eval e2 X.env)] := by rfl) :
    PE X (.Call (.Name "list" p) [.Call (.Name "zip" p2) [e1,e2] [] pos2] [] pos) (tListZip ta) := by
  intro pins s σ H Q I h
  refine wpAny_Call_Name_kw (ld_blt I hgl hml boot_list ?_ (by decide) (by decide))
  refine PyProof.Rows.callWith_type1 ?_ hs1 rfl
  rw [hs1]
  refine Calls.spliced_cons ?_
  refine Call_ (ld_blt I hg hm boot_zip' (PyProof.Rows.callWith_type1 (thn (ha pos2 pins s σ H _ I h) fun us s1 ⟨vs,H1,I1,r1,q1⟩=>?_) (by rw [hs,hs2]) (by rw [hs2]; rfl)))
  obtain ⟨a,b,xs,ys,rfl,h1,h2,hlen,q⟩ := q1
  cases r1 with
  | cons r rr =>
    cases rr with
    | cons r' rr =>
      cases rr
      cases r
      cases r'
      obtain ⟨its1,rv1,p1,z1⟩ := I1.tuple (SqT.of h1)
      obtain ⟨its2,rv2,p2',z2⟩ := I1.tuple (SqT.of h2)
      have l1 := rv1.length
      have l2 := rv2.length
      refine call_zipT (show s1.heap.IsTuple a its1.toArray from p1) (show s1.heap.IsTuple b its2.toArray from p2') fun h2' z TI TO i1 i2 g1 g2 g3 g4 g5 Z kp=>?_
      refine Calls.spliced_nil ?_
      have alt : a < s1.heap.objs.size := by obtain ⟨o,ho,_⟩ := p1; exact Heap.lt_size ho
      have blt : b < s1.heap.objs.size := by obtain ⟨o,ho,_⟩ := p2'; exact Heap.lt_size ho
      have ge : ∀ c ∈ [z,TI,TO,i1,i2],s1.heap.objs.size ≤ c := fun c hc=>by
        simp only [List.mem_cons,List.not_mem_nil,or_false] at hc
        rcases hc with rfl | rfl | rfl | rfl | rfl <;> assumption
      have szl : s1.heap.objs.size ≤ h2'.objs.size := Nat.le_trans g1 (Nat.le_of_lt (Heap.lt_size Z.zz))
      refine call_list_zipT (s := { s1 with heap := h2' }) (I1.ok.hd hc) (by simp; omega) (by simp; omega) Z (let ⟨o,e,r⟩ := p1; ⟨o,kp _ _ e,r⟩) (let ⟨o,e,r⟩ := p2'; ⟨o,kp _ _ e,r⟩)
        (fun q=>absurd (ge _ q) (Nat.not_le.mpr alt)) (fun q=>absurd (ge _ q) (Nat.not_le.mpr blt)) fun h3 c3 kp3 hS hP=>?_
      have kp1 : ∀ c o,s1.heap.get? c = some o → h3.get? c = some o := fun c o e=>kp3 c o (fun q=>by
        have hlt := Heap.lt_size e
        rcases List.mem_cons.mp q with q | q
        · rw [q] at hlt
          exact absurd hlt (Nat.not_lt.mpr szl)
        · exact absurd (ge c (by simp only [List.mem_cons,List.not_mem_nil,or_false] at q ⊢; rcases q with h | h | h | h <;> simp [h])) (Nat.not_le.mpr hlt)) (kp c o e)
      have I2 : Inv X pins σ H1 { s1 with heap := h3 } := I1.kept (t' := s1.toks) kp1
      have fp : ∀ c,s1.heap.objs.size ≤ c → FpOk X pins H1 c := fun c hc=>I1.fpOk hc (I1.hok.fresh hc)
      have I3 := I2.trackPs (l := xs.zip ys) (N := h2'.objs.size + 1) (fun c hc _=>fp c (Nat.le_trans szl (Nat.le_of_succ_le hc))) (fun j x y hj=>by
        rw [List.getElem?_zip_eq_some] at hj
        obtain ⟨hx,hy⟩ := hj
        obtain ⟨u,hu,ru⟩ := rv1.get hx
        obtain ⟨v,hv,rv⟩ := rv2.get hy
        have hj : j < its1.length := (List.getElem?_eq_some_iff.mp hu).1
        exact ⟨u,v,ru,rv,_,hP j u v (by simpa using hj) (by simpa using hu) (by simpa using hv),rfl,_,rfl⟩)
      have HN : hPs H1 (h2'.objs.size + 1) (xs.zip ys) h2'.objs.size = none := by rw [hPs_old (Nat.lt_succ_self _)]; exact (fp _ szl).1
      obtain ⟨_,f1,f2,f3,f4,f5⟩ := fp _ szl
      have vv : Vals ((List.range its1.length).map fun j=>V.ref (h2'.objs.size + 1 + j)) ((List.range its1.length).map fun j=>Value.ref (h2'.objs.size + 1 + j)) := by
        generalize List.range its1.length = L
        induction L with
        | nil=>exact .nil
        | cons j r ih=>exact .cons rfl ih
      have I4 := I3.track (D := h2'.objs.size) HN (by rw [List.length_map,List.length_range]; omega) vv (by simpa using hS) f3 f1 f4 f5
      refine ⟨.ref h2'.objs.size,_,I4,rfl,q h2'.objs.size ((List.range its1.length).map fun j=>h2'.objs.size + 1 + j) _ (fun c u hc=>?_) (fp _ szl).1 ?_ (by rw [List.length_map,List.length_range,l1]) fun j x y hx hy=>?_⟩
      · have cl : c < s1.heap.objs.size := by
          rcases Nat.lt_or_ge c s1.heap.objs.size with h | h
          · exact h
          · rw [(fp c h).1] at hc; cases hc
        rw [upd_ne (Nat.ne_of_lt (Nat.lt_of_lt_of_le cl szl)),hPs_old (Nat.lt_succ_of_lt (Nat.lt_of_lt_of_le cl szl))]
        exact hc
      · rw [upd_same,List.map_map]; rfl
      · have hj : j < its1.length := by rw [← l1]; exact (List.getElem?_eq_some_iff.mp hx).1
        refine ⟨h2'.objs.size + 1 + j,by rw [List.getElem?_map,List.getElem?_range hj]; rfl,?_⟩
        rw [upd_ne (Nat.ne_of_gt (by omega))]
        exact hPs_at (by rw [List.getElem?_zip_eq_some]; exact ⟨hx,hy⟩)
end L2
set_option Elab.async false
set_option linter.all false
set_option maxRecDepth 100000
namespace Fw
open PySem PySem.Spec PyProof.Rows L2
theorem units_in1 (A : Around) : A.in1.units ≤ A.units + 1 := by first | exact Nat.le_succ _ | exact Nat.le_refl _
end Fw
set_option Elab.async false
set_option linter.all false
set_option maxRecDepth 100000
namespace Fw
open PySem PySem.Spec PyProof.Rows L2
mutual
theorem rep_inj {H : Hp} : ∀ {v : V} {s t : T},Rep H v s → Rep H v t → s = t
  | _,_,_, .int i,r=>by cases r; rfl
  | _,_,_, .str x h,r=>by cases r; rfl
  | _,_,_, .tup h q,r=>by
    cases r with
    | tup h' q' =>
      rw [h] at h'
      cases h'
      rw [reps_inj q q']
theorem reps_inj {H : Hp} : ∀ {vs : List V} {ss ts : List T},Reps H vs ss → Reps H vs ts → ss = ts
  | _,_,_, .nil,r=>by cases r; rfl
  | _,_,_, .cons a b,r=>by
    cases r with
    | cons a' b'=>rw [rep_inj a a',reps_inj b b']
end
open Classical in
noncomputable def eqJ (l m : List T) (j : Nat) : Bool := decide (l[j]? = m[j]?)
open Classical in
theorem eqJ_iff (l m : List T) (j : Nat) : eqJ l m j = true ↔ l[j]? = m[j]? := by unfold eqJ; exact decide_eq_true_iff
theorem eqJ_is {l m : List T} {j : Nat} {t r : T} {b : Bool} (h1 : l[j]? = some t) (h2 : m[j]? = some r) (h : b = true ↔ t = r) : eqJ l m j = b := by
  rw [Bool.eq_iff_iff,eqJ_iff,h1,h2,h]
  simp
theorem eqJ_all (l m : List T) : ((List.range (min l.length m.length)).all (eqJ l m) && (l.length == m.length)) = true ↔ l = m := by
  rw [Bool.and_eq_true,List.all_eq_true,beq_iff_eq]
  constructor
  · rintro ⟨h1,h2⟩
    apply List.ext_getElem?
    intro i
    by_cases c : i < l.length
    · have := h1 i (List.mem_range.mpr (by omega))
      exact (eqJ_iff l m i).mp this
    · rw [List.getElem?_eq_none (by omega),List.getElem?_eq_none (by omega)]
  · rintro rfl
    refine ⟨fun j _=>?_,rfl⟩
    exact (eqJ_iff l l j).mpr rfl
theorem kd_item {n : Nat} {z : Str} {ks : List T} (nz : NQ z) (hk : ∀ k ∈ ks,KD n k) {t : T} (h : t ∈ T.str z :: ks) : KD n t := by
  rcases List.mem_cons.mp h with h | h
  · rw [h]; exact .leaf (by have := nz.2; omega)
  · exact hk t h
theorem eq_kinds2 {P : Program} {w : World} {H : Hp} {s : Shared} (ok : HOk P w H s.heap) : ∀ (n : Nat) {t r : T},KD n t → KD n r → ∀ {A : Around} {x y : V} {u v : Value},Rep H x t → Rep H y r → RelV x u → RelV y v → A.units + n < cLine → ∃ b,(b = true ↔ t = r) ∧ SeqAt.EqAt A s u v b := by
  intro n
  induction n with
  | zero =>
    intro t r k1 k2 A x y u v rx ry ru rv _
    cases k1 with
    | @leaf _ z hz =>
      cases k2 with
      | @leaf _ z' hz' =>
        cases rx
        cases ry
        obtain ⟨t1,rfl⟩ := ru
        obtain ⟨t2,rfl⟩ := rv
        exact ⟨_,by rw [beq_iff_eq]; simp,SeqAt.EqAt.str_str (A := A) (s := s) z t1 z' t2⟩
  | succ n ih =>
    intro t r k1 k2 A x y u v rx ry ru rv hu
    cases k1 with
    | @leaf _ z hz =>
      cases k2 with
      | @leaf _ z' hz' =>
        cases rx
        cases ry
        obtain ⟨t1,rfl⟩ := ru
        obtain ⟨t2,rfl⟩ := rv
        exact ⟨_,by rw [beq_iff_eq]; simp,SeqAt.EqAt.str_str (A := A) (s := s) z t1 z' t2⟩
      | @tup _ z' ks' nz' k1' k3' hk' =>
        cases rx
        cases ry with
        | @tup b ys _ hb rb =>
          obtain ⟨t1,rfl⟩ := ru
          cases rv
          obtain ⟨z2,its2,v2,p2⟩ := ok b _ hb
          exact ⟨false,by simp,SeqAt.EqAt.str_tuple (A := A) (s := s) z t1 (show s.heap.IsTuple b its2.toArray from p2) (by omega)⟩
    | @tup _ z ks nz k1' k3 hk =>
      cases rx with
      | @tup a xs _ ha ra =>
        cases k2 with
        | @leaf _ z' hz' =>
          cases ry
          obtain ⟨t2,rfl⟩ := rv
          cases ru
          obtain ⟨z1,its1,v1,p1⟩ := ok a _ ha
          exact ⟨false,by simp,SeqAt.EqAt.tuple_str (A := A) (s := s) z' t2 (show s.heap.IsTuple a its1.toArray from p1) (by omega)⟩
        | @tup _ z' ks' nz' k1'' k3' hk' =>
          cases ry with
          | @tup b ys _ hb rb =>
            cases ru
            cases rv
            by_cases e : a = b
            · subst e
              rw [ha] at hb
              cases hb
              exact ⟨true,⟨fun _=>by rw [reps_inj ra rb],fun _=>rfl⟩,SeqAt.EqAt.same _⟩
            · obtain ⟨z1,its1,v1,p1⟩ := ok a _ ha
              obtain ⟨z2,its2,v2,p2⟩ := ok b _ hb
              have l1 := ra.length
              have l2 := rb.length
              have l3 := v1.length
              have l4 := v2.length
              have hu1 := units_in1 A
              have q := SeqAt.RcAt.tuples (A := A) (s := s) (e := eqJ (T.str z :: ks) (T.str z' :: ks')) (show s.heap.IsTuple a its1.toArray from p1) (show s.heap.IsTuple b its2.toArray from p2) (by omega) fun j h1 h2=>?_
              · refine ⟨_,?_,SeqAt.EqAt.of_refs e q⟩
                have e1 : its1.toArray.size = (T.str z :: ks).length := by rw [List.size_toArray]; omega
                have e2 : its2.toArray.size = (T.str z' :: ks').length := by rw [List.size_toArray]; omega
                rw [e1,e2,eqJ_all]
                constructor
                · exact fun h=>by rw [h]
                · exact fun h=>by injection h
              · have h1' : j < its1.length := by simpa using h1
                have h2' : j < its2.length := by simpa using h2
                obtain ⟨x',hx'⟩ : ∃ x',xs[j]? = some x' := ⟨xs[j]'(by omega),List.getElem?_eq_getElem _⟩
                obtain ⟨y',hy'⟩ : ∃ y',ys[j]? = some y' := ⟨ys[j]'(by omega),List.getElem?_eq_getElem _⟩
                obtain ⟨t1,ht1,rx'⟩ := ra.at2 hx'
                obtain ⟨t2,ht2,ry'⟩ := rb.at2 hy'
                obtain ⟨u1,hu1',ru1⟩ := v1.get hx'
                obtain ⟨u2,hu2',ru2⟩ := v2.get hy'
                have e1 : its1.toArray[j] = u1 := by
                  have := (List.getElem?_eq_some_iff.mp hu1').2
                  simpa using this
                have e2 : its2.toArray[j] = u2 := by
                  have := (List.getElem?_eq_some_iff.mp hu2').2
                  simpa using this
                rw [e1,e2]
                obtain ⟨b',hb',q'⟩ := ih (kd_item nz hk (List.mem_of_getElem? ht1)) (kd_item nz' hk' (List.mem_of_getElem? ht2)) (A := A.in1) rx' ry' ru1 ru2 (by omega)
                have eb : eqJ (T.str z :: ks) (T.str z' :: ks') j = b' := eqJ_is ht1 ht2 hb'
                rw [eb]
                exact q'
theorem op_neQ {X : Cx} (hu : X.A.units + 64 < cLine) : OpR X (compareOp .NotEq) (fun x y H Q=>∃ t r n,n ≤ 60 ∧ Rep H x t ∧ Rep H y r ∧ KD n t ∧ KD n r ∧ (t = r → Q (.bl false) H) ∧ (t ≠ r → Q (.bl true) H)) := by
  intro pins s σ H x y v u Q I rx ry h
  obtain ⟨t,r,n,hn,r1,r2,k1,k2,q1,q2⟩ := h
  cases k1 with
  | @leaf _ z hz =>
    cases k2 with
    | @leaf _ z' hz' =>
      cases r1
      cases r2
      by_cases c : z = z'
      · subst c
        exact op_ne pins s σ H _ _ v u Q I rx ry ⟨rfl,by rw [decide_eq_true rfl]; exact q1 rfl⟩
      · exact op_ne pins s σ H _ _ v u Q I rx ry ⟨rfl,by rw [decide_eq_false (fun e=>c (by injection e))]; exact q2 (fun e=>c (by injection e))⟩
    | @tup n z' ks' nz' k1' k3' hk' =>
      cases r1
      cases r2 with
      | @tup b ys _ hb rb =>
        obtain ⟨t1,rfl⟩ := rx
        cases ry
        obtain ⟨z2,its2,v2,p2⟩ := I.hok b _ hb
        exact SeqAt.RcNeAt.str_tuple (A := X.A) (s := s) z t1 (show s.heap.IsTuple b its2.toArray from p2) (by omega) X.prog X.w _ _ ⟨.bl true,H,I,rfl,q2 (by simp)⟩
  | @tup n z ks nz k1' k3 hk =>
    cases r1 with
    | @tup a xs _ ha ra =>
      cases k2 with
      | @leaf _ z' hz' =>
        cases r2
        cases rx
        obtain ⟨t2,rfl⟩ := ry
        obtain ⟨z1,its1,v1,p1⟩ := I.hok a _ ha
        exact SeqAt.RcNeAt.tuple_str (A := X.A) (s := s) z' t2 (show s.heap.IsTuple a its1.toArray from p1) (by omega) X.prog X.w _ _ ⟨.bl true,H,I,rfl,q2 (by simp)⟩
      | @tup _ z' ks' nz' k1'' k3' hk' =>
        cases r2 with
        | @tup b ys _ hb rb =>
          cases rx
          cases ry
          obtain ⟨z1,its1,v1,p1⟩ := I.hok a _ ha
          obtain ⟨z2,its2,v2,p2⟩ := I.hok b _ hb
          have l1 := ra.length
          have l2 := rb.length
          have l3 := v1.length
          have l4 := v2.length
          have hu1 := units_in1 X.A
          have q := SeqAt.RcNeAt.tuples (A := X.A) (s := s) (e := eqJ (T.str z :: ks) (T.str z' :: ks')) (show s.heap.IsTuple a its1.toArray from p1) (show s.heap.IsTuple b its2.toArray from p2) (by omega) fun j h1 h2=>?_
          · have e1 : its1.toArray.size = (T.str z :: ks).length := by rw [List.size_toArray]; omega
            have e2 : its2.toArray.size = (T.str z' :: ks').length := by rw [List.size_toArray]; omega
            rw [e1,e2] at q
            have hb := eqJ_all (T.str z :: ks) (T.str z' :: ks')
            revert q hb
            generalize ((List.range (min (T.str z :: ks).length (T.str z' :: ks').length)).all (eqJ (T.str z :: ks) (T.str z' :: ks')) && ((T.str z :: ks).length == (T.str z' :: ks').length)) = c
            intro q hb
            cases c with
            | true=>exact q X.prog X.w _ _ ⟨.bl false,H,I,rfl,q1 (by rw [hb.mp rfl])⟩
            | false=>exact q X.prog X.w _ _ ⟨.bl true,H,I,rfl,q2 (fun e=>by injection e with e; exact Bool.false_ne_true (hb.mpr e))⟩
          · have h1' : j < its1.length := by simpa using h1
            have h2' : j < its2.length := by simpa using h2
            obtain ⟨x',hx'⟩ : ∃ x',xs[j]? = some x' := ⟨xs[j]'(by omega),List.getElem?_eq_getElem _⟩
            obtain ⟨y',hy'⟩ : ∃ y',ys[j]? = some y' := ⟨ys[j]'(by omega),List.getElem?_eq_getElem _⟩
            obtain ⟨t1,ht1,rx'⟩ := ra.at2 hx'
            obtain ⟨t2,ht2,ry'⟩ := rb.at2 hy'
            obtain ⟨u1,hu1',ru1⟩ := v1.get hx'
            obtain ⟨u2,hu2',ru2⟩ := v2.get hy'
            have e1 : its1.toArray[j] = u1 := by
              have := (List.getElem?_eq_some_iff.mp hu1').2
              simpa using this
            have e2 : its2.toArray[j] = u2 := by
              have := (List.getElem?_eq_some_iff.mp hu2').2
              simpa using this
            rw [e1,e2]
            obtain ⟨b',hb',q'⟩ := eq_kinds2 I.hok n (kd_item nz hk (List.mem_of_getElem? ht1)) (kd_item nz' hk' (List.mem_of_getElem? ht2)) (A := X.A.in1) rx' ry' ru1 ru2 (by omega)
            have eb : eqJ (T.str z :: ks) (T.str z' :: ks') j = b' := eqJ_is ht1 ht2 hb'
            rw [eb]
            exact q'
end Fw
set_option Elab.async false
set_option linter.all false
set_option maxRecDepth 100000
namespace Fw
open PySem PySem.Spec PyProof.Rows L2
def Vin (z : Str) (t : T) : Prop := T.str z ∈ pre t ∧ Txt.startswith z "?" = true
theorem vin_str {z y : Str} : Vin z (.str y) ↔ z = y ∧ Txt.startswith y "?" = true := by
  unfold Vin
  show T.str z ∈ [T.str y] ∧ _ ↔ _
  constructor
  · rintro ⟨h1,h2⟩
    have e : T.str z = T.str y := List.mem_singleton.mp h1
    injection e with e
    subst e
    exact ⟨rfl,h2⟩
  · rintro ⟨rfl,h⟩
    exact ⟨List.mem_singleton.mpr rfl,h⟩
theorem mem_pres' {k : T} {ks : List T} {p : T} (hk : k ∈ ks) (hp : p ∈ pre k) : p ∈ pres ks := by
  induction ks with
  | nil=>cases hk
  | cons q r ih =>
    show p ∈ pre q ++ pres r
    rcases List.mem_cons.mp hk with e | e
    · rw [← e]; exact List.mem_append_left _ hp
    · exact List.mem_append_right _ (ih e)
theorem vin_tup {z : Str} {h : T} {ks : List T} : Vin z (.tup (h :: ks)) ↔ ∃ k ∈ ks,Vin z k := by
  unfold Vin
  show T.str z ∈ (T.tup (h :: ks) :: pres ks) ∧ _ ↔ _
  constructor
  · rintro ⟨h1,h2⟩
    rcases List.mem_cons.mp h1 with e | e
    · cases e
    · obtain ⟨k,hk,hp⟩ := mem_pres e
      exact ⟨k,hk,hp,h2⟩
  · rintro ⟨k,hk,hp,h2⟩
    exact ⟨List.mem_cons_of_mem _ (mem_pres' hk hp),h2⟩
def pT (p : T × T) : T := .tup [p.1,p.2]
def szp (ts : List (T × T)) : Nat := szs (ts.map (·.1))
theorem rps_zip {H : Hp} : ∀ (ks ls : List T) (xr yr : List V) (ps : List Addr),Reps H xr ks → Reps H yr ls → ks.length = ls.length → ps.length = xr.length → (∀ (j : Nat) (x y : V),xr[j]? = some x → yr[j]? = some y → ∃ p,ps[j]? = some p ∧ H p = some (.tup [x,y])) → Reps H (ps.map V.ref) ((ks.zip ls).map pT)
  | [],_,xr,yr,ps,h1,h2,_,h3,_=>by
    cases h1
    have : ps = [] := List.length_eq_zero_iff.mp (by simpa using h3)
    subst this
    exact .nil
  | k :: ks,[],_,_,_,_,_,h,_,_=>by simp at h
  | k :: ks,l :: ls,xr,yr,ps,h1,h2,hl,h3,h4=>by
    cases h1 with
    | @cons xa _ xb _ q1 q2 =>
      cases h2 with
      | @cons ya _ yb _ q3 q4 =>
        cases ps with
        | nil=>simp at h3
        | cons p ps =>
          obtain ⟨p',e1,e2⟩ := h4 0 xa ya rfl rfl
          have e1' : p = p' := by simpa using e1
          subst e1'
          exact .cons (.tup e2 (.cons q1 (.cons q3 .nil))) (rps_zip ks ls xb yb ps q2 q4 (by simpa using hl) (by simpa using h3) fun j x y hx hy=>by
            obtain ⟨p2,e3,e4⟩ := h4 (j + 1) x y (by simpa using hx) (by simpa using hy)
            exact ⟨p2,by simpa using e3,e4⟩)
theorem rev_pT (s t : T) (us : List (T × T)) : (((s,t) :: us).reverse).map pT = us.reverse.map pT ++ [.tup [s,t]] := by simp [pT]
theorem rev_zT (zs us : List (T × T)) : ((zs.reverse ++ us).reverse).map pT = us.reverse.map pT ++ zs.map pT := by simp
end Fw
set_option Elab.async false
set_option linter.all false
set_option maxRecDepth 100000
namespace Fw
open PySem PySem.Spec PyProof.Rows L2
def spSameHead : Sp := fun vs H Q _=>∃ (a b : Addr) (z y : Str) (xs ys : List V),vs = [.ref a, .ref b] ∧ H a = some (.tup (.str z :: xs)) ∧ H b = some (.tup (.str y :: ys)) ∧ (xs.length = ys.length ∧ z = y → Q (.bl true) H) ∧ (¬ (xs.length = ys.length ∧ z = y) → Q (.bl false) H)
section
variable {P : Program} {w : World} {K : PySem.W.Frag} {mg : Str → Option Value} {base : Heap} {f : Addr} {fd : FuncData}
abbrev s_same_head : Stmt := top 9
theorem sc_same_head : FnScope ["one","other"] ["one","other"] (defScope s_same_head) := ⟨rfl,rfl,rfl,by decide +kernel,rfl,by decide +kernel,by decide +kernel⟩
theorem ok_same_head (F : Fun K "same_head" "same_head" s_same_head f fd) (ml : mg "len" = none) : FnOk P w K mg base CX0 1 f fd ["one","other"] spSameHead := by
  refine F.ok sc_same_head (fun vs H Q E h=>?_) (fun cdv A outer s H vs Q E hr h=>?_)
  · obtain ⟨a,b,z,y,xs,ys,rfl,_⟩ := h
    rfl
  obtain ⟨a,b,z,y,xs,ys,rfl,ha,hb,q1,q2⟩ := h
  refine ⟨_,pss_one (ps_ret (pe_and (pe_cmpR op_eq (pe_callB call_len_seq rfl ml PySem.boot_len (pa_cons (pv 0) pa_nil)) (pe_callB call_len_seq rfl ml PySem.boot_len (pa_cons (pv 1) pa_nil)) (nomark _))
    (pe_one (pe_cmpR op_eq (pe_ix ix_tup (pv 0) pe_int (fun _ _=>rfl)) (pe_ix ix_tup (pv 1) pe_int (fun _ _=>rfl)) (nomark _))))),?_⟩
  refine ⟨_,rfl,a,_,rfl, .inr (SqT.of ha),_,rfl,b,_,rfl, .inr (SqT.of hb),rfl,_,rfl,?_⟩
  by_cases c : xs.length = ys.length
  · rw [show (V.str z :: xs).length = (V.str y :: ys).length by simp [c],decide_eq_true rfl]
    refine iteT ⟨_,rfl,a,_,0, .str z,rfl,rfl,SqT.of ha,atI_nat (j := 0) rfl,_,rfl,b,_,0, .str y,rfl,rfl,SqT.of hb,atI_nat (j := 0) rfl,rfl,?_⟩
    by_cases c2 : z = y
    · subst c2
      rw [decide_eq_true rfl]
      exact q1 ⟨c,rfl⟩
    · rw [decide_eq_false (fun e=>c2 (by injection e))]
      exact q2 fun h=>c2 h.2
  · rw [decide_eq_false (fun e=>c (by injection e with e; simp at e; omega))]
    exact iteF (q2 fun h=>c h.1)
end
end Fw
set_option Elab.async false
set_option linter.all false
set_option maxRecDepth 100000
namespace Fw
open PySem PySem.Spec PyProof.Rows L2
def VarsM (m : List (Str × T)) : Prop := ∀ z t,m.lookup z = some t → Txt.startswith z "?" = true
theorem fillT_str (m : List (Str × T)) (z : Str) : fillT m (.str z) = (m.lookup z).getD (.str z) := by rw [fillT]
theorem fillT_tup (m : List (Str × T)) (h : T) (ks : List T) : fillT m (.tup (h :: ks)) = .tup (h :: ks.map (fillT m)) := by
  rw [fillT,fill1,fills_map]
end Fw
set_option Elab.async false
set_option linter.all false
set_option maxRecDepth 100000
namespace Fw
open PySem PySem.Spec PyProof.Rows L2
def jfl (b f : Addr) : List (Str × V) := [("bound", .ref b),("fixed", .ref f)]
structure TxJ (K : PySem.W.Frag) (C : Addr) : Prop where
  cl : Cls K C
  a1 : NoAttr K C "bound"
  a2 : NoAttr K C "fixed"
section
variable (b f : Addr) (v : V)
theorem jf1 : (jfl b f).lookup ("bound" : Str) = some (V.ref b) := by first | rfl | (with_unfolding_all rfl) | kernel_rfl
theorem jf2 : (jfl b f).lookup ("fixed" : Str) = some (V.ref f) := by first | rfl | (with_unfolding_all rfl) | kernel_rfl
theorem jp1 : putF "bound" v [] = ([("bound",v)] : List (Str × V)) := by first | rfl | (with_unfolding_all rfl) | kernel_rfl
theorem jp2 (u : V) : putF "fixed" u [("bound",v)] = ([("bound",v),("fixed",u)] : List (Str × V)) := by first | rfl | (with_unfolding_all rfl) | kernel_rfl
theorem jn1 : (jfl b f).lookup ("is_loose" : Str) = none := by first | rfl | (with_unfolding_all rfl) | kernel_rfl
theorem jn2 : (jfl b f).lookup ("end_of" : Str) = none := by first | rfl | (with_unfolding_all rfl) | kernel_rfl
theorem jn3 : (jfl b f).lookup ("bind" : Str) = none := by first | rfl | (with_unfolding_all rfl) | kernel_rfl
theorem jn4 : (jfl b f).lookup ("join_ends" : Str) = none := by first | rfl | (with_unfolding_all rfl) | kernel_rfl
theorem jn5 : (jfl b f).lookup ("join_pair" : Str) = none := by first | rfl | (with_unfolding_all rfl) | kernel_rfl
theorem jn6 : (jfl b f).lookup ("loose_within" : Str) = none := by first | rfl | (with_unfolding_all rfl) | kernel_rfl
theorem jn7 : (jfl b f).lookup ("inner_first" : Str) = none := by first | rfl | (with_unfolding_all rfl) | kernel_rfl
theorem jn8 : (jfl b f).lookup ("whole" : Str) = none := by first | rfl | (with_unfolding_all rfl) | kernel_rfl
end
theorem at_ne' {H : Hp} {a b : Addr} {o x : HO} (h : H a = some o) (n : a ≠ b) : (upd H b x) a = some o := by rw [upd_ne n]; exact h
structure JO (C : Addr) (H : Hp) (jo dx b f : Addr) (kvs : List (Key × V)) (m : List (Str × T)) : Prop where
  ob : H jo = some (.ins C dx (jfl b f))
  hb : H b = some (.dK kvs)
  hf : H f = some (.dK [])
  dr : DReps H kvs m
  ne : b ≠ f
theorem JO.same {C : Addr} {H H' : Hp} {jo dx b f : Addr} {kvs : List (Key × V)} {m : List (Str × T)} (J : JO C H jo dx b f kvs m) (e : Same H H') : JO C H' jo dx b f kvs m := ⟨e _ _ J.ob,e _ _ J.hb,e _ _ J.hf,J.dr.mono (Same.tups e),J.ne⟩
def spOpenN : Sp := fun vs H Q E=>spOpen vs H Q E ∨ (vs = [.non] ∧ Q (.bl false) H)
def spJInit (C : Addr) : Sp := fun vs H Q _=>∃ (jo dx : Addr),vs = [.ref jo] ∧ H jo = some (.ins C dx []) ∧ ∀ b f H',JO C H' jo dx b f [] [] → (∀ c o,c ≠ jo → H c = some o → H' c = some o) → H b = none → Q .non H'
def KindN (H : Hp) (v : V) : Option T → Prop
  | some t=>Rep H v t
  | none=>v = .non
def openO : Option T → Bool
  | some t=>openT t
  | none=>false
def spLoose (C : Addr) : Sp := fun vs H Q _=>∃ (jo dx b f : Addr) (kvs : List (Key × V)) (m : List (Str × T)) (v : V) (t : Option T),vs = [.ref jo,v] ∧ JO C H jo dx b f kvs m ∧ KindN H v t ∧ Q (.bl (openO t)) H
section
variable {P : Program} {w : World} {K : PySem.W.Frag} {mg : Str → Option Value} {base : Heap} {f : Addr} {fd : FuncData} {C : Addr}
abbrev jm (i : Nat) : Stmt := inClass (top 11) i
theorem kit_nonstr (K : PySem.W.Frag) : PySem.W.kitOne K (.type "NoneType") (.type "str") = some false := by first | rfl | kernel_rfl
theorem ok_is_openN (F : Fun K "is_open" "is_open" s_is_open f fd) (mi : mg "isinstance" = none) (ms : mg "str" = none) : FnOk P w K mg base CX0 1 f fd ["thing"] spOpenN := by
  refine F.ok sc_is_open (fun vs H Q E h=>?_) (fun cdv A outer s H vs Q E hr h=>?_)
  · rcases h with ⟨v,t,rfl,_⟩ | ⟨rfl,_⟩ <;> rfl
  refine ⟨_,pss_one (ps_ret (pe_and (pe_callB call_isi rfl mi boot_isinstance (pa_cons (pv 0) (pa_cons (pe_bltn (v := .ty "str") rfl ms boot_str rfl) pa_nil)))
    (pe_one (pe_bm PySem.F.plainAttrs_str PySem.F.slot_str_startswith PySem.F.type_str_startswith mt_startswith (pv 0) (pa_cons pe_str pa_nil))))),?_⟩
  rcases h with ⟨v,t,rfl,rt,q⟩ | ⟨rfl,q⟩
  · refine ⟨_,rfl,_,_,_,_,rfl,rep_ty rt,kit_str K t,_,rfl,?_⟩
    cases rt with
    | int i=>exact iteF q
    | tup h r=>exact iteF q
    | str z hz=>exact iteT ⟨_,rfl,rfl,z,"?",rfl,rfl,q⟩
  · exact ⟨_,rfl,_,_,_,_,rfl, .non,kit_nonstr K,_,rfl,iteF q⟩
theorem sc_jinit : FnScope ["self"] ["self"] (defScope (jm 0)) := ⟨rfl,rfl,rfl,by decide +kernel,rfl,by decide +kernel,by decide +kernel⟩
theorem ok_jinit (F : Fun K "__init__" "Joins.__init__" (jm 0) f fd) (Tx : TxJ K C) : FnOk P w K mg base CX0 1 f fd ["self"] (spJInit C) := by
  refine F.ok sc_jinit (fun vs H Q E h=>?_) (fun cdv A outer s H vs Q E hr h=>?_)
  · obtain ⟨jo,dx,rfl,_⟩ := h
    rfl
  obtain ⟨jo,dx,rfl,ho,q⟩ := h
  refine ⟨_,pss_cons (ps_fld (pv 0) pe_dnewK rfl) (pss_one (ps_fld (pv 0) pe_dnewK rfl)),?_⟩
  intro b hb
  have nb : jo ≠ b := ne_of_none ho hb
  refine ⟨_,rfl,jo,C,dx,[],rfl,at_ne' ho nb,Tx.cl,Tx.a1,(by show 0 < 1000; decide),?_⟩
  rw [jp1]
  intro g hg
  have ng : jo ≠ g := fun e=>by rw [← e,upd_same] at hg; cases hg
  have gb : b ≠ g := fun e=>by rw [← e,upd_ne (Ne.symm nb),upd_same] at hg; cases hg
  refine ⟨_,rfl,jo,C,dx,_,rfl,at_ne' upd_same ng,Tx.cl,Tx.a2,(by show 1 < 1000; decide),?_⟩
  rw [jp2]
  refine q b g _ ⟨upd_same,?_,?_, .nil,gb⟩ (fun c o nc h=>?_) hb
  · rw [upd_ne (Ne.symm nb),upd_ne gb,upd_ne (Ne.symm nb),upd_same]
  · rw [upd_ne (Ne.symm ng),upd_same]
  · have hg' : H g = none := by
      cases hz : H g with
      | none=>rfl
      | some o'=>rw [upd_ne (Ne.symm ng),upd_ne (Ne.symm gb),hz] at hg; cases hg
    rw [upd_ne nc,upd_ne (ne_of_none h hg'),upd_ne nc,upd_ne (ne_of_none h hb)]
    exact h
theorem sc_jloose : FnScope ["self","kind"] ["self","kind"] (defScope (jm 1)) := ⟨rfl,rfl,rfl,by decide +kernel,rfl,by decide +kernel,by decide +kernel⟩
theorem ok_jloose (F : Fun K "is_loose" "Joins.is_loose" (jm 1) f fd) (Tx : TxJ K C) (h1 : Has P w K mg base 1 "is_open" ["thing"] spOpenN) : FnOk P w K mg base CX0 2 f fd ["self","kind"] (spLoose C) := by
  refine F.ok sc_jloose (fun vs H Q E h=>?_) (fun cdv A outer s H vs Q E hr h=>?_)
  · obtain ⟨jo,dx,b,g,kvs,m,v,t,rfl,_⟩ := h
    rfl
  obtain ⟨jo,dx,b,g,kvs,m,v,t,rfl,J,kt,q⟩ := h
  have hu := hu_of hr
  refine ⟨_,pss_one (ps_ret (pe_and (pcall h1 hr (by decide) rfl (pa_cons (pv 1) pa_nil)) (pe_one (pe_cmpR (op_notInD hu) (pv 1) (pe_fld (pv 0) rfl) (by rfl))))),?_⟩
  refine ⟨_,rfl,?_⟩
  cases t with
  | none =>
    cases (show v = .non from kt)
    exact .inr ⟨rfl,_,rfl,iteF q⟩
  | some t =>
    have rt : Rep H v t := kt
    refine .inl ⟨v,t,rfl,rt,_,rfl,?_⟩
    have q' : Q (.bl (openT t)) H := q
    cases rt with
    | int i=>exact iteF q'
    | tup h r=>exact iteF q'
    | str z hz =>
      refine ite2 (fun c=>?_) (fun c=>?_)
      · refine ⟨_,rfl,_,rfl,jo,C,dx,_, .ref g,rfl,J.ob,Tx.cl,Tx.a2,jf2 _ _,g,_,rfl,DGet.k (k := Sum.inr z) J.hf,?_⟩
        have e : openT (.str z) = true := c
        rw [e] at q'
        exact q'
      · have e : openT (.str z) = false := by
          cases hz : openT (.str z) with
          | false=>rfl
          | true=>exact absurd hz c
        rw [e] at q'
        exact q'
end
end Fw
set_option Elab.async false
set_option linter.all false
set_option maxRecDepth 100000
namespace Fw
open PySem PySem.Spec PyProof.Rows L2
def putT (m : List (Str × T)) (z : Str) (t : T) : List (Str × T) :=
  if (m.any fun p=>decide (p.1 = z)) = true then m.map (fun p=>if p.1 = z then (p.1,t) else p) else m ++ [(z,t)]
theorem any_keys {H : Hp} {z : Str} : ∀ {kvs : List (Key × V)} {m : List (Str × T)},DReps H kvs m → (kvs.any fun kv=>decide (kv.1 = (Sum.inr z : Key))) = (m.any fun p=>decide (p.1 = z))
  | _,_, .nil=>rfl
  | _,_, .cons (z := y) r q=>by
    rw [List.any_cons,List.any_cons,any_keys q]
    have : decide ((Sum.inr y : Key) = Sum.inr z) = decide (y = z) := by
      by_cases h : y = z
      · rw [decide_eq_true h,decide_eq_true (by rw [h])]
      · rw [decide_eq_false h,decide_eq_false fun e=>h (Sum.inr.inj e)]
    rw [this]
theorem map_keys {H : Hp} {z : Str} {v : V} {t : T} (rt : Rep H v t) : ∀ {kvs : List (Key × V)} {m : List (Str × T)},DReps H kvs m → DReps H (kvs.map fun kv=>if kv.1 = (Sum.inr z : Key) then (kv.1,v) else kv) (m.map fun p=>if p.1 = z then (p.1,t) else p)
  | _,_, .nil=>.nil
  | _,_, .cons (z := y) (v := u) (t := s) r q=>by
    rw [List.map_cons,List.map_cons]
    by_cases h : y = z
    · rw [if_pos (show ((Sum.inr y,u) : Key × V).1 = Sum.inr z by rw [h]),if_pos (show ((y,s) : Str × T).1 = z from h)]
      exact .cons rt (map_keys rt q)
    · rw [if_neg (show ¬ ((Sum.inr y,u) : Key × V).1 = Sum.inr z from fun e=>h (Sum.inr.inj e)),if_neg (show ¬ ((y,s) : Str × T).1 = z from h)]
      exact .cons r (map_keys rt q)
theorem DReps.put {H : Hp} {z : Str} {v : V} {t : T} {kvs : List (Key × V)} {m : List (Str × T)} (rt : Rep H v t) (d : DReps H kvs m) : DReps H (putK kvs (Sum.inr z) v) (putT m z t) := by
  unfold putK putT
  rw [any_keys d]
  split
  · exact map_keys rt d
  · exact d.snoc rt
theorem look_any {z : Str} : ∀ (m : List (Str × T)),(m.any fun p=>decide (p.1 = z)) = (m.lookup z).isSome
  | []=>rfl
  | (y,t) :: m=>by
    rw [List.any_cons,List.lookup_cons,look_any m]
    by_cases h : y = z
    · subst h; simp
    · have : (z == y) = false := beq_false_of_ne (Ne.symm h)
      rw [this,decide_eq_false h,Bool.false_or]
theorem look_map (z y : Str) (t : T) : ∀ (m : List (Str × T)),(m.map fun p=>if p.1 = z then (p.1,t) else p).lookup y = (m.lookup y).map fun x=>if y = z then t else x
  | []=>rfl
  | (x,s) :: m=>by
    rw [List.map_cons]
    by_cases hx : x = z
    · rw [if_pos (show ((x,s) : Str × T).1 = z from hx),List.lookup_cons,List.lookup_cons,look_map z y t m]
      by_cases hy : y = x
      · subst hy; simp [hx]
      · have : (y == x) = false := beq_false_of_ne hy
        rw [this]
    · rw [if_neg (show ¬ ((x,s) : Str × T).1 = z from hx),List.lookup_cons,List.lookup_cons,look_map z y t m]
      by_cases hy : y = x
      · subst hy; simp [hx]
      · have : (y == x) = false := beq_false_of_ne hy
        rw [this]
theorem look_snoc (z y : Str) (t : T) : ∀ (m : List (Str × T)),m.lookup z = none → (m ++ [(z,t)]).lookup y = if y = z then some t else m.lookup y
  | [],_=>by
    show ([(z,t)] : List (Str × T)).lookup y = _
    rw [List.lookup_cons]
    by_cases h : y = z
    · subst h; simp
    · have : (y == z) = false := beq_false_of_ne h
      rw [this,if_neg h]
  | (x,s) :: m,hn=>by
    rw [List.lookup_cons] at hn
    have hzx : z ≠ x := fun e=>by rw [e] at hn; simp at hn
    have : (z == x) = false := beq_false_of_ne hzx
    rw [this] at hn
    rw [List.cons_append,List.lookup_cons,List.lookup_cons,look_snoc z y t m hn]
    by_cases hy : y = x
    · subst hy; simp [Ne.symm hzx]
    · have : (y == x) = false := beq_false_of_ne hy
      rw [this]
theorem look_put (m : List (Str × T)) (z y : Str) (t : T) : (putT m z t).lookup y = if y = z then some t else m.lookup y := by
  unfold putT
  by_cases a : (m.any fun p=>decide (p.1 = z)) = true
  · rw [if_pos a,look_map]
    rw [look_any] at a
    by_cases h : y = z
    · subst h
      obtain ⟨x,hx⟩ := Option.isSome_iff_exists.mp a
      rw [hx]; simp
    · rw [if_neg h]
      simp only [if_neg h]
      cases m.lookup y <;> rfl
  · rw [if_neg a]
    refine look_snoc z y t m ?_
    rw [look_any] at a
    cases hz : m.lookup z with
    | none=>rfl
    | some x=>rw [hz] at a; exact absurd rfl a
theorem len_put (m : List (Str × T)) (z : Str) (t : T) : (putT m z t).length ≤ m.length + 1 := by
  unfold putT
  split <;> simp
def Gd (n : Nat) (U : List Str) (t : T) : Prop := KD n t ∧ ∀ y,Vin y t → y ∈ U
structure BOk (n : Nat) (U : List Str) (m bnd : List (Str × T)) (rk : Str → Nat) : Prop where
  th : ∀ z k,bnd.lookup z = some k → fillT m k = fillT m (.str z)
  gd : ∀ z k,bnd.lookup z = some k → Gd n U k
  op : ∀ z k,bnd.lookup z = some k → openT (.str z) = true ∧ z ∈ U ∧ z.length ≤ 80
  rk : ∀ z y,bnd.lookup z = some (.str y) → openT (.str y) = true → rk y < rk z
def vrB (bnd : List (Str × T)) (z : Str) : Prop := ∃ k,bnd.lookup z = some k ∧ openT k = true
def isEnd (bnd : List (Str × T)) (t : T) : Prop := ∀ z,t = .str z → ¬ vrB bnd z
def SameV (bnd bnd' : List (Str × T)) : Prop := ∀ z,(vrB bnd z ↔ vrB bnd' z) ∧ ∀ k,openT k = false → (bnd.lookup z = some k ↔ bnd'.lookup z = some k)
def KN (m : List (Str × T)) : Prop := (m.map (·.1)).Nodup
theorem key_look {z : Str} : ∀ {m : List (Str × T)},z ∈ m.map (·.1) → ∃ k,m.lookup z = some k
  | (x,s) :: m,h=>by
    rw [List.lookup_cons]
    by_cases e : z = x
    · subst e; exact ⟨s,by simp⟩
    · have : (z == x) = false := beq_false_of_ne e
      rw [this]
      rw [List.map_cons] at h
      exact key_look ((List.mem_cons.mp h).resolve_left e)
theorem kn_put {m : List (Str × T)} {z : Str} {t : T} (h : KN m) : KN (putT m z t) := by
  unfold KN putT at *
  split
  · have : (m.map fun p=>if p.1 = z then (p.1,t) else p).map (·.1) = m.map (·.1) := by
      rw [List.map_map]
      refine List.map_congr_left fun p _=>?_
      show (if p.1 = z then (p.1,t) else p).1 = p.1
      split <;> rfl
    rw [this]
    exact h
  · rename_i hn
    rw [List.map_append,List.nodup_append]
    refine ⟨h,by simp,fun a ha b hb=>?_⟩
    have eb : b = z := by simpa using hb
    subst eb
    intro e
    subst e
    obtain ⟨k,hk⟩ := key_look ha
    rw [look_any,hk] at hn
    exact hn rfl
def Resp (s bnd : List (Str × T)) : Prop := ∀ z k,bnd.lookup z = some k → fillT s k = fillT s (.str z)
structure Ended (n : Nat) (U : List Str) (m : List (Str × T)) (rk : Str → Nat) (bnd : List (Str × T)) (t : T) (bnd' : List (Str × T)) (t' : T) : Prop where
  bo : BOk n U m bnd' rk
  gd : Gd n U t'
  th : fillT m t' = fillT m t
  en : openT t' = true → isEnd bnd' t'
  sv : SameV bnd bnd'
  ln : bnd'.length ≤ bnd.length
  cl : openT t = false → t' = t
  kn : KN bnd → KN bnd'
  bk : ∀ s,Resp s bnd' → Resp s bnd ∧ fillT s t' = fillT s t
theorem SameV.refl (bnd : List (Str × T)) : SameV bnd bnd := fun z=>⟨Iff.rfl,fun k _=>Iff.rfl⟩
theorem open_str {t : T} (h : openT t = true) : ∃ z,t = .str z := by
  cases t with
  | str z=>exact ⟨z,rfl⟩
  | int i=>cases h
  | tup l=>cases h
theorem len_put_old {m : List (Str × T)} {z : Str} {t k : T} (h : m.lookup z = some k) : (putT m z t).length = m.length := by
  unfold putT
  rw [look_any,h]
  simp
theorem short {n : Nat} {U : List Str} {m bnd : List (Str × T)} {rk : Str → Nat} {z y : Str} {k : T} (B : BOk n U m bnd rk) (hz : bnd.lookup z = some k) (ok : openT k = true) (oy : openT (.str y) = true) (gy : Gd n U (.str y)) (th : fillT m (.str y) = fillT m (.str z)) (r : rk y < rk z) :
    BOk n U m (putT bnd z (.str y)) rk ∧ SameV bnd (putT bnd z (.str y)) ∧ (putT bnd z (.str y)).length = bnd.length := by
  refine ⟨⟨fun x k' h=>?_,fun x k' h=>?_,fun x k' h=>?_,fun x y' h o=>?_⟩,fun x=>⟨?_,fun k' o=>?_⟩,len_put_old hz⟩
  · rw [look_put] at h
    split at h
    · rename_i e; subst e; injection h with h; rw [← h]; exact th
    · exact B.th x k' h
  · rw [look_put] at h
    split at h
    · injection h with h; rw [← h]; exact gy
    · exact B.gd x k' h
  · rw [look_put] at h
    split at h
    · rename_i e; subst e; exact B.op _ _ hz
    · exact B.op x k' h
  · rw [look_put] at h
    split at h
    · rename_i e; subst e; injection h with h; injection h with h; rw [← h]; exact r
    · exact B.rk x y' h o
  · unfold vrB
    by_cases e : x = z
    · subst e
      exact ⟨fun _=>⟨.str y,by rw [look_put,if_pos rfl],oy⟩,fun _=>⟨k,hz,ok⟩⟩
    · simp only [look_put,if_neg e]
  · rw [look_put]
    by_cases e : x = z
    · subst e
      rw [if_pos rfl,hz]
      constructor
      · intro h; injection h with h; rw [← h,ok] at o; cases o
      · intro h; injection h with h; rw [← h,oy] at o; cases o
    · rw [if_neg e]
theorem end_back {bnd : List (Str × T)} {rk : Str → Nat} {z : Str} {k te : T} (hz : bnd.lookup z = some k) (hch : ∀ s,(∀ x k',rk x < rk z → bnd.lookup x = some k' → fillT s k' = fillT s (.str x)) → fillT s te = fillT s k) :
    ∀ s,Resp s (putT bnd z te) → Resp s bnd ∧ fillT s te = fillT s (.str z) := by
  intro s h
  have hne : ∀ x k',x ≠ z → bnd.lookup x = some k' → fillT s k' = fillT s (.str x) := fun x k' nx hl=>h x k' (by rw [look_put,if_neg nx]; exact hl)
  have hz' : fillT s te = fillT s (.str z) := h z te (by rw [look_put,if_pos rfl])
  have hk : fillT s te = fillT s k := hch s fun x k' r hl=>hne x k' (fun e=>by rw [e] at r; exact Nat.lt_irrefl _ r) hl
  refine ⟨fun x k' hl=>?_,hz'⟩
  by_cases e : x = z
  · subst e; rw [hz] at hl; cases hl; rw [← hk]; exact hz'
  · exact hne x k' e hl
theorem bind_back {bnd : List (Str × T)} {z : Str} {k : T} {prs : List (T × T)} (h : (bnd.lookup z = none ∧ prs = []) ∨ ∃ w,bnd.lookup z = some w ∧ prs = [(k,w)]) {s : List (Str × T)} (r : Resp s (putT bnd z k)) (hp : ∀ p ∈ prs,fillT s p.1 = fillT s p.2) : Resp s bnd ∧ fillT s k = fillT s (.str z) := by
  have hz' : fillT s k = fillT s (.str z) := r z k (by rw [look_put,if_pos rfl])
  refine ⟨fun x k' hl=>?_,hz'⟩
  by_cases e : x = z
  · subst e
    rcases h with ⟨h1,_⟩ | ⟨w,h1,rfl⟩
    · rw [h1] at hl; cases hl
    · rw [h1] at hl; cases hl
      rw [← hz']
      exact (hp _ List.mem_cons_self).symm
  · exact r x k' (by rw [look_put,if_neg e]; exact hl)
end Fw
set_option Elab.async false
set_option linter.all false
set_option maxRecDepth 100000
namespace Fw
open PySem PySem.Spec PyProof.Rows L2
def KeepB (b : Addr) (H H' : Hp) : Prop := ∀ c o,c ≠ b → H c = some o → H' c = some o
def spEnd (C : Addr) : Sp := fun vs H Q _=>∃ (jo dx b f : Addr) (kvs : List (Key × V)) (bnd : List (Str × T)) (v : V) (t : T) (n : Nat) (U : List Str) (m : List (Str × T)) (rk : Str → Nat),vs = [.ref jo,v] ∧ JO C H jo dx b f kvs bnd ∧ BOk n U m bnd rk ∧ Rep H v t ∧ Gd n U t ∧ n ≤ 60 ∧ bnd.length ≤ 1000 ∧
  ∀ v' t' kvs' bnd' H',KeepB b H H' → JO C H' jo dx b f kvs' bnd' → Rep H' v' t' → Ended n U m rk bnd t bnd' t' → Q v' H'
theorem KeepB.tups {b : Addr} {H H' : Hp} {kvs : List (Key × V)} (k : KeepB b H H') (hb : H b = some (.dK kvs)) : ∀ c xs,H c = some (.tup xs) → H' c = some (.tup xs) := fun c xs h=>k c _ (ne_of h hb (by intro z; cases z)) h
theorem JO.put {C : Addr} {H : Hp} {jo dx b f : Addr} {kvs : List (Key × V)} {m : List (Str × T)} {z : Str} {v : V} {t : T} (J : JO C H jo dx b f kvs m) (r : Rep H v t) :
    JO C (upd H b (.dK (putK kvs (Sum.inr z) v))) jo dx b f (putK kvs (Sum.inr z) v) (putT m z t) ∧ KeepB b H (upd H b (.dK (putK kvs (Sum.inr z) v))) := by
  have kb : KeepB b H (upd H b (.dK (putK kvs (Sum.inr z) v))) := fun c o n h=>by rw [upd_ne n]; exact h
  have tu := kb.tups J.hb
  exact ⟨⟨kb _ _ (ne_of J.ob J.hb (by intro z; cases z)) J.ob,upd_same,kb _ _ (Ne.symm J.ne) J.hf,(J.dr.mono tu).put (r.mono tu),J.ne⟩,kb⟩
theorem op_key {n : Nat} {U : List Str} {m bnd : List (Str × T)} {rk : Str → Nat} {z : Str} {k : T} (B : BOk n U m bnd rk) (h : bnd.lookup z = some k) : openT (.str z) = true := (B.op z k h).1
section
variable {P : Program} {w : World} {K : PySem.W.Frag} {mg : Str → Option Value} {base : Heap} {f : Addr} {fd : FuncData} {C : Addr}
theorem sc_jend : FnScope ["self","kind","end"] ["self","kind"] (defScope (jm 2)) := ⟨rfl,rfl,rfl,by decide +kernel,rfl,by decide +kernel,by decide +kernel⟩
set_option maxHeartbeats 2000000 in
theorem ok_jend {fL : Addr} {gL : FuncData} (F : Fun K "end_of" "Joins.end_of" (jm 2) f fd) (Tx : TxJ K C) (ML : Meth K C "is_loose" fL) (GL : FnOk P w K mg base CX0 2 fL gL ["self","kind"] (spLoose C)) (bL : Binds K gL ["self","kind"] []) : FnOk P w K mg base CX0 3 f fd ["self","kind"] (spEnd C) := by
  refine F.ok sc_jend (fun vs H Q E h=>?_) (fun cdv A outer s H vs Q E hr h=>?_)
  · obtain ⟨jo,dx,b,g,kvs,bnd,v,t,n,U,m,rk,rfl,_⟩ := h
    rfl
  obtain ⟨jo,dx,b,g,kvs,bnd,v,t,n,U,m,rk,rfl,J,B,rt,gt,n60,lb,q⟩ := h
  have hu := hu_of hr
  have hu64 := hr.units
  refine ⟨_,pss_cons (ps_set (i := 2) sc_jend.nd rfl (Or.inl rfl) (pv 1))
    (pss_cons (ps_while PassesOwn.never (PW.pt (pw_and (pt_val (pe_meth (pv 0) Tx.cl ML GL hr bL .nil pass0 (pa_cons (pv 2) pa_nil)))
        (pw_and1 (pt_val (pe_meth (pv 0) Tx.cl ML GL hr bL .nil pass0 (pa_cons (pe_dget1 hu (pe_fld (pv 0) rfl) (pv 2) ⟨rfl,rfl,rfl,rfl⟩) pa_nil))))))
      (pss_one (ps_set (i := 2) sc_jend.nd rfl (Or.inl rfl) (pe_dget hu (pe_fld (pv 0) rfl) (pv 2) (fun _ _=>rfl)))))
    (pss_cons (ps_if (pt_cmpR (op_neQ hu64) (pv 2) (pv 1) (nomark _)) (pss_one (ps_dput hu (pe_fld (pv 0) rfl) (pv 1) (pv 2) rfl)) pss_nil)
    (pss_one (ps_ret (pv 2))))),?_⟩
  refine ⟨_,rfl,?_⟩
  refine ⟨fun M σ H'=>H' = H ∧ ∃ (ve : V) (te : T),σ = [some (.ref jo),some v,some ve] ∧ Rep H ve te ∧ Gd n U te ∧ fillT m te = fillT m t ∧ (te = t ∨ ∃ z y k,t = .str z ∧ te = .str y ∧ bnd.lookup z = some k ∧ openT k = true ∧ openT te = true ∧ rk y < rk z ∧ ∀ s,(∀ x k',rk x < rk z → bnd.lookup x = some k' → fillT s k' = fillT s (.str x)) → fillT s te = fillT s k) ∧
      M = (match te with | .str z=>rk z + 1 | _=>0),⟨_,rfl,v,t,rfl,rt,gt,rfl, .inl rfl,rfl⟩,?_⟩
  rintro M σ H1 ⟨rfl,ve,te,rfl,re,ge,the,hte,rfl⟩
  refine ⟨_,rfl,jo,dx,_,rfl,J.ob,jn1 _ _,_,rfl,jo,dx,b,g,kvs,bnd,ve,some te,rfl,J,re,_,rfl,?_⟩
  refine ite2 (fun c=>?_) (fun c=>?_)
  · have c' : openT te = true := c
    obtain ⟨z,rfl⟩ := open_str c'
    cases re with
    | str _ hz80 =>
    have re : Rep H1 (.str z) (.str z) := .str z hz80
    refine ⟨_,rfl,jo,dx,_,rfl,J.ob,jn1 _ _,_,rfl,jo,C,dx,_, .ref b,rfl,J.ob,Tx.cl,Tx.a1,jf1 _ _,b,rfl, .inl ⟨_, .inl J.hb⟩,_,rfl,_,DGet.k (k := Sum.inr z) J.hb,?_⟩
    rcases J.dr.get z with ⟨g1,g2⟩ | ⟨v',k,g1,g2,rk'⟩
    · rw [g1]
      refine ⟨jo,dx,b,g,kvs,bnd, .non,none,rfl,J,rfl,false,rfl,iteF ?_⟩
      have en : openT (.str z) = true → isEnd bnd (.str z) := fun _ x ex hv=>by
        obtain ⟨k,h1,_⟩ := hv
        injection ex with ex
        rw [← ex,g2] at h1; cases h1
      refine ⟨_,rfl,_,rfl, .str z,t,n,n60,re,rt,ge.1,gt.1,fun e=>⟨false,rfl,iteF ⟨_,rfl,q _ _ kvs bnd _ (fun c o _ h=>h) J re ⟨B,ge,the,en, .refl _,Nat.le_refl _,fun _=>e,fun h=>h,fun s h=>⟨h,by rw [e]⟩⟩⟩⟩,fun e=>⟨true,rfl,iteT ?_⟩⟩
      rcases hte with e' | ⟨z0,y,k0,e1,e2,hz,ok,oy,hrk,hch⟩
      · exact absurd e' e
      · cases e1
        cases e2
        cases rt
        obtain ⟨B',sv,ln⟩ := short B hz ok oy ge the hrk
        obtain ⟨J',kb⟩ := J.put (z := z0) re
        refine ⟨_,rfl,_,rfl,jo,C,dx,_, .ref b,rfl,J.ob,Tx.cl,Tx.a1,jf1 _ _,_,rfl,b,_,rfl,DPut.k (k := Sum.inr z0) J.hb (small' (by have := J.dr.length; omega)),?_⟩
        exact ⟨_,rfl,q _ _ _ _ _ kb J' (re.mono (kb.tups J.hb)) ⟨B',ge,the,fun o x ex hv=>en o x ex ((sv x).1.mpr hv),sv,by omega,fun o=>absurd (op_key B hz) (by rw [o]; decide),fun h=>kn_put h,end_back hz hch⟩⟩
    · rw [g1]
      refine ⟨jo,dx,b,g,kvs,bnd,v',some k,rfl,J,rk',_,rfl,?_⟩
      refine ite2 (fun c2=>?_) (fun c2=>?_)
      · have c2' : openT k = true := c2
        obtain ⟨y,rfl⟩ := open_str c2'
        have hr' := B.rk z y g2 c2'
        refine ⟨_,fun _ _ h=>h,?_⟩
        refine ⟨_,rfl,jo,C,dx,_, .ref b,rfl,J.ob,Tx.cl,Tx.a1,jf1 _ _,_,rfl,b,v',rfl,by have := DGet.k (k := Sum.inr z) J.hb; rw [g1] at this; exact this,?_⟩
        refine ⟨rk y + 1,by show rk y + 1 < rk z + 1; omega,rfl,v', .str y,rfl,rk',B.gd z _ g2,(B.th z _ g2).trans the,?_,rfl⟩
        rcases hte with e' | ⟨z0,y0,k0,e1,e2,hz,ok,oy,hrk,hch⟩
        · exact .inr ⟨z,y, .str y,e'.symm,rfl,g2,c2',c2',hr',fun s _=>rfl⟩
        · injection e2 with e2
          subst e2
          exact .inr ⟨z0,y,k0,e1,rfl,hz,ok,c2',by omega,fun s hs=>(hs z _ hrk g2).trans (hch s hs)⟩
      · have en : openT (.str z) = true → isEnd bnd (.str z) := fun _ x ex hv=>by
          obtain ⟨k1,h1,o1⟩ := hv
          injection ex with ex
          rw [← ex,g2] at h1
          injection h1 with h1
          rw [← h1] at o1
          exact c2 o1
        refine ⟨_,rfl,_,rfl, .str z,t,n,n60,re,rt,ge.1,gt.1,fun e=>⟨false,rfl,iteF ⟨_,rfl,q _ _ kvs bnd _ (fun c o _ h=>h) J re ⟨B,ge,the,en, .refl _,Nat.le_refl _,fun _=>e,fun h=>h,fun s h=>⟨h,by rw [e]⟩⟩⟩⟩,fun e=>⟨true,rfl,iteT ?_⟩⟩
        rcases hte with e' | ⟨z0,y,k0,e1,e2,hz,ok,oy,hrk,hch⟩
        · exact absurd e' e
        · cases e1
          cases e2
          cases rt
          obtain ⟨B',sv,ln⟩ := short B hz ok oy ge the hrk
          obtain ⟨J',kb⟩ := J.put (z := z0) re
          refine ⟨_,rfl,_,rfl,jo,C,dx,_, .ref b,rfl,J.ob,Tx.cl,Tx.a1,jf1 _ _,_,rfl,b,_,rfl,DPut.k (k := Sum.inr z0) J.hb (small' (by have := J.dr.length; omega)),?_⟩
          exact ⟨_,rfl,q _ _ _ _ _ kb J' (re.mono (kb.tups J.hb)) ⟨B',ge,the,fun o x ex hv=>en o x ex ((sv x).1.mpr hv),sv,by omega,fun o=>absurd (op_key B hz) (by rw [o]; decide),fun h=>kn_put h,end_back hz hch⟩⟩
  · have en : openT te = true → isEnd bnd te := fun o=>absurd o c
    refine ⟨_,rfl,_,rfl,te,t,n,n60,re,rt,ge.1,gt.1,fun e=>⟨false,rfl,iteF ⟨_,rfl,q ve te kvs bnd _ (fun c o _ h=>h) J re ⟨B,ge,the,en, .refl _,Nat.le_refl _,fun _=>e,fun h=>h,fun s h=>⟨h,by rw [e]⟩⟩⟩⟩,fun e=>⟨true,rfl,iteT ?_⟩⟩
    rcases hte with e' | ⟨z0,y,k0,e1,e2,hz,ok,oy,hrk,hch⟩
    · exact absurd e' e
    · cases e1
      cases e2
      cases rt
      obtain ⟨B',sv,ln⟩ := short B hz ok oy ge the hrk
      obtain ⟨J',kb⟩ := J.put (z := z0) re
      refine ⟨_,rfl,_,rfl,jo,C,dx,_, .ref b,rfl,J.ob,Tx.cl,Tx.a1,jf1 _ _,_,rfl,b,_,rfl,DPut.k (k := Sum.inr z0) J.hb (small' (by have := J.dr.length; omega)),?_⟩
      exact ⟨_,rfl,q _ _ _ _ _ kb J' (re.mono (kb.tups J.hb)) ⟨B',ge,the,fun o x ex hv=>en o x ex ((sv x).1.mpr hv),sv,by omega,fun o=>absurd (op_key B hz) (by rw [o]; decide),fun h=>kn_put h,end_back hz hch⟩⟩
end
end Fw
set_option Elab.async false
set_option linter.all false
set_option maxRecDepth 100000
namespace Fw
open PySem PySem.Spec PyProof.Rows L2
def vs_ (t : T) : List Str := stand (pre t)
theorem stand1_mem {acc : List Str} {t : T} {y : Str} : y ∈ stand1 acc t ↔ y ∈ acc ∨ (t = .str y ∧ Txt.startswith y "?" = true) := by
  cases t with
  | int i=>simp [stand1]
  | tup l=>simp [stand1]
  | str z =>
    show y ∈ (if Txt.startswith z "?" = true then (if z ∈ acc then acc else acc ++ [z]) else acc) ↔ _
    by_cases c : Txt.startswith z "?" = true
    · rw [if_pos c]
      by_cases d : z ∈ acc
      · rw [if_pos d]
        constructor
        · exact .inl
        · rintro (h | ⟨h,_⟩)
          · exact h
          · injection h with h; rw [← h]; exact d
      · rw [if_neg d,List.mem_append,List.mem_singleton]
        constructor
        · rintro (h | h)
          · exact .inl h
          · rw [h]; exact .inr ⟨rfl,c⟩
        · rintro (h | ⟨h,_⟩)
          · exact .inl h
          · injection h with h; exact .inr h.symm
    · rw [if_neg c]
      constructor
      · exact .inl
      · rintro (h | ⟨h,o⟩)
        · exact h
        · injection h with h; rw [h] at c; exact absurd o c
theorem foldl_mem {y : Str} : ∀ (ts : List T) (acc : List Str),y ∈ ts.foldl stand1 acc ↔ y ∈ acc ∨ (T.str y ∈ ts ∧ Txt.startswith y "?" = true)
  | [],acc=>by simp
  | t :: ts,acc=>by
    rw [List.foldl_cons,foldl_mem ts,stand1_mem,List.mem_cons]
    constructor
    · rintro ((h | ⟨h,o⟩) | ⟨h,o⟩)
      · exact .inl h
      · exact .inr ⟨.inl h.symm,o⟩
      · exact .inr ⟨.inr h,o⟩
    · rintro (h | ⟨h | h,o⟩)
      · exact .inl (.inl h)
      · exact .inl (.inr ⟨h.symm,o⟩)
      · exact .inr ⟨h,o⟩
theorem mem_vs {t : T} {y : Str} : y ∈ vs_ t ↔ Vin y t := by
  unfold vs_ stand Vin
  rw [foldl_mem]
  simp
theorem vin_len {z : Str} : ∀ {n : Nat} {t : T},KD n t → Vin z t → z.length ≤ 80 := by
  intro n t k
  induction k with
  | leaf hz=>intro h; rw [vin_str] at h; rw [h.1]; exact hz
  | tup nz k1 k3 hk ih =>
    intro h
    rw [vin_tup] at h
    obtain ⟨k,mk,hv⟩ := h
    exact ih k mk hv
def spLWithin (C : Addr) : Sp := fun vs H Q _=>∃ (jo dx b f : Addr) (kvs : List (Key × V)) (bnd : List (Str × T)) (v : V) (t : T) (n : Nat),vs = [.ref jo,v] ∧ JO C H jo dx b f kvs bnd ∧ Rep H v t ∧ KD n t ∧ t.sz ≤ 100000 ∧
  ∀ (l : Addr) H',Same H H' → H l = none → H' l = some (.lst ((vs_ t).map V.str)) → (vs_ t).length ≤ 100000 → Q (.ref l) H'
section
variable {P : Program} {w : World} {K : PySem.W.Frag} {mg : Str → Option Value} {base : Heap} {f : Addr} {fd : FuncData} {C : Addr}
theorem sc_jwithin : FnScope ["self","kind"] ["self","kind"] (defScope (jm 6)) := ⟨rfl,rfl,rfl,by decide +kernel,rfl,by decide +kernel,by decide +kernel⟩
set_option maxHeartbeats 1000000 in
theorem ok_jwithin {fL : Addr} {gL : FuncData} (F : Fun K "loose_within" "Joins.loose_within" (jm 6) f fd) (Tx : TxJ K C) (ML : Meth K C "is_loose" fL) (GL : FnOk P w K mg base CX0 2 fL gL ["self","kind"] (spLoose C)) (bL : Binds K gL ["self","kind"] [])
    (h1 : Has P w K mg base 2 "variables" ["kind"] spVars) : FnOk P w K mg base CX0 3 f fd ["self","kind"] (spLWithin C) := by
  refine F.ok sc_jwithin (fun vs H Q E h=>?_) (fun cdv A outer s H vs Q E hr h=>?_)
  · obtain ⟨jo,dx,b,g,kvs,bnd,v,t,n,rfl,_⟩ := h
    rfl
  obtain ⟨jo,dx,b,g,kvs,bnd,v,t,n,rfl,J,rt,kt,sz,q⟩ := h
  refine ⟨_,pss_one (ps_ret (pe_lc (defScope (jm 6)) ["self","kind"] ["self"] [0] (by decide +kernel) (pi_list (pcall h1 hr (by decide) rfl (pa_cons (pv 1) pa_nil)))
    (fun C' s₀ H₀ ex=>pts_one (pt_val (pe_meth (pv 1) Tx.cl ML GL hr bL .nil pass0 (pa_cons (pv 0) pa_nil)))) (fun C' s₀ H₀ ex=>pv 0))),?_⟩
  refine ⟨_,rfl,v,t,n,rfl,rt,kt,sz,fun lv H1 s1 lv0 hlv len=>?_⟩
  refine ⟨lv,rfl,⟨_,SqL.of hlv⟩,?_⟩
  refine comp_lst (xs := (vs_ t).map V.str) (fun i vs H'=>H' = H1 ∧ vs = ((vs_ t).take i).map V.str) ⟨rfl,by simp⟩ ?_ ?_ ?_
  · rintro i vs H' hi ⟨rfl,rfl⟩
    refine ⟨SqL.of hlv,small' ?_⟩
    have : ((vs_ t).take i).length ≤ (vs_ t).length := by rw [List.length_take]; exact Nat.min_le_right _ _
    rw [List.length_map]
    have := len
    unfold vs_ at *
    omega
  · rintro i x vs H' hlt hx ⟨rfl,rfl⟩
    rw [List.getElem?_map] at hx
    cases hz : (vs_ t)[i]? with
    | none=>rw [hz] at hx; cases hx
    | some z =>
      rw [hz] at hx
      cases hx
      have mz := mem_vs.mp (List.mem_of_getElem? hz)
      have oz : openT (.str z) = true := mz.2
      have lz := vin_len kt mz
      have J1 := J.same s1
      refine ⟨_,rfl,jo,dx,_,rfl,J1.ob,jn1 _ _,_,rfl,jo,dx,b,g,kvs,bnd, .str z,some (.str z),rfl,J1, .str z (by omega),_,rfl,?_⟩
      refine ite2 (fun c=>?_) (fun c=>absurd oz c)
      refine ⟨_,rfl,nx hlt ⟨rfl,?_⟩⟩
      rw [List.take_add_one,hz,List.map_append]
      rfl
  · rintro vs H' ⟨rfl,rfl⟩ l hl
    rw [List.length_map,List.take_length]
    exact q l _ (s1.trans (same_new hl _)) (s1.free hl) upd_same len
end
end Fw
set_option Elab.async false
set_option linter.all false
set_option maxRecDepth 100000
namespace PySem
open PyProof.Rows
namespace F
theorem slot_lri_hint : Slot "list_reverseiterator" "__length_hint__" "list_reverseiterator.__length_hint__" :=
  .of (owner := "list_reverseiterator") (n := "__length_hint__") (by rw [typeLookup_type,builtinLookup_eq_fast]; kernel_rfl) (by decide +kernel) (by decide +kernel) (by decide +kernel)
    (by first | exact .inl (by decide +kernel) | exact .inr (by decide +kernel)) (by rw [isSubtype_type]; kernel_rfl)
theorem nolen_lri : typeLookup (.type "list_reverseiterator") "__len__" = pure none := by rw [typeLookup_type,builtinLookup_eq_fast]; kernel_rfl
end F
section
variable {prog : Program} {w : World} {A : Around} {s : Shared} {R : Result → Shared → Prop}
theorem wpAny_extend_lri (hh : A.handled = none) (S I l : Addr) (res : Value) (c₀ : Nat) {xs : Array Value} (hn : xs.size ≤ sizeLine) (hlI : l ≠ I) (hSI : S ≠ I) (hSl : S ≠ l) (hit : s.heap.IsRevIter I l ((xs.size : Int) - 1)) (hl : s.heap.IsList l xs)
    (hS : s.heap.get? S = some { cls := .type "list",data := .seq #[] c₀ })
    (hR : ∀ s' acc' c',Moved [S,I] (fun a b=>a = b) s s' → s'.heap.get? S = some { cls := .type "list",dict := none,data := .seq acc' c',slots := #[] } → ItemsOf (fun i v=>xs[xs.size - 1 - i]? = some v) acc' xs.size → R (.ok (.ret res)) s') :
    wpAny (model prog w) A.in1 (Builtin.List.listExtendWith (.ref S) (.ref I) res)
      (fun fin s'=>match fin with | .done f=>R (.ok f) s' | .again c'=>c'.quiet = true ∧ codeAny (model prog w) A c' R s') (fun e s'=>R (.error e) s') s := by
  have l63 := L2.line63
  have hz : (xs.size : Int) < 2 ^ 63 := by omega
  have W := (Walks.listRev (prog := prog) (w := w) (A := A.in1) hh I l hlI xs).toS
  have hSf : S ∉ [I,l] := by simp [hSI,hSl]
  unfold Builtin.List.listExtendWith
  refine wpAny_bind (wpAny_typeOf hit.typeIs ?_)
  have h1 : Builtin.List.listSameRef (.ref S) (.ref I) = false := by simp [Builtin.List.listSameRef,hSI]
  have h2 : (Value.type "list_reverseiterator" == Value.type "list") = false := by decide
  have h3 : (Value.type "list_reverseiterator" == Value.type "tuple") = false := by decide
  simp only [h1,h2,h3,Bool.or_false,Bool.false_eq_true,if_false]
  refine wpAny_bind (wpAny_pyIter_revIter hit ?_)
  refine wpAny_bind (wpAny_holding ?_)
  unfold Builtin.List.listLengthHint
  refine wpAny_bind (wpAny_specialOf hit.typeIs F.nolen_lri ?_)
  show wpAny _ A.in1 (specialOf (Value.ref I) (Str.ofString "__length_hint__") >>= _) _ _ _
  refine wpAny_bind (wpAny_specialOf hit.typeIs F.slot_lri_hint.lookup ?_)
  (generalize hid : ("list_reverseiterator.__length_hint__" : String) = id0; (fail_if_success (clear hid id0)); wp_delta; rw [show splitId id0 = some ("list_reverseiterator","__length_hint__") from by subst hid; decide +kernel]; subst hid)
  refine wpAny_bind (wpAny_isInstance (b := true) hit.typeIs (by rw [isSubtype_type]; kernel_rfl) ?_)
  rw [if_neg (by decide)]
  dsimp only
  rw [if_pos (by decide +kernel),if_neg (by decide +kernel)]
  refine wpAny_pure ?_
  have key : ∀ (h' : Heap) (c₁ : Nat),h'.get? S = some { cls := .type "list",data := .seq #[] c₁ } → (∀ b o,b ≠ S → s.heap.get? b = some o → h'.get? b = some o) →
      codeAny (model prog w) A (.builtin "list.extend.loop" ⟨[.ref S, .ref I,res],[]⟩) R { s with heap := h' } := fun h' c₁ hS' kp=>by
    have st : (fun (i : Nat) (s : Shared)=>i ≤ xs.size ∧ s.heap.IsRevIter I l ((xs.size : Int) - 1 - (i : Int)) ∧ s.heap.IsList l xs) 0 { s with heap := h' } := by
      refine ⟨Nat.zero_le _,?_,?_⟩
      · have e : (xs.size : Int) - 1 - ((0 : Nat) : Int) = (xs.size : Int) - 1 := by omega
        show Heap.IsRevIter h' I l ((xs.size : Int) - 1 - ((0 : Nat) : Int))
        rw [e]
        exact hit.at fun o e=>kp I _ (Ne.symm hSI) e
      · exact hl.at fun o e=>kp l _ (Ne.symm hSl) e
    refine codeAny_extend_loopS W hn S hSf res xs.size 0 _ #[] c₁ rfl (Nat.zero_le _) st hS' (ItemsOf.nil _) fun s' acc' c' hm hS'' hacc=>?_
    exact hR s' acc' c' ⟨fun b o hb e=>hm.heap b o hb (kp b o (fun z=>hb (by simp [z])) e),hm.gens.symm,hm.drawn,hm.os,hm.toks⟩ hS'' hacc
  split
  · refine wpAny_bind (wpAny_rule ?_)
    refine wpAny_bind ?_
    show wpAny _ A.in1 (updateSeq S (·.push .none) >>= fun _=>updateSeq S (·.pop)) _ _ _
    clear l63 hz hn
    refine wpAny_bind (wpAny_updateSeq hS rfl ?_)
    have hS₂ := Heap.get?_update_self (Obj.mapSeq (·.push Value.none)) hS rfl
    refine wpAny_updateSeq (hz := by seq_fits) hS₂ rfl ?_
    have hS₃ := Heap.get?_update_self (Obj.mapSeq (·.pop)) hS₂ rfl
    exact wpAny_pure ⟨plainId_quiet F.plain_extend_loop _,key _ _ hS₃ fun b o hb e=>(Heap.get?_update_other _ _ (Ne.symm hb)).trans ((Heap.get?_update_other _ _ (Ne.symm hb)).trans e)⟩
  · exact wpAny_pure ⟨plainId_quiet F.plain_extend_loop _,key _ _ hS fun b o _ e=>e⟩
end
section
variable {prog : Program} {w : World} {A : Around} {E : Value → Shared → Prop} {s : Shared}
end
end PySem
namespace L2
open PySem PySem.Spec PyProof.Rows
section
variable {X : Cx}
end
end L2
set_option Elab.async false
set_option linter.all false
set_option maxRecDepth 100000
namespace PySem
open PyProof.Rows
section
variable {prog : Program} {w : World} {A : Around} {s : Shared} {R : Result → Shared → Prop}
theorem wpAny_list_init_lri (hh : A.handled = none) (S I l : Addr) {xs : Array Value} (hn : xs.size ≤ sizeLine) (hlI : l ≠ I) (hSI : S ≠ I) (hSl : S ≠ l) (hit : s.heap.IsRevIter I l ((xs.size : Int) - 1)) (hl : s.heap.IsList l xs)
    (hS : s.heap.get? S = some { cls := .type "list",data := .seq #[] })
    (hR : ∀ s' acc' c',Moved [S,I] (fun a b=>a = b) s s' → s'.heap.get? S = some { cls := .type "list",dict := none,data := .seq acc' c',slots := #[] } → ItemsOf (fun i v=>xs[xs.size - 1 - i]? = some v) acc' xs.size → R (.ok (.ret .none)) s') :
    wpAny (model prog w) A.in1 (Builtin.«list.__init__» ⟨[.ref S, .ref I],[]⟩)
      (fun fin s'=>match fin with | .done f=>R (.ok f) s' | .again c'=>c'.quiet = true ∧ codeAny (model prog w) A c' R s') (fun e s'=>R (.error e) s') s := by
  show wpAny _ A.in1 (do let old ← Builtin.List.listItems (.ref S); Builtin.List.listUpdate (.ref S) (fun _=>#[]); letGo old.toList.reverse; Builtin.List.listExtendWith (.ref S) (.ref I) .none) _ _ s
  refine wpAny_bind ?_
  unfold Builtin.List.listItems
  refine wpAny_bind (wpAny_seqItems hS rfl (wpAny_pure ?_))
  show wpAny _ A.in1 (updateSeq S (fun _=>#[]) >>= fun _=>letGo (#[] : Array Value).toList.reverse >>= fun _=>Builtin.List.listExtendWith (.ref S) (.ref I) .none) _ _ s
  refine wpAny_bind (wpAny_updateSeq hS rfl ?_)
  have hS₂ := Heap.get?_update_self (Obj.mapSeq (fun _=>(#[] : Array Value))) hS rfl
  have oth : ∀ b o,b ≠ S → s.heap.get? b = some o → (s.heap.update S (Obj.mapSeq (fun _=>(#[] : Array Value)))).get? b = some o :=
    fun b o hb e=>(Heap.get?_update_other _ _ (Ne.symm hb)).trans e
  refine wpAny_bind (wpAny_letGo ?_)
  refine wpAny_extend_lri (s := { s with heap := s.heap.update S (Obj.mapSeq (fun _=>(#[] : Array Value))) }) hh S I l .none _ hn hlI hSI hSl (hit.at fun o e=>oth _ _ (Ne.symm hSI) e) (hl.at fun o e=>oth _ _ (Ne.symm hSl) e) hS₂ fun s' acc' c' hm hS' hacc=>?_
  exact hR s' acc' c' ⟨fun b o hb e=>hm.heap b o hb (oth b o (fun z=>hb (by simp [z])) e),hm.gens,hm.drawn,hm.os,hm.toks⟩ hS' hacc
end
section
variable {prog : Program} {w : World} {A : Around} {E : Value → Shared → Prop} {s : Shared}
theorem call_list_lri {Q : Value → Shared → Prop} (hh : A.handled = none) (I l : Addr) {xs : Array Value} (hn : xs.size ≤ sizeLine) (hlI : l ≠ I) (hit : s.heap.IsRevIter I l ((xs.size : Int) - 1)) (hl : s.heap.IsList l xs)
    (hQ : ∀ s' acc' c',Moved [s.heap.objs.size,I] (fun a b=>a = b) s s' → s'.heap.get? s.heap.objs.size = some { cls := .type "list",dict := none,data := .seq acc' c',slots := #[] } → ItemsOf (fun i v=>xs[xs.size - 1 - i]? = some v) acc' xs.size → Q (.ref s.heap.objs.size) s') :
    wpAny (model prog w) A (call (.type "list") [.ref I]) Q E s := by
  refine callType_codes (Q₁ := fun obj s₁=>obj = .ref s.heap.objs.size ∧ s₁ = { s with heap := s.heap.push { cls := .type "list",data := .seq #[] } }) F.called_list (F.typeCall_list_1 _) F.entry_list_init
    (code_list_new _ ⟨rfl,rfl⟩) fun obj s₁ h₁=>?_
  obtain ⟨rfl,rfl⟩ := h₁
  have hS : (s.heap.push { cls := .type "list",data := .seq #[] }).get? s.heap.objs.size = some { cls := .type "list",data := .seq #[] } := Heap.get?_push_size _ rfl
  have hSI : s.heap.objs.size ≠ I := fun e=>by
    obtain ⟨o,ho,_⟩ := hit
    have := Heap.lt_size ho
    rw [← e] at this
    exact Nat.lt_irrefl _ this
  have hSl : s.heap.objs.size ≠ l := fun e=>by
    obtain ⟨o,ho,_⟩ := hl
    have := Heap.lt_size ho
    rw [← e] at this
    exact Nat.lt_irrefl _ this
  refine ⟨⟨_,hS,rfl⟩,F.args_list_init_2 _ _,wpAny_list_init_lri (A := A.in1) (s := { s with heap := s.heap.push { cls := .type "list",data := .seq #[] } }) hh _ I l hn hlI hSI hSl (hit.at fun o e=>Heap.get?_push_of_some _ e) (hl.at fun o e=>Heap.get?_push_of_some _ e) hS fun s' acc' c' hm hS' hacc=>?_⟩
  exact ⟨rfl,hQ s' acc' c' ⟨fun b o hb e=>hm.heap b o hb (Heap.get?_push_of_some _ e),hm.gens,hm.drawn,hm.os,hm.toks⟩ hS' hacc⟩
end
end PySem
namespace L2
open PySem PySem.Spec PyProof.Rows
section
variable {X : Cx}
def tListRevL (K : PySem.W.Frag) (te : TE) : TE := fun σ H Q=>te σ H fun x H1=>∃ a xs,x = .ref a ∧ SqL K H1 a xs ∧ ∀ l,H1 l = none → Q (.ref l) (upd H1 l (.lst xs.reverse))
theorem pe_listRevL {e : Expr} {te : TE} {p pos p2 pos2 : Pos} (hc : X.calm = true) (hgl : Gl X "list") (hml : X.mg "list" = none) (hgr : Gl X "reversed") (hmr : X.mg "reversed" = none) (he : PE X e te)
    (hs1 : starEach [Expr.Call (.Name "reversed" p2) [e] [] pos2] X.env = [(false,eval (Expr.Call (.Name "reversed" p2) [e] [] pos2) X.env)] := by rfl) (hs2 : starEach [e] X.env = [(false,eval e X.env)] := by rfl) :
    PE X (.Call (.Name "list" p) [.Call (.Name "reversed" p2) [e] [] pos2] [] pos) (tListRevL X.K te) := by
  intro pins s σ H Q I h
  refine wpAny_Call_Name_kw (ld_blt I hgl hml boot_list ?_ (by decide) (by decide))
  refine PyProof.Rows.callWith_type1 ?_ hs1 rfl
  rw [hs1]
  refine Calls.spliced_cons ?_
  refine wpAny_Call_Name_kw (ld_blt I hgr hmr boot_rev ?_ (by decide) (by decide))
  refine PyProof.Rows.callWith_type1 ?_ hs2 rfl
  rw [hs2]
  refine Calls.spliced_cons (thn (he pins s σ H _ I h) fun u s1 ⟨x,H1,I1,r1,q1⟩=>?_)
  refine Calls.spliced_nil ?_
  obtain ⟨a,xs,rfl,hq,q⟩ := q1
  cases r1
  obtain ⟨its,rv,pt,hz⟩ := I1.list hq
  have hlen := rv.length
  have h63 := line63
  refine call_reversed_list pt.isList ?_
  refine Calls.spliced_nil ?_
  have ha : a < s1.heap.objs.size := by obtain ⟨o,ho,_⟩ := pt.isList; exact Heap.lt_size ho
  have hl : Heap.IsList (s1.heap.push (revObj a ((its.toArray.size : Int) - 1))) a its.toArray := pt.isList.at fun o e=>Heap.get?_push_of_some _ e
  refine call_list_lri (s := { s1 with heap := s1.heap.push (revObj a ((its.toArray.size : Int) - 1)) }) (I1.ok.hd hc) s1.heap.objs.size a (xs := its.toArray) (by simp; omega) (Nat.ne_of_lt ha) ⟨_,Heap.get?_push_size _ rfl,rfl,rfl⟩ hl fun s' acc c hm hS hacc=>?_
  obtain ⟨h',g',d',t',o'⟩ := s'
  have eg : s1.gens = g' := hm.gens
  have ed : d' = s1.drawn := hm.drawn
  have eo : o' = s1.os := hm.os
  subst eg ed eo
  have sz : (s1.heap.push (revObj a (((its.toArray).size : Int) - 1))).objs.size = s1.heap.objs.size + 1 := Heap.size_push ..
  have kp : ∀ b o,s1.heap.get? b = some o → h'.get? b = some o := fun b o e=>by
    have hb := Heap.lt_size e
    refine hm.heap b o ?_ (Heap.get?_push_of_some _ e)
    simp only [List.mem_cons,List.not_mem_nil,or_false,not_or]
    exact ⟨Nat.ne_of_lt (Nat.lt_of_lt_of_le hb (Nat.le_of_lt (by rw [sz]; exact Nat.lt_succ_self _))),Nat.ne_of_lt hb⟩
  have va : Vals xs.reverse acc.toList := by
    refine Vals.of_get (by rw [List.length_reverse,hlen]; have := hacc.1; simp at this; simp [this]) fun i x u e f=>?_
    have hi : i < xs.length := by have := (List.getElem?_eq_some_iff.mp e).1; simpa using this
    rw [List.getElem?_reverse hi] at e
    have f' : acc[i]? = some u := by simpa using f
    have g := hacc.2 i u f'
    have g' : its[xs.length - 1 - i]? = some u := by
      have : its.toArray[its.toArray.size - 1 - i]? = some u := g
      simp only [List.size_toArray,List.getElem?_toArray] at this
      rw [hlen]; exact this
    obtain ⟨u',hu',ru⟩ := rv.get e
    rw [g'] at hu'
    cases hu'
    exact ru
  have ea : acc.toList.toArray = acc := by simp
  refine ⟨.ref _,_,I1.laid (t' := t') kp (a := (s1.heap.push (revObj a (((its.toArray).size : Int) - 1))).objs.size) (by rw [sz]; omega) (show ObjOk X.prog X.w _ h' _ (.lst xs.reverse) from ⟨by simpa using hz,acc.toList,c,va,by rw [ea]; exact hS⟩),rfl,q _ (I1.hok.fresh (by rw [sz]; omega))⟩
end
end L2
set_option Elab.async false
set_option linter.all false
set_option maxRecDepth 100000
namespace Fw
open PySem PySem.Spec PyProof.Rows L2
theorem nd_len {α : Type} [DecidableEq α] : ∀ {a b : List α},a.Nodup → (∀ x ∈ a,x ∈ b) → a.length ≤ b.length
  | [],_,_,_=>Nat.zero_le _
  | x :: a,b,nd,h=>by
    rw [List.nodup_cons] at nd
    have hx := h x List.mem_cons_self
    have ih := nd_len (a := a) (b := b.erase x) nd.2 fun y hy=>by
      have hy' := h y (List.mem_cons_of_mem _ hy)
      have ne : y ≠ x := fun e=>nd.1 (e ▸ hy)
      exact (List.mem_erase_of_ne ne).mpr hy'
    rw [List.length_erase_of_mem hx] at ih
    have : 0 < b.length := List.length_pos_of_mem hx
    show a.length + 1 ≤ b.length
    omega
theorem stand1_nd {acc : List Str} {t : T} (h : acc.Nodup) : (stand1 acc t).Nodup := by
  cases t with
  | str y =>
    unfold stand1
    dsimp only
    split
    · split
      · exact h
      · rename_i hn
        rw [List.nodup_append]
        refine ⟨h,by simp,fun a ha b hb=>?_⟩
        rw [List.mem_singleton.mp hb]
        exact fun e=>hn (e ▸ ha)
    · exact h
  | int i=>exact h
  | tup l=>exact h
theorem foldl_nd : ∀ (ts : List T) {acc : List Str},acc.Nodup → (ts.foldl stand1 acc).Nodup
  | [],_,h=>h
  | t :: r,_,h=>foldl_nd r (stand1_nd h)
theorem stand_nd (ts : List T) : (stand ts).Nodup := foldl_nd ts List.nodup_nil
theorem vs_nd (t : T) : (vs_ t).Nodup := stand_nd _
def dB (ds : List (Str × Bool)) : List (Key × V) := ds.map fun p=>(Sum.inr p.1,V.bl p.2)
def setB (ds : List (Str × Bool)) (z : Str) (c : Bool) : List (Str × Bool) := ds.map fun p=>if p.1 = z then (p.1,c) else p
theorem dB_val (z : Str) : ∀ ds : List (Str × Bool),valV (dB ds) (Sum.inr z) = (ds.lookup z).map V.bl
  | []=>rfl
  | (y,c) :: ds=>by
    show valV ((Sum.inr y,V.bl c) :: dB ds) (Sum.inr z) = _
    rw [List.lookup_cons]
    by_cases h : y = z
    · subst h
      rw [valV_pos (p := ((Sum.inr y : Key),V.bl c)) rfl]
      simp
    · rw [valV_neg (p := ((Sum.inr y : Key),V.bl c)) (fun e=>h (Sum.inr.inj e)),dB_val z ds]
      have : (z == y) = false := beq_false_of_ne (Ne.symm h)
      rw [this]
theorem dB_new {ds : List (Str × Bool)} {z : Str} {c : Bool} (h : ds.lookup z = none) : putK (dB ds) (Sum.inr z) (V.bl c) = dB (ds ++ [(z,c)]) := by
  rw [putK_new _ (by rw [dB_val,h]; rfl)]
  simp [dB]
theorem dB_set {ds : List (Str × Bool)} {z : Str} {c c' : Bool} (h : ds.lookup z = some c') : putK (dB ds) (Sum.inr z) (V.bl c) = dB (setB ds z c) := by
  unfold putK
  rw [valV_any,dB_val,h]
  show (if true = true then _ else _) = _
  rw [if_pos rfl]
  unfold dB setB
  rw [List.map_map,List.map_map]
  refine List.map_congr_left fun p _=>?_
  show (if (Sum.inr p.1 : Key) = Sum.inr z then ((Sum.inr p.1 : Key),V.bl c) else (Sum.inr p.1,V.bl p.2)) = ((Sum.inr (if p.1 = z then (p.1,c) else p).1 : Key),V.bl (if p.1 = z then (p.1,c) else p).2)
  by_cases h : p.1 = z
  · rw [if_pos (by rw [h]),if_pos h]
  · rw [if_neg (fun e=>h (Sum.inr.inj e)),if_neg h]
theorem setB_keys (ds : List (Str × Bool)) (z : Str) (c : Bool) : (setB ds z c).map (·.1) = ds.map (·.1) := by
  unfold setB
  rw [List.map_map]
  refine List.map_congr_left fun p _=>?_
  show (if p.1 = z then (p.1,c) else p).1 = p.1
  split <;> rfl
theorem setB_look (z y : Str) (c : Bool) : ∀ ds : List (Str × Bool),(setB ds z c).lookup y = (ds.lookup y).map fun x=>if y = z then c else x
  | []=>rfl
  | (x,s) :: ds=>by
    show ((if x = z then (x,c) else (x,s)) :: setB ds z c).lookup y = _
    by_cases hx : x = z
    · rw [if_pos hx,List.lookup_cons,List.lookup_cons,setB_look z y c ds]
      by_cases hy : y = x
      · subst hy; simp [hx]
      · have : (y == x) = false := beq_false_of_ne hy
        rw [this]
    · rw [if_neg hx,List.lookup_cons,List.lookup_cons,setB_look z y c ds]
      by_cases hy : y = x
      · subst hy; simp [hx]
      · have : (y == x) = false := beq_false_of_ne hy
        rw [this]
theorem snocB_look {z y : Str} {c : Bool} : ∀ {ds : List (Str × Bool)},ds.lookup z = none → (ds ++ [(z,c)]).lookup y = if y = z then some c else ds.lookup y
  | [],_=>by
    show ([(z,c)] : List (Str × Bool)).lookup y = _
    rw [List.lookup_cons]
    by_cases h : y = z
    · subst h; simp
    · have : (y == z) = false := beq_false_of_ne h
      rw [this,if_neg h]
  | (x,s) :: m,hn=>by
    rw [List.lookup_cons] at hn
    have hzx : z ≠ x := fun e=>by rw [e] at hn; simp at hn
    have : (z == x) = false := beq_false_of_ne hzx
    rw [this] at hn
    rw [List.cons_append,List.lookup_cons,List.lookup_cons,snocB_look hn]
    by_cases hy : y = x
    · subst hy; simp [Ne.symm hzx]
    · have : (y == x) = false := beq_false_of_ne hy
      rw [this]
theorem lookB_not {z : Str} : ∀ {ds : List (Str × Bool)},ds.lookup z = none → z ∉ ds.map (·.1)
  | [],_=>by simp
  | (x,s) :: ds,h=>by
    rw [List.lookup_cons] at h
    have hzx : z ≠ x := fun e=>by rw [e] at h; simp at h
    have : (z == x) = false := beq_false_of_ne hzx
    rw [this] at h
    rw [List.map_cons,List.mem_cons,not_or]
    exact ⟨hzx,lookB_not h⟩
structure Reach (U : List Str) (bnd : List (Str × T)) (P : Str → Prop) : Prop where
  un : ∀ z,P z → z ∈ U
  op : ∀ z,P z → openT (.str z) = true ∧ z.length ≤ 80
  cl : ∀ z k,P z → bnd.lookup z = some k → ∀ y,Vin y k → P y
structure Acy (R : Str → Str → Prop) (bnd : List (Str × T)) : Prop where
  ir : ∀ z,¬ R z z
  tr : ∀ {x y z},R x y → R y z → R x z
  ch : ∀ z k,bnd.lookup z = some k → ∀ y,Vin y k → R y z
def Closed (bnd : List (Str × T)) (zs : List Str) : Prop := ∀ (i : Nat) (z : Str),zs[i]? = some z → ∀ k,bnd.lookup z = some k → ∀ y,Vin y k → y ∈ zs.take i
def Under (R : Str → Str → Prop) (bnd : List (Str × T)) (zs ws : List Str) (z : Str) : Prop := ∃ A B,ws = A ++ z :: B ∧ (∀ x ∈ B,R x z) ∧ ∀ k,bnd.lookup z = some k → ∀ y,Vin y k → y ∈ zs ∨ y ∈ B
theorem under_last {us A B : List Str} {z y : Str} (e : us ++ [z] = A ++ y :: B) : (B = [] ∧ y = z ∧ us = A) ∨ ∃ B0,B = B0 ++ [z] ∧ us = A ++ y :: B0 := by
  rcases List.eq_nil_or_concat B with h | ⟨B0,x,h⟩
  · subst h
    have := List.append_inj' e rfl
    exact .inl ⟨rfl,by have h2 := this.2; injection h2 with h2; exact h2.symm,this.1⟩
  · rw [List.concat_eq_append] at h
    subst h
    have e2 : us ++ [z] = (A ++ y :: B0) ++ [x] := by rw [e]; simp
    have := List.append_inj' e2 rfl
    have hx : z = x := by have h2 := this.2; injection h2
    subst hx
    exact .inr ⟨B0,rfl,this.1⟩
theorem Under.push {R : Str → Str → Prop} {bnd : List (Str × T)} {zs us C : List Str} {z y : Str} (A : Acy R bnd) (ny : y ≠ z) (h : Under R bnd zs (us ++ [z]) y) (hc : ∀ x ∈ C,R x z) : Under R bnd zs ((us ++ [z]) ++ C) y := by
  obtain ⟨A0,B,e,h1,h2⟩ := h
  rcases under_last e with ⟨_,e1,_⟩ | ⟨B0,rfl,_⟩
  · exact absurd e1 ny
  · refine ⟨A0,(B0 ++ [z]) ++ C,by rw [e]; simp,fun x hx=>?_,fun k hk x hx=>?_⟩
    · rcases List.mem_append.mp hx with h | h
      · exact h1 x h
      · exact A.tr (hc x h) (h1 z (by simp))
    · rcases h2 k hk x hx with h | h
      · exact .inl h
      · exact .inr (List.mem_append_left _ h)
theorem Under.pop {R : Str → Str → Prop} {bnd : List (Str × T)} {zs zs' us : List Str} {z y : Str} (ny : y ≠ z) (h : Under R bnd zs (us ++ [z]) y) (hz : z ∈ zs') (hs : ∀ x ∈ zs,x ∈ zs') : Under R bnd zs' us y := by
  obtain ⟨A0,B,e,h1,h2⟩ := h
  rcases under_last e with ⟨_,e1,_⟩ | ⟨B0,rfl,e2⟩
  · exact absurd e1 ny
  · refine ⟨A0,B0,e2,fun x hx=>h1 x (List.mem_append_left _ hx),fun k hk x hx=>?_⟩
    rcases h2 k hk x hx with h | h
    · exact .inl (hs x h)
    · rcases List.mem_append.mp h with h | h
      · exact .inr h
      · rw [List.mem_singleton.mp h]; exact .inl hz
theorem Under.top {R : Str → Str → Prop} {bnd : List (Str × T)} {zs us : List Str} {z : Str} (A : Acy R bnd) (h : Under R bnd zs (us ++ [z]) z) : ∀ k,bnd.lookup z = some k → ∀ y,Vin y k → y ∈ zs := by
  obtain ⟨A0,B,e,h1,h2⟩ := h
  rcases under_last e with ⟨e0,_,_⟩ | ⟨B0,rfl,_⟩
  · intro k hk y hy
    rcases h2 k hk y hy with h | h
    · exact h
    · rw [e0] at h; cases h
  · exact absurd (h1 z (by simp)) (A.ir z)
theorem Closed.snoc {bnd : List (Str × T)} {zs : List Str} {z : Str} (h : Closed bnd zs) (hz : ∀ k,bnd.lookup z = some k → ∀ y,Vin y k → y ∈ zs) : Closed bnd (zs ++ [z]) := fun i x hx k hk y hy=>by
  by_cases c : i < zs.length
  · rw [List.getElem?_append_left c] at hx
    rw [List.take_append_of_le_length (by omega)]
    exact h i x hx k hk y hy
  · rw [List.getElem?_append_right (by omega)] at hx
    have e : i - zs.length = 0 := by
      cases z0 : i - zs.length with
      | zero=>rfl
      | succ j=>rw [z0] at hx; simp at hx
    rw [e] at hx
    simp at hx
    subst hx
    have : i = zs.length := by omega
    subst this
    rw [List.take_left]
    exact hz k hk y hy
def spInner (C : Addr) : Sp := fun vs H Q _=>∃ (jo dx b f lk : Addr) (kvs : List (Key × V)) (bnd : List (Str × T)) (kv : List V) (ks : List T) (n : Nat) (U : List Str) (P : Str → Prop) (R : Str → Str → Prop),vs = [.ref jo, .ref lk] ∧ JO C H jo dx b f kvs bnd ∧ H lk = some (.lst kv) ∧ Reps H kv ks ∧
  (∀ k ∈ ks,KD n k ∧ k.sz ≤ 100000 ∧ ∀ y,Vin y k → P y) ∧ ks.length ≤ 1000 ∧ U.length ≤ 200 ∧ Reach U bnd P ∧ Acy R bnd ∧ (∀ z k,bnd.lookup z = some k → KD n k ∧ k.sz ≤ 100000) ∧
  ∀ (l : Addr) (zs : List Str) H',Same H H' → H l = none → H' l = some (.lst (zs.map V.str)) → zs.Nodup → (∀ z ∈ zs,P z) → Closed bnd zs → (∀ k ∈ ks,∀ y,Vin y k → y ∈ zs) → Q (.ref l) H'
end Fw
set_option Elab.async false
set_option linter.all false
set_option maxRecDepth 100000
namespace Fw
open PySem PySem.Spec PyProof.Rows L2
theorem vs_num : vs_ (.str "num") = [] := by decide +kernel
theorem kd_num (n : Nat) : KD n (.str "num") := .leaf (by decide +kernel)
section
variable {P : Program} {w : World} {K : PySem.W.Frag} {mg : Str → Option Value} {base : Heap} {f : Addr} {fd : FuncData} {C : Addr}
abbrev nI : List Str := ["self","kinds","told","done","waiting","kind","variable"]
theorem sc_jinner : FnScope nI ["self","kinds"] (defScope (jm 7)) := ⟨rfl,rfl,rfl,by decide +kernel,rfl,by decide +kernel,by decide +kernel⟩
structure WI (C : Addr) (H0 H : Hp) (jo dx b g lk lt d lw : Addr) (kvs : List (Key × V)) (bnd : List (Str × T)) (U : List Str) (Pz : Str → Prop) (Rl : Str → Str → Prop) (I0 : Str → Prop) (W0 : Nat) (zs ws : List Str) (ds : List (Str × Bool)) : Prop where
  s : Same H0 H
  hlt : H lt = some (.lst (zs.map V.str))
  hd : H d = some (.dK (dB ds))
  hlw : H lw = some (.lst (ws.map V.str))
  pz : ∀ z ∈ zs,Pz z
  pw : ∀ z ∈ ws,Pz z
  pd : ∀ z ∈ ds.map (·.1),Pz z
  nd : (ds.map (·.1)).Nodup
  nz : zs.Nodup
  tz : ∀ z ∈ zs,ds.lookup z = some true
  lw : ws.length ≤ W0 + ds.length * U.length
  dz : ∀ z,ds.lookup z = some true → z ∈ zs
  cz : Closed bnd zs
  ow : ∀ z,ds.lookup z = some false → Under Rl bnd zs ws z
  cv : ∀ y,I0 y → y ∈ ws ∨ y ∈ zs
def stI (L : Nat) (ks : List T) (i : Nat) (y : Str) : Prop := ∃ j k,L - i ≤ j ∧ ks[j]? = some k ∧ Vin y k
set_option maxHeartbeats 2000000 in
theorem ok_jinner {fW : Addr} {gW : FuncData} (F : Fun K "inner_first" "Joins.inner_first" (jm 7) f fd) (Tx : TxJ K C) (MW : Meth K C "loose_within" fW) (GW : FnOk P w K mg base CX0 3 fW gW ["self","kind"] (spLWithin C)) (bW : Binds K gW ["self","kind"] [])
    (mr : mg "reversed" = none) (mL : mg "list" = none) (ml : mg "len" = none) : FnOk P w K mg base CX0 4 f fd ["self","kinds"] (spInner C) := by
  refine F.ok sc_jinner (fun vs H Q E h=>?_) (fun cdv A outer s H vs Q E hr h=>?_)
  · obtain ⟨jo,dx,b,g,lk,kvs,bnd,kv,ks,n,U,Pz,Rl,rfl,_⟩ := h
    rfl
  obtain ⟨jo,dx,b,g,lk,kvs,bnd,kv,ks,n,U,Pz,Rl,rfl,J,hlk,rks,hks,lks,lU,R,AC,hbn,q⟩ := h
  have hu := hu_of hr
  refine ⟨_,pss_cons (ps_set (i := 2) sc_jinner.nd rfl (Or.inl rfl) (pe_lst pa_nil))
    (pss_cons (ps_set (i := 3) sc_jinner.nd rfl (Or.inl rfl) pe_dnewK)
    (pss_cons (ps_set (i := 4) sc_jinner.nd rfl (Or.inl rfl) (pe_lst pa_nil))
    (pss_cons (ps_for PassesOwn.never rfl (pi_rev rfl mr (pv 1)) (pg_name (i := 5) sc_jinner.nd rfl (Or.inl rfl))
      (pss_one (ps_expr (pe_bm PySem.F.plainAttrs_list PySem.F.slot_list_extend PySem.F.type_list_extend mt_extend (pv 4) (pa_cons (pe_listRevL rfl rfl mL rfl mr (pe_meth (pv 0) Tx.cl MW GW hr bW .nil pass0 (pa_cons (pv 5) pa_nil))) pa_nil)))))
    (pss_cons (ps_while PassesOwn.never (pt_cmpR op_gt (pe_callB call_len_seq rfl ml PySem.boot_len (pa_cons (pv 4) pa_nil)) pe_int (nomark _))
      (pss_cons (ps_set (i := 6) sc_jinner.nd rfl (Or.inl rfl) (pe_ix ix_list (pv 4) (pe_un un_neg pe_int) (fun _ _=>rfl)))
      (pss_cons (ps_if (pt_cmpR (op_notInD hu) (pv 6) (pv 3) (by with_unfolding_all rfl))
        (pss_cons (ps_dput hu (pv 3) (pv 6) pe_bl rfl)
        (pss_cons (ps_expr (pe_bm PySem.F.plainAttrs_list PySem.F.slot_list_extend PySem.F.type_list_extend mt_extend (pv 4) (pa_cons (pe_listRevL rfl rfl mL rfl mr (pe_meth (pv 0) Tx.cl MW GW hr bW .nil pass0 (pa_cons (pe_dget2 hu (pe_fld (pv 0) rfl) (pv 6) pe_str ⟨rfl,rfl,rfl,rfl⟩) pa_nil))) pa_nil)))
        (pss_one ps_continue))) pss_nil)
      (pss_cons (ps_expr (pe_bm0 PySem.F.plainAttrs_list PySem.F.slot_list_pop PySem.F.type_list_pop mt_pop (pv 4)))
      (pss_one (ps_if (pt_not (pt_val (pe_dget hu (pv 3) (pv 6) (fun _ _=>rfl))))
        (pss_cons (ps_dput hu (pv 3) (pv 6) pe_bl rfl) (pss_one (ps_expr (pe_bm PySem.F.plainAttrs_list PySem.F.slot_list_append PySem.F.type_list_append mt_append (pv 2) (pa_cons (pv 6) pa_nil))))) pss_nil))))))
    (pss_one (ps_ret (pv 2))))))),?_⟩
  refine ⟨small (by show 0 ≤ 1000000; decide),fun lt hlt0=>?_⟩
  intro d hd0
  refine ⟨small (by show 0 ≤ 1000000; decide),fun lw hlw0=>?_⟩
  have s1 := same_new hlt0 (.lst [])
  have s2 := same_new hd0 (.dK [])
  have s3 := same_new hlw0 (.lst [])
  have s13 := s1.trans (s2.trans s3)
  have a1 := s3 _ _ (s2 _ _ (upd_same (H := H) (a := lt) (o := HO.lst [])))
  have a2 := s3 _ _ (upd_same (a := d) (o := HO.dK []) (H := upd H lt (.lst [])))
  have n1 : lt ≠ d := ne_of a1 a2 (by intro z; cases z)
  have n2 : lt ≠ lw := fun e=>by rw [← e,s2 _ _ upd_same] at hlw0; cases hlw0
  have n3 : d ≠ lw := fun e=>by rw [← e,upd_same] at hlw0; cases hlw0
  have f1 : H lt = none := hlt0
  have f2 : H d = none := s1.free hd0
  have f3 : H lw = none := s1.free (s2.free hlw0)
  have a3 : (upd (upd (upd H lt (.lst [])) d (.dK [])) lw (.lst [])) lw = some (.lst []) := upd_same
  revert s13 a1 a2 a3
  generalize upd (upd (upd H lt (.lst [])) d (.dK [])) lw (.lst []) = H3
  intro s13 a1 a2 a3
  have old : ∀ {H' : Hp} {a : Addr} {o : HO} {c : Addr},H c = none → Same H H' → H a = some o → a ≠ c := fun hc _ ha=>ne_of_none ha hc
  refine ⟨_,rfl,lk,kv,rfl,SqL.of (s13 _ _ hlk),?_⟩
  refine for_rev (xs := kv) (fun i σ H'=>∃ (o5 o6 : Option V) (ws : List Str),σ = [some (.ref jo),some (.ref lk),some (.ref lt),some (.ref d),some (.ref lw),o5,o6] ∧ WI C H H' jo dx b g lk lt d lw kvs bnd U Pz Rl (stI kv.length ks i) (i * 200) [] ws [])
    ⟨none,none,[],rfl,⟨s13,a1,a2,a3,by simp,by simp,by simp,by simp,by simp,by simp,by simp,(fun z h=>by cases h),(fun i z h=>by simp at h),(fun z h=>by cases h),fun y ⟨j,k,hj,hk,_⟩=>by
      have := (List.getElem?_eq_some_iff.mp hk).1
      have := rks.length
      omega⟩⟩ ?_ ?_ ?_
  · rintro i σ H' hi ⟨o5,o6,ws,rfl,W⟩
    exact SqL.of (W.s _ _ hlk)
  · rintro i x σ H' hi hx ⟨o5,o6,ws,rfl,W⟩
    obtain ⟨t,ht,rx⟩ := rks.at2 hx
    obtain ⟨kt,st,pt⟩ := hks t (List.mem_of_getElem? ht)
    have lkv := rks.length
    refine ⟨_,rfl, .inl ⟨rfl,_,SqL.of W.hlw⟩,_,rfl,jo,dx,_,rfl,W.s _ _ J.ob,jn6 _ _,_,rfl,jo,dx,b,g,kvs,bnd,x,t,n,rfl,J.same W.s,rx.same W.s,kt,st,fun lv H4 s4 lv0 hlv len=>?_⟩
    refine ⟨lv,_,rfl,SqL.of hlv,fun l5 h5=>?_⟩
    have s5 := same_new h5 (.lst ((vs_ t).map V.str).reverse)
    have s45 := s4.trans s5
    have lvU : (vs_ t).length ≤ U.length := nd_len (vs_nd t) fun y hy=>R.un y (pt y (mem_vs.mp hy))
    have lww := W.lw
    refine ⟨lw,l5,_,_,rfl,rfl,s45 _ _ W.hlw,upd_same,small (by simp at lww ⊢; omega),?_⟩
    refine ⟨_,_,ws ++ (vs_ t).reverse,rfl,?_⟩
    have kw : ∀ c o,c ≠ lw → H' c = some o → (upd (upd H4 l5 (.lst ((vs_ t).map V.str).reverse)) lw (.lst (ws.map V.str ++ ((vs_ t).map V.str).reverse))) c = some o := fun c o nc h=>by rw [upd_ne nc]; exact s45 _ _ h
    refine ⟨fun c o h=>kw c o (ne_of_none h f3) (W.s _ _ h),kw _ _ n2 W.hlt,kw _ _ n3 W.hd,by rw [List.map_append,List.map_reverse]; exact upd_same,W.pz,fun z hz=>?_,W.pd,W.nd,W.nz,W.tz,?_,W.dz,W.cz,(fun z h=>by cases h),fun y ⟨j,k,hj,hk,hy⟩=>?_⟩
    · rcases List.mem_append.mp hz with h | h
      · exact W.pw z h
      · exact pt z (mem_vs.mp (List.mem_reverse.mp h))
    · simp at lww ⊢
      omega
    · by_cases c : kv.length - i ≤ j
      · rcases W.cv y ⟨j,k,c,hk,hy⟩ with h | h
        · exact .inl (List.mem_append_left _ h)
        · exact .inr h
      · have ej : j = kv.length - 1 - i := by omega
        rw [ej,ht] at hk
        cases hk
        exact .inl (List.mem_append_right _ (List.mem_reverse.mpr (mem_vs.mpr hy)))
  · rintro σ H4 ⟨o5,o6,ws0,rfl,W0⟩
    have lkv := rks.length
    refine ⟨fun M σ H'=>∃ (o5 o6 : Option V) (zs ws : List Str) (ds : List (Str × Bool)),σ = [some (.ref jo),some (.ref lk),some (.ref lt),some (.ref d),some (.ref lw),o5,o6] ∧ WI C H H' jo dx b g lk lt d lw kvs bnd U Pz Rl (stI kv.length ks kv.length) (kv.length * 200) zs ws ds ∧
      M = (U.length - ds.length) * (U.length + 1) + ws.length,⟨_,o5,o6,[],ws0,[],rfl,W0,rfl⟩,?_⟩
    rintro M σ H5 ⟨o5,o6,zs,ws,ds,rfl,W,rfl⟩
    have lds : ds.length ≤ U.length := by
      have := nd_len W.nd fun z hz=>R.un z (W.pd z hz)
      rw [List.length_map] at this
      exact this
    have dU : ds.length * U.length ≤ 200 * 200 := Nat.mul_le_mul (by omega) lU
    have lww := W.lw
    refine ⟨_,rfl,lw,_,rfl, .inl (SqL.of W.hlw),_,_,rfl,rfl,_,rfl,?_⟩
    refine ite2 (fun c=>?_) (fun c=>?_)
    · have c1 : (0 : Int) < ((ws.map V.str).length : Nat) := of_decide_eq_true c
      rw [List.length_map] at c1
      rcases List.eq_nil_or_concat ws with e | ⟨us,z,e⟩
      · rw [e] at c1; simp at c1
      rw [List.concat_eq_append] at e
      subst e
      have hlw' : H5 lw = some (.lst (us.map V.str ++ [V.str z])) := by
        have := W.hlw
        rw [List.map_append] at this
        exact this
      have pz := W.pw z (by simp)
      obtain ⟨oz,lz⟩ := R.op z pz
      refine ⟨_,fun _ _ h=>h,?_⟩
      refine ⟨_,rfl,_,rfl,lw,_,-1, .str z,rfl,rfl,SqL.of hlw',atI_last _ _,?_⟩
      refine ⟨_,rfl,_,rfl,d,_,rfl,DGet.k (k := Sum.inr z) W.hd,_,rfl,?_⟩
      cases hz : ds.lookup z with
      | none =>
        rw [dB_val,hz]
        refine iteT ?_
        refine ⟨_,rfl,_,rfl,d,_,rfl,DPut.k (k := Sum.inr z) W.hd (small' (by unfold dB; rw [List.length_map]; omega)),?_⟩
        rw [dB_new hz]
        have k6 : ∀ c o,c ≠ d → H5 c = some o → (upd H5 d (.dK (dB (ds ++ [(z,false)])))) c = some o := fun c o nc h=>by rw [upd_ne nc]; exact h
        have s6 : Same H (upd H5 d (.dK (dB (ds ++ [(z,false)])))) := fun c o h=>k6 c o (ne_of_none h f2) (W.s _ _ h)
        have d6 : (upd H5 d (.dK (dB (ds ++ [(z,false)])))) d = some (.dK (dB (ds ++ [(z,false)]))) := upd_same
        have w6 := k6 _ _ (Ne.symm n3) W.hlw
        have t6 := k6 _ _ n1 W.hlt
        revert k6 s6 d6 w6 t6
        generalize upd H5 d (.dK (dB (ds ++ [(z,false)]))) = H6
        intro k6 s6 d6 w6 t6
        have J6 := J.same s6
        obtain ⟨v,t,ev,rt,kt,st,pt,rlt,ukt⟩ : ∃ v t,(valV kvs (Sum.inr z)).getD (.str "num") = v ∧ Rep H6 v t ∧ KD n t ∧ t.sz ≤ 100000 ∧ (∀ y,Vin y t → Pz y) ∧ (∀ y,Vin y t → Rl y z) ∧ ∀ k,bnd.lookup z = some k → k = t := by
          rcases J6.dr.get z with ⟨g1,g2⟩ | ⟨v',k,g1,g2,rk'⟩
          · rw [g1]
            refine ⟨_, .str "num",rfl, .str _ (by decide +kernel),kd_num n,by decide,fun y hy=>?_,fun y hy=>?_,fun k hk=>by rw [g2] at hk; cases hk⟩
            · have := mem_vs.mpr hy
              rw [vs_num] at this
              cases this
            · have := mem_vs.mpr hy
              rw [vs_num] at this
              cases this
          · rw [g1]
            obtain ⟨h1,h2⟩ := hbn z k g2
            exact ⟨v',k,rfl,rk',h1,h2,R.cl z k pz g2,AC.ch z k g2,fun k2 hk2=>by rw [g2] at hk2; cases hk2; rfl⟩
        refine ⟨_,rfl, .inl ⟨rfl,_,SqL.of w6⟩,_,rfl,jo,dx,_,rfl,J6.ob,jn6 _ _,_,rfl,jo,C,dx,_, .ref b,rfl,J6.ob,Tx.cl,Tx.a1,jf1 _ _,b,rfl, .inl ⟨_, .inl J6.hb⟩,_,rfl,_,DGet.k (k := Sum.inr z) J6.hb,?_⟩
        rw [ev]
        refine ⟨jo,dx,b,g,kvs,bnd,v,t,n,rfl,J6,rt,kt,st,fun lv H7 s7 lv0 hlv len=>?_⟩
        refine ⟨lv,_,rfl,SqL.of hlv,fun l8 h8=>?_⟩
        have s8 := same_new h8 (.lst ((vs_ t).map V.str).reverse)
        have s78 := s7.trans s8
        have lvU : (vs_ t).length ≤ U.length := nd_len (vs_nd t) fun y hy=>R.un y (pt y (mem_vs.mp hy))
        have nd' : ((ds ++ [(z,false)]).map (·.1)).Nodup := by
          rw [List.map_append,List.nodup_append]
          refine ⟨W.nd,by simp,fun a ha b' hb'=>?_⟩
          have eb : b' = z := by simpa using hb'
          subst eb
          exact fun e=>lookB_not hz (e ▸ ha)
        have pd' : ∀ y ∈ (ds ++ [(z,false)]).map (·.1),Pz y := fun y hy=>by
          rw [List.map_append] at hy
          rcases List.mem_append.mp hy with h | h
          · exact W.pd y h
          · have eb : y = z := by simpa using h
            subst eb
            exact pz
        have lds' : ds.length + 1 ≤ U.length := by
          have := nd_len nd' fun y hy=>R.un y (pd' y hy)
          simpa using this
        have sm : (ds.length + 1) * U.length = ds.length * U.length + U.length := Nat.succ_mul _ _
        refine ⟨lw,l8,_,_,rfl,rfl,s78 _ _ w6,upd_same,small (by simp at lww ⊢; omega),?_⟩
        have kw : ∀ c o,c ≠ lw → H6 c = some o → (upd (upd H7 l8 (.lst ((vs_ t).map V.str).reverse)) lw (.lst ((us ++ [z]).map V.str ++ ((vs_ t).map V.str).reverse))) c = some o := fun c o nc h=>by rw [upd_ne nc]; exact s78 _ _ h
        refine ⟨(U.length - (ds.length + 1)) * (U.length + 1) + ((us ++ [z]).length + (vs_ t).length),?_,_,_,zs,(us ++ [z]) ++ (vs_ t).reverse,ds ++ [(z,false)],rfl,⟨fun c o h=>kw c o (ne_of_none h f3) (s6 _ _ h),kw _ _ n2 t6,kw _ _ n3 d6,by rw [List.map_append (l₁ := us ++ [z]),List.map_reverse]; exact upd_same,W.pz,fun y hy=>?_,pd',nd',W.nz,fun y hy=>?_,?_,fun y hy=>?_,W.cz,fun y hy=>?_,fun y hy=>?_⟩,(by simp; omega)⟩
        · have e1 : U.length - ds.length = (U.length - (ds.length + 1)) + 1 := by omega
          rw [e1,Nat.succ_mul]
          omega
        · rcases List.mem_append.mp hy with h | h
          · exact W.pw y h
          · exact pt y (mem_vs.mp (List.mem_reverse.mp h))
        · have h1 := W.tz y hy
          rw [snocB_look hz,if_neg fun e=>by rw [e,hz] at h1; cases h1]
          exact h1
        · have e2 : (ds ++ [(z,false)]).length = ds.length + 1 := by simp
          rw [e2,sm]
          simp at lww ⊢
          omega
        · rw [snocB_look hz] at hy
          split at hy
          · cases hy
          · exact W.dz y hy
        · rw [snocB_look hz] at hy
          split at hy
          · rename_i e
            subst e
            refine ⟨us,(vs_ t).reverse,by simp,fun x hx=>rlt x (mem_vs.mp (List.mem_reverse.mp hx)),fun k hk x hx=>.inr ?_⟩
            rw [ukt k hk] at hx
            exact List.mem_reverse.mpr (mem_vs.mpr hx)
          · rename_i e
            exact (W.ow y hy).push AC e fun x hx=>rlt x (mem_vs.mp (List.mem_reverse.mp hx))
        · rcases W.cv y hy with h | h
          · exact .inl (List.mem_append_left _ h)
          · exact .inr h
      | some c0 =>
        rw [dB_val,hz]
        refine iteF ?_
        refine ⟨_,rfl, .inl ⟨rfl,_,SqL.of hlw'⟩,lw,_, .str z,rfl,rfl,hlw',by simp,?_⟩
        rw [List.dropLast_concat]
        have k6 : ∀ c o,c ≠ lw → H5 c = some o → (upd H5 lw (.lst (us.map V.str))) c = some o := fun c o nc h=>by rw [upd_ne nc]; exact h
        have s6 : Same H (upd H5 lw (.lst (us.map V.str))) := fun c o h=>k6 c o (ne_of_none h f3) (W.s _ _ h)
        have w6 : (upd H5 lw (.lst (us.map V.str))) lw = some (.lst (us.map V.str)) := upd_same
        have d6 := k6 _ _ n3 W.hd
        have t6 := k6 _ _ n2 W.hlt
        revert k6 s6 d6 w6 t6
        generalize upd H5 lw (.lst (us.map V.str)) = H6
        intro k6 s6 w6 d6 t6
        have lus : us.length ≤ kv.length * 200 + ds.length * U.length := by simp at lww; omega
        refine ⟨_,rfl,_,rfl,d, .bl c0,rfl,by have := DGet.k (k := Sum.inr z) d6; rw [dB_val,hz] at this; exact this,c0,rfl,?_⟩
        cases c0 with
        | true =>
          refine iteF ?_
          exact ⟨(U.length - ds.length) * (U.length + 1) + us.length,by simp,_,_,zs,us,ds,rfl,⟨s6,t6,d6,w6,W.pz,fun y hy=>W.pw y (by simp [hy]),W.pd,W.nd,W.nz,W.tz,lus,W.dz,W.cz,fun y hy=>(W.ow y hy).pop (fun e=>by rw [e,hz] at hy; cases hy) (W.dz z hz) (fun x hx=>hx),fun y hy=>by
            rcases W.cv y hy with h | h
            · rcases List.mem_append.mp h with h | h
              · exact .inl h
              · rw [List.mem_singleton.mp h]; exact .inr (W.dz z hz)
            · exact .inr h⟩,rfl⟩
        | false =>
          refine iteT ?_
          refine ⟨_,rfl,_,rfl,d,_,rfl,DPut.k (k := Sum.inr z) d6 (small' (by unfold dB; rw [List.length_map]; omega)),?_⟩
          rw [dB_set hz]
          have nz : z ∉ zs := fun h=>by rw [W.tz z h] at hz; cases hz
          have lzs : zs.length ≤ U.length := nd_len W.nz fun y hy=>R.un y (W.pz y hy)
          have t7 : (upd H6 d (.dK (dB (setB ds z true)))) lt = some (.lst (zs.map V.str)) := by rw [upd_ne n1]; exact t6
          refine ⟨_,rfl, .inl ⟨rfl,_,SqL.of t7⟩,_,rfl,lt,_, .str z,rfl,rfl,t7,small' (by rw [List.length_map]; omega),?_⟩
          have kl : (setB ds z true).length = ds.length := by unfold setB; rw [List.length_map]
          refine ⟨(U.length - ds.length) * (U.length + 1) + us.length,by simp,_,_,zs ++ [z],us,setB ds z true,rfl,⟨fun c o h=>?_,by rw [List.map_append]; exact upd_same,?_,?_,fun y hy=>?_,fun y hy=>W.pw y (by simp [hy]),by rw [setB_keys]; exact W.pd,by rw [setB_keys]; exact W.nd,?_,fun y hy=>?_,by rw [kl]; exact lus,fun y hy=>?_,W.cz.snoc (Under.top AC (W.ow z hz)),fun y hy=>?_,fun y hy=>?_⟩,(by rw [kl])⟩
          · rw [upd_ne (ne_of_none h f1),upd_ne (ne_of_none h f2)]
            exact s6 _ _ h
          · rw [upd_ne (Ne.symm n1)]
            exact upd_same
          · rw [upd_ne (Ne.symm n2),upd_ne (Ne.symm n3)]
            exact w6
          · rcases List.mem_append.mp hy with h | h
            · exact W.pz y h
            · rw [List.mem_singleton.mp h]; exact pz
          · rw [List.nodup_append]
            exact ⟨W.nz,by simp,fun a ha b' hb' e=>nz (by rw [List.mem_singleton.mp hb'] at e; rw [← e]; exact ha)⟩
          · rw [setB_look]
            rcases List.mem_append.mp hy with h | h
            · rw [W.tz y h]
              simp
            · rw [List.mem_singleton.mp h,hz]
              simp
          · rw [setB_look] at hy
            by_cases e : y = z
            · rw [e]; simp
            · cases hl : ds.lookup y with
              | none=>rw [hl] at hy; cases hy
              | some c =>
                rw [hl] at hy
                simp [e] at hy
                exact List.mem_append_left _ (W.dz y (by rw [hl,hy]))
          · rw [setB_look] at hy
            by_cases e : y = z
            · subst e; rw [hz] at hy; simp at hy
            · cases hl : ds.lookup y with
              | none=>rw [hl] at hy; cases hy
              | some c =>
                rw [hl] at hy
                simp [e] at hy
                exact (W.ow y (by rw [hl,hy])).pop e (by simp) (fun x hx=>List.mem_append_left _ hx)
          · rcases W.cv y hy with h | h
            · rcases List.mem_append.mp h with h | h
              · exact .inl h
              · exact .inr (List.mem_append_right _ h)
            · exact .inr (List.mem_append_left _ h)
    · refine ⟨_,rfl,q lt zs H5 W.s f1 W.hlt W.nz W.pz W.cz fun k hk y hy=>?_⟩
      obtain ⟨j,hj,ej⟩ := List.getElem_of_mem hk
      rcases W.cv y ⟨j,k,by omega,by rw [List.getElem?_eq_getElem hj,ej],hy⟩ with h | h
      · have c1 : ¬ (0 : Int) < ((ws.map V.str).length : Nat) := fun z=>c (decide_eq_true z)
        rw [List.length_map] at c1
        have := List.length_pos_of_mem h
        omega
      · exact h
end
end Fw
set_option Elab.async false
set_option linter.all false
set_option maxRecDepth 100000
namespace Fw
open PySem PySem.Spec PyProof.Rows L2
theorem sz_kid {k : T} : ∀ {ks : List T},k ∈ ks → k.sz ≤ szs ks
  | a :: ks,h=>by
    show k.sz ≤ a.sz + szs ks
    rcases List.mem_cons.mp h with e | e
    · rw [e]; omega
    · have := sz_kid e; omega
theorem fill_le {m : List (Str × T)} {y : Str} : ∀ {n : Nat} {t : T},KD n t → Vin y t → (fillT m (.str y)).sz ≤ (fillT m t).sz := by
  intro n t k
  induction k with
  | leaf hz=>intro h; rw [vin_str] at h; rw [h.1]; exact Nat.le_refl _
  | @tup j z ks nz k1 k3 hk ih =>
    intro h
    rw [vin_tup] at h
    obtain ⟨k,mk,hv⟩ := h
    have h1 := ih k mk hv
    have h2 : (fillT m k).sz ≤ szs (ks.map (fillT m)) := sz_kid (List.mem_map.mpr ⟨k,mk,rfl⟩)
    rw [fillT_tup]
    show _ ≤ 1 + (1 + szs (ks.map (fillT m)))
    omega
theorem fill_lt {m : List (Str × T)} {y : Str} {n : Nat} {t : T} (k : KD n t) (h : Vin y t) (hn : openT t = false) : (fillT m (.str y)).sz < (fillT m t).sz := by
  cases k with
  | leaf hz =>
    rw [vin_str] at h
    have : openT (.str _) = true := h.2
    rw [hn] at this; cases this
  | @tup j z ks nz k1 k3 hk =>
    rw [vin_tup] at h
    obtain ⟨k,mk,hv⟩ := h
    have h1 := fill_le (m := m) (hk k mk) hv
    have h2 : (fillT m k).sz ≤ szs (ks.map (fillT m)) := sz_kid (List.mem_map.mpr ⟨k,mk,rfl⟩)
    rw [fillT_tup]
    show _ < 1 + (1 + szs (ks.map (fillT m)))
    omega
def Pz (m : List (Str × T)) (U : List Str) (z : Str) (k : T) (y : Str) : Prop := (y ∈ U ∧ openT (.str y) = true ∧ y.length ≤ 80) ∧ y ≠ z ∧ ((fillT m (.str y)).sz < (fillT m (.str z)).sz ∨ T.str y = k)
theorem vin_open {z : Str} {n : Nat} {t : T} {U : List Str} (g : Gd n U t) (h : Vin z t) : z ∈ U ∧ openT (.str z) = true ∧ z.length ≤ 80 := ⟨g.2 z h,h.2,vin_len g.1 h⟩
theorem reach_bind {n : Nat} {U : List Str} {m bnd : List (Str × T)} {rk : Str → Nat} {z : Str} {k : T} (B : BOk n U m bnd rk) (gk : Gd n U k) (th : fillT m k = fillT m (.str z)) (ne : k ≠ .str z) (en : openT k = true → isEnd bnd k) :
    Reach U bnd (Pz m U z k) ∧ ∀ y,Vin y k → Pz m U z k y := by
  refine ⟨⟨fun y h=>h.1.1,fun y h=>h.1.2,fun y k' h hl w hw=>?_⟩,fun y hy=>?_⟩
  · obtain ⟨⟨hU,ho,hl80⟩,hne,hs⟩ := h
    have gk' := B.gd y k' hl
    have th' := B.th y k' hl
    have lt : (fillT m (.str w)).sz < (fillT m (.str z)).sz := by
      cases ok : openT k' with
      | true =>
        obtain ⟨x,rfl⟩ := open_str ok
        have ew : w = x := ((vin_str).mp hw).1
        subst ew
        rw [th']
        rcases hs with hs | hs
        · exact hs
        · exact absurd ⟨_,hl,ok⟩ (en (by rw [← hs]; exact ho) y hs.symm)
      | false =>
        have := fill_lt (m := m) gk'.1 hw ok
        rw [th'] at this
        rcases hs with hs | hs
        · omega
        · rw [← th,← hs]; exact this
    exact ⟨vin_open gk' hw,fun e=>by rw [e] at lt; exact Nat.lt_irrefl _ lt, .inl lt⟩
  · refine ⟨vin_open gk hy,?_⟩
    cases ok : openT k with
    | true =>
      obtain ⟨x,rfl⟩ := open_str ok
      have ew : y = x := ((vin_str).mp hy).1
      subst ew
      exact ⟨fun e=>ne (by rw [e]), .inr rfl⟩
    | false =>
      have := fill_lt (m := m) gk.1 hy ok
      rw [th] at this
      exact ⟨fun e=>by rw [e] at this; exact Nat.lt_irrefl _ this, .inl this⟩
open Classical in
theorem bind_ok {n : Nat} {U : List Str} {m bnd : List (Str × T)} {rk : Str → Nat} {z : Str} {k : T} (B : BOk n U m bnd rk) (gk : Gd n U k) (th : fillT m k = fillT m (.str z)) (ne : k ≠ .str z) (en : openT k = true → isEnd bnd k) (oz : openT (.str z) = true) (zU : z ∈ U) (lz : z.length ≤ 80) :
    ∃ rk',BOk n U m (putT bnd z k) rk' := by
  refine ⟨fun x=>if openT k = true ∧ T.str x = k then 0 else rk x + 1,fun x k' h=>?_,fun x k' h=>?_,fun x k' h=>?_,fun x y h o=>?_⟩
  · rw [look_put] at h
    split at h
    · rename_i e; subst e; injection h with h; rw [← h]; exact th
    · exact B.th x k' h
  · rw [look_put] at h
    split at h
    · injection h with h; rw [← h]; exact gk
    · exact B.gd x k' h
  · rw [look_put] at h
    split at h
    · rename_i e; subst e; exact ⟨oz,zU,lz⟩
    · exact B.op x k' h
  · rw [look_put] at h
    split at h
    · rename_i e
      subst e
      injection h with h
      subst h
      rw [if_pos ⟨o,rfl⟩,if_neg (fun hh=>ne hh.2.symm)]
      omega
    · have hx : ¬ (openT k = true ∧ T.str x = k) := fun hh=>en hh.1 x hh.2.symm ⟨_,h,o⟩
      rw [if_neg hx]
      have := B.rk x y h o
      split <;> omega
def endB (bnd : List (Str × T)) (x : Str) : Bool := match bnd.lookup x with
  | some k=>!openT k
  | none=>true
def nE (U : List Str) (bnd : List (Str × T)) : Nat := (U.filter (endB bnd)).length
theorem endB_iff {bnd : List (Str × T)} {x : Str} : endB bnd x = true ↔ ¬ vrB bnd x := by
  unfold endB vrB
  cases h : bnd.lookup x with
  | none=>simp
  | some k=>simp
theorem nE_same {U : List Str} {bnd bnd' : List (Str × T)} (h : SameV bnd bnd') : nE U bnd' = nE U bnd := by
  have : endB bnd' = endB bnd := by
    funext x
    have h1 := (h x).1
    rw [Bool.eq_iff_iff,endB_iff,endB_iff,h1]
  unfold nE
  rw [this]
theorem filter_len {α : Type} (p q : α → Bool) : ∀ (l : List α),(∀ x ∈ l,q x = true → p x = true) → (l.filter q).length ≤ (l.filter p).length
  | [],_=>Nat.le_refl _
  | a :: l,h=>by
    have ih := filter_len p q l fun x hx=>h x (List.mem_cons_of_mem _ hx)
    have ha := h a List.mem_cons_self
    rw [List.filter_cons,List.filter_cons]
    split
    · rename_i hq
      rw [if_pos (ha hq)]
      simp only [List.length_cons]
      omega
    · split
      · simp only [List.length_cons]; omega
      · exact ih
theorem filter_lt {α : Type} (p q : α → Bool) : ∀ (l : List α) {z : α},(∀ x ∈ l,q x = true → p x = true) → z ∈ l → p z = true → q z = false → (l.filter q).length < (l.filter p).length
  | a :: l,z,h,hz,pz,qz=>by
    have hl : ∀ x ∈ l,q x = true → p x = true := fun x hx=>h x (List.mem_cons_of_mem _ hx)
    rw [List.filter_cons,List.filter_cons]
    rcases List.mem_cons.mp hz with e | e
    · subst e
      rw [if_pos pz,if_neg (by rw [qz]; decide)]
      have := filter_len p q l hl
      simp only [List.length_cons]
      omega
    · have ih := filter_lt p q l hl e pz qz
      have ha := h a List.mem_cons_self
      split
      · rename_i hq
        rw [if_pos (ha hq)]
        simp only [List.length_cons]
        omega
      · split
        · simp only [List.length_cons]; omega
        · exact ih
theorem nE_bind {U : List Str} {bnd : List (Str × T)} {z : Str} {k : T} (hz : ¬ vrB bnd z) (zU : z ∈ U) : nE U (putT bnd z k) ≤ nE U bnd ∧ (openT k = true → nE U (putT bnd z k) < nE U bnd) := by
  have sub : ∀ x ∈ U,endB (putT bnd z k) x = true → endB bnd x = true := fun x _ h=>by
    by_cases e : x = z
    · subst e; exact endB_iff.mpr hz
    · unfold endB at h ⊢
      rw [look_put,if_neg e] at h
      exact h
  refine ⟨filter_len _ _ U sub,fun ok=>filter_lt _ _ U sub zU (endB_iff.mpr hz) ?_⟩
  unfold endB
  rw [look_put,if_pos rfl]
  simp [ok]
end Fw
set_option Elab.async false
set_option linter.all false
set_option maxRecDepth 100000
namespace Fw
open PySem PySem.Spec PyProof.Rows L2
def SzB (bnd : List (Str × T)) : Prop := ∀ z k,bnd.lookup z = some k → k.sz ≤ 100000
def Rlt (m : List (Str × T)) (rk : Str → Nat) (y z : Str) : Prop := (fillT m (.str y)).sz < (fillT m (.str z)).sz ∨ ((fillT m (.str y)).sz = (fillT m (.str z)).sz ∧ rk y < rk z)
theorem acy_of {n : Nat} {U : List Str} {m bnd : List (Str × T)} {rk : Str → Nat} (B : BOk n U m bnd rk) : Acy (Rlt m rk) bnd := by
  refine ⟨fun z h=>?_,fun {x y z} h1 h2=>?_,fun z k hl y hy=>?_⟩
  · rcases h with h | ⟨_,h⟩
    · exact Nat.lt_irrefl _ h
    · exact Nat.lt_irrefl _ h
  · unfold Rlt at *
    omega
  · have th := B.th z k hl
    cases ok : openT k with
    | true =>
      obtain ⟨x,rfl⟩ := open_str ok
      have e := ((vin_str).mp hy).1
      subst e
      exact .inr ⟨by rw [th],B.rk z y hl ok⟩
    | false =>
      have := fill_lt (m := m) (B.gd z k hl).1 hy ok
      rw [th] at this
      exact .inl this
def spBind (C : Addr) : Sp := fun vs H Q _=>∃ (jo dx b f : Addr) (kvs : List (Key × V)) (bnd : List (Str × T)) (z : Str) (v : V) (k : T) (n : Nat) (U : List Str) (m : List (Str × T)) (rk : Str → Nat),vs = [.ref jo, .str z,v] ∧ JO C H jo dx b f kvs bnd ∧ BOk n U m bnd rk ∧ SzB bnd ∧ Rep H v k ∧ Gd n U k ∧ k.sz ≤ 100000 ∧
  openT (.str z) = true ∧ z ∈ U ∧ z.length ≤ 80 ∧ fillT m k = fillT m (.str z) ∧ k ≠ .str z ∧ (openT k = true → isEnd bnd k) ∧ bnd.length ≤ 900 ∧ U.length ≤ 200 ∧
  ∀ (l : Addr) (kvs' : List (Key × V)) (ps : List V) (prs : List (T × T)) H',KeepB b H H' → JO C H' jo dx b f kvs' (putT bnd z k) → H l = none → H' l = some (.lst ps) → Reps H' ps (prs.map pT) →
    ((bnd.lookup z = none ∧ prs = []) ∨ ∃ w,bnd.lookup z = some w ∧ prs = [(k,w)]) → Q (.ref l) H'
section
variable {P : Program} {w : World} {K : PySem.W.Frag} {mg : Str → Option Value} {base : Heap} {f : Addr} {fd : FuncData} {C : Addr}
theorem sc_jbind : FnScope ["self","variable","kind","was"] ["self","variable","kind"] (defScope (jm 3)) := ⟨rfl,rfl,rfl,by decide +kernel,rfl,by decide +kernel,by decide +kernel⟩
set_option maxHeartbeats 2000000 in
theorem ok_jbind {fI : Addr} {gI : FuncData} (F : Fun K "bind" "Joins.bind" (jm 3) f fd) (Tx : TxJ K C) (MI : Meth K C "inner_first" fI) (GI : FnOk P w K mg base CX0 4 fI gI ["self","kinds"] (spInner C)) (bI : Binds K gI ["self","kinds"] []) : FnOk P w K mg base CX0 5 f fd ["self","variable","kind"] (spBind C) := by
  refine F.ok sc_jbind (fun vs H Q E h=>?_) (fun cdv A outer s H vs Q E hr h=>?_)
  · obtain ⟨jo,dx,b,g,kvs,bnd,z,v,k,n,U,m,rk,rfl,_⟩ := h
    rfl
  obtain ⟨jo,dx,b,g,kvs,bnd,z,v,k,n,U,m,rk,rfl,J,B,SB,rt,gk,sk,oz,zU,lz,th,ne,en,lb,lU,q⟩ := h
  have hu := hu_of hr
  refine ⟨_,pss_cons (ps_if (pt_cmpR op_in_seq (pv 1) (pe_meth (pv 0) Tx.cl MI GI hr bI .nil pass0 (pa_cons (pe_lst (pa_cons (pv 2) pa_nil)) pa_nil)) (by with_unfolding_all rfl)) (pss_one (ps_ret pe_non)) pss_nil)
    (pss_cons (ps_set (i := 3) sc_jbind.nd rfl (Or.inl rfl) (pe_dget1 hu (pe_fld (pv 0) rfl) (pv 1) ⟨rfl,rfl,rfl,rfl⟩))
    (pss_cons (ps_dput hu (pe_fld (pv 0) rfl) (pv 1) (pv 2) rfl)
    (pss_one (ps_ret (pe_ifExp (pt_cmp (pc_isN (pv 3))) (pe_lst pa_nil) (pe_lst (pa_cons (pe_tup (pa_cons (pv 2) (pa_cons (pv 3) pa_nil))) pa_nil))))))),?_⟩
  obtain ⟨R,pk⟩ := reach_bind B gk th ne en
  refine ⟨_,rfl,_,rfl,jo,dx,_,rfl,J.ob,jn7 _ _,_,rfl,small (by show 1 ≤ 1000000; decide),fun l1 h1=>?_⟩
  have s1 := same_new h1 (.lst [v])
  have J1 := J.same s1
  refine ⟨jo,dx,b,g,l1,kvs,bnd,[v],[k],n,U,Pz m U z k,Rlt m rk,rfl,J1,upd_same, .cons (rt.same s1) .nil,fun k' hk'=>?_,by simp,lU,R,acy_of B,fun x k' h=>⟨(B.gd x k' h).1,SB x k' h⟩,fun l2 zs H2 s2 l20 hl2 nd pz _ _=>?_⟩
  · rw [List.mem_singleton.mp hk']
    exact ⟨gk.1,sk,pk⟩
  have s12 := s1.trans s2
  have J2 := J.same s12
  refine ⟨l2,_,rfl, .inl (SqL.of hl2),rfl,by simp [flatV],_,rfl,?_⟩
  rw [if_neg (show ¬ (false = true) by decide),inV_str,decide_eq_false (fun h=>(pz z h).2.1 rfl)]
  refine iteF ?_
  refine ⟨_,rfl,jo,C,dx,_, .ref b,rfl,J2.ob,Tx.cl,Tx.a1,jf1 _ _,b,rfl, .inl ⟨_, .inl J2.hb⟩,_,rfl,_,DGet.k (k := Sum.inr z) J2.hb,?_⟩
  have ld := J2.dr.length
  obtain ⟨J3,kb⟩ := J2.put (z := z) (rt.same s12)
  refine ⟨_,rfl,_,rfl,jo,C,dx,_, .ref b,rfl,J2.ob,Tx.cl,Tx.a1,jf1 _ _,_,rfl,b,_,rfl,DPut.k (k := Sum.inr z) J2.hb (small' (by omega)),?_⟩
  have k3 : KeepB b H (upd H2 b (.dK (putK kvs (Sum.inr z) v))) := fun c o nc h=>kb c o nc (s12 c o h)
  have t3 : ∀ c xs,H2 c = some (.tup xs) → (upd H2 b (.dK (putK kvs (Sum.inr z) v))) c = some (.tup xs) := kb.tups J2.hb
  revert J3 kb k3 t3
  generalize upd H2 b (.dK (putK kvs (Sum.inr z) v)) = H3
  intro J3 kb k3 t3
  have fr : ∀ c,H3 c = none → H c = none := fun c hc=>by
    cases hz : H c with
    | none=>rfl
    | some o =>
      by_cases e : c = b
      · rw [e,J3.hb] at hc; cases hc
      · rw [k3 c o e hz] at hc; cases hc
  rcases J2.dr.get z with ⟨g1,g2⟩ | ⟨v',k',g1,g2,rk'⟩
  · rw [g1]
    refine ⟨_,rfl,_,rfl,?_⟩
    refine iteT ⟨small (by show 0 ≤ 1000000; decide),fun l hl=>?_⟩
    have s4 := same_new hl (.lst [])
    exact q l _ [] [] _ (fun c o nc h=>s4 _ _ (k3 c o nc h)) (J3.same s4) (fr l hl) upd_same .nil (.inl ⟨g2,rfl⟩)
  · rw [g1]
    have nn : v' ≠ .non := fun e=>by rw [e] at rk'; cases rk'
    refine ⟨_,rfl,_,rfl,?_⟩
    refine ite2 (fun c=>absurd (of_decide_eq_true c) nn) (fun c=>?_)
    refine ⟨_,rfl,_,rfl,small (by show 2 ≤ 1000000; decide),fun p hp=>⟨small (by show 1 ≤ 1000000; decide),fun l hl=>?_⟩⟩
    have s4 := same_new hp (.tup [v,v'])
    have s5 := same_new hl (.lst [.ref p])
    have s45 := s4.trans s5
    refine q l _ [.ref p] [(k,k')] _ (fun c o nc h=>s45 _ _ (k3 c o nc h)) (J3.same s45) (fr l (s4.free hl)) upd_same ?_ (.inr ⟨k',g2,rfl⟩)
    exact .cons (.tup (s5 _ _ upd_same) (.cons (((rt.same s12).mono t3).same s45) (.cons ((rk'.mono t3).same s45) .nil))) .nil
end
end Fw
set_option Elab.async false
set_option linter.all false
set_option maxRecDepth 100000
namespace L2
open PySem PySem.Spec PyProof.Rows Fw
theorem op_eqS {X : Cx} (hu : X.A.units + 64 < cLine) : OpR X (compareOp .Eq) (fun x y H Q=>∃ z r n,x = .str z ∧ Rep H y r ∧ KD n r ∧ (T.str z = r → Q (.bl true) H) ∧ (T.str z ≠ r → Q (.bl false) H)) := by
  intro pins s σ H x y v u Q I rx ry h
  obtain ⟨z,r,n,rfl,r2,k2,q1,q2⟩ := h
  cases k2 with
  | @leaf _ z' hz' =>
    cases r2
    by_cases c : z = z'
    · subst c
      exact op_eq pins s σ H _ _ v u Q I rx ry ⟨rfl,by rw [decide_eq_true rfl]; exact q1 rfl⟩
    · exact op_eq pins s σ H _ _ v u Q I rx ry ⟨rfl,by rw [decide_eq_false (fun e=>c (by injection e))]; exact q2 (fun e=>c (by injection e))⟩
  | @tup n z' ks' nz' k1' k3' hk' =>
    cases r2 with
    | @tup b ys _ hb rb =>
      obtain ⟨t1,rfl⟩ := rx
      cases ry
      obtain ⟨z2,its2,v2,p2⟩ := I.hok b _ hb
      exact SeqAt.RcAt.str_tuple (A := X.A) (s := s) z t1 (show s.heap.IsTuple b its2.toArray from p2) (by omega) X.prog X.w _ _ ⟨.bl false,H,I,rfl,q2 (by simp)⟩
end L2
namespace Fw
open PySem PySem.Spec PyProof.Rows L2
structure PrOk (n : Nat) (U : List Str) (m : List (Str × T)) (p : T × T) : Prop where
  g1 : Gd n U p.1
  g2 : Gd n U p.2
  th : fillT m p.1 = fillT m p.2
  s1 : p.1.sz ≤ 100000
  s2 : p.2.sz ≤ 100000
def wt (m : List (Str × T)) (p : T × T) : Nat := 2 * (fillT m p.1).sz + (if (openT p.1 || openT p.2) = true then 1 else 0)
def wts (m : List (Str × T)) : List (T × T) → Nat
  | []=>0
  | p :: ps=>wt m p + wts m ps
theorem wts_app (m : List (Str × T)) : ∀ a b : List (T × T),wts m (a ++ b) = wts m a + wts m b
  | [],b=>by simp [wts]
  | p :: a,b=>by simp [wts,wts_app m a b]; omega
theorem wts_rev (m : List (Str × T)) : ∀ a : List (T × T),wts m a.reverse = wts m a
  | []=>rfl
  | p :: a=>by rw [List.reverse_cons,wts_app,wts_rev m a]; simp [wts]; omega
theorem wts_zip (m : List (Str × T)) : ∀ (ks ls : List T),wts m (ks.zip ls) ≤ 2 * szs (ks.map (fillT m)) + ks.length
  | [],_=>by simp [wts]
  | _ :: _,[]=>by simp [wts]
  | k :: ks,l :: ls=>by
    have := wts_zip m ks ls
    rw [List.zip_cons_cons]
    show wt m (k,l) + wts m (ks.zip ls) ≤ 2 * ((fillT m k).sz + szs (ks.map (fillT m))) + (ks.length + 1)
    have h : wt m (k,l) ≤ 2 * (fillT m k).sz + 1 := by unfold wt; dsimp only; split <;> omega
    omega
theorem gd_kids {n : Nat} {U : List Str} {z : Str} {ks : List T} (g : Gd n U (.tup (.str z :: ks))) : ∀ k ∈ ks,Gd n U k := fun k hk=>by
  obtain ⟨kd,hv⟩ := g
  cases kd with
  | tup nz k1 k3 h=>exact ⟨(h k hk).up (Nat.le_succ _),fun y hy=>hv y (vin_tup.mpr ⟨k,hk,hy⟩)⟩
theorem zip_ok {n : Nat} {U : List Str} {m : List (Str × T)} : ∀ {ks ls : List T},(∀ k ∈ ks,Gd n U k ∧ k.sz ≤ 100000) → (∀ k ∈ ls,Gd n U k ∧ k.sz ≤ 100000) → ks.map (fillT m) = ls.map (fillT m) → ∀ p ∈ ks.zip ls,PrOk n U m p
  | [],_,_,_,_,p,h=>by simp at h
  | _ :: _,[],_,_,e,p,h=>by simp at h
  | k :: ks,l :: ls,h1,h2,e,p,h=>by
    rw [List.map_cons,List.map_cons] at e
    injection e with e1 e2
    rw [List.zip_cons_cons] at h
    rcases List.mem_cons.mp h with h | h
    · subst h
      have a := h1 k List.mem_cons_self
      have b := h2 l List.mem_cons_self
      exact ⟨a.1,b.1,e1,a.2,b.2⟩
    · exact zip_ok (fun x hx=>h1 x (List.mem_cons_of_mem _ hx)) (fun x hx=>h2 x (List.mem_cons_of_mem _ hx)) e2 p h
theorem heads_same {n : Nat} {m : List (Str × T)} {s t : T} (vm : VarsM m) (k1 : KD n s) (k2 : KD n t) (o1 : openT s = false) (o2 : openT t = false) (e : fillT m s = fillT m t) :
    ∃ z ks ls,hdT s = .str z :: ks ∧ hdT t = .str z :: ls ∧ ks.map (fillT m) = ls.map (fillT m) ∧ ks.length ≤ 3 ∧ 2 * szs (ks.map (fillT m)) + ks.length < 2 * (fillT m s).sz ∧ (∀ k ∈ ks,k.sz ≤ s.sz) ∧ (∀ k ∈ ls,k.sz ≤ t.sz) ∧
      (∀ U,Gd n U s → ∀ k ∈ ks,Gd n U k) ∧ (∀ U,Gd n U t → ∀ k ∈ ls,Gd n U k) := by
  have leaf : ∀ {z : Str},openT (.str z) = false → fillT m (.str z) = .str z := fun {z} o=>by
    rw [fillT_str]
    cases h : m.lookup z with
    | none=>rfl
    | some t' =>
      have := vm z t' h
      have o' : Txt.startswith z "?" = false := o
      rw [o'] at this; cases this
  cases k1 with
  | @leaf _ z hz =>
    rw [leaf o1] at e
    cases k2 with
    | @leaf _ y hy =>
      rw [leaf o2] at e
      injection e with e
      subst e
      refine ⟨z,[],[],rfl,rfl,rfl,by simp,?_,by simp,by simp,by simp,by simp⟩
      have := sz_pos (fillT m (.str z))
      simp [szs]
      omega
    | tup nz h1 h3 hk=>rw [fillT_tup] at e; cases e
  | @tup j z ks nz h1 h3 hk =>
    rw [fillT_tup] at e
    cases k2 with
    | leaf hy=>rw [leaf o2] at e; cases e
    | @tup _ y ls nz' h1' h3' hk' =>
      rw [fillT_tup] at e
      injection e with e
      injection e with e1 e2
      injection e1 with e1
      subst e1
      refine ⟨z,ks,ls,rfl,rfl,e2,h3,?_,fun k hk'=>?_,fun k hk'=>?_,fun U g=>gd_kids g,fun U g=>gd_kids g⟩
      · rw [fillT_tup]
        show _ < 2 * (1 + (1 + szs (ks.map (fillT m))))
        omega
      · have := sz_kid hk'
        show _ ≤ 1 + (1 + szs ks)
        omega
      · have := sz_kid hk'
        show _ ≤ 1 + (1 + szs ls)
        omega
def spEnds2 (C : Addr) : Sp := fun vs H Q _=>∃ (jo dx b f : Addr) (kvs : List (Key × V)) (bnd : List (Str × T)) (v1 v2 : V) (t1 t2 : T) (n : Nat) (U : List Str) (m : List (Str × T)) (rk : Str → Nat),vs = [.ref jo,v1,v2] ∧ JO C H jo dx b f kvs bnd ∧ BOk n U m bnd rk ∧ SzB bnd ∧ KN bnd ∧ Rep H v1 t1 ∧ Rep H v2 t2 ∧ PrOk n U m (t1,t2) ∧
  (openT t1 = true → isEnd bnd t1) ∧ (openT t2 = true → isEnd bnd t2) ∧ VarsM m ∧ U.length ≤ 200 ∧
  ∀ (l : Addr) (kvs' : List (Key × V)) (bnd' : List (Str × T)) (ps : List V) (prs : List (T × T)) (rk' : Str → Nat) H',KeepB b H H' → JO C H' jo dx b f kvs' bnd' → BOk n U m bnd' rk' → SzB bnd' → KN bnd' → H l = none → H' l = some (.lst ps) → Reps H' ps (prs.map pT) →
    (∀ p ∈ prs,PrOk n U m p) → wts m prs + nE U bnd' < wt m (t1,t2) + nE U bnd → (∀ s,Resp s bnd' → (∀ p ∈ prs,fillT s p.1 = fillT s p.2) → Resp s bnd ∧ fillT s t1 = fillT s t2) → Q (.ref l) H'
theorem kn_len {n : Nat} {U : List Str} {m bnd : List (Str × T)} {rk : Str → Nat} (B : BOk n U m bnd rk) (h : KN bnd) : bnd.length ≤ U.length := by
  have := nd_len h fun z hz=>by
    obtain ⟨k,hk⟩ := key_look hz
    exact (B.op z k hk).2.1
  rw [List.length_map] at this
  exact this
theorem szb_put {bnd : List (Str × T)} {z : Str} {k : T} (h : SzB bnd) (hk : k.sz ≤ 100000) : SzB (putT bnd z k) := fun x k' e=>by
  rw [look_put] at e
  split at e
  · injection e with e; rw [← e]; exact hk
  · exact h x k' e
theorem no_vrB {bnd : List (Str × T)} {z : Str} {w : T} (h : ¬ vrB bnd z) (e : bnd.lookup z = some w) : openT w = false := by
  cases o : openT w with
  | false=>rfl
  | true=>exact absurd ⟨w,e,o⟩ h
theorem zip_maps {s : List (Str × T)} : ∀ {a b : List T},a.length = b.length → (∀ p ∈ a.zip b,fillT s p.1 = fillT s p.2) → a.map (fillT s) = b.map (fillT s)
  | [],[],_,_=>rfl
  | [],_ :: _,h,_=>by simp at h
  | _ :: _,[],h,_=>by simp at h
  | x :: a,y :: b,h,hp=>by
    rw [List.map_cons,List.map_cons,hp (x,y) (by simp),zip_maps (a := a) (b := b) (by simpa using h) fun p hp'=>hp p (by rw [List.zip_cons_cons]; exact List.mem_cons_of_mem _ hp')]
theorem heads_fill {n : Nat} {t1 t2 : T} {z : Str} {k1 k2 : List T} {s : List (Str × T)} (d1 : KD n t1) (d2 : KD n t2) (e1 : hdT t1 = .str z :: k1) (e2 : hdT t2 = .str z :: k2) (l : k1.length = k2.length) (hp : ∀ p ∈ k1.zip k2,fillT s p.1 = fillT s p.2) : fillT s t1 = fillT s t2 := by
  have hm := zip_maps l hp
  cases d1 with
  | @leaf _ y hy =>
    have h1 : [T.str y] = .str z :: k1 := e1
    injection h1 with h1 h1'
    subst h1'
    cases d2 with
    | @leaf _ y2 hy2 =>
      have h2 : [T.str y2] = .str z :: k2 := e2
      injection h2 with h2 h2'
      rw [h1,h2]
    | @tup _ y2 ks2 nz2 ka2 kb2 hk2 =>
      have h2 : T.str y2 :: ks2 = .str z :: k2 := e2
      injection h2 with h2 h2'
      rw [h2'] at ka2
      simp at l
      rw [← l] at ka2
      simp at ka2
  | @tup _ y ks nz ka kb hk =>
    have h1 : T.str y :: ks = .str z :: k1 := e1
    injection h1 with h1 h1'
    cases d2 with
    | @leaf _ y2 hy2 =>
      have h2 : [T.str y2] = .str z :: k2 := e2
      injection h2 with h2 h2'
      rw [h1'] at ka
      rw [← h2'] at l
      simp at l
      rw [l] at ka
      simp at ka
    | @tup _ y2 ks2 nz2 ka2 kb2 hk2 =>
      have h2 : T.str y2 :: ks2 = .str z :: k2 := e2
      injection h2 with h2 h2'
      rw [fillT_tup,fillT_tup,h1',h2',h1,h2,hm]
end Fw
set_option Elab.async false
set_option linter.all false
set_option maxRecDepth 100000
namespace Fw
open PySem PySem.Spec PyProof.Rows L2
theorem bind_step {n : Nat} {U : List Str} {m bnd : List (Str × T)} {rk : Str → Nat} {z : Str} {s k : T} {prs : List (T × T)} (B : BOk n U m bnd rk) (SB : SzB bnd) (ez : ¬ vrB bnd z) (zU : z ∈ U) (gk : Gd n U k) (sk : k.sz ≤ 100000) (th : fillT m k = fillT m (.str z))
    (h : (bnd.lookup z = none ∧ prs = []) ∨ ∃ w,bnd.lookup z = some w ∧ prs = [(k,w)]) : (∀ p ∈ prs,PrOk n U m p) ∧ wts m prs + nE U (putT bnd z k) < 2 * (fillT m (.str z)).sz + 1 + nE U bnd := by
  obtain ⟨e1,e2⟩ := nE_bind (k := k) ez zU
  have sp := sz_pos (fillT m (.str z))
  rcases h with ⟨_,rfl⟩ | ⟨w,hw,rfl⟩
  · refine ⟨(fun p hp=>by cases hp),?_⟩
    show 0 + _ < _
    omega
  · refine ⟨fun p hp=>?_,?_⟩
    · rw [List.mem_singleton.mp hp]
      exact ⟨gk,B.gd z w hw,by rw [th,B.th z w hw],sk,SB z w hw⟩
    · have ow := no_vrB ez hw
      show wt m (k,w) + 0 + _ < _
      unfold wt
      dsimp only
      rw [ow,Bool.or_false,th]
      cases ok : openT k with
      | true=>have := e2 ok; rw [if_pos rfl]; omega
      | false=>rw [if_neg (by decide)]; omega
section
variable {P : Program} {w : World} {K : PySem.W.Frag} {mg : Str → Option Value} {base : Heap} {f : Addr} {fd : FuncData} {C : Addr}
theorem sc_jends : FnScope ["self","one","other","ones","others"] ["self","one","other"] (defScope (jm 4)) := ⟨rfl,rfl,rfl,by decide +kernel,rfl,by decide +kernel,by decide +kernel⟩
set_option maxHeartbeats 2000000 in
theorem ok_jends {fL fB : Addr} {gL gB : FuncData} (F : Fun K "join_ends" "Joins.join_ends" (jm 4) f fd) (Tx : TxJ K C) (ML : Meth K C "is_loose" fL) (GL : FnOk P w K mg base CX0 2 fL gL ["self","kind"] (spLoose C)) (bL : Binds K gL ["self","kind"] [])
    (MB : Meth K C "bind" fB) (GB : FnOk P w K mg base CX0 5 fB gB ["self","variable","kind"] (spBind C)) (bB : Binds K gB ["self","variable","kind"] []) (mL : mg "list" = none) (mz : mg "zip" = none)
    (h2 : Has P w K mg base 1 "headed" ["thing"] spHeaded) (h3 : Has P w K mg base 1 "same_head" ["one","other"] spSameHead) : FnOk P w K mg base CX0 6 f fd ["self","one","other"] (spEnds2 C) := by
  refine F.ok sc_jends (fun vs H Q E h=>?_) (fun cdv A outer s H vs Q E hr h=>?_)
  · obtain ⟨jo,dx,b,g,kvs,bnd,v1,v2,t1,t2,n,U,m,rk,rfl,_⟩ := h
    rfl
  obtain ⟨jo,dx,b,g,kvs,bnd,v1,v2,t1,t2,n,U,m,rk,rfl,J,B,SB,kn,r1,r2,po,en1,en2,vm,lU,q⟩ := h
  have hu64 := hr.units
  have hr2 : Room 2 _ := hr.mono (by decide)
  have ln := kn_len B kn
  refine ⟨_,pss_cons (ps_if (pt_val (pe_meth (pv 0) Tx.cl ML GL hr2 bL .nil pass0 (pa_cons (pv 1) pa_nil))) (pss_one (ps_ret (pe_ifExp (pt_cmpR (op_eqS hu64) (pv 1) (pv 2) (nomark _)) (pe_lst pa_nil) (pe_meth (pv 0) Tx.cl MB GB hr bB .nil pass0 (pa_cons (pv 1) (pa_cons (pv 2) pa_nil)))))) pss_nil)
    (pss_cons (ps_if (pt_val (pe_meth (pv 0) Tx.cl ML GL hr2 bL .nil pass0 (pa_cons (pv 2) pa_nil))) (pss_one (ps_ret (pe_meth (pv 0) Tx.cl MB GB hr bB .nil pass0 (pa_cons (pv 2) (pa_cons (pv 1) pa_nil))))) pss_nil)
    (pss_cons (ps_set (i := 3) sc_jends.nd rfl (Or.inl rfl) (pcall h2 hr (by decide) rfl (pa_cons (pv 1) pa_nil)))
    (pss_cons (ps_set (i := 4) sc_jends.nd rfl (Or.inl rfl) (pcall h2 hr (by decide) rfl (pa_cons (pv 2) pa_nil)))
    (pss_one (ps_ret (pe_ifExp (pt_val (pcall h3 hr (by decide) rfl (pa_cons (pv 3) (pa_cons (pv 4) pa_nil)))) (pe_listZip rfl rfl mL rfl mz (pa_cons (pe_slice sl_tup (pv 3) (po_some pe_int) po_none) (pa_cons (pe_slice sl_tup (pv 4) (po_some pe_int) po_none) pa_nil))) pe_non)))))),?_⟩
  refine ⟨_,rfl,jo,dx,_,rfl,J.ob,jn1 _ _,_,rfl,jo,dx,b,g,kvs,bnd,v1,some t1,rfl,J,r1,_,rfl,?_⟩
  refine ite2 (fun c1=>?_) (fun c1=>?_)
  · have o1 : openT t1 = true := c1
    obtain ⟨z,rfl⟩ := open_str o1
    have ez := en1 o1 z rfl
    have vz : Vin z (.str z) := vin_str.mpr ⟨rfl,o1⟩
    have zU := po.g1.2 z vz
    have lz := vin_len po.g1.1 vz
    cases r1 with
    | str _ hz =>
    refine ⟨_,rfl,_,rfl,z,t2,n,rfl,r2,po.g2.1,fun e=>⟨true,rfl,iteT ⟨small (by show 0 ≤ 1000000; decide),fun l hl=>?_⟩⟩,fun e=>⟨false,rfl,iteF ?_⟩⟩
    · have s1 := same_new hl (.lst [])
      refine q l kvs bnd [] [] rk _ (fun c o _ h=>s1 _ _ h) (J.same s1) B SB kn hl upd_same .nil (fun p hp=>by cases hp) ?_ (fun s h _=>⟨h,by rw [e]⟩)
      show 0 + _ < _
      have sp := sz_pos (fillT m (.str z))
      unfold wt
      dsimp only
      omega
    · refine ⟨_,rfl,jo,dx,_,rfl,J.ob,jn3 _ _,_,rfl,_,rfl,jo,dx,b,g,kvs,bnd,z,v2,t2,n,U,m,rk,rfl,J,B,SB,r2,po.g2,po.s2,o1,zU,lz,po.th.symm,Ne.symm e,en2,by omega,lU,fun l kvs' ps prs H' kb J' hl0 hl' rp hw=>?_⟩
      obtain ⟨rk',B'⟩ := bind_ok B po.g2 po.th.symm (Ne.symm e) en2 o1 zU lz
      obtain ⟨a1,a2⟩ := bind_step B SB ez zU po.g2 po.s2 po.th.symm (s := t2) hw
      refine q l kvs' _ ps prs rk' H' kb J' B' (szb_put SB po.s2) (kn_put kn) hl0 hl' rp a1 ?_ (fun s h hp=>⟨(bind_back hw h hp).1,(bind_back hw h hp).2.symm⟩)
      have : wt m (T.str z,t2) = 2 * (fillT m (.str z)).sz + 1 := by
        unfold wt
        dsimp only
        rw [o1,Bool.true_or,if_pos rfl]
      rw [this]
      exact a2
  have o1 : openT t1 = false := by
    cases h : openT t1 with
    | false=>rfl
    | true=>exact absurd h c1
  refine ⟨_,rfl,jo,dx,_,rfl,J.ob,jn1 _ _,_,rfl,jo,dx,b,g,kvs,bnd,v2,some t2,rfl,J,r2,_,rfl,?_⟩
  refine ite2 (fun c2=>?_) (fun c2=>?_)
  · have o2 : openT t2 = true := c2
    obtain ⟨z,rfl⟩ := open_str o2
    have ez := en2 o2 z rfl
    have vz : Vin z (.str z) := vin_str.mpr ⟨rfl,o2⟩
    have zU := po.g2.2 z vz
    have lz := vin_len po.g2.1 vz
    have e : t1 ≠ .str z := fun e=>by rw [e,o2] at o1; cases o1
    have eo : openT t1 = true → isEnd bnd t1 := fun h=>by rw [o1] at h; cases h
    cases r2 with
    | str _ hz =>
    refine ⟨_,rfl,jo,dx,_,rfl,J.ob,jn3 _ _,_,rfl,_,rfl,jo,dx,b,g,kvs,bnd,z,v1,t1,n,U,m,rk,rfl,J,B,SB,r1,po.g1,po.s1,o2,zU,lz,po.th,e,eo,by omega,lU,fun l kvs' ps prs H' kb J' hl0 hl' rp hw=>?_⟩
    obtain ⟨rk',B'⟩ := bind_ok B po.g1 po.th e eo o2 zU lz
    obtain ⟨a1,a2⟩ := bind_step B SB ez zU po.g1 po.s1 po.th (s := t1) hw
    refine q l kvs' _ ps prs rk' H' kb J' B' (szb_put SB po.s1) (kn_put kn) hl0 hl' rp a1 ?_ (fun s h hp=>bind_back hw h hp)
    have : wt m (t1,T.str z) = 2 * (fillT m (.str z)).sz + 1 := by
      unfold wt
      dsimp only
      rw [o2,Bool.or_true,if_pos rfl,po.th]
    rw [this]
    exact a2
  have o2 : openT t2 = false := by
    cases h : openT t2 with
    | false=>rfl
    | true=>exact absurd h c2
  obtain ⟨z,k1,k2,eh1,eh2,em,l3,lt,sz1,sz2,gd1,gd2⟩ := heads_same vm po.g1.1 po.g2.1 o1 o2 po.th
  have lk : k1.length = k2.length := by have := congrArg List.length em; simpa using this
  refine ⟨_,rfl,v1,t1,n,rfl,r1,po.g1.1,fun a1 xs1 H3 s3 ha1 ra1=>?_⟩
  rw [eh1] at ra1
  refine ⟨_,rfl,v2,t2,n,rfl,r2.same s3,po.g2.1,fun a2 xs2 H4 s4 ha2 ra2=>?_⟩
  rw [eh2] at ra2
  have ra1' := ra1.same s4
  have ha1' := s4 _ _ ha1
  cases ra1' with
  | @cons x0 _ xr _ rx0 rxr =>
    cases ra2 with
    | @cons y0 _ yr _ ry0 ryr =>
      cases rx0
      cases ry0
      have lx := rxr.length
      have ly := ryr.length
      have s24 := s3.trans s4
      refine ⟨_,rfl,_,rfl,a1,a2,z,z,xr,yr,rfl,ha1',ha2,fun hq=>⟨true,rfl,iteT ?_⟩,fun hq=>absurd ⟨by omega,rfl⟩ hq⟩
      refine ⟨_,rfl,1,rfl,a1,_,rfl,SqT.of ha1',cutq_not (vs := V.str z :: xr) (n := 1) (by simp) (Nat.le_refl _),fun p5 hp5=>?_⟩
      rw [show cutV (V.str z :: xr) (some 1) none = xr from cutq (V.str z :: xr) 1]
      have s5 := same_new hp5 (.tup xr)
      refine ⟨_,rfl,1,rfl,a2,_,rfl,SqT.of (s5 _ _ ha2),cutq_not (vs := V.str z :: yr) (n := 1) (by simp) (Nat.le_refl _),fun p6 hp6=>?_⟩
      rw [show cutV (V.str z :: yr) (some 1) none = yr from cutq (V.str z :: yr) 1]
      have s6 := same_new hp6 (.tup yr)
      refine ⟨p5,p6,xr,yr,rfl,s6 _ _ upd_same,upd_same,hq.1,fun l7 ps H7 s7 hl7 hl77 lps hps=>?_⟩
      have s57 := (s5.trans s6).trans s7
      have s27 := s24.trans s57
      have rnew := rps_zip k1 k2 xr yr ps (rxr.same s57) (ryr.same s57) (by omega) lps hps
      refine q l7 kvs bnd _ (k1.zip k2) rk H7 (fun c o _ h=>s27 _ _ h) (J.same s27) B SB kn ((s24.trans (s5.trans s6)).free hl7) hl77 rnew (zip_ok (fun k hk=>⟨gd1 U po.g1 k hk,Nat.le_trans (sz1 k hk) po.s1⟩) (fun k hk=>⟨gd2 U po.g2 k hk,Nat.le_trans (sz2 k hk) po.s2⟩) em) ?_ (fun s h hp=>⟨h,heads_fill po.g1.1 po.g2.1 eh1 eh2 lk hp⟩)
      have := wts_zip m k1 k2
      have lt' : 2 * szs (k1.map (fillT m)) + k1.length < 2 * (fillT m t1).sz := lt
      have hw : 2 * (fillT m t1).sz ≤ wt m (t1,t2) := by unfold wt; dsimp only; omega
      omega
end
end Fw
set_option Elab.async false
set_option linter.all false
set_option maxRecDepth 100000
namespace Fw
open PySem PySem.Spec PyProof.Rows L2
theorem szsLe {m : List (Str × T)} : ∀ {ks : List T},(∀ k ∈ ks,k.sz ≤ (fillT m k).sz) → szs ks ≤ szs (ks.map (fillT m))
  | [],_=>Nat.le_refl _
  | k :: ks,h=>by
    have := szsLe (m := m) (ks := ks) fun x hx=>h x (List.mem_cons_of_mem _ hx)
    have := h k List.mem_cons_self
    show k.sz + szs ks ≤ (fillT m k).sz + szs (ks.map (fillT m))
    omega
theorem szFill {m : List (Str × T)} {n : Nat} {t : T} (k : KD n t) : t.sz ≤ (fillT m t).sz := by
  induction k with
  | leaf hz=>exact sz_pos _
  | @tup j z ks nz k1 k3 hk ih =>
    rw [fillT_tup]
    have := szsLe (m := m) ih
    show 1 + (1 + szs ks) ≤ 1 + (1 + szs (ks.map (fillT m)))
    omega
theorem wts_len (m : List (Str × T)) : ∀ ts : List (T × T),ts.length ≤ wts m ts
  | []=>Nat.le_refl _
  | p :: ts=>by
    have := wts_len m ts
    have sp := sz_pos (fillT m p.1)
    show ts.length + 1 ≤ wt m p + wts m ts
    unfold wt
    omega
def spPair (C : Addr) : Sp := fun vs H Q _=>∃ (jo dx b f : Addr) (kvs : List (Key × V)) (bnd : List (Str × T)) (v1 v2 : V) (t1 t2 : T) (n : Nat) (U : List Str) (m : List (Str × T)) (rk : Str → Nat),vs = [.ref jo,v1,v2] ∧ JO C H jo dx b f kvs bnd ∧ BOk n U m bnd rk ∧ SzB bnd ∧ KN bnd ∧ Rep H v1 t1 ∧ Rep H v2 t2 ∧ PrOk n U m (t1,t2) ∧
  VarsM m ∧ U.length ≤ 200 ∧ n ≤ 60 ∧ wt m (t1,t2) + U.length ≤ 200000 ∧
  ∀ (kvs' : List (Key × V)) (bnd' : List (Str × T)) (rk' : Str → Nat) H',KeepB b H H' → JO C H' jo dx b f kvs' bnd' → BOk n U m bnd' rk' → SzB bnd' → KN bnd' → (∀ s,Resp s bnd' → Resp s bnd ∧ fillT s t1 = fillT s t2) → Q (.bl true) H'
theorem back_step {s b4 b3 b1 : List (Str × T)} {s' t' sT tT : T} {X : Prop} (h5 : Resp s b4 ∧ fillT s s' = fillT s t') (h4 : Resp s b4 → Resp s b3 ∧ fillT s t' = fillT s tT) (h3 : Resp s b3 → Resp s b1 ∧ fillT s s' = fillT s sT) (go : Resp s b1 → fillT s sT = fillT s tT → X) : X :=
  go (h3 (h4 h5.1).1).1 (by rw [← (h3 (h4 h5.1).1).2,← (h4 h5.1).2]; exact h5.2)
theorem nE_le (U : List Str) (bnd : List (Str × T)) : nE U bnd ≤ U.length := List.length_filter_le _ _
section
variable {P : Program} {w : World} {K : PySem.W.Frag} {mg : Str → Option Value} {base : Heap} {f : Addr} {fd : FuncData} {C : Addr}
theorem sc_jpair : FnScope ["self","one","other","waiting","pair","more"] ["self","one","other"] (defScope (jm 5)) := ⟨rfl,rfl,rfl,by decide +kernel,rfl,by decide +kernel,by decide +kernel⟩
set_option maxHeartbeats 2000000 in
theorem ok_jpair {fE fJ : Addr} {gE gJ : FuncData} (F : Fun K "join_pair" "Joins.join_pair" (jm 5) f fd) (Tx : TxJ K C) (ME : Meth K C "end_of" fE) (GE : FnOk P w K mg base CX0 3 fE gE ["self","kind"] (spEnd C)) (bE : Binds K gE ["self","kind"] [])
    (MJ : Meth K C "join_ends" fJ) (GJ : FnOk P w K mg base CX0 6 fJ gJ ["self","one","other"] (spEnds2 C)) (bJ : Binds K gJ ["self","one","other"] []) (ml : mg "len" = none) : FnOk P w K mg base CX0 7 f fd ["self","one","other"] (spPair C) := by
  refine F.ok sc_jpair (fun vs H Q E h=>?_) (fun cdv A outer s H vs Q E hr h=>?_)
  · obtain ⟨jo,dx,b,g,kvs,bnd,v1,v2,t1,t2,n,U,m,rk,rfl,_⟩ := h
    rfl
  obtain ⟨jo,dx,b,g,kvs,bnd,v1,v2,t1,t2,n,U,m,rk,rfl,J,B,SB,kn,r1,r2,po,vm,lU,n60,mx,q⟩ := h
  have hr3 : Room 3 _ := hr.mono (by decide)
  refine ⟨_,pss_cons (ps_set (i := 3) sc_jpair.nd rfl (Or.inl rfl) (pe_lst (pa_cons (pe_tup (pa_cons (pv 1) (pa_cons (pv 2) pa_nil))) pa_nil)))
    (pss_cons (ps_while PassesOwn.never (pt_cmpR op_gt (pe_callB call_len_seq rfl ml PySem.boot_len (pa_cons (pv 3) pa_nil)) pe_int (nomark _))
      (pss_cons (ps_set (i := 4) sc_jpair.nd rfl (Or.inl rfl) (pe_bm0 PySem.F.plainAttrs_list PySem.F.slot_list_pop PySem.F.type_list_pop mt_pop (pv 3)))
      (pss_cons (ps_set (i := 5) sc_jpair.nd rfl (Or.inl rfl) (pe_meth (pv 0) Tx.cl MJ GJ hr bJ .nil pass0 (pa_cons (pe_meth (pv 0) Tx.cl ME GE hr3 bE .nil pass0 (pa_cons (pe_ix ix_tup (pv 4) pe_int (fun _ _=>rfl)) pa_nil)) (pa_cons (pe_meth (pv 0) Tx.cl ME GE hr3 bE .nil pass0 (pa_cons (pe_ix ix_tup (pv 4) pe_int (fun _ _=>rfl)) pa_nil)) pa_nil))))
      (pss_cons (ps_if (pt_cmp (pc_isN (pv 5))) (pss_one (ps_ret pe_bl)) pss_nil)
      (pss_one (ps_expr (pe_bm PySem.F.plainAttrs_list PySem.F.slot_list_extend PySem.F.type_list_extend mt_extend (pv 3) (pa_cons (pv 5) pa_nil))))))))
    (pss_one (ps_ret pe_bl))),?_⟩
  refine ⟨_,rfl,_,rfl,small (by show 2 ≤ 1000000; decide),fun p hp=>⟨small (by show 1 ≤ 1000000; decide),fun lw hlw=>?_⟩⟩
  have s1 := same_new hp (.tup [v1,v2])
  have s2 := same_new hlw (.lst [.ref p])
  have s12 := s1.trans s2
  have f3 : H lw = none := s1.free hlw
  have nlb : lw ≠ b := Ne.symm (ne_of_none J.hb f3)
  refine ⟨fun M σ H'=>∃ (o4 o5 : Option V) (vs : List V) (ts : List (T × T)) (kvs' : List (Key × V)) (bnd' : List (Str × T)) (rk' : Str → Nat),σ = [some (.ref jo),some v1,some v2,some (.ref lw),o4,o5] ∧ KeepB b H H' ∧ JO C H' jo dx b g kvs' bnd' ∧ BOk n U m bnd' rk' ∧ SzB bnd' ∧ KN bnd' ∧ (∀ s,Resp s bnd' → (∀ p ∈ ts,fillT s p.1 = fillT s p.2) → Resp s bnd ∧ fillT s t1 = fillT s t2) ∧
      H' lw = some (.lst vs) ∧ Reps H' vs (ts.reverse.map pT) ∧ (∀ p ∈ ts,PrOk n U m p) ∧ wts m ts + nE U bnd' ≤ 200000 ∧ M = wts m ts + nE U bnd',
    ⟨_,none,none,[.ref p],[(t1,t2)],kvs,bnd,rk,rfl,fun c o _ h=>s12 _ _ h,J.same s12,B,SB,kn,(fun s h hp=>⟨h,hp (t1,t2) List.mem_cons_self⟩),upd_same, .cons (.tup (s2 _ _ upd_same) (.cons (r1.same s12) (.cons (r2.same s12) .nil))) .nil,fun p' hp'=>by rw [List.mem_singleton.mp hp']; exact po,?_,rfl⟩,?_⟩
  · have := nE_le U bnd
    show wt m (t1,t2) + 0 + nE U bnd ≤ 200000
    omega
  rintro M σ H1 ⟨o4,o5,vs,ts,kvs',bnd',rk',rfl,kb,J1,B1,SB1,kn1,bk1,hw1,rw1,pk,mx1,rfl⟩
  refine ⟨_,rfl,lw,vs,rfl, .inl (SqL.of hw1),_,_,rfl,rfl,_,rfl,?_⟩
  refine ite2 (fun c=>?_) (fun c=>?_)
  · have c1 : (0 : Int) < vs.length := of_decide_eq_true c
    have lts := rw1.length
    rw [List.length_map,List.length_reverse] at lts
    cases ts with
    | nil=>rw [lts] at c1; simp at c1
    | cons pr us =>
      obtain ⟨sT,tT⟩ := pr
      rw [rev_pT] at rw1
      obtain ⟨ws,vl,rfl,hws,hvl⟩ := rw1.split
      cases hvl with
      | @cons v' _ _ _ hv' hn =>
        cases hn
        have pk0 := pk _ List.mem_cons_self
        have pus : ∀ p ∈ us,PrOk n U m p := fun p hp=>pk p (List.mem_cons_of_mem _ hp)
        have w1 : wts m ((sT,tT) :: us) = wt m (sT,tT) + wts m us := rfl
        have wge : 2 * (fillT m sT).sz ≤ wt m (sT,tT) := by unfold wt; dsimp only; omega
        have lus := hws.length
        rw [List.length_map,List.length_reverse] at lus
        have lwt := wts_len m us
        refine ⟨_,fun _ _ h=>h,?_⟩
        refine ⟨_,rfl, .inl ⟨rfl,_,SqL.of hw1⟩,lw,ws ++ [v'],v',rfl,rfl,hw1,by simp,?_⟩
        rw [List.dropLast_concat]
        have k2 : ∀ c o,c ≠ lw → H1 c = some o → (upd H1 lw (.lst ws)) c = some o := fun c o nc h=>by rw [upd_ne nc]; exact h
        have tups2 : ∀ c xs,H1 c = some (.tup xs) → (upd H1 lw (.lst ws)) c = some (.tup xs) := fun c xs h=>k2 _ _ (ne_of h hw1 (by intro z; cases z)) h
        have J2 : JO C (upd H1 lw (.lst ws)) jo dx b g kvs' bnd' := ⟨k2 _ _ (ne_of J1.ob hw1 (by intro z; cases z)) J1.ob,k2 _ _ (Ne.symm nlb) J1.hb,k2 _ _ (ne_of J1.hf hw1 (by intro z; cases z)) J1.hf,J1.dr.mono tups2,J1.ne⟩
        have hw2 : (upd H1 lw (.lst ws)) lw = some (.lst ws) := upd_same
        have kb2 : KeepB b H (upd H1 lw (.lst ws)) := fun c o nc h=>k2 _ _ (ne_of_none h f3) (kb c o nc h)
        have rv2 := hv'.mono tups2
        have hws2 := hws.mono tups2
        revert k2 tups2 J2 hw2 kb2 rv2 hws2
        generalize upd H1 lw (.lst ws) = H2
        intro k2 tups2 J2 hw2 kb2 rv2 hws2
        cases rv2 with
        | @tup pa vv _ hpa rr =>
          cases rr with
          | @cons x _ _ _ rx rr2 =>
            cases rr2 with
            | @cons y _ _ _ ry rr3 =>
              cases rr3
              have lnb := kn_len B1 kn1
              refine ⟨_,rfl,jo,dx,_,rfl,J2.ob,jn4 _ _,_,rfl,jo,dx,_,rfl,J2.ob,jn2 _ _,_,rfl,pa,_,0,x,rfl,rfl,SqT.of hpa,atI_nat (j := 0) rfl,jo,dx,b,g,kvs',bnd',x,sT,n,U,m,rk',rfl,J2,B1,rx,pk0.g1,n60,by omega,fun x' s' kv3 bn3 H3 kb3 J3 rx3 E3=>?_⟩
              have tu3 := kb3.tups J2.hb
              have lnb3 := kn_len E3.bo (E3.kn kn1)
              refine ⟨_,rfl,jo,dx,_,rfl,J3.ob,jn2 _ _,_,rfl,pa,_,1,y,rfl,rfl,SqT.of (tu3 _ _ hpa),atI_nat (j := 1) rfl,jo,dx,b,g,kv3,bn3,y,tT,n,U,m,rk',rfl,J3,E3.bo,ry.mono tu3,pk0.g2,n60,by omega,fun y' t' kv4 bn4 H4 kb4 J4 ry4 E4=>?_⟩
              have tu4 := kb4.tups J3.hb
              have ne4 : nE U bn4 = nE U bnd' := by rw [nE_same E4.sv,nE_same E3.sv]
              have th' : fillT m s' = fillT m t' := by rw [E3.th,E4.th]; exact pk0.th
              have po4 : PrOk n U m (s',t') := ⟨E3.gd,E4.gd,th',by have h1 := szFill (m := m) E3.gd.1; rw [E3.th] at h1; show s'.sz ≤ 100000; omega,by have h1 := szFill (m := m) E4.gd.1; rw [← th',E3.th] at h1; show t'.sz ≤ 100000; omega⟩
              have wle : wt m (s',t') ≤ wt m (sT,tT) := by
                unfold wt
                dsimp only
                rw [E3.th]
                have fl : (openT s' || openT t') = true → (openT sT || openT tT) = true := fun h=>by
                  cases a : openT sT with
                  | true=>rfl
                  | false =>
                    cases b' : openT tT with
                    | true=>rfl
                    | false=>rw [E3.cl a,E4.cl b',a,b'] at h; cases h
                by_cases c5 : (openT s' || openT t') = true
                · rw [if_pos c5,if_pos (fl c5)]; exact Nat.le_refl _
                · rw [if_neg c5]; omega
              have SB4 : SzB bn4 := fun z k hk=>by
                cases ok : openT k with
                | true=>obtain ⟨z',rfl⟩ := open_str ok; show 1 ≤ 100000; decide
                | false=>exact SB1 z k (((E3.sv z).2 k ok).mpr (((E4.sv z).2 k ok).mpr hk))
              refine ⟨jo,dx,b,g,kv4,bn4,x',y',s',t',n,U,m,rk',rfl,J4,E4.bo,SB4,E4.kn (E3.kn kn1),rx3.mono tu4,ry4,po4,fun o z ez hv=>E3.en o z ez ((E4.sv z).1.mpr hv),E4.en,vm,lU,fun l kv5 bn5 ps prs rk5 H5 kb5 J5 B5 SB5 kn5 hl0 hl5 rp5 pk5 lt5 bk5=>?_⟩
              refine ⟨_,rfl,_,rfl,iteF ?_⟩
              have tu5 := kb5.tups J4.hb
              have kb25 : ∀ c o,c ≠ b → H2 c = some o → H5 c = some o := fun c o nc h=>kb5 _ _ nc (kb4 _ _ nc (kb3 _ _ nc h))
              have hw5 := kb25 _ _ nlb hw2
              have lps := rp5.length
              rw [List.length_map] at lps
              have lwp := wts_len m prs
              refine ⟨_,rfl, .inl ⟨rfl,_,SqL.of hw5⟩,_,rfl,lw,l,ws,ps,rfl,rfl,hw5,hl5,small (by omega),?_⟩
              have k6 : ∀ c o,c ≠ lw → H5 c = some o → (upd H5 lw (.lst (ws ++ ps))) c = some o := fun c o nc h=>by rw [upd_ne nc]; exact h
              have tu6 : ∀ c xs,H5 c = some (.tup xs) → (upd H5 lw (.lst (ws ++ ps))) c = some (.tup xs) := fun c xs h=>k6 _ _ (ne_of h hw5 (by intro z; cases z)) h
              have wn : wts m (prs.reverse ++ us) = wts m prs + wts m us := by rw [wts_app,wts_rev]
              refine ⟨wts m (prs.reverse ++ us) + nE U bn5,by rw [wn,w1]; omega,_,_,ws ++ ps,prs.reverse ++ us,kv5,bn5,rk5,rfl,fun c o nc h=>k6 _ _ (ne_of_none h f3) (kb25 _ _ nc (kb2 c o nc h)),⟨k6 _ _ (ne_of J5.ob hw5 (by intro z; cases z)) J5.ob,k6 _ _ (Ne.symm nlb) J5.hb,k6 _ _ (ne_of J5.hf hw5 (by intro z; cases z)) J5.hf,J5.dr.mono tu6,J5.ne⟩,B5,SB5,kn5,(fun s h hp=>back_step (bk5 s h fun p hp'=>hp p (List.mem_append_left _ (List.mem_reverse.mpr hp'))) (E4.bk s) (E3.bk s) fun r e=>bk1 s r fun p hp'=>by
                rcases List.mem_cons.mp hp' with e' | e'
                · rw [e']; exact e
                · exact hp p (List.mem_append_right _ e')),upd_same,?_,fun p' hp'=>?_,by rw [wn]; rw [w1] at mx1; omega,rfl⟩
              · rw [rev_zT]
                exact ((((hws2.mono tu3).mono tu4).mono tu5).mono tu6).append (rp5.mono tu6)
              · rcases List.mem_append.mp hp' with h | h
                · exact pk5 p' (List.mem_reverse.mp h)
                · exact pus p' h
  · have lts := rw1.length
    rw [List.length_map,List.length_reverse] at lts
    have e0 : ts = [] := List.length_eq_zero_iff.mp (by have c1 : ¬ ((0 : Int) < vs.length) := fun z=>c (decide_eq_true z); omega)
    exact q kvs' bnd' rk' H1 kb J1 B1 SB1 kn1 fun s h=>bk1 s h fun p hp=>by rw [e0] at hp; cases hp
end
end Fw
set_option Elab.async false
set_option linter.all false
set_option maxRecDepth 100000
namespace Fw
open PySem PySem.Spec PyProof.Rows L2
theorem mem_put {m : List (Str × T)} {z : Str} {t : T} {x : Str × T} (h : x ∈ putT m z t) : x ∈ m ∨ x = (z,t) := by
  unfold putT at h
  split at h
  · obtain ⟨p,hp,e⟩ := List.mem_map.mp h
    by_cases c : p.1 = z
    · rw [if_pos c] at e
      rw [← e,c]
      exact .inr rfl
    · rw [if_neg c] at e
      rw [← e]
      exact .inl hp
  · rcases List.mem_append.mp h with h | h
    · exact .inl h
    · exact .inr (List.mem_singleton.mp h)
def Told (n : Nat) (m mo : List (Str × T)) : Prop := ∀ x ∈ mo,KD n x.2 ∧ fillT m x.2 = fillT m (.str x.1) ∧ openT (.str x.1) = true
theorem fill_told {n j : Nat} {m mo : List (Str × T)} (h : Told n m mo) {t : T} (k : KD j t) : fillT m (fillT mo t) = fillT m t := by
  induction k with
  | @leaf _ z hz =>
    rw [fillT_str mo]
    cases e : mo.lookup z with
    | none=>rfl
    | some t'=>exact (h _ (lookup_mem e)).2.1
  | @tup j z ks nz k1 k3 hk ih =>
    rw [fillT_tup,fillT_tup,fillT_tup,List.map_map]
    congr 1
    congr 1
    exact List.map_congr_left fun k hk'=>ih k hk'
theorem kd_unfill {m : List (Str × T)} : ∀ {j : Nat} {t : T},KD j t → ∀ {n : Nat},KD n (fillT m t) → KD n t := by
  intro j t k
  induction k with
  | leaf hz=>intro n _; exact .leaf hz
  | @tup j z ks nz k1 k3 hk ih =>
    intro n h
    rw [fillT_tup] at h
    cases h with
    | @tup n' _ _ nz' _ _ hk'=>exact .tup nz k1 k3 fun k mk=>ih k mk (hk' _ (List.mem_map.mpr ⟨k,mk,rfl⟩))
theorem fill_put_not {m : List (Str × T)} {z : Str} {t0 : T} (oz : openT (.str z) = true) {n : Nat} {t : T} (k : KD n t) (h : ¬ Vin z t) : fillT (putT m z t0) t = fillT m t := by
  induction k with
  | @leaf _ y hy =>
    rw [fillT_str,fillT_str,look_put]
    by_cases e : y = z
    · subst e; exact absurd (vin_str.mpr ⟨rfl,oz⟩) h
    · rw [if_neg e]
  | @tup j y ks nz k1 k3 hk ih =>
    rw [fillT_tup,fillT_tup]
    congr 2
    exact List.map_congr_left fun x hx=>ih x hx fun hv=>h (vin_tup.mpr ⟨x,hx,hv⟩)
theorem vin_fill {m : List (Str × T)} (hm : ∀ x ∈ m,openT (.str x.1) = true) {y : Str} {n : Nat} {t : T} (k : KD n t) : Vin y (fillT m t) → ∃ x,Vin x t ∧ Vin y (fillT m (.str x)) := by
  induction k with
  | @leaf _ z hz =>
    intro h
    by_cases o : openT (.str z) = true
    · exact ⟨z,vin_str.mpr ⟨rfl,o⟩,h⟩
    · rw [fillT_str,lookup_no fun x hx e=>o (by rw [← e]; exact hm x hx)] at h
      exact absurd (vin_str.mp h).2 (fun q=>o q)
  | @tup j z ks nz k1 k3 hk ih =>
    intro h
    rw [fillT_tup,vin_tup] at h
    obtain ⟨x,hx,hv⟩ := h
    obtain ⟨k,hk',rfl⟩ := List.mem_map.mp hx
    obtain ⟨x,h1,h2⟩ := ih k hk' hv
    exact ⟨x,vin_tup.mpr ⟨k,hk',h1⟩,h2⟩
structure Wh (U : List Str) (bnd mo : List (Str × T)) (zs : List Str) : Prop where
  ks : ∀ x ∈ mo,x.1 ∈ zs ∧ ∃ k,bnd.lookup x.1 = some k
  eq : ∀ z ∈ zs,∀ k,bnd.lookup z = some k → mo.lookup z = some (fillT mo k)
  fr : ∀ z ∈ zs,∀ k,bnd.lookup z = some k → ∀ y,Vin y (fillT mo k) → bnd.lookup y = none
  un : ∀ x ∈ mo,∀ y,Vin y x.2 → y ∈ U
  kn : KN mo
theorem Wh.skip {U : List Str} {bnd mo : List (Str × T)} {zs : List Str} {z : Str} (w : Wh U bnd mo zs) (h : bnd.lookup z = none) : Wh U bnd mo (zs ++ [z]) := by
  have hz : ∀ x ∈ zs ++ [z],∀ k,bnd.lookup x = some k → x ∈ zs := fun x hx k hk=>by
    rcases List.mem_append.mp hx with e | e
    · exact e
    · rw [List.mem_singleton.mp e,h] at hk; cases hk
  exact ⟨fun x hx=>⟨List.mem_append_left _ (w.ks x hx).1,(w.ks x hx).2⟩,fun x hx k hk=>w.eq x (hz x hx k hk) k hk,fun x hx k hk=>w.fr x (hz x hx k hk) k hk,w.un,w.kn⟩
theorem Wh.put {n : Nat} {U : List Str} {m bnd mo : List (Str × T)} {rk : Str → Nat} {zs : List Str} {z : Str} {k : T} (B : BOk n U m bnd rk) (w : Wh U bnd mo zs) (nz : z ∉ zs) (hz : bnd.lookup z = some k) (ck : ∀ y,Vin y k → y ∈ zs) (cz : ∀ x ∈ zs,∀ k',bnd.lookup x = some k' → ∀ y,Vin y k' → y ∈ zs) : Wh U bnd (putT mo z (fillT mo k)) (zs ++ [z]) := by
  have oz := (B.op z k hz).1
  have hop : ∀ x ∈ mo,openT (.str x.1) = true := fun x hx=>by
    obtain ⟨k',hk'⟩ := (w.ks x hx).2
    exact (B.op _ k' hk').1
  have nk : fillT (putT mo z (fillT mo k)) k = fillT mo k := fill_put_not oz (B.gd z k hz).1 fun hv=>nz (ck z hv)
  have nk' : ∀ x ∈ zs,∀ k',bnd.lookup x = some k' → fillT (putT mo z (fillT mo k)) k' = fillT mo k' := fun x hx k' hk'=>fill_put_not oz (B.gd x k' hk').1 fun hv=>nz (cz x hx k' hk' z hv)
  have vk : ∀ y,Vin y (fillT mo k) → bnd.lookup y = none ∧ y ∈ U := fun y hy=>by
    obtain ⟨x,h1,h2⟩ := vin_fill hop (B.gd z k hz).1 hy
    have xz := ck x h1
    rw [fillT_str] at h2
    cases hl : mo.lookup x with
    | some tx =>
      rw [hl] at h2
      have hm := lookup_mem hl
      obtain ⟨kx,hkx⟩ := (w.ks _ hm).2
      have e := w.eq x xz kx hkx
      rw [hl] at e
      injection e with e
      have h2' : Vin y tx := h2
      refine ⟨w.fr x xz kx hkx y (by rw [← e]; exact h2'),w.un _ hm y h2'⟩
    | none =>
      rw [hl] at h2
      have e := (vin_str.mp (show Vin y (.str x) from h2)).1
      subst e
      refine ⟨?_,(B.gd z k hz).2 y h1⟩
      cases hb : bnd.lookup y with
      | none=>rfl
      | some kx=>rw [w.eq y xz kx hb] at hl; cases hl
  refine ⟨fun x hx=>?_,fun x hx k' hk'=>?_,fun x hx k' hk'=>?_,fun x hx=>?_,kn_put w.kn⟩
  · rcases mem_put hx with h | h
    · exact ⟨List.mem_append_left _ (w.ks x h).1,(w.ks x h).2⟩
    · rw [h]; exact ⟨List.mem_append_right _ List.mem_cons_self,k,hz⟩
  · rw [look_put]
    by_cases e : x = z
    · subst e
      rw [hz] at hk'
      cases hk'
      rw [if_pos rfl,nk]
    · have hx' : x ∈ zs := (List.mem_append.mp hx).resolve_right fun h=>e (List.mem_singleton.mp h)
      rw [if_neg e,nk' x hx' k' hk',w.eq x hx' k' hk']
  · by_cases e : x = z
    · subst e
      rw [hz] at hk'
      cases hk'
      rw [nk]
      exact fun y hy=>(vk y hy).1
    · have hx' : x ∈ zs := (List.mem_append.mp hx).resolve_right fun h=>e (List.mem_singleton.mp h)
      rw [nk' x hx' k' hk']
      exact w.fr x hx' k' hk'
  · rcases mem_put hx with h | h
    · exact w.un x h
    · rw [h]; exact fun y hy=>(vk y hy).2
def spWhole (C Pt : Addr) : Sp := fun vs H Q _=>∃ (jo dx b f lo lb : Addr) (kvs : List (Key × V)) (bnd : List (Str × T)) (zs : List Str) (n : Nat) (U : List Str) (m : List (Str × T)) (rk : Str → Nat),vs = [.ref jo, .ref lo, .ref lb] ∧ JO C H jo dx b f kvs bnd ∧ BOk n U m bnd rk ∧ SzB bnd ∧ H lo = some (.lst (zs.map V.str)) ∧ H lb = some (.dK []) ∧
  zs.length ≤ 1000 ∧ zs.Nodup ∧ Closed bnd zs ∧ TbOk Pt lamQ lamP H ∧ (∀ z,z.length ≤ 80 → KD n (fillT m (.str z))) ∧ ∀ (d : Addr) (kd : List (Key × V)) (mo : List (Str × T)) H',SameT H H' → TbOk Pt lamQ lamP H' → H d = none → H' d = some (.dK kd) → DReps H' kd mo → Told n m mo → mo.length ≤ 1000 → Wh U bnd mo zs → Q (.ref d) H'
section
variable {P : Program} {w : World} {K : PySem.W.Frag} {mg : Str → Option Value} {base : Heap} {f : Addr} {fd : FuncData} {C Pt : Addr}
theorem sc_jwhole : FnScope ["self","order","by","told","variable"] ["self","order","by"] (defScope (jm 8)) := ⟨rfl,rfl,rfl,by decide +kernel,rfl,by decide +kernel,by decide +kernel⟩
theorem tb_upd {H : Hp} {d : Addr} {k k' : List (Key × V)} (h : TbOk Pt lamQ lamP H) (hd : H d = some (.dK k)) : TbOk Pt lamQ lamP (upd H d (.dK k')) := by
  have nt : ∀ {a : Addr} {o : HO},H a = some o → (∀ k,o ≠ .dK k) → a ≠ d := fun ha hn e=>by rw [e,hd] at ha; exact hn _ (Option.some.inj ha).symm
  rcases h with h | ⟨c',oc,h1,h2,h3⟩
  · exact .inl (by rw [upd_ne (nt h (by intro k z; cases z))]; exact h)
  · refine .inr ⟨c',oc,by rw [upd_ne (nt h1 (by intro k z; cases z))]; exact h1,?_,h3⟩
    rw [upd_ne (nt h2 (by
      intro k z
      have z' : HO.ext _ = HO.dK k := z
      cases z'))]
    exact h2
set_option maxHeartbeats 2000000 in
theorem ok_jwhole (F : Fun K "whole" "Joins.whole" (jm 8) f fd) (Tx : TxJ K C) (mD : mg "dict" = none) (h1 : Has P w K mg base 4 "put" ["kind","by"] (spPut Pt)) : FnOk P w K mg base CX0 5 f fd ["self","order","by"] (spWhole C Pt) := by
  refine F.ok sc_jwhole (fun vs H Q E h=>?_) (fun cdv A outer s H vs Q E hr h=>?_)
  · obtain ⟨jo,dx,b,g,lo,lb,kvs,bnd,zs,n,U,m,rk,rfl,_⟩ := h
    rfl
  obtain ⟨jo,dx,b,g,lo,lb,kvs,bnd,zs,n,U,m,rk,rfl,J,B,SB,hlo,hlb,lz,ndz,clz,tb,mk,q⟩ := h
  have hu := hu_of hr
  refine ⟨_,pss_cons (ps_set (i := 3) sc_jwhole.nd rfl (Or.inl rfl) (pe_callTy call_dict_d rfl mD boot_dict' (pa_cons (pv 2) pa_nil)))
    (pss_cons (ps_for PassesOwn.never rfl (pi_list (pv 1)) (pg_name (i := 4) sc_jwhole.nd rfl (Or.inl rfl))
      (pss_one (ps_if (pt_cmpR (op_inD hu) (pv 4) (pe_fld (pv 0) rfl) (by with_unfolding_all rfl)) (pss_one (ps_dput hu (pv 3) (pv 4) (pcall h1 hr (by decide) rfl (pa_cons (pe_dget hu (pe_fld (pv 0) rfl) (pv 4) (fun _ _=>rfl)) (pa_cons (pv 3) pa_nil))) rfl)) pss_nil)))
    (pss_one (ps_ret (pv 3)))),?_⟩
  refine ⟨_,rfl,lb,[],rfl,hlb,fun d hd=>?_⟩
  have s1 := same_new hd (.dK [])
  refine ⟨_,rfl,lo,rfl,⟨_,SqL.of (s1 _ _ hlo)⟩,?_⟩
  refine for_list (xs := zs.map V.str) (fun i σ H'=>∃ (o4 : Option V) (kd : List (Key × V)) (mo : List (Str × T)),σ = [some (.ref jo),some (.ref lo),some (.ref lb),some (.ref d),o4] ∧ SameT H H' ∧ TbOk Pt lamQ lamP H' ∧ H' d = some (.dK kd) ∧ DReps H' kd mo ∧ Told n m mo ∧ mo.length ≤ i ∧ Wh U bnd mo (zs.take i))
    ⟨none,[],[],rfl,Same.toT s1,tb.same s1,upd_same, .nil,(fun x hx=>by cases hx),Nat.le_refl _,⟨(fun x hx=>by cases hx),(fun z hz=>by cases hz),(fun z hz=>by cases hz),(fun x hx=>by cases hx),List.nodup_nil⟩⟩ ?_ ?_ ?_
  · rintro i σ H' _ ⟨o4,kd,mo,rfl,st,_⟩
    exact SqL.of (st.lst hlo)
  · rintro i x σ H1 hx ⟨o4,kd,mo,rfl,st,tb1,hd1,dr1,tl,lm,wh⟩
    rw [List.getElem?_map] at hx
    cases hz : zs[i]? with
    | none=>rw [hz] at hx; cases hx
    | some z =>
      rw [hz] at hx
      cases hx
      have li : i < zs.length := (List.getElem?_eq_some_iff.mp hz).1
      have et : zs.take (i + 1) = zs.take i ++ [z] := by rw [List.take_add_one,hz]; rfl
      have ob1 : H1 jo = some (.ins C dx (jfl b g)) := st jo _ (fun ps z=>by cases z) J.ob
      have hb1 := st.dK J.hb
      have drb := J.dr.mono st.tups
      refine ⟨_,rfl,_,rfl,jo,C,dx,_, .ref b,rfl,ob1,Tx.cl,Tx.a1,jf1 _ _,b,_,rfl,DGet.k (k := Sum.inr z) hb1,_,rfl,?_⟩
      rcases drb.get z with ⟨g1,g2⟩ | ⟨v,k,g1,g2,rv⟩
      · rw [g1]
        exact iteF ⟨_,kd,mo,rfl,st,tb1,hd1,dr1,tl,by omega,by rw [et]; exact wh.skip g2⟩
      · rw [g1]
        refine iteT ?_
        obtain ⟨oz,zU,lz80⟩ := B.op z k g2
        have gk := B.gd z k g2
        have opm : ∀ x ∈ mo,Txt.startswith x.1 "?" = true := fun x hx=>(tl x hx).2.2
        refine ⟨_,rfl,jo,C,dx,_, .ref b,rfl,ob1,Tx.cl,Tx.a1,jf1 _ _,_,rfl,b,v,rfl,by have := DGet.k (k := Sum.inr z) hb1; rw [g1] at this; exact this,_,rfl,v,d,k,n,kd,mo,rfl,rv,gk.1,SB z k g2,hd1,dr1,opm,tb1,fun v' H2 st2 tb2 rv2=>?_⟩
        have hd2 := st2.dK hd1
        have dr2 := dr1.mono st2.tups
        have ld := dr2.length
        have fe : fillT m (fillT mo k) = fillT m (.str z) := (fill_told tl gk.1).trans (B.th z k g2)
        have kf : KD n (fillT mo k) := kd_unfill (KD.fill (fun x hx=>(tl x hx).1) gk.1) (by rw [fe]; exact mk z lz80)
        refine ⟨_,rfl,_,rfl,d,_,rfl,DPut.k (k := Sum.inr z) hd2 (small' (by omega)),?_⟩
        have tu3 : ∀ c xs,H2 c = some (.tup xs) → (upd H2 d (.dK (putK kd (Sum.inr z) v'))) c = some (.tup xs) := fun c xs h=>by rw [upd_ne (ne_of h hd2 (by intro z; cases z))]; exact h
        refine ⟨_,putK kd (Sum.inr z) v',putT mo z (fillT mo k),rfl,fun c o no h=>?_,tb_upd tb2 hd2,upd_same,(dr2.mono tu3).put (rv2.mono tu3),fun x hx=>?_,?_,?_⟩
        · rw [upd_ne (ne_of_none h hd)]
          exact st2 _ _ no (st _ _ no h)
        · rcases mem_put hx with h | h
          · exact tl x h
          · rw [h]; exact ⟨kf,fe,oz⟩
        · have := len_put mo z (fillT mo k)
          omega
        · rw [et]
          refine wh.put B (fun h=>?_) g2 (clz i z hz k g2) fun x hx k' hk' y hy=>?_
          · have nd2 : (zs.take (i + 1)).Nodup := ndz.sublist (List.take_sublist _ _)
            rw [et,List.nodup_append] at nd2
            exact nd2.2.2 z h z (by simp) rfl
          · obtain ⟨j,hj,ej⟩ := List.getElem_of_mem hx
            have hj2 : j < i := by rw [List.length_take] at hj; omega
            have hjz : zs[j]? = some x := by
              have : (zs.take i)[j]? = some x := by rw [List.getElem?_eq_getElem hj,ej]
              rw [List.getElem?_take_of_lt hj2] at this
              exact this
            have hy2 := clz j x hjz k' hk' y hy
            have ht : zs.take j = (zs.take i).take j := by rw [List.take_take,Nat.min_eq_left (by omega)]
            rw [ht] at hy2
            exact List.mem_of_mem_take hy2
  · rintro σ H1 ⟨o4,kd,mo,rfl,st,tb1,hd1,dr1,tl,lm,wh⟩
    rw [List.length_map] at lm wh
    rw [List.take_length] at wh
    exact ⟨_,rfl,q d kd mo H1 st tb1 hd hd1 dr1 tl (by omega) wh⟩
end
end Fw
set_option Elab.async false
set_option linter.all false
set_option maxRecDepth 100000
namespace Fw
open PySem PySem.Spec PyProof.Rows L2
theorem keys_reps {H H' : Hp} : ∀ {kvs : List (Key × V)} {m : List (Str × T)},DReps H kvs m → (∀ x ∈ m,x.1.length ≤ 80) → Reps H' (kvs.map fun kv=>kV kv.1) (m.map fun x=>T.str x.1)
  | _,_, .nil,_=>.nil
  | _,_, .cons (z := z) r q,h=>.cons (.str z (by have := h (z,_) List.mem_cons_self; exact Nat.le_trans this (by decide))) (keys_reps q fun x hx=>h x (List.mem_cons_of_mem _ hx))
theorem kn_look {m : List (Str × T)} (h : KN m) {x : Str × T} (hx : x ∈ m) : m.lookup x.1 = some x.2 := by
  induction m with
  | nil=>cases hx
  | cons a m ih =>
    obtain ⟨y,s⟩ := a
    unfold KN at h
    rw [List.map_cons,List.nodup_cons] at h
    rw [List.lookup_cons]
    rcases List.mem_cons.mp hx with e | e
    · subst e; simp
    · have ne : x.1 ≠ y := fun e'=>h.1 (by rw [← e']; exact List.mem_map.mpr ⟨x,e,rfl⟩)
      have : (x.1 == y) = false := beq_false_of_ne ne
      rw [this]
      exact ih h.2 e
structure ToldW (U : List Str) (prs : List (T × T)) (mo : List (Str × T)) : Prop where
  kn : KN mo
  ky : ∀ x ∈ mo,x.1 ∈ U ∧ openT (.str x.1) = true ∧ x.1.length ≤ 80
  un : ∀ x ∈ mo,∀ y,Vin y x.2 → y ∈ U ∧ mo.lookup y = none
  sm : ∀ p ∈ prs,fillT mo p.1 = fillT mo p.2
def spJoined (Pt : Addr) : Sp := fun vs H Q _=>∃ (lp : Addr) (pvs : List V) (prs : List (T × T)) (n : Nat) (U : List Str) (m : List (Str × T)),vs = [.ref lp] ∧ H lp = some (.lst pvs) ∧ Reps H pvs (prs.map pT) ∧ (∀ p ∈ prs,PrOk n U m p ∧ wt m p + U.length ≤ 200000) ∧ VarsM m ∧ U.length ≤ 200 ∧ n ≤ 60 ∧
  TbOk Pt lamQ lamP H ∧ (∀ z,z.length ≤ 80 → KD n (fillT m (.str z))) ∧ ∀ (d : Addr) (kd : List (Key × V)) (mo : List (Str × T)) H',SameT H H' → TbOk Pt lamQ lamP H' → H d = none → H' d = some (.dK kd) → DReps H' kd mo → Told n m mo → mo.length ≤ 1000 → ToldW U prs mo → Q (.ref d) H'
section
variable {P : Program} {w : World} {K : PySem.W.Frag} {mg : Str → Option Value} {base : Heap} {f : Addr} {fd : FuncData} {C Pt : Addr}
abbrev s_joined : Stmt := top 12
theorem sc_joined : FnScope ["pairs","joins","pair"] ["pairs"] (defScope s_joined) := ⟨rfl,rfl,rfl,by decide +kernel,rfl,by decide +kernel,by decide +kernel⟩
set_option maxHeartbeats 2000000 in
theorem ok_joined {fN fP fI fW : Addr} {gN gP gI gW : FuncData} (F : Fun K "joined" "joined" s_joined f fd) (Tx : TxJ K C) (MN : Mk K C fN) (GN : FnOk P w K mg base CX0 1 fN gN ["self"] (spJInit C)) (bN : Binds K gN ["self"] []) (hC : mg "Joins" = some (.ref C))
    (MP : Meth K C "join_pair" fP) (GP : FnOk P w K mg base CX0 7 fP gP ["self","one","other"] (spPair C)) (bP : Binds K gP ["self","one","other"] [])
    (MI : Meth K C "inner_first" fI) (GI : FnOk P w K mg base CX0 4 fI gI ["self","kinds"] (spInner C)) (bI : Binds K gI ["self","kinds"] [])
    (MW : Meth K C "whole" fW) (GW : FnOk P w K mg base CX0 5 fW gW ["self","order","by"] (spWhole C Pt)) (bW : Binds K gW ["self","order","by"] []) (mL : mg "list" = none) : FnOk P w K mg base CX0 8 f fd ["pairs"] (spJoined Pt) := by
  refine F.ok sc_joined (fun vs H Q E h=>?_) (fun cdv A outer s H vs Q E hr h=>?_)
  · obtain ⟨lp,pvs,prs,n,U,m,rfl,_⟩ := h
    rfl
  obtain ⟨lp,pvs,prs,n,U,m,rfl,hlp,rps,pok,vm,lU,n60,tb,mk,q⟩ := h
  have hr2 : Room 2 _ := hr.mono (by decide)
  have hr4 : Room 4 _ := hr.mono (by decide)
  have hr5 : Room 5 _ := hr.mono (by decide)
  refine ⟨_,pss_cons (ps_set (i := 1) sc_joined.nd rfl (Or.inl rfl) (pe_make0 MN GN hr2 rfl hC bN .nil pass0))
    (pss_cons (ps_for PassesOwn.never rfl (pi_list (pv 0)) (pg_name (i := 2) sc_joined.nd rfl (Or.inl rfl))
      (pss_one (ps_if (pt_not (pt_val (pe_meth (pv 1) Tx.cl MP GP hr bP .nil pass0 (pa_cons (pe_ix ix_tup (pv 2) pe_int (fun _ _=>rfl)) (pa_cons (pe_ix ix_tup (pv 2) pe_int (fun _ _=>rfl)) pa_nil))))) (pss_one (ps_ret pe_non)) pss_nil)))
    (pss_one (ps_ret (pe_meth (pv 1) Tx.cl MW GW hr5 bW .nil pass0 (pa_cons (pe_meth (pv 1) Tx.cl MI GI hr4 bI .nil pass0 (pa_cons (pe_callTy (call_list_d rfl) rfl mL boot_list (pa_cons (pe_fld (pv 1) rfl) pa_nil)) pa_nil)) (pa_cons pe_dnewK pa_nil)))))),?_⟩
  intro jo dx hjo hdx njd
  refine ⟨jo,dx,rfl,upd_same,fun b g H1 J1 kp fb=>⟨rfl,?_⟩⟩
  have s1 : Same H H1 := fun c o h=>kp c o (ne_of_none h hjo) (by rw [upd_ne (ne_of_none h hjo),upd_ne (ne_of_none h hdx)]; exact h)
  have fb0 : H b = none := by
    cases hz : H b with
    | none=>rfl
    | some o=>rw [upd_ne (ne_of_none hz hjo),upd_ne (ne_of_none hz hdx),hz] at fb; cases fb
  have hlp1 := s1 _ _ hlp
  have nlp : lp ≠ b := ne_of_none hlp fb0
  refine ⟨_,rfl,lp,rfl,⟨_,SqL.of hlp1⟩,?_⟩
  refine for_list (xs := pvs) (fun i σ H'=>∃ (o2 : Option V) (kvs : List (Key × V)) (bnd : List (Str × T)) (rk : Str → Nat),σ = [some (.ref lp),some (.ref jo),o2] ∧ KeepB b H1 H' ∧ JO C H' jo dx b g kvs bnd ∧ BOk n U m bnd rk ∧ SzB bnd ∧ KN bnd ∧ ∀ s,Resp s bnd → ∀ p ∈ prs.take i,fillT s p.1 = fillT s p.2)
    ⟨none,[],[],fun _=>0,rfl,fun c o _ h=>h,J1,⟨(by intro z k h; cases h),(by intro z k h; cases h),(by intro z k h; cases h),(by intro z k h; cases h)⟩,(by intro z k h; cases h),List.nodup_nil,(fun s _ p hp=>by cases hp)⟩ ?_ ?_ ?_
  · rintro i σ H' _ ⟨o2,kvs,bnd,rk,rfl,kb,_⟩
    exact SqL.of (kb _ _ nlp hlp1)
  · rintro i x σ H2 hx ⟨o2,kvs,bnd,rk,rfl,kb,J2,B2,SB2,kn2,pb2⟩
    obtain ⟨t,ht,rx⟩ := rps.at2 hx
    rw [List.getElem?_map] at ht
    cases hp : prs[i]? with
    | none=>rw [hp] at ht; cases ht
    | some pr =>
      rw [hp] at ht
      cases ht
      obtain ⟨po,wo⟩ := pok pr (List.mem_of_getElem? hp)
      have rx2 := (rx.same s1).mono (kb.tups J1.hb)
      cases rx2 with
      | @tup pa vv _ hpa rr =>
        cases rr with
        | @cons x1 _ _ _ rx1 rr2 =>
          cases rr2 with
          | @cons y1 _ _ _ ry1 rr3 =>
            cases rr3
            refine ⟨_,rfl,jo,dx,_,rfl,J2.ob,jn5 _ _,_,rfl,pa,_,0,x1,rfl,rfl,SqT.of hpa,atI_nat (j := 0) rfl,_,rfl,pa,_,1,y1,rfl,rfl,SqT.of hpa,atI_nat (j := 1) rfl,jo,dx,b,g,kvs,bnd,x1,y1,pr.1,pr.2,n,U,m,rk,rfl,J2,B2,SB2,kn2,rx1,ry1,po,vm,lU,n60,wo,fun kvs' bnd' rk' H3 kb3 J3 B3 SB3 kn3 bk3=>?_⟩
            exact ⟨true,rfl,iteF ⟨_,kvs',bnd',rk',rfl,fun c o nc h=>kb3 _ _ nc (kb _ _ nc h),J3,B3,SB3,kn3,fun s h p hp'=>by
              rw [List.take_add_one,hp] at hp'
              rcases List.mem_append.mp hp' with e | e
              · exact pb2 s (bk3 s h).1 p e
              · have e' : p = pr := by simpa using e
                rw [e']; exact (bk3 s h).2⟩⟩
  · rintro σ H2 ⟨o2,kvs,bnd,rk,rfl,kb,J2,B2,SB2,kn2,pb2⟩
    have lpv := rps.length
    rw [List.length_map] at lpv
    rw [lpv,List.take_length] at pb2
    have s12 : Same H H2 := fun c o h=>kb _ _ (ne_of_none h fb0) (s1 _ _ h)
    refine ⟨_,rfl,jo,dx,_,rfl,J2.ob,jn8 _ _,_,rfl,jo,dx,_,rfl,J2.ob,jn7 _ _,_,rfl,jo,C,dx,_, .ref b,rfl,J2.ob,Tx.cl,Tx.a1,jf1 _ _,b,kvs,rfl,J2.hb,fun l3 h3=>?_⟩
    have s3 := same_new h3 (.lst (kvs.map fun kv=>kV kv.1))
    have kl : ∀ x ∈ bnd,openT (.str x.1) = true ∧ x.1 ∈ U ∧ x.1.length ≤ 80 := fun x hx=>by
      obtain ⟨k,hk⟩ := key_look (m := bnd) (z := x.1) (List.mem_map.mpr ⟨x,hx,rfl⟩)
      exact B2.op _ k hk
    have lnb := kn_len B2 kn2
    refine ⟨jo,dx,b,g,l3,kvs,bnd,_,bnd.map fun x=>T.str x.1,n,U,fun y=>y ∈ U ∧ openT (.str y) = true ∧ y.length ≤ 80,Rlt m rk,rfl,J2.same s3,upd_same,keys_reps J2.dr fun x hx=>(kl x hx).2.2,fun k hk=>?_,by rw [List.length_map]; omega,lU,⟨fun z h=>h.1,fun z h=>h.2,fun z k _ hl y hy=>vin_open (B2.gd z k hl) hy⟩,acy_of B2,fun z k hl=>⟨(B2.gd z k hl).1,SB2 z k hl⟩,fun l4 zs H4 s4 l40 hl4 nd pz clz cov=>?_⟩
    · obtain ⟨x,hx,rfl⟩ := List.mem_map.mp hk
      obtain ⟨o,u,l⟩ := kl x hx
      refine ⟨.leaf l,by show 1 ≤ 100000; decide,fun y hy=>?_⟩
      rw [(vin_str.mp hy).1]
      exact ⟨u,o,l⟩
    · intro d hd
      have s5 := same_new hd (.dK [])
      have s25 := s3.trans (s4.trans s5)
      have lzs : zs.length ≤ U.length := nd_len nd fun z hz=>(pz z hz).1
      have s05 := s12.trans s25
      refine ⟨jo,dx,b,g,l4,d,kvs,bnd,zs,n,U,m,rk,rfl,J2.same s25,B2,SB2,s5 _ _ hl4,upd_same,by omega,nd,clz,tb.same s05,mk,fun d' kd mo H6 st6 tb6 d0 hd6 dr6 tl lm wh=>?_⟩
      have inz : ∀ z k,bnd.lookup z = some k → z ∈ zs := fun z k hl=>by
        have hm := lookup_mem hl
        exact cov (.str z) (List.mem_map.mpr ⟨(z,k),hm,rfl⟩) z (vin_str.mpr ⟨rfl,(B2.op z k hl).1⟩)
      have rs : Resp mo bnd := fun z k hl=>by
        rw [fillT_str mo z,wh.eq z (inz z k hl) k hl]
        rfl
      refine q d' kd mo H6 ((Same.toT s05).trans st6) tb6 (Same.free s05 d0) hd6 dr6 tl lm ⟨wh.kn,fun x hx=>?_,fun x hx y hy=>⟨wh.un x hx y hy,?_⟩,pb2 mo rs⟩
      · obtain ⟨k,hk⟩ := (wh.ks x hx).2
        obtain ⟨a1,a2,a3⟩ := B2.op _ k hk
        exact ⟨a2,a1,a3⟩
      · obtain ⟨hz,k,hk⟩ := wh.ks x hx
        have e1 : mo.lookup x.1 = some x.2 := kn_look wh.kn hx
        have e2 := wh.eq x.1 hz k hk
        rw [e1] at e2
        injection e2 with e2
        have hb := wh.fr x.1 hz k hk y (by rw [← e2]; exact hy)
        cases hl : mo.lookup y with
        | none=>rfl
        | some ty =>
          obtain ⟨k',hk'⟩ := (wh.ks _ (lookup_mem hl)).2
          rw [hb] at hk'
          cases hk'
end
end Fw
set_option Elab.async false
set_option linter.all false
set_option maxRecDepth 100000
namespace Fw
open PySem PySem.Spec PyProof.Rows L2
def spMany : Sp := fun vs H Q _=>∃ (p cl : Addr) (n : Nat),vs = [.ref p] ∧ PotOk H p cl n ∧ n + 2 ≤ 1000000000 ∧ ∀ (k : Nat) H',3 ≤ k → k ≤ 9 → GrowP p cl (n + 2) H H' → Q (.int (k : Int)) H'
section
variable {P : Program} {w : World} {K : PySem.W.Frag} {mg : Str → Option Value} {base : Heap} {f : Addr} {fd : FuncData}
abbrev s_many : Stmt := top 27
theorem sc_many : FnScope ["_law_pot_here"] ["_law_pot_here"] (defScope s_many) := ⟨rfl,rfl,rfl,by decide +kernel,rfl,by decide +kernel,by decide +kernel⟩
theorem ok_many (F : Fun K "_law_many" "_law_many" s_many f fd) (h1 : Has P w K mg base 2 "_law_draw" ["_law_pot_here","_law_many_here"] spDraw) : FnOk P w K mg base CX0 3 f fd ["_law_pot_here"] spMany := by
  refine F.ok sc_many (fun vs H Q E h=>?_) (fun cdv A outer s H vs Q E hr h=>?_)
  · obtain ⟨p,cl,n,rfl,_⟩ := h
    rfl
  obtain ⟨p,cl,n,rfl,hp,hn,q⟩ := h
  refine ⟨_,pss_cons (ps_if (pt_cmpR op_eq (pcall h1 hr (by decide) rfl (pa_cons (pv 0) (pa_cons pe_int pa_nil))) pe_int (nomark _)) (pss_one (ps_ret (pe_op op_add pe_int (pcall h1 hr (by decide) rfl (pa_cons (pv 0) (pa_cons pe_int pa_nil)))))) pss_nil)
    (pss_one (ps_ret (pe_op op_add pe_int (pcall h1 hr (by decide) rfl (pa_cons (pv 0) (pa_cons pe_int pa_nil)))))),?_⟩
  refine ⟨_,rfl,p,cl,n,8,rfl,hp,by omega,by decide,by decide,fun d H1 d0 d1 g1=>⟨rfl,_,rfl,ite2 (fun c=>?_) (fun c=>?_)⟩⟩
  · refine ⟨_,rfl,p,cl,n + 1,3,rfl,g1.ok,by omega,by decide,by decide,fun e H2 e0 e1 g2=>⟨_,_,rfl,rfl,?_⟩⟩
    have := q (7 + e.toNat) H2 (by omega) (by omega) (g1.trans g2)
    rw [show ((7 + e.toNat : Nat) : Int) = 7 + e by omega] at this
    exact this
  · refine ⟨_,rfl,p,cl,n + 1,3,rfl,g1.ok,by omega,by decide,by decide,fun e H2 e0 e1 g2=>⟨_,_,rfl,rfl,?_⟩⟩
    have := q (3 + e.toNat) H2 (by omega) (by omega) (g1.trans g2)
    rw [show ((3 + e.toNat : Nat) : Int) = 3 + e by omega] at this
    exact this
end
def JM (zs xs : List Str) (m : List (Str × T)) : Prop := m.map (·.1) = xs ∧ ∀ x ∈ m,KD 2 x.2 ∧ VL zs x.2 ∧ x.2.sz ≤ BQ 2
def spJoiner : Sp := fun vs H Q _=>∃ (p cl ln lb ha : Addr) (n : Nat) (xs zs : List Str) (hvs : List V) (hs : List (Str × Int)),vs = [.ref p, .ref ln, .ref lb, .ref ha] ∧ PotOk H p cl n ∧ n + xs.length * 30 ≤ 1000000000 ∧ H ln = some (.lst (xs.map V.str)) ∧ xs.Nodup ∧ xs.length ≤ 12 ∧ (∀ x ∈ xs,x.length ≤ 80) ∧ Src H p lb ha zs hvs hs ∧
  ∀ (d : Addr) (kvs : List (Key × V)) (m : List (Str × T)) H',H d = none → H' d = some (.dK kvs) → DReps H' kvs m → JM zs xs m → GrowP p cl (n + xs.length * 30) H H' → Q (.ref d) H'
theorem psW' {X : Cx} {st : Stmt} {t t' : TS} (h : PS X st t) (q : ∀ D σ H,t' D σ H → t D σ H) : PS X st t' := fun a b c d e f g=>h a b c d e f (q _ _ _ g)
section
variable {P : Program} {w : World} {K : PySem.W.Frag} {mg : Str → Option Value} {base : Heap} {f : Addr} {fd : FuncData}
abbrev s_joiner : Stmt := top 25
abbrev nJ : List Str := ["_law_pot_here","_law_names_here","_law_beyond","_law_heads","_law_by","_law_last","_law_name"]
theorem sc_joiner : FnScope nJ ["_law_pot_here","_law_names_here","_law_beyond","_law_heads"] (defScope s_joiner) := ⟨rfl,rfl,rfl,by decide +kernel,rfl,by decide +kernel,by decide +kernel⟩
def tLast : TS := fun D σ H=>∃ (p cl ln lb ha d : Addr) (n : Nat) (zs : List Str) (hvs : List V) (hs : List (Str × Int)) (o6 : Option V) (v : V) (t : T),σ = [some (.ref p),some (.ref ln),some (.ref lb),some (.ref ha),some (.ref d),some v,o6] ∧ PotOk H p cl n ∧ n + 28 ≤ 1000000000 ∧ Src H p lb ha zs hvs hs ∧ (∃ kvs,H d = some (.dK kvs)) ∧ Rep H v t ∧ KD 2 t ∧ VL zs t ∧ t.sz ≤ BQ 2 ∧
  ∀ (v' : V) (t' : T) H',Rep H' v' t' → KD 2 t' → VL zs t' → t'.sz ≤ BQ 2 → GrowP p cl (n + 28) H H' → D.nx [some (.ref p),some (.ref ln),some (.ref lb),some (.ref ha),some (.ref d),some v',o6] H'
set_option maxHeartbeats 2000000 in
theorem ok_joiner (F : Fun K "_law_joiner" "_law_joiner" s_joiner f fd) (ml : mg "len" = none) (h1 : Has P w K mg base 2 "_law_draw" ["_law_pot_here","_law_many_here"] spDraw)
    (h2 : Has P w K mg base 5 "_law_kind" ["_law_pot_here","_law_leaves_here","_law_heads","_law_deep"] (spKindLe 2)) : FnOk P w K mg base CX0 6 f fd ["_law_pot_here","_law_names_here","_law_beyond","_law_heads"] spJoiner := by
  refine F.ok sc_joiner (fun vs H Q E h=>?_) (fun cdv A outer s H vs Q E hr h=>?_)
  · obtain ⟨p,cl,ln,lb,ha,n,xs,zs,hvs,hs,rfl,_⟩ := h
    rfl
  obtain ⟨p,cl,ln,lb,ha,n,xs,zs,hvs,hs,rfl,hp,hn,hln,nd,lx,hx80,src,q⟩ := h
  have hu := hu_of hr
  refine ⟨_,pss_cons (ps_set (i := 4) sc_joiner.nd rfl (Or.inl rfl) pe_dnewK)
    (pss_cons (ps_set (i := 5) sc_joiner.nd rfl (Or.inl rfl) pe_str)
    (pss_cons (ps_for PassesOwn.never rfl (pi_list (pv 1)) (pg_name (i := 6) sc_joiner.nd rfl (Or.inl rfl))
      (pss_cons (psW' (t' := tLast) (ps_if (PW.pt (pw_or (pt_cmpR op_eq (pe_callB call_lenD rfl ml PySem.boot_len (pa_cons (pv 4) pa_nil)) pe_int (nomark _)) (pw_or1 (pt_cmpR op_gt (pcall h1 hr (by decide) rfl (pa_cons (pv 0) (pa_cons pe_int pa_nil))) pe_int (nomark _)))))
        (pss_one (ps_set (i := 5) sc_joiner.nd rfl (Or.inl rfl) (pcall h2 hr (by decide) rfl (pa_cons (pv 0) (pa_cons (pv 2) (pa_cons (pv 3) (pa_cons (pcall h1 hr (by decide) rfl (pa_cons (pv 0) (pa_cons pe_int pa_nil))) pa_nil))))))) pss_nil) ?w1)
      (pss_one (ps_dput hu (pv 4) (pv 6) (pv 5) rfl))))
    (pss_one (ps_ret (pv 4))))),?_⟩
  case w1 =>
    rintro D σ H ⟨p,cl,ln,lb,ha,d,n,zs,hvs,hs,o6,v,t,rfl,hp,hn,src,⟨kvs,hd⟩,rv,kt,vl,st,q⟩
    refine ⟨_,rfl,d,kvs,rfl,hd,rfl,_,rfl,?_⟩
    refine ite2 (fun c=>?_) (fun c=>?_)
    · refine iteT ?_
      refine ⟨_,rfl,_,rfl,_,rfl,_,rfl,p,cl,n,3,rfl,hp,by omega,by decide,by decide,fun e H1 e0 e1 g1=>?_⟩
      obtain ⟨e,rfl⟩ : ∃ e' : Nat,e = (e' : Int) := ⟨e.toNat,by omega⟩
      have e2 : e ≤ 2 := by omega
      have dq := DQ_le e e2
      refine ⟨e,e2,p,cl,lb,ha,n + 1,zs,hvs,hs,rfl,g1.ok,by omega,src.grow g1 hp,fun v' t' H2 k' l' r' s' g2=>?_⟩
      exact q v' t' H2 r' (k'.up e2) l' (Nat.le_trans s' (BQ_le e e2)) ((g1.trans g2).up (by omega))
    · refine ⟨_,rfl,p,cl,n,3,rfl,hp,by omega,by decide,by decide,fun a H0 a0 a1 g0=>⟨_,_,rfl,rfl,_,rfl,?_⟩⟩
      refine ite2 (fun c2=>?_) (fun c2=>?_)
      · refine ⟨_,rfl,_,rfl,_,rfl,_,rfl,p,cl,n + 1,3,rfl,g0.ok,by omega,by decide,by decide,fun e H1 e0 e1 g1=>?_⟩
        obtain ⟨e,rfl⟩ : ∃ e' : Nat,e = (e' : Int) := ⟨e.toNat,by omega⟩
        have e2 : e ≤ 2 := by omega
        have dq := DQ_le e e2
        refine ⟨e,e2,p,cl,lb,ha,n + 1 + 1,zs,hvs,hs,rfl,g1.ok,by omega,(src.grow g0 hp).grow g1 g0.ok,fun v' t' H2 k' l' r' s' g2=>?_⟩
        exact q v' t' H2 r' (k'.up e2) l' (Nat.le_trans s' (BQ_le e e2)) (((g0.trans g1).trans g2).up (by omega))
      · exact q v t H0 (rv.growP g0 hp) kt vl st (g0.up (by omega))
  intro d hd0
  have e1 := same_new hd0 (.dK [])
  have nd1 := hp.fresh hd0
  have g1 := growP_same hp e1
  refine ⟨_,rfl,ln,rfl,⟨_,SqL.of (e1 _ _ hln)⟩,?_⟩
  have nln : ln ≠ p := hp.ne_lst hln
  refine for_list (xs := xs.map V.str) (fun i σ H'=>∃ (o6 : Option V) (v : V) (t : T) (kvs : List (Key × V)) (m : List (Str × T)),σ = [some (.ref p),some (.ref ln),some (.ref lb),some (.ref ha),some (.ref d),some v,o6] ∧ GrowP p cl (n + i * 30) H H' ∧ H' d = some (.dK kvs) ∧ DReps H' kvs m ∧ JM zs (xs.take i) m ∧ Rep H' v t ∧ KD 2 t ∧ VL zs t ∧ t.sz ≤ BQ 2)
    ⟨none, .str "num", .str "num",[],[],rfl,g1.up (by omega),upd_same, .nil,⟨rfl,fun x hx=>by cases hx⟩, .str _ (by decide +kernel), .leaf num_len, .leaf fun e=>absurd e num_nq,BQ_pos 2⟩ ?_ ?_ ?_
  · rintro i σ H' _ ⟨o6,v,t,kvs,m,rfl,g,_⟩
    exact SqL.of (g.keep _ _ nln hln)
  · rintro i x σ H2 hx ⟨o6,v,t,kvs,m,rfl,g,hd,dr,jm,rv,kt,vl,st⟩
    rw [List.getElem?_map] at hx
    cases hz : xs[i]? with
    | none=>rw [hz] at hx; cases hx
    | some z =>
      rw [hz] at hx
      cases hx
      have li : i < xs.length := (List.getElem?_eq_some_iff.mp hz).1
      have i30 : i * 30 + 30 ≤ xs.length * 30 := by omega
      refine ⟨p,cl,ln,lb,ha,d,n + i * 30,zs,hvs,hs,some (.str z),v,t,rfl,g.ok,by omega,src.grow g hp,⟨kvs,hd⟩,rv,kt,vl,st,fun v' t' H3 r' k' l' s' g3=>?_⟩
      have hd3 := g3.keep _ _ nd1.1 hd
      have dr3 := dr.mono (g3.tups g.ok)
      have ld := dr3.length
      have lm : m.length = i := by have := congrArg List.length jm.1; rw [List.length_map,List.length_take] at this; omega
      have hnone : m.lookup z = none := lookup_no fun x hx e=>by
        have h1 : z ∈ xs.take i := by rw [← jm.1,← e]; exact List.mem_map.mpr ⟨x,hx,rfl⟩
        have h2 : (xs.take i ++ [z]).Nodup := by
          have : xs.take (i + 1) = xs.take i ++ [z] := by rw [List.take_add_one,hz]; rfl
          rw [← this]
          exact nd.sublist (List.take_sublist _ _)
        rw [List.nodup_append] at h2
        exact h2.2.2 z h1 z (by simp) rfl
      have vn : valV kvs (Sum.inr z) = none := by
        rcases dr3.get z with ⟨g1,_⟩ | ⟨v1,t1,_,g2,_⟩
        · exact g1
        · rw [hnone] at g2; cases g2
      refine ⟨_,rfl,_,rfl,_,rfl,d,_,rfl,DPut.k (k := Sum.inr z) hd3 (small' (by omega)),?_⟩
      rw [putK_new v' vn]
      have tu : ∀ c ys,H3 c = some (.tup ys) → (upd H3 d (.dK (kvs ++ [(Sum.inr z,v')]))) c = some (.tup ys) := fun c ys h=>by rw [upd_ne (ne_of h hd3 (by intro z; cases z))]; exact h
      refine ⟨_,v',t',kvs ++ [(Sum.inr z,v')],m ++ [(z,t')],rfl,⟨fun c o nc h=>?_,((g3.ok.upd nd1.1 nd1.2)).mono (by rw [Nat.add_mul]; omega)⟩,upd_same,(dr3.mono tu).snoc (r'.mono tu),⟨?_,fun x hx=>?_⟩,r'.mono tu,k',l',s'⟩
      · rw [upd_ne (ne_of_none h hd0)]
        exact (g.trans g3).keep c o nc h
      · rw [List.map_append,jm.1,List.take_add_one,hz]
        rfl
      · rcases List.mem_append.mp hx with h | h
        · exact jm.2 x h
        · rw [List.mem_singleton.mp h]; exact ⟨k',l',s'⟩
  · rintro σ H2 ⟨o6,v,t,kvs,m,rfl,g,hd,dr,jm,_⟩
    rw [List.length_map] at g jm
    rw [List.take_length] at jm
    exact ⟨_,rfl,q d kvs m H2 hd0 hd dr jm g⟩
end
end Fw
set_option Elab.async false
set_option linter.all false
set_option maxRecDepth 100000
namespace Fw
open PySem PySem.Spec PyProof.Rows L2
theorem op_eqQ {X : Cx} (hu : X.A.units + 64 < cLine) : OpR X (compareOp .Eq) (fun x y H Q=>∃ t r n,n ≤ 60 ∧ Rep H x t ∧ Rep H y r ∧ KD n t ∧ KD n r ∧ (t = r → Q (.bl true) H) ∧ (t ≠ r → Q (.bl false) H)) := by
  intro pins s σ H x y v u Q I rx ry h
  obtain ⟨t,r,n,hn,r1,r2,k1,k2,q1,q2⟩ := h
  cases k1 with
  | @leaf _ z hz =>
    cases k2 with
    | @leaf _ z' hz' =>
      cases r1
      cases r2
      by_cases c : z = z'
      · subst c
        exact op_eq pins s σ H _ _ v u Q I rx ry ⟨rfl,by rw [decide_eq_true rfl]; exact q1 rfl⟩
      · exact op_eq pins s σ H _ _ v u Q I rx ry ⟨rfl,by rw [decide_eq_false (fun e=>c (by injection e))]; exact q2 (fun e=>c (by injection e))⟩
    | @tup n z' ks' nz' k1' k3' hk' =>
      cases r1
      cases r2 with
      | @tup b ys _ hb rb =>
        obtain ⟨t1,rfl⟩ := rx
        cases ry
        obtain ⟨z2,its2,v2,p2⟩ := I.hok b _ hb
        exact SeqAt.RcAt.str_tuple (A := X.A) (s := s) z t1 (show s.heap.IsTuple b its2.toArray from p2) (by omega) X.prog X.w _ _ ⟨.bl false,H,I,rfl,q2 (by simp)⟩
  | @tup n z ks nz k1' k3 hk =>
    cases r1 with
    | @tup a xs _ ha ra =>
      cases k2 with
      | @leaf _ z' hz' =>
        cases r2
        cases rx
        obtain ⟨t2,rfl⟩ := ry
        obtain ⟨z1,its1,v1,p1⟩ := I.hok a _ ha
        exact SeqAt.RcAt.tuple_str (A := X.A) (s := s) z' t2 (show s.heap.IsTuple a its1.toArray from p1) (by omega) X.prog X.w _ _ ⟨.bl false,H,I,rfl,q2 (by simp)⟩
      | @tup _ z' ks' nz' k1'' k3' hk' =>
        cases r2 with
        | @tup b ys _ hb rb =>
          cases rx
          cases ry
          obtain ⟨z1,its1,v1,p1⟩ := I.hok a _ ha
          obtain ⟨z2,its2,v2,p2⟩ := I.hok b _ hb
          have l1 := ra.length
          have l2 := rb.length
          have l3 := v1.length
          have l4 := v2.length
          have hu1 := units_in1 X.A
          have q := SeqAt.RcAt.tuples (A := X.A) (s := s) (e := eqJ (T.str z :: ks) (T.str z' :: ks')) (show s.heap.IsTuple a its1.toArray from p1) (show s.heap.IsTuple b its2.toArray from p2) (by omega) fun j h1 h2=>?_
          · have e1 : its1.toArray.size = (T.str z :: ks).length := by rw [List.size_toArray]; omega
            have e2 : its2.toArray.size = (T.str z' :: ks').length := by rw [List.size_toArray]; omega
            rw [e1,e2] at q
            have hb := eqJ_all (T.str z :: ks) (T.str z' :: ks')
            revert q hb
            generalize ((List.range (min (T.str z :: ks).length (T.str z' :: ks').length)).all (eqJ (T.str z :: ks) (T.str z' :: ks')) && ((T.str z :: ks).length == (T.str z' :: ks').length)) = c
            intro q hb
            cases c with
            | true=>exact q X.prog X.w _ _ ⟨.bl true,H,I,rfl,q1 (by rw [hb.mp rfl])⟩
            | false=>exact q X.prog X.w _ _ ⟨.bl false,H,I,rfl,q2 (fun e=>by injection e with e; exact Bool.false_ne_true (hb.mpr e))⟩
          · have h1' : j < its1.length := by simpa using h1
            have h2' : j < its2.length := by simpa using h2
            obtain ⟨x',hx'⟩ : ∃ x',xs[j]? = some x' := ⟨xs[j]'(by omega),List.getElem?_eq_getElem _⟩
            obtain ⟨y',hy'⟩ : ∃ y',ys[j]? = some y' := ⟨ys[j]'(by omega),List.getElem?_eq_getElem _⟩
            obtain ⟨t1,ht1,rx'⟩ := ra.at2 hx'
            obtain ⟨t2,ht2,ry'⟩ := rb.at2 hy'
            obtain ⟨u1,hu1',ru1⟩ := v1.get hx'
            obtain ⟨u2,hu2',ru2⟩ := v2.get hy'
            have e1 : its1.toArray[j] = u1 := by
              have := (List.getElem?_eq_some_iff.mp hu1').2
              simpa using this
            have e2 : its2.toArray[j] = u2 := by
              have := (List.getElem?_eq_some_iff.mp hu2').2
              simpa using this
            rw [e1,e2]
            obtain ⟨b',hb',q'⟩ := eq_kinds2 I.hok n (kd_item nz hk (List.mem_of_getElem? ht1)) (kd_item nz' hk' (List.mem_of_getElem? ht2)) (A := X.A.in1) rx' ry' ru1 ru2 (by omega)
            have eb : eqJ (T.str z :: ks) (T.str z' :: ks') j = b' := eqJ_is ht1 ht2 hb'
            rw [eb]
            exact q'
end Fw
set_option Elab.async false
set_option linter.all false
set_option maxRecDepth 100000
namespace Fw
open PySem PySem.Spec PyProof.Rows L2
theorem DReps.atR {H : Hp} : ∀ {kvs : List (Key × V)} {m : List (Str × T)} {i : Nat} {k : Key} {v : V},DReps H kvs m → kvs[i]? = some (k,v) → ∃ z t,k = Sum.inr z ∧ m[i]? = some (z,t) ∧ Rep H v t
  | _,_,_,_,_, .nil,h=>by simp at h
  | _,_,0,_,_, .cons (z := z) (t := t) r q,h=>by
    simp at h
    obtain ⟨rfl,rfl⟩ := h
    exact ⟨z,t,rfl,rfl,r⟩
  | _,_,i + 1,k,v, .cons _ q,h=>by
    obtain ⟨z,t,e,h1,h2⟩ := q.atR (i := i) (k := k) (v := v) (by simpa using h)
    exact ⟨z,t,e,by simpa using h1,h2⟩
def FQ : Nat → Nat
  | 0=>12
  | n + 1=>12 + 3 * FQ n
theorem FQ_pos : ∀ n,12 ≤ FQ n
  | 0=>Nat.le_refl _
  | n + 1=>by show 12 ≤ 12 + 3 * FQ n; omega
structure NM (U : List Str) (m : List (Str × T)) : Prop where
  kn : KN m
  ln : m.length ≤ 12
  nm : ∀ x ∈ m,x.1 ∈ U ∧ x.1.length ≤ 80
  kd : ∀ x ∈ m,KD 2 x.2
def spFold (n : Nat) : Sp := fun vs H Q _=>∃ (p cl d : Addr) (k : Nat) (v : V) (t : T) (kvs : List (Key × V)) (m : List (Str × T)) (U : List Str),vs = [.ref p,v, .ref d] ∧ PotOk H p cl k ∧ k + FQ n ≤ 1000000000 ∧ Rep H v t ∧ KD n t ∧ VL U t ∧ fillT m t = t ∧ H d = some (.dK kvs) ∧ d ≠ p ∧ DReps H kvs m ∧ NM U m ∧ n ≤ 50 ∧
  ∀ v' t' H',KD n t' → VL U t' → fillT m t' = t → t'.sz ≤ t.sz → Rep H' v' t' → GrowP p cl (k + FQ n) H H' → Q v' H'
def spFoldN : Nat → Sp
  | 0=>fun _ _ _ _=>False
  | n + 1=>spFold n
section
variable {P : Program} {w : World} {K : PySem.W.Frag} {mg : Str → Option Value} {base : Heap} {f : Addr} {fd : FuncData}
abbrev s_folded : Stmt := top 26
abbrev nFo : List Str := ["_law_pot_here","_law_kind_here","_law_by","_law_name"]
theorem sc_folded : FnScope nFo ["_law_pot_here","_law_kind_here","_law_by"] (defScope s_folded) := ⟨rfl,rfl,rfl,by decide +kernel,rfl,by decide +kernel,by decide +kernel⟩
set_option maxHeartbeats 2000000 in
theorem ok_folded {n : Nat} (F : Fun K "_law_folded" "_law_folded" s_folded f fd) (mi : mg "isinstance" = none) (mt : mg "tuple" = none) (h1 : Has P w K mg base 2 "_law_draw" ["_law_pot_here","_law_many_here"] spDraw)
    (h2 : Has P w K mg base (2 + n) "_law_folded" ["_law_pot_here","_law_kind_here","_law_by"] (spFoldN n)) : FnOk P w K mg base CX0 (2 + n + 1) f fd ["_law_pot_here","_law_kind_here","_law_by"] (spFold n) := by
  refine F.ok sc_folded (fun vs H Q E h=>?_) (fun cdv A outer s H vs Q E hr h=>?_)
  · obtain ⟨p,cl,d,k,v,t,kvs,m,U,rfl,_⟩ := h
    rfl
  obtain ⟨p,cl,d,k,v,t,kvs,m,U,rfl,hp,hk,rt,kt,vl,ft,hd,ndp,dr,nm,n50,q⟩ := h
  have hu := hu_of hr
  have hu64 := hr.units
  have fq := FQ_pos n
  refine ⟨_,pss_cons (ps_frz (ps_for PassesOwn.never rfl (pi_keys (pv 2)) (pg_name (i := 3) sc_folded.nd rfl (Or.inl rfl))
      (pss_one (ps_if (PW.pt (pw_and (pt_cmpR (op_eqQ hu64) (pe_dget hu (pv 2) (pv 3) (fun _ _=>rfl)) (pv 1) (nomark _)) (pw_and1 (pt_cmpR op_eq (pcall h1 hr (by omega) rfl (pa_cons (pv 0) (pa_cons pe_int pa_nil))) pe_int (nomark _))))) (pss_one (ps_ret (pv 3))) pss_nil))))
    (pss_cons (ps_if (pt_val (pe_callB call_isi rfl mi boot_isinstance (pa_cons (pv 1) (pa_cons (pe_bltn (v := .ty "tuple") rfl mt boot_tuple rfl) pa_nil))))
      (pss_one (ps_ret (pe_op op_catT (pe_slice sl_tup (pv 1) po_none (po_some pe_int)) (pe_callTy call_tuple_of rfl mt boot_tuple (pa_cons
        (pe_lc (defScope s_folded) nFo ["_law_pot_here","_law_by"] [0,2] (by decide +kernel) (pi_tup (pe_slice sl_tup (pv 1) (po_some pe_int) po_none)) (fun C s₀ H₀ ex=>pts_nil)
          (fun C s₀ H₀ ex=>pcall h2 hr (Nat.le_refl _) rfl (pa_cons (pv 1) (pa_cons (pv 0) (pa_cons (pv 2) pa_nil))))) pa_nil))))) pss_nil)
    (pss_one (ps_ret (pv 1)))),?_⟩
  have dcl : d ≠ cl := by
    obtain ⟨cs,a,e,t0,h1,h2,_⟩ := hp
    exact ne_of hd h2 (by intro z; cases z)
  have ld := dr.length
  have lm := nm.ln
  refine ⟨d,kvs,hd,fun o=>⟨_,rfl,d,o,kvs,rfl,upd_same,for_keys (fun i σ H'=>∃ o3,σ = [some (.ref p),some v,some (.ref d),o3] ∧ GrowP p cl (k + i) (upd H d (.frz o (.dK kvs))) H') ⟨none,rfl,(GrowP.refl (hp.upd ndp dcl)).up (by omega)⟩ ?_ ?_ ?_⟩⟩
  · rintro i σ H' hi ⟨o3,rfl,g⟩
    exact g.keep _ _ ndp upd_same
  · rintro i ky vv σ H1 hky ⟨o3,rfl,g⟩
    have li : i < kvs.length := (List.getElem?_eq_some_iff.mp hky).1
    obtain ⟨z,tz,rfl,hm,rv⟩ := dr.atR hky
    have mz := List.mem_of_getElem? hm
    have tu : ∀ c xs,H c = some (.tup xs) → H1 c = some (.tup xs) := fun c xs h=>(g.tups (hp.upd ndp dcl)) _ _ (by rw [upd_ne (ne_of h hd (by intro z; cases z))]; exact h)
    have hd1 : H1 d = some (.frz o (.dK kvs)) := g.keep _ _ ndp upd_same
    have lk := kn_look nm.kn mz
    obtain ⟨v1,g1,r1⟩ : ∃ v1,valV kvs (Sum.inr z) = some v1 ∧ Rep H v1 tz := by
      rcases dr.get z with ⟨_,g2⟩ | ⟨v1,t1,g1,g2,r1⟩
      · rw [lk] at g2; cases g2
      · rw [lk] at g2; cases g2; exact ⟨v1,g1,r1⟩
    have ga : DGet H1 d (.str z) (some v1) := .inl ⟨kvs,Sum.inr z, .inr ⟨o,hd1⟩,rfl,g1.symm⟩
    refine ⟨_,rfl,_,rfl,d,v1,rfl,ga,_,rfl,tz,t,n + 2,by omega,r1.mono tu,rt.mono tu,(nm.kd _ mz).up (by omega),kt.up (by omega),fun e=>⟨true,rfl,iteT ?_⟩,fun e=>⟨false,rfl,iteF (iteF ⟨_,rfl,g.up (by omega)⟩)⟩⟩
    refine ⟨_,rfl,p,cl,k + i,2,rfl,g.ok,by omega,by decide,by decide,fun e0 H2 e1 e2 g2=>⟨rfl,_,rfl,ite2 (fun c=>?_) (fun c=>?_)⟩⟩
    · have hd2 : H2 d = some (.frz o (.dK kvs)) := g2.keep _ _ ndp hd1
      refine ⟨_,rfl,hd2,q (.str z) (.str z) _ (.leaf (nm.nm _ mz).2) (.leaf fun _=>(nm.nm _ mz).1) (by rw [fillT_str,lk]; exact e) (sz_pos _) (.str z (by have : z.length ≤ 80 := (nm.nm _ mz).2; omega)) ⟨fun c0 o0 nc h=>?_,((g2.ok.upd ndp dcl)).mono (by omega)⟩⟩
      by_cases e3 : c0 = d
      · rw [e3] at h ⊢
        rw [hd] at h
        rw [upd_same]
        exact h
      · rw [upd_ne e3]
        exact g2.keep _ _ nc (g.keep _ _ nc (by rw [upd_ne e3]; exact h))
    · exact ⟨_,rfl,(g.trans g2).up (by omega)⟩
  · rintro σ H1 ⟨o3,rfl,g⟩
    have hd1 : H1 d = some (.frz o (.dK kvs)) := g.keep _ _ ndp upd_same
    refine ⟨hd1,?_⟩
    have gA : GrowP p cl (k + 12) H (upd H1 d (.dK kvs)) := ⟨fun c0 o0 nc h=>by
      by_cases e3 : c0 = d
      · rw [e3] at h ⊢
        rw [hd] at h
        rw [upd_same]
        exact h
      · rw [upd_ne e3]
        exact g.keep _ _ nc (by rw [upd_ne e3]; exact h),((g.ok.upd ndp dcl)).mono (by omega)⟩
    have hdA : (upd H1 d (.dK kvs)) d = some (.dK kvs) := upd_same
    revert gA hdA
    generalize upd H1 d (.dK kvs) = H2
    intro gA hdA
    have rt2 := rt.growP gA hp
    refine st_if (ts_b (ev_isi (ev_var rfl) rt2 (kit_tup K))) (fun c H3 e3=>?_) (fun c H3 e3=>?_)
    · cases kt with
      | leaf h=>cases c
      | @tup j z ks nz k1 k3 hks =>
        cases vl with
        | tup vks =>
        have eF : FQ (j + 1) = 12 + 3 * FQ j := rfl
        have fks : ∀ t' ∈ ks,fillT m t' = t' := by
          rw [fillT_tup] at ft
          injection ft with ft
          injection ft with _ ft
          intro t' ht'
          obtain ⟨i,hi⟩ := List.getElem?_of_mem ht'
          have := congrArg (·[i]?) ft
          simp only [List.getElem?_map,hi,Option.map_some] at this
          exact Option.some.inj this
        have g3 := gA.trans (growP_same gA.ok e3)
        cases rt2 with
        | @tup a vs _ hta rr =>
          cases rr with
          | @cons v0 _ vr _ r0 rr =>
            have lr := rr.length
            have hta3 := e3 _ _ hta
            refine ⟨_,rfl,1,rfl,a,_,rfl,SqT.of hta3,cut_head_not v0 vr (by omega),fun p1 hp1=>?_⟩
            rw [cut_head v0 vr (by omega)]
            have e4 := same_new hp1 (.tup [v0])
            refine ⟨_,rfl,1,rfl,a,_,rfl,SqT.of (e4 _ _ hta3),cutn_not (vs := v0 :: vr) (n := 1) (by simp) (Nat.le_refl _),fun p2 hp2=>?_⟩
            have ec : cutV (v0 :: vr) (some 1) none = vr := cutn (v0 :: vr) 1
            rw [ec]
            have e5 := same_new hp2 (.tup vr)
            have hp2' : (upd (upd H3 p1 (.tup [v0])) p2 (.tup vr)) p2 = some (.tup vr) := upd_same
            have hp1' : (upd (upd H3 p1 (.tup [v0])) p2 (.tup vr)) p1 = some (.tup [v0]) := e5 _ _ upd_same
            have eA := (e3.trans e4).trans e5
            have g5 := gA.trans (growP_same gA.ok eA)
            revert hp2' hp1' eA g5
            generalize upd (upd H3 p1 (.tup [v0])) p2 (.tup vr) = H5
            intro hp2' hp1' eA g5
            have hd5 := eA _ _ hdA
            have dr5 := dr.mono (g5.tups hp)
            have rr5 := rr.mono (Same.tups eA)
            have r05 := r0.mono (Same.tups eA)
            refine ⟨p2,rfl,⟨_,SqT.of hp2'⟩,comp_tup (xs := vr) (fun i ws H'=>GrowP p cl (k + 12 + i * FQ j) H5 H' ∧ ∃ ts,Reps H' ws ts ∧ ts.length = i ∧ (∀ t ∈ ts,KD j t ∧ VL U t) ∧ ts.map (fillT m) = ks.take i ∧ szs ts ≤ szs (ks.take i)) ⟨(GrowP.refl g5.ok).up (by omega),[], .nil,rfl,(fun t h=>by cases h),by simp,by simp [szs]⟩ ?_ ?_ ?_⟩
            · rintro i ws H' hi ⟨g,ts,rw',lt,_⟩
              refine ⟨SqT.of (g.tups g5.ok _ _ hp2'),small' ?_⟩
              rw [rw'.length,lt]
              omega
            · rintro i x ws H' hi hx ⟨g,ts,rw',lt,ok,fm,sz⟩
              obtain ⟨t',ht',rx⟩ := rr5.at2 hx
              have hmem : t' ∈ ks := List.mem_of_getElem? ht'
              have i3 : i * FQ j ≤ 2 * FQ j := Nat.mul_le_mul_right _ (by omega)
              have tk : ks.take (i + 1) = ks.take i ++ [t'] := by rw [List.take_add_one,ht']; rfl
              refine tt1 (iteT ⟨_,rfl,_,rfl,_,rfl,p,cl,d,k + 12 + i * FQ j,x,t',kvs,m,U,rfl,g.ok,by omega,rx.growP g g5.ok,hks t' hmem,vks t' hmem,fks t' hmem,g.keep _ _ ndp hd5,ndp,dr5.mono (g.tups g5.ok),nm,by omega,fun v' t'' H'' k' l' f' s' r' g'=>nx hi ⟨(g.trans g').up (by rw [Nat.add_mul]; omega),ts ++ [t''],(rw'.growP g' g.ok).append (.cons r' .nil),by simp [lt],fun y hy=>?_,?_,?_⟩⟩)
              · rcases List.mem_append.mp hy with h | h
                · exact ok y h
                · rw [List.mem_singleton.mp h]; exact ⟨k',l'⟩
              · rw [List.map_append,fm,tk,List.map_singleton,f']
              · rw [tk,szs_app,szs_app]
                simp [szs]
                omega
            · rintro ws H' ⟨g,ts,rw',lt,ok,fm,sz⟩ l hl
              have e6 := same_new hl (.lst ws)
              refine ⟨l,ws,rfl, .inl ⟨SqL.of upd_same,fun p4 hp4=>?_⟩⟩
              have e7 := same_new hp4 (.tup ws)
              have lw : ws.length = ks.length := by rw [rw'.length,lt]; omega
              rw [List.take_of_length_le (by omega)] at fm sz
              have kt3 : vr.length * FQ j ≤ 3 * FQ j := Nat.mul_le_mul_right _ (by omega)
              refine ⟨p1,p4,[v0],ws,rfl,rfl,SqT.of ((e6.trans e7) _ _ (g.tups g5.ok _ _ hp1')),SqT.of upd_same,by simp,small (by simp; omega),fun hv=>?_,fun _ p5 hp5=>?_⟩
              · rw [hv] at lw
                simp at lw
                omega
              · have e8 := same_new hp5 (.tup ([v0] ++ ws))
                have eZ := (e6.trans e7).trans e8
                refine q _ (.tup (.str z :: ts)) _ (.tup nz (by omega) (by omega) fun y hy=>(ok y hy).1) (.tup fun y hy=>(ok y hy).2) (by rw [fillT_tup,fm]) ?_ (.tup upd_same (.cons ((r05.growP g g5.ok).same eZ) (rw'.same eZ))) (((g5.trans g).trans (growP_same g.ok eZ)).up (by omega))
                show 1 + (1 + szs ts) ≤ 1 + (1 + szs ks)
                omega
    · cases kt with
      | tup nz k1 k3 hks=>cases c
      | @leaf _ z hz =>
        cases rt
        exact ⟨_,rfl,q _ (.str z) H3 (.leaf hz) vl ft (Nat.le_refl _) (.str z (by omega)) ((gA.trans (growP_same gA.ok e3)).up (by omega))⟩
theorem folds_all (F : Fun K "_law_folded" "_law_folded" s_folded f fd) (bF : Binds K fd ["_law_pot_here","_law_kind_here","_law_by"] []) (mF : mg "_law_folded" = some (.ref f)) (mi : mg "isinstance" = none) (mt : mg "tuple" = none) (h1 : Has P w K mg base 2 "_law_draw" ["_law_pot_here","_law_many_here"] spDraw) :
    ∀ n : Nat,Has P w K mg base (2 + n) "_law_folded" ["_law_pot_here","_law_kind_here","_law_by"] (spFoldN n)
  | 0=>⟨f,fd,⟨fun vs H Q E h=>h.elim,fun A outer s H args us vs Q E _ _ _ _ h=>h.elim⟩,bF,F.kp,mF⟩
  | n + 1=>⟨f,fd,ok_folded F mi mt h1 (folds_all F bF mF mi mt h1 n),bF,F.kp,mF⟩
end
end Fw
set_option Elab.async false
set_option linter.all false
set_option maxRecDepth 100000
namespace Fw
open PySem PySem.Spec PyProof.Rows L2
theorem vl_fill {U : List Str} {m : List (Str × T)} (hm : ∀ x ∈ m,VL U x.2) {t : T} (h : VL U t) : VL U (fillT m t) := by
  induction h with
  | @leaf z hz =>
    rw [fillT_str]
    cases e : m.lookup z with
    | none=>exact .leaf hz
    | some t'=>exact hm _ (lookup_mem e)
  | @tup h ks hk ih =>
    rw [fillT_tup]
    refine .tup fun k hk'=>?_
    obtain ⟨k0,h0,rfl⟩ := List.mem_map.mp hk'
    exact ih k0 h0
theorem fill_idem {m : List (Str × T)} (hm : ∀ x ∈ m,fillT m x.2 = x.2) {n : Nat} {t : T} (h : KD n t) : fillT m (fillT m t) = fillT m t := by
  induction h with
  | @leaf _ z hz =>
    rw [fillT_str]
    cases e : m.lookup z with
    | none=>show fillT m (.str z) = _; rw [fillT_str,e]
    | some t'=>exact hm _ (lookup_mem e)
  | @tup j z ks nz k1 k3 hk ih =>
    rw [fillT_tup,fillT_tup,List.map_map]
    congr 1
    congr 1
    exact List.map_congr_left fun k hk'=>ih k hk'
theorem szsFillLe {m : List (Str × T)} {S : Nat} : ∀ {ks : List T},(∀ k ∈ ks,(fillT m k).sz ≤ k.sz * S) → szs (ks.map (fillT m)) ≤ szs ks * S
  | [],_=>by simp [szs]
  | k :: ks,h=>by
    have h1 := szsFillLe (ks := ks) fun x hx=>h x (List.mem_cons_of_mem _ hx)
    have h2 := h k List.mem_cons_self
    show (fillT m k).sz + szs (ks.map (fillT m)) ≤ (k.sz + szs ks) * S
    rw [Nat.add_mul]
    omega
theorem szFillLe {m : List (Str × T)} {S : Nat} (hS : 1 ≤ S) (hm : ∀ x ∈ m,x.2.sz ≤ S) {n : Nat} {t : T} (h : KD n t) : (fillT m t).sz ≤ t.sz * S := by
  induction h with
  | @leaf _ z hz =>
    rw [fillT_str]
    show _ ≤ 1 * S
    cases e : m.lookup z with
    | none=>show 1 ≤ 1 * S; omega
    | some t'=>have := hm _ (lookup_mem e); show t'.sz ≤ 1 * S; simp at this; omega
  | @tup j z ks nz k1 k3 hk ih =>
    rw [fillT_tup]
    have := szsFillLe (S := S) ih
    show 1 + (1 + szs (ks.map (fillT m))) ≤ (1 + (1 + szs ks)) * S
    rw [Nat.add_mul,Nat.add_mul]
    omega
structure JN (U : List Str) (m : List (Str × T)) : Prop where
  nm : NM U m
  vl : ∀ x ∈ m,VL U x.2
  st : ∀ x ∈ m,fillT m x.2 = x.2
  sz : ∀ x ∈ m,x.2.sz ≤ BQ 2
structure PR (U : List Str) (m : List (Str × T)) (p : T × T) : Prop where
  k1 : KD 5 p.1
  k2 : KD 5 p.2
  v1 : VL U p.1
  v2 : VL U p.2
  th : fillT m p.1 = fillT m p.2
  sz : (fillT m p.1).sz ≤ 1000
def spPairs : Sp := fun vs H Q _=>∃ (p cl la ha d : Addr) (k : Nat) (zs : List Str) (hvs : List V) (hs : List (Str × Int)) (kvs : List (Key × V)) (m : List (Str × T)),vs = [.ref p, .ref la, .ref ha, .ref d] ∧ PotOk H p cl k ∧ k + 60000 ≤ 1000000000 ∧ Src H p la ha zs hvs hs ∧ H d = some (.dK kvs) ∧ d ≠ p ∧ DReps H kvs m ∧ JN zs m ∧
  ∀ (l : Addr) (ps : List V) (prs : List (T × T)) H',H l = none → H' l = some (.lst ps) → Reps H' ps (prs.map pT) → (∀ p ∈ prs,PR zs m p) → prs.length ≤ 12 → GrowP p cl (k + 60000) H H' → Q (.ref l) H'
end Fw
set_option Elab.async false
set_option linter.all false
set_option maxRecDepth 100000
namespace Fw
open PySem PySem.Spec PyProof.Rows L2
theorem DQ3 : ∀ n,n ≤ 3 → DQ n ≤ 80
  | 0,_=>by decide
  | 1,_=>by decide
  | 2,_=>by decide
  | 3,_=>by decide
  | n + 4,h=>by omega
theorem BQ3 : ∀ n,n ≤ 3 → BQ n ≤ 53
  | 0,_=>by decide
  | 1,_=>by decide
  | 2,_=>by decide
  | 3,_=>by decide
  | n + 4,h=>by omega
theorem FQ5 : FQ 5 = 4368 := rfl
def tCntP : TE := fun σ H Q=>∃ (p cl d : Addr) (k : Nat) (kvs : List (Key × V)),σ[0]? = some (some (V.ref p)) ∧ σ[3]? = some (some (V.ref d)) ∧ PotOk H p cl k ∧ k + 1 ≤ 1000000000 ∧ H d = some (.dK kvs) ∧ ∀ (c : Nat) H',c ≤ 11 → GrowP p cl (k + 1) H H' → Q (.int (c : Int)) H'
def tPk : TE := fun σ H Q=>∃ (p cl : Addr) (k : Nat) (v1 v2 : V) (t1 t2 : T),σ[0]? = some (some (V.ref p)) ∧ σ[6]? = some (some v1) ∧ σ[7]? = some (some v2) ∧ PotOk H p cl k ∧ k + 1 ≤ 1000000000 ∧ Rep H v1 t1 ∧ Rep H v2 t2 ∧
  ∀ (v : V) (pr : T × T) H',Rep H' v (pT pr) → (pr = (t1,t2) ∨ pr = (t2,t1)) → GrowP p cl (k + 1) H H' → Q v H'
section
variable {P : Program} {w : World} {K : PySem.W.Frag} {mg : Str → Option Value} {base : Heap} {f : Addr} {fd : FuncData}
theorem peW' {X : Cx} {e : Expr} {t t' : TE} (h : PE X e t) (q : ∀ σ H Q,t' σ H Q → t σ H Q) : PE X e t' := fun pins s σ H Q I h'=>h pins s σ H Q I (q _ _ _ h')
abbrev s_pairs : Stmt := top 28
abbrev nP : List Str := ["_law_pot_here","_law_leaves_here","_law_heads","_law_by","_law_some","_law_k","_law_one","_law_other"]
theorem sc_pairs : FnScope nP ["_law_pot_here","_law_leaves_here","_law_heads","_law_by"] (defScope s_pairs) := ⟨rfl,rfl,rfl,by decide +kernel,rfl,by decide +kernel,by decide +kernel⟩
set_option maxHeartbeats 2000000 in
theorem ok_pairs (F : Fun K "_law_pairs" "_law_pairs" s_pairs f fd) (mr : mg "range" = none) (ml : mg "len" = none) (mI : mg "int" = none) (h1 : Has P w K mg base 2 "_law_draw" ["_law_pot_here","_law_many_here"] spDraw)
    (h2 : Has P w K mg base 6 "_law_kind" ["_law_pot_here","_law_leaves_here","_law_heads","_law_deep"] (spKindLe 3)) (h3 : Has P w K mg base 8 "_law_folded" ["_law_pot_here","_law_kind_here","_law_by"] (spFoldN 6)) (h5 : Has P w K mg base 4 "_law_filled" ["_law_kind_here","_law_by"] (spFillN 4)) :
    FnOk P w K mg base CX0 9 f fd ["_law_pot_here","_law_leaves_here","_law_heads","_law_by"] spPairs := by
  refine F.ok sc_pairs (fun vs H Q E h=>?_) (fun cdv A outer s H vs Q E hr h=>?_)
  · obtain ⟨p,cl,la,ha,d,k,zs,hvs,hs,kvs,m,rfl,_⟩ := h
    rfl
  obtain ⟨p,cl,la,ha,d,k,zs,hvs,hs,kvs,m,rfl,hp,hk,src,hd,ndp,dr,jn,q⟩ := h
  refine ⟨_,pss_cons (ps_set (i := 4) sc_pairs.nd rfl (Or.inl rfl) (pe_lst pa_nil))
    (pss_cons (ps_for PassesOwn.never rfl (pi_range1 rfl mr (pa_cons (pe_op op_add pe_int (peW' (t' := tCntP) (pcall h1 hr (by decide) rfl (pa_cons (pv 0) (pa_cons (pe_ix ix_list (pe_lst (pa_cons pe_int (pa_cons pe_int pa_nil))) (pe_callTy call_int1 rfl mI boot_int (pa_cons (pe_cmpR op_gt (pe_callB call_lenD rfl ml PySem.boot_len (pa_cons (pv 3) pa_nil)) pe_int (nomark _)) pa_nil)) (fun _ _=>rfl)) pa_nil))) ?w1)) pa_nil)) (pg_name (i := 5) sc_pairs.nd rfl (Or.inl rfl))
      (pss_cons (ps_set (i := 6) sc_pairs.nd rfl (Or.inl rfl) (pcall h2 hr (by decide) rfl (pa_cons (pv 0) (pa_cons (pv 1) (pa_cons (pv 2) (pa_cons (pe_op op_add pe_int (pcall h1 hr (by decide) rfl (pa_cons (pv 0) (pa_cons pe_int pa_nil)))) pa_nil))))))
      (pss_cons (ps_set (i := 7) sc_pairs.nd rfl (Or.inl rfl) (pcall h3 hr (by decide) rfl (pa_cons (pv 0) (pa_cons (pcall h5 hr (by decide) rfl (pa_cons (pv 6) (pa_cons (pv 3) pa_nil))) (pa_cons (pv 3) pa_nil)))))
      (pss_one (ps_expr (pe_bm PySem.F.plainAttrs_list PySem.F.slot_list_append PySem.F.type_list_append mt_append (pv 4) (pa_cons (peW' (t' := tPk) (pe_ix ix_list (pe_lst (pa_cons (pe_tup (pa_cons (pv 6) (pa_cons (pv 7) pa_nil))) (pa_cons (pe_tup (pa_cons (pv 7) (pa_cons (pv 6) pa_nil))) pa_nil))) (pcall h1 hr (by decide) rfl (pa_cons (pv 0) (pa_cons pe_int pa_nil))) (fun _ _=>rfl)) ?w2) pa_nil)))))))
    (pss_one (ps_ret (pv 4)))),?_⟩
  case w1 =>
    rintro σ H Q ⟨p,cl,d,k,kvs,e0,e3,hp,hk,hd,q⟩
    refine ⟨_,e0,small (by show 2 ≤ 1000000; decide),fun l nl=>?_⟩
    have s1 := same_new nl (.lst [.int 5, .int 12])
    have g1 := growP_same hp s1
    refine ⟨_,e3,d,kvs,rfl,s1 _ _ hd,_,_,rfl,rfl, .inr ⟨_,rfl,?_⟩⟩
    have go : ∀ (M : Int),0 < M → M ≤ 12 → ∀ e H4,0 ≤ e → e < M → GrowP p cl (k + 1) (upd H l (.lst [.int 5, .int 12])) H4 → Q (.int e) H4 := fun M m0 m1 e H4 a0 a1 g4=>by
      have := q e.toNat H4 (by omega) (g1.trans g4)
      rw [show ((e.toNat : Nat) : Int) = e by omega] at this
      exact this
    split
    · exact ⟨l,_,1, .int 12,rfl,rfl,SqL.of upd_same,atI_nat (j := 1) rfl,p,cl,k,12,rfl,hp.same s1,by omega,by decide,by decide,go 12 (by decide) (by decide)⟩
    · exact ⟨l,_,0, .int 5,rfl,rfl,SqL.of upd_same,atI_nat (j := 0) rfl,p,cl,k,5,rfl,hp.same s1,by omega,by decide,by decide,go 5 (by decide) (by decide)⟩
  case w2 =>
    rintro σ H Q ⟨p,cl,k,v1,v2,t1,t2,e0,e6,e7,hp,hk,r1,r2,q⟩
    refine ⟨_,e6,_,e7,small (by show 2 ≤ 1000000; decide),fun p1 n1=>⟨_,e7,_,e6,small (by show 2 ≤ 1000000; decide),fun p2 n2=>⟨small (by show 2 ≤ 1000000; decide),fun l nl=>?_⟩⟩⟩
    have s1 := same_new n1 (.tup [v1,v2])
    have s2 := same_new n2 (.tup [v2,v1])
    have s3 := same_new nl (.lst [.ref p1, .ref p2])
    have s13 := s1.trans (s2.trans s3)
    have g3 := growP_same hp s13
    have hp3 := hp.same s13
    have nlp := (hp.same (s1.trans s2)).fresh nl
    refine ⟨_,e0,p,cl,k,2,rfl,hp3,by omega,by decide,by decide,fun e H4 a0 a1 g4=>?_⟩
    have hl4 := g4.keep _ _ nlp.1 upd_same
    have tu := g4.tups hp3
    have c1 : H4 p1 = some (.tup [v1,v2]) := tu _ _ (s3 _ _ (s2 _ _ upd_same))
    have c2 : H4 p2 = some (.tup [v2,v1]) := tu _ _ (s3 _ _ upd_same)
    have r1' := (r1.same s13).mono tu
    have r2' := (r2.same s13).mono tu
    have hh : e = 0 ∨ e = 1 := by omega
    rcases hh with rfl | rfl
    · exact ⟨l,_,0, .ref p1,rfl,rfl,SqL.of hl4,atI_nat (j := 0) rfl,q _ (t1,t2) H4 (.tup c1 (.cons r1' (.cons r2' .nil))) (.inl rfl) (g3.trans g4)⟩
    · exact ⟨l,_,1, .ref p2,rfl,rfl,SqL.of hl4,atI_nat (j := 1) rfl,q _ (t2,t1) H4 (.tup c2 (.cons r2' (.cons r1' .nil))) (.inr rfl) (g3.trans g4)⟩
  refine ⟨small (by show 0 ≤ 1000000; decide),fun l0 hl0=>?_⟩
  have s1 := same_new hl0 (.lst [])
  have nl0 := hp.fresh hl0
  have g1 := growP_same hp s1
  refine ⟨p,cl,d,k,kvs,rfl,rfl,hp.same s1,by omega,s1 _ _ hd,fun c H2 hc g2=>⟨_,_,rfl,rfl,_,rfl,by omega,by omega,?_⟩⟩
  rw [show ((1 : Int) + (c : Int)).toNat = c + 1 by omega]
  have l02 : H2 l0 = some (.lst []) := g2.keep _ _ nl0.1 upd_same
  have g12 := g1.trans g2
  have F5 := FQ5
  refine for_range (n := c + 1) (fun i σ H'=>∃ (o5 o6 o7 : Option V) (ps : List V) (prs : List (T × T)),σ = [some (.ref p),some (.ref la),some (.ref ha),some (.ref d),some (.ref l0),o5,o6,o7] ∧ GrowP p cl (k + 1 + i * 4900) H H' ∧ H' l0 = some (.lst ps) ∧ Reps H' ps (prs.map pT) ∧ (∀ p ∈ prs,PR zs m p) ∧ prs.length = i)
    ⟨none,none,none,[],[],rfl,g12.up (by omega),l02, .nil,(fun p h=>by cases h),rfl⟩ ?_ ?_
  · rintro i σ H3 hi ⟨o5,o6,o7,ps,prs,rfl,g,hl,rp,pk,lp⟩
    have i49 : i * 4900 ≤ 11 * 4900 := Nat.mul_le_mul_right _ (by omega)
    refine ⟨_,rfl,_,rfl,_,rfl,_,rfl,p,cl,k + 1 + i * 4900,3,rfl,g.ok,by omega,by decide,by decide,fun e H4 a0 a1 g4=>⟨_,_,rfl,rfl,?_⟩⟩
    obtain ⟨e,rfl⟩ : ∃ e' : Nat,e = (e' : Int) := ⟨e.toNat,by omega⟩
    have dq := DQ3 (1 + e) (by omega)
    have bq := BQ3 (1 + e) (by omega)
    have src4 := (src.grow g hp).grow g4 g.ok
    refine ⟨1 + e,by omega,p,cl,la,ha,k + 1 + i * 4900 + 1,zs,hvs,hs,rfl,g4.ok,by omega,src4,fun v t H5 kt vt rt st g5=>?_⟩
    have g35 := (g.trans g4).trans g5
    have hd5 := g35.keep _ _ ndp hd
    have dr5 := dr.mono (g35.tups hp)
    refine ⟨_,rfl,_,rfl,_,rfl,v,d,t,kvs,m,rfl,rt,kt.up (m := 3) (by omega),hd5,dr5,fun v2 H6 s6 r6=>?_⟩
    have g6 := growP_same g5.ok s6
    have g36 := g35.trans g6
    refine ⟨_,rfl,p,cl,d,k + 1 + i * 4900 + 1 + DQ (1 + e),v2,fillT m t,kvs,m,zs,rfl,g6.ok,(show k + 1 + i * 4900 + 1 + DQ (1 + e) + FQ 5 ≤ 1000000000 by omega),r6,(KD.fill (n := 1 + e) (k := 2) (fun x hx=>jn.nm.kd x hx) kt).up (m := 5) (by omega),vl_fill jn.vl vt,fill_idem jn.st kt,s6 _ _ hd5,ndp,dr5.mono (Same.tups s6),jn.nm,(show 5 ≤ 50 by decide),fun v' t' H7 k' l' f' s' r' g7=>?_⟩
    have g37 := g36.trans g7
    have hl7 : H7 l0 = some (.lst ps) := g7.keep _ _ nl0.1 (g6.keep _ _ nl0.1 (g5.keep _ _ nl0.1 (g4.keep _ _ nl0.1 hl)))
    have g47 := ((g4.trans g5).trans g6).trans g7
    refine ⟨_,rfl, .inl ⟨rfl,_,SqL.of hl7⟩,p,cl,k + 1 + i * 4900 + 1 + DQ (1 + e) + FQ 5,v,v',t,t',rfl,rfl,rfl,g7.ok,by omega,((rt.same s6).growP g7 g6.ok),r',fun vp pr H8 rv hpr g8=>?_⟩
    have hl8 := g8.keep _ _ nl0.1 hl7
    have lps := rp.length
    rw [List.length_map] at lps
    refine ⟨l0,ps,vp,rfl,rfl,hl8,small' (by omega),?_⟩
    have tu : ∀ c0 xs,H8 c0 = some (.tup xs) → (upd H8 l0 (.lst (ps ++ [vp]))) c0 = some (.tup xs) := fun c0 xs h=>by rw [upd_ne (ne_of h hl8 (by intro z; cases z))]; exact h
    have zf : (fillT m t).sz ≤ 1000 := by
      have h1 := szFillLe (m := m) (S := 17) (by decide) (fun x hx=>jn.sz x hx) kt
      have h2 : t.sz * 17 ≤ 53 * 17 := Nat.mul_le_mul_right _ (by omega)
      omega
    have P1 : PR zs m (t,t') := ⟨kt.up (by omega),k',vt,l',f'.symm,zf⟩
    have P2 : PR zs m (t',t) := ⟨k',kt.up (by omega),l',vt,f',by show (fillT m t').sz ≤ 1000; rw [f']; exact zf⟩
    refine ⟨_,_,_,ps ++ [vp],prs ++ [pr],rfl,⟨fun c0 o nc h=>?_,((g8.ok.upd nl0.1 nl0.2)).mono (by rw [Nat.add_mul]; omega)⟩,upd_same,?_,fun y hy=>?_,by simp [lp]⟩
    · rw [upd_ne (ne_of_none h hl0)]
      exact (g37.trans g8).keep c0 o nc h
    · rw [List.map_append]
      exact (((rp.growP g47 g.ok).growP g8 g7.ok).mono tu).append (.cons (rv.mono tu) .nil)
    · rcases List.mem_append.mp hy with h | h
      · exact pk y h
      · rw [List.mem_singleton.mp h]
        rcases hpr with rfl | rfl
        · exact P1
        · exact P2
  · rintro σ H3 ⟨o5,o6,o7,ps,prs,rfl,g,hl,rp,pk,lp⟩
    have i49 : (c + 1) * 4900 ≤ 12 * 4900 := Nat.mul_le_mul_right _ (by omega)
    exact ⟨_,rfl,q l0 ps prs H3 hl0 hl rp pk (by omega) (g.up (by omega))⟩
end
end Fw
set_option Elab.async false
set_option linter.all false
set_option maxRecDepth 100000
namespace Fw
open PySem PySem.Spec PyProof.Rows L2
def NmOk (U zs : List Str) : Prop := zs.Nodup ∧ ∀ z ∈ zs,z ∈ U ∧ openT (.str z) = true ∧ z.length ≤ 80
theorem nm_len {U zs : List Str} (h : NmOk U zs) : zs.length ≤ U.length := nd_len h.1 fun z hz=>(h.2 z hz).1
theorem nm_snoc {U zs : List Str} (h : NmOk U zs) {z : Str} (hz : z ∈ U ∧ openT (.str z) = true ∧ z.length ≤ 80) (c : z ∉ zs) : NmOk U (zs ++ [z]) := by
  refine ⟨?_,fun y hy=>?_⟩
  · rw [List.nodup_append]
    exact ⟨h.1,by simp,fun a ha b hb e=>c (by rw [List.mem_singleton.mp hb] at e; rw [← e]; exact ha)⟩
  · rcases List.mem_append.mp hy with e | e
    · exact h.2 y e
    · rw [List.mem_singleton.mp e]; exact hz
def spNames : Sp := fun vs H Q _=>∃ (lp : Addr) (pvs : List V) (prs : List (T × T)) (U : List Str),vs = [.ref lp] ∧ H lp = some (.lst pvs) ∧ Reps H pvs (prs.map pT) ∧ (∀ p ∈ prs,(Gd 5 U p.1 ∧ p.1.sz ≤ 100000) ∧ (Gd 5 U p.2 ∧ p.2.sz ≤ 100000)) ∧ U.length ≤ 100 ∧
  ∀ (l : Addr) (zs : List Str) H',Same H H' → H l = none → H' l = some (.lst (zs.map V.str)) → NmOk U zs → (∀ p ∈ prs,∀ y,Vin y p.1 ∨ Vin y p.2 → y ∈ zs) → Q (.ref l) H'
section
variable {P : Program} {w : World} {K : PySem.W.Frag} {mg : Str → Option Value} {base : Heap} {f : Addr} {fd : FuncData}
abbrev s_names : Stmt := top 29
abbrev nN : List Str := ["_law_pairs_here","_law_some","_law_pair","_law_kind_here"]
theorem sc_names : FnScope nN ["_law_pairs_here"] (defScope s_names) := ⟨rfl,rfl,rfl,by decide +kernel,rfl,by decide +kernel,by decide +kernel⟩
set_option maxHeartbeats 2000000 in
theorem ok_names (F : Fun K "_law_names" "_law_names" s_names f fd) (h1 : Has P w K mg base 1 "_law_standing" ["_law_kind_here"] spVars) : FnOk P w K mg base CX0 2 f fd ["_law_pairs_here"] spNames := by
  refine F.ok sc_names (fun vs H Q E h=>?_) (fun cdv A outer s H vs Q E hr h=>?_)
  · obtain ⟨lp,pvs,prs,U,rfl,_⟩ := h
    rfl
  obtain ⟨lp,pvs,prs,U,rfl,hlp,rps,pok,lU,q⟩ := h
  refine ⟨_,pss_cons (ps_set (i := 1) sc_names.nd rfl (Or.inr rfl) (pe_lst pa_nil))
    (pss_cons (ps_for PassesOwn.never rfl (pi_list (pv 0)) (pg_name (i := 2) sc_names.nd rfl (Or.inl rfl))
      (pss_one (ps_for PassesOwn.never rfl (pi_tup (pv 2)) (pg_name (i := 3) sc_names.nd rfl (Or.inl rfl))
        (pss_one (ps_expr (pe_bm PySem.F.plainAttrs_list PySem.F.slot_list_extend PySem.F.type_list_extend mt_extend (pv 1) (pa_cons
          (pe_lc (defScope s_names) nN ["_law_some"] [1] (by decide +kernel) (pi_list (pcall h1 hr (by decide) rfl (pa_cons (pv 3) pa_nil)))
            (fun C' s₀ H₀ ex=>pts_one (pt_cmpR (r := rIn K true) op_notIn_seq (pv 0) (pv 1) (by with_unfolding_all rfl))) (fun C' s₀ H₀ ex=>pv 0)) pa_nil)))))))
    (pss_one (ps_ret (pv 1)))),?_⟩
  refine ⟨small (by show 0 ≤ 1000000; decide),fun l0 hl0=>?_⟩
  have s1 := same_new hl0 (.lst [])
  have nl : lp ≠ l0 := ne_of_none hlp hl0
  refine ⟨_,rfl,lp,rfl,⟨_,SqL.of (s1 _ _ hlp)⟩,?_⟩
  refine for_list (xs := pvs) (fun i σ H'=>∃ (o2 o3 : Option V) (zs : List Str),σ = [some (.ref lp),some (.ref l0),o2,o3] ∧ Same H H' ∧ H' l0 = some (.lst (zs.map V.str)) ∧ NmOk U zs ∧ ∀ p ∈ prs.take i,∀ y,Vin y p.1 ∨ Vin y p.2 → y ∈ zs)
    ⟨none,none,[],rfl,s1,upd_same,⟨List.nodup_nil,(fun z h=>by cases h)⟩,(fun p h=>by cases h)⟩ ?_ ?_ ?_
  · rintro i σ H' _ ⟨o2,o3,zs,rfl,s,_⟩
    exact SqL.of (s _ _ hlp)
  · rintro i x σ H2 hx ⟨o2,o3,zs,rfl,s2,hl2,nm,cv2⟩
    obtain ⟨t,ht,rx⟩ := rps.at2 hx
    rw [List.getElem?_map] at ht
    cases hp : prs[i]? with
    | none=>rw [hp] at ht; cases ht
    | some pr =>
      rw [hp] at ht
      cases ht
      have po := pok pr (List.mem_of_getElem? hp)
      have rx2 := rx.same s2
      cases rx2 with
      | @tup pa vv _ hpa rr =>
        have hpa0 : H pa = some (.tup vv) := by
          cases rx with
          | @tup _ _ _ h0 _ =>
            have := s2 _ _ h0
            rw [hpa] at this
            cases this
            exact h0
        have lr := rr.length
        refine ⟨_,rfl,pa,rfl,⟨_,SqT.of hpa⟩,?_⟩
        refine for_tup (xs := vv) (fun j σ H'=>∃ (o3 : Option V) (zs : List Str),σ = [some (.ref lp),some (.ref l0),some (.ref pa),o3] ∧ Same H H' ∧ H' l0 = some (.lst (zs.map V.str)) ∧ NmOk U zs ∧ (∀ p ∈ prs.take i,∀ y,Vin y p.1 ∨ Vin y p.2 → y ∈ zs) ∧ ∀ t ∈ [pr.1,pr.2].take j,∀ y,Vin y t → y ∈ zs)
          ⟨o3,zs,rfl,s2,hl2,nm,cv2,(fun t h=>by cases h)⟩ ?_ ?_ ?_
        · rintro j σ H' _ ⟨o3,zs,rfl,s,_⟩
          exact SqT.of (s _ _ hpa0)
        · rintro j v σ H3 hv ⟨o3,zs,rfl,s3,hl3,nm3,cv3,cw3⟩
          obtain ⟨t,ht,rv⟩ := rr.at2 hv
          have gt : Gd 5 U t ∧ t.sz ≤ 100000 := by
            rcases List.mem_cons.mp (List.mem_of_getElem? ht) with e | e
            · rw [e]; exact po.1
            · rw [List.mem_singleton.mp e]; exact po.2
          have rv3 : Rep H3 v t := by
            obtain ⟨t0,ht0,rv0⟩ : ∃ t0,[pr.1,pr.2][j]? = some t0 ∧ Rep H v t0 := by
              cases rx with
              | @tup _ _ _ h0 r0 =>
                have := s2 _ _ h0
                rw [hpa] at this
                cases this
                exact r0.at2 hv
            rw [ht] at ht0
            cases ht0
            exact rv0.same s3
          refine ⟨_,rfl, .inl ⟨rfl,_,SqL.of hl3⟩,_,rfl,v,t,5,rfl,rv3,gt.1.1,gt.2,fun lv H4 s4 lv0 hlv len=>?_⟩
          refine ⟨lv,rfl,⟨_,SqL.of hlv⟩,?_⟩
          have hl4 := s4 _ _ hl3
          have nmlen : ∀ ys,NmOk U (zs ++ ys) → zs.length + ys.length ≤ 100 := fun ys h=>by
            have := nm_len h
            rw [List.length_append] at this
            omega
          refine comp_lst (xs := (vs_ t).map V.str) (fun i vs H'=>H' = H4 ∧ ∃ ys : List Str,vs = ys.map V.str ∧ NmOk U (zs ++ ys) ∧ (∀ y ∈ ys,y ∈ (vs_ t).take i) ∧ ∀ y ∈ (vs_ t).take i,y ∈ zs ++ ys) ⟨rfl,[],rfl,by simpa using nm3,(fun y h=>by cases h),(fun y h=>by cases h)⟩ ?_ ?_ ?_
          · rintro i vs H' hi ⟨rfl,ys,rfl,ok,_⟩
            refine ⟨SqL.of hlv,small' ?_⟩
            rw [List.length_map]
            have := nmlen ys ok
            omega
          · rintro i x vs H' hlt hx ⟨rfl,ys,rfl,ok,sub,cov⟩
            rw [List.getElem?_map] at hx
            cases hz : (vs_ t)[i]? with
            | none=>rw [hz] at hx; cases hx
            | some z =>
              rw [hz] at hx
              cases hx
              have mz := mem_vs.mp (List.mem_of_getElem? hz)
              have et : (vs_ t).take (i + 1) = (vs_ t).take i ++ [z] := by rw [List.take_add_one,hz]; rfl
              have zn : z ∉ (vs_ t).take i := fun h=>by
                have h2 : ((vs_ t).take (i + 1)).Nodup := (vs_nd t).sublist (List.take_sublist _ _)
                rw [et,List.nodup_append] at h2
                exact h2.2.2 z h z (by simp) rfl
              refine ⟨_,rfl,_,rfl,l0,_,rfl, .inl (SqL.of hl4),rfl,flat_strs _,?_⟩
              rw [inV_str]
              refine ⟨_,rfl,?_⟩
              by_cases c : z ∈ zs
              · rw [decide_eq_true c]
                exact iteF (nx hlt ⟨rfl,ys,rfl,ok,(fun y hy=>by rw [et]; exact List.mem_append_left _ (sub y hy)),fun y hy=>by
                  rw [et] at hy
                  rcases List.mem_append.mp hy with h | h
                  · exact cov y h
                  · rw [List.mem_singleton.mp h]; exact List.mem_append_left _ c⟩)
              · rw [decide_eq_false c]
                refine iteT ⟨_,rfl,nx hlt ⟨rfl,ys ++ [z],by rw [List.map_append]; rfl,?_,fun y hy=>?_,fun y hy=>?_⟩⟩
                · rw [← List.append_assoc]
                  refine nm_snoc ok (vin_open gt.1 mz) fun h=>?_
                  rcases List.mem_append.mp h with h | h
                  · exact c h
                  · exact zn (sub z h)
                · rw [et]
                  rcases List.mem_append.mp hy with h | h
                  · exact List.mem_append_left _ (sub y h)
                  · exact List.mem_append_right _ h
                · rw [et] at hy
                  rw [← List.append_assoc]
                  rcases List.mem_append.mp hy with h | h
                  · exact List.mem_append_left _ (cov y h)
                  · exact List.mem_append_right _ h
          · rintro vs H' ⟨rfl,ys,rfl,ok,_,cov⟩ lc hlc
            have s5 := same_new hlc (.lst (ys.map V.str))
            have hl5 := s5 _ _ hl4
            refine ⟨l0,lc,_,_,rfl,rfl,hl5,upd_same,small ?_,?_⟩
            · rw [List.length_map,List.length_map]
              have := nmlen ys ok
              omega
            · rw [List.length_map,List.take_length] at cov
              refine ⟨_,zs ++ ys,rfl,fun c o h=>?_,by rw [upd_same,List.map_append],ok,fun p hp y hy=>List.mem_append_left _ (cv3 p hp y hy),fun t' ht' y hy=>?_⟩
              · rw [upd_ne (ne_of_none h hl0)]
                exact s5 _ _ (s4 _ _ (s3 _ _ h))
              · rw [List.take_add_one,ht] at ht'
                rcases List.mem_append.mp ht' with h | h
                · exact List.mem_append_left _ (cw3 t' h y hy)
                · have e : t' = t := by simpa using h
                  rw [e] at hy
                  exact cov y (mem_vs.mpr hy)
        · rintro σ H3 ⟨o3,zs,rfl,s3,hl3,nm3,cv3,cw3⟩
          have l2 : vv.length = 2 := by rw [lr]; rfl
          rw [l2] at cw3
          refine ⟨_,_,zs,rfl,s3,hl3,nm3,fun p hp' y hy=>?_⟩
          rw [List.take_add_one,hp] at hp'
          rcases List.mem_append.mp hp' with h | h
          · exact cv3 p h y hy
          · have e : p = pr := by simpa using h
            subst e
            rcases hy with h | h
            · exact cw3 p.1 (by simp) y h
            · exact cw3 p.2 (by simp) y h
  · rintro σ H2 ⟨o2,o3,zs,rfl,s2,hl2,nm,cv2⟩
    have lpv := rps.length
    rw [List.length_map] at lpv
    rw [lpv,List.take_length] at cv2
    exact ⟨_,rfl,q l0 zs H2 s2 hl0 hl2 nm cv2⟩
end
end Fw
set_option Elab.async false
set_option linter.all false
set_option maxRecDepth 100000
namespace L2
open PySem PySem.Spec PyProof.Rows PySem.W
theorem valV_self {κ : Type} [DecidableEq κ] : ∀ {kvs : List (κ × V)},(kvs.map (·.1)).Nodup → ∀ kv ∈ kvs,valV kvs kv.1 = some kv.2
  | [],_,_,h=>by cases h
  | p :: r,nd,kv,h=>by
    rw [List.map_cons,List.nodup_cons] at nd
    rcases List.mem_cons.mp h with e | h
    · subst e
      exact valV_pos rfl
    · rw [valV_neg fun e=>nd.1 (by rw [e]; exact List.mem_map_of_mem h)]
      exact valV_self nd.2 kv h
theorem hits_self {A : Around} {s : Shared} {kvs : List (Key × V)} {vb : List (Key × Value)} (rel : KV kvs vb) (fl : ∀ kv ∈ kvs,(∃ z,kv.2 = .str z) ∨ ∃ c,kv.2 = .ref c) (sf : ∀ kv ∈ kvs,valV kvs kv.1 = some kv.2) :
    ∀ {sub : List (Key × V)} {va : List (Key × Value)},KV sub va → (∀ kv ∈ sub,kv ∈ kvs) → KeqHits A s vb va true
  | _,_, .nil,_=>.nil
  | (k,x) :: r,(k',v) :: va, .cons h q,m=>by
    obtain ⟨h1,h2⟩ := h
    have h1' : k = k' := h1
    subst h1'
    have hm := m (k,x) List.mem_cons_self
    have hv := rel.val k
    rw [sf _ hm] at hv
    have ih := hits_self (A := A) (s := s) rel fl sf q fun kv hk=>m kv (List.mem_cons_of_mem _ hk)
    cases hy : valueAt vb k with
    | none=>rw [hy] at hv; exact hv.elim
    | some y =>
      rw [hy] at hv
      have hv' : RelV x y := hv
      have h2' : RelV x v := h2
      have eq : SeqAt.EqAt A s v y true := by
        rcases fl _ hm with ⟨z,e⟩ | ⟨c,e⟩
        · have e' : x = .str z := e
          subst e'
          obtain ⟨t1,rfl⟩ := hv'
          obtain ⟨t2,rfl⟩ := h2'
          have := SeqAt.EqAt.str_str (A := A) (s := s) z t2 z t1
          rw [beq_self_eq_true] at this
          exact this
        · have e' : x = .ref c := e
          subst e'
          cases hv'
          cases h2'
          exact SeqAt.EqAt.same _
      exact .hit (e := true) (b := true) hy eq ih
theorem mt_clearD {X : Cx} : MtR X "dict.clear" (fun x xs H Q=>∃ a kvs,x = V.ref a ∧ xs = [] ∧ H a = some (.dK kvs) ∧ Q .non (upd H a (.dK []))) := by
  intro pins s σ H x xs v us Q I rx rs h
  obtain ⟨a,kvs,rfl,rfl,e,q⟩ := h
  cases rx
  cases rs
  exact d_clear I e fun s' I'=>⟨.non,_,I',rfl,q⟩
end L2
set_option Elab.async false
set_option linter.all false
set_option maxRecDepth 100000
namespace L2
open PySem PySem.Spec PyProof.Rows
section
variable {X : Cx}
theorem call_any (hc : X.calm = true) : CallR X (.builtin "any") (fun xs H Q=>∃ (p : Addr) (bs : List Bool),xs = [.ref p] ∧ SqL X.K H p (bs.map V.bl) ∧ Q (.bl (bs.any id)) H) := by
  intro pins s σ H xs us Q I r h
  obtain ⟨p,bs,rfl,hq,q⟩ := h
  obtain ⟨u,rfl,rx⟩ := vals1 r
  cases rx
  obtain ⟨its,r',pl,hz⟩ := I.list hq
  have hl := pl.isList
  have hb := boolsAre_of r'
  have hlt : p < s.heap.objs.size := by obtain ⟨_,e,_⟩ := hl; exact Heap.lt_size e
  refine call_any_walk (wpAny_pyIter_list hl ?_)
  refine ⟨s.heap.objs.size,[s.heap.objs.size,p],[s.heap.objs.size],its.toArray.size,_,_,fun i=>(bs[i]?).getD false,rfl,Walks.list (A := X.A.in1) (I.ok.hd hc) _ p (Nat.ne_of_lt hlt) its.toArray,
    ⟨⟨_,Heap.get?_push_size _ rfl,rfl,rfl⟩,hl.push _⟩,fun i v s' Q' E' hP hQ=>?_,fun h' tk hk=>?_⟩
  · obtain ⟨b,e,rfl⟩ := hb.get i v (by simpa using hP)
    simp only [e,Option.getD_some] at hQ
    exact wpAny_truthy_bool hQ
  · have e : ((List.range its.toArray.size).any fun i=>(bs[i]?).getD false) = bs.any id := by
      rw [List.size_toArray,hb.length]; exact LSm.range_any bs
    rw [e]
    exact ⟨.bl (bs.any id),H,I.kept (LSm.kept_iter hk),rfl,q⟩
theorem op_neLI (hu : X.A.units < cLine) : OpR X (compareOp .NotEq) (fun x y H Q=>∃ (a b : Addr) (xs : List V),x = .ref a ∧ y = .ref b ∧ H a = some (.lst xs) ∧ H b = some (.lst xs) ∧ (∀ v ∈ xs,∃ r : Addr,v = .ref r) ∧ Q (.bl false) H) := by
  intro pins s σ H x y v u Q I rx ry h
  obtain ⟨a,b,xs,rfl,rfl,ha,hb,hr,q⟩ := h
  cases rx
  cases ry
  obtain ⟨its1,v1,p1,z1⟩ := I.list (SqL.of (K := X.K) ha)
  obtain ⟨its2,v2,p2,z2⟩ := I.list (SqL.of (K := X.K) hb)
  have l1 := v1.length
  have l2 := v2.length
  have e1 : its1.toArray.size = its2.toArray.size := by simp; omega
  have q' := SeqAt.RcNeAt.lists (A := X.A) (s := s) (e := fun _=>true) p1.isList p2.isList e1 hu fun j h1 h2=>?_
  · have e2 : (List.range its1.toArray.size).all (fun _=>true) = true := by simp
    first
      | (rw [e2] at q'; exact q' X.prog X.w _ _ ⟨.bl false,H,I,rfl,q⟩)
      | exact q' X.prog X.w _ _ ⟨.bl false,H,I,by simp,q⟩
  · have h1' : j < its1.length := by simpa using h1
    have h2' : j < its2.length := by simpa using h2
    obtain ⟨x',hx'⟩ : ∃ x',xs[j]? = some x' := ⟨xs[j]'(by omega),List.getElem?_eq_getElem _⟩
    obtain ⟨u1,hu1,ru1⟩ := v1.get hx'
    obtain ⟨u2,hu2,ru2⟩ := v2.get hx'
    obtain ⟨r,rfl⟩ := hr x' (List.mem_of_getElem? hx')
    cases ru1
    cases ru2
    have e1 : its1.toArray[j] = .ref r := by
      have := (List.getElem?_eq_some_iff.mp hu1).2
      simpa using this
    have e2 : its2.toArray[j] = .ref r := by
      have := (List.getElem?_eq_some_iff.mp hu2).2
      simpa using this
    rw [e1,e2]
    exact SeqAt.EqAt.same _
theorem op_eqE (hu : X.A.units < cLine) : OpR X (compareOp .Eq) (fun x y H Q=>∃ a b,x = V.ref a ∧ y = V.ref b ∧ H a = some (.dK []) ∧ H b = some (.dK []) ∧ Q (.bl true) H) := by
  intro pins s σ H x y v u Q I rx ry h
  obtain ⟨a,b,rfl,rfl,ha,hb,q⟩ := h
  cases rx
  cases ry
  obtain ⟨z1,d1,va,rel1,dd1⟩ := dk_of I.hok ha
  obtain ⟨z2,d2,vb,rel2,dd2⟩ := dk_of I.hok hb
  have l1 := rel1.length
  have l2 := rel2.length
  have nd : (([] : List (Key × V)).map (·.1)).Nodup := by simp
  refine PySem.W.keq_eq d1 d2 dd1 dd2 hu (r := true) (fun _=>hits_self rel2 (fun kv h=>by cases h) (valV_self nd) rel1 fun _ h=>h) ?_
  rw [← l1,← l2,beq_self_eq_true]
  exact ⟨.bl true,H,I,rfl,q⟩
end
end L2
set_option Elab.async false
set_option linter.all false
set_option maxRecDepth 100000
namespace Fw
open PySem PySem.Spec PyProof.Rows L2
def spIsK (n : Nat) : Sp := fun vs H Q _=>∃ (v : V) (t : T) (ln : Addr) (zs : List Str),vs = [v, .ref ln] ∧ Rep H v t ∧ KD n t ∧ H ln = some (.lst (zs.map V.str)) ∧ (∀ y,Vin y t → y ∈ zs) ∧ ∀ H',Same H H' → Q (.bl true) H'
def spIsKN : Nat → Sp
  | 0=>fun _ _ _ _=>False
  | n + 1=>spIsK n
section
variable {P : Program} {w : World} {K : PySem.W.Frag} {mg : Str → Option Value} {base : Heap} {f : Addr} {fd : FuncData}
abbrev s_isk : Stmt := top 30
abbrev pIk : List Str := ["_law_kind_here","_law_names_here"]
theorem sc_isk : FnScope pIk pIk (defScope s_isk) := ⟨rfl,rfl,rfl,by decide +kernel,rfl,by decide +kernel,by decide +kernel⟩
set_option maxHeartbeats 2000000 in
theorem ok_isk {n : Nat} (F : Fun K "_law_is_kind" "_law_is_kind" s_isk f fd) (mi : mg "isinstance" = none) (mt : mg "tuple" = none) (ms : mg "str" = none) (ml : mg "len" = none) (ma : mg "all" = none)
    (h1 : Has P w K mg base n "_law_is_kind" pIk (spIsKN n)) : FnOk P w K mg base CX0 (n + 1) f fd pIk (spIsK n) := by
  refine F.ok sc_isk (fun vs H Q E h=>?_) (fun cdv A outer s H vs Q E hr h=>?_)
  · obtain ⟨v,t,ln,zs,rfl,_⟩ := h
    rfl
  obtain ⟨v,t,ln,zs,rfl,rt,kt,hln,hy,q⟩ := h
  refine ⟨_,pss_cons (ps_if (pt_val (pe_callB call_isi rfl mi boot_isinstance (pa_cons (pv 0) (pa_cons (pe_bltn (v := .ty "tuple") rfl mt boot_tuple rfl) pa_nil))))
      (pss_one (ps_ret (pe_and (pe_chain op_le op_le pe_int (pe_callB call_len_seq rfl ml PySem.boot_len (pa_cons (pv 0) pa_nil)) pe_int)
        (pe_and (pe_callB call_isi rfl mi boot_isinstance (pa_cons (pe_ix ix_tup (pv 0) pe_int (fun _ _=>rfl)) (pa_cons (pe_bltn (v := .ty "str") rfl ms boot_str rfl) pa_nil)))
        (pe_one (pe_callB (call_all rfl) rfl ma boot_all (pa_cons (pe_lc (defScope s_isk) pIk ["_law_names_here"] [1] (by decide +kernel) (pi_tup (pe_slice sl_tup (pv 0) (po_some pe_int) po_none)) (fun C s₀ H₀ ex=>pts_nil)
          (fun C s₀ H₀ ex=>pcall h1 hr (Nat.le_refl _) rfl (pa_cons (pv 0) (pa_cons (pv 1) pa_nil)))) pa_nil))))))) pss_nil)
    (pss_one (ps_ret (pe_and (pe_callB call_isi rfl mi boot_isinstance (pa_cons (pv 0) (pa_cons (pe_bltn (v := .ty "str") rfl ms boot_str rfl) pa_nil)))
      (pe_one (pe_or (pe_not (pe_bm PySem.F.plainAttrs_str PySem.F.slot_str_startswith PySem.F.type_str_startswith mt_startswith (pv 0) (pa_cons pe_str pa_nil))) (pe_one (pe_cmpR op_in_seq (pv 0) (pv 1) (by with_unfolding_all rfl)))))))),?_⟩
  refine ⟨_,rfl,_,_,_,_,rfl,rep_ty rt,kit_tup K t,_,rfl,?_⟩
  cases kt with
  | @leaf _ z hz =>
    refine iteF ?_
    cases rt
    refine ⟨_,rfl,_,_,_,_,rfl, .str z,kit_str K (.str z),true,rfl,iteT ?_⟩
    refine ⟨_,rfl,rfl,z,"?",rfl,rfl,_,rfl,?_⟩
    cases c : Txt.startswith z "?" with
    | false=>exact ⟨true,rfl,iteT (q _ (Same.refl _))⟩
    | true =>
      refine ⟨false,rfl,iteF ⟨_,rfl,_,rfl,ln,_,rfl, .inl (SqL.of hln),rfl,flat_strs _,?_⟩⟩
      rw [if_neg (show ¬ (false = true) by decide),inV_str,decide_eq_true (hy z (vin_str.mpr ⟨rfl,c⟩))]
      exact q _ (Same.refl _)
  | @tup j z ks nz k1 k3 hk =>
    refine iteT ?_
    cases rt with
    | @tup a xs _ ha rr =>
      cases rr with
      | @cons v0 _ vr _ r0 rr =>
        cases r0
        have lr := rr.length
        refine ⟨_,rfl,a,_,rfl, .inr (SqT.of ha),_,_,rfl,rfl,_,rfl,?_⟩
        have c1 : (2 : Int) ≤ ((V.str z :: vr).length : Nat) := by simp; omega
        have c2 : (((V.str z :: vr).length : Nat) : Int) ≤ 4 := by simp; omega
        rw [decide_eq_true c1]
        refine iteT ⟨_,_,rfl,rfl,true,?_,iteT ?_⟩
        · show V.bl (decide _) = V.bl true; rw [decide_eq_true c2]
        refine ⟨_,rfl,a,_,0, .str z,rfl,rfl,SqT.of ha,atI_nat (j := 0) rfl,_,_,_,_,rfl, .str z,kit_str K (.str z),true,rfl,iteT ?_⟩
        refine ⟨_,rfl,1,rfl,a,_,rfl,SqT.of ha,cutq_not (vs := V.str z :: vr) (n := 1) (by simp) (Nat.le_refl _),fun p1 hp1=>?_⟩
        rw [show cutV (V.str z :: vr) (some 1) none = vr from cutq (V.str z :: vr) 1]
        have s1 := same_new hp1 (.tup vr)
        refine ⟨p1,rfl,⟨_,SqT.of upd_same⟩,comp_tup (xs := vr) (fun i ws H'=>Same (upd H p1 (.tup vr)) H' ∧ ws = List.replicate i (V.bl true)) ⟨Same.refl _,rfl⟩ ?_ ?_ ?_⟩
        · rintro i ws H' hi ⟨s2,rfl⟩
          exact ⟨SqT.of (s2 _ _ upd_same),small' (by rw [List.length_replicate]; omega)⟩
        · rintro i x ws H' hi hx ⟨s2,rfl⟩
          obtain ⟨t,ht,rx⟩ := rr.at2 hx
          have s12 := s1.trans s2
          refine tt1 (iteT ⟨_,rfl,_,rfl,x,t,ln,zs,rfl,rx.same s12,hk t (List.mem_of_getElem? ht),s12 _ _ hln,fun y hv=>hy y (vin_tup.mpr ⟨t,List.mem_of_getElem? ht,hv⟩),fun H3 s3=>nx hi ⟨s2.trans s3,?_⟩⟩)
          rw [List.replicate_succ']
        · rintro ws H' ⟨s2,rfl⟩ l hl
          refine ⟨l,List.replicate vr.length true,rfl,SqL.of (by rw [List.map_replicate]; exact upd_same),?_⟩
          have : (List.replicate vr.length true).all id = true := by
            rw [List.all_eq_true]
            intro b hb
            rw [(List.mem_replicate.mp hb).2]
            rfl
          rw [this]
          exact q _ (s1.trans (s2.trans (same_new hl _)))
theorem isk_all (F : Fun K "_law_is_kind" "_law_is_kind" s_isk f fd) (bF : Binds K fd pIk []) (mF : mg "_law_is_kind" = some (.ref f)) (mi : mg "isinstance" = none) (mt : mg "tuple" = none) (ms : mg "str" = none) (ml : mg "len" = none) (ma : mg "all" = none) :
    ∀ n : Nat,Has P w K mg base n "_law_is_kind" pIk (spIsKN n)
  | 0=>⟨f,fd,⟨fun vs H Q E h=>h.elim,fun A outer s H args us vs Q E _ _ _ _ h=>h.elim⟩,bF,F.kp,mF⟩
  | n + 1=>⟨f,fd,ok_isk F mi mt ms ml ma (isk_all F bF mF mi mt ms ml ma n),bF,F.kp,mF⟩
end
end Fw
set_option Elab.async false
set_option linter.all false
set_option maxRecDepth 100000
namespace Fw
open PySem PySem.Spec PyProof.Rows L2
theorem comp_keys {H : Hp} {a : Addr} {o : Obj} {kvs : List (Key × V)} {tt : TT} {te : TE} {σ' : L2.St} {Q : VK} (Pv : Nat → List V → Hp → Prop) (h0 : Pv 0 [] H) (hl : ∀ i vs H,i ≤ kvs.length → Pv i vs H → H a = some (.frz o (.dK kvs)) ∧ vs.length < sizeLine)
    (hs : ∀ i k v vs H2,i < kvs.length → kvs[i]? = some (k,v) → Pv i vs H2 → tt (some (kV k) :: σ') H2 fun b H4=>if b = true then te (some (kV k) :: σ') H4 fun v H5=>Nx kvs.length i (Pv (i + 1) (vs ++ [v]) H5) else Nx kvs.length i (Pv (i + 1) vs H4))
    (hd : ∀ vs H2,Pv kvs.length vs H2 → ∀ l,H2 l = none → Q (.ref l) (upd H2 l (.lst vs))) : CompW (Itk a o kvs) tt te σ' Q H := by
  refine ⟨fun i m vs H=>m = kvs.length - i ∧ i ≤ kvs.length ∧ Pv i vs H,⟨kvs.length,by simp,Nat.zero_le _,h0⟩,?_⟩
  rintro i m vs H2 ⟨rfl,hi,p⟩
  obtain ⟨q1,q2⟩ := hl i vs H2 hi p
  refine ⟨q2,?_⟩
  by_cases hlt : i < kvs.length
  · refine .inr ⟨⟨q1,hlt⟩,?_⟩
    rintro x H3 ⟨e,k,v,hk,rfl⟩
    subst e
    exact hs i k v vs _ hlt hk p
  · have e : i = kvs.length := by omega
    subst e
    exact .inl ⟨⟨q1,Nat.le_refl _⟩,hd vs H2 p⟩
theorem all_true (n : Nat) : (List.replicate n true).all id = true := by
  rw [List.all_eq_true]
  intro b hb
  rw [(List.mem_replicate.mp hb).2]
  rfl
theorem any_false (n : Nat) : (List.replicate n false).any id = false := by
  induction n with
  | zero=>rfl
  | succ n ih=>rw [List.replicate_succ,List.any_cons,ih]; rfl
theorem same_frz {H H1 : Hp} {d : Addr} {o : Obj} {kd : List (Key × V)} (hd : H d = some (.dK kd)) (s : Same (upd H d (.frz o (.dK kd))) H1) : Same H (upd H1 d (.dK kd)) := fun c u h=>by
  by_cases e : c = d
  · subst e; rw [upd_same,← hd]; exact h
  · rw [upd_ne e]; exact s _ _ (by rw [upd_ne e]; exact h)
theorem frz_tups {H H1 : Hp} {d : Addr} {o : Obj} {kd : List (Key × V)} (hd : H d = some (.dK kd)) (s : Same (upd H d (.frz o (.dK kd))) H1) : ∀ c xs,H c = some (.tup xs) → H1 c = some (.tup xs) := fun c xs h=>s _ _ (by rw [upd_ne (ne_of h hd (by intro z; cases z))]; exact h)
theorem frz_lst {H H1 : Hp} {d c : Addr} {o : Obj} {kd : List (Key × V)} {xs : List V} (hd : H d = some (.dK kd)) (s : Same (upd H d (.frz o (.dK kd))) H1) (h : H c = some (.lst xs)) : H1 c = some (.lst xs) := s _ _ (by rw [upd_ne (ne_of h hd (by intro z; cases z))]; exact h)
def spJs : Sp := fun vs H Q _=>∃ (d lp : Addr) (kd : List (Key × V)) (mo : List (Str × T)) (pvs : List V) (prs : List (T × T)) (U : List Str),vs = [.ref d, .ref lp] ∧ H d = some (.dK kd) ∧ DReps H kd mo ∧ (∀ x ∈ mo,KD 10 x.2 ∧ x.2.sz ≤ 100000) ∧ ToldW U prs mo ∧ mo.length ≤ 1000 ∧ H lp = some (.lst pvs) ∧ Reps H pvs (prs.map pT) ∧
  (∀ p ∈ prs,(Gd 5 U p.1 ∧ p.1.sz ≤ 1000) ∧ (Gd 5 U p.2 ∧ p.2.sz ≤ 1000)) ∧ U.length ≤ 100 ∧ prs.length ≤ 100 ∧ (∀ y ∈ U,∃ p ∈ prs,Vin y p.1 ∨ Vin y p.2) ∧ ∀ H',Same H H' → Q (.bl true) H'
section
variable {P : Program} {w : World} {K : PySem.W.Frag} {mg : Str → Option Value} {base : Heap} {f : Addr} {fd : FuncData}
abbrev s_joins : Stmt := top 31
abbrev nJs : List Str := ["_law_told","_law_pairs_here","_law_names_here","_law_name"]
theorem sc_joins : FnScope nJs ["_law_told","_law_pairs_here"] (defScope s_joins) := ⟨rfl,rfl,rfl,by decide +kernel,rfl,by decide +kernel,by decide +kernel⟩
theorem nd_oo : ((["_law_one","_law_other"] : List Str) ++ (["_law_told"] : List Str)).Nodup := by decide +kernel
set_option maxHeartbeats 4000000 in
theorem ok_joins (F : Fun K "_law_joins" "_law_joins" s_joins f fd) (mi : mg "isinstance" = none) (mD : mg "dict" = none) (ma : mg "all" = none) (mA : mg "any" = none) (h1 : Has P w K mg base 2 "_law_names" ["_law_pairs_here"] spNames) (h2 : Has P w K mg base 11 "_law_is_kind" pIk (spIsKN 11))
    (h3 : Has P w K mg base 1 "_law_standing" ["_law_kind_here"] spVars) (h4 : Has P w K mg base 16 "_law_same" ["_law_one","_law_due"] (spSameN 16)) (h5 : Has P w K mg base 6 "_law_filled" ["_law_kind_here","_law_by"] (spFillN 6)) : FnOk P w K mg base CX0 17 f fd ["_law_told","_law_pairs_here"] spJs := by
  refine F.ok sc_joins (fun vs H Q E h=>?_) (fun cdv A outer s H vs Q E hr h=>?_)
  · obtain ⟨d,lp,kd,mo,pvs,prs,U,rfl,_⟩ := h
    rfl
  obtain ⟨d,lp,kd,mo,pvs,prs,U,rfl,hd,dr,mk,tw,lm,hlp,rps,gd,lU,lpr,cvU,q⟩ := h
  have hu := hu_of hr
  refine ⟨_,pss_cons (ps_set (i := 2) sc_joins.nd rfl (Or.inr rfl) (pcall h1 hr (by decide) rfl (pa_cons (pv 1) pa_nil)))
    (pss_cons (ps_if (PW.pt (pw_or (pt_not (pt_val (pe_callB call_isi rfl mi boot_isinstance (pa_cons (pv 0) (pa_cons (pe_bltn (v := .ty "dict") rfl mD boot_dict' rfl) pa_nil)))))
        (pw_or1 (pt_not (pt_val (pe_callB (call_all rfl) rfl ma boot_all (pa_cons (pe_frz (pe_lc (defScope s_joins) nJs ["_law_names_here"] [2] (by decide +kernel) (pi_keys (pv 0)) (fun C s₀ H₀ ex=>pts_nil) (fun C s₀ H₀ ex=>pe_cmpR (r := rIn K false) op_in_seq (pv 0) (pv 1) (by with_unfolding_all rfl)))) pa_nil)))))))
      (pss_one (ps_ret pe_bl)) pss_nil)
    (pss_cons (ps_if (pt_not (pt_val (pe_callB (call_all rfl) rfl ma boot_all (pa_cons (pe_frz (pe_lc (defScope s_joins) nJs ["_law_told","_law_names_here"] [0,2] (by decide +kernel) (pi_keys (pv 0)) (fun C s₀ H₀ ex=>pts_nil) (fun C s₀ H₀ ex=>pcall h2 hr (by decide) rfl (pa_cons (pe_dget hu (pv 1) (pv 0) (fun _ _=>rfl)) (pa_cons (pv 2) pa_nil))))) pa_nil))))
      (pss_one (ps_ret pe_bl)) pss_nil)
    (pss_cons (ps_frz (ps_for PassesOwn.never rfl (pi_keys (pv 0)) (pg_name (i := 3) sc_joins.nd rfl (Or.inl rfl))
      (pss_one (ps_if (pt_val (pe_callB (call_any rfl) rfl mA PyProof.Rows.boot_any (pa_cons (pe_lc (defScope s_joins) nJs ["_law_told"] [0] (by decide +kernel) (pi_list (pcall h3 hr (by decide) rfl (pa_cons (pe_dget hu (pv 0) (pv 3) (fun _ _=>rfl)) pa_nil))) (fun C s₀ H₀ ex=>pts_nil) (fun C s₀ H₀ ex=>pe_cmpR (op_inD hu) (pv 0) (pv 1) (by with_unfolding_all rfl))) pa_nil)))
        (pss_one (ps_ret pe_bl)) pss_nil))))
    (pss_one (ps_ret (pe_callB (call_all rfl) rfl ma boot_all (pa_cons (pe_lcM (g := gTup K 2 (gCons (gName 0) (gCons (gName 1) gNil))) (defScope s_joins) nJs ["_law_one","_law_other"] ["_law_told"] [0] (by decide +kernel) (pi_list (pv 1))
      (fun C s₀ H₀ ex=>pg_tup (n := 2) rfl (pgs_cons (pg_name (i := 0) nd_oo rfl (Or.inl rfl) (Or.inr rfl)) (pgs_cons (pg_name (i := 1) nd_oo rfl (Or.inl rfl) (Or.inr rfl)) pgs_nil)))
      (fun C s₀ H₀ ex=>pts_nil)
      (fun C s₀ H₀ ex=>pcall h4 hr (by decide) rfl (pa_cons (pcall h5 hr (by decide) rfl (pa_cons (pv 0) (pa_cons (pv 2) pa_nil))) (pa_cons (pcall h5 hr (by decide) rfl (pa_cons (pv 1) (pa_cons (pv 2) pa_nil))) pa_nil)))) pa_nil))))))),?_⟩
  have ld := dr.length
  refine ⟨_,rfl,lp,pvs,prs,U,rfl,hlp,rps,(fun p hp=>⟨⟨(gd p hp).1.1,by have := (gd p hp).1.2; omega⟩,⟨(gd p hp).2.1,by have := (gd p hp).2.2; omega⟩⟩),lU,fun ln zs H1 s1 ln0 hln nm cov=>?_⟩
  have inz : ∀ y ∈ U,y ∈ zs := fun y hy=>by
    obtain ⟨p,hp,h⟩ := cvU y hy
    exact cov p hp y h
  have hd1 := s1 _ _ hd
  have dr1 := dr.mono (Same.tups s1)
  have getv : ∀ {z : Str} {t : T},(z,t) ∈ mo → ∃ v,valV kd (Sum.inr z) = some v ∧ Rep H1 v t := fun {z t} hm=>by
    have lk := kn_look tw.kn hm
    rcases dr1.get z with ⟨_,g2⟩ | ⟨v,t',g1,g2,r⟩
    · have lk' : mo.lookup z = some t := lk
      rw [lk'] at g2; cases g2
    · have lk' : mo.lookup z = some t := lk
      rw [lk'] at g2; cases g2; exact ⟨v,g1,r⟩
  refine ⟨_,rfl,_,_,_,_,rfl, .dK hd1,(by first | rfl | (with_unfolding_all rfl) | kernel_rfl),true,rfl,iteF ?_⟩
  refine ⟨d,kd,hd1,fun oa=>⟨_,rfl,d,oa,kd,rfl,upd_same,comp_keys (fun i ws H'=>H' = upd H1 d (.frz oa (.dK kd)) ∧ ws = List.replicate i (V.bl true)) ⟨rfl,rfl⟩ ?_ ?_ ?_⟩⟩
  · rintro i ws H' hi ⟨rfl,rfl⟩
    exact ⟨upd_same,small' (by rw [List.length_replicate]; omega)⟩
  · rintro i k v ws H' hi hk ⟨rfl,rfl⟩
    obtain ⟨z,t,rfl,hm,_⟩ := dr1.atR hk
    have ky := tw.ky _ (List.mem_of_getElem? hm)
    refine tt1 (iteT ⟨_,rfl,_,rfl,ln,_,rfl, .inl (SqL.of (frz_lst hd1 (Same.refl _) hln)),rfl,flat_strs _,nx hi ⟨rfl,?_⟩⟩)
    have e : inV (kV (Sum.inr z)) (zs.map V.str) = true := by show inV (V.str z) _ = true; rw [inV_str,decide_eq_true (inz z ky.1)]
    rw [List.replicate_succ',if_neg (show ¬ (false = true) by decide),e]
  rintro ws H' ⟨rfl,rfl⟩ l hl
  have nl : l ≠ d := fun e=>by rw [e,upd_same] at hl; cases hl
  refine ⟨by rw [upd_ne (Ne.symm nl)]; exact upd_same,l,List.replicate kd.length true,rfl,SqL.of (by rw [List.map_replicate,upd_ne nl]; exact upd_same),?_⟩
  rw [all_true]
  refine ⟨true,rfl,iteF ?_⟩
  have sF : Same H1 (upd (upd (upd H1 d (.frz oa (.dK kd))) l (.lst (List.replicate kd.length (V.bl true)))) d (.dK kd)) := same_frz hd1 (same_new hl _)
  revert sF
  generalize upd (upd (upd H1 d (.frz oa (.dK kd))) l (.lst (List.replicate kd.length (V.bl true)))) d (.dK kd) = H2
  intro sF
  have hd2 := sF _ _ hd1
  have hln2 := sF _ _ hln
  refine ⟨d,kd,hd2,fun ob=>⟨_,rfl,d,ob,kd,rfl,upd_same,comp_keys (fun i ws H'=>Same (upd H2 d (.frz ob (.dK kd))) H' ∧ ws = List.replicate i (V.bl true)) ⟨Same.refl _,rfl⟩ ?_ ?_ ?_⟩⟩
  · rintro i ws H' hi ⟨s3,rfl⟩
    exact ⟨s3 _ _ upd_same,small' (by rw [List.length_replicate]; omega)⟩
  · rintro i k v ws H' hi hk ⟨s3,rfl⟩
    obtain ⟨z,t,rfl,hm,_⟩ := dr1.atR hk
    have hm' := List.mem_of_getElem? hm
    obtain ⟨v1,g1,r1⟩ := getv hm'
    have ga : DGet H' d (.str z) (some v1) := .inl ⟨kd,Sum.inr z, .inr ⟨ob,s3 _ _ upd_same⟩,rfl,g1.symm⟩
    refine tt1 (iteT ⟨_,rfl,_,rfl,d,v1,rfl,ga,_,rfl,v1,t,ln,zs,rfl,(r1.same sF).mono (frz_tups hd2 s3),(mk _ hm').1,frz_lst hd2 s3 hln2,fun y hy=>inz y (tw.un _ hm' y hy).1,fun H4 s4=>nx hi ⟨s3.trans s4,?_⟩⟩)
    rw [List.replicate_succ']
  rintro ws H' ⟨s3,rfl⟩ l2 hl2
  have hd3 : H' d = some (.frz ob (.dK kd)) := s3 _ _ upd_same
  have nl2 : l2 ≠ d := fun e=>by rw [e,hd3] at hl2; cases hl2
  refine ⟨by rw [upd_ne (Ne.symm nl2)]; exact hd3,l2,List.replicate kd.length true,rfl,SqL.of (by rw [List.map_replicate,upd_ne nl2]; exact upd_same),?_⟩
  rw [all_true]
  refine ⟨true,rfl,iteF ?_⟩
  have sG : Same H2 (upd (upd H' l2 (.lst (List.replicate kd.length (V.bl true)))) d (.dK kd)) := same_frz hd2 (s3.trans (same_new hl2 _))
  revert sG
  generalize upd (upd H' l2 (.lst (List.replicate kd.length (V.bl true)))) d (.dK kd) = H3
  intro sG
  have s13 := sF.trans sG
  have hd3 := sG _ _ hd2
  refine ⟨d,kd,hd3,fun oc=>⟨_,rfl,d,oc,kd,rfl,upd_same,for_keys (fun i σ H'=>∃ o3,σ = [some (.ref d),some (.ref lp),some (.ref ln),o3] ∧ Same (upd H3 d (.frz oc (.dK kd))) H') ⟨none,rfl,Same.refl _⟩ ?_ ?_ ?_⟩⟩
  · rintro i σ H' hi ⟨o3,rfl,e⟩
    exact e _ _ upd_same
  · rintro i k v σ H4 hk ⟨o3,rfl,s4⟩
    obtain ⟨z,t,rfl,hm,_⟩ := dr1.atR hk
    have hm' := List.mem_of_getElem? hm
    obtain ⟨v1,g1,r1⟩ := getv hm'
    have hd4 : H4 d = some (.frz oc (.dK kd)) := s4 _ _ upd_same
    have ga : DGet H4 d (.str z) (some v1) := .inl ⟨kd,Sum.inr z, .inr ⟨oc,hd4⟩,rfl,g1.symm⟩
    refine ⟨_,rfl,_,rfl,d,v1,rfl,ga,v1,t,10,rfl,(r1.same s13).mono (frz_tups hd3 s4),(mk _ hm').1,(mk _ hm').2,fun lv H5 s5 lv0 hlv len=>?_⟩
    have hd5 := s5 _ _ hd4
    refine ⟨lv,rfl,⟨_,SqL.of hlv⟩,comp_lst (xs := (vs_ t).map V.str) (fun i ws H'=>H' = H5 ∧ ws = List.replicate i (V.bl false)) ⟨rfl,rfl⟩ ?_ ?_ ?_⟩
    · rintro i ws H' hi ⟨rfl,rfl⟩
      refine ⟨SqL.of hlv,small' ?_⟩
      rw [List.length_replicate]
      rw [List.length_map] at hi
      have := len
      unfold vs_ at hi
      omega
    · rintro i x ws H' hi hx ⟨rfl,rfl⟩
      rw [List.getElem?_map] at hx
      cases hy : (vs_ t)[i]? with
      | none=>rw [hy] at hx; cases hx
      | some y =>
        rw [hy] at hx
        cases hx
        have hn := (tw.un _ hm' y (mem_vs.mp (List.mem_of_getElem? hy))).2
        have gn : DGet H' d (.str y) none := .inl ⟨kd,Sum.inr y, .inr ⟨oc,hd5⟩,rfl,by
          rcases dr1.get y with ⟨g,_⟩ | ⟨_,_,_,g,_⟩
          · exact g.symm
          · rw [hn] at g; cases g⟩
        refine tt1 (iteT ⟨_,rfl,_,rfl,d,none,rfl,gn,nx hi ⟨rfl,?_⟩⟩)
        rw [List.replicate_succ']
        rfl
    · rintro ws H' ⟨rfl,rfl⟩ l6 hl6
      refine ⟨l6,List.replicate ((vs_ t).map V.str).length false,rfl,SqL.of (by rw [List.map_replicate]; exact upd_same),?_⟩
      rw [any_false]
      exact ⟨false,rfl,iteF ⟨_,rfl,s4.trans (s5.trans (same_new hl6 _))⟩⟩
  rintro σ H4 ⟨o3,rfl,s4⟩
  have hd4 : H4 d = some (.frz oc (.dK kd)) := s4 _ _ upd_same
  refine ⟨hd4,?_⟩
  have sI : Same H3 (upd H4 d (.dK kd)) := same_frz hd3 s4
  revert sI
  generalize upd H4 d (.dK kd) = H5
  intro sI
  have s15 := s13.trans sI
  have s05 := s1.trans s15
  have hd5 := s15 _ _ hd1
  have dr5 := dr1.mono (Same.tups s15)
  have hlp5 := s05 _ _ hlp
  have lpv := rps.length
  rw [List.length_map] at lpv
  refine ⟨_,rfl,lp,rfl,⟨_,SqL.of hlp5⟩,comp_listM (n := 2) (xs := pvs) (fun i ws H'=>Same H5 H' ∧ ws = List.replicate i (V.bl true)) ⟨Same.refl _,rfl⟩ ?_ ?_ ?_⟩
  · rintro i ws H' hi ⟨s6,rfl⟩
    exact ⟨SqL.of (s6 _ _ hlp5),small' (by rw [List.length_replicate]; omega)⟩
  · rintro i x ws H' τ lτ hi hx ⟨s6,rfl⟩
    obtain ⟨t,ht,rx⟩ := rps.at2 hx
    rw [List.getElem?_map] at ht
    cases hp : prs[i]? with
    | none=>rw [hp] at ht; cases ht
    | some pr =>
      rw [hp] at ht
      cases ht
      have hpm := List.mem_of_getElem? hp
      have rx6 := (rx.same s05).same s6
      cases rx6 with
      | @tup a xs _ ha rr =>
        cases rr with
        | @cons x1 _ _ _ r1 rr2 =>
          cases rr2 with
          | @cons x2 _ _ _ r2 rr3 =>
            cases rr3
            match τ,lτ with
            | [t1,t2],_ =>
              refine ⟨a,_,rfl,SqT.of ha,rfl,x1,[x2],rfl,x2,[],rfl,rfl,⟨[some x1,some x2],rfl,rfl⟩,?_⟩
              refine tt1 (iteT ⟨_,rfl,_,rfl,x1,d,pr.1,kd,mo,rfl,r1,(gd pr hpm).1.1.1,s6 _ _ hd5,dr5.mono (Same.tups s6),fun w1 H7 s7 q1=>?_⟩)
              refine ⟨_,rfl,_,rfl,x2,d,pr.2,kd,mo,rfl,r2.same s7,(gd pr hpm).2.1.1,s7 _ _ (s6 _ _ hd5),(dr5.mono (Same.tups s6)).mono (Same.tups s7),fun w2 H8 s8 q2=>?_⟩
              have q2' : Rep H8 w2 (fillT mo pr.1) := by rw [tw.sm pr hpm]; exact q2
              refine ⟨w1,w2,fillT mo pr.1,rfl,q1.same s8,q2',(KD.fill (fun x hx=>(mk x hx).1) (gd pr hpm).1.1.1).up (m := 15) (by decide),fun H9 s9=>nx hi ⟨s6.trans (s7.trans (s8.trans s9)),?_⟩⟩
              rw [List.replicate_succ']
  · rintro ws H' ⟨s6,rfl⟩ l9 hl9
    refine ⟨l9,List.replicate pvs.length true,rfl,SqL.of (by rw [List.map_replicate]; exact upd_same),?_⟩
    rw [all_true]
    exact q _ (s05.trans (s6.trans (same_new hl9 _)))
end
end Fw
set_option Elab.async false
set_option linter.all false
set_option maxRecDepth 100000
namespace Fw
open PySem PySem.Spec PyProof.Rows L2
theorem VL.mono {zs ys : List Str} (h : ∀ z ∈ zs,z ∈ ys) {t : T} (v : VL zs t) : VL ys t := by
  induction v with
  | leaf hz=>exact .leaf fun e=>h _ (hz e)
  | tup hk ih=>exact .tup ih
theorem vl_vin {zs : List Str} {t : T} (v : VL zs t) {y : Str} (h : Vin y t) : y ∈ zs := by
  induction v with
  | @leaf z hz =>
    rw [vin_str] at h
    obtain ⟨rfl,o⟩ := h
    rw [starts_qm] at o
    exact hz (of_decide_eq_true o)
  | @tup a ks hk ih =>
    rw [vin_tup] at h
    obtain ⟨k,mk,hv⟩ := h
    exact ih k mk hv
theorem vl_self {zs : List Str} {m : List (Str × T)} (hm : ∀ x ∈ m,x.1.cps.toList.head? = some 63 ∧ x.1 ∉ zs) {t : T} (v : VL zs t) : fillT m t = t := by
  induction v with
  | @leaf z hz =>
    rw [fillT_str,lookup_no fun x hx e=>(hm x hx).2 (by rw [e]; exact hz (by rw [← e]; exact (hm x hx).1))]
    rfl
  | @tup a ks hk ih =>
    rw [fillT_tup,show ks.map (fillT m) = ks from (List.map_congr_left ih).trans (List.map_id _)]
theorem jn_of {zs : List Str} {m : List (Str × T)} {k : Nat} (hk : k ≤ 9) (lz : zs.length ≤ 12) (nd : zs.Nodup) (lq : ∀ z ∈ zs,LQ 80 z) (j : JM (zs.drop 9) (zs.take k) m) : JN (zs.take k ++ zs.drop 9) m ∧ VarsM m := by
  have key : ∀ x ∈ m,x.1 ∈ zs.take k := fun x hx=>by rw [← j.1]; exact List.mem_map.mpr ⟨x,hx,rfl⟩
  have tz : ∀ z ∈ zs.take k,z ∈ zs := fun z hz=>List.mem_of_mem_take hz
  have sub : ∀ z ∈ zs.take k,z ∈ zs.take 9 := fun z hz=>by
    have e : zs.take k = (zs.take 9).take k := by rw [List.take_take,Nat.min_eq_left hk]
    rw [e] at hz
    exact List.mem_of_mem_take hz
  have dis : ∀ z ∈ zs.take k,z ∉ zs.drop 9 := fun z hz h=>by
    have n2 := nd
    rw [← List.take_append_drop 9 zs,List.nodup_append] at n2
    exact n2.2.2 z (sub z hz) z h rfl
  have ndk : (zs.take k).Nodup := nd.sublist (List.take_sublist _ _)
  have lm : m.length ≤ 12 := by
    have := congrArg List.length j.1
    rw [List.length_map,List.length_take] at this
    omega
  refine ⟨⟨⟨by unfold KN; rw [j.1]; exact ndk,lm,fun x hx=>⟨List.mem_append_left _ (key x hx),(lq _ (tz _ (key x hx))).2⟩,fun x hx=>(j.2 x hx).1⟩,fun x hx=>(j.2 x hx).2.1.mono fun z hz=>List.mem_append_right _ hz,
    fun x hx=>vl_self (fun y hy=>⟨(lq _ (tz _ (key y hy))).1,dis _ (key y hy)⟩) (j.2 x hx).2.1,fun x hx=>(j.2 x hx).2.2⟩,fun z t e=>lq_open (lq z (tz z (key _ (lookup_mem e))))⟩
theorem PotOk.conv {H H' : Hp} {p cl : Addr} {n : Nat} (h : PotOk H p cl n) (e : SameT H H') : PotOk H' p cl n := by
  obtain ⟨cs,a,d,t,h1,h2,h3⟩ := h
  exact ⟨cs,a,d,t,e _ _ (by intro ps z; cases z) h1,e _ _ (by intro ps z; cases z) h2,h3⟩
theorem SameT.lst' {H H' : Hp} (e : SameT H H') {b : Addr} {xs : List V} (h : H b = some (.lst xs)) : H' b = some (.lst xs) := e b _ (by intro ps z; cases z) h
theorem Src.conv {H H' : Hp} {p la ha : Addr} {zs : List Str} {hvs : List V} {hs : List (Str × Int)} (s : Src H p la ha zs hvs hs) (e : SameT H H') : Src H' p la ha zs hvs hs := ⟨e.lst' s.la,s.lz,s.hz,e.lst' s.ha,s.hr.mono e.tups,s.h1,s.h9,s.hh⟩
theorem TbOk.keep {Pt : Addr} {q : Str} {pos : Pos} {H H' : Hp} {p : Addr} {k : List (Key × V)} (h : TbOk Pt q pos H) (hp : H p = some (.dK k)) (e : ∀ b o,b ≠ p → H b = some o → H' b = some o) : TbOk Pt q pos H' := by
  rcases h with h | ⟨c',oc,h1,h2,h3⟩
  · exact .inl (e _ _ (ne_of h hp (by intro z; cases z)) h)
  · refine .inr ⟨c',oc,e _ _ (ne_of h1 hp (by intro z; cases z)) h1,e _ _ (ne_of h2 hp ?_) h2,h3⟩
    intro z
    have z' : HO.ext _ = HO.dK k := z
    cases z'
theorem TbOk.grow {Pt : Addr} {q : Str} {pos : Pos} {H H' : Hp} {p cl : Addr} {m n : Nat} (h : TbOk Pt q pos H) (g : GrowP p cl n H H') (ok : PotOk H p cl m) : TbOk Pt q pos H' := by
  obtain ⟨cs,a,d,t,h1,_⟩ := ok
  exact h.keep h1 g.keep
theorem cut_to (zs : List Str) (d : Nat) (h : d ≤ zs.length) : cutV (zs.map V.str) none (some (d : Int)) = (zs.take d).map V.str := by
  unfold cutV
  rw [HT.sIx_none,HT.sIx_nat,List.drop_zero,Nat.sub_zero,List.map_take,List.length_map,Nat.min_eq_left h]
theorem cut_from (zs : List Str) : cutV (zs.map V.str) (some 9) none = (zs.drop 9).map V.str := by
  rw [show (9 : Int) = ((9 : Nat) : Int) from rfl,cutq,List.map_drop]
theorem hT_reps {H : Hp} {a : Addr} {z : Str} {k : Int} (h : H a = some (.tup [.str z, .int k])) (hz : z.length ≤ 60) : Rep H (.ref a) (hT (z,k)) := .tup h (.cons (.str z (by omega)) (.cons (.int k) .nil))
theorem pss_weak {X : Cx} {sts : List Stmt} {t t' : TS} (h : PSs X sts t) (q : ∀ D σ H,t' D σ H → t D σ H) : PSs X sts t' := fun a b c d e f g=>h a b c d e f (q _ _ _ g)
theorem tb_updL {Pt : Addr} {H : Hp} {d : Addr} {k k' : List V} (h : TbOk Pt lamQ lamP H) (hd : H d = some (.lst k)) : TbOk Pt lamQ lamP (upd H d (.lst k')) := by
  have nt : ∀ {a : Addr} {o : HO},H a = some o → (∀ k,o ≠ .lst k) → a ≠ d := fun ha hn e=>by rw [e,hd] at ha; exact hn _ (Option.some.inj ha).symm
  rcases h with h | ⟨c',oc,h1,h2,h3⟩
  · exact .inl (by rw [upd_ne (nt h (by intro k z; cases z))]; exact h)
  · refine .inr ⟨c',oc,by rw [upd_ne (nt h1 (by intro k z; cases z))]; exact h1,?_,h3⟩
    rw [upd_ne (nt h2 (by
      intro k z
      have z' : HO.ext _ = HO.lst k := z
      cases z'))]
    exact h2
theorem reps_refs {H : Hp} : ∀ {ps : List V} {prs : List (T × T)},Reps H ps (prs.map pT) → ∀ v ∈ ps,∃ r : Addr,v = .ref r := by
  intro ps prs r v hv
  obtain ⟨i,hi⟩ := List.getElem?_of_mem hv
  obtain ⟨t,ht,rv⟩ := r.at2 hi
  rw [List.getElem?_map] at ht
  cases hp : prs[i]? with
  | none=>rw [hp] at ht; cases ht
  | some pr =>
    rw [hp] at ht
    cases ht
    cases rv with
    | @tup a xs _ _ _=>exact ⟨a,rfl⟩
open Classical in
theorem used_only (U : List Str) (prs : List (T × T)) : ∃ U' : List Str,U'.length ≤ U.length ∧ (∀ y ∈ U',∃ p ∈ prs,Vin y p.1 ∨ Vin y p.2) ∧ ∀ p ∈ prs,∀ y,Vin y p.1 ∨ Vin y p.2 → y ∈ U → y ∈ U' :=
  ⟨U.filter fun y=>decide (∃ p ∈ prs,Vin y p.1 ∨ Vin y p.2),List.length_filter_le _ _,fun y hy=>of_decide_eq_true (List.mem_filter.mp hy).2,fun p hp y hv hU=>List.mem_filter.mpr ⟨hU,decide_eq_true ⟨p,hp,hv⟩⟩⟩
theorem told_none {n : Nat} {U : List Str} {prs : List (T × T)} {mo : List (Str × T)} (tl : Told n [] mo) (tw : ToldW U prs mo) : mo = [] := by
  cases mo with
  | nil=>rfl
  | cons x r =>
    have hx : x ∈ x :: r := List.mem_cons_self
    obtain ⟨_,h2,h3⟩ := tl x hx
    have e : ∀ t : T,fillT [] t = t := fill_self fun z=>by rw [fillT_str]; rfl
    rw [e,e] at h2
    have hn := (tw.un x hx x.1 (by rw [h2]; exact vin_str.mpr ⟨rfl,h3⟩)).2
    rw [kn_look tw.kn hx] at hn
    cases hn
theorem dreps_nil {H : Hp} {kd : List (Key × V)} (h : DReps H kd []) : kd = [] := by cases h; rfl
theorem ToldW.rev {U : List Str} {prs : List (T × T)} {mo : List (Str × T)} (t : ToldW U prs.reverse mo) : ToldW U prs mo := ⟨t.kn,t.ky,t.un,fun p hp=>t.sm p (List.mem_reverse.mpr hp)⟩
def tTurn (Pt : Addr) : TS := fun D σ H=>∃ (a p cl ha la : Addr) (o4 o5 o6 o7 o8 o9 : Option V) (zs : List Str) (hvs : List V) (hs : List (Str × Int)) (n : Nat),σ = [some (.ref a),some (.ref p),some (.ref ha),some (.ref la),o4,o5,o6,o7,o8,o9] ∧ PotOk H p cl n ∧ n + 70000 ≤ 1000000000 ∧
  Src H p la ha zs hvs hs ∧ zs.Nodup ∧ zs.length = 12 ∧ (∀ z ∈ zs,LQ 80 z) ∧ TbOk Pt lamQ lamP H ∧
  ∀ (q5 q6 q7 q8 q9 : Option V) H',PotOk H' p cl (n + 70000) → Src H' p la ha zs hvs hs → TbOk Pt lamQ lamP H' → D.nx [some (.ref a),some (.ref p),some (.ref ha),some (.ref la),o4,q5,q6,q7,q8,q9] H'
def spLaw (Pt : Addr) (K : PySem.W.Frag) : Sp := fun vs H Q _=>∃ (a : Addr) (ns : List Int),vs = [.ref a] ∧ SqL K H a (ns.map V.int) ∧ ns.length ≤ 63 ∧ H Pt = some (.tbl #[]) ∧ ∀ H',Q (.bl true) H'
section
variable {P : Program} {w : World} {K : PySem.W.Frag} {mg : Str → Option Value} {base : Heap} {f Pt : Addr} {fd : FuncData}
abbrev s_law : Stmt := top 32
abbrev nLw : List Str := ["_law_script","_law_pot_here","_law_heads","_law_leaves_here","_law_turn","_law_many_here","_law_by","_law_pairs_here","_law_handed","_law_told"]
theorem sc_law : FnScope nLw ["_law_script"] (defScope s_law) := ⟨rfl,rfl,rfl,by decide +kernel,rfl,by decide +kernel,by decide +kernel⟩
set_option maxHeartbeats 4000000 in
theorem ok_law (F : Fun K "law" "law" s_law f fd) (mr : mg "range" = none) (mI : mg "int" = none) (mL : mg "list" = none) (h0 : Has P w K mg base 1 "_law_pot" ["_law_script"] (spPot K)) (h1 : Has P w K mg base 2 "_law_draw" ["_law_pot_here","_law_many_here"] spDraw)
    (h2 : Has P w K mg base 4 "_law_head" ["_law_pot_here"] spPHead) (h3 : Has P w K mg base 5 "_law_leaves" ["_law_pot_here","_law_many_here"] spPLeaves) (hM : Has P w K mg base 3 "_law_many" ["_law_pot_here"] spMany)
    (hJ : Has P w K mg base 6 "_law_joiner" ["_law_pot_here","_law_names_here","_law_beyond","_law_heads"] spJoiner) (hP : Has P w K mg base 9 "_law_pairs" ["_law_pot_here","_law_leaves_here","_law_heads","_law_by"] spPairs) (hD : Has P w K mg base 8 "joined" ["pairs"] (spJoined Pt))
    (hS : Has P w K mg base 17 "_law_joins" ["_law_told","_law_pairs_here"] spJs) : FnOk P w K mg base CX0 18 f fd ["_law_script"] (spLaw Pt K) := by
  refine F.ok sc_law (fun vs H Q E h=>?_) (fun cdv A outer s H vs Q E hr h=>?_)
  · obtain ⟨a,ns,rfl,_⟩ := h
    rfl
  obtain ⟨a,ns,rfl,hS0,h63,hPt,q⟩ := h
  have tb0 : TbOk Pt lamQ lamP H := .inl hPt
  have hu := hr.units0
  refine ⟨_,pss_cons (ps_set (i := 1) sc_law.nd rfl (Or.inr rfl) (pcall h0 hr (by decide) rfl (pa_cons (pv 0) pa_nil)))
    (pss_cons (ps_lc (defScope s_law) nLw ["_law_pot_here"] [1] (by decide +kernel)
        (pi_range1 rfl mr (pa_cons (pe_ix ix_list (pe_lst (pa_cons pe_int (pa_cons pe_int pa_nil))) (pe_callTy call_int1 rfl mI boot_int (pa_cons (pe_cmpR op_eq (pcall h1 hr (by decide) rfl (pa_cons (pv 1) (pa_cons pe_int pa_nil))) pe_int (nomark _)) pa_nil)) (fun _ _=>rfl)) pa_nil)) (pg_name (i := 2) sc_law.nd rfl (Or.inl rfl)) (fun C s₀ H₀ ex=>pts_nil)
        (fun C s₀ H₀ ex=>pcall h2 hr (by decide) rfl (pa_cons (pv 1) pa_nil)) (by with_unfolding_all rfl))
    (pss_cons (ps_set (i := 3) sc_law.nd rfl (Or.inl rfl) (pcall h3 hr (by decide) rfl (pa_cons (pv 1) (pa_cons pe_int pa_nil))))
    (pss_cons (ps_for PassesOwn.never rfl (pi_range1 rfl mr (pa_cons pe_int pa_nil)) (pg_name (i := 4) sc_law.nd rfl (Or.inl rfl))
      (pss_weak (t' := tTurn Pt)
      (pss_cons (ps_set (i := 5) sc_law.nd rfl (Or.inl rfl) (pcall hM hr (by decide) rfl (pa_cons (pv 1) pa_nil)))
      (pss_cons (ps_set (i := 6) sc_law.nd rfl (Or.inl rfl) (pcall hJ hr (by decide) rfl (pa_cons (pv 1) (pa_cons (pe_slice sl_list (pv 3) po_none (po_some (pv 5))) (pa_cons (pe_slice sl_list (pv 3) (po_some pe_int) po_none) (pa_cons (pv 2) pa_nil))))))
      (pss_cons (ps_set (i := 7) sc_law.nd rfl (Or.inl rfl) (pcall hP hr (by decide) rfl (pa_cons (pv 1) (pa_cons (pe_op op_cat (pe_slice sl_list (pv 3) po_none (po_some (pv 5))) (pe_slice sl_list (pv 3) (po_some pe_int) po_none)) (pa_cons (pv 2) (pa_cons (pv 6) pa_nil))))))
      (pss_cons (ps_set (i := 8) sc_law.nd rfl (Or.inl rfl) (pe_callTy call_list_of rfl mL boot_list (pa_cons (pv 7) pa_nil)))
      (pss_cons (ps_set (i := 9) sc_law.nd rfl (Or.inl rfl) (pcall hD hr (by decide) rfl (pa_cons (pv 8) pa_nil)))
      (pss_cons (ps_if (PW.pt (pw_or (pt_not (pt_val (pcall hS hr (by decide) rfl (pa_cons (pv 9) (pa_cons (pv 7) pa_nil))))) (pw_or1 (pt_cmpR (op_neLI hu) (pv 8) (pv 7) (nomark _))))) (pss_one (ps_ret pe_bl)) pss_nil)
      (pss_cons (ps_expr (pe_bm0 PySem.F.plainAttrs_dict PySem.F.slot_dict_clear PySem.F.type_dict_clear mt_clearD (pv 9)))
      (pss_cons (ps_expr (pe_bm0 PySem.F.plainAttrs_list PySem.F.slot_list_reverse PySem.F.type_list_reverse mt_reverse (pv 8)))
      (pss_one (ps_if (pt_not (pt_val (pcall hS hr (by decide) rfl (pa_cons (pcall hD hr (by decide) rfl (pa_cons (pv 8) pa_nil)) (pa_cons (pv 7) pa_nil))))) (pss_one (ps_ret pe_bl)) pss_nil)))))))))) ?qr))
    (pss_one (ps_ret (pe_and (pe_cmpR (op_eqE hu) (pcall hD hr (by decide) rfl (pa_cons (pe_lst pa_nil) pa_nil)) pe_dnewK (nomark _))
      (pe_one (pe_cmpR (op_eqE hu) (pcall hD hr (by decide) rfl (pa_cons (pe_lst (pa_cons (pe_tup (pa_cons pe_str (pa_cons pe_str pa_nil))) (pa_cons (pe_tup (pa_cons (pe_ix ix_list (pv 3) pe_int (fun _ _=>rfl)) (pa_cons (pe_ix ix_list (pv 3) pe_int (fun _ _=>rfl)) pa_nil))) pa_nil))) pa_nil)) pe_dnewK (nomark _))))))))),?_⟩
  case qr =>
    rintro D σ H ⟨a,p,cl,ha,la,o4,o5,o6,o7,o8,o9,zs,hvs,hs,n,rfl,hp,hn,src,nd,lz,lq,tb,nxt⟩
    refine ⟨_,rfl,p,cl,n,rfl,hp,by omega,fun k H1 k3 k9 g1=>?_⟩
    have src1 := src.grow g1 hp
    have tb1 := tb.grow g1 hp
    refine ⟨_,rfl,_,rfl,_,rfl,(k : Int),rfl,la,_,rfl,SqL.of src1.la,fun ls hls=>?_⟩
    rw [cut_to zs k (by omega)]
    have s2 := same_new hls (.lst ((zs.take k).map V.str))
    have hp2 := g1.ok.same s2
    have src2 := src1.grow (growP_same g1.ok s2) g1.ok
    have tb2 := tb1.same s2
    have hls2 : (upd H1 ls (.lst ((zs.take k).map V.str))) ls = some (.lst ((zs.take k).map V.str)) := upd_same
    revert s2 hp2 src2 tb2 hls2
    generalize upd H1 ls (.lst ((zs.take k).map V.str)) = H2
    intro s2 hp2 src2 tb2 hls2
    refine ⟨_,rfl,9,rfl,la,_,rfl,SqL.of src2.la,fun lb hlb=>?_⟩
    rw [cut_from]
    have s3 := same_new hlb (.lst ((zs.drop 9).map V.str))
    have hp3 := hp2.same s3
    have src3 := src2.grow (growP_same hp2 s3) hp2
    have tb3 := tb2.same s3
    have hlb3 : (upd H2 lb (.lst ((zs.drop 9).map V.str))) lb = some (.lst ((zs.drop 9).map V.str)) := upd_same
    revert s3 hp3 src3 tb3 hlb3
    generalize upd H2 lb (.lst ((zs.drop 9).map V.str)) = H3
    intro s3 hp3 src3 tb3 hlb3
    have lk : (zs.take k).length = k := by rw [List.length_take]; omega
    have ld : (zs.drop 9).length = 3 := by rw [List.length_drop]; omega
    have srcB : Src H3 p lb ha (zs.drop 9) hvs hs := ⟨hlb3,by omega,fun z hz=>src3.hz z (List.mem_of_mem_drop hz),src3.ha,src3.hr,src3.h1,src3.h9,src3.hh⟩
    refine ⟨_,rfl,p,cl,ls,lb,ha,n + 2,zs.take k,zs.drop 9,hvs,hs,rfl,hp3,by rw [lk]; omega,s3 _ _ hls2,nd.sublist (List.take_sublist _ _),by omega,fun x hx=>(lq x (List.mem_of_mem_take hx)).2,srcB,fun d kvs m H4 d0 hd dr jm g4=>?_⟩
    rw [lk] at g4
    have src4 := src3.grow g4 hp3
    have tb4 := tb3.grow g4 hp3
    have hp4 := g4.ok
    have ndp : d ≠ p := (hp3.fresh d0).1
    obtain ⟨jn,vm⟩ := jn_of k9 (by omega) nd lq jm
    refine ⟨_,rfl,_,rfl,_,rfl,(k : Int),rfl,la,_,rfl,SqL.of src4.la,fun lc hlc=>?_⟩
    rw [cut_to zs k (by omega)]
    have s5 := same_new hlc (.lst ((zs.take k).map V.str))
    have hlc5 : (upd H4 lc (.lst ((zs.take k).map V.str))) lc = some (.lst ((zs.take k).map V.str)) := upd_same
    revert s5 hlc5
    generalize upd H4 lc (.lst ((zs.take k).map V.str)) = H5
    intro s5 hlc5
    refine ⟨_,rfl,9,rfl,la,_,rfl,SqL.of (s5 _ _ src4.la),fun le hle=>?_⟩
    rw [cut_from]
    have s6 := same_new hle (.lst ((zs.drop 9).map V.str))
    have hle6 : (upd H5 le (.lst ((zs.drop 9).map V.str))) le = some (.lst ((zs.drop 9).map V.str)) := upd_same
    revert s6 hle6
    generalize upd H5 le (.lst ((zs.drop 9).map V.str)) = H6
    intro s6 hle6
    refine ⟨lc,le,_,_,rfl,rfl,s6 _ _ hlc5,hle6,small (by rw [List.length_map,List.length_map]; omega),fun lu hlu=>?_⟩
    rw [← List.map_append]
    have s7 := same_new hlu (.lst ((zs.take k ++ zs.drop 9).map V.str))
    have hlu7 : (upd H6 lu (.lst ((zs.take k ++ zs.drop 9).map V.str))) lu = some (.lst ((zs.take k ++ zs.drop 9).map V.str)) := upd_same
    revert s7 hlu7
    generalize upd H6 lu (.lst ((zs.take k ++ zs.drop 9).map V.str)) = H7
    intro s7 hlu7
    have s47 := s5.trans (s6.trans s7)
    have hp7 := hp4.same s47
    have src7 := src4.grow (growP_same hp4 s47) hp4
    have tb7 := tb4.same s47
    have hd7 := s47 _ _ hd
    have dr7 := dr.mono (Same.tups s47)
    have lU : (zs.take k ++ zs.drop 9).length ≤ 12 := by rw [List.length_append]; omega
    have srcU : Src H7 p lu ha (zs.take k ++ zs.drop 9) hvs hs := ⟨hlu7,lU,fun z hz=>by
      rcases List.mem_append.mp hz with h | h
      · exact src7.hz z (List.mem_of_mem_take h)
      · exact src7.hz z (List.mem_of_mem_drop h),src7.ha,src7.hr,src7.h1,src7.h9,src7.hh⟩
    refine ⟨_,rfl,_,rfl,p,cl,lu,ha,d,n + 2 + k * 30,zs.take k ++ zs.drop 9,hvs,hs,kvs,m,rfl,hp7,by omega,srcU,hd7,ndp,dr7,jn,fun l ps prs H8 l0 hl rps pok lp g8=>?_⟩
    revert jn srcU lU pok
    generalize zs.take k ++ zs.drop 9 = U
    intro jn srcU lU pok
    have src8 := src7.grow g8 hp7
    have tb8 := tb7.grow g8 hp7
    have hp8 := g8.ok
    have hd8 := g8.keep _ _ ndp hd7
    have dr8 := dr7.mono (g8.tups hp7)
    obtain ⟨U',lU',occ,inU⟩ := used_only U prs
    have gd0 : ∀ pr ∈ prs,(Gd 5 U pr.1 ∧ pr.1.sz ≤ 1000) ∧ (Gd 5 U pr.2 ∧ pr.2.sz ≤ 1000) := fun pr hpr=>by
      have P1 := pok pr hpr
      have z1 := szFill (m := m) P1.k1
      have z2 := szFill (m := m) P1.k2
      rw [← P1.th] at z2
      have z3 := P1.sz
      exact ⟨⟨⟨P1.k1,fun y hy=>vl_vin P1.v1 hy⟩,by omega⟩,⟨⟨P1.k2,fun y hy=>vl_vin P1.v2 hy⟩,by omega⟩⟩
    have gd : ∀ pr ∈ prs,(Gd 5 U' pr.1 ∧ pr.1.sz ≤ 1000) ∧ (Gd 5 U' pr.2 ∧ pr.2.sz ≤ 1000) := fun pr hpr=>by
      obtain ⟨⟨g1,z1⟩,⟨g2,z2⟩⟩ := gd0 pr hpr
      exact ⟨⟨⟨g1.1,fun y hy=>inU pr hpr y (.inl hy) (g1.2 y hy)⟩,z1⟩,⟨⟨g2.1,fun y hy=>inU pr hpr y (.inr hy) (g2.2 y hy)⟩,z2⟩⟩
    have mk : ∀ z : Str,z.length ≤ 80 → KD 10 (fillT m (.str z)) := fun z hz=>by
      rw [fillT_str]
      cases e : m.lookup z with
      | none=>exact .leaf hz
      | some t'=>exact (jn.nm.kd _ (lookup_mem e)).up (m := 10) (by decide)
    have mz : ∀ z : Str,(fillT m (.str z)).sz ≤ 17 := fun z=>by
      rw [fillT_str]
      cases e : m.lookup z with
      | none=>show 1 ≤ 17; decide
      | some t'=>exact jn.sz _ (lookup_mem e)
    have pro : ∀ pr ∈ prs,PrOk 10 U' m pr ∧ wt m pr + U'.length ≤ 200000 := fun pr hpr=>by
      have P1 := pok pr hpr
      obtain ⟨⟨G1,z1⟩,⟨G2,z2⟩⟩ := gd pr hpr
      refine ⟨⟨⟨G1.1.up (by decide),G1.2⟩,⟨G2.1.up (by decide),G2.2⟩,P1.th,by omega,by omega⟩,?_⟩
      have z3 := P1.sz
      unfold wt
      split <;> omega
    have moK : ∀ {mo : List (Str × T)},Told 10 m mo → ∀ x ∈ mo,KD 10 x.2 ∧ x.2.sz ≤ 100000 := fun {mo} tl x hx=>by
      obtain ⟨k1,k2,_⟩ := tl x hx
      have h1 := szFill (m := m) k1
      have h2 := mz x.1
      rw [k2] at h1
      exact ⟨k1,by omega⟩
    refine ⟨_,rfl,l,ps,rfl, .inl (SqL.of hl),fun lw hlw=>?_⟩
    have s9 := same_new hlw (.lst ps)
    have hlw9 : (upd H8 lw (.lst ps)) lw = some (.lst ps) := upd_same
    revert s9 hlw9
    generalize upd H8 lw (.lst ps) = H9
    intro s9 hlw9
    refine ⟨_,rfl,lw,ps,prs,10,U',m,rfl,hlw9,rps.mono (Same.tups s9),pro,vm,by omega,by decide,tb8.same s9,mk,fun td kd mo H10 st tb10 td0 htd drd told lmo tw=>?_⟩
    have td8 : H8 td = none := s9.free td0
    have nlw : lw ≠ td := fun e=>by rw [← e,hlw9] at td0; cases td0
    have st8 : SameT H8 H10 := (Same.toT s9).trans st
    have hl10 := st8.lst' hl
    have rps10 := rps.mono st8.tups
    have hlw10 := st.lst' hlw9
    refine ⟨_,rfl,_,rfl,td,l,kd,mo,ps,prs,U',rfl,htd,drd,moK told,tw,lmo,hl10,rps10,gd,by omega,by omega,occ,fun H11 s11=>?_⟩
    refine ⟨true,rfl,iteF ?_⟩
    refine ⟨_,rfl,_,rfl,lw,l,ps,rfl,rfl,s11 _ _ hlw10,s11 _ _ hl10,reps_refs rps,_,rfl,iteF ?_⟩
    have htd11 := s11 _ _ htd
    refine ⟨_,rfl, .inr (.inr (.inl ⟨rfl, .inl ⟨_,htd11⟩⟩)),td,kd,rfl,rfl,htd11,?_⟩
    have st12 : SameT H8 (upd H11 td (.dK [])) := fun b o no h=>by
      rw [upd_ne (ne_of_none h td8)]; exact s11 _ _ (st8 b o no h)
    have tb12 : TbOk Pt lamQ lamP (upd H11 td (.dK [])) := tb_upd (tb10.same s11) htd11
    have hlw12 : (upd H11 td (.dK [])) lw = some (.lst ps) := by rw [upd_ne nlw]; exact s11 _ _ hlw10
    revert st12 tb12 hlw12
    generalize upd H11 td (.dK []) = H12
    intro st12 tb12 hlw12
    refine ⟨_,rfl, .inl ⟨rfl,_,SqL.of hlw12⟩,lw,ps,rfl,rfl,hlw12,?_⟩
    have st13 : SameT H8 (upd H12 lw (.lst ps.reverse)) := fun b o no h=>by
      rw [upd_ne (ne_of_none h hlw)]; exact st12 b o no h
    have tb13 : TbOk Pt lamQ lamP (upd H12 lw (.lst ps.reverse)) := tb_updL tb12 hlw12
    have hlw13 : (upd H12 lw (.lst ps.reverse)) lw = some (.lst ps.reverse) := upd_same
    revert st13 tb13 hlw13
    generalize upd H12 lw (.lst ps.reverse) = H13
    intro st13 tb13 hlw13
    have rr13 : Reps H13 ps.reverse (prs.reverse.map pT) := by
      rw [List.map_reverse]
      exact (rps.mono st13.tups).reverse
    refine ⟨_,rfl,lw,ps.reverse,prs.reverse,10,U',m,rfl,hlw13,rr13,fun pr hpr=>pro pr (List.mem_reverse.mp hpr),vm,by omega,by decide,tb13,mk,fun td2 kd2 mo2 H14 st14 tb14 td20 htd2 drd2 told2 lmo2 tw2=>?_⟩
    have st814 : SameT H8 H14 := st13.trans st14
    refine ⟨_,rfl,td2,l,kd2,mo2,ps,prs,U',rfl,htd2,drd2,moK told2,tw2.rev,lmo2,st814.lst' hl,rps.mono st814.tups,gd,by omega,by omega,occ,fun H15 s15=>?_⟩
    have st815 : SameT H8 H15 := st814.trans (Same.toT s15)
    refine ⟨true,rfl,iteF ?_⟩
    exact nxt _ _ _ _ _ H15 ((hp8.conv st815).mono (by omega)) (src8.conv st815) (tb14.same s15)
  refine ⟨_,rfl,a,ns,rfl,hS0,fun p cl H1 e1 hp0 hcl0 ok1=>?_⟩
  have tb1 := tb0.same e1
  refine ⟨small (by show 2 ≤ 1000000; decide),fun l2 hl2=>?_⟩
  have s2 := same_new hl2 (.lst [V.int 4,V.int 9])
  have ok2 := ok1.same s2
  have hl2' : (upd H1 l2 (.lst [V.int 4,V.int 9])) l2 = some (.lst [V.int 4,V.int 9]) := upd_same
  revert ok2 hl2' s2
  generalize upd H1 l2 (.lst [V.int 4,V.int 9]) = H2
  intro s2 ok2 hl2'
  have tb2 := tb1.same s2
  refine ⟨_,rfl,p,cl,0,4,rfl,ok2,by decide,by decide,by decide,fun d H3 d0 d1 g3=>?_⟩
  have hl3 := g3.keep _ _ (ok2.ne_lst hl2') hl2'
  have tb3 := tb2.grow g3 ok2
  refine ⟨rfl, .inr ⟨_,rfl,?_⟩⟩
  have key : ∀ (c : Bool),∃ m : Nat,atI [V.int 4,V.int 9] (if c = true then 1 else 0) = some (.int (m : Int)) ∧ 1 ≤ m ∧ m ≤ 9 := fun c=>by
    cases c
    · exact ⟨4,atI_nat (j := 0) rfl,by decide,by decide⟩
    · exact ⟨9,atI_nat (j := 1) rfl,by decide,by decide⟩
  obtain ⟨m,hm,m1,m9⟩ := key (decide (V.int d = V.int 0))
  refine ⟨l2,_,_,_,rfl,rfl,SqL.of hl3,hm,_,rfl,by omega,by omega,?_⟩
  have en : (m : Int).toNat = m := by omega
  rw [en]
  refine comp_range (n := m) (fun i vs H'=>PotOk H' p cl (1 + 11 * i) ∧ TbOk Pt lamQ lamP H' ∧ ∃ hs : List (Str × Int),Reps H' vs (hs.map hT) ∧ hs.length = i ∧ ∀ h ∈ hs,NQ h.1 ∧ 0 ≤ h.2 ∧ h.2 < 4)
    ⟨g3.ok,tb3,[], .nil,rfl,fun _ h=>by cases h⟩ ?_ ?_ ?_
  · rintro i vs H4 hi ⟨_,_,hs,rhs,lhs,_⟩
    refine small' ?_
    rw [rhs.length,List.length_map,lhs]
    omega
  · rintro i vs H4 hi ⟨ok4,tb4,hs,rhs,lhs,hhs⟩
    refine tt1 (iteT ⟨_,rfl,p,cl,1 + 11 * i,rfl,ok4,by omega,fun b z k H5 nz k0 k4 hb g5=>nx hi ⟨g5.ok.mono (by omega),tb4.grow g5 ok4,hs ++ [(z,k)],?_,by rw [List.length_append,lhs]; rfl,fun h hh=>?_⟩⟩)
    · rw [List.map_append]
      exact (rhs.growP g5 ok4).append (.cons (hT_reps hb nz.2) .nil)
    · rcases List.mem_append.mp hh with h' | h'
      · exact hhs h h'
      · rw [List.mem_singleton.mp h']
        exact ⟨nz,k0,k4⟩
  rintro hvs H4 ⟨ok4,tb4,hs,rhs,lhs,hhs⟩ ha hha
  have s5 := same_new hha (.lst hvs)
  have ok5 : PotOk (upd H4 ha (.lst hvs)) p cl 100 := (ok4.mono (by omega)).same s5
  have hha5 : (upd H4 ha (.lst hvs)) ha = some (.lst hvs) := upd_same
  have rhs5 := rhs.same s5
  revert ok5 hha5 rhs5 s5
  generalize upd H4 ha (.lst hvs) = H5
  intro s5 ok5 hha5 rhs5
  have tb5 := tb4.same s5
  show tSeq _ _ _ [some (.ref a),some (.ref p),some (.ref ha),none,none,none,none,none,none,none] H5
  refine ⟨_,rfl,p,cl,100,12,rfl,ok5,by decide,by decide,fun la zs H8 hla hla8 lzs nd hz8 g8=>?_⟩
  have hha8 := g8.keep _ _ (ok5.ne_lst hha5) hha5
  have rhs8 := rhs5.growP g8 ok5
  have tb8 := tb5.grow g8 ok5
  have src8 : Src H8 p la ha zs hvs hs := ⟨hla8,by omega,fun z hz=>(hz8 z hz).2,hha8,rhs8,by omega,by omega,hhs⟩
  have ok8 : PotOk H8 p cl 300 := g8.ok.mono (by omega)
  show tSeq _ _ _ [some (.ref a),some (.ref p),some (.ref ha),some (.ref la),none,none,none,none,none,none] H8
  refine ⟨3,rfl,by decide,by decide,for_range (n := 3) (fun i σ H'=>∃ (o4 o5 o6 o7 o8 o9 : Option V),σ = [some (.ref a),some (.ref p),some (.ref ha),some (.ref la),o4,o5,o6,o7,o8,o9] ∧ PotOk H' p cl (300 + 70000 * i) ∧ Src H' p la ha zs hvs hs ∧ TbOk Pt lamQ lamP H')
    ⟨none,none,none,none,none,none,rfl,ok8,src8,tb8⟩ ?_ ?_⟩
  · rintro i σ H9 hi ⟨o4,o5,o6,o7,o8,o9,rfl,ok9,src9,tb9⟩
    refine ⟨a,p,cl,ha,la,_,o5,o6,o7,o8,o9,zs,hvs,hs,300 + 70000 * i,rfl,ok9,by omega,src9,nd,lzs,hz8,tb9,fun q5 q6 q7 q8 q9 H10 ok10 src10 tb10=>?_⟩
    exact ⟨_,_,_,_,_,_,rfl,ok10.mono (by omega),src10,tb10⟩
  · rintro σ H9 ⟨o4,o5,o6,o7,o8,o9,rfl,ok9,src9,tb9⟩
    have e0 : ∀ t : T,fillT [] t = t := fill_self fun z=>by rw [fillT_str]; rfl
    have mk0 : ∀ z : Str,z.length ≤ 80 → KD 10 (fillT [] (.str z)) := fun z hz=>by rw [e0]; exact .leaf hz
    refine ⟨small (by show 0 ≤ 1000000; decide),fun l1 hl1=>?_⟩
    have s1 := same_new hl1 (.lst [])
    refine ⟨l1,[],[],10,[],[],rfl,upd_same, .nil,(fun p hp=>by cases hp),(fun z t h=>by cases h),by decide,by decide,tb9.same s1,mk0,fun d1 kd1 mo1 H10 st1 tb10 d10 hd1 dr1 tl1 lm1 tw1=>?_⟩
    have em1 := told_none tl1 tw1
    subst em1
    have ek1 := dreps_nil dr1
    subst ek1
    intro d2 hd2
    have s2 := same_new hd2 (.dK [])
    refine ⟨d1,d2,rfl,rfl,s2 _ _ hd1,upd_same,true,rfl,iteT ?_⟩
    have st2 : SameT H9 (upd H10 d2 (.dK [])) := ((Same.toT s1).trans st1).trans (Same.toT s2)
    have tb2 := tb10.same s2
    revert st2 tb2
    generalize upd H10 d2 (.dK []) = H11
    intro st2 tb2
    have hla := st2.lst' src9.la
    obtain ⟨z0,hz0⟩ : ∃ z0,zs[0]? = some z0 := ⟨zs[0]'(by omega),List.getElem?_eq_getElem (by omega)⟩
    have lq0 := hz8 z0 (List.mem_of_getElem? hz0)
    have hv0 : (zs.map V.str)[0]? = some (V.str z0) := by rw [List.getElem?_map,hz0]; rfl
    refine ⟨small (by show 2 ≤ 1000000; decide),fun p1 hp1=>?_⟩
    have t1 := same_new hp1 (.tup [.str "num", .str "num"])
    refine ⟨_,rfl,la,_,0, .str z0,rfl,rfl,SqL.of (t1 _ _ hla),atI_nat (j := 0) hv0,_,rfl,la,_,0, .str z0,rfl,rfl,SqL.of (t1 _ _ hla),atI_nat (j := 0) hv0,small (by show 2 ≤ 1000000; decide),fun p2 hp2=>⟨small (by show 2 ≤ 1000000; decide),fun l3 hl3=>?_⟩⟩
    have t2 := same_new hp2 (.tup [.str z0, .str z0])
    have t3 := same_new hl3 (.lst [.ref p1, .ref p2])
    have z80 : z0.length ≤ 80 := lq0.2
    have rn : ∀ H',Rep H' (.str "num") (.str "num") := fun H'=>.str _ (by decide +kernel)
    have rz : ∀ H',Rep H' (.str z0) (.str z0) := fun H'=>.str _ (by omega)
    have nn : ∀ y,¬ Vin y (.str "num") := fun y hy=>by
      have := mem_vs.mpr hy
      rw [vs_num] at this
      cases this
    refine ⟨l3,[.ref p1, .ref p2],[(.str "num", .str "num"),(.str z0, .str z0)],10,[z0],[],rfl,upd_same, .cons (.tup (t3 _ _ (t2 _ _ upd_same)) (.cons (rn _) (.cons (rn _) .nil))) (.cons (.tup (t3 _ _ upd_same) (.cons (rz _) (.cons (rz _) .nil))) .nil),fun pr hpr=>?_,(fun z t h=>by cases h),by show 1 ≤ 200; decide,by decide,tb2.same (t1.trans (t2.trans t3)),mk0,fun d4 kd4 mo4 H14 st4 tb14 d40 hd4 dr4 tl4 lm4 tw4=>?_⟩
    · have hw : ∀ x : Str,wt [] (.str x, .str x) + 1 ≤ 200000 := fun x=>by
        unfold wt
        rw [e0]
        show 2 * 1 + _ + 1 ≤ 200000
        split <;> omega
      rcases List.mem_cons.mp hpr with e | e
      · rw [e]
        exact ⟨⟨⟨kd_num 10,fun y hy=>absurd hy (nn y)⟩,⟨kd_num 10,fun y hy=>absurd hy (nn y)⟩,rfl,by decide,by decide⟩,hw _⟩
      · rw [List.mem_singleton.mp e]
        have gz : Gd 10 [z0] (.str z0) := ⟨.leaf z80,fun y hy=>by rw [(vin_str.mp hy).1]; exact List.mem_cons_self⟩
        exact ⟨⟨gz,gz,rfl,by show 1 ≤ 100000; decide,by show 1 ≤ 100000; decide⟩,hw _⟩
    have em4 := told_none tl4 tw4
    subst em4
    have ek4 := dreps_nil dr4
    subst ek4
    intro d5 hd5
    exact ⟨d4,d5,rfl,rfl,(same_new hd5 (.dK [])) _ _ hd4,upd_same,q _⟩
end
end Fw
set_option Elab.async false
set_option linter.all false
set_option maxRecDepth 100000
namespace Fw
open PySem PySem.Spec PyProof.Rows L2
def DefIs (K : PySem.W.Frag) (x : Str) (st : Stmt) : Prop := ∃ f fd,PySem.W.nsIn K mainGlobals x = some (some (.ref f)) ∧ Fun K x x st f fd
theorem def_mk {K : PySem.W.Frag} {x : Str} {st : Stmt} {f : Addr} {oc : Value} {od an : Option Addr} {osl : Array (Option Value)} {kV doc pm cdv ct : Value} (a : PySem.W.nsIn K mainGlobals x = some (some (.ref f)))
    (l : K.lookup f = some ⟨oc,od, .func (PySem.W.fnOf x x (defArgs st) (defBody st) (defScope st) .none kV doc pm an cdv ct),osl⟩) (c : PySem.W.codeIn K cdv x = true) (k : PySem.W.keepIn K (.ref f) = true) : DefIs K x st := ⟨f,_,a,fun_mk l c k⟩
theorem law_binds {K : PySem.W.Frag} {x : Str} {st : Stmt} {f : Addr} {fd : FuncData} {p : Str} (F : Fun K x x st f fd) (h : ∀ (kV doc pm : Value) (an : Option Addr) (cdv ct : Value) (s : Shared) (v : Value),BindsTo s (PySem.W.fnOf x x (defArgs st) (defBody st) (defScope st) .none kV doc pm an cdv ct) ⟨[v],[]⟩ [(p,v)]) :
    ∀ (s : Shared) (v : Value),BindsTo s fd ⟨[v],[]⟩ [(p,v)] := by
  obtain ⟨oc,od,kV,doc,pm,an,cdv,ct,osl,rfl,lk,hcd⟩ := F.ex
  exact h kV doc pm an cdv ct
def MethIs (K : PySem.W.Frag) (C : Addr) (x q : Str) (st : Stmt) : Prop := ∃ f fd,Meth K C x f ∧ Fun K x q st f fd
theorem meth_mk {K : PySem.W.Frag} {C : Addr} {x q : Str} {st : Stmt} {f : Addr} {oc : Value} {od an : Option Addr} {osl : Array (Option Value)} {kV doc pm cdv ct : Value} (a : PySem.W.findIn K (.ref C) x = some (some (.ref f))) (i : PySem.W.isFn K (.ref f) = true)
    (l : K.lookup f = some ⟨oc,od, .func (PySem.W.fnOf x q (defArgs st) (defBody st) (defScope st) .none kV doc pm an cdv ct),osl⟩) (c : PySem.W.codeIn K cdv q = true) (k : PySem.W.keepIn K (.ref f) = true) : MethIs K C x q st := ⟨f,_,⟨a,i,k⟩,fun_mk l c k⟩
theorem cls_mk {K : PySem.W.Frag} {C : Addr} (pg : PySem.W.plainGet K C Str.empty = true) (hd : PySem.W.hasDictIn K C = true) (po : PySem.W.plainOver K C = true) (sa : PySem.W.findIn K (.ref C) "__setattr__" = some (some (.builtin "object.__setattr__"))) : Cls K C := ⟨pg,hd,po,sa⟩
theorem noat_mk {K : PySem.W.Frag} {C : Addr} {x : Str} (n : PySem.W.findIn K (.ref C) x = some none) : NoAttr K C x := n
def DefIsC (K : PySem.W.Frag) (x : Str) (st : Stmt) (cp : Addr) : Prop := ∃ f fd,PySem.W.nsIn K mainGlobals x = some (some (.ref f)) ∧ Fun K x x st f fd ∧ fd.code = .ref cp
theorem def_mkC {K : PySem.W.Frag} {x : Str} {st : Stmt} {f cp : Addr} {oc : Value} {od an : Option Addr} {osl : Array (Option Value)} {kV doc pm ct : Value} (a : PySem.W.nsIn K mainGlobals x = some (some (.ref f)))
    (l : K.lookup f = some ⟨oc,od, .func (PySem.W.fnOf x x (defArgs st) (defBody st) (defScope st) .none kV doc pm an (.ref cp) ct),osl⟩) (c : PySem.W.codeIn K (.ref cp) x = true) (k : PySem.W.keepIn K (.ref f) = true) : DefIsC K x st cp := ⟨f,_,a,fun_mk l c k,rfl⟩
set_option maxHeartbeats 2000000 in
theorem all_mk {l : PySem.W.OpenLaw} {w : World} {K : PySem.W.Frag} {h : Heap} {mg : Str → Option Value} {fa cp Pt C : Addr} (X : K.In h) (G : h.Ns mainGlobals mg) (hfa : mg "law" = some (.ref fa))
    (z_len : PySem.W.nsIn K mainGlobals "len" = some none)
    (z_isinstance : PySem.W.nsIn K mainGlobals "isinstance" = some none)
    (z_str : PySem.W.nsIn K mainGlobals "str" = some none)
    (z_tuple : PySem.W.nsIn K mainGlobals "tuple" = some none)
    (z_list : PySem.W.nsIn K mainGlobals "list" = some none)
    (z_reversed : PySem.W.nsIn K mainGlobals "reversed" = some none)
    (z_range : PySem.W.nsIn K mainGlobals "range" = some none)
    (z_int : PySem.W.nsIn K mainGlobals "int" = some none)
    (z_zip : PySem.W.nsIn K mainGlobals "zip" = some none)
    (z_dict : PySem.W.nsIn K mainGlobals "dict" = some none)
    (z_all : PySem.W.nsIn K mainGlobals "all" = some none)
    (z_any : PySem.W.nsIn K mainGlobals "any" = some none)
    (aC : PySem.W.nsIn K mainGlobals "Joins" = some (some (.ref C))) (cC : Cls K C) (mkC : PySem.W.makesIn K C = true) (kcC : PySem.W.keepIn K (.ref C) = true) (nC0 : NoAttr K C "bound") (nC1 : NoAttr K C "fixed")
    (mC0 : MethIs K C "__init__" "Joins.__init__" (jm 0))
    (mC1 : MethIs K C "is_loose" "Joins.is_loose" (jm 1))
    (mC2 : MethIs K C "end_of" "Joins.end_of" (jm 2))
    (mC3 : MethIs K C "bind" "Joins.bind" (jm 3))
    (mC4 : MethIs K C "join_ends" "Joins.join_ends" (jm 4))
    (mC5 : MethIs K C "join_pair" "Joins.join_pair" (jm 5))
    (mC6 : MethIs K C "loose_within" "Joins.loose_within" (jm 6))
    (mC7 : MethIs K C "inner_first" "Joins.inner_first" (jm 7))
    (mC8 : MethIs K C "whole" "Joins.whole" (jm 8))
    (d1 : DefIs K "headed" s_headed)
    (d2 : DefIs K "is_open" s_is_open)
    (d3 : DefIs K "formed" s_formed)
    (d5 : DefIs K "outer_first" s_outer)
    (d6 : DefIs K "variables" s_variables)
    (d7 : DefIs K "remade" s_remade)
    (d8 : DefIsC K "put" s_put cp)
    (d9 : DefIs K "same_head" s_same_head)
    (d12 : DefIs K "joined" s_joined)
    (d14 : DefIs K "_law_mixed" s_mixed)
    (d15 : DefIs K "_law_pot" s_pot)
    (d16 : DefIs K "_law_draw" s_draw)
    (d17 : DefIs K "_law_word" s_word)
    (d18 : DefIs K "_law_head" s_head)
    (d19 : DefIs K "_law_leaf" s_leaf)
    (d20 : DefIs K "_law_leaves" s_leaves)
    (d21 : DefIs K "_law_kind" s_kind)
    (d22 : DefIs K "_law_standing" s_standing)
    (d23 : DefIs K "_law_same" s_same)
    (d24 : DefIs K "_law_filled" s_filled)
    (d25 : DefIs K "_law_joiner" s_joiner)
    (d26 : DefIs K "_law_folded" s_folded)
    (d27 : DefIs K "_law_many" s_many)
    (d28 : DefIs K "_law_pairs" s_pairs)
    (d29 : DefIs K "_law_names" s_names)
    (d30 : DefIs K "_law_is_kind" s_isk)
    (d31 : DefIs K "_law_joins" s_joins)
    (d32 : DefIs K "law" s_law) :
    ∃ fd : FuncData,(∀ (s : Shared) (v : Value),BindsTo s fd ⟨[v],[]⟩ [("_law_script",v)]) ∧ ∀ base : Heap,K.In base → base.Ns mainGlobals mg → BMain mg base → PySem.W.CodeHd base cp Pt → FnOk l.prog w K mg base CX0 18 fa fd ["_law_script"] (spLaw Pt K) := by
  obtain ⟨f1,g1,a1,F1⟩ := d1
  obtain ⟨f2,g2,a2,F2⟩ := d2
  obtain ⟨f3,g3,a3,F3⟩ := d3
  obtain ⟨f5,g5,a5,F5⟩ := d5
  obtain ⟨f6,g6,a6,F6⟩ := d6
  obtain ⟨f7,g7,a7,F7⟩ := d7
  obtain ⟨f8,g8,a8,F8,cdE⟩ := d8
  obtain ⟨f9,g9,a9,F9⟩ := d9
  obtain ⟨f12,g12,a12,F12⟩ := d12
  obtain ⟨f14,g14,a14,F14⟩ := d14
  obtain ⟨f15,g15,a15,F15⟩ := d15
  obtain ⟨f16,g16,a16,F16⟩ := d16
  obtain ⟨f17,g17,a17,F17⟩ := d17
  obtain ⟨f18,g18,a18,F18⟩ := d18
  obtain ⟨f19,g19,a19,F19⟩ := d19
  obtain ⟨f20,g20,a20,F20⟩ := d20
  obtain ⟨f21,g21,a21,F21⟩ := d21
  obtain ⟨f22,g22,a22,F22⟩ := d22
  obtain ⟨f23,g23,a23,F23⟩ := d23
  obtain ⟨f24,g24,a24,F24⟩ := d24
  obtain ⟨f25,g25,a25,F25⟩ := d25
  obtain ⟨f26,g26,a26,F26⟩ := d26
  obtain ⟨f27,g27,a27,F27⟩ := d27
  obtain ⟨f28,g28,a28,F28⟩ := d28
  obtain ⟨f29,g29,a29,F29⟩ := d29
  obtain ⟨f30,g30,a30,F30⟩ := d30
  obtain ⟨f31,g31,a31,F31⟩ := d31
  obtain ⟨f32,g32,a32,F32⟩ := d32
  have e := hfa.symm.trans (PySem.W.mg_of X G a32)
  cases e
  refine ⟨g32,law_binds F32 fun _ _ _ _ _ _ _ _=>.of_eq rfl,fun base XB GB BM CH=>?_⟩
  have m_len := PySem.W.mg_none_of X G z_len
  have m_isinstance := PySem.W.mg_none_of X G z_isinstance
  have m_str := PySem.W.mg_none_of X G z_str
  have m_tuple := PySem.W.mg_none_of X G z_tuple
  have m_list := PySem.W.mg_none_of X G z_list
  have m_reversed := PySem.W.mg_none_of X G z_reversed
  have m_range := PySem.W.mg_none_of X G z_range
  have m_int := PySem.W.mg_none_of X G z_int
  have m_zip := PySem.W.mg_none_of X G z_zip
  have m_dict := PySem.W.mg_none_of X G z_dict
  have m_all := PySem.W.mg_none_of X G z_all
  have m_any := PySem.W.mg_none_of X G z_any
  have mgC := PySem.W.mg_of X G aC
  obtain ⟨fC0,gC0,MC0,FC0⟩ := mC0
  have bC0 := FC0.binds (ps := ["self"]) fun _ _ _ _ _ _ us hl=>match us,hl with | [_],_=>rfl
  obtain ⟨fC1,gC1,MC1,FC1⟩ := mC1
  have bC1 := FC1.binds (ps := ["self","kind"]) fun _ _ _ _ _ _ us hl=>match us,hl with | [_,_],_=>rfl
  obtain ⟨fC2,gC2,MC2,FC2⟩ := mC2
  have bC2 := FC2.binds (ps := ["self","kind"]) fun _ _ _ _ _ _ us hl=>match us,hl with | [_,_],_=>rfl
  obtain ⟨fC3,gC3,MC3,FC3⟩ := mC3
  have bC3 := FC3.binds (ps := ["self","variable","kind"]) fun _ _ _ _ _ _ us hl=>match us,hl with | [_,_,_],_=>rfl
  obtain ⟨fC4,gC4,MC4,FC4⟩ := mC4
  have bC4 := FC4.binds (ps := ["self","one","other"]) fun _ _ _ _ _ _ us hl=>match us,hl with | [_,_,_],_=>rfl
  obtain ⟨fC5,gC5,MC5,FC5⟩ := mC5
  have bC5 := FC5.binds (ps := ["self","one","other"]) fun _ _ _ _ _ _ us hl=>match us,hl with | [_,_,_],_=>rfl
  obtain ⟨fC6,gC6,MC6,FC6⟩ := mC6
  have bC6 := FC6.binds (ps := ["self","kind"]) fun _ _ _ _ _ _ us hl=>match us,hl with | [_,_],_=>rfl
  obtain ⟨fC7,gC7,MC7,FC7⟩ := mC7
  have bC7 := FC7.binds (ps := ["self","kinds"]) fun _ _ _ _ _ _ us hl=>match us,hl with | [_,_],_=>rfl
  obtain ⟨fC8,gC8,MC8,FC8⟩ := mC8
  have bC8 := FC8.binds (ps := ["self","order","by"]) fun _ _ _ _ _ _ us hl=>match us,hl with | [_,_,_],_=>rfl
  have b1 := F1.binds (ps := ["thing"]) fun _ _ _ _ _ _ us hl=>match us,hl with | [_],_=>rfl
  have b2 := F2.binds (ps := ["thing"]) fun _ _ _ _ _ _ us hl=>match us,hl with | [_],_=>rfl
  have b3 := F3.binds (ps := ["head","inner"]) fun _ _ _ _ _ _ us hl=>match us,hl with | [_,_],_=>rfl
  have b5 := F5.binds (ps := ["kind"]) fun _ _ _ _ _ _ us hl=>match us,hl with | [_],_=>rfl
  have b6 := F6.binds (ps := ["kind"]) fun _ _ _ _ _ _ us hl=>match us,hl with | [_],_=>rfl
  have b7 := F7.binds (ps := ["kind","make"]) fun _ _ _ _ _ _ us hl=>match us,hl with | [_,_],_=>rfl
  have b8 := F8.binds (ps := ["kind","by"]) fun _ _ _ _ _ _ us hl=>match us,hl with | [_,_],_=>rfl
  have b9 := F9.binds (ps := ["one","other"]) fun _ _ _ _ _ _ us hl=>match us,hl with | [_,_],_=>rfl
  have b12 := F12.binds (ps := ["pairs"]) fun _ _ _ _ _ _ us hl=>match us,hl with | [_],_=>rfl
  have b14 := F14.binds (ps := ["_law_cell","_law_turn"]) fun _ _ _ _ _ _ us hl=>match us,hl with | [_,_],_=>rfl
  have b15 := F15.binds (ps := ["_law_script"]) fun _ _ _ _ _ _ us hl=>match us,hl with | [_],_=>rfl
  have b16 := F16.binds (ps := ["_law_pot_here","_law_many_here"]) fun _ _ _ _ _ _ us hl=>match us,hl with | [_,_],_=>rfl
  have b17 := F17.binds (ps := ["_law_pot_here"]) fun _ _ _ _ _ _ us hl=>match us,hl with | [_],_=>rfl
  have b18 := F18.binds (ps := ["_law_pot_here"]) fun _ _ _ _ _ _ us hl=>match us,hl with | [_],_=>rfl
  have b19 := F19.binds (ps := ["_law_pot_here"]) fun _ _ _ _ _ _ us hl=>match us,hl with | [_],_=>rfl
  have b20 := F20.binds (ps := ["_law_pot_here","_law_many_here"]) fun _ _ _ _ _ _ us hl=>match us,hl with | [_,_],_=>rfl
  have b21 := F21.binds (ps := ["_law_pot_here","_law_leaves_here","_law_heads","_law_deep"]) fun _ _ _ _ _ _ us hl=>match us,hl with | [_,_,_,_],_=>rfl
  have b22 := F22.binds (ps := ["_law_kind_here"]) fun _ _ _ _ _ _ us hl=>match us,hl with | [_],_=>rfl
  have b23 := F23.binds (ps := ["_law_one","_law_due"]) fun _ _ _ _ _ _ us hl=>match us,hl with | [_,_],_=>rfl
  have b24 := F24.binds (ps := ["_law_kind_here","_law_by"]) fun _ _ _ _ _ _ us hl=>match us,hl with | [_,_],_=>rfl
  have b25 := F25.binds (ps := ["_law_pot_here","_law_names_here","_law_beyond","_law_heads"]) fun _ _ _ _ _ _ us hl=>match us,hl with | [_,_,_,_],_=>rfl
  have b26 := F26.binds (ps := ["_law_pot_here","_law_kind_here","_law_by"]) fun _ _ _ _ _ _ us hl=>match us,hl with | [_,_,_],_=>rfl
  have b27 := F27.binds (ps := ["_law_pot_here"]) fun _ _ _ _ _ _ us hl=>match us,hl with | [_],_=>rfl
  have b28 := F28.binds (ps := ["_law_pot_here","_law_leaves_here","_law_heads","_law_by"]) fun _ _ _ _ _ _ us hl=>match us,hl with | [_,_,_,_],_=>rfl
  have b29 := F29.binds (ps := ["_law_pairs_here"]) fun _ _ _ _ _ _ us hl=>match us,hl with | [_],_=>rfl
  have b30 := F30.binds (ps := ["_law_kind_here","_law_names_here"]) fun _ _ _ _ _ _ us hl=>match us,hl with | [_,_],_=>rfl
  have b31 := F31.binds (ps := ["_law_told","_law_pairs_here"]) fun _ _ _ _ _ _ us hl=>match us,hl with | [_,_],_=>rfl
  have Tx : TxJ K C := ⟨cC,nC0,nC1⟩
  have H1 : Has l.prog w K mg base 1 "headed" ["thing"] spHeaded := ⟨f1,g1,ok_headed F1 m_isinstance m_tuple,b1,F1.kp,PySem.W.mg_of X G a1⟩
  have H2 : Has l.prog w K mg base 1 "is_open" ["thing"] spOpen := ⟨f2,g2,ok_is_open F2 m_isinstance m_str,b2,F2.kp,PySem.W.mg_of X G a2⟩
  have H2N : Has l.prog w K mg base 1 "is_open" ["thing"] spOpenN := ⟨f2,g2,ok_is_openN F2 m_isinstance m_str,b2,F2.kp,PySem.W.mg_of X G a2⟩
  have H3 : Has l.prog w K mg base 1 "formed" ["head","inner"] spFormed := ⟨f3,g3,ok_formed F3 m_len m_tuple,b3,F3.kp,PySem.W.mg_of X G a3⟩
  have H5 : Has l.prog w K mg base 1 "outer_first" ["kind"] spOuter := ⟨f5,g5,ok_outer F5 m_len m_isinstance m_tuple m_list m_reversed,b5,F5.kp,PySem.W.mg_of X G a5⟩
  have H6 : Has l.prog w K mg base 2 "variables" ["kind"] spVars := ⟨f6,g6,ok_variables F6 m_list H2 H5,b6,F6.kp,PySem.W.mg_of X G a6⟩
  have H7 : Has l.prog w K mg base 3 "remade" ["kind","make"] (spRemade l.prog w K mg base) := ⟨f7,g7,ok_remade F7 m_len m_range m_reversed H1 H5,b7,F7.kp,PySem.W.mg_of X G a7⟩
  have H8 : Has l.prog w K mg base 4 "put" ["kind","by"] (spPut Pt) := ⟨f8,g8,ok_put F8 cdE CH BM m_len H2 H3 H7,b8,F8.kp,PySem.W.mg_of X G a8⟩
  have H9 : Has l.prog w K mg base 1 "same_head" ["one","other"] spSameHead := ⟨f9,g9,ok_same_head F9 m_len,b9,F9.kp,PySem.W.mg_of X G a9⟩
  have G0 := ok_jinit (P := l.prog) (w := w) (mg := mg) (base := base) FC0 Tx
  have G1 := ok_jloose FC1 Tx H2N
  have G2 := ok_jend FC2 Tx MC1 G1 bC1
  have G6 := ok_jwithin FC6 Tx MC1 G1 bC1 H6
  have G7 := ok_jinner FC7 Tx MC6 G6 bC6 m_reversed m_list m_len
  have G3 := ok_jbind FC3 Tx MC7 G7 bC7
  have G4 := ok_jends FC4 Tx MC1 G1 bC1 MC3 G3 bC3 m_list m_zip H1 H9
  have G5 := ok_jpair FC5 Tx MC2 G2 bC2 MC4 G4 bC4 m_len
  have G8 := ok_jwhole FC8 Tx m_dict H8
  have H12 : Has l.prog w K mg base 8 "joined" ["pairs"] (spJoined Pt) := ⟨f12,g12,ok_joined F12 Tx ⟨mkC,MC0.at_,MC0.fn,kcC⟩ G0 bC0 mgC MC5 G5 bC5 MC7 G7 bC7 MC8 G8 bC8 m_list,b12,F12.kp,PySem.W.mg_of X G a12⟩
  have H14 : Has l.prog w K mg base 1 "_law_mixed" ["_law_cell","_law_turn"] spMixed := ⟨f14,g14,ok_mixed F14,b14,F14.kp,PySem.W.mg_of X G a14⟩
  have H15 : Has l.prog w K mg base 1 "_law_pot" ["_law_script"] (spPot K) := ⟨f15,g15,ok_pot F15 m_list,b15,F15.kp,PySem.W.mg_of X G a15⟩
  have H16 : Has l.prog w K mg base 2 "_law_draw" ["_law_pot_here","_law_many_here"] spDraw := ⟨f16,g16,ok_draw F16 m_len H14,b16,F16.kp,PySem.W.mg_of X G a16⟩
  have H17 : Has l.prog w K mg base 3 "_law_word" ["_law_pot_here"] spPWord := ⟨f17,g17,ok_word F17 H16,b17,F17.kp,PySem.W.mg_of X G a17⟩
  have H18 : Has l.prog w K mg base 4 "_law_head" ["_law_pot_here"] spPHead := ⟨f18,g18,ok_head F18 H16 H17,b18,F18.kp,PySem.W.mg_of X G a18⟩
  have H19 : Has l.prog w K mg base 4 "_law_leaf" ["_law_pot_here"] spPLeaf := ⟨f19,g19,ok_leaf F19 m_str H16 H17,b19,F19.kp,PySem.W.mg_of X G a19⟩
  have H20 : Has l.prog w K mg base 5 "_law_leaves" ["_law_pot_here","_law_many_here"] spPLeaves := ⟨f20,g20,ok_leaves F20 m_range H19,b20,F20.kp,PySem.W.mg_of X G a20⟩
  have H212 := kinds_le (P := l.prog) (w := w) (base := base) F21 b21 (PySem.W.mg_of X G a21) m_len m_range m_tuple H16 2
  have H213 := kinds_le (P := l.prog) (w := w) (base := base) F21 b21 (PySem.W.mg_of X G a21) m_len m_range m_tuple H16 3
  have H22 : Has l.prog w K mg base 1 "_law_standing" ["_law_kind_here"] spVars := ⟨f22,g22,ok_standing F22 m_len m_isinstance m_tuple m_list m_reversed,b22,F22.kp,PySem.W.mg_of X G a22⟩
  have H23 := same_all (P := l.prog) (w := w) (base := base) F23 b23 (PySem.W.mg_of X G a23) m_isinstance m_tuple m_str m_len m_all m_zip 16
  have H24 := filled_all (P := l.prog) (w := w) (base := base) F24 b24 (PySem.W.mg_of X G a24) m_isinstance m_tuple 4
  have H246 := filled_all (P := l.prog) (w := w) (base := base) F24 b24 (PySem.W.mg_of X G a24) m_isinstance m_tuple 6
  have H25 : Has l.prog w K mg base 6 "_law_joiner" ["_law_pot_here","_law_names_here","_law_beyond","_law_heads"] spJoiner := ⟨f25,g25,ok_joiner F25 m_len H16 H212,b25,F25.kp,PySem.W.mg_of X G a25⟩
  have H26 := folds_all (P := l.prog) (w := w) (base := base) F26 b26 (PySem.W.mg_of X G a26) m_isinstance m_tuple H16 6
  have H27 : Has l.prog w K mg base 3 "_law_many" ["_law_pot_here"] spMany := ⟨f27,g27,ok_many F27 H16,b27,F27.kp,PySem.W.mg_of X G a27⟩
  have H28 : Has l.prog w K mg base 9 "_law_pairs" ["_law_pot_here","_law_leaves_here","_law_heads","_law_by"] spPairs := ⟨f28,g28,ok_pairs F28 m_range m_len m_int H16 H213 H26 H24,b28,F28.kp,PySem.W.mg_of X G a28⟩
  have H29 : Has l.prog w K mg base 2 "_law_names" ["_law_pairs_here"] spNames := ⟨f29,g29,ok_names F29 H22,b29,F29.kp,PySem.W.mg_of X G a29⟩
  have H30 := isk_all (P := l.prog) (w := w) (base := base) F30 b30 (PySem.W.mg_of X G a30) m_isinstance m_tuple m_str m_len m_all 11
  have H31 : Has l.prog w K mg base 17 "_law_joins" ["_law_told","_law_pairs_here"] spJs := ⟨f31,g31,ok_joins F31 m_isinstance m_dict m_all m_any H29 H30 H22 H23 H246,b31,F31.kp,PySem.W.mg_of X G a31⟩
  exact ok_law F32 m_range m_int m_list H15 H16 H18 H20 H27 H25 H28 H12 H31
theorem walk {l : PySem.W.OpenLaw} {q : Program} {loose : List Str} {XP : (Str → Option Value) → Heap → Prop} {YP : World → Heap → Prop} {d : DefRec} {K : Params → PySem.W.Frag} {cp Pt : Addr} (hn : l.most = some 63) (hdf : d.params.defaults = [])
    (hY : ∀ (w : World) (h : Heap),YP w h → (K w.params).In h) (nT : ∀ w : World,PySem.W.noTabs (K w.params) = true) (hcd : ∀ w : World,PySem.W.codeHdIn (K w.params) cp Pt = true) (hT : ∀ (w : World) (h : Heap),YP w h → h.get? Pt = some (PySem.W.tabObj #[]))
    (F : ∀ (w : World) (mg : Str → Option Value) (fa : Addr) (h : Heap),(K w.params).In h → h.Ns mainGlobals mg → mg d.name = some (.ref fa) →
      ∃ fd : FuncData,(∀ (s : Shared) (u : Value),BindsTo s fd ⟨[u],[]⟩ [("_law_script",u)]) ∧ ∀ base : Heap,(K w.params).In base → base.Ns mainGlobals mg → BMain mg base → PySem.W.CodeHd base cp Pt → FnOk l.prog w (K w.params) mg base CX0 18 fa fd ["_law_script"] (spLaw Pt (K w.params))) :
    PySem.W.WalkO q loose XP YP l.row.toRowW d [] (fun f vs=>PySem.call f vs) :=
  L2.walk_ofT (n := 63) (k := 18) (x := "_law_script") (sp := spLaw Pt) hn (by decide) hdf ⟨rfl,by decide,by decide⟩ hY nT hcd hT F (fun _ _ a ns hl hS hP=>⟨a,ns,rfl,hS,hl,hP,fun _=>rfl⟩)
end Fw
set_option Elab.async false
open PySem PySem.W PyProof.Rows
def PySem.W.Fast.tw1721213969433303345 : Unit := ()
def PySem.W.Fast.tw2639287615382231653 : Unit := ()
def PySem.W.Fast.tw4367236624333485388 : Unit := ()
def PySem.W.Fast.tw7738707747530784045 : Unit := ()
def PySem.W.Fast.tw3469616788499563785 : Unit := ()
def PySem.W.Fast.tw10510142284948122274 : Unit := ()
def PySem.W.Fast.tw3641848978991400834 : Unit := ()
def PySem.W.Fast.tw17425823143618764699 : Unit := ()
def PySem.W.Fast.tw5888843069568507258 : Unit := ()
def PySem.W.Fast.tw12040280858324893120 : Unit := ()
def PySem.W.Fast.tw126249863213406792 : Unit := ()
def PySem.W.Fast.tw111513503532134044 : Unit := ()
def PySem.W.Fast.tw7275934916303797327 : Unit := ()
def PySem.W.Fast.tw16659417233328342373 : Unit := ()
def PySem.W.Fast.tw3087613847540119299 : Unit := ()
def PySem.W.Fast.tw14458611768754508477 : Unit := ()
def PySem.W.Fast.tw315127581904642862 : Unit := ()
def PySem.W.Fast.tw6786225527928856586 : Unit := ()
def PySem.W.Fast.tw15131360827448107877 : Unit := ()
def PySem.W.Fast.tw9099297532325965119 : Unit := ()
def PySem.W.Fast.tw14993782792132102211 : Unit := ()
def PySem.W.Fast.tw2178223886937568523 : Unit := ()
def PySem.W.Fast.tw60843825698154657 : Unit := ()
def PySem.W.Fast.tw6553776531897088693 : Unit := ()
def PySem.W.Fast.tw1983696793571418705 : Unit := ()
def PySem.W.Fast.tw4943590223040609453 : Unit := ()
def PySem.W.Fast.tw12629109491928437320 : Unit := ()
def PySem.W.Fast.tw7506152837549779133 : Unit := ()
def PySem.W.Fast.tw10830406303284595121 : Unit := ()
def PySem.W.Fast.tw9796935056270626780 : Unit := ()
def PySem.W.Fast.tw14558830791267373651 : Unit := ()
def PySem.W.Fast.tw3254129562709378274 : Unit := ()
def PySem.W.Fast.tw5928724384880068364 : Unit := ()
def PySem.W.Fast.tw10145823978187363019 : Unit := ()
def PySem.W.Fast.tw436075081242435561 : Unit := ()
def PySem.W.Fast.tw11721912225098504717 : Unit := ()
def PySem.W.Fast.tw1813342650571109765 : Unit := ()
def PySem.W.Fast.tw11324297683876399761 : Unit := ()
def PySem.W.Fast.tw17544551776901649443 : Unit := ()
def PySem.W.Fast.tw4993904469361281453 : Unit := ()
def PySem.W.Fast.tw17899162314581484442 : Unit := ()
def PySem.W.Fast.tw15038130124654835177 : Unit := ()
def PySem.W.Fast.tw13690792444567570197 : Unit := ()
def PySem.W.Fast.tw12833333057851232124 : Unit := ()
def PySem.W.Fast.tw612070239413730695 : Unit := ()
def PySem.W.Fast.tw2335549798824239713 : Unit := ()
def PySem.W.Fast.tw11598869610152674133 : Unit := ()
def PySem.W.Fast.tw914474574441812376 : Unit := ()
def PySem.W.Fast.tw11749796882537981483 : Unit := ()
def PySem.W.Fast.tw4097340438705911618 : Unit := ()
def PySem.W.Fast.tw6803199796672956852 : Unit := ()
def PySem.W.Fast.tw16111004856728637357 : Unit := ()
def PySem.W.Fast.tw82751326811022741 : Unit := ()
def PySem.W.Fast.tw4914256908863796284 : Unit := ()
def PySem.W.Fast.tw6031940073975719812 : Unit := ()
def PySem.W.Fast.tw17289444083495787734 : Unit := ()
def PySem.W.Fast.tw17980218321925703106 : Unit := ()
def PySem.W.Fast.tw10442358117913950780 : Unit := ()
def PySem.W.Fast.tw9717948539140561606 : Unit := ()
def PySem.W.Fast.tw15251109775727046171 : Unit := ()
set_option maxRecDepth 100000 in
set_option maxHeartbeats 0 in
theorem PySem.Challenge.cw_facework_k22_joined_makes_the_same_holds : PySem.Challenge.rw_facework_k22_joined_makes_the_same.Holds := by
  w_on; o_law; k_head; (case hw=>w_witness2)
  k_fill
  refine Fw.walk (l := PySem.Challenge.rw_facework_k22_joined_makes_the_same) (cp := 60) (Pt := 56) rfl rfl (fun w h Y=>PySem.W.km_in_of Y) (fun w=>by kernel_rfl) (fun w=>by kernel_rfl) (fun w h Y=>PySem.W.km_tabs_of Y 56 (by simp)) ?F
  case F =>
    intro w mg fa h KX G hmg
    refine' Fw.all_mk KX G hmg ?z_len ?z_isinstance ?z_str ?z_tuple ?z_list ?z_reversed ?z_range ?z_int ?z_zip ?z_dict ?z_all ?z_any ?aC ?cC ?mkC ?kcC ?nC0 ?nC1 ?mC0 ?mC1 ?mC2 ?mC3 ?mC4 ?mC5 ?mC6 ?mC7 ?mC8 ?d1 ?d2 ?d3 ?d5 ?d6 ?d7 ?d8 ?d9 ?d12 ?d14 ?d15 ?d16 ?d17 ?d18 ?d19 ?d20 ?d21 ?d22 ?d23 ?d24 ?d25 ?d26 ?d27 ?d28 ?d29 ?d30 ?d31 ?d32
    (case z_len=>k_is)
    (case z_isinstance=>k_is)
    (case z_str=>k_is)
    (case z_tuple=>k_is)
    (case z_list=>k_is)
    (case z_reversed=>k_is)
    (case z_range=>k_is)
    (case z_int=>k_is)
    (case z_zip=>k_is)
    (case z_dict=>k_is)
    (case z_all=>k_is)
    (case z_any=>k_is)
    (case aC=>k_is)
    (case cC=>refine' Fw.cls_mk ?pg ?hd ?po ?sa; (case pg=>k_is); (case hd=>k_is); (case po=>k_is); (case sa=>k_is))
    (case mkC=>k_is)
    (case kcC=>k_is)
    (case nC0=>refine' Fw.noat_mk ?n; (case n=>k_is))
    (case nC1=>refine' Fw.noat_mk ?n; (case n=>k_is))
    (case mC0=>refine' Fw.meth_mk ?a ?i ?l ?c ?k; (case a=>k_is); (case i=>k_is); (case l=>k_is); (case c=>k_is); (case k=>k_is))
    (case mC1=>refine' Fw.meth_mk ?a ?i ?l ?c ?k; (case a=>k_is); (case i=>k_is); (case l=>k_is); (case c=>k_is); (case k=>k_is))
    (case mC2=>refine' Fw.meth_mk ?a ?i ?l ?c ?k; (case a=>k_is); (case i=>k_is); (case l=>k_is); (case c=>k_is); (case k=>k_is))
    (case mC3=>refine' Fw.meth_mk ?a ?i ?l ?c ?k; (case a=>k_is); (case i=>k_is); (case l=>k_is); (case c=>k_is); (case k=>k_is))
    (case mC4=>refine' Fw.meth_mk ?a ?i ?l ?c ?k; (case a=>k_is); (case i=>k_is); (case l=>k_is); (case c=>k_is); (case k=>k_is))
    (case mC5=>refine' Fw.meth_mk ?a ?i ?l ?c ?k; (case a=>k_is); (case i=>k_is); (case l=>k_is); (case c=>k_is); (case k=>k_is))
    (case mC6=>refine' Fw.meth_mk ?a ?i ?l ?c ?k; (case a=>k_is); (case i=>k_is); (case l=>k_is); (case c=>k_is); (case k=>k_is))
    (case mC7=>refine' Fw.meth_mk ?a ?i ?l ?c ?k; (case a=>k_is); (case i=>k_is); (case l=>k_is); (case c=>k_is); (case k=>k_is))
    (case mC8=>refine' Fw.meth_mk ?a ?i ?l ?c ?k; (case a=>k_is); (case i=>k_is); (case l=>k_is); (case c=>k_is); (case k=>k_is))
    (case d1=>refine' Fw.def_mk ?a ?l ?c ?k; (case a=>k_is); (case l=>k_is); (case c=>k_is); (case k=>k_is))
    (case d2=>refine' Fw.def_mk ?a ?l ?c ?k; (case a=>k_is); (case l=>k_is); (case c=>k_is); (case k=>k_is))
    (case d3=>refine' Fw.def_mk ?a ?l ?c ?k; (case a=>k_is); (case l=>k_is); (case c=>k_is); (case k=>k_is))
    (case d5=>refine' Fw.def_mk ?a ?l ?c ?k; (case a=>k_is); (case l=>k_is); (case c=>k_is); (case k=>k_is))
    (case d6=>refine' Fw.def_mk ?a ?l ?c ?k; (case a=>k_is); (case l=>k_is); (case c=>k_is); (case k=>k_is))
    (case d7=>refine' Fw.def_mk ?a ?l ?c ?k; (case a=>k_is); (case l=>k_is); (case c=>k_is); (case k=>k_is))
    (case d8=>refine' Fw.def_mkC ?a ?l ?c ?k; (case a=>k_is); (case l=>k_is); (case c=>k_is); (case k=>k_is))
    (case d9=>refine' Fw.def_mk ?a ?l ?c ?k; (case a=>k_is); (case l=>k_is); (case c=>k_is); (case k=>k_is))
    (case d12=>refine' Fw.def_mk ?a ?l ?c ?k; (case a=>k_is); (case l=>k_is); (case c=>k_is); (case k=>k_is))
    (case d14=>refine' Fw.def_mk ?a ?l ?c ?k; (case a=>k_is); (case l=>k_is); (case c=>k_is); (case k=>k_is))
    (case d15=>refine' Fw.def_mk ?a ?l ?c ?k; (case a=>k_is); (case l=>k_is); (case c=>k_is); (case k=>k_is))
    (case d16=>refine' Fw.def_mk ?a ?l ?c ?k; (case a=>k_is); (case l=>k_is); (case c=>k_is); (case k=>k_is))
    (case d17=>refine' Fw.def_mk ?a ?l ?c ?k; (case a=>k_is); (case l=>k_is); (case c=>k_is); (case k=>k_is))
    (case d18=>refine' Fw.def_mk ?a ?l ?c ?k; (case a=>k_is); (case l=>k_is); (case c=>k_is); (case k=>k_is))
    (case d19=>refine' Fw.def_mk ?a ?l ?c ?k; (case a=>k_is); (case l=>k_is); (case c=>k_is); (case k=>k_is))
    (case d20=>refine' Fw.def_mk ?a ?l ?c ?k; (case a=>k_is); (case l=>k_is); (case c=>k_is); (case k=>k_is))
    (case d21=>refine' Fw.def_mk ?a ?l ?c ?k; (case a=>k_is); (case l=>k_is); (case c=>k_is); (case k=>k_is))
    (case d22=>refine' Fw.def_mk ?a ?l ?c ?k; (case a=>k_is); (case l=>k_is); (case c=>k_is); (case k=>k_is))
    (case d23=>refine' Fw.def_mk ?a ?l ?c ?k; (case a=>k_is); (case l=>k_is); (case c=>k_is); (case k=>k_is))
    (case d24=>refine' Fw.def_mk ?a ?l ?c ?k; (case a=>k_is); (case l=>k_is); (case c=>k_is); (case k=>k_is))
    (case d25=>refine' Fw.def_mk ?a ?l ?c ?k; (case a=>k_is); (case l=>k_is); (case c=>k_is); (case k=>k_is))
    (case d26=>refine' Fw.def_mk ?a ?l ?c ?k; (case a=>k_is); (case l=>k_is); (case c=>k_is); (case k=>k_is))
    (case d27=>refine' Fw.def_mk ?a ?l ?c ?k; (case a=>k_is); (case l=>k_is); (case c=>k_is); (case k=>k_is))
    (case d28=>refine' Fw.def_mk ?a ?l ?c ?k; (case a=>k_is); (case l=>k_is); (case c=>k_is); (case k=>k_is))
    (case d29=>refine' Fw.def_mk ?a ?l ?c ?k; (case a=>k_is); (case l=>k_is); (case c=>k_is); (case k=>k_is))
    (case d30=>refine' Fw.def_mk ?a ?l ?c ?k; (case a=>k_is); (case l=>k_is); (case c=>k_is); (case k=>k_is))
    (case d31=>refine' Fw.def_mk ?a ?l ?c ?k; (case a=>k_is); (case l=>k_is); (case c=>k_is); (case k=>k_is))
    (case d32=>refine' Fw.def_mk ?a ?l ?c ?k; (case a=>k_is); (case l=>k_is); (case c=>k_is); (case k=>k_is))
#print axioms PySem.Challenge.cw_facework_k22_joined_makes_the_same_holds
