import PyProof.Rows.All
import Wide.All
import OpenK.AllK
import Wide.FinOn
import Lean
import PyProof.EqAt
import PyProof.EqKinds
import PyProof.TupleCall
import PyProof.StationsW
import OpenK.KOwn
import PyProof.ExcBaseAll.ValueError
import PyProof.NsDelKeeps
import PyProof.RulesAs
import KE.KLam
import KE.KNest
import KE.KIsAll
import PyProof.ExcArgs
import PyProof.CompUse
import KE.KRevIter
import PyProof.CollectWalk
import PyProof.TupleOfSeq
import KE.KDictList
import PyProof.FitsBits
import PyProof.TupleOfGen
import PyProof.DictWalks
import PyProof.ZipIter
import PyProof.EnumFor
import PyProof.Draws
import PyProof.AttrMiss
import PyProof.DictValues
import KE.KDictLaws
import PyProof.SumWalk
import PyProof.Rows.CountFlat
import PyProof.FactsAll.list_3
import PySem.Challenge.RW_facework_k61_calls_counted
set_option Elab.async false
set_option linter.all false
set_option maxRecDepth 100000
namespace L2
open PySem PySem.Spec PyProof.Rows
abbrev Key:=Sum Int Str
def keyIs:Key→Value→Bool
 |.inl k,v=>Value.isInt k v
 |.inr x,v=>Value.isStrOf x v
def keyH (w:World):Key→Int
 |.inl k=>hashInt k
 |.inr x=>hashStr w x
theorem keyIs_shape:∀{k:Key} {v:Value},keyIs k v=true→(∃i t,k=Sum.inl i∧v=Value.int i t)∨(∃x t,k=Sum.inr x∧v=Value.str x t)
 |.inl i,v,h=>by
  obtain⟨t,e⟩:=Value.isInt_shape (k:=i) (v:=v) h
  exact .inl ⟨i,t,rfl,e⟩
 |.inr x,v,h=>by
  obtain⟨t,e⟩:=Value.isStrOf_shape (x:=x) (v:=v) h
  exact .inr ⟨x,t,rfl,e⟩
theorem keyIs_int (i:Int)(t:Tok):keyIs (.inl i) (.int i t)=true:=by simp[keyIs,Value.isInt]
theorem keyIs_str (x:Str)(t:Tok):keyIs (.inr x) (.str x t)=true:=by simp[keyIs,Value.isStrOf]
theorem key_ll (a b:Int):decide ((Sum.inl a:Key)=Sum.inl b)=(a==b):=by
 by_cases e:a=b
 ·subst e;simp
 ·have h:¬(Sum.inl a:Key)=Sum.inl b:=fun q=>e (Sum.inl.inj q)
  rw[decide_eq_false h]
  exact(beq_eq_false_iff_ne.mpr e).symm
theorem key_rr (a b:Str):decide ((Sum.inr a:Key)=Sum.inr b)=decide (a=b):=by
 by_cases e:a=b
 ·subst e;simp
 ·have h:¬(Sum.inr a:Key)=Sum.inr b:=fun q=>e (Sum.inr.inj q)
  rw[decide_eq_false h,decide_eq_false e]
theorem key_lr (a:Int)(b:Str):decide ((Sum.inl a:Key)=Sum.inr b)=false:=decide_eq_false (fun q=>nomatch q)
theorem key_rl (a:Str)(b:Int):decide ((Sum.inr a:Key)=Sum.inl b)=false:=decide_eq_false (fun q=>nomatch q)
def mixKind (prog:Program)(w:World):PySem.KeyKind prog w Key where
 is:=keyIs
 hash:=keyH w
 inj:=fun v a b ha hb=>by
  rcases keyIs_shape ha with ⟨i,t,rfl,rfl⟩|⟨x,t,rfl,rfl⟩
  ·rcases keyIs_shape hb with ⟨j,u,rfl,e⟩|⟨y,u,rfl,e⟩
   ·injection e with e1 _;rw[e1]
   ·exact nomatch e
  ·rcases keyIs_shape hb with ⟨j,u,rfl,e⟩|⟨y,u,rfl,e⟩
   ·exact nomatch e
   ·injection e with e1 _;rw[e1]
 byValue:=fun k v h=>by
  rcases keyIs_shape h with ⟨i,t,rfl,rfl⟩|⟨x,t,rfl,rfl⟩<;>rfl
 pyHash:=fun hv h=>by
  rcases keyIs_shape hv with ⟨i,t,rfl,rfl⟩|⟨x,t,rfl,rfl⟩
  ·exact wpAny_pyHash_int h
  ·exact wpAny_pyHash_str h
 eqBool:=fun hu hv h=>by
  rcases keyIs_shape hu with ⟨i,t,rfl,rfl⟩|⟨x,t,rfl,rfl⟩
  ·rcases keyIs_shape hv with ⟨j,u,rfl,rfl⟩|⟨y,u,rfl,rfl⟩
   ·rw[key_ll]at h;exact wpAny_eqBool_int h
   ·rw[key_lr]at h;exact SeqAt.EqAt.int_str i t y u _ _ _ _ h
  ·rcases keyIs_shape hv with ⟨j,u,rfl,rfl⟩|⟨y,u,rfl,rfl⟩
   ·rw[key_rl]at h;exact SeqAt.EqAt.str_int x t j u _ _ _ _ h
   ·rw[key_rr]at h;exact wpAny_eqBool_str h
 «strs»:=fun k x t v h=>by
  rcases keyIs_shape h with ⟨i,u,rfl,e⟩|⟨y,u,rfl,e⟩
  ·exact nomatch e
  ·injection e with e1 _
   subst e1
   cases v<;>rfl
theorem mixKind_int (prog:Program)(w:World)(i:Int)(t:Tok):(mixKind prog w).is (.inl i) (.int i t)=true:=keyIs_int i t
theorem mixKind_str (prog:Program)(w:World)(x:Str)(t:Tok):(mixKind prog w).is (.inr x) (.str x t)=true:=keyIs_str x t
inductive V where
 |non|bl (b:Bool)|int (i:Int)|str (x:Str)|byt (b:Array UInt8)|flt (b:UInt64)|ref (a:Addr)|ty (n:String)
 deriving DecidableEq
def RelV:V→Value→Prop
 |.non,u=>u=Value.none
 |.bl b,u=>u=Value.bool b
 |.int i,u=>∃t,u=Value.int i t
 |.str x,u=>∃t,u=Value.str x t
 |.byt b,u=>∃t,u=Value.bytes b t
 |.flt b,u=>∃t,u=Value.float b t
 |.ref a,u=>u=Value.ref a
 |.ty n,u=>u=Value.type n
abbrev Vals:List V→List Value→Prop:=Paired RelV
theorem Vals.length {xs:List V}{us:List Value}(r:Vals xs us):xs.length=us.length:=Paired.length r
theorem Vals.get {xs:List V}{us:List Value}{i:Nat}{x:V}(h:Vals xs us)(e:xs[i]?=some x):∃u,us[i]?=some u∧RelV x u:=by
 induction h generalizing i with
 |nil=>simp at e
 |cons r _ ih=>cases i with
  |zero=>cases e;exact⟨_,rfl,r⟩
  |succ i=>exact(ih (i:=i) e:)
theorem Vals.set {x:V}{u:Value}(r:RelV x u){xs:List V}{us:List Value}(i:Nat)(h:Vals xs us):Vals (xs.set i x) (us.set i u):=by
 induction h generalizing i with
 |nil=>exact .nil
 |cons q t ih=>cases i with
  |zero=>exact .cons r t
  |succ i=>exact .cons q (ih i)
theorem Vals.append {xs ys:List V}{us ws:List Value}(h:Vals xs us)(s:Vals ys ws):Vals (xs++ys) (us++ws):=by
 induction h with
 |nil=>exact s
 |cons r _ ih=>exact .cons r ih
theorem Vals.take {xs:List V}{us:List Value}(n:Nat)(h:Vals xs us):Vals (xs.take n) (us.take n):=by
 induction h generalizing n with
 |nil=>cases n<;>exact .nil
 |cons r _ ih=>cases n with
  |zero=>exact .nil
  |succ n=>exact .cons r (ih n)
theorem Vals.drop {xs:List V}{us:List Value}(n:Nat)(h:Vals xs us):Vals (xs.drop n) (us.drop n):=by
 induction h generalizing n with
 |nil=>cases n<;>exact .nil
 |cons r t ih=>cases n with
  |zero=>exact .cons r t
  |succ n=>exact ih n
def RelO:Option V→Option Value→Prop
 |some v,some u=>RelV v u
 |none,none=>True
 |_,_=>False
def KV {κ:Type}:List (κ×V)→List (κ×Value)→Prop:=Paired fun(p:κ×V) (q:κ×Value)=>p.1=q.1∧RelV p.2 q.2
def kV:Key→V
 |.inl i=>.int i
 |.inr x=>.str x
inductive HO where
 |lst (xs:List V)
 |tup (xs:List V)
 |dK (kvs:List (Key×V))|dT (kvs:List (List Key×V))
 |set (S:Int→Bool) (n:Nat)
 |ins (C dx:Addr) (fs:List (Str×V))
 |own (x:Addr)
 |xd (fs:List (Str×V))
 |met (f x:Addr)
 |rng (lo hi:Int)
 |frz (o:Obj) (u:HO)
 |tbl (ps:Array Value)
 |ext (φ:Heap→Prop)
abbrev Hp:=Addr→Option HO
def upd (H:Hp)(a:Addr)(o:HO):Hp:=fun b=>if b=a then some o else H b
theorem upd_same {H:Hp}{a:Addr}{o:HO}:upd H a o a=some o:=by unfold upd;rw[if_pos rfl]
theorem upd_ne {H:Hp}{a b:Addr}{o:HO}(h:b≠a):upd H a o b=H b:=by unfold upd;rw[if_neg h]
theorem upd_upd {H:Hp}{a:Addr}{o u:HO}:upd (upd H a o) a u=upd H a u:=by
 funext b;unfold upd;split<;>rfl
theorem ne_of {H:Hp}{a b:Addr}{o u:HO}(h:H a=some o)(h':H b=some u)(d:o≠u):a≠b:=by
 intro e;subst e;rw[h]at h';exact d (Option.some.inj h')
theorem ne_of_none {H:Hp}{a b:Addr}{o:HO}(h:H a=some o)(h':H b=none):a≠b:=by
 intro e;subst e;rw[h]at h';cases h'
section
variable (P:Program)(w:World)
def ObjOk (H:Hp)(h:Heap)(a:Addr):HO→Prop
 |.lst xs=>xs.length≤sizeLine∧∃(its:List Value) (n:Nat),Vals xs its∧h.get? a=some {cls:=.type "list",data:=.seq its.toArray n}
 |.tup xs=>xs.length≤sizeLine∧∃its:List Value,Vals xs its∧IsTup h a its.toArray
 |.dK kvs=>kvs.length≤sizeLine∧(a==sysModules)=false∧∃vs,KV kvs vs∧h.DictOf (mixKind P w) a vs
 |.dT kvs=>kvs.length≤sizeLine∧(a==sysModules)=false∧∃xs:List (List Key×Addr×Value),
   Paired (fun(p:List Key×V) (q:List Key×Addr×Value)=>p.1=q.1∧H q.2.1=some (.tup (p.1.map kV))∧RelV p.2 q.2.2) kvs xs∧
   ∃o es ep,h.get? a=some o∧o.ExactDict∧o.data=.dict es ep∧es.toList=xs.map (entryOfKey (tupleKind (mixKind P w)))∧(xs.map (·.1)).Nodup
 |.set S n=>h.SetOf (intKind P w) a S n
 |.ins C dx fs=>H dx=some (.own a)∧fs.length≤1000∧dx≠a∧h.get? a=some (PySem.W.instObj C dx)∧
   ∃mA,h.Ns1 dx mA∧(∀f,RelO (fs.lookup f) (mA f))∧PySem.Within mA (fs.map (·.1))
 |.own _=>∃o,h.get? a=some o
 |.xd fs=>∃mA,h.Ns1 a mA∧∀f,RelO (fs.lookup f) (mA f)
 |.rng lo hi=>∃t u v,h.get? a=some {cls:=.type "range",data:=.fields #[.int lo t, .int hi u, .int 1 v]}
 |.frz o u=>h.get? a=some o∧ObjOk H h a u
 |.tbl ps=>h.get? a=some {cls:=.none,data:=.fields ps}
 |.met f x=>h.get? a=some (PySem.W.methodObj (.ref f) (.ref x))
 |.ext φ=>φ h∧(∃o,h.get? a=some o)∧∀h1 h2:Heap,φ h1→(∀o,h1.get? a=some o→h2.get? a=some o)→φ h2
def HOk (H:Hp)(h:Heap):Prop:=∀a o,H a=some o→ObjOk P w H h a o
end
section
variable {P:Program}{w:World}{H H':Hp}{h h':Heap}{a:Addr}{o:HO}
theorem ObjOk.lt (x:ObjOk P w H h a o):a<h.objs.size:=by
 cases o with
 |lst xs=>obtain⟨_,_,_,_,e⟩:=x;exact Heap.lt_size e
 |tup xs=>obtain⟨_,_,_,p⟩:=x;exact p.lt
 |dK kvs=>obtain⟨_,_,_,_,o,_,_,e,_⟩:=x;exact Heap.lt_size e
 |dT kvs=>obtain⟨_,_,_,_,o,_,_,e,_⟩:=x;exact Heap.lt_size e
 |set S n=>obtain⟨o,_,_,_,e,_⟩:=x;exact Heap.lt_size e
 |ins C dx fs=>obtain⟨_,_,_,e,_⟩:=x;exact Heap.lt_size e
 |own y=>obtain⟨_,e⟩:=x;exact Heap.lt_size e
 |xd fs=>obtain⟨_,⟨_,_,_,e,_⟩,_⟩:=x;exact Heap.lt_size e
 |rng lo hi=>obtain⟨_,_,_,e⟩:=x;exact Heap.lt_size e
 |frz ob u=>obtain⟨e,_⟩:=x;exact Heap.lt_size e
 |tbl ps=>exact Heap.lt_size (show h.get? a=some _ from x)
 |met f y=>exact Heap.lt_size (show h.get? a=some _ from x)
 |ext φ=>obtain⟨_,⟨_,e⟩,_⟩:=x;exact Heap.lt_size e
theorem Paired.mapP {α β:Type}{F G:α→β→Prop}{l₁:List α}{l₂:List β}(h:Paired F l₁ l₂)(f:∀a b,F a b→G a b):Paired G l₁ l₂:=by
 induction h with
 |nil=>exact .nil
 |cons r _ ih=>exact .cons (f _ _ r) ih
theorem ObjOk.stay (x:ObjOk P w H h a o)(k:∀b u,(b=a∨H b=some (.own a))→h.get? b=some u→h'.get? b=some u)
  (ho:∀b,H b=some (.own a)→H' b=some (.own a)) (ht:∀b xs,H b=some (.tup xs)→H' b=some (.tup xs)):ObjOk P w H' h' a o:=by
 induction o with
 |lst xs=>obtain⟨z,its,n,r,e⟩:=x;exact⟨z,its,n,r,k _ _ (.inl rfl) e⟩
 |tup xs=>obtain⟨z,its,r,ob,e,c⟩:=x;exact⟨z,its,r,ob,k _ _ (.inl rfl) e,c⟩
 |dK kvs=>obtain⟨z,y,vs,r,ob,es,ep,e,c⟩:=x;exact⟨z,y,vs,r,ob,es,ep,k _ _ (.inl rfl) e,c⟩
 |dT kvs=>
  obtain⟨z,y,xs,r,ob,es,ep,e,c⟩:=x
  exact⟨z,y,xs,Paired.mapP r fun p q z=>⟨z.1,ht _ _ z.2.1,z.2.2⟩,ob,es,ep,k _ _ (.inl rfl) e,c⟩
 |set S n=>obtain⟨ob,es,ep,t,e,c⟩:=x;exact⟨ob,es,ep,t,k _ _ (.inl rfl) e,c⟩
 |ins C dx fs=>
  obtain⟨d,z,ne,e,mA,⟨od,es,ep,e2,c⟩,r⟩:=x
  exact⟨ho _ d,z,ne,k _ _ (.inl rfl) e,mA,⟨od,es,ep,k _ _ (.inr d) e2,c⟩,r⟩
 |own y=>obtain⟨ob,e⟩:=x;exact⟨ob,k _ _ (.inl rfl) e⟩
 |xd fs=>obtain⟨mA,⟨od,es,ep,e,c⟩,r⟩:=x;exact⟨mA,⟨od,es,ep,k _ _ (.inl rfl) e,c⟩,r⟩
 |rng lo hi=>obtain⟨t,u,v,e⟩:=x;exact⟨t,u,v,k _ _ (.inl rfl) e⟩
 |frz ob u ih=>obtain⟨e,q⟩:=x;exact⟨k _ _ (.inl rfl) e,ih q⟩
 |tbl ps=>
  have e:h.get? a=some {cls:=.none,data:=.fields ps}:=x
  show h'.get? a=some {cls:=.none,data:=.fields ps}
  exact k a _ (.inl rfl) e
 |met f y=>
  have e:h.get? a=some (PySem.W.methodObj (.ref f) (.ref y)):=x
  show h'.get? a=some (PySem.W.methodObj (.ref f) (.ref y))
  exact k a _ (.inl rfl) e
 |ext φ=>obtain⟨p,⟨o,e⟩,st⟩:=x;exact⟨st _ _ p fun o q=>k _ _ (.inl rfl) q,⟨o,k _ _ (.inl rfl) e⟩,st⟩
theorem HOk.lt (x:HOk P w H h)(e:H a=some o):a<h.objs.size:=(x a o e).lt
theorem HOk.fresh (x:HOk P w H h)(e:h.objs.size≤a):H a=none:=by
 cases q:H a with
 |none=>rfl
 |some u=>exact absurd (Nat.lt_of_lt_of_le (x.lt q) e) (Nat.lt_irrefl _)
theorem HOk.kept (x:HOk P w H h)(k:∀b u,h.get? b=some u→h'.get? b=some u):HOk P w H h':=fun a o e=>
 (x a o e).stay (fun b u _ q=>k b u q) (fun _ q=>q) fun _ _ q=>q
theorem HOk.laid (x:HOk P w H h)(k:∀b u,h.get? b=some u→h'.get? b=some u)(hp:h.objs.size≤a)(new:ObjOk P w (upd H a o) h' a o):HOk P w (upd H a o) h':=fun b u e=>by
 have hn:=x.fresh hp
 by_cases hb:b=a
 ·subst hb;rw[upd_same]at e;cases e;exact new
 ·rw[upd_ne hb]at e
  exact(x b u e).stay (fun c v _ q=>k c v q) (fun c q=>by rw[upd_ne (ne_of_none q hn)];exact q) fun c xs q=>by rw[upd_ne (ne_of_none q hn)];exact q
end
def Rd (H:Hp)(a:Addr)(u:HO):Prop:=H a=some u∨∃o,H a=some (.frz o u)
theorem Rd.ok {P:Program}{w:World}{H:Hp}{h:Heap}{a:Addr}{u:HO}(r:Rd H a u)(x:HOk P w H h):ObjOk P w H h a u:=by
 rcases r with r|⟨o,r⟩
 ·exact x a u r
 ·obtain⟨_,q⟩:=x a _ r
  exact q
def Mut:Option HO→Prop
 |some (.lst _)=>True
 |some (.dK _)=>True
 |some (.dT _)=>True
 |some (.set _ _)=>True
 |some (.ins _ _ _)=>True
 |some (.ext _)=>True
 |_=>False
section
variable {P:Program}{w:World}{H:Hp}{h h':Heap}{x e:Addr}{o':HO}
theorem HOk.write (ok:HOk P w H h)(mu:Mut (H x))(he:e=x∨H e=some (.own x))(k:∀b u,b≠e→h.get? b=some u→h'.get? b=some u)(heo:∃u,h'.get? e=some u)
  (new:ObjOk P w (upd H x o') h' x o'):HOk P w (upd H x o') h':=fun b u q=>by
 have nown:∀c y,H c=some (.own y)→c≠x:=fun c y r z=>by subst z;rw[r]at mu;exact mu
 have ntup:∀c xs,H c=some (.tup xs)→c≠x:=fun c xs r z=>by subst z;rw[r]at mu;exact mu
 by_cases hb:b=x
 ·subst hb;rw[upd_same]at q;cases q;exact new
 ·rw[upd_ne hb]at q
  by_cases hbe:b=e
  ·have q':H b=some (.own x):=by
    rcases he with z|z
    ·exact absurd (hbe.trans z) hb
    ·rw[hbe];exact z
   rw[q]at q';cases q'
   obtain⟨v,hv⟩:=heo
   exact⟨v,by rw[hbe];exact hv⟩
  ·refine(ok b u q).stay (fun c v hc r=>k c v ?_ r) (fun c r=>by rw[upd_ne (nown c b r)];exact r) fun c xs r=>by rw[upd_ne (ntup c xs r)];exact r
   rcases hc with rfl|hc
   ·exact hbe
   ·rintro rfl
    rcases he with z|z
    ·exact nown c b hc z
    ·rw[hc]at z;cases z;exact hb rfl
end
structure Un (fs ex:List Addr)(H H':Hp)(h h':Heap):Prop where
 keep:∀b o,h.get? b=some o→H b=none→b∉fs→b∉ex→h'.get? b=some o
 slot:∀b o,h.get? b=some o→H b=none→b∈fs→b∉ex→∃sl,h'.get? b=some {o with slots:=sl}
 free:∀b o,h.get? b=some o→H b=none→b∉ex→H' b=none
 there:∀b o,h.get? b=some o→b∉ex→∃o',h'.get? b=some o'
 tups:∀b xs,H b=some (.tup xs)→H' b=some (.tup xs)
 frzs:∀b o u,H b=some (.frz o u)→H' b=some (.frz o u)
 tbls:∀b ps,H b=some (.tbl ps)→∃more,H' b=some (.tbl (ps++more))
section
variable {fs fs' ex ex':List Addr}{H H1 H2:Hp}{h h1 h2 h':Heap}{a x e:Addr}{o:HO}
theorem Un.any (u:Un fs ex H H1 h h1){b:Addr}{ob:Obj}(q:h.get? b=some ob)(n:H b=none)(hx:b∉ex):∃sl,h1.get? b=some {ob with slots:=sl}:=by
 by_cases hb:b∈fs
 ·exact u.slot b ob q n hb hx
 ·exact⟨ob.slots,u.keep b ob q n hb hx⟩
theorem Un.kept (k:∀b u,h.get? b=some u→h'.get? b=some u):Un fs ex H H h h' :=
 ⟨fun b ob q _ _ _=>k b ob q,fun b ob q _ _ _=>⟨ob.slots,k b ob q⟩,fun _ _ _ n _=>n,fun b ob q _=>⟨ob,k b ob q⟩,fun _ _ q=>q,fun _ _ _ q=>q,fun _ ps q=>⟨#[],by rw[q];simp⟩⟩
theorem Un.refl:Un fs ex H H h h:=Un.kept fun _ _ q=>q
theorem Un.laid (k:∀b u,h.get? b=some u→h'.get? b=some u)(hp:h.objs.size≤a)(hn:H a=none):Un fs ex H (upd H a o) h h' where
 keep:=fun b u q _ _ _=>k b u q
 slot:=fun b u q _ _ _=>⟨u.slots,k b u q⟩
 free:=fun b u q n _=>by rw[upd_ne (Nat.ne_of_lt (Nat.lt_of_lt_of_le (Heap.lt_size q) hp))];exact n
 there:=fun b u q _=>⟨u,k b u q⟩
 tups:=fun b xs q=>by rw[upd_ne (ne_of_none q hn)];exact q
 frzs:=fun b u xs q=>by rw[upd_ne (ne_of_none q hn)];exact q
 tbls:=fun b ps q=>⟨#[],by rw[upd_ne (ne_of_none q hn),q];simp⟩
theorem Un.write (mu:Mut (H x))(he:e=x∨H e=some (.own x))(k:∀b u,b≠e→h.get? b=some u→h'.get? b=some u)(heo:∃u,h'.get? e=some u):Un fs ex H (upd H x o) h h':=by
 have hx:∀b,H b=none→b≠x:=fun b n z=>by subst z;rw[n]at mu;exact mu
 have hb:∀b,H b=none→b≠e:=fun b n z=>by
  subst z
  rcases he with r|r
  ·exact hx b n r
  ·rw[n]at r;cases r
 have hm:∀b u,H b=some u→¬Mut (some u)→b≠x:=fun b u q nm z=>by subst z;rw[q]at mu;exact nm mu
 refine⟨fun b u q n _ _=>k b u (hb b n) q,fun b u q n _ _=>⟨u.slots,k b u (hb b n) q⟩,fun b u q n _=>by rw[upd_ne (hx b n)];exact n,fun b u q _=>?_,
  fun b xs q=>by rw[upd_ne (hm b _ q fun z=>z)];exact q,fun b u xs q=>by rw[upd_ne (hm b _ q fun z=>z)];exact q,fun b ps q=>⟨#[],by rw[upd_ne (hm b _ q fun z=>z),q];simp⟩⟩
 by_cases hbe:b=e
 ·subst hbe;exact heo
 ·exact⟨u,k b u hbe q⟩
end
def trk (h:Heap)(H:Hp):List Addr:=(List.range h.objs.size).filter fun a=>(H a).isSome
def hidT (h:Heap)(H:Hp):Heap:=PySem.W.hideAll h (trk h H)
theorem hidT_size (h:Heap)(H:Hp):(hidT h H).objs.size=h.objs.size:=PySem.W.hideAll_size _ _
theorem hidT_get {h:Heap}{H:Hp}{b:Addr}{o:Obj}(e:h.get? b=some o)(n:H b=none):(hidT h H).get? b=some o :=
 PySem.W.hideAll_get _ e fun hm=>by
  have q:(H b).isSome=true:=(List.mem_filter.mp hm).2
  rw[n]at q;simp at q
theorem of_hidT {h:Heap}{H:Hp}{b:Addr}{o:Obj}(e:(hidT h H).get? b=some o):h.get? b=some o∧H b=none:=by
 have e':h.get? b=some o:=PySem.W.of_hideAll (trk h H) e
 refine⟨e',?_⟩
 cases q:H b with
 |none=>rfl
 |some x=>
  have hm:b∈trk h H:=List.mem_filter.mpr ⟨List.mem_range.mpr (Heap.lt_size e'),by simp[q]⟩
  have z:(hidT h H).get? b=none:=PySem.W.hideAll_none (trk h H) hm
  rw[z]at e;cases e
def allNews (g h:Heap)(L:Addr):List (Addr×Obj):=(List.range h.objs.size).filterMap fun a=>if a=L∨(g.get? a).isSome=true then none else(h.get? a).map fun o=>(a,o)
def rest (g h:Heap)(L d:Addr):List (Addr×Obj):=(allNews g h L).filter fun p=>decide (p.1≠d)
structure Mod (K:PySem.W.Frag)(mg:Str→Option Value)(base:Heap):Prop where
 kin:K.In base
 glob:base.Ns mainGlobals mg
 blt:∃mb,base.Ns builtinsNs mb∧∀x:Str,x≠"__name__"→mb x=bootBuiltins x
 nolimit:base.NoLimit
structure Cx where
 prog:Program
 w:World
 K:PySem.W.Frag
 mg:Str→Option Value
 base:Heap
 A:Around
 N:List Str
 s₀:Shared
 H₀:Hp
 env:Env
 outer:List Env
 stack:List Env
 ex:List Addr
 fn:Str→Bool
 calm:Bool
 pn:List (Addr×Obj)
 xe:Value→Shared→Prop
def frs (l:List Env):List Addr:=l.filterMap (·.frame)
abbrev Cx.fs (X:Cx):List Addr:=frs X.outer
def Vis (sc:Scope)(x:Str):Prop:=sc.names.lookup x=some .local∨sc.names.lookup x=some .cell∨sc.names.lookup x=some .free
def Loc (sc:Scope)(x:Str):Prop:=sc.names.lookup x=some .local∨sc.names.lookup x=some .cell
def Look (env:Env)(h:Heap)(m:Str→Option Value)(x:Str)(u:Value):Prop :=
 (env.kindOf x=some .local∧m x=some u)∨((env.kindOf x=some .cell∨env.kindOf x=some .free)∧∃c,env.cells.lookup x=some c∧h.IsCell c (some u))
structure Cx.Ok (X:Cx):Prop where
 mod:Mod X.K X.mg X.base
 kind:X.env.scope.kind=.function
 glob:X.env.globals=mainGlobals
 blt:X.env.builtins=builtinsNs
 above:X.s₀.heap.objs.size≤X.env.locals
 inj:∀x y c,X.env.cells.lookup x=some c→X.env.cells.lookup y=some c→x=y
 has:∀x,(X.env.kindOf x=some .cell∨X.env.kindOf x=some .free)→∃c,X.env.cells.lookup x=some c
 cab:∀x c,X.fn x=true→X.env.cells.lookup x=some c→X.s₀.heap.objs.size≤c
 hd:X.calm=true→X.A.handled=none
 frames:X.A.frames=some X.stack
 stk:X.stack=X.outer∨(X.stack=X.env::X.outer∧X.env.frame=some X.env.locals)
 exf:∀b∈X.ex,b≠X.env.locals∧∀x c,X.env.cells.lookup x=some c→c≠b
 bs:∀b o,X.base.get? b=some o→X.s₀.heap.get? b=some o∧X.H₀ b=none
 bsz:X.base.objs.size≤X.s₀.heap.objs.size
 noex:∀b o,X.base.get? b=some o→b∉X.ex
 exfs:∀b∈X.ex,b∉X.fs
 funs:X.s₀.heap.FunFrames X.base X.outer
 frf:∀b∈X.fs,X.H₀ b=none
structure Inv (X:Cx)(pins:List (Addr×Obj))(σ:List (Option V))(H:Hp)(s:Shared):Prop where
 ok:X.Ok
 os:s.os=X.s₀.os
 bare:AllBare s.gens
 base:Un X.fs X.ex X.H₀ H X.s₀.heap s.heap
 loc:∃m,s.heap.Ns X.env.locals m∧∀(i:Nat) (x:Str) (v:V),X.N[i]?=some x→σ[i]?=some (some v)→Vis X.env.scope x→∃u,RelV v u∧Look X.env s.heap m x u
 cell:∀x c,X.env.cells.lookup x=some c→∃v,s.heap.IsCell c v
 free:H X.env.locals=none
 freeC:∀x c,X.env.cells.lookup x=some c→H c=none
 pin:∀p∈X.pn++pins,s.heap.get? p.1=some p.2∧H p.1=none∧p.1≠X.env.locals∧p.1∉X.fs∧∀v,p.2.data≠.cell v
 hok:HOk X.prog X.w H s.heap
 len:σ.length=X.N.length
section
variable {X:Cx}{pins:List (Addr×Obj)}{σ:List (Option V)}{H H':Hp}{s:Shared}{h':Heap}
theorem Cx.Ok.nofr (ok:X.Ok){b:Addr}{o:Obj}(e:X.base.get? b=some o):b∉X.fs:=fun hb=>by
 have:=(ok.funs.mem hb).1
 rw[e]at this;cases this
theorem Inv.bs (I:Inv X pins σ H s):∀b o,X.base.get? b=some o→s.heap.get? b=some o∧H b=none:=fun b o e=>
 ⟨I.base.keep b o (I.ok.bs b o e).1 (I.ok.bs b o e).2 (I.ok.nofr e) (I.ok.noex b o e),I.base.free b o (I.ok.bs b o e).1 (I.ok.bs b o e).2 (I.ok.noex b o e)⟩
theorem Inv.bk (I:Inv X pins σ H s):∀b o,X.base.get? b=some o→s.heap.get? b=some o:=fun b o e=>(I.bs b o e).1
theorem Inv.mod (I:Inv X pins σ H s):Mod X.K X.mg X.base:=I.ok.mod
theorem Inv.kIn (I:Inv X pins σ H s):X.K.In s.heap:=I.ok.mod.kin.keeps I.bk
theorem Inv.lt (I:Inv X pins σ H s):X.env.locals<s.heap.objs.size:=let ⟨_,hn,_⟩:=I.loc;hn.lt
theorem Inv.sz (I:Inv X pins σ H s):X.s₀.heap.objs.size≤s.heap.objs.size:=Nat.le_trans I.ok.above (Nat.le_of_lt I.lt)
theorem Inv.nofs (I:Inv X pins σ H s){a:Addr}(h:s.heap.objs.size≤a):a∉X.fs:=fun hb=>by
 obtain⟨_,o,ho,_⟩:=I.ok.funs.mem hb
 exact absurd (Nat.lt_of_lt_of_le (Heap.lt_size ho) (Nat.le_trans I.sz h)) (Nat.lt_irrefl _)
theorem Inv.cne (I:Inv X pins σ H s):∀x c,X.env.cells.lookup x=some c→c≠X.env.locals:=fun x c e z=>by
 obtain⟨v,o,ho,hd⟩:=I.cell x c e
 obtain⟨m,⟨o',es,ep,ho',hd',_⟩,_⟩:=I.loc
 rw[z,ho']at ho;cases ho;rw[hd']at hd;cases hd
theorem Inv.funs (I:Inv X pins σ H s):s.heap.FunFrames X.base X.outer:=by
 have all:∀(l:List Env),(∀b∈frs l,b∈X.fs)→X.s₀.heap.FunFrames X.base l→s.heap.FunFrames X.base l:=by
  intro l
  induction l with
  |nil=>intro _ _;trivial
  |cons env r ih=>
   intro hs hl
   obtain⟨hk,⟨L,o,hf,hn,ho,hd⟩,hr⟩:=hl
   have hL:L∈X.fs:=hs L (by unfold frs;rw[List.filterMap_cons,hf];exact List.mem_cons_self)
   obtain⟨sl,e⟩:=I.base.slot L o ho (I.ok.frf L hL) hL fun z=>I.ok.exfs L z hL
   exact⟨hk,⟨L,_,hf,hn,e,hd⟩,ih (fun b hb=>hs b (by unfold frs;rw[List.filterMap_cons,hf];exact List.mem_cons_of_mem _ hb)) hr⟩
 exact all X.outer (fun _ hb=>hb) I.ok.funs
theorem Inv.stack (I:Inv X pins σ H s):s.heap.FunFrames X.base X.stack:=by
 rcases I.ok.stk with e|⟨e,hf⟩
 ·rw[e];exact I.funs
 ·rw[e]
  obtain⟨m,hn,_⟩:=I.loc
  refine .cons (by rw[I.ok.kind];decide) hf hn ?_ I.funs
  exact Heap.get?_none_of_le (Nat.le_trans I.ok.bsz I.ok.above)
theorem Inv.stkSub (I:Inv X pins σ H s):∀b∈frs X.stack,b∈X.env.locals::X.fs:=fun b hb=>by
 rcases I.ok.stk with e|⟨e,hf⟩
 ·rw[e]at hb;exact List.mem_cons_of_mem _ hb
 ·rw[e]at hb
  unfold frs at hb
  rw[List.filterMap_cons,hf]at hb
  exact hb
theorem Inv.stkFree (I:Inv X pins σ H s):∀b∈frs X.stack,H b=none:=fun b hb=>by
 rcases List.mem_cons.mp (I.stkSub b hb) with e|hb
 ·rw[e];exact I.free
 ·obtain⟨_,o,ho,_⟩:=I.ok.funs.mem hb
  exact I.base.free b o ho (I.ok.frf b hb) fun z=>I.ok.exfs b z hb
theorem Inv.step {g':Array GenState}{t':Nat}{d':Drawn}{ch:List Addr}(I:Inv X pins σ H s)
  (hch:∀b∈ch,(b∈X.ex∨X.s₀.heap.objs.size≤b)∧b≠X.env.locals∧(∀x c,X.env.cells.lookup x=some c→c≠b)∧∀p∈X.pn++pins,p.1≠b)
  (keep:∀b o,b≠X.env.locals→b∉X.fs→b∉ch→s.heap.get? b=some o→H b=none→h'.get? b=some o)
  (slot:∀b o,b≠X.env.locals→b∈X.fs→b∉ch→s.heap.get? b=some o→H b=none→∃sl,h'.get? b=some {o with slots:=sl}) (free:∀b o,b∉ch→s.heap.get? b=some o→H b=none→H' b=none)
  (there:∀b o,b∉ch→s.heap.get? b=some o→∃o',h'.get? b=some o')
  (tups:∀b xs,H b=some (.tup xs)→H' b=some (.tup xs)) (frzs:∀b o u,H b=some (.frz o u)→H' b=some (.frz o u)) (tbls:∀b ps,H b=some (.tbl ps)→∃more,H' b=some (.tbl (ps++more)))
  (ns:∀m,s.heap.Ns X.env.locals m→h'.Ns X.env.locals m) (hok:HOk X.prog X.w H' h') (hg:AllBare g'):
  Inv X pins σ H' {s with heap:=h',gens:=g',drawn:=d',toks:=t'}:=by
 have neL:∀b o,X.s₀.heap.get? b=some o→b≠X.env.locals:=fun b o e=>Nat.ne_of_lt (Nat.lt_of_lt_of_le (Heap.lt_size e) I.ok.above)
 have neC:∀b o,X.s₀.heap.get? b=some o→b∉X.ex→b∉ch:=fun b o e hx hb=>by
  rcases(hch b hb).1 with z|z
  ·exact hx z
  ·exact absurd (Nat.lt_of_lt_of_le (Heap.lt_size e) z) (Nat.lt_irrefl _)
 have cellK:∀x c,X.env.cells.lookup x=some c→∀v,s.heap.IsCell c v→h'.IsCell c v:=fun x c e v ⟨o,ho,hd⟩=>by
  have nch:c∉ch:=fun z=>(hch c z).2.2.1 x c e rfl
  by_cases hc:c∈X.fs
  ·obtain⟨sl,q⟩:=slot c o (I.cne x c e) hc nch ho (I.freeC x c e)
   exact⟨_,q,hd⟩
  ·exact⟨o,keep c o (I.cne x c e) hc nch ho (I.freeC x c e),hd⟩
 refine⟨I.ok,I.os,hg,⟨fun b o e n hb hx=>?_,fun b o e n hb hx=>?_,fun b o e n hx=>?_,fun b o e hx=>?_,fun b xs e=>tups b xs (I.base.tups b xs e),fun b o xs e=>frzs b o xs (I.base.frzs b o xs e),fun b ps e=>?_⟩,?_,fun x c e=>?_,?_,fun x c e=>?_,fun p hp=>?_,hok,I.len⟩
 ·exact keep b o (neL b o e) hb (neC b o e hx) (I.base.keep b o e n hb hx) (I.base.free b o e n hx)
 ·obtain⟨sl,e1⟩:=I.base.slot b o e n hb hx
  obtain⟨sl',e2⟩:=slot b _ (neL b o e) hb (neC b o e hx) e1 (I.base.free b o e n hx)
  exact⟨sl',e2⟩
 ·obtain⟨o',e1⟩:=I.base.there b o e hx
  exact free b o' (neC b o e hx) e1 (I.base.free b o e n hx)
 ·obtain⟨o',e1⟩:=I.base.there b o e hx
  exact there b o' (neC b o e hx) e1
 ·obtain⟨m1,e1⟩:=I.base.tbls b ps e
  obtain⟨m2,e2⟩:=tbls b _ e1
  exact⟨m1++m2,by rw[e2,Array.append_assoc]⟩
 ·obtain⟨m,hn,hl⟩:=I.loc
  refine⟨m,ns m hn,fun i x v e1 e2 e3=>?_⟩
  obtain⟨u,r,l⟩:=hl i x v e1 e2 e3
  refine⟨u,r,?_⟩
  rcases l with l|⟨k,c,e,z⟩
  ·exact .inl l
  ·exact .inr ⟨k,c,e,cellK x c e _ z⟩
 ·obtain⟨v,z⟩:=I.cell x c e
  exact⟨v,cellK x c e v z⟩
 ·obtain⟨m,⟨o,_,_,ho,_⟩,_⟩:=I.loc
  exact free _ o (fun z=>(hch _ z).2.1 rfl) ho I.free
 ·obtain⟨v,o,ho,hd⟩:=I.cell x c e
  exact free c o (fun z=>(hch c z).2.2.1 x c e rfl) ho (I.freeC x c e)
 ·obtain⟨e,n,ne,nf,d⟩:=I.pin p hp
  have nch:p.1∉ch:=fun z=>(hch p.1 z).2.2.2 p hp rfl
  exact⟨keep p.1 p.2 ne nf nch e n,free p.1 p.2 nch e n,ne,nf,d⟩
theorem Inv.un {t':Nat}(I:Inv X pins σ H s)(u:Un X.fs [] H H' s.heap h')(hok:HOk X.prog X.w H' h'):Inv X pins σ H' {s with heap:=h',toks:=t'}:=by
 obtain⟨m,⟨o,es,ep,ho,r⟩,_⟩:=id I.loc
 obtain⟨sl,hL⟩:=u.any ho I.free (by simp)
 exact I.step (g':=s.gens) (d':=s.drawn) (ch:=[]) (fun _ z=>nomatch z) (fun b o _ hb _ e n=>u.keep b o e n hb (by simp)) (fun b o _ hb _ e n=>u.slot b o e n hb (by simp)) (fun b o _ e n=>u.free b o e n (by simp)) (fun b o _ e=>u.there b o e (by simp)) u.tups u.frzs u.tbls (fun m' hm=>by
  obtain⟨o',es',ep',ho',r'⟩:=hm
  rw[ho]at ho';cases ho'
  exact⟨_,es',ep',hL,r'⟩) hok I.bare
theorem Inv.call {g':Array GenState}{t':Nat}{d':Drawn}{ch:List Addr}(I:Inv X pins σ H s)(u:Un (frs X.stack) ch H H' s.heap h')(hok:HOk X.prog X.w H' h')(hg:AllBare g')
  (hch:∀b∈ch,(b∈X.ex∨X.s₀.heap.objs.size≤b)∧b≠X.env.locals∧(∀x c,X.env.cells.lookup x=some c→c≠b)∧∀p∈X.pn++pins,p.1≠b):
  Inv X pins σ H' {s with heap:=h',gens:=g',drawn:=d',toks:=t'}:=by
 obtain⟨m,⟨o,es,ep,ho,r⟩,_⟩:=id I.loc
 obtain⟨sl,hL⟩:=u.any ho I.free fun z=>(hch _ z).2.1 rfl
 exact I.step (ch:=ch) hch (fun b o hL hb hc e n=>u.keep b o e n (fun z=>(List.mem_cons.mp (I.stkSub b z)).elim hL hb) hc) (fun b o _ _ hc e n=>u.any e n hc) (fun b o hc e n=>u.free b o e n hc) (fun b o hc e=>u.there b o e hc) u.tups u.frzs u.tbls (fun m' hm=>by
  obtain⟨o',es',ep',ho',r'⟩:=hm
  rw[ho]at ho';cases ho'
  exact⟨_,es',ep',hL,r'⟩) hok hg
theorem Inv.turned {t':Nat}{it:Addr}(I:Inv X pins σ H s)(k:∀b o,b≠it→s.heap.get? b=some o→h'.get? b=some o)(hn:H it=none)(hL:it≠X.env.locals)
  (h1:it∈X.ex∨X.s₀.heap.objs.size≤it) (h2:∀x c,X.env.cells.lookup x=some c→c≠it) (h3:∀p∈X.pn++pins,p.1≠it):Inv X pins σ H {s with heap:=h',toks:=t'}:=by
 have nit:∀b u,H b=some u→b≠it:=fun b u e z=>by rw[z,hn]at e;cases e
 refine I.step (g':=s.gens) (d':=s.drawn) (ch:=[it]) (fun b hb=>?_) (fun b o _ _ hc e _=>k b o (fun z=>hc (by simp[z])) e) (fun b o _ _ hc e _=>⟨o.slots,k b o (fun z=>hc (by simp[z])) e⟩) (fun _ _ _ _ n=>n)
  (fun b o hc e=>⟨o,k b o (fun z=>hc (by simp[z])) e⟩) (fun _ _ e=>e) (fun _ _ _ e=>e) (fun b ps e=>⟨#[],by rw[e];simp⟩) (fun m hm=>?_) (fun b u e=>?_) I.bare
 ·have e:b=it:=by simpa using hb
  subst e
  exact⟨h1,hL,h2,h3⟩
 ·obtain⟨o,es,ep,ho,r⟩:=hm
  exact⟨o,es,ep,k _ o (Ne.symm hL) ho,r⟩
 ·refine(I.hok b u e).stay (fun c v hc q=>k c v ?_ q) (fun _ q=>q) fun _ _ q=>q
  rcases hc with z|z
  ·rw[z];exact nit b u e
  ·exact nit c _ z
theorem Inv.tok (I:Inv X pins σ H s)(t:Nat):Inv X pins σ H {s with toks:=t}:=I.un (h':=s.heap) (t':=t) Un.refl I.hok
theorem Inv.kept {t':Nat}(I:Inv X pins σ H s)(k:∀b u,s.heap.get? b=some u→h'.get? b=some u):Inv X pins σ H {s with heap:=h',toks:=t'}:=I.un (Un.kept k) (I.hok.kept k)
theorem Inv.laid {a:Addr}{o:HO}{t':Nat}(I:Inv X pins σ H s)(k:∀b u,s.heap.get? b=some u→h'.get? b=some u)(hp:s.heap.objs.size≤a)(new:ObjOk X.prog X.w (upd H a o) h' a o):
  Inv X pins σ (upd H a o) {s with heap:=h',toks:=t'}:=I.un (Un.laid k hp (I.hok.fresh hp)) (I.hok.laid k hp new)
theorem Inv.write {x e:Addr}{o:HO}{t':Nat}(I:Inv X pins σ H s)(mu:Mut (H x))(he:e=x∨H e=some (.own x))(k:∀b u,b≠e→s.heap.get? b=some u→h'.get? b=some u)(heo:∃u,h'.get? e=some u)
  (new:ObjOk X.prog X.w (upd H x o) h' x o):Inv X pins σ (upd H x o) {s with heap:=h',toks:=t'}:=I.un (Un.write mu he k heo) (I.hok.write mu he k heo new)
theorem Inv.pins_of {pins':List (Addr×Obj)}(I:Inv X pins σ H s)(h:∀p∈pins',s.heap.get? p.1=some p.2∧H p.1=none∧p.1≠X.env.locals∧p.1∉X.fs∧∀v,p.2.data≠.cell v):Inv X pins' σ H s :=
 ⟨I.ok,I.os,I.bare,I.base,I.loc,I.cell,I.free,I.freeC,fun p hp=>(List.mem_append.mp hp).elim (fun z=>I.pin p (List.mem_append_left _ z)) (h p),I.hok,I.len⟩
theorem nodup_ix {N:List Str}(hN:N.Nodup){i j:Nat}{x:Str}(a:N[i]?=some x)(b:N[j]?=some x):i=j:=by
 obtain⟨h1,e1⟩:=List.getElem?_eq_some_iff.mp a
 obtain⟨h2,e2⟩:=List.getElem?_eq_some_iff.mp b
 exact(List.getElem_inj hN).mp (e1.trans e2.symm)
theorem store_ok2 {M:Model}{A:Around}{E:Value→Shared→Prop}{i:Nat}{x:Str}{v:V}{u:Value}{Q:Unit→Shared→Prop}(I:Inv X pins σ H s)(hN:X.N.Nodup)(hi:X.N[i]?=some x)(hx:Loc X.env.scope x)(r:RelV v u)
  (h:∀s',Inv X pins (σ.set i (some v)) H s'→(∃a,Heap.SameBut a s.heap s'.heap∧(a=X.env.locals∨X.env.cells.lookup x=some a))→Q () s') (hf:X.fn x=true∨X.env.scope.names.lookup x=some .local:=by first|exact .inl rfl|exact .inr rfl|assumption):wpAny M A (storeName X.env x u) Q E s:=by
 obtain⟨m,hn,hl⟩:=id I.loc
 have hcls:(X.env.scope.kind==.class||(X.env.scope.kind==.module&&X.env.locals !=X.env.globals))=false:=by rw[I.ok.kind];rfl
 have hiσ:i<σ.length:=by rw[I.len];exact(List.getElem?_eq_some_iff.mp hi).1
 have cne:=I.cne
 have tracked:∀{a:Addr} {h':Heap},(∃o,s.heap.get? a=some o∧H a=none)→Heap.SameBut a s.heap h'→HOk X.prog X.w H h':=fun{a h'} ha hs b ob e=>by
  obtain⟨_,_,hfree⟩:=ha
  refine(I.hok b ob e).stay (fun c w' hc q=>(hs.2 c ?_).trans q) (fun _ q=>q) fun _ _ q=>q
  rintro rfl
  rcases hc with rfl|hc
  ·rw[hfree]at e;cases e
  ·rw[hfree]at hc;cases hc
 rcases hx with hk|hk
 ·refine wpAny_storeName_local hk hn (fun h' hn' hs=>?_) hcls
  obtain⟨oL,_,_,hoL,_⟩:=id hn
  refine h _ ⟨I.ok,I.os,I.bare,⟨fun b o e n hb hx=>?_,fun b o e n hb hx=>?_,I.base.free,fun b o e hx=>?_,I.base.tups,I.base.frzs,I.base.tbls⟩,⟨_,hn',fun j y v' e1 e2 e3=>?_⟩,fun y c e=>?_,I.free,I.freeC,fun p hp=>?_,tracked ⟨oL,hoL,I.free⟩ hs,by simpa using I.len⟩ ⟨_,hs, .inl rfl⟩
  ·exact(hs.2 b (Nat.ne_of_lt (Nat.lt_of_lt_of_le (Heap.lt_size e) I.ok.above))).trans (I.base.keep b o e n hb hx)
  ·obtain⟨sl,e1⟩:=I.base.slot b o e n hb hx
   exact⟨sl,(hs.2 b (Nat.ne_of_lt (Nat.lt_of_lt_of_le (Heap.lt_size e) I.ok.above))).trans e1⟩
  ·obtain⟨o',e1⟩:=I.base.there b o e hx
   exact⟨o',(hs.2 b (Nat.ne_of_lt (Nat.lt_of_lt_of_le (Heap.lt_size e) I.ok.above))).trans e1⟩
  ·by_cases hj:j=i
   ·subst hj
    rw[hi]at e1;cases e1
    rw[List.getElem?_set_self hiσ]at e2
    cases e2
    exact⟨u,r, .inl ⟨hk,by simp⟩⟩
   ·rw[List.getElem?_set_ne (Ne.symm hj)]at e2
    obtain⟨u',r',q⟩:=hl j y v' e1 e2 e3
    refine⟨u',r',?_⟩
    rcases q with ⟨k,e⟩|⟨k,c,e,z⟩
    ·refine .inl ⟨k,?_⟩
     have:y≠x:=fun e=>hj (nodup_ix hN e1 (e ▸ hi))
     simp[this,e]
    ·exact .inr ⟨k,c,e,z.sameBut hs (cne y c e)⟩
  ·obtain⟨w',z⟩:=I.cell y c e
   exact⟨w',z.sameBut hs (cne y c e)⟩
  ·obtain⟨e,n,ne,nf,d⟩:=I.pin p hp
   exact⟨(hs.2 p.1 ne).trans e,n,ne,nf,d⟩
 ·have hfn:X.fn x=true:=by
   rcases hf with z|z
   ·exact z
   ·rw[z]at hk;cases hk
  obtain⟨c,hc⟩:=I.ok.has x (.inl hk)
  obtain⟨w',z⟩:=I.cell x c hc
  refine wpAny_storeName_cell I.ok.kind hk hc z (fun h' hc' hs=>?_)
  obtain⟨oc,hoc,hocd⟩:=id z
  refine h {s with heap:=h'} ⟨I.ok,I.os,I.bare,⟨fun b o e n hb hx=>?_,fun b o e n hb hx=>?_,I.base.free,fun b o e hx=>?_,I.base.tups,I.base.frzs,I.base.tbls⟩,⟨m,hn.sameBut hs (Ne.symm (cne x c hc)),fun j y v' e1 e2 e3=>?_⟩,fun y c' e=>?_,I.free,I.freeC,fun p hp=>?_,tracked ⟨oc,hoc,I.freeC x c hc⟩ hs,by simpa using I.len⟩ ⟨c,hs, .inr hc⟩
  ·exact(hs.2 b (Nat.ne_of_lt (Nat.lt_of_lt_of_le (Heap.lt_size e) (I.ok.cab x c hfn hc)))).trans (I.base.keep b o e n hb hx)
  ·obtain⟨sl,e1⟩:=I.base.slot b o e n hb hx
   exact⟨sl,(hs.2 b (Nat.ne_of_lt (Nat.lt_of_lt_of_le (Heap.lt_size e) (I.ok.cab x c hfn hc)))).trans e1⟩
  ·obtain⟨o',e1⟩:=I.base.there b o e hx
   exact⟨o',(hs.2 b (Nat.ne_of_lt (Nat.lt_of_lt_of_le (Heap.lt_size e) (I.ok.cab x c hfn hc)))).trans e1⟩
  ·by_cases hj:j=i
   ·subst hj
    rw[hi]at e1;cases e1
    rw[List.getElem?_set_self hiσ]at e2
    cases e2
    exact⟨u,r, .inr ⟨.inl hk,c,hc,hc'⟩⟩
   ·rw[List.getElem?_set_ne (Ne.symm hj)]at e2
    obtain⟨u',r',q⟩:=hl j y v' e1 e2 e3
    refine⟨u',r',?_⟩
    rcases q with q|⟨k,c',e,z'⟩
    ·exact .inl q
    ·refine .inr ⟨k,c',e,z'.sameBut hs ?_⟩
     rintro rfl
     exact hj (nodup_ix hN e1 (I.ok.inj _ _ _ e hc ▸ hi))
  ·by_cases hcc:c'=c
   ·subst hcc;exact⟨_,hc'⟩
   ·obtain⟨w2,z2⟩:=I.cell y c' e
    exact⟨w2,z2.sameBut hs hcc⟩
  ·obtain⟨e,n,ne,nf,d⟩:=I.pin p hp
   refine⟨(hs.2 p.1 ?_).trans e,n,ne,nf,d⟩
   intro q
   rw[q,hoc]at e
   have q':oc=p.2:=Option.some.inj e
   exact d w' (by rw[←q'];exact hocd)
theorem store_ok {M:Model}{A:Around}{E:Value→Shared→Prop}{i:Nat}{x:Str}{v:V}{u:Value}{Q:Unit→Shared→Prop}(I:Inv X pins σ H s)(hN:X.N.Nodup)(hi:X.N[i]?=some x)(hx:Loc X.env.scope x)(r:RelV v u)
  (h:∀s',Inv X pins (σ.set i (some v)) H s'→Q () s') (hf:X.fn x=true∨X.env.scope.names.lookup x=some .local:=by first|exact .inl rfl|exact .inr rfl|assumption):wpAny M A (storeName X.env x u) Q E s :=
 store_ok2 I hN hi hx r (fun s' I' _=>h s' I') hf
theorem Inv.call' {s':Shared}{ch:List Addr}(I:Inv X pins σ H s)(ho:s'.os=s.os)(u:Un (frs X.stack) ch H H' s.heap s'.heap)(hok:HOk X.prog X.w H' s'.heap)(hg:AllBare s'.gens)
  (hch:∀b∈ch,(b∈X.ex∨X.s₀.heap.objs.size≤b)∧b≠X.env.locals∧(∀x c,X.env.cells.lookup x=some c→c≠b)∧∀p∈X.pn++pins,p.1≠b):Inv X pins σ H' s':=by
 obtain⟨h',g',d',t',o'⟩:=s'
 have e:o'=s.os:=ho
 subst e
 exact I.call (g':=g') (t':=t') (d':=d') u hok hg hch
end
abbrev XK:=Value→Option Addr→Hp→Prop
abbrev St:=List (Option V)
abbrev VK:=V→Hp→Prop
abbrev TE:=St→Hp→VK→Prop
abbrev TT:=St→Hp→(Bool→Hp→Prop)→Prop
abbrev TA:=St→Hp→(List V→Hp→Prop)→Prop
structure Ends where
 nx:St→Hp→Prop
 rt:VK
 bk:St→Hp→Prop:=fun _ _=>False
 ct:St→Hp→Prop:=fun _ _=>False
abbrev TS:=Ends→St→Hp→Prop
def Ends.of (Q:VK):Ends:={nx:=fun _ H'=>Q .non H',rt:=Q}
def Ends.lp (D:Ends)(n:St→Hp→Prop):Ends:={D with nx:=n,ct:=n,bk:=D.nx}
def EP (X:Cx)(pins:List (Addr×Obj))(σ:St)(Q:VK)(u:Value)(s':Shared):Prop:=∃v H',Inv X pins σ H' s'∧RelV v u∧Q v H'
def TP (X:Cx)(pins:List (Addr×Obj))(σ:St)(Q:Bool→Hp→Prop)(b:Bool)(s':Shared):Prop:=∃H',Inv X pins σ H' s'∧Q b H'
def AP (X:Cx)(pins:List (Addr×Obj))(σ:St)(Q:List V→Hp→Prop)(us:List Value)(s':Shared):Prop:=∃vs H',Inv X pins σ H' s'∧Vals vs us∧Q vs H'
def SP (X:Cx)(pins:List (Addr×Obj))(D:Ends)(f:Flow)(s':Shared):Prop :=
 match f with
 |.next=>∃σ' H',Inv X pins σ' H' s'∧D.nx σ' H'
 |.brk=>∃σ' H',Inv X pins σ' H' s'∧D.bk σ' H'
 |.cont=>∃σ' H',Inv X pins σ' H' s'∧D.ct σ' H'
 |.ret u=>∃v σ' H',Inv X pins σ' H' s'∧RelV v u∧D.rt v H'
def PE (X:Cx)(e:Expr)(t:TE):Prop :=
 ∀(pins:List (Addr×Obj)) (s:Shared) (σ:St) (H:Hp) (Q:VK),Inv X pins σ H s→t σ H Q→wpAny (model X.prog X.w) X.A (eval e X.env) (EP X pins σ Q) X.xe s
def PT (X:Cx)(e:Expr)(t:TT):Prop :=
 ∀(pins:List (Addr×Obj)) (s:Shared) (σ:St) (H:Hp) (Q:Bool→Hp→Prop),Inv X pins σ H s→t σ H Q→wpAny (model X.prog X.w) X.A (isTrue e X.env (eval e X.env)) (TP X pins σ Q) X.xe s
def PW (X:Cx)(e:Expr)(t:TT):Prop :=
 ∀(whole:Sem Value) (pins:List (Addr×Obj)) (s:Shared) (σ:St) (H:Hp) (Q:Bool→Hp→Prop),Inv X pins σ H s→t σ H Q→wpAny (model X.prog X.w) X.A (isTrue e X.env whole) (TP X pins σ Q) X.xe s
theorem PW.pt {X:Cx}{e:Expr}{t:TT}(h:PW X e t):PT X e t:=h _
def PA (X:Cx)(es:List Expr)(t:TA):Prop :=
 ∀(pos:Pos) (pins:List (Addr×Obj)) (s:Shared) (σ:St) (H:Hp) (Q:List V→Hp→Prop),Inv X pins σ H s→t σ H Q→wpAny (model X.prog X.w) X.A (spliced (backTo pos (starEach es X.env))) (AP X pins σ Q) X.xe s
def PS (X:Cx)(st:Stmt)(t:TS):Prop :=
 ∀(pins:List (Addr×Obj)) (s:Shared) (σ:St) (H:Hp) (D:Ends),Inv X pins σ H s→t D σ H→wpAny (model X.prog X.w) X.A (exec st X.env) (SP X pins D) X.xe s
def PSs (X:Cx)(st:List Stmt)(t:TS):Prop :=
 ∀(pins:List (Addr×Obj)) (s:Shared) (σ:St) (H:Hp) (D:Ends),Inv X pins σ H s→t D σ H→wpAny (model X.prog X.w) X.A (execs st X.env) (SP X pins D) X.xe s
theorem thn {α:Type}{t:Sem α}{Q Q':α→Shared→Prop}{M:Model}{A:Around}{E:Value→Shared→Prop}{s:Shared}(h:wpAny M A t Q E s)(hQ:∀a s,Q a s→Q' a s):wpAny M A t Q' E s:=wpAny_mono h hQ fun _ _ x=>x
section
variable {X:Cx}
inductive tVar_ (i:Nat)(σ:St)(H:Hp)(Q:VK):Prop where
 |mk (v):(σ[i]?=some (some v))→(Q v H)→tVar_ i σ H Q
def tVar (i:Nat):TE:=tVar_ i
def tC (v:V):TE:=fun _ H Q=>Q v H
theorem pe_var {i:Nat}{x:Str}{pos:Pos}(hN:X.N[i]?=some x)(hv:Vis X.env.scope x)(hd:(x==("__debug__":Str))=false:=by decide)(hcd:(x==("__classdict__":Str))=false:=by decide):PE X (.Name x pos) (tVar i):=by
 intro pins s σ H Q I h
 obtain⟨v,e,h⟩:=h
 obtain⟨m,hn,hl⟩:=I.loc
 obtain⟨u,r,l⟩:=hl i x v hN e hv
 have fin:EP X pins σ Q u s:=⟨v,H,I,r,h⟩
 rcases l with ⟨hk,hm⟩|⟨hk,c,hc,hcell⟩
 ·exact wpAny_Name (wpAny_loadName_local I.ok.kind hk hn hm fin) hd
 ·rcases hk with hk|hk
  ·exact wpAny_Name (wpAny_loadName_cell I.ok.kind hk hc hcell fin) hd
  ·exact wpAny_Name (wpAny_loadName_free I.ok.kind hk hc hcell fin hcd) hd
theorem pe_int {i j pos}:PE X (.Constant (.int i) j pos) (tC (.int i)):=fun _ _ _ H _ I h=>wpAny_Constant_int ⟨.int i,H,I.tok _,⟨_,rfl⟩,h⟩
theorem pe_bl {b j pos}:PE X (.Constant (.bool b) j pos) (tC (.bl b)):=fun _ _ _ H _ I h=>Constant_bool ⟨.bl b,H,I,rfl,h⟩
theorem pe_non {j pos}:PE X (.Constant .none j pos) (tC .non):=fun _ _ _ H _ I h=>Constant_none ⟨.non,H,I,rfl,h⟩
theorem pe_str {x j pos}:PE X (.Constant (.str x) j pos) (tC (.str x)):=fun _ _ _ H _ I h=>Calls.Constant_str ⟨.str x,H,I.tok _,⟨_,rfl⟩,h⟩
def Gl (X:Cx)(x:Str):Prop:=X.env.kindOf x=some .globalImplicit
theorem ld_glob {E:Value→Shared→Prop}{pins:List (Addr×Obj)}{s:Shared}{σ:St}{H:Hp}{x:Str}{u:Value}{pos:Pos}{Q:Value→Shared→Prop}(I:Inv X pins σ H s)(hg:Gl X x)(hm:X.mg x=some u)(h:Q u s)
  (hd:(x==("__debug__":Str))=false:=by decide):wpAny (model X.prog X.w) X.A (eval (.Name x pos) X.env) Q E s :=
 Calls.Name_function_global I.ok.kind hg (Calls.loadGlobal_global (by rw[I.ok.glob];exact I.mod.glob.keeps I.bk) hm h) hd
theorem ld_blt {E:Value→Shared→Prop}{pins:List (Addr×Obj)}{s:Shared}{σ:St}{H:Hp}{x:Str}{u:Value}{pos:Pos}{Q:Value→Shared→Prop}(I:Inv X pins σ H s)(hg:Gl X x)(hm:X.mg x=none)(hv:bootBuiltins x=some u)(h:Q u s)
  (hn:x≠"__name__":=by decide) (hd:(x==("__debug__":Str))=false:=by decide):wpAny (model X.prog X.w) X.A (eval (.Name x pos) X.env) Q E s:=by
 obtain⟨mb,h1,h2⟩:=I.mod.blt
 exact Calls.Name_function_global I.ok.kind hg (Calls.loadGlobal_builtin (by rw[I.ok.glob];exact I.mod.glob.keeps I.bk) hm (by rw[I.ok.blt];exact h1.keeps I.bk) ((h2 x hn).trans hv) h) hd
theorem pe_glob {x:Str}{v:V}{u:Value}{pos:Pos}(hg:Gl X x)(hm:X.mg x=some u)(r:RelV v u)(hd:(x==("__debug__":Str))=false:=by decide):PE X (.Name x pos) (tC v) :=
 fun _ _ _ H _ I h=>ld_glob I hg hm ⟨v,H,I,r,h⟩ hd
theorem pe_bltn {x:Str}{v:V}{u:Value}{pos:Pos}(hg:Gl X x)(hm:X.mg x=none)(hv:bootBuiltins x=some u)(r:RelV v u)(hn:x≠"__name__":=by decide)(hd:(x==("__debug__":Str))=false:=by decide):PE X (.Name x pos) (tC v) :=
 fun _ _ _ H _ I h=>ld_blt I hg hm hv ⟨v,H,I,r,h⟩ hn hd
variable {a b:Expr}{ta tb:TE}{pos:Pos}
def PC (X:Cx)(op:CmpOp)(a b:Expr)(t:TE):Prop :=
 ∀(pins:List (Addr×Obj)) (s:Shared) (σ:St) (H:Hp) (Q:VK),Inv X pins σ H s→t σ H Q→
  wpAny (model X.prog X.w) X.A (eval a X.env) (fun v s₁=>wpAny (model X.prog X.w) X.A (eval b X.env) (fun u s₂=>wpAny (model X.prog X.w) X.A (compareOp op v u) (EP X pins σ Q) X.xe s₂) X.xe s₁) X.xe s
def tIsN (ta:TE):TE:=fun σ H Q=>ta σ H fun x H1=>Q (.bl (decide (x=.non))) H1
theorem RelV.none_iff {x:V}{v:Value}(r:RelV x v):(v==Value.none)=decide (x=.non):=by
 cases x with
 |non=>cases r;rfl
 |bl _=>cases r;rfl
 |int _=>obtain⟨t,rfl⟩:=r;rfl
 |str _=>obtain⟨t,rfl⟩:=r;rfl
 |byt _=>obtain⟨t,rfl⟩:=r;rfl
 |flt _=>obtain⟨t,rfl⟩:=r;rfl
 |ref _=>cases r;rfl
 |ty _=>cases r;rfl
theorem pc_isN {j pos'}(ha:PE X a ta):PC X .Is a (.Constant .none j pos') (tIsN ta):=by
 intro pins s σ H Q I h
 refine thn (ha pins s σ H _ I h) fun v s1 ⟨x,H1,I1,r1,q1⟩=>?_
 exact Constant_none (is_none_gen ⟨.bl _,H1,I1,by rw[r1.none_iff];rfl,q1⟩)
def tB (t:TE):TT:=fun σ H Q=>t σ H fun x H1=>∃c,x=.bl c∧Q c H1
theorem pe_cmp {op:CmpOp}{t:TE}(h:PC X op a b t)(h1:behindInMarks op b=false):PE X (.Compare a [op] [b] pos) t:=fun pins s σ H Q I hw=>wpAny_Compare1 (h pins s σ H Q I hw) h1
theorem pt_cmp {op:CmpOp}{t:TE}(h:PC X op a b t)(h1:behindInMarks op b=false):PT X (.Compare a [op] [b] pos) (tB t):=by
 intro pins s σ H Q I hw
 refine wpAny_isTrue_Compare1 (thn (h pins s σ H _ I hw) fun v s1 h1=>thn h1 fun u s2 h2=>thn h2 fun c s3 ⟨x,H1,I1,r1,q1⟩=>?_) h1
 obtain⟨d,rfl,q⟩:=q1
 cases r1
 exact wpAny_truthy_bool ⟨H1,I1,q⟩
theorem pt_val {e:Expr}{t:TE}(h:PE X e t)(he:∀whole,isTrue e X.env whole=(do let v ←whole;standAt e.pos;holding [v] (truthy v)):=by intro _;rfl):PT X e (tB t):=by
 intro pins s σ H Q I hw
 refine isTrue_plain (thn (h pins s σ H _ I hw) fun v s1 ⟨x,H1,I1,r1,q1⟩=>?_) (he _)
 obtain⟨d,rfl,q⟩:=q1
 cases r1
 exact wpAny_truthy_bool ⟨H1,I1,q⟩
variable {tA tB':TT}{rest:List Expr}
def tAnd (t u:TT):TT:=fun σ H Q=>t σ H fun c H1=>if c=true then u σ H1 Q else Q false H1
def tOr (t u:TT):TT:=fun σ H Q=>t σ H fun c H1=>if c=true then Q true H1 else u σ H1 Q
def tNot (t:TT):TT:=fun σ H Q=>t σ H fun c H1=>Q (!c) H1
theorem pw_and1 (ha:PT X a tA):PW X (.BoolOp .And [a] pos) tA:=by
 intro wh pins s σ H Q I h
 refine isTrue_and (thn (ha pins s σ H Q I h) fun c s1 e=>?_)
 cases c with
 |true=>exact isTrue_and_nil e
 |false=>exact e
theorem pw_or1 (ha:PT X a tA):PW X (.BoolOp .Or [a] pos) tA:=by
 intro wh pins s σ H Q I h
 refine isTrue_or (thn (ha pins s σ H Q I h) fun c s1 e=>?_)
 cases c with
 |false=>exact isTrue_or_nil e
 |true=>exact e
theorem pw_and (ha:PT X a tA)(hb:PW X (.BoolOp .And (b::rest) pos) tB'):PW X (.BoolOp .And (a::b::rest) pos) (tAnd tA tB'):=by
 intro wh pins s σ H Q I h
 refine isTrue_and (thn (ha pins s σ H _ I h) fun c s1 ⟨H1,I1,q1⟩=>?_)
 cases c with
 |true=>exact hb wh pins s1 σ H1 Q I1 q1
 |false=>exact⟨H1,I1,q1⟩
theorem pw_or (ha:PT X a tA)(hb:PW X (.BoolOp .Or (b::rest) pos) tB'):PW X (.BoolOp .Or (a::b::rest) pos) (tOr tA tB'):=by
 intro wh pins s σ H Q I h
 refine isTrue_or (thn (ha pins s σ H _ I h) fun c s1 ⟨H1,I1,q1⟩=>?_)
 cases c with
 |true=>exact⟨H1,I1,q1⟩
 |false=>exact hb wh pins s1 σ H1 Q I1 q1
theorem pt_not (ha:PT X a tA):PT X (.UnaryOp .Not a pos) (tNot tA):=by
 intro pins s σ H Q I h
 exact isTrue_not (ha pins s σ H (fun c H1=>Q (!c) H1) I h)
def tAndV (ta tb:TE):TE:=fun σ H Q=>ta σ H fun x H1=>∃c,x=.bl c∧if c=true then tb σ H1 Q else Q (.bl false) H1
def tNotV (ta:TE):TE:=fun σ H Q=>ta σ H fun x H1=>∃c,x=.bl c∧Q (.bl (!c)) H1
theorem pe_one {op}{t:TE}(h:PE X a t):PE X (.BoolOp op [a] pos) t:=fun pins s σ H Q I hw=>BoolOp_one (h pins s σ H Q I hw)
theorem pe_and (ha:PE X a ta)(hb:PE X (.BoolOp .And (b::rest) pos) tb):PE X (.BoolOp .And (a::b::rest) pos) (tAndV ta tb):=by
 intro pins s σ H Q I h
 refine BoolOp_and (thn (ha pins s σ H _ I h) fun v s1 ⟨x,H1,I1,r1,q1⟩=>?_)
 obtain⟨c,rfl,q1⟩:=q1
 cases r1
 refine wpAny_truthy_bool ?_
 cases c with
 |true=>exact hb pins s1 σ H1 Q I1 q1
 |false=>exact⟨.bl false,H1,I1,rfl,q1⟩
theorem pe_not (ha:PE X a ta):PE X (.UnaryOp .Not a pos) (tNotV ta):=by
 intro pins s σ H Q I h
 refine UnaryOp_ (thn (ha pins s σ H _ I h) fun v s1 ⟨x,H1,I1,r1,q1⟩=>?_)
 obtain⟨c,rfl,q1⟩:=q1
 cases r1
 exact not_of (wpAny_truthy_bool ⟨.bl (!c),H1,I1,rfl,q1⟩)
def tIf (t:TT)(ta tb:TE):TE:=fun σ H Q=>t σ H fun c H1=>if c=true then ta σ H1 Q else tb σ H1 Q
theorem pe_ifExp {c:Expr}(hc:PT X c tA)(ha:PE X a ta)(hb:PE X b tb):PE X (.IfExp c a b pos) (tIf tA ta tb):=by
 intro pins s σ H Q I h
 refine wpAny_IfExp (thn (hc pins s σ H _ I h) fun d s1 ⟨H1,I1,q1⟩=>?_)
 cases d with
 |true=>exact ha pins s1 σ H1 Q I1 q1
 |false=>exact hb pins s1 σ H1 Q I1 q1
end
def SqL (K:PySem.W.Frag)(H:Hp)(a:Addr)(xs:List V):Prop :=
 Rd H a (.lst xs)∨
  ∃(o:Obj) (its:Array Value) (n:Nat),K.lookup a=some o∧o.cls=.type "list"∧o.dict=none∧o.data=.seq its n∧its.size≤sizeLine∧Vals xs its.toList
def SqT (K:PySem.W.Frag)(H:Hp)(a:Addr)(xs:List V):Prop :=
 Rd H a (.tup xs)∨
  ∃(o:Obj) (its:Array Value) (n:Nat),K.lookup a=some o∧o.cls=.type "tuple"∧o.data=.seq its n∧its.size≤sizeLine∧Vals xs its.toList
def absV:Value→Option V
 |.none=>some .non
 |.bool b=>some (.bl b)
 |.int i _=>some (.int i)
 |.str x _=>some (.str x)
 |.bytes b _=>some (.byt b)
 |.float b _=>some (.flt b)
 |.ref a=>some (.ref a)
 |.type n=>some (.ty n)
 |_=>none
theorem RelV.abs {x:V}{u:Value}(r:RelV x u):absV u=some x:=by
 cases x with
 |non=>cases r;rfl
 |bl _=>cases r;rfl
 |int _=>obtain⟨t,rfl⟩:=r;rfl
 |str _=>obtain⟨t,rfl⟩:=r;rfl
 |byt _=>obtain⟨t,rfl⟩:=r;rfl
 |flt _=>obtain⟨t,rfl⟩:=r;rfl
 |ref _=>cases r;rfl
 |ty _=>cases r;rfl
theorem RelV.inj {x y:V}{u:Value}(r:RelV x u)(q:RelV y u):x=y:=Option.some.inj (r.abs.symm.trans q.abs)
theorem Vals.inj {xs ys:List V}{us:List Value}(h:Vals xs us)(k:Vals ys us):xs=ys:=by
 induction h generalizing ys with
 |nil=>cases k;rfl
 |cons r _ ih=>cases k with
  |cons q t=>rw[r.inj q,ih t]
section
variable {X:Cx}{pins:List (Addr×Obj)}{σ:St}{H:Hp}{s:Shared}{a:Addr}{xs ys:List V}
theorem SqL.of {K:PySem.W.Frag}(h:H a=some (.lst xs)):SqL K H a xs:=.inl (.inl h)
theorem SqT.of {K:PySem.W.Frag}(h:H a=some (.tup xs)):SqT K H a xs:=.inl (.inl h)
theorem Inv.list (I:Inv X pins σ H s)(h:SqL X.K H a xs):∃its:List Value,Vals xs its∧PlainL s.heap a its.toArray∧xs.length≤sizeLine:=by
 rcases h with h|⟨o,its,n,hk,hc,hd,hs,hz,r⟩
 ·obtain⟨z,its,n,r,e⟩:=h.ok I.hok
  exact⟨its,r,⟨_,n,e,rfl,rfl,rfl⟩,z⟩
 ·refine⟨its.toList,r,⟨o,n,I.kIn a o hk,hc,hd,by simpa using hs⟩,?_⟩
  have e:=r.length
  simp only[Array.length_toList]at e
  omega
theorem Inv.tuple (I:Inv X pins σ H s)(h:SqT X.K H a xs):∃its:List Value,Vals xs its∧IsTup s.heap a its.toArray∧xs.length≤sizeLine:=by
 rcases h with h|⟨o,its,n,hk,hc,hs,hz,r⟩
 ·obtain⟨z,its,r,p⟩:=h.ok I.hok
  exact⟨its,r,p,z⟩
 ·refine⟨its.toList,r,⟨o,I.kIn a o hk,hc,n,by simpa using hs⟩,?_⟩
  have e:=r.length
  simp only[Array.length_toList]at e
  omega
theorem Inv.list_inj (I:Inv X pins σ H s)(h:SqL X.K H a xs)(h':SqL X.K H a ys):xs=ys:=by
 obtain⟨its,r,⟨o,n,e,_,_,d⟩,_⟩:=I.list h
 obtain⟨its',r',⟨o',n',e',_,_,d'⟩,_⟩:=I.list h'
 rw[e]at e';cases e'
 rw[d]at d'
 injection d' with d1 _
 have:its=its':=by simpa using congrArg Array.toList d1
 subst this
 exact r.inj r'
theorem Inv.tuple_inj (I:Inv X pins σ H s)(h:SqT X.K H a xs)(h':SqT X.K H a ys):xs=ys:=by
 obtain⟨its,r,⟨o,e,_,n,d⟩,_⟩:=I.tuple h
 obtain⟨its',r',⟨o',e',_,n',d'⟩,_⟩:=I.tuple h'
 rw[e]at e';cases e'
 rw[d]at d'
 injection d' with d1 _
 have:its=its':=by simpa using congrArg Array.toList d1
 subst this
 exact r.inj r'
end
abbrev Cx.wish (X:Cx)(E:Value→Shared→Prop):Cx:={X with xe:=E}
abbrev Cx.nox (X:Cx):Cx:=X.wish fun _ _=>False
theorem Cx.Ok.wish {X:Cx}(ok:X.Ok)(E:Value→Shared→Prop):(X.wish E).Ok :=
 ⟨ok.mod,ok.kind,ok.glob,ok.blt,ok.above,ok.inj,ok.has,ok.cab,ok.hd,ok.frames,ok.stk,ok.exf,ok.bs,ok.bsz,ok.noex,ok.exfs,ok.funs,ok.frf⟩
theorem Cx.Ok.unwish {X:Cx}{E:Value→Shared→Prop}(ok:(X.wish E).Ok):X.Ok :=
 ⟨ok.mod,ok.kind,ok.glob,ok.blt,ok.above,ok.inj,ok.has,ok.cab,ok.hd,ok.frames,ok.stk,ok.exf,ok.bs,ok.bsz,ok.noex,ok.exfs,ok.funs,ok.frf⟩
section
variable {X:Cx}{pins:List (Addr×Obj)}{σ:St}{H:Hp}{s:Shared}{E:Value→Shared→Prop}
theorem Inv.wish (I:Inv X pins σ H s)(E:Value→Shared→Prop):Inv (X.wish E) pins σ H s:=⟨I.ok.wish E,I.os,I.bare,I.base,I.loc,I.cell,I.free,I.freeC,I.pin,I.hok,I.len⟩
theorem Inv.unwish (I:Inv (X.wish E) pins σ H s):Inv X pins σ H s:=⟨I.ok.unwish,I.os,I.bare,I.base,I.loc,I.cell,I.free,I.freeC,I.pin,I.hok,I.len⟩
theorem SP.unwish {D:Ends}{f:Flow}{s':Shared}(h:SP (X.wish E) pins D f s'):SP X pins D f s':=by
 cases f with
 |next=>obtain⟨σ',H',I,q⟩:=h;exact⟨σ',H',I.unwish,q⟩
 |brk=>obtain⟨σ',H',I,q⟩:=h;exact⟨σ',H',I.unwish,q⟩
 |cont=>obtain⟨σ',H',I,q⟩:=h;exact⟨σ',H',I.unwish,q⟩
 |ret u=>obtain⟨v,σ',H',I,r,q⟩:=h;exact⟨v,σ',H',I.unwish,r,q⟩
theorem PSs.nox {st:List Stmt}{t:TS}(h:PSs X.nox st t):PSs X st t:=fun pins s σ H D I hw=>
 wpAny_mono (h pins s σ H D (I.wish _) hw) (fun _ _ q=>q.unwish) fun _ _ z=>False.elim z
end
section
variable {X:Cx}{st:Stmt}{rest:List Stmt}{t u:TS}{e:Expr}{te:TE}{pos:Pos}
def tNext:TS:=fun D σ H=>D.nx σ H
def Ends.to (D:Ends)(n:St→Hp→Prop):Ends:={D with nx:=n}
def tSeq (t u:TS):TS:=fun D σ H=>t (D.to (u D)) σ H
theorem pss_nil:PSs X [] tNext:=fun _ _ σ H _ I h=>wpAny_execs_nil ⟨σ,H,I,h⟩
theorem pss_cons (h1:PS X st t)(h2:PSs X rest u):PSs X (st::rest) (tSeq t u):=by
 intro pins s σ H D I h
 refine wpAny_execs_cons (thn (h1 pins s σ H {D with nx:=u D} I h) fun f s1 q=>?_)
 cases f with
 |next=>
  obtain⟨σ',H',I',q⟩:=q
  exact h2 pins s1 σ' H' D I' q
 |ret v=>exact q
 |brk=>exact q
 |cont=>exact q
theorem pss_one (h1:PS X st t):PSs X [st] t:=by
 intro pins s σ H D I h
 refine wpAny_execs_cons (thn (h1 pins s σ H D I h) fun f s1 q=>?_)
 cases f with
 |next=>exact wpAny_execs_nil q
 |ret v=>exact q
 |brk=>exact q
 |cont=>exact q
theorem Inv.quiet {pins:List (Addr×Obj)}{σ:St}{H:Hp}{s:Shared}(I:Inv X pins σ H s):interactive X.env=false:=by simp[interactive,I.ok.kind]
def tDrop (te:TE):TS:=fun D σ H=>te σ H fun _ H1=>D.nx σ H1
theorem ps_expr (he:PE X e te)(hs:swapsWith e none pos.line X.env=pure false:=by rfl):PS X (.Expr e pos) (tDrop te):=by
 intro pins s σ H D I h
 exact wpAny_Expr_any (thn (he pins s σ H _ I h) fun v s1 ⟨x,H1,I1,r1,q1⟩=>⟨σ,H1,I1,q1⟩) I.quiet hs
def tRet (te:TE):TS:=fun D σ H=>te σ H D.rt
theorem ps_ret (he:PE X e te):PS X (.Return (some e) pos) (tRet te):=by
 intro pins s σ H D I h
 exact wpAny_Return_some (thn (he pins s σ H _ I h) fun v s1 ⟨x,H1,I1,r1,q1⟩=>⟨x,σ,H1,I1,r1,q1⟩)
def tRetN:TS:=fun D _ H=>D.rt .non H
theorem ps_retN:PS X (.Return none pos) tRetN:=fun _ _ σ H _ I h=>wpAny_Return_none ⟨.non,σ,H,I,rfl,h⟩
def tIfS (c:TT)(t u:TS):TS:=fun D σ H=>c σ H fun b H1=>if b=true then t D σ H1 else u D σ H1
theorem ps_if {c:Expr}{a b:List Stmt}{tc:TT}(hc:PT X c tc)(ha:PSs X a t)(hb:PSs X b u):PS X (.If c a b pos) (tIfS tc t u):=by
 intro pins s σ H D I h
 refine wpAny_If (thn (hc pins s σ H _ I h) fun d s1 ⟨H1,I1,q1⟩=>?_)
 cases d with
 |true=>exact ha pins s1 σ H1 D I1 q1
 |false=>exact hb pins s1 σ H1 D I1 q1
def tNever:TS:=fun _ _ _=>False
theorem ps_never:PS X st tNever:=fun _ _ _ _ _ _ h=>h.elim
theorem pss_never {sts:List Stmt}:PSs X sts tNever:=fun _ _ _ _ _ _ h=>h.elim
end
abbrev TG:=V→St→Hp→(St→Hp→Prop)→Prop
abbrev TGs:=List V→St→Hp→(St→Hp→Prop)→Prop
def PG (X:Cx)(target:Expr)(t:TG):Prop :=
 ∀(pins:List (Addr×Obj)) (s:Shared) (σ:St) (H:Hp) (v:V) (u:Value) (Q:St→Hp→Prop),Inv X pins σ H s→RelV v u→t v σ H Q→
  wpAny (model X.prog X.w) X.A (assign target X.env u) (fun _ s'=>∃σ' H',Inv X pins σ' H' s'∧Q σ' H') X.xe s
def PGs (X:Cx)(ts:List Expr)(t:TGs):Prop :=
 ∀(pins:List (Addr×Obj)) (s:Shared) (σ:St) (H:Hp) (vs:List V) (us:List Value) (Q:St→Hp→Prop),Inv X pins σ H s→Vals vs us→t vs σ H Q→
  wpAny (model X.prog X.w) X.A (assignInOrder ((assignEach ts X.env).map (·.2)) us) (fun _ s'=>∃σ' H',Inv X pins σ' H' s'∧Q σ' H') X.xe s
abbrev TSet:=V→V→V→Hp→(Hp→Prop)→Prop
def PSet (X:Cx)(t:TSet):Prop :=
 ∀(pins:List (Addr×Obj)) (s:Shared) (σ:St) (H:Hp) (o i v:V) (ov iv u:Value) (Q:Hp→Prop),Inv X pins σ H s→RelV o ov→RelV i iv→RelV v u→t o i v H Q→
  wpAny (model X.prog X.w) X.A (setItem ov iv u) (fun _ s'=>∃H',Inv X pins σ H' s'∧Q H') X.xe s
section
variable {X:Cx}{pos:Pos}
def gName (i:Nat):TG:=fun v σ H Q=>Q (σ.set i (some v)) H
theorem pg_name {i:Nat}{x:Str}(hN:X.N.Nodup)(hi:X.N[i]?=some x)(hx:Loc X.env.scope x)(hf:X.fn x=true∨X.env.scope.names.lookup x=some .local:=by first|exact .inl rfl|exact .inr rfl|assumption):PG X (.Name x pos) (gName i):=by
 intro pins s σ H v u Q I r h
 exact wpAny_assign_Name (store_ok I hN hi hx r (fun s' I'=>⟨_,H,I',h⟩) hf)
inductive gNil_ (vs:List V)(σ:St)(H:Hp)(Q:St→Hp→Prop):Prop where
 |mk:(vs=[])→(Q σ H)→gNil_ vs σ H Q
def gNil:TGs:=gNil_
inductive gCons_ (t:TG)(u:TGs)(vs:List V)(σ:St)(H:Hp)(Q:St→Hp→Prop):Prop where
 |mk (v) (r):(vs=v::r)→(t v σ H fun σ' H'=>u r σ' H' Q)→gCons_ t u vs σ H Q
def gCons (t:TG)(u:TGs):TGs:=gCons_ t u
theorem pgs_nil:PGs X [] gNil:=by
 intro pins s σ H vs us Q I r h
 obtain⟨e,h⟩:=h
 subst e
 cases r
 exact assignInOrder_nil ⟨σ,H,I,h⟩
theorem pgs_cons {e:Expr}{es:List Expr}{t:TG}{u:TGs}(h1:PG X e t)(h2:PGs X es u)
  (hs:(assignEach (e::es) X.env).map (·.2)=assign e X.env::(assignEach es X.env).map (·.2):=by rfl):PGs X (e::es) (gCons t u):=by
 intro pins s σ H vs us Q I r h
 obtain⟨v,vr,e1,h⟩:=h
 subst e1
 cases r with
 |cons r rr=>
  rw[hs]
  refine assignInOrder_cons (thn (h1 pins s σ H _ _ _ I r h) fun _ s1 ⟨σ1,H1,I1,q1⟩=>?_)
  exact h2 pins s1 σ1 H1 _ _ Q I1 rr q1
inductive gTup_ (K:PySem.W.Frag)(n:Nat)(t:TGs)(v:V)(σ:St)(H:Hp)(Q:St→Hp→Prop):Prop where
 |mk (a) (xs):(v=.ref a)→(SqT K H a xs)→(xs.length=n)→(t xs σ H Q)→gTup_ K n t v σ H Q
def gTup (K:PySem.W.Frag)(n:Nat)(t:TGs):TG:=gTup_ K n t
theorem pg_tup {es:List Expr}{k:Nat}{t:TGs}{n:Nat}(hc:X.calm=true)(h:PGs X es t)
  (hn:(assignEach es X.env).length=n:=by rfl) (hst:(assignEach es X.env).findIdx? (·.1)=none:=by rfl):PG X (.Tuple es k pos) (gTup X.K n t):=by
 intro pins s σ H v u Q I r hw
 obtain⟨a,xs,e1,hq,hl,hw⟩:=hw
 subst e1
 cases r
 obtain⟨its,rv,ht,hz⟩:=I.tuple hq
 refine assign_Tuple_tuple (I.ok.hd hc) ht (by simp[hn,←hl,rv.length]) hst fun h' hx=>?_
 have I1:Inv X pins σ H {s with heap:=h'}:=I.kept (t':=s.toks) fun b o e=>hx b o (Nat.ne_of_lt (Heap.lt_size e)) e
 exact h pins _ σ H xs _ Q I1 (by simpa using rv) hw
def gSub (to ti:TE)(t:TSet):TG:=fun v σ H Q=>to σ H fun o H1=>ti σ H1 fun i H2=>t o i v H2 fun H3=>Q σ H3
theorem pg_sub {o i:Expr}{to ti:TE}{t:TSet}(ho:PE X o to)(hi:PE X i ti)(hs:PSet X t)
  (ha:∀v,assign (.Subscript o i pos) X.env v=(do
   let ov ←holding [v] (eval o X.env)
   let iv ←holding [v,ov] (eval i X.env)
   standAt pos
   holding [v,ov,iv] (setItem ov iv v)
   release [v,ov,iv] []):=by intro _;rfl):PG X (.Subscript o i pos) (gSub to ti t):=by
 intro pins s σ H v u Q I r h
 rw[ha]
 refine wpAny_bind (wpAny_holding (thn (ho pins s σ H _ I h) fun ov s1 ⟨x,H1,I1,r1,q1⟩=>?_))
 refine wpAny_bind (wpAny_holding (thn (hi pins s1 σ H1 _ I1 q1) fun iv s2 ⟨y,H2,I2,r2,q2⟩=>?_))
 refine wpAny_bind (wpAny_standAt (wpAny_bind (wpAny_holding (thn (hs pins s2 σ H2 x y v ov iv u _ I2 r1 r2 r q2) fun _ s3 ⟨H3,I3,q3⟩=>?_))))
 exact wpAny_release ⟨σ,H3,I3,q3⟩
def tAsg (te:TE)(g:TG):TS:=fun D σ H=>te σ H fun x H1=>g x σ H1 D.nx
theorem ps_asg {tg e:Expr}{te:TE}{g:TG}(he:PE X e te)(hg:PG X tg g)(hs:swapsWithSole [tg] e pos.line X.env=pure false:=by rfl)(hw:swappedStores [tg] e X.env=pure none:=by rfl)
  (h1:(assignEach [tg] X.env).map (·.2)=[assign tg X.env]:=by rfl):PS X (.Assign [tg] e pos) (tAsg te g):=by
 intro pins s σ H D I h
 refine wpAny_Assign_stores (thn (he pins s σ H _ I h) fun v s1 ⟨x,H1,I1,r1,q1⟩=>?_) hs hw
 rw[h1]
 exact thn (hg pins s1 σ H1 x v _ I1 r1 q1) fun _ s2 q=>q
theorem ps_set {i:Nat}{x:Str}{e:Expr}{te:TE}{pos':Pos}(hN:X.N.Nodup)(hi:X.N[i]?=some x)(hx:Loc X.env.scope x)(he:PE X e te)(hs:swapsWith e (some (.Name x pos')) pos.line X.env=pure false:=by rfl)(hf:X.fn x=true∨X.env.scope.names.lookup x=some .local:=by first|exact .inl rfl|exact .inr rfl|assumption):
  PS X (.Assign [.Name x pos'] e pos) (tAsg te (gName i)):=by
 intro pins s σ H D I h
 refine wpAny_Assign_Name (thn (he pins s σ H _ I h) fun v s1 ⟨y,H1,I1,r1,q1⟩=>?_) hs
 exact store_ok I1 hN hi hx r1 (fun s2 I2=>⟨_,H1,I2,q1⟩) hf
inductive tPar_ (i:Nat)(j:Nat)(D:Ends)(σ:St)(vs:List V)(H1:Hp):Prop where
 |mk (v) (w):(vs=[v,w])→(D.nx ((σ.set i (some v)).set j (some w)) H1)→tPar_ i j D σ vs H1
end
section
variable {X:Cx}{pos:Pos}
def tWhile (c:TT)(tb:TS):TS:=fun D σ H=>∃W:Nat→St→Hp→Prop,(∃m,W m σ H)∧∀m σ H,W m σ H→
 c σ H fun b H1=>if b=true then ∃N:St→Hp→Prop,(∀σ' H',N σ' H'→∃m',m'<m∧W m' σ' H')∧tb (D.lp N) σ H1 else D.nx σ H1
theorem ps_while {c:Expr}{body:List Stmt}{tc:TT}{tb:TS}(hp:PassesOwn (model X.prog X.w) X.A X.env X.xe)(hc:PT X c tc)(hb:PSs X body tb):PS X (.While c body [] pos) (tWhile tc tb):=by
 intro pins s σ H D I h
 obtain⟨W,⟨m0,w0⟩,turn⟩:=h
 refine wpAny_While (codeAny_whileLoop (fun n s'=>∃σ' H',Inv X pins σ' H' s'∧W n σ' H') ?_ m0 ⟨σ,H,I,w0⟩)
 rintro n s1 ⟨σ1,H1,I1,w1⟩
 refine wpAny_passesOwn hp (thn (hc pins s1 σ1 H1 _ I1 (turn n σ1 H1 w1)) fun b s2 ⟨H2,I2,q2⟩=>?_)
 cases b with
 |true=>
  obtain⟨N,hN,q2⟩:=q2
  rw[if_pos rfl]
  refine wpAny_passesOwn hp (thn (hb pins s2 σ1 H2 _ I2 q2) fun f s3 q3=>?_)
  cases f with
  |next=>
   obtain⟨σ3,H3,I3,n3⟩:=q3
   obtain⟨m',hm,w3⟩:=hN σ3 H3 n3
   exact⟨m',hm,σ3,H3,I3,w3⟩
  |cont=>
   obtain⟨σ3,H3,I3,n3⟩:=q3
   obtain⟨m',hm,w3⟩:=hN σ3 H3 n3
   exact⟨m',hm,σ3,H3,I3,w3⟩
  |brk=>exact q3
  |ret v=>exact q3
 |false=>
  rw[if_neg Bool.false_ne_true]
  exact wpAny_execs_nil ⟨σ1,H2,I2,q2⟩
end
structure It where
 go:Nat→Hp→Prop
 yld:Nat→Hp→V→Hp→Prop
 stop:Nat→Hp→Prop
def FpOk (X:Cx)(pins:List (Addr×Obj))(H:Hp)(b:Addr):Prop :=
 H b=none∧b≠X.env.locals∧b∉X.fs∧(b∈X.ex∨X.s₀.heap.objs.size≤b)∧(∀x c,X.env.cells.lookup x=some c→c≠b)∧∀p∈X.pn++pins,p.1≠b
theorem Inv.fpOk {X:Cx}{pins:List (Addr×Obj)}{σ:St}{H H':Hp}{s:Shared}{b:Addr}(I:Inv X pins σ H s)(hb:s.heap.objs.size≤b)(hn:H' b=none):FpOk X pins H' b:=by
 refine⟨hn,Nat.ne_of_gt (Nat.lt_of_lt_of_le I.lt hb),I.nofs hb, .inr (Nat.le_trans I.sz hb),fun x c e z=>?_,fun p hp z=>?_⟩
 ·obtain⟨v,q⟩:=I.cell x c e
  exact absurd (Nat.lt_of_lt_of_le q.lt (by rw[z];exact hb)) (Nat.lt_irrefl _)
 ·exact absurd (Nat.lt_of_lt_of_le (Heap.lt_size (I.pin p hp).1) (by rw[z];exact hb)) (Nat.lt_irrefl _)
abbrev Calm:Cx→Prop:=fun X=>X.calm=true
structure TurnQ (qt:Cx→Prop)(P:Program)(w:World)(K:PySem.W.Frag)(tg:Expr)(J:It)(fp:List Addr)(it:Addr)(tn:Nat→Heap→Prop):Prop where
 mem:it∈fp
 obj:∀i h,tn i h→∀b∈fp,∃o,h.get? b=some o∧∀v,o.data≠.cell v
 keep:∀i h h',tn i h→(∀b∈fp,∀o,h.get? b=some o→h'.get? b=some o)→tn i h'
 item:∀(X:Cx),X.prog=P→X.w=w→X.K=K→qt X→∀(i:Nat) (pins:List (Addr×Obj)) (s:Shared) (σ:St) (H:Hp) (E:Value→Shared→Prop),Inv X pins σ H s→(∀b∈fp,FpOk X pins H b)→tn i s.heap→J.go i H→
  wpAny (model P w) X.A (pyNext (.ref it)) (fun r s1=>∃u,r=some u∧
   wpAny (model P w) X.A (letOwnedTupleGo tg (.ref it) u) (fun _ s2=>∃x H',Inv X pins σ H' s2∧RelV x u∧J.yld i H x H'∧tn (i+1) s2.heap∧∀b∈fp,H' b=none) E s1) E s
 done:∀(X:Cx),X.prog=P→X.w=w→X.K=K→qt X→∀(i:Nat) (pins:List (Addr×Obj)) (s:Shared) (σ:St) (H:Hp) (E:Value→Shared→Prop),Inv X pins σ H s→(∀b∈fp,FpOk X pins H b)→tn i s.heap→J.stop i H→
  wpAny (model P w) X.A (pyNext (.ref it)) (fun r s1=>r=none∧Inv X pins σ H s1) E s
 self:∀(A:Around) (i:Nat) (s:Shared) (Q:Value→Shared→Prop) (E:Value→Shared→Prop),tn i s.heap→Q (.ref it) s→wpAny (model P w) A (pyIter (.ref it)) Q E s
abbrev Turn:=TurnQ Calm
abbrev TI:=St→Hp→(It→Hp→Prop)→Prop
def PIEQ (qt:Cx→Prop)(X:Cx)(pins:List (Addr×Obj))(σ:St)(tg:Expr)(R:It→Hp→Prop)(itv:Value)(s2:Shared):Prop :=
 ∃(it:Addr) (fp:List Addr) (tn:Nat→Heap→Prop) (J:It) (H':Hp),itv=.ref it∧Inv X pins σ H' s2∧TurnQ qt X.prog X.w X.K tg J fp it tn∧tn 0 s2.heap∧(∀b∈fp,FpOk X pins H' b)∧R J H'
abbrev PIE:=PIEQ Calm
def PIQ (qt:Cx→Prop)(X:Cx)(tg iter:Expr)(wi:TI):Prop :=
 ∀(pins:List (Addr×Obj)) (s:Shared) (σ:St) (H:Hp) (R:It→Hp→Prop),Inv X pins σ H s→wi σ H R→
  wpAny (model X.prog X.w) X.A (eval iter X.env) (fun v s1=>wpAny (model X.prog X.w) X.A (pyIter v) (PIEQ qt X pins σ tg R) X.xe s1) X.xe s
abbrev PI:=PIQ Calm
theorem go_of {M:Model}{A:Around}{E:Value→Shared→Prop}{s:Shared}{tg:Expr}{it:Addr}{u:Value}{o:Obj}{n:String}{vs:Array Value}{Q:Unit→Shared→Prop}(ho:s.heap.get? it=some o)(hc:o.cls=.type n)(hd:o.data=.fields vs)
  (hn:["enumerate","zip","dict_itemiterator","dict_reverseitemiterator","odict_iterator","itertools.zip_longest","itertools.pairwise"].contains n=false) (hQ:Q () s):wpAny M A (letOwnedTupleGo tg (.ref it) u) Q E s:=by
 unfold letOwnedTupleGo
 cases tg<;>first
  |exact wpAny_pure hQ
  |(cases u<;>first
    |exact wpAny_pure hQ
    |(refine wpAny_bind (wpAny_load ho ?_)
      rw[hc,hd]
      show wpAny M A (if(["enumerate","zip","dict_itemiterator","dict_reverseitemiterator","odict_iterator","itertools.zip_longest","itertools.pairwise"].contains n&&vs[0]?==some (rawInt _))=true then _ else _) Q E s
      rw[if_neg (by intro h;rw[hn,Bool.false_and]at h;cases h)]
      exact wpAny_pure hQ))
def Itl (K:PySem.W.Frag)(a:Addr):It :=
 ⟨fun i H=>∃xs x,SqL K H a xs∧xs[i]?=some x,fun i H x H'=>H'=H∧∀xs,SqL K H a xs→xs[i]?=some x,fun i H=>∃xs,SqL K H a xs∧xs.length≤i⟩
def Itt (K:PySem.W.Frag)(a:Addr):It :=
 ⟨fun i H=>∃xs x,SqT K H a xs∧xs[i]?=some x,fun i H x H'=>H'=H∧∀xs,SqT K H a xs→xs[i]?=some x,fun i H=>∃xs,SqT K H a xs∧xs.length≤i⟩
def Itr (lo:Int)(n:Nat):It:=⟨fun i _=>i<n,fun i H x H'=>H'=H∧x=.int (lo+i),fun i _=>n≤i⟩
theorem turn_list {P:Program}{w:World}{K:PySem.W.Frag}{tg:Expr}(a it:Addr):Turn P w K tg (Itl K a) [it] it (fun i h=>h.IsListIter it a i) where
 mem:=by simp
 obj:=fun i h st b hb=>by
  have e:b=it:=by simpa using hb
  subst e
  obtain⟨o,e,c,d⟩:=st
  exact⟨o,e,fun v z=>by rw[d]at z;cases z⟩
 keep:=fun i h h' st k=>st.at fun o e=>k it (by simp) o e
 item:=by
  intro X hP hw hK hc i pins s σ H E I hf st hg
  subst hP hw hK
  obtain⟨xs,x,hq,hx⟩:=hg
  obtain⟨its,rv,p,hz⟩:=I.list hq
  obtain⟨u,hu,ru⟩:=rv.get hx
  obtain⟨f0,f1,f2,f3,f4,f5⟩:=hf it (by simp)
  refine wpAny_pyNext_list_item st p.isList (x:=u) (by simpa using hu) fun h' st' sb=>?_
  have I1:Inv X pins σ H {s with heap:=h'}:=I.turned (t':=s.toks) (fun b o hb e=>(sb.2 b hb).trans e) f0 f1 f3 f4 f5
  obtain⟨o,e,c,d⟩:=id st'
  exact⟨u,rfl,go_of (s:={s with heap:=h'}) e c d (by decide) ⟨x,H,I1,ru,⟨rfl,fun ys hy=>by rw[I.list_inj hy hq];exact hx⟩,st',fun b hb=>(hf b hb).1⟩⟩
 done:=by
  intro X hP hw hK hc i pins s σ H E I hf st hg
  subst hP hw hK
  obtain⟨xs,hq,hx⟩:=hg
  obtain⟨its,rv,p,hz⟩:=I.list hq
  obtain⟨f0,f1,f2,f3,f4,f5⟩:=hf it (by simp)
  have hl:=rv.length
  exact wpAny_pyNext_list_end (I.ok.hd hc) st p.isList (by simp;exact Nat.le_trans (Nat.le_of_eq hl.symm) hx) fun h' eb=>⟨rfl,I.turned (t':=s.toks) (fun b o hb e=>eb b o hb e) f0 f1 f3 f4 f5⟩
 self:=fun _ _ _ _ _ st h=>wpAny_pyIter_listiter st h
theorem turn_tuple {P:Program}{w:World}{K:PySem.W.Frag}{tg:Expr}(a it:Addr):Turn P w K tg (Itt K a) [it] it (fun i h=>h.IsTupleIter it a i) where
 mem:=by simp
 obj:=fun i h st b hb=>by
  have e:b=it:=by simpa using hb
  subst e
  obtain⟨o,e,c,d⟩:=st
  exact⟨o,e,fun v z=>by rw[d]at z;cases z⟩
 keep:=fun i h h' st k=>st.at fun o e=>k it (by simp) o e
 item:=by
  intro X hP hw hK hc i pins s σ H E I hf st hg
  subst hP hw hK
  obtain⟨xs,x,hq,hx⟩:=hg
  obtain⟨its,rv,p,hz⟩:=I.tuple hq
  obtain⟨u,hu,ru⟩:=rv.get hx
  obtain⟨f0,f1,f2,f3,f4,f5⟩:=hf it (by simp)
  refine wpAny_pyNext_tuple_item st (show s.heap.IsTuple a its.toArray from p) (x:=u) (by simpa using hu) fun h' st' sb=>?_
  have I1:Inv X pins σ H {s with heap:=h'}:=I.turned (t':=s.toks) (fun b o hb e=>(sb.2 b hb).trans e) f0 f1 f3 f4 f5
  obtain⟨o,e,c,d⟩:=id st'
  exact⟨u,rfl,go_of (s:={s with heap:=h'}) e c d (by decide) ⟨x,H,I1,ru,⟨rfl,fun ys hy=>by rw[I.tuple_inj hy hq];exact hx⟩,st',fun b hb=>(hf b hb).1⟩⟩
 done:=by
  intro X hP hw hK hc i pins s σ H E I hf st hg
  subst hP hw hK
  obtain⟨xs,hq,hx⟩:=hg
  obtain⟨its,rv,p,hz⟩:=I.tuple hq
  obtain⟨f0,f1,f2,f3,f4,f5⟩:=hf it (by simp)
  have hl:=rv.length
  exact wpAny_pyNext_tuple_end (I.ok.hd hc) st (show s.heap.IsTuple a its.toArray from p) (by simp;exact Nat.le_trans (Nat.le_of_eq hl.symm) hx) fun h' eb=>⟨rfl,I.turned (t':=s.toks) (fun b o hb e=>eb b o hb e) f0 f1 f3 f4 f5⟩
 self:=fun _ _ _ _ _ st h=>wpAny_pyIter_tupleiter st h
theorem turn_range {P:Program}{w:World}{K:PySem.W.Frag}{tg:Expr}(it:Addr)(lo:Int)(n:Nat):Turn P w K tg (Itr lo n) [it] it (fun i h=>IsRangeIter h it (lo+(i:Nat)*1) ((n:Int)-(i:Nat)) 1) where
 mem:=by simp
 obj:=fun i h st b hb=>by
  have e:b=it:=by simpa using hb
  subst e
  exact⟨_,st,fun v z=>by
   have z':Data.fields _=Data.cell v:=z
   cases z'⟩
 keep:=fun i h h' st k=>k it (by simp) _ st
 item:=by
  intro X hP hw hK hc i pins s σ H E I hf st hg
  subst hP hw hK
  obtain⟨f0,f1,f2,f3,f4,f5⟩:=hf it (by simp)
  have W:=Walks.range (prog:=X.prog) (w:=X.w) (I.ok.hd hc) it lo 1 n
  refine W.item i s _ _ hg st fun v h' tk hv st' kk=>?_
  obtain⟨t,rfl⟩:=hv
  have I1:Inv X pins σ H {s with heap:=h',toks:=tk}:=I.turned (fun b o hb e=>kk b o (by simpa using hb) e) f0 f1 f3 f4 f5
  refine⟨_,rfl,go_of (s:={s with heap:=h',toks:=tk}) (n:="range_iterator") st' rfl rfl (by decide) ⟨.int (lo+i),H,I1,⟨t,?_⟩,⟨rfl,rfl⟩,st',fun b hb=>(hf b hb).1⟩⟩
  rw[Int.mul_one]
 done:=by
  intro X hP hw hK hc i pins s σ H E I hf st hg
  subst hP hw hK
  obtain⟨f0,f1,f2,f3,f4,f5⟩:=hf it (by simp)
  exact wpAny_pyNext_range_end (I.ok.hd hc) st (by have:n≤i:=hg;omega) fun h' eb=>⟨rfl,I.turned (t':=s.toks) (fun b o hb e=>eb b o hb e) f0 f1 f3 f4 f5⟩
 self:=fun _ _ _ _ _ st h=>wpAny_pyIter_rangeiter st h
section
variable {X:Cx}{tg:Expr}
inductive iList_ (K:PySem.W.Frag)(R:It→Hp→Prop)(x:V)(H1:Hp):Prop where
 |mk (a):(x=.ref a)→((∃xs,SqL K H1 a xs))→(R (Itl K a) H1)→iList_ K R x H1
def iList (K:PySem.W.Frag)(tl:TE):TI:=fun σ H R=>tl σ H (iList_ K R)
inductive iTup_ (K:PySem.W.Frag)(R:It→Hp→Prop)(x:V)(H1:Hp):Prop where
 |mk (a):(x=.ref a)→((∃xs,SqT K H1 a xs))→(R (Itt K a) H1)→iTup_ K R x H1
def iTup (K:PySem.W.Frag)(tl:TE):TI:=fun σ H R=>tl σ H (iTup_ K R)
theorem pi_list {l:Expr}{tl:TE}(hl:PE X l tl):PI X tg l (iList X.K tl):=by
 intro pins s σ H R I h
 refine thn (hl pins s σ H _ I h) fun v s1 ⟨x,H1,I1,r1,q1⟩=>?_
 obtain⟨a,e,⟨xs,hq⟩,q⟩:=q1
 subst e
 cases r1
 obtain⟨its,rv,p,hz⟩:=I1.list hq
 refine wpAny_pyIter_list p.isList ?_
 refine⟨s1.heap.objs.size,[s1.heap.objs.size],_,_,H1,rfl,I1.kept (t':=s1.toks) fun b o e=>Heap.get?_push_of_some _ e,turn_list a _,⟨_,Heap.get?_push_size _ rfl,rfl,rfl⟩,fun b hb=>?_,q⟩
 have e:b=s1.heap.objs.size:=by simpa using hb
 subst e
 exact I1.fpOk (Nat.le_refl _) (I1.hok.fresh (Nat.le_refl _))
theorem pi_tup {l:Expr}{tl:TE}(hl:PE X l tl):PI X tg l (iTup X.K tl):=by
 intro pins s σ H R I h
 refine thn (hl pins s σ H _ I h) fun v s1 ⟨x,H1,I1,r1,q1⟩=>?_
 obtain⟨a,e,⟨xs,hq⟩,q⟩:=q1
 subst e
 cases r1
 obtain⟨its,rv,p,hz⟩:=I1.tuple hq
 refine wpAny_pyIter_tuple (show s1.heap.IsTuple a its.toArray from p) ?_
 refine⟨s1.heap.objs.size,[s1.heap.objs.size],_,_,H1,rfl,I1.kept (t':=s1.toks) fun b o e=>Heap.get?_push_of_some _ e,turn_tuple a _,⟨_,Heap.get?_push_size _ rfl,rfl,rfl⟩,fun b hb=>?_,q⟩
 have e:b=s1.heap.objs.size:=by simpa using hb
 subst e
 exact I1.fpOk (Nat.le_refl _) (I1.hok.fresh (Nat.le_refl _))
theorem range_it {pins:List (Addr×Obj)}{σ:St}{H:Hp}{s:Shared}{R:It→Hp→Prop}{E:Value→Shared→Prop}{lo hi:Int}{t u v:Tok}{tk:Nat}(I:Inv X pins σ H s)(h1: -(2^62)≤lo)(h2:lo<2^62)(h3: -(2^62)≤hi)(h4:hi<2^62)
  (q:R (Itr lo (hi-lo).toNat) H):wpAny (model X.prog X.w) X.A (pyIter (.ref s.heap.objs.size)) (PIE X pins σ tg R) E {s with heap:=s.heap.push {cls:=.type "range",data:=.fields #[.int lo t, .int hi u, .int 1 v]},toks:=tk}:=by
 refine wpAny_pyIter_range (IsRange.new ..) (small_one h1 h2 h3 h4) ?_
 have I1:Inv X pins σ H {s with heap:=s.heap.push {cls:=.type "range",data:=.fields #[.int lo t, .int hi u, .int 1 v]},toks:=tk}:=I.kept fun b o e=>Heap.get?_push_of_some _ e
 refine⟨(s.heap.push {cls:=.type "range",data:=.fields #[.int lo t, .int hi u, .int 1 v]}).objs.size,[(s.heap.push {cls:=.type "range",data:=.fields #[.int lo t, .int hi u, .int 1 v]}).objs.size],_,_,H,rfl,
  I1.kept (t':=tk) fun b o e=>Heap.get?_push_of_some _ e,turn_range _ lo (hi-lo).toNat,?_,fun b hb=>?_,q⟩
 ·have e1:lo+((0:Nat):Int)*1=lo:=by simp
  have e2:(((hi-lo).toNat:Nat):Int)-((0:Nat):Int)=Builtin.Range.rangeSize lo hi 1:=by rw[rangeSize_one];split<;>omega
  show IsRangeIter _ _ (lo+((0:Nat):Int)*1) ((((hi-lo).toNat:Nat):Int)-((0:Nat):Int)) 1
  rw[e1,e2]
  exact Heap.get?_push_size _ rfl
 ·have e:b=(s.heap.push {cls:=.type "range",data:=.fields #[.int lo t, .int hi u, .int 1 v]}).objs.size:=by simpa using hb
  subst e
  exact I1.fpOk (Nat.le_refl _) (I1.hok.fresh (Nat.le_refl _))
inductive iRng1_ (R:It→Hp→Prop)(vs:List V)(H1:Hp):Prop where
 |mk (j:Int):(vs=[.int j])→(-(2^62)≤j)→(j<2^62)→(R (Itr 0 j.toNat) H1)→iRng1_ R vs H1
def iRng1 (ta:TA):TI:=fun σ H R=>ta σ H (iRng1_ R)
theorem pi_range1 {a:Expr}{ta:TA}{p pos:Pos}(hg:Gl X "range")(hm:X.mg "range"=none)(ha:PA X [a] ta)(hs:starEach [a] X.env=[(false,eval a X.env)]:=by rfl):PI X tg (.Call (.Name "range" p) [a] [] pos) (iRng1 ta):=by
 intro pins s σ H R I h
 refine Call_ (ld_blt I hg hm boot_range (PyProof.Rows.callWith_type1 (thn (ha pos pins s σ H _ I h) fun us s1 ⟨vs,H1,I1,r1,q1⟩=>?_) hs rfl))
 obtain⟨j,e,q1,q2,q⟩:=q1
 subst e
 cases r1 with
 |cons r rr=>
  cases rr
  obtain⟨t,rfl⟩:=r
  exact call_range_1 (range_it I1 (by omega) (by omega) q1 q2 (by simpa using q))
def tFor (wi:TI)(g:TG)(tb:TS):TS:=fun D σ H=>wi σ H fun J H1=>∃W:Nat→Nat→St→Hp→Prop,(∃m,W 0 m σ H1)∧∀i m σ H,W i m σ H→
 (J.stop i H∧D.nx σ H)∨(J.go i H∧∃N:St→Hp→Prop,(∀σ' H',N σ' H'→∃m',m'<m∧W (i+1) m' σ' H')∧∀x H',J.yld i H x H'→g x σ H' fun σ2 H2=>tb (D.lp N) σ2 H2)
def pinsAt (fp:List Addr)(h:Heap):List (Addr×Obj):=fp.filterMap fun b=>(h.get? b).map fun o=>(b,o)
theorem mem_pinsAt {fp:List Addr}{h:Heap}{b:Addr}{o:Obj}(hb:b∈fp)(e:h.get? b=some o):(b,o)∈pinsAt fp h:=List.mem_filterMap.mpr ⟨b,hb,by rw[e];rfl⟩
theorem of_pinsAt {fp:List Addr}{h:Heap}{p:Addr×Obj}(hp:p∈pinsAt fp h):p.1∈fp∧h.get? p.1=some p.2:=by
 obtain⟨b,hb,e⟩:=List.mem_filterMap.mp hp
 cases q:h.get? b with
 |none=>rw[q]at e;cases e
 |some o=>
  rw[q]at e
  have e':(b,o)=p:=Option.some.inj e
  subst e'
  exact⟨hb,q⟩
theorem Inv.pinned {pins:List (Addr×Obj)}{σ:St}{H:Hp}{s:Shared}{fp:List Addr}(I:Inv X pins σ H s)(hf:∀b∈fp,FpOk X pins H b)(ho:∀b∈fp,∃o,s.heap.get? b=some o∧∀v,o.data≠.cell v):Inv X (pins++pinsAt fp s.heap) σ H s :=
 I.pins_of fun p hp=>(List.mem_append.mp hp).elim (fun z=>I.pin p (List.mem_append_right _ z)) fun z=>by
  obtain⟨hb,e⟩:=of_pinsAt z
  obtain⟨f0,f1,f2,_⟩:=hf p.1 hb
  obtain⟨o,e',d⟩:=ho p.1 hb
  rw[e]at e';cases e'
  exact⟨e,f0,f1,f2,d⟩
theorem Inv.unpinned {pins pl:List (Addr×Obj)}{σ:St}{H:Hp}{s:Shared}(I:Inv X (pins++pl) σ H s):Inv X pins σ H s:=I.pins_of fun p hp=>I.pin p (List.mem_append_right _ (List.mem_append_left _ hp))
theorem ps_for {iter:Expr}{body:List Stmt}{wi:TI}{g:TG}{tb:TS}{pos:Pos}(hp:PassesOwn (model X.prog X.w) X.A X.env X.xe)(hc:X.calm=true)(hi:PI X tg iter wi)(hg:PG X tg g)(hb:PSs X body tb)
  (hs:∀x,foldedSetIterable iter X.env x=pure x:=by intro _;rfl):PS X (.For tg iter body [] pos) (tFor wi g tb):=by
 intro pins s σ H D I h
 refine wpAny_For (thn (hi pins s σ H _ I h) fun v s1 h1=>thn h1 fun itv s2 h2=>?_) hs
 obtain⟨it,fp,tn,J,H2,e,I2,T,st2,f2,W,⟨m0,w0⟩,turn⟩:=h2
 subst e
 have stat:∀{H':Hp},(∀b∈fp,H' b=none)→∀b∈fp,FpOk X pins H' b:=fun hn b hb=>⟨hn b hb,(f2 b hb).2⟩
 refine codeAny_forLoop_any (fun n s'=>∃i σ' H',Inv X pins σ' H' s'∧tn i s'.heap∧(∀b∈fp,H' b=none)∧W i n σ' H') ?_ m0 ⟨0,σ,H2,I2,st2,fun b hb=>(f2 b hb).1,w0⟩
 rintro n s3 ⟨i,σ3,H3,I3,st3,fr3,w3⟩
 rcases turn i n σ3 H3 w3 with ⟨stop,qn⟩|⟨go,N,hN,step⟩
 ·refine wpAny_passesOwn hp (thn (T.done X rfl rfl rfl hc i pins s3 σ3 H3 X.xe I3 (stat fr3) st3 stop) fun r s4 ⟨hr,I4⟩=>?_)
  subst hr
  exact wpAny_execs_nil ⟨σ3,H3,I4,qn⟩
 ·refine wpAny_passesOwn hp (thn (T.item X rfl rfl rfl hc i pins s3 σ3 H3 X.xe I3 (stat fr3) st3 go) fun r s4 ⟨u,hr,h4⟩=>?_)
  subst hr
  refine wpAny_passesOwn hp (thn h4 fun _ s5 ⟨x,H5,I5,r5,y5,st5,fr5⟩=>?_)
  have I5':=I5.pinned (stat fr5) (T.obj _ _ st5)
  refine wpAny_passesOwn hp (thn (hg _ s5 σ3 H5 x u _ I5' r5 (step x H5 y5)) fun _ s6 ⟨σ6,H6,I6,q6⟩=>?_)
  refine wpAny_passesOwn hp (thn (hb _ s6 σ6 H6 _ I6 q6) fun f s7 q7=>?_)
  have again:∀{σ7:St} {H7:Hp},Inv X (pins++pinsAt fp s5.heap) σ7 H7 s7→N σ7 H7→∃m,m<n∧∃i σ' H',Inv X pins σ' H' s7∧tn i s7.heap∧(∀b∈fp,H' b=none)∧W i m σ' H':=fun{σ7 H7} I7 n7=>by
   obtain⟨m',hm,w7⟩:=hN σ7 H7 n7
   refine⟨m',hm,i+1,σ7,H7,I7.unpinned,T.keep _ _ _ st5 fun b hb o e=>(I7.pin (b,o) (List.mem_append_right _ (List.mem_append_right _ (mem_pinsAt hb e)))).1,fun b hb=>?_,w7⟩
   obtain⟨o,e,d⟩:=T.obj _ _ st5 b hb
   exact(I7.pin (b,o) (List.mem_append_right _ (List.mem_append_right _ (mem_pinsAt hb e)))).2.1
  cases f with
  |next=>obtain⟨σ7,H7,I7,n7⟩:=q7;exact again I7 n7
  |cont=>obtain⟨σ7,H7,I7,n7⟩:=q7;exact again I7 n7
  |brk=>obtain⟨σ7,H7,I7,q7⟩:=q7;exact⟨σ7,H7,I7.unpinned,q7⟩
  |ret v=>obtain⟨x7,σ7,H7,I7,r7,q7⟩:=q7;exact⟨x7,σ7,H7,I7.unpinned,r7,q7⟩
end
theorem for_list {K:PySem.W.Frag}{a:Addr}{xs:List V}{g:TG}{tb:TS}{D:Ends}{σ:St}{H:Hp}(Pv:Nat→St→Hp→Prop)(h0:Pv 0 σ H)(hl:∀i σ H,i≤xs.length→Pv i σ H→SqL K H a xs)
  (hs:∀i x σ H,xs[i]?=some x→Pv i σ H→g x σ H fun σ2 H2=>tb (D.lp (Pv (i+1))) σ2 H2) (hd:∀σ H,Pv xs.length σ H→D.nx σ H):
  ∃W:Nat→Nat→St→Hp→Prop,(∃m,W 0 m σ H)∧∀i m σ H,W i m σ H→
   ((Itl K a).stop i H∧D.nx σ H)∨((Itl K a).go i H∧∃N:St→Hp→Prop,(∀σ' H',N σ' H'→∃m',m'<m∧W (i+1) m' σ' H')∧∀x H',(Itl K a).yld i H x H'→g x σ H' fun σ2 H2=>tb (D.lp N) σ2 H2):=by
 refine⟨fun i m σ H=>m=xs.length-i∧i≤xs.length∧Pv i σ H,⟨xs.length,by simp,Nat.zero_le _,h0⟩,?_⟩
 rintro i m σ H ⟨rfl,hi,p⟩
 have q:=hl i σ H hi p
 by_cases hlt:i<xs.length
 ·refine .inr ⟨⟨xs,xs[i],q,by simp[hlt]⟩,Pv (i+1),fun σ' H' p'=>⟨xs.length-(i+1),by omega,rfl,hlt,p'⟩,fun x H' y=>?_⟩
  obtain⟨e,y⟩:=y
  subst e
  exact hs i x σ _ (y xs q) p
 ·have e:i=xs.length:=by exact Nat.le_antisymm hi (Nat.not_lt.mp hlt)
  subst e
  exact .inl ⟨⟨xs,q,Nat.le_refl _⟩,hd σ H p⟩
theorem for_tup {K:PySem.W.Frag}{a:Addr}{xs:List V}{g:TG}{tb:TS}{D:Ends}{σ:St}{H:Hp}(Pv:Nat→St→Hp→Prop)(h0:Pv 0 σ H)(hl:∀i σ H,i≤xs.length→Pv i σ H→SqT K H a xs)
  (hs:∀i x σ H,xs[i]?=some x→Pv i σ H→g x σ H fun σ2 H2=>tb (D.lp (Pv (i+1))) σ2 H2) (hd:∀σ H,Pv xs.length σ H→D.nx σ H):
  ∃W:Nat→Nat→St→Hp→Prop,(∃m,W 0 m σ H)∧∀i m σ H,W i m σ H→
   ((Itt K a).stop i H∧D.nx σ H)∨((Itt K a).go i H∧∃N:St→Hp→Prop,(∀σ' H',N σ' H'→∃m',m'<m∧W (i+1) m' σ' H')∧∀x H',(Itt K a).yld i H x H'→g x σ H' fun σ2 H2=>tb (D.lp N) σ2 H2):=by
 refine⟨fun i m σ H=>m=xs.length-i∧i≤xs.length∧Pv i σ H,⟨xs.length,by simp,Nat.zero_le _,h0⟩,?_⟩
 rintro i m σ H ⟨rfl,hi,p⟩
 have q:=hl i σ H hi p
 by_cases hlt:i<xs.length
 ·refine .inr ⟨⟨xs,xs[i],q,by simp[hlt]⟩,Pv (i+1),fun σ' H' p'=>⟨xs.length-(i+1),by omega,rfl,hlt,p'⟩,fun x H' y=>?_⟩
  obtain⟨e,y⟩:=y
  subst e
  exact hs i x σ _ (y xs q) p
 ·have e:i=xs.length:=by exact Nat.le_antisymm hi (Nat.not_lt.mp hlt)
  subst e
  exact .inl ⟨⟨xs,q,Nat.le_refl _⟩,hd σ H p⟩
theorem for_range {lo:Int}{n:Nat}{g:TG}{tb:TS}{D:Ends}{σ:St}{H:Hp}(Pv:Nat→St→Hp→Prop)(h0:Pv 0 σ H)
  (hs:∀i σ H,i<n→Pv i σ H→g (.int (lo+i)) σ H fun σ2 H2=>tb (D.lp (Pv (i+1))) σ2 H2) (hd:∀σ H,Pv n σ H→D.nx σ H):
  ∃W:Nat→Nat→St→Hp→Prop,(∃m,W 0 m σ H)∧∀i m σ H,W i m σ H→
   ((Itr lo n).stop i H∧D.nx σ H)∨((Itr lo n).go i H∧∃N:St→Hp→Prop,(∀σ' H',N σ' H'→∃m',m'<m∧W (i+1) m' σ' H')∧∀x H',(Itr lo n).yld i H x H'→g x σ H' fun σ2 H2=>tb (D.lp N) σ2 H2):=by
 refine⟨fun i m σ H=>m=n-i∧i≤n∧Pv i σ H,⟨n,by simp,Nat.zero_le _,h0⟩,?_⟩
 rintro i m σ H ⟨rfl,hi,p⟩
 by_cases hlt:i<n
 ·refine .inr ⟨hlt,Pv (i+1),fun σ' H' p'=>⟨n-(i+1),by omega,rfl,hlt,p'⟩,fun x H' y=>?_⟩
  obtain⟨e,y⟩:=y
  subst e y
  exact hs i σ _ hlt p
 ·have e:i=n:=by exact Nat.le_antisymm hi (Nat.not_lt.mp hlt)
  subst e
  exact .inl ⟨Nat.le_refl _,hd σ H p⟩
abbrev R2:=V→V→Hp→VK→Prop
def OpR (X:Cx)(f:Value→Value→Sem Value)(r:R2):Prop :=
 ∀(pins:List (Addr×Obj)) (s:Shared) (σ:St) (H:Hp) (x y:V) (v u:Value) (Q:VK),Inv X pins σ H s→RelV x v→RelV y u→r x y H Q→
  wpAny (model X.prog X.w) X.A (f v u) (EP X pins σ Q) X.xe s
def UnR (X:Cx)(f:Value→Sem Value)(r:V→Hp→VK→Prop):Prop :=
 ∀(pins:List (Addr×Obj)) (s:Shared) (σ:St) (H:Hp) (x:V) (v:Value) (Q:VK),Inv X pins σ H s→RelV x v→r x H Q→
  wpAny (model X.prog X.w) X.A (f v) (EP X pins σ Q) X.xe s
def CallR (X:Cx)(f:Value)(r:List V→Hp→VK→Prop):Prop :=
 ∀(pins:List (Addr×Obj)) (s:Shared) (σ:St) (H:Hp) (xs:List V) (us:List Value) (Q:VK),Inv X pins σ H s→Vals xs us→r xs H Q→
  wpAny (model X.prog X.w) X.A (call f us) (EP X pins σ Q) X.xe s
def tOp (r:R2)(ta tb:TE):TE:=fun σ H Q=>ta σ H fun x H1=>tb σ H1 fun y H2=>r x y H2 Q
def tUn (r:V→Hp→VK→Prop)(ta:TE):TE:=fun σ H Q=>ta σ H fun x H1=>r x H1 Q
inductive rI_ (C:Int→Int→Prop)(g:Int→Int→V)(x:V)(y:V)(H:Hp)(Q:VK):Prop where
 |mk (i) (j):(x=.int i)→(y=.int j)→(C i j)→(Q (g i j) H)→rI_ C g x y H Q
def rI (C:Int→Int→Prop)(g:Int→Int→V):R2:=rI_ C g
inductive rI0_ (g:Int→Int→V)(x:V)(y:V)(H:Hp)(Q:VK):Prop where
 |mk (i) (j):(x=.int i)→(y=.int j)→(Q (g i j) H)→rI0_ g x y H Q
def rI0 (g:Int→Int→V):R2:=rI0_ g
def rU (g:Int→V):V→Hp→VK→Prop:=fun x H Q=>∃i,x=.int i∧Q (g i) H
section
variable {X:Cx}{a b c:Expr}{ta tb tc:TE}{pos:Pos}
theorem binT (ha:PE X a ta)(hb:PE X b tb){pins:List (Addr×Obj)}{s:Shared}{σ:St}{H:Hp}{R:V→V→Hp→Prop}(I:Inv X pins σ H s)
  (h:ta σ H fun x H1=>tb σ H1 fun y H2=>R x y H2) {Q:Value→Shared→Prop} {f:Value→Value→Sem Value}
  (hf:∀v u s2 x y H2,Inv X pins σ H2 s2→RelV x v→RelV y u→R x y H2→wpAny (model X.prog X.w) X.A (f v u) Q X.xe s2):
  wpAny (model X.prog X.w) X.A (eval a X.env) (fun v s₁=>wpAny (model X.prog X.w) X.A (eval b X.env) (fun u s₂=>wpAny (model X.prog X.w) X.A (f v u) Q X.xe s₂) X.xe s₁) X.xe s:=by
 refine thn (ha pins s σ H _ I h) fun v s1 ⟨x,H1,I1,r1,q1⟩=>?_
 refine thn (hb pins s1 σ H1 _ I1 q1) fun u s2 ⟨y,H2,I2,r2,q2⟩=>?_
 exact hf v u s2 x y H2 I2 r1 r2 q2
theorem pe_op {op:Operator}{r:R2}(ho:OpR X (binaryOp op) r)(ha:PE X a ta)(hb:PE X b tb):PE X (.BinOp a op b pos) (tOp r ta tb):=by
 intro pins s σ H Q I h
 exact wpAny_BinOp (binT ha hb I h fun v u s2 x y H2 I2 rx ry q=>ho pins s2 σ H2 x y v u Q I2 rx ry q)
theorem pe_un {op:UnaryOp}{r:V→Hp→VK→Prop}(ho:UnR X (unaryOp op) r)(ha:PE X a ta):PE X (.UnaryOp op a pos) (tUn r ta):=by
 intro pins s σ H Q I h
 exact UnaryOp_ (thn (ha pins s σ H _ I h) fun v s1 ⟨x,H1,I1,r1,q1⟩=>ho pins s1 σ H1 x v Q I1 r1 q1)
theorem opI {f:Value→Value→Sem Value}{C:Int→Int→Prop}{g:Int→Int→Int}
  (rule:∀(i j:Int) (t u:Tok) (s:Shared) (Q:Value→Shared→Prop) (E:Value→Shared→Prop),C i j→Q (.int (g i j) s.toks) {s with toks:=s.toks+1}→wpAny (model X.prog X.w) X.A (f (.int i t) (.int j u)) Q E s):
  OpR X f (rI C fun i j=>.int (g i j)):=by
 intro pins s σ H x y v u Q I rx ry h
 obtain⟨i,j,rfl,rfl,hc,q⟩:=h
 obtain⟨t,rfl⟩:=rx
 obtain⟨t',rfl⟩:=ry
 exact rule i j t t' s _ _ hc ⟨.int (g i j),H,I.tok _,⟨_,rfl⟩,q⟩
theorem opI0 {f:Value→Value→Sem Value}{g:Int→Int→Int}
  (rule:∀(i j:Int) (t u:Tok) (s:Shared) (Q:Value→Shared→Prop) (E:Value→Shared→Prop),Q (.int (g i j) s.toks) {s with toks:=s.toks+1}→wpAny (model X.prog X.w) X.A (f (.int i t) (.int j u)) Q E s):
  OpR X f (rI0 fun i j=>.int (g i j)):=by
 intro pins s σ H x y v u Q I rx ry h
 obtain⟨i,j,rfl,rfl,q⟩:=h
 obtain⟨t,rfl⟩:=rx
 obtain⟨t',rfl⟩:=ry
 exact rule i j t t' s _ _ ⟨.int (g i j),H,I.tok _,⟨_,rfl⟩,q⟩
theorem opB0 {f:Value→Value→Sem Value}{g:Int→Int→Bool}
  (rule:∀(i j:Int) (t u:Tok) (s:Shared) (Q:Value→Shared→Prop) (E:Value→Shared→Prop),Q (.bool (g i j)) s→wpAny (model X.prog X.w) X.A (f (.int i t) (.int j u)) Q E s):
  OpR X f (rI0 fun i j=>.bl (g i j)):=by
 intro pins s σ H x y v u Q I rx ry h
 obtain⟨i,j,rfl,rfl,q⟩:=h
 obtain⟨t,rfl⟩:=rx
 obtain⟨t',rfl⟩:=ry
 exact rule i j t t' s _ _ ⟨.bl (g i j),H,I,rfl,q⟩
def CDiv (i j:Int):Prop:=0<j∧j<1073741824
def CPow (i j:Int):Prop:=0≤j∧j≤1000000∧i.natAbs<2^64
def CMul (i j:Int):Prop:=(-(2^64)<i∧i<2^64)∨(-(2^64)<j∧j<2^64)
theorem CMul.ok {i j:Int}(h:CMul i j):IntMulOk i j:=by
 rcases h with ⟨h1,h2⟩|⟨h1,h2⟩
 ·exact .of_left (intBits_le_64 h1 h2)
 ·exact .of_right (intBits_le_64 h1 h2)
theorem op_add:OpR X (binaryOp .Add) (rI0 fun i j=>.int (i+j)):=opI0 fun _ _ _ _ _ _ _ q=>add_int q
theorem op_sub:OpR X (binaryOp .Sub) (rI0 fun i j=>.int (i-j)):=opI0 fun _ _ _ _ _ _ _ q=>sub_int q
theorem op_mul:OpR X (binaryOp .Mult) (rI CMul fun i j=>.int (i*j)):=opI fun _ _ _ _ _ _ _ hc q=>mul_int q hc.ok
theorem op_fdiv:OpR X (binaryOp .FloorDiv) (rI CDiv fun i j=>.int (i / j)):=opI fun i j _ _ _ _ _ hc q=>by
 have h1:(0:Int)<j:=hc.1
 have h2:j<1073741824:=hc.2
 exact floordiv_int (by omega) (by rw[Int.fdiv_eq_ediv_of_nonneg i (by omega)];exact q) (.inl (PyProof.noPylong_small (by omega)))
theorem op_mod:OpR X (binaryOp .Mod) (rI (fun _ j=>0<j) fun i j=>.int (i%j)):=opI fun i j _ _ _ _ _ hc q=>by
 have h1:(0:Int)<j:=hc
 exact mod_int' (by omega) (by rw[Int.fmod_eq_emod_of_nonneg i (by omega)];exact q)
theorem op_pow:OpR X (binaryOp .Pow) (rI CPow fun i j=>.int (i^j.toNat)):=opI fun _ _ _ _ _ _ _ hc q=>pow_int_small hc.1 hc.2.1 hc.2.2 q
theorem unI {f:Value→Sem Value}{g:Int→Int}
  (rule:∀(i:Int) (t:Tok) (s:Shared) (Q:Value→Shared→Prop) (E:Value→Shared→Prop),Q (.int (g i) s.toks) {s with toks:=s.toks+1}→wpAny (model X.prog X.w) X.A (f (.int i t)) Q E s):
  UnR X f (rU fun i=>.int (g i)):=by
 intro pins s σ H x v Q I rx h
 obtain⟨i,rfl,q⟩:=h
 obtain⟨t,rfl⟩:=rx
 exact rule i t s _ _ ⟨.int (g i),H,I.tok _,⟨_,rfl⟩,q⟩
theorem un_neg:UnR X (unaryOp .USub) (rU fun i=>.int (-i)):=unI fun _ _ _ _ _ q=>neg_int q
end
def scal:V→V→Bool
 |.non, .non=>true|.non, .int _=>true|.int _, .non=>true|.non, .bl _=>true|.bl _, .non=>true|.non, .str _=>true|.str _, .non=>true
 |.int _, .int _=>true|.bl _, .bl _=>true|.str _, .str _=>true|.byt _, .byt _=>true
 |.int _, .str _=>true|.str _, .int _=>true|.bl _, .str _=>true|.str _, .bl _=>true
 |_,_=>false
inductive rEq_ (x:V)(y:V)(H:Hp)(Q:VK):Prop where
 |mk:(scal x y=true)→(Q (.bl (decide (x=y))) H)→rEq_ x y H Q
def rEq:R2:=rEq_
inductive rNe_ (x:V)(y:V)(H:Hp)(Q:VK):Prop where
 |mk:(scal x y=true)→(Q (.bl (!decide (x=y))) H)→rNe_ x y H Q
def rNe:R2:=rNe_
theorem dec_int {i j:Int}:decide (V.int i=V.int j)=(i==j):=by
 rw[Bool.eq_iff_iff]
 simp
theorem dec_bl {i j:Bool}:decide (V.bl i=V.bl j)=(i==j):=by
 rw[Bool.eq_iff_iff]
 simp
theorem dec_str {i j:Str}:decide (V.str i=V.str j)=(i==j):=by
 rw[Bool.eq_iff_iff]
 simp
theorem dec_byt {i j:Array UInt8}:decide (V.byt i=V.byt j)=(i.toList==j.toList):=by
 rw[Bool.eq_iff_iff]
 cases i
 cases j
 simp
section
variable {X:Cx}{a b c:Expr}{ta tb tc:TE}{pos:Pos}
theorem fin_bl {pins:List (Addr×Obj)}{σ:St}{H:Hp}{s:Shared}{Q:VK}{k k':Bool}(I:Inv X pins σ H s)(q:Q (.bl k) H)(e:k=k'):EP X pins σ Q (.bool k') s:=by
 subst e
 exact⟨.bl k,H,I,rfl,q⟩
theorem op_eq:OpR X (compareOp .Eq) rEq:=by
 intro pins s σ H x y v u Q I rx ry h
 obtain⟨hs,q⟩:=h
 cases x with
 |non=>
  cases rx
  cases y with
  |non=>cases ry;exact PySem.EqNone.eq_none_none (fin_bl I q (by simp))
  |bl j=>cases ry;exact PySem.EqNone.eq_none_bool (fin_bl I q (by simp))
  |int j=>obtain⟨t',rfl⟩:=ry;exact PySem.EqNone.eq_none_int (fin_bl I q (by simp))
  |str j=>obtain⟨t',rfl⟩:=ry;exact PySem.EqNone.eq_none_str (fin_bl I q (by simp))
  |_=>exact absurd (show false=true from hs) Bool.false_ne_true
 |bl i=>
  cases rx
  cases y with
  |non=>cases ry;exact PySem.EqNone.eq_bool_none (fin_bl I q (by simp))
  |bl j=>cases ry;exact eq_bool (fin_bl I q dec_bl)
  |str j=>obtain⟨t',rfl⟩:=ry;exact PySem.EqMixed.eq_bool_str (fin_bl I q (by simp))
  |_=>exact absurd (show false=true from hs) Bool.false_ne_true
 |int i=>
  obtain⟨t,rfl⟩:=rx
  cases y with
  |non=>cases ry;exact PySem.EqNone.eq_int_none (fin_bl I q (by simp))
  |int j=>obtain⟨t',rfl⟩:=ry;exact eq_int (fin_bl I q dec_int)
  |str j=>obtain⟨t',rfl⟩:=ry;exact PySem.EqMixed.eq_int_str (fin_bl I q (by simp))
  |_=>exact absurd (show false=true from hs) Bool.false_ne_true
 |str i=>
  obtain⟨t,rfl⟩:=rx
  cases y with
  |non=>cases ry;exact PySem.EqNone.eq_str_none (fin_bl I q (by simp))
  |bl j=>cases ry;exact PySem.EqMixed.eq_str_bool (fin_bl I q (by simp))
  |int j=>obtain⟨t',rfl⟩:=ry;exact PySem.EqMixed.eq_str_int (fin_bl I q (by simp))
  |str j=>obtain⟨t',rfl⟩:=ry;exact eq_str (fin_bl I q dec_str)
  |_=>exact absurd (show false=true from hs) Bool.false_ne_true
 |byt i=>
  obtain⟨t,rfl⟩:=rx
  cases y with
  |byt j=>obtain⟨t',rfl⟩:=ry;exact PySem.W.eq_bytes (fin_bl I q dec_byt)
  |_=>exact absurd (show false=true from hs) Bool.false_ne_true
 |_=>cases y<;>exact absurd (show false=true from hs) Bool.false_ne_true
theorem op_ne:OpR X (compareOp .NotEq) rNe:=by
 intro pins s σ H x y v u Q I rx ry h
 obtain⟨hs,q⟩:=h
 cases x with
 |non=>
  cases rx
  cases y with
  |non=>cases ry;exact PySem.EqNone.ne_none_none (fin_bl I q (by simp))
  |bl j=>cases ry;exact PySem.EqNone.ne_none_bool (fin_bl I q (by simp))
  |int j=>obtain⟨t',rfl⟩:=ry;exact PySem.EqNone.ne_none_int (fin_bl I q (by simp))
  |str j=>obtain⟨t',rfl⟩:=ry;exact PySem.EqNone.ne_none_str (fin_bl I q (by simp))
  |_=>exact absurd (show false=true from hs) Bool.false_ne_true
 |bl i=>
  cases rx
  cases y with
  |non=>cases ry;exact PySem.EqNone.ne_bool_none (fin_bl I q (by simp))
  |bl j=>cases ry;exact ne_bool (fin_bl I q (congrArg not dec_bl))
  |str j=>obtain⟨t',rfl⟩:=ry;exact PySem.EqMixed.ne_bool_str (fin_bl I q (by simp))
  |_=>exact absurd (show false=true from hs) Bool.false_ne_true
 |int i=>
  obtain⟨t,rfl⟩:=rx
  cases y with
  |non=>cases ry;exact PySem.EqNone.ne_int_none (fin_bl I q (by simp))
  |int j=>obtain⟨t',rfl⟩:=ry;exact ne_int (fin_bl I q (congrArg not dec_int))
  |str j=>obtain⟨t',rfl⟩:=ry;exact PySem.EqMixed.ne_int_str (fin_bl I q (by simp))
  |_=>exact absurd (show false=true from hs) Bool.false_ne_true
 |str i=>
  obtain⟨t,rfl⟩:=rx
  cases y with
  |non=>cases ry;exact PySem.EqNone.ne_str_none (fin_bl I q (by simp))
  |bl j=>cases ry;exact PySem.EqMixed.ne_str_bool (fin_bl I q (by simp))
  |int j=>obtain⟨t',rfl⟩:=ry;exact PySem.EqMixed.ne_str_int (fin_bl I q (by simp))
  |str j=>obtain⟨t',rfl⟩:=ry;exact ne_str (fin_bl I q (congrArg not dec_str))
  |_=>exact absurd (show false=true from hs) Bool.false_ne_true
 |byt i=>
  obtain⟨t,rfl⟩:=rx
  cases y with
  |byt j=>obtain⟨t',rfl⟩:=ry;exact PySem.W.ne_bytes (fin_bl I q (congrArg not dec_byt))
  |_=>exact absurd (show false=true from hs) Bool.false_ne_true
 |_=>cases y<;>exact absurd (show false=true from hs) Bool.false_ne_true
theorem op_lt:OpR X (compareOp .Lt) (rI0 fun i j=>.bl (decide (i<j))):=opB0 fun _ _ _ _ _ _ _ q=>lt_int q
theorem op_le:OpR X (compareOp .LtE) (rI0 fun i j=>.bl (decide (i≤j))):=opB0 fun _ _ _ _ _ _ _ q=>le_int q
theorem op_gt:OpR X (compareOp .Gt) (rI0 fun i j=>.bl (decide (j<i))):=opB0 fun _ _ _ _ _ _ _ q=>gt_int q
theorem op_ge:OpR X (compareOp .GtE) (rI0 fun i j=>.bl (decide (j≤i))):=opB0 fun _ _ _ _ _ _ _ q=>ge_int q
theorem op_in_str:OpR X (compareOp .In) (fun x y H Q=>∃i j,x=.str i∧y=.str j∧Q (.bl (!(Builtin.Str.occurrences j i 0 j.length 1).isEmpty)) H):=by
 intro pins s σ H x y v u Q I rx ry h
 obtain⟨i,j,rfl,rfl,q⟩:=h
 obtain⟨t,rfl⟩:=rx
 obtain⟨t',rfl⟩:=ry
 exact in_str (fin_bl I q rfl)
theorem op_notin_str:OpR X (compareOp .NotIn) (fun x y H Q=>∃i j,x=.str i∧y=.str j∧Q (.bl (!(!(Builtin.Str.occurrences j i 0 j.length 1).isEmpty))) H):=by
 intro pins s σ H x y v u Q I rx ry h
 obtain⟨i,j,rfl,rfl,q⟩:=h
 obtain⟨t,rfl⟩:=rx
 obtain⟨t',rfl⟩:=ry
 exact notIn_str (fin_bl I q rfl)
theorem nomark (b:Expr){op:CmpOp}(h:op≠.In:=by decide)(h2:op≠.NotIn:=by decide):behindInMarks op b=false:=by
 have e1:(op==CmpOp.In)=false:=by cases op<;>first|rfl|exact absurd rfl h
 have e2:(op==CmpOp.NotIn)=false:=by cases op<;>first|rfl|exact absurd rfl h2
 cases b<;>simp[behindInMarks,e1,e2]
theorem pe_cmpR {op:CmpOp}{r:R2}(ho:OpR X (compareOp op) r)(ha:PE X a ta)(hb:PE X b tb)(hm:behindInMarks op b=false:=by exact nomark _):PE X (.Compare a [op] [b] pos) (tOp r ta tb):=by
 intro pins s σ H Q I h
 exact wpAny_Compare1 (binT ha hb I h fun v u s2 x y H2 I2 rx ry q=>ho pins s2 σ H2 x y v u Q I2 rx ry q) hm
inductive tTest_ (Q:Bool→Hp→Prop)(x:V)(H':Hp):Prop where
 |mk (k):(x=.bl k)→(Q k H')→tTest_ Q x H'
def tTest (t:TE):TT:=fun σ H Q=>t σ H (tTest_ Q)
theorem pt_cmpR {op:CmpOp}{r:R2}(ho:OpR X (compareOp op) r)(ha:PE X a ta)(hb:PE X b tb)(hm:behindInMarks op b=false:=by exact nomark _):PT X (.Compare a [op] [b] pos) (tTest (tOp r ta tb)):=by
 intro pins s σ H Q I h
 refine wpAny_isTrue_Compare1 (thn (ha pins s σ H _ I h) fun v s1 ⟨x,H1,I1,r1,q1⟩=>thn (hb pins s1 σ H1 _ I1 q1) fun u s2 ⟨y,H2,I2,r2,q2⟩=>
  thn (ho pins s2 σ H2 x y v u _ I2 r1 r2 q2) fun c s3 ⟨z,H3,I3,r3,k,e,q3⟩=>?_) hm
 subst e
 cases r3
 exact wpAny_truthy_bool ⟨H3,I3,q3⟩
def tChain (r r':R2)(ta tb tc:TE):TE:=fun σ H Q=>ta σ H fun x H1=>tb σ H1 fun y H2=>r x y H2 fun z H3=>∃k,z=.bl k∧
 (if k=true then tc σ H3 fun w' H4=>r' y w' H4 Q else Q (.bl false) H3)
theorem pe_chain {op op':CmpOp}{r r':R2}(ho:OpR X (compareOp op) r)(ho':OpR X (compareOp op') r')(ha:PE X a ta)(hb:PE X b tb)(hc:PE X c tc)
  (hm:lastMarks [op,op'] [b,c]=false:=by with_unfolding_all rfl):PE X (.Compare a [op,op'] [b,c] pos) (tChain r r' ta tb tc):=by
 intro pins s σ H Q I h
 refine Compare_chain (thn (ha pins s σ H _ I h) fun v s1 ⟨x,H1,I1,r1,q1⟩=>chain_link (thn (hb pins s1 σ H1 _ I1 q1) fun u s2 ⟨y,H2,I2,r2,q2⟩=>
  thn (ho pins s2 σ H2 x y v u _ I2 r1 r2 q2) fun d s3 ⟨z,H3,I3,r3,k,e,q3⟩=>?_)) hm
 subst e
 cases r3
 refine wpAny_truthy_bool ?_
 cases k with
 |false=>exact ite_ff ⟨.bl false,H3,I3,rfl,q3⟩
 |true=>exact ite_tt (chain_last (thn (hc pins s3 σ H3 _ I3 q3) fun w' s4 ⟨z',H4,I4,r4,q4⟩=>ho' pins s4 σ H4 y z' u w' Q I4 r2 r4 q4))
theorem pt_chain {op op':CmpOp}{r r':R2}(ho:OpR X (compareOp op) r)(ho':OpR X (compareOp op') r')(ha:PE X a ta)(hb:PE X b tb)(hc:PE X c tc)
  (hm:lastMarks [op,op'] [b,c]=false:=by with_unfolding_all rfl):PT X (.Compare a [op,op'] [b,c] pos) (tTest (tChain r r' ta tb tc)):=by
 intro pins s σ H Q I h
 refine isTrue_chain (thn (ha pins s σ H _ I h) fun v s1 ⟨x,H1,I1,r1,q1⟩=>test_link (thn (hb pins s1 σ H1 _ I1 q1) fun u s2 ⟨y,H2,I2,r2,q2⟩=>
  thn (ho pins s2 σ H2 x y v u _ I2 r1 r2 q2) fun d s3 ⟨z,H3,I3,r3,k,e,q3⟩=>?_)) hm
 subst e
 cases r3
 refine wpAny_truthy_bool ?_
 cases k with
 |false=>
  obtain⟨k',e',q'⟩:=q3
  cases e'
  exact ite_ff ⟨H3,I3,q'⟩
 |true=>
  refine ite_tt (test_last (thn (hc pins s3 σ H3 _ I3 q3) fun w' s4 ⟨z',H4,I4,r4,q4⟩=>thn (ho' pins s4 σ H4 y z' u w' _ I4 r2 r4 q4) fun d' s5 ⟨z2,H5,I5,r5,k2,e2,q5⟩=>?_))
  subst e2
  cases r5
  exact wpAny_truthy_bool ⟨H5,I5,q5⟩
theorem line63:(sizeLine:Nat)<2^63:=by rw[sizeLine_eq];decide
inductive r_op_add_str (x:V)(y:V)(H:Hp)(Q:VK):Prop where
 |mk (i) (j):(x=.str i)→(y=.str j)→(i.length+j.length≤sizeLine)→(Q (.str (i++j)) H)→r_op_add_str x y H Q
theorem op_add_str:OpR X (binaryOp .Add) r_op_add_str:=by
 intro pins s σ H x y v u Q I rx ry h
 obtain⟨i,j,rfl,rfl,hz,q⟩:=h
 obtain⟨t,rfl⟩:=rx
 obtain⟨t',rfl⟩:=ry
 exact add_str (fun t' tk=>⟨.str (i++j),H,I.tok _,⟨_,rfl⟩,q⟩) hz
theorem vals1 {x:V}{us:List Value}(r:Vals [x] us):∃u,us=[u]∧RelV x u:=by
 cases r with
 |cons r1 r2=>cases r2;exact⟨_,rfl,r1⟩
theorem vals2 {x y:V}{us:List Value}(r:Vals [x,y] us):∃u w',us=[u,w']∧RelV x u∧RelV y w':=by
 cases r with
 |cons r1 r2=>
  cases r2 with
  |cons r3 r4=>cases r4;exact⟨_,_,rfl,r1,r3⟩
theorem call_abs:CallR X (.builtin "abs") (fun xs H Q=>∃i,xs=[.int i]∧Q (.int (if i<0 then -i else i)) H):=by
 intro pins s σ H xs us Q I r h
 obtain⟨i,rfl,q⟩:=h
 obtain⟨u,rfl,t,rfl⟩:=vals1 r
 exact call_abs_int fun u tk=>⟨.int (if i<0 then -i else i),H,I.tok _,⟨_,rfl⟩,q⟩
theorem call_max2 (hc:X.calm=true):CallR X (.builtin "max") (fun xs H Q=>∃i j,xs=[.int i, .int j]∧Q (.int (if j>i then j else i)) H):=by
 intro pins s σ H xs us Q I r h
 obtain⟨i,j,rfl,q⟩:=h
 obtain⟨u,w',rfl,⟨t,rfl⟩,⟨t',rfl⟩⟩:=vals2 r
 refine max_two_ints (I.ok.hd hc) fun h' tk k=>⟨_,H,I.kept k,?_,q⟩
 by_cases hj:j>i
 ·rw[if_pos hj,if_pos hj];exact⟨_,rfl⟩
 ·rw[if_neg hj,if_neg hj];exact⟨_,rfl⟩
theorem call_min2 (hc:X.calm=true):CallR X (.builtin "min") (fun xs H Q=>∃i j,xs=[.int i, .int j]∧Q (.int (if j<i then j else i)) H):=by
 intro pins s σ H xs us Q I r h
 obtain⟨i,j,rfl,q⟩:=h
 obtain⟨u,w',rfl,⟨t,rfl⟩,⟨t',rfl⟩⟩:=vals2 r
 refine min_two_ints (I.ok.hd hc) fun h' tk k=>⟨_,H,I.kept k,?_,q⟩
 by_cases hj:j<i
 ·rw[if_pos hj,if_pos hj];exact⟨_,rfl⟩
 ·rw[if_neg hj,if_neg hj];exact⟨_,rfl⟩
theorem call_int1:CallR X (.type "int") (fun xs H Q=>(∃i,xs=[.int i]∧Q (.int i) H)∨∃k,xs=[.bl k]∧Q (.int (if k then 1 else 0)) H):=by
 intro pins s σ H xs us Q I r h
 rcases h with ⟨i,rfl,q⟩|⟨k,rfl,q⟩
 ·obtain⟨u,rfl,t,rfl⟩:=vals1 r
  exact call_int_int ⟨.int i,H,I,⟨_,rfl⟩,q⟩
 ·obtain⟨u,rfl,r1⟩:=vals1 r
  cases r1
  exact call_int_bool ⟨.int (if k then 1 else 0),H,I.tok _,⟨_,rfl⟩,q⟩
inductive r_call_str_int (xs:List V)(H:Hp)(Q:VK):Prop where
 |mk (i):(xs=[.int i])→(i.natAbs.log2<1920)→(Q (.str (toString i)) H)→r_call_str_int xs H Q
end
structure ObjM (h:Heap)(x dx C:Addr)(mA:Str→Option Value):Prop where
 obj:h.get? x=some (PySem.W.instObj C dx)
 ns:h.Ns1 dx mA
 ne:dx≠x
theorem lookIn_ns {h:Heap}{dx:Addr}{mA:Str→Option Value}(n:h.Ns1 dx mA):∃od,h.get? dx=some od∧∀name,PySem.W.lookIn name od=some (mA name):=by
 obtain⟨o,es,ep,ho,hd,hk,_,hm⟩:=n
 refine⟨o,ho,fun name=>?_⟩
 have e:=hm name
 unfold nsFind findBy at e
 rw[←Array.find?_toList]at e
 unfold PySem.W.lookIn
 rw[hd]
 dsimp only
 split
 ·rename_i y q
  rw[q]at e
  exact congrArg some e
 ·rename_i q
  rw[q]at e
  have a:es.toList.any (·.refKey)=false:=by
   rw[List.any_eq_false]
   intro y hy
   obtain⟨z,t,hkey⟩:=hk y (Array.mem_toList_iff.mp hy)
   simp[DictEntry.refKey,hkey]
  have a':¬es.toList.any (·.refKey)=true:=by rw[a];exact Bool.false_ne_true
  rw[if_neg a']
  exact congrArg some e
theorem ObjM.look {h:Heap}{x dx C:Addr}{mA:Str→Option Value}(I:ObjM h x dx C mA):∃od,PySem.W.InstAt h x (PySem.W.instObj C dx) C (some od)∧∀name,PySem.W.lookIn name od=some (mA name) :=
 let ⟨od,ho,hl⟩:=lookIn_ns I.ns
 ⟨od,⟨I.obj,rfl,rfl,ho⟩,hl⟩
section
variable {prog:Program}{w:World}{A:Around}{E:Value→Shared→Prop}{s:Shared}{K:PySem.W.Frag}{x dx C f:Addr}{mA:Str→Option Value}{name:Str}{v:Value}
theorem get_map {expr:Bool}{Q:Value→Shared→Prop}(X:K.In s.heap)(I:ObjM s.heap x dx C mA)(hg:PySem.W.plainGet K C name=true)(hh:PySem.W.hasDictIn K C=true)
  (ha:PySem.W.findIn K (.ref C) name=some none) (hv:mA name=some v) (hv':PySem.W.handedIn v=true) (h:Q v {s with toks:=s.toks+1}):
  wpAny (model prog w) A (getAttr (.ref x) name expr) Q E s:=by
 obtain⟨od,J,hl⟩:=I.look
 exact PySem.W.get_value X J (PySem.W.plainGet_of hg).1 (PySem.W.findObj_own hh ha rfl (by rw[hl,hv])) hv' h
theorem get_meth {pl:Sem Bool}{Q:Value×List Value→Shared→Prop}(X:K.In s.heap)(I:ObjM s.heap x dx C mA)(hg:PySem.W.plainGet K C name=true)
  (hf:PySem.W.findIn K (.ref C) name=some (some (.ref f))) (ht:PySem.W.isFn K (.ref f)=true) (hv:mA name=none) (h:Q (.ref f,[.ref x]) s):
  wpAny (model prog w) A (getMethod (.ref x) name pl) Q E s:=by
 obtain⟨od,J,hl⟩:=I.look
 exact PySem.W.method_fn X J (PySem.W.plainGet_of hg).1 (PySem.W.plainGet_of hg).2 hf (beq_iff_eq.mp ht) (by show(PySem.W.lookIn name od).map (·.isSome)=some false;rw[hl,hv];rfl) h
theorem set_map {ns:List Str}{Q:Unit→Shared→Prop}(X:K.In s.heap)(I:ObjM s.heap x dx C mA)
  (hs:PySem.W.findIn K (.ref C) "__setattr__"=some (some (.builtin "object.__setattr__"))) (hp:PySem.W.plainOver K C=true) (ht:PySem.W.takerIn K C name=some none) (hh:PySem.W.hasDictIn K C=true)
  (hw:PySem.Within mA ns) (hsz:ns.length≤sizeLine)
  (h:∀h',ObjM h' x dx C (fun y=>if y=name then some v else mA y)→Heap.SameBut dx s.heap h'→Q () {s with heap:=h',toks:=s.toks+2}):
  wpAny (model prog w) A (setAttr (.ref x) name v) Q E s:=by
 obtain⟨od,J,hl⟩:=I.look
 refine PySem.W.set_plain X J hs (PySem.W.osa_open (s:={s with toks:=s.toks+1}) (r:=none) X J hp ht fun b=>?_)
 obtain⟨cd,hc,hd'⟩:=PySem.W.any_some hh
 have hx:s.heap.get? x=some ⟨.ref C,some dx, .plain,#[]⟩:=I.obj
 refine wpAny_bind (wpAny_pure (wpAny_bind (wpAny_bind (wpAny_loadPart hx (wpAny_bind (PySem.W.Looks.here (s:={s with toks:=s.toks+1}) (PySem.W.looks_clsIn X hc) ?_))))))
 rw[hd']
 refine wpAny_pure (a:=some dx) (wpAny_bind (wpAny_pure (wpAny_bind ?_)))
 refine wpAny_nsSet1 (s:={s with toks:=s.toks+1}) I.ns fun h' hn2 hs2=>?_
 obtain⟨oD,esD,epD,hoD,hdD,hcD⟩:=hn2.count (PySem.Within.cons name v hw)
 refine wpAny_bind (wpAny_lookBehind hoD (by rw[hdD];exact pastItsLine_dict (Nat.le_trans hcD (by rw[List.length_cons];exact Nat.succ_le_succ hsz))) ?_)
 exact wpAny_pure (h _ ⟨(hs2.2 _ (Ne.symm I.ne)).trans I.obj,hn2,I.ne⟩ hs2)
theorem make_map {R:Result→Shared→Prop}{vs:List Value}{kw:List (Str×Value)}(X:K.In s.heap)(hm:PySem.W.makesIn K C=true)
  (hi:PySem.W.findIn K (.ref C) "__init__"=some (some (.ref f))) (hf:PySem.W.typeIn K (.ref f)=some (.type "function"))
  (h:codeAny (model prog w) (A.under (.builtin "type.__call__" ⟨.ref C::vs,kw⟩)) (.call (.ref f) ⟨.ref (s.heap.objs.size+1)::vs,kw⟩) (PySem.W.InitBack (s.heap.objs.size+1) R)
   {s with heap:=(s.heap.push PySem.W.emptyDict).push (PySem.W.instObj C s.heap.objs.size)}):
  codeAny (model prog w) A (.call (.ref C) ⟨vs,kw⟩) R s:=by
 obtain⟨hh,g,d,t,os⟩:=s
 exact PySem.W.make_core (PySem.W.makes_of X hm) (PySem.W.looks_findIn X hi) (fun self=>PySem.W.bind_fn X self hf) (.inl rfl) h
end
def putF (f:Str)(v:V):List (Str×V)→List (Str×V)
 |[]=>[(f,v)]
 |(g,x)::r=>if g=f then(g,v)::r else(g,x)::putF f v r
theorem lookup_putF (f g:Str)(v:V):∀fs:List (Str×V),(putF f v fs).lookup g=if g=f then some v else fs.lookup g
 |[]=>by
  show List.lookup g [(f,v)]=_
  by_cases h:g=f
  ·have hb:(g==f)=true:=beq_iff_eq.mpr h
   simp only[List.lookup,hb,if_pos h]
  ·have hb:(g==f)=false:=beq_eq_false_iff_ne.mpr h
   simp only[List.lookup,hb,if_neg h]
 |(k,x)::r=>by
  have ih:=lookup_putF f g v r
  rw[show putF f v ((k,x)::r)=(if k=f then(k,v)::r else(k,x)::putF f v r) from rfl]
  by_cases hk:k=f
  ·rw[if_pos hk]
   by_cases h:g=k
   ·have hb:(g==k)=true:=beq_iff_eq.mpr h
    simp only[List.lookup,hb,if_pos (h.trans hk)]
   ·have hb:(g==k)=false:=beq_eq_false_iff_ne.mpr h
    simp only[List.lookup,hb,if_neg (fun e:g=f=>h (e.trans hk.symm))]
  ·rw[if_neg hk]
   by_cases h:g=k
   ·have hb:(g==k)=true:=beq_iff_eq.mpr h
    simp only[List.lookup,hb,if_neg (fun e:g=f=>hk (h.symm.trans e))]
   ·have hb:(g==k)=false:=beq_eq_false_iff_ne.mpr h
    simp only[List.lookup,hb]
    exact ih
theorem keys_putF (f:Str)(v:V):∀fs:List (Str×V),f∈(putF f v fs).map (·.1)∧∀g,g∈fs.map (·.1)→g∈(putF f v fs).map (·.1)
 |[]=>⟨by simp[putF],fun g h=>by simp at h⟩
 |(k,x)::r=>by
  obtain⟨i1,i2⟩:=keys_putF f v r
  rw[show putF f v ((k,x)::r)=(if k=f then(k,v)::r else(k,x)::putF f v r) from rfl]
  by_cases hk:k=f
  ·rw[if_pos hk]
   subst hk
   exact⟨by simp,fun g h=>by simpa using h⟩
  ·rw[if_neg hk]
   refine⟨?_,fun g h=>?_⟩
   ·rw[List.map_cons]
    exact List.mem_cons_of_mem _ i1
   ·rw[List.map_cons]at h ⊢
    rcases List.mem_cons.mp h with e|e
    ·exact List.mem_cons.mpr (.inl e)
    ·exact List.mem_cons_of_mem _ (i2 g e)
theorem length_putF (f:Str)(v:V):∀fs:List (Str×V),(putF f v fs).length≤fs.length+1
 |[]=>by simp[putF]
 |(k,x)::r=>by
  have ih:=length_putF f v r
  rw[show putF f v ((k,x)::r)=(if k=f then(k,v)::r else(k,x)::putF f v r) from rfl]
  by_cases hk:k=f
  ·rw[if_pos hk,List.length_cons,List.length_cons];exact Nat.le_succ _
  ·rw[if_neg hk,List.length_cons,List.length_cons];exact Nat.succ_le_succ ih
theorem RelO.some_of {v:V}{o:Option Value}(r:RelO (some v) o):∃u,o=some u∧RelV v u:=by
 cases o with
 |none=>exact(show False from r).elim
 |some u=>exact⟨u,rfl,r⟩
theorem RelO.none_of {o:Option Value}(r:RelO none o):o=none:=by
 cases o with
 |none=>rfl
 |some u=>exact(show False from r).elim
theorem handed_of {v:V}{u:Value}(r:RelV v u):PySem.W.handedIn u=true:=by
 cases v with
 |non=>cases(show u=Value.none from r);rfl
 |bl b=>cases(show u=Value.bool b from r);rfl
 |int i=>obtain⟨t,e⟩:=(show ∃t,u=Value.int i t from r);cases e;rfl
 |str x=>obtain⟨t,e⟩:=(show ∃t,u=Value.str x t from r);cases e;rfl
 |byt b=>obtain⟨t,e⟩:=(show ∃t,u=Value.bytes b t from r);cases e;rfl
 |flt b=>obtain⟨t,e⟩:=(show ∃t,u=Value.float b t from r);cases e;rfl
 |ref a=>cases(show u=Value.ref a from r);rfl
 |ty n=>cases(show u=Value.type n from r);rfl
section
variable {P:Program}{w:World}{H H':Hp}{h h':Heap}{a C dx:Addr}{fs fs':List (Str×V)}
theorem ins_get (hok:HOk P w H h)(e:H a=some (.ins C dx fs)):∃mA,ObjM h a dx C mA∧(∀f,RelO (fs.lookup f) (mA f))∧PySem.Within mA (fs.map (·.1))∧fs.length≤1000∧H dx=some (.own a):=by
 obtain⟨d,z,ne,ob,mA,n,r,q⟩:=(show ObjOk P w H h a (.ins C dx fs) from hok a _ e)
 exact⟨mA,⟨ob,n,ne⟩,r,q,z,d⟩
end
structure Cls (K:PySem.W.Frag)(C:Addr):Prop where
 pg:PySem.W.plainGet K C Str.empty=true
 hd:PySem.W.hasDictIn K C=true
 po:PySem.W.plainOver K C=true
 sa:PySem.W.findIn K (.ref C) "__setattr__"=some (some (.builtin "object.__setattr__"))
theorem Cls.get {K:PySem.W.Frag}{C:Addr}(c:Cls K C)(f:Str):PySem.W.plainGet K C f=true:=c.pg
def NoAttr (K:PySem.W.Frag)(C:Addr)(f:Str):Prop:=PySem.W.findIn K (.ref C) f=some none
theorem NoAttr.taker {K:PySem.W.Frag}{C:Addr}{f:Str}(n:NoAttr K C f):PySem.W.takerIn K C f=some none:=by
 unfold PySem.W.takerIn
 rw[show PySem.W.findIn K (.ref C) f=some none from n]
 rfl
structure Meth (K:PySem.W.Frag)(C:Addr)(m:Str)(f:Addr):Prop where
 at_:PySem.W.findIn K (.ref C) m=some (some (.ref f))
 fn:PySem.W.isFn K (.ref f)=true
 kp:PySem.W.keepIn K (.ref f)=true
section
variable {X:Cx}{pins:List (Addr×Obj)}{σ:St}{H:Hp}{s:Shared}{a C dx:Addr}{fs:List (Str×V)}{f:Str}{v:V}{A:Around}{E:Value→Shared→Prop}
theorem getattr_ok {b:Bool}{Q:Value→Shared→Prop}(I:Inv X pins σ H s)(e:H a=some (.ins C dx fs))(c:Cls X.K C)(n:NoAttr X.K C f)(l:fs.lookup f=some v)
  (h:∀u s',Inv X pins σ H s'→RelV v u→Q u s'):wpAny (model X.prog X.w) A (getAttr (.ref a) f b) Q E s:=by
 obtain⟨mA,O,r,_,_,_⟩:=ins_get I.hok e
 obtain⟨u,hu,ru⟩:=RelO.some_of (v:=v) (o:=mA f) (by rw[←l];exact r f)
 exact get_map I.kIn O (c.get f) c.hd n hu (handed_of ru) (h u _ (I.tok _) ru)
theorem getmeth_ok {m:Str}{g:Addr}{pl:Sem Bool}{Q:Value×List Value→Shared→Prop}(I:Inv X pins σ H s)(e:H a=some (.ins C dx fs))(c:Cls X.K C)(k:Meth X.K C m g)(l:fs.lookup m=none)
  (h:Q (.ref g,[.ref a]) s):wpAny (model X.prog X.w) A (getMethod (.ref a) m pl) Q E s:=by
 obtain⟨mA,O,r,_,_,_⟩:=ins_get I.hok e
 have hn:mA m=none:=RelO.none_of (by rw[←l];exact r m)
 exact get_meth I.kIn O (c.get m) k.at_ k.fn hn h
theorem setattr_ok {y:V}{u:Value}{Q:Unit→Shared→Prop}(I:Inv X pins σ H s)(e:H a=some (.ins C dx fs))(c:Cls X.K C)(n:NoAttr X.K C f)(hl:fs.length<1000)(ry:RelV y u)
  (h:∀s',Inv X pins σ (upd H a (.ins C dx (putF f y fs))) s'→Q () s'):wpAny (model X.prog X.w) A (setAttr (.ref a) f u) Q E s:=by
 obtain⟨mA,O,r,wi,_,ho⟩:=ins_get I.hok e
 have hz:(fs.map (·.1)).length≤sizeLine:=by rw[List.length_map,sizeLine_eq];omega
 refine set_map I.kIn O c.sa c.po n.taker c.hd wi hz fun h' O' sb=>h _ ?_
 have hd:∃o,h'.get? dx=some o:=let ⟨o,_,_,e',_⟩:=O'.ns;⟨o,e'⟩
 refine I.write (x:=a) (e:=dx) (by rw[e];exact True.intro) (.inr ho) (fun b q hb z=>(sb.2 b hb).trans z) hd ?_
 refine⟨by rw[upd_ne O.ne];exact ho,?_,O.ne,O'.obj,_,O'.ns,fun g=>?_,fun g hg=>?_⟩
 ·have:=length_putF f y fs;exact Nat.le_trans this hl
 ·show RelO ((putF f y fs).lookup g) (if g=f then some u else mA g)
  rw[lookup_putF]
  by_cases q:g=f
  ·rw[if_pos q,if_pos q];exact ry
  ·rw[if_neg q,if_neg q];exact r g
 ·by_cases q:g=f
  ·rw[q];exact(keys_putF f y fs).1
  ·refine(keys_putF f y fs).2 g (wi g fun z=>hg ?_)
   show(if g=f then some u else mA g)=none
   rw[if_neg q];exact z
theorem Inv.made (I:Inv X pins σ H s):Inv X pins σ (upd (upd H s.heap.objs.size (.own (s.heap.objs.size+1))) (s.heap.objs.size+1) (.ins C s.heap.objs.size []))
  {s with heap:=(s.heap.push PySem.W.emptyDict).push (PySem.W.instObj C s.heap.objs.size)}:=by
 have e1:(s.heap.push PySem.W.emptyDict).get? s.heap.objs.size=some PySem.W.emptyDict:=Heap.get?_push_size s.heap rfl
 have e2:((s.heap.push PySem.W.emptyDict).push (PySem.W.instObj C s.heap.objs.size)).get? (s.heap.objs.size+1)=some (PySem.W.instObj C s.heap.objs.size):=by
  have:=Heap.get?_push_size (s.heap.push PySem.W.emptyDict) (o:=PySem.W.instObj C s.heap.objs.size) rfl
  rwa [Heap.size_push]at this
 have e3:(s.heap.push PySem.W.emptyDict).Ns s.heap.objs.size (fun _=>none):=⟨PySem.W.emptyDict,#[],_,e1,rfl,(fun e he=>absurd he (by simp)),fun _=>rfl⟩
 have I1:=I.laid (a:=s.heap.objs.size) (o:=.own (s.heap.objs.size+1)) (h':=s.heap.push PySem.W.emptyDict) (t':=s.toks) (fun b u q=>Heap.get?_push_of_some _ q) (Nat.le_refl _) ⟨_,e1⟩
 refine I1.laid (a:=s.heap.objs.size+1) (o:=.ins C s.heap.objs.size []) (t':=s.toks) (fun b u q=>Heap.get?_push_of_some _ q) (Nat.le_of_eq (Heap.size_push _ _)) ?_
 have ne:s.heap.objs.size≠s.heap.objs.size+1:=Nat.ne_of_lt (Nat.lt_succ_self _)
 refine⟨by rw[upd_ne ne,upd_same],Nat.zero_le _,ne,e2,fun _=>none,(Heap.Ns1.of_empty e3).at fun o q=>Heap.get?_push_of_some _ q,fun _=>True.intro,fun y hy=>absurd rfl hy⟩
theorem attr_of {prog:Program}{w:World}{env:Env}{e:Expr}{f:Str}{pos:Pos}{s:Shared}{Q:Value→Shared→Prop}(hb:attributeBase e f env (eval e env)=eval e env)
  (h:wpAny (model prog w) A (eval e env) (fun o s₁=>wpAny (model prog w) A (getAttr o f true) Q E s₁) E s):wpAny (model prog w) A (eval (.Attribute e f pos) env) Q E s :=
 Attribute_any_ h (by rw[arm_eval_Attribute,hb])
end
inductive tFld_ (K:PySem.W.Frag)(f:Str)(Q:VK)(x:V)(H1:Hp):Prop where
 |mk (a) (C) (dx) (fs) (v):(x=.ref a)→(H1 a=some (.ins C dx fs))→(Cls K C)→(NoAttr K C f)→(fs.lookup f=some v)→(Q v H1)→tFld_ K f Q x H1
def tFld (K:PySem.W.Frag)(ta:TE)(f:Str):TE:=fun σ H Q=>ta σ H (tFld_ K f Q)
inductive sFld_ (K:PySem.W.Frag)(f:Str)(D:Ends)(σ:St)(y:V)(x:V)(H2:Hp):Prop where
 |mk (a) (C) (dx) (fs):(x=.ref a)→(H2 a=some (.ins C dx fs))→(Cls K C)→(NoAttr K C f)→(fs.length<1000)→(D.nx σ (upd H2 a (.ins C dx (putF f y fs))))→sFld_ K f D σ y x H2
def sFld (K:PySem.W.Frag)(ta tv:TE)(f:Str):TS:=fun D σ H=>tv σ H fun y H1=>ta σ H1 (sFld_ K f D σ y)
def InOp (X:Cx)(op:Operator)(rd:V→V→Hp→VK→Prop):Prop :=
 ∀(pins:List (Addr×Obj)) (s:Shared) (σ:St) (H:Hp) (x y:V) (u v:Value) (Q:VK),Inv X pins σ H s→RelV x u→RelV y v→rd x y H Q→wpAny (model X.prog X.w) X.A (inplaceOp op u v) (EP X pins σ Q) X.xe s
section
variable {X:Cx}{o e value:Expr}{f:Str}{pos pos' tpos:Pos}{ta tv:TE}
theorem pe_fld (he:PE X e ta)(hb:attributeBase e f X.env (eval e X.env)=eval e X.env):PE X (.Attribute e f pos) (tFld X.K ta f):=by
 intro pins s σ H Q I h
 refine attr_of hb (thn (he pins s σ H _ I h) fun u s1 ⟨x,H1,I1,rx,a,C,dx,fs,v,ex,ea,c,n,l,q⟩=>?_)
 subst ex
 obtain rfl:u=Value.ref a:=rx
 exact getattr_ok I1 ea c n l fun u' s2 I2 ru=>⟨v,H1,I2,ru,q⟩
theorem ps_fld (ha:PE X o ta)(hv:PE X value tv)(hs:swapsWith value (some (.Attribute o f pos')) pos.line X.env=pure false):PS X (.Assign [.Attribute o f pos'] value pos) (sFld X.K ta tv f):=by
 intro pins s σ H D I h
 refine plainObj_wpAny_Assign_Attribute (thn (hv pins s σ H _ I h) fun u s1 ⟨y,H1,I1,ry,q⟩=>thn (ha pins s1 σ H1 _ I1 q) fun ov s2 ⟨x,H2,I2,rx,a,C,dx,fs,ex,ea,c,n,l,q2⟩=>?_) hs
 subst ex
 obtain rfl:ov=Value.ref a:=rx
 exact setattr_ok I2 ea c n l ry fun s3 I3=>⟨σ,_,I3,q2⟩
def rAdd:V→V→Hp→VK→Prop:=fun x y H Q=>∃i j,x=.int i∧y=.int j∧Q (.int (i+j)) H
def rSub:V→V→Hp→VK→Prop:=fun x y H Q=>∃i j,x=.int i∧y=.int j∧Q (.int (i-j)) H
theorem in_add:InOp X .Add rAdd:=by
 rintro pins s σ H x y u v Q I rx ry ⟨i,j,rfl,rfl,q⟩
 obtain⟨t,rfl⟩:=(show ∃t,u=Value.int i t from rx)
 obtain⟨t',rfl⟩:=(show ∃t',v=Value.int j t' from ry)
 exact PyProof.Rows.iadd_int ⟨.int (i+j),H,I.tok _,⟨_,rfl⟩,q⟩
theorem in_sub:InOp X .Sub rSub:=by
 rintro pins s σ H x y u v Q I rx ry ⟨i,j,rfl,rfl,q⟩
 obtain⟨t,rfl⟩:=(show ∃t,u=Value.int i t from rx)
 obtain⟨t',rfl⟩:=(show ∃t',v=Value.int j t' from ry)
 exact PyProof.Rows.isub_int ⟨.int (i-j),H,I.tok _,⟨_,rfl⟩,q⟩
end
section
variable {X:Cx}{pins:List (Addr×Obj)}{σ:St}{H:Hp}{s:Shared}{A:Around}{E:Value→Shared→Prop}{Q:Value→Shared→Prop}{c:Value}{b:Bool}
inductive TyOf (K:PySem.W.Frag)(H:Hp):V→Value→Prop where
 |non:TyOf K H .non (.type "NoneType")
 |bl (x:Bool):TyOf K H (.bl x) (.type "bool")
 |int (i:Int):TyOf K H (.int i) (.type "int")
 |str (x:Str):TyOf K H (.str x) (.type "str")
 |flt (x:UInt64):TyOf K H (.flt x) (.type "float")
 |lst {a:Addr} {xs:List V} (e:H a=some (.lst xs)):TyOf K H (.ref a) (.type "list")
 |frz {a:Addr} {o:Obj} {xs:List V} (e:H a=some (.frz o (.lst xs))):TyOf K H (.ref a) (.type "list")
 |tup {a:Addr} {xs:List V} (e:H a=some (.tup xs)):TyOf K H (.ref a) (.type "tuple")
 |dK {a:Addr} {kvs:List (Key×V)} (e:H a=some (.dK kvs)):TyOf K H (.ref a) (.type "dict")
 |dT {a:Addr} {kvs:List (List Key×V)} (e:H a=some (.dT kvs)):TyOf K H (.ref a) (.type "dict")
 |ins {a C dx:Addr} {fs:List (Str×V)} (e:H a=some (.ins C dx fs)) (cl:Cls K C) (ha:PySem.W.findIn K (.ref C) "__class__"=some (some (.builtin "object.__class__")))
   (hn:PySem.W.specialIn K (.builtin "object.__class__") "__get__"=some (some (.builtin "getset_descriptor.__get__"))) (htk:PySem.W.takesIn K (.builtin "object.__class__")=some true)
   (hm:PySem.W.mroIn K C (.type "object")=some true):TyOf K H (.ref a) (.ref C)
theorem isinst_ok {x:V}{u t:Value}(I:Inv X pins σ H s)(rx:RelV x u)(ty:TyOf X.K H x t)(e:PySem.W.kitOne X.K t c=some b)(h:∀tk,Q (.bool b) {s with toks:=tk}):
  wpAny (model X.prog X.w) A (call (.builtin "isinstance") [u,c]) Q E s:=by
 cases ty with
 |non=>cases(show u=Value.none from rx);exact PySem.W.kia_one PySem.W.kitx_none I.kIn True.intro e (fun z=>nomatch z) h
 |bl y=>cases(show u=Value.bool y from rx);exact PySem.W.kia_one PySem.W.kitx_bool I.kIn True.intro e (fun z=>nomatch z) h
 |int i=>obtain⟨t,q⟩:=(show ∃t,u=Value.int i t from rx);cases q;exact PySem.W.kia_one PySem.W.kitx_int I.kIn True.intro e (fun z=>nomatch z) h
 |str y=>obtain⟨t,q⟩:=(show ∃t,u=Value.str y t from rx);cases q;exact PySem.W.kia_one PySem.W.kitx_str I.kIn True.intro e (fun z=>nomatch z) h
 |flt y=>obtain⟨t,q⟩:=(show ∃t,u=Value.float y t from rx);cases q;exact PySem.W.kia_one PySem.W.kitx_float I.kIn True.intro e (fun z=>nomatch z) h
 |@lst a xs ea=>
  cases(show u=Value.ref a from rx)
  obtain⟨_,_,n,_,h1⟩:=(show ObjOk X.prog X.w H s.heap a (.lst xs) from I.hok a _ ea)
  exact PySem.W.kia_one PySem.W.kitx_list I.kIn ⟨_,h1,rfl⟩ e (fun z=>nomatch z) h
 |@frz a ob xs ea=>
  cases(show u=Value.ref a from rx)
  obtain⟨_,_,_,n,_,h1⟩:=(show ObjOk X.prog X.w H s.heap a (.frz ob (.lst xs)) from I.hok a _ ea)
  exact PySem.W.kia_one PySem.W.kitx_list I.kIn ⟨_,h1,rfl⟩ e (fun z=>nomatch z) h
 |@tup a xs ea=>
  cases(show u=Value.ref a from rx)
  obtain⟨_,_,_,p⟩:=(show ObjOk X.prog X.w H s.heap a (.tup xs) from I.hok a _ ea)
  obtain⟨o,h1,h2,_⟩:=p
  exact PySem.W.kia_one PySem.W.kitx_tuple I.kIn ⟨o,h1,h2⟩ e (fun z=>nomatch z) h
 |@dK a kvs ea=>
  cases(show u=Value.ref a from rx)
  obtain⟨_,_,vs,_,p⟩:=(show ObjOk X.prog X.w H s.heap a (.dK kvs) from I.hok a _ ea)
  obtain⟨o,es,ep,h1,h2,_⟩:=p
  exact PySem.W.kia_one PySem.W.kitx_dict I.kIn ⟨o,h1,h2.1⟩ e (fun z=>nomatch z) h
 |@dT a kvs ea=>
  cases(show u=Value.ref a from rx)
  obtain⟨_,_,xs,_,o,es,ep,h1,h2,_⟩:=(show ObjOk X.prog X.w H s.heap a (.dT kvs) from I.hok a _ ea)
  exact PySem.W.kia_one PySem.W.kitx_dict I.kIn ⟨o,h1,h2.1⟩ e (fun z=>nomatch z) h
 |@ins a C dx fs ea cl ha hn htk hm=>
  cases(show u=Value.ref a from rx)
  obtain⟨mA,O,_⟩:=ins_get I.hok ea
  obtain⟨od,J,_⟩:=O.look
  exact PySem.W.kia_one (PySem.W.kitx_own (cl.get _) cl.hd ha hn htk hm) I.kIn J e (fun z=>nomatch z) h
end
structure Room (k:Nat)(A:Around):Prop where
 hd:A.handled=none
 dp:A.depth+3*k+5<recursionLimit
 un:A.units+16*k+200<cLine
theorem Room.mono {j k:Nat}{A:Around}(r:Room k A)(h:j≤k):Room j A:=⟨r.hd,by have:=r.dp;omega,by have:=r.un;omega⟩
theorem Room.deeper {k:Nat}{A:Around}(r:Room (k+1) A)(env:Env):Room k (A.deeper env) :=
 ⟨r.hd,by have:=r.dp;show A.depth+1+3*k+5<_;omega,by have:=r.un;show A.units+3+16*k+200<_;omega⟩
theorem make_depth {A:Around}{C:Addr}{us:List Value}{kw:List (Str×Value)}:(A.under (.builtin "type.__call__" ⟨.ref C::us,kw⟩)).depth=A.depth+1:=by
 first|rfl|simp[Around.under,Code.weight,Code.isCreation,Code.isGuard,Code.isCaller,Code.frames,Code.isFrame,guardIds]
theorem make_units {A:Around}{C:Addr}{us:List Value}{kw:List (Str×Value)}:(A.under (.builtin "type.__call__" ⟨.ref C::us,kw⟩)).units=A.units+1:=by
 first|rfl|simp[Around.under,Code.cUnits,Code.frames,Code.isFrame]
theorem Room.make {k:Nat}{A:Around}(r:Room (k+1) A)(C:Addr)(us:List Value)(kw:List (Str×Value)):Room k (A.under (.builtin "type.__call__" ⟨.ref C::us,kw⟩)) :=
 ⟨r.hd,by have:=r.dp;rw[make_depth];omega,by have:=r.un;rw[make_units];omega⟩
theorem Room.depth {k:Nat}{A:Around}(r:Room k A):A.depth<recursionLimit:=by have:=r.dp;omega
theorem Room.units {k:Nat}{A:Around}(r:Room k A):A.units+64<cLine:=by have:=r.un;omega
def tNil:TA:=fun _ H Q=>Q [] H
def tCons (ta:TE)(tr:TA):TA:=fun σ H Q=>ta σ H fun x H1=>tr σ H1 fun xs H2=>Q (x::xs) H2
section
variable {X:Cx}{e:Expr}{es:List Expr}{te:TE}{t:TA}{pos:Pos}
theorem pa_nil:PA X [] tNil:=fun _ _ _ _ H Q I h=>Calls.spliced_nil ⟨[],H,I, .nil,h⟩
theorem pa_cons (ha:PE X e te)(hr:PA X es t)(hs:starEach (e::es) X.env=(false,eval e X.env)::starEach es X.env:=by rfl):PA X (e::es) (tCons te t):=by
 intro pos pins s σ H Q I h
 rw[hs]
 show wpAny _ _ (spliced ((false,eval e X.env)::backTo pos (starEach es X.env))) _ _ s
 refine Calls.spliced_cons (thn (ha pins s σ H _ I h) fun u s1 ⟨x,H1,I1,r1,q1⟩=>?_)
 exact thn (hr pos pins s1 σ H1 _ I1 q1) fun us s2 ⟨xs,H2,I2,r2,q2⟩=>⟨x::xs,H2,I2, .cons r1 r2,q2⟩
inductive tTup_ (Q:VK)(xs:List V)(H1:Hp):Prop where
 |mk:(xs.length≤sizeLine)→(∀p,H1 p=none→Q (.ref p) (upd H1 p (.tup xs)))→tTup_ Q xs H1
def tTup (t:TA):TE:=fun σ H Q=>t σ H (tTup_ Q)
inductive tLst_ (Q:VK)(xs:List V)(H1:Hp):Prop where
 |mk:(xs.length≤sizeLine)→(∀p,H1 p=none→Q (.ref p) (upd H1 p (.lst xs)))→tLst_ Q xs H1
def tLst (t:TA):TE:=fun σ H Q=>t σ H (tLst_ Q)
theorem pe_tup {x1}(h:PA X es t):PE X (.Tuple es x1 pos) (tTup t):=by
 intro pins s σ H Q I hq
 refine wpAny_Tuple_spliced (thn (h pos pins s σ H _ I hq) fun us s1 ⟨xs,H1,I1,r,z,q⟩=>⟨by rw[←r.length];exact z,?_⟩)
 have hf:H1 s1.heap.objs.size=none:=I1.hok.fresh (Nat.le_refl _)
 refine⟨.ref s1.heap.objs.size,upd H1 s1.heap.objs.size (.tup xs),I1.laid (t':=s1.toks) (fun b u e=>Heap.get?_push_of_some _ e) (Nat.le_refl _) ?_,rfl,q _ hf⟩
 exact⟨z,us,r,⟨_,Heap.get?_push_size _ rfl,rfl,_,rfl⟩⟩
theorem pe_lst (h:PA X es t):PE X (.List es pos) (tLst t):=by
 intro pins s σ H Q I hq
 refine wpAny_List_spliced (thn (h pos pins s σ H _ I hq) fun us s1 ⟨xs,H1,I1,r,z,q⟩=>⟨by rw[←r.length];exact z,?_⟩)
 have hf:H1 s1.heap.objs.size=none:=I1.hok.fresh (Nat.le_refl _)
 refine⟨.ref s1.heap.objs.size,upd H1 s1.heap.objs.size (.lst xs),I1.laid (t':=s1.toks) (fun b u e=>Heap.get?_push_of_some _ e) (Nat.le_refl _) ?_,rfl,q _ hf⟩
 exact⟨z,us,0,r,Heap.get?_push_size _ rfl⟩
end
abbrev Sp:=List V→Hp→VK→XK→Prop
abbrev CXT:=List Env→Hp→Shared→XK→Value→Shared→Prop
structure Env0 (P:Program)(w:World)(K:PySem.W.Frag)(mg:Str→Option Value)(base:Heap)(A:Around)(outer:List Env)(s:Shared)(H:Hp):Prop where
 frames:A.frames=some outer
 mod:Mod K mg base
 bs:∀b o,base.get? b=some o→s.heap.get? b=some o∧H b=none
 bsz:base.objs.size≤s.heap.objs.size
 funs:s.heap.FunFrames base outer
 frf:∀b∈frs outer,H b=none
 hok:HOk P w H s.heap
 bare:AllBare s.gens
def CE (outer:List Env)(P:Program)(w:World)(H:Hp)(s:Shared)(Q:VK)(u:Value)(s':Shared):Prop :=
 ∃v H',s'.os=s.os∧AllBare s'.gens∧Un (frs outer) [] H H' s.heap s'.heap∧HOk P w H' s'.heap∧RelV v u∧Q v H'
def CR (CX:CXT)(outer:List Env)(P:Program)(w:World)(H:Hp)(s:Shared)(Q:VK)(E:XK)(r:Result)(s':Shared):Prop :=
 match r with
 |.ok (.ret u)=>CE outer P w H s Q u s'
 |.ok _=>False
 |.error e=>CX outer H s E e s'
structure FnOk (P:Program)(w:World)(K:PySem.W.Frag)(mg:Str→Option Value)(base:Heap)(CX:CXT)(k:Nat)(f:Addr)(fd:FuncData)(ps:List Str)(sp:Sp):Prop where
 len:∀vs H Q E,sp vs H Q E→vs.length=ps.length
 run:∀(A:Around) (outer:List Env) (s:Shared) (H:Hp) (args:Args) (us:List Value) (vs:List V) (Q:VK) (E:XK),Room k A→Env0 P w K mg base A outer s H→BindsTo s fd args (ps.zip us)→Vals vs us→sp vs H Q E→
  codeAny (model P w) A (.call (.ref f) args) (CR CX outer P w H s Q E) s
theorem Env0.make {P:Program}{w:World}{K:PySem.W.Frag}{mg:Str→Option Value}{base:Heap}{A:Around}{outer:List Env}{s:Shared}{H:Hp}(e:Env0 P w K mg base A outer s H)(C:Addr)(us:List Value)(kw:List (Str×Value)):
  Env0 P w K mg base (A.under (.builtin "type.__call__" ⟨.ref C::us,kw⟩)) outer s H:=⟨by first|exact e.frames|(simpa[Around.under,Code.envs,Code.isFrame,pushEnvs] using e.frames),e.mod,e.bs,e.bsz,e.funs,e.frf,e.hok,e.bare⟩
section
variable {X:Cx}{pins:List (Addr×Obj)}{σ:St}{H:Hp}{s s':Shared}
theorem Inv.env0 (I:Inv X pins σ H s):Env0 X.prog X.w X.K X.mg X.base X.A X.stack s H :=
 ⟨I.ok.frames,I.ok.mod,I.bs,Nat.le_trans I.ok.bsz I.sz,I.stack,I.stkFree,I.hok,I.bare⟩
theorem Inv.after {Q:VK}{u:Value}(I:Inv X pins σ H s)(h:CE X.stack X.prog X.w H s Q u s'):EP X pins σ Q u s':=by
 obtain⟨v,H',os,bare,un,hok,r,q⟩:=h
 obtain⟨hh,g,d,t,os'⟩:=s'
 obtain rfl:os'=s.os:=os
 exact⟨v,H',I.call (h':=hh) (g':=g) (d':=d) (t':=t) (ch:=[]) un hok bare (fun b z=>absurd z (by simp)),r,q⟩
end
def tCall (sp:Sp)(dvs:List V)(E:XK)(t:TA):TE:=fun σ H Q=>t σ H fun vs H1=>sp (vs++dvs) H1 Q E
inductive tMeth_ (C:Addr)(m:Str)(sp:Sp)(dvs:List V)(E:XK)(t:TA)(σ:St)(Q:VK)(x:V)(H1:Hp):Prop where
 |mk (a) (dx) (fs):(x=.ref a)→(H1 a=some (.ins C dx fs))→(fs.lookup m=none)→(t σ H1 fun vs H2=>sp (x::(vs++dvs)) H2 Q E)→tMeth_ C m sp dvs E t σ Q x H1
def tMeth (C:Addr)(m:Str)(sp:Sp)(dvs:List V)(E:XK)(ta:TE)(t:TA):TE:=fun σ H Q=>ta σ H (tMeth_ C m sp dvs E t σ Q)
def tMake (C:Addr)(sp:Sp)(dvs:List V)(E:XK)(t:TA):TE:=fun σ H Q=>t σ H fun vs H1=>∀x dx,H1 x=none→H1 dx=none→dx≠x→
 sp (.ref x::(vs++dvs)) (upd (upd H1 dx (.own x)) x (.ins C dx [])) (fun v H2=>v=.non∧Q (.ref x) H2) E
def Binds (K:PySem.W.Frag)(fd:FuncData)(ps:List Str)(ds:List Value):Prop :=
 ∀(s:Shared) (us:List Value),K.In s.heap→(us++ds).length=ps.length→BindsTo s fd ⟨us,[]⟩ (ps.zip (us++ds))
theorem Binds.all {K:PySem.W.Frag}{fd:FuncData}{ps:List Str}(h:∀us:List Value,us.length=ps.length→bindArgs fd ⟨us,[]⟩=pure (ps.zip us)):Binds K fd ps []:=fun s us _ hl=>by
 rw[List.append_nil]at hl ⊢
 exact .of_eq (h us hl)
def Passes (CX:CXT)(X:Cx)(E:XK):Prop:=∀(pins:List (Addr×Obj)) (σ:St) (H:Hp) (s:Shared) (e:Value) (s':Shared),Inv X pins σ H s→CX X.stack H s E e s'→X.xe e s'
section
variable {X:Cx}{CX:CXT}{k:Nat}{f C:Addr}{fd:FuncData}{ps:List Str}{sp:Sp}{dvs:List V}{ds:List Value}{E:XK}{x m:Str}{p pos apos:Pos}{e o:Expr}{es:List Expr}{ta:TE}{t:TA}
theorem run_fn {pins:List (Addr×Obj)}{σ:St}{H:Hp}{s:Shared}{Q:VK}{us:List Value}{vs:List V}(F:FnOk X.prog X.w X.K X.mg X.base CX k f fd ps sp)(hr:Room k X.A)(hb:Binds X.K fd ps ds)(hd:Vals dvs ds)(hx:Passes CX X E)
  (I:Inv X pins σ H s) (r:Vals vs us) (h:sp (vs++dvs) H Q E):wpAny (model X.prog X.w) X.A (call (.ref f) us) (EP X pins σ Q) X.xe s:=by
 have r2:Vals (vs++dvs) (us++ds):=r.append hd
 have hl:(us++ds).length=ps.length:=by rw[←r2.length];exact F.len _ _ _ _ h
 refine wpAny_call (codeAny_mono (F.run X.A X.stack s H ⟨us,[]⟩ (us++ds) (vs++dvs) Q E hr I.env0 (hb s us I.kIn hl) r2 h) fun r s' hq=>?_)
 cases r with
 |error e=>exact hx pins σ H s e s' I hq
 |ok fl=>
  cases fl with
  |ret u=>exact I.after hq
  |next=>exact False.elim hq
  |brk=>exact False.elim hq
  |cont=>exact False.elim hq
theorem pe_call (F:FnOk X.prog X.w X.K X.mg X.base CX k f fd ps sp)(hr:Room k X.A)(hg:Gl X x)(hm:X.mg x=some (.ref f))(hk:PySem.W.keepIn X.K (.ref f)=true)(hb:Binds X.K fd ps ds)(hd:Vals dvs ds)(hx:Passes CX X E)
  (ha:PA X (e::es) t) (hdb:(x==("__debug__":Str))=false:=by decide) (he:starEach (e::es) X.env=(false,eval e X.env)::starEach es X.env:=by rfl) (hpl:(backTo pos (starEach es X.env)).any (·.1)=false:=by rfl):
  PE X (.Call (.Name x p) (e::es) [] pos) (tCall sp dvs E t):=by
 intro pins s σ H Q I h
 refine wpAny_Call_Name_kw (ld_glob I hg hm ?_ hdb)
 refine PySem.W.callWith_K (h₀:=X.base) I.ok.mod.kin hk (thn (ha pos pins s σ H _ I h) fun us s1 ⟨vs,H1,I1,r,q⟩=>⟨I1.kIn,?_⟩) he hpl
 exact run_fn F hr hb hd hx I1 r q
theorem pe_meth {pl:Sem Bool}(he:PE X o ta)(c:Cls X.K C)(hm:Meth X.K C m f)(F:FnOk X.prog X.w X.K X.mg X.base CX k f fd ps sp)(hr:Room k X.A)(hb:Binds X.K fd ps ds)(hd:Vals dvs ds)(hx:Passes CX X E)(ha:PA X (e::es) t)
  (hst:starEach (e::es) X.env=(false,eval e X.env)::starEach es X.env:=by rfl) (hpl:(backTo pos (starEach es X.env)).any (·.1)=false:=by rfl)
  (ht:eval (.Call (.Attribute o m apos) (e::es) [] pos) X.env=(do
   let ov ←eval o X.env
   standAt apos.atName
   let (f,first) ←holding [ov] (getMethod ov m pl)
   callWith pos f first (backTo pos (starEach (e::es) X.env)) (backToKw pos (keywordEach [] X.env))):=by rfl):
  PE X (.Call (.Attribute o m apos) (e::es) [] pos) (tMeth C m sp dvs E ta t):=by
 intro pins s σ H Q I h
 refine PySem.W.methodCall_KW (pl:=pl) (thn (he pins s σ H _ I h) fun u s1 ⟨x,H1,I1,rx,a,dx,fs,ex,ea,l,q⟩=>?_) ht
 subst ex
 obtain rfl:u=Value.ref a:=rx
 refine getmeth_ok I1 ea c hm l ?_
 refine PySem.W.callWith_K (first:=[.ref a]) (h₀:=X.base) I.ok.mod.kin hm.kp (thn (ha pos pins s1 σ H1 _ I1 q) fun us s2 ⟨vs,H2,I2,r,q2⟩=>⟨I2.kIn,?_⟩) hst hpl
 exact run_fn (us:=.ref a::us) (vs:=.ref a::vs) F hr hb hd hx I2 (.cons rfl r) q2
theorem pe_meth0 {pl:Sem Bool}(he:PE X o ta)(c:Cls X.K C)(hm:Meth X.K C m f)(F:FnOk X.prog X.w X.K X.mg X.base CX k f fd ps sp)(hr:Room k X.A)(hb:Binds X.K fd ps ds)(hd:Vals dvs ds)(hx:Passes CX X E)
  (ht:eval (.Call (.Attribute o m apos) [] [] pos) X.env=(do
   let ov ←eval o X.env
   standAt apos.atName
   let (f,first) ←holding [ov] (getMethod ov m pl)
   callWith pos f first (backTo pos (starEach [] X.env)) (backToKw pos (keywordEach [] X.env))):=by rfl):
  PE X (.Call (.Attribute o m apos) [] [] pos) (tMeth C m sp dvs E ta tNil):=by
 intro pins s σ H Q I h
 refine PySem.W.methodCall_KW (pl:=pl) (thn (he pins s σ H _ I h) fun u s1 ⟨x,H1,I1,rx,a,dx,fs,ex,ea,l,q⟩=>?_) ht
 subst ex
 obtain rfl:u=Value.ref a:=rx
 refine getmeth_ok I1 ea c hm l ?_
 exact PySem.W.callWith_K0 (first:=[.ref a]) I1.kIn hm.kp (run_fn (us:=[.ref a]) (vs:=[.ref a]) F hr hb hd hx I1 (.cons rfl .nil) q)
structure Mk (K:PySem.W.Frag)(C f:Addr):Prop where
 makes:PySem.W.makesIn K C=true
 init:PySem.W.findIn K (.ref C) "__init__"=some (some (.ref f))
 fn:PySem.W.isFn K (.ref f)=true
 kp:PySem.W.keepIn K (.ref C)=true
theorem run_make {pins:List (Addr×Obj)}{σ:St}{H:Hp}{s:Shared}{Q:VK}{us:List Value}{vs:List V}(M:Mk X.K C f)(F:FnOk X.prog X.w X.K X.mg X.base CX k f fd ps sp)(hr:Room (k+1) X.A)(hb:Binds X.K fd ps ds)(hd:Vals dvs ds)
  (hx:Passes CX X E) (I:Inv X pins σ H s) (r:Vals vs us)
  (h:∀x dx,H x=none→H dx=none→dx≠x→sp (.ref x::(vs++dvs)) (upd (upd H dx (.own x)) x (.ins C dx [])) (fun v H2=>v=.non∧Q (.ref x) H2) E):
  wpAny (model X.prog X.w) X.A (call (.ref C) us) (EP X pins σ Q) X.xe s:=by
 have hq:=h (s.heap.objs.size+1) s.heap.objs.size (I.hok.fresh (Nat.le_succ _)) (I.hok.fresh (Nat.le_refl _)) (Nat.ne_of_lt (Nat.lt_succ_self _))
 have I2:=Inv.made (C:=C) I
 have r2:Vals (V.ref (s.heap.objs.size+1)::(vs++dvs)) (Value.ref (s.heap.objs.size+1)::(us++ds)):=.cons rfl (r.append hd)
 have hl:(Value.ref (s.heap.objs.size+1)::us++ds).length=ps.length:=by
  have e:=r2.length
  rw[F.len _ _ _ _ hq]at e
  exact e.symm
 refine wpAny_call (make_map (f:=f) I.kIn M.makes M.init (beq_iff_eq.mp M.fn) (codeAny_mono (F.run _ X.stack _ _ ⟨Value.ref (s.heap.objs.size+1)::us,[]⟩ (Value.ref (s.heap.objs.size+1)::(us++ds)) _ _ E (hr.make C us [])
  (I2.env0.make C us []) (hb _ (Value.ref (s.heap.objs.size+1)::us) I2.kIn hl) r2 hq) fun r s' hq'=>?_))
 cases r with
 |error e=>exact hx pins σ _ _ e s' I2 hq'
 |ok fl=>
  cases fl with
  |ret u=>
   obtain⟨v,H',I3,rv,ev,q3⟩:=I2.after hq'
   subst ev
   exact⟨rv,⟨V.ref (s.heap.objs.size+1),H',I3,rfl,q3⟩⟩
  |next=>exact False.elim hq'
  |brk=>exact False.elim hq'
  |cont=>exact False.elim hq'
theorem pe_make (M:Mk X.K C f)(F:FnOk X.prog X.w X.K X.mg X.base CX k f fd ps sp)(hr:Room (k+1) X.A)(hg:Gl X x)(hm:X.mg x=some (.ref C))(hb:Binds X.K fd ps ds)(hd:Vals dvs ds)(hx:Passes CX X E)
  (ha:PA X (e::es) t) (hdb:(x==("__debug__":Str))=false:=by decide) (he:starEach (e::es) X.env=(false,eval e X.env)::starEach es X.env:=by rfl) (hpl:(backTo pos (starEach es X.env)).any (·.1)=false:=by rfl):
  PE X (.Call (.Name x p) (e::es) [] pos) (tMake C sp dvs E t):=by
 intro pins s σ H Q I h
 refine wpAny_Call_Name_kw (ld_glob I hg hm ?_ hdb)
 refine PySem.W.callWith_K (h₀:=X.base) I.ok.mod.kin M.kp (thn (ha pos pins s σ H _ I h) fun us s1 ⟨vs,H1,I1,r,q⟩=>⟨I1.kIn,?_⟩) he hpl
 exact run_make M F hr hb hd hx I1 r q
end
section
variable {X:Cx}{CX:CXT}{k:Nat}{f C:Addr}{fd:FuncData}{ps ks:List Str}{sp:Sp}{E:XK}{x m:Str}{p pos apos kpos:Pos}{e o:Expr}{es:List Expr}{kws:List Keyword}{te ta:TE}{t tk:TA}{nm:Option Str}
variable {g:List Value→List Value→List Value}{gV:List V→List V→List V}
end
structure FnScope (N P:List Str)(sc:Scope):Prop where
 kind:sc.kind=.function
 co:sc.isCoroutine=false
 gen:sc.isGenerator=false
 nd:N.Nodup
 pre:N.take P.length=P
 par:∀x∈P,sc.names.lookup x=some .local∨sc.names.lookup x=some .cell
 nofree:∀y∈sc.names,y.2≠.free
theorem bindL_out {kindOf:Str→Option NameKind}{x:Str}:∀{binds:List (Str×Value)} {m:Str→Option Value},(∀v,(x,v)∉binds)→bindL kindOf binds m x=m x
 |[],_,_=>rfl
 |(n,v)::r,m,h=>by
  unfold bindL
  rw[bindL_out fun w hw=>h w (List.mem_cons_of_mem _ hw)]
  split
  ·have:x≠n:=by rintro rfl;exact h v List.mem_cons_self
   simp[this]
  ·rfl
theorem bindC_out {kindOf:Str→Option NameKind}{x:Str}:∀{binds:List (Str×Value)} {m:Str→Option Value},(∀v,(x,v)∉binds)→bindC kindOf binds m x=m x
 |[],_,_=>rfl
 |(n,v)::r,m,h=>by
  unfold bindC
  rw[bindC_out fun w hw=>h w (List.mem_cons_of_mem _ hw)]
  split
  ·rfl
  ·have:x≠n:=by rintro rfl;exact h v List.mem_cons_self
   simp[this]
theorem bindL_get {kindOf:Str→Option NameKind}{x:Str}{v:Value}{P:List Str}{vs:List Value}{i:Nat}{m:Str→Option Value}(nd:P.Nodup)(h1:P[i]?=some x)(h2:vs[i]?=some v)(hk:kindOf x=some .local):
  bindL kindOf (P.zip vs) m x=some v:=by
 induction P generalizing vs i m with
 |nil=>simp at h1
 |cons p P ih=>cases vs with
  |nil=>simp at h2
  |cons w vs=>
   show bindL kindOf ((p,w)::P.zip vs) m x=_
   unfold bindL
   cases i with
   |zero=>
    cases h1
    cases h2
    rw[bindL_out fun v hv=>(List.nodup_cons.mp nd).1 (List.of_mem_zip hv).1,if_pos hk]
    simp
   |succ i=>exact ih (i:=i) (List.nodup_cons.mp nd).2 h1 h2
theorem bindC_get {kindOf:Str→Option NameKind}{x:Str}{v:Value}{P:List Str}{vs:List Value}{i:Nat}{m:Str→Option Value}(nd:P.Nodup)(h1:P[i]?=some x)(h2:vs[i]?=some v)(hk:kindOf x≠some .local):
  bindC kindOf (P.zip vs) m x=some v:=by
 induction P generalizing vs i m with
 |nil=>simp at h1
 |cons p P ih=>cases vs with
  |nil=>simp at h2
  |cons w vs=>
   show bindC kindOf ((p,w)::P.zip vs) m x=_
   unfold bindC
   cases i with
   |zero=>
    cases h1
    cases h2
    rw[bindC_out fun v hv=>(List.nodup_cons.mp nd).1 (List.of_mem_zip hv).1,if_neg hk]
    simp
   |succ i=>exact ih (i:=i) (List.nodup_cons.mp nd).2 h1 h2
def start (N:List Str)(vs:List V):St:=vs.map some++List.replicate (N.length-vs.length) none
def cxOf (CX:CXT)(P:Program)(w:World)(K:PySem.W.Frag)(mg:Str→Option Value)(base:Heap)(N:List Str)(qual:Str)(scope:Scope)(f:Addr)(cd:Value)(A:Around)(outer:List Env)(s:Shared)(H:Hp)(E:XK):Cx where
 prog:=P
 w:=w
 K:=K
 mg:=mg
 base:=base
 A:=A.deeper (envOfC qual scope s.heap.objs.size f cd)
 N:=N
 s₀:=s
 H₀:=H
 env:=envOfC qual scope s.heap.objs.size f cd
 outer:=outer
 stack:=envOfC qual scope s.heap.objs.size f cd::outer
 ex:=[]
 calm:=true
 fn:=fun _=>true
 pn:=[]
 xe:=fun e s'=>wpAny (model P w) (A.deeper (envOfC qual scope s.heap.objs.size f cd)) (leaving (envOfC qual scope s.heap.objs.size f cd) e) (fun _ s''=>CX outer H s E e s'') (fun e' s''=>CX outer H s E e' s'') s'
theorem cell_has {sc:Scope}{n:Nat}{x:Str}(h:sc.names.lookup x=some .cell):∃c,(cellsFrom n sc.names []).lookup x=some c:=by
 have q:=PySem.W.cellsFrom_some sc.names n [] (.inl h)
 exact Option.isSome_iff_exists.mp q
theorem inv_start {CX:CXT}{P:Program}{w:World}{K:PySem.W.Frag}{mg:Str→Option Value}{base:Heap}{N ps:List Str}{qual:Str}{scope:Scope}{f:Addr}{cd:Value}{A:Around}{outer:List Env}{s s1:Shared}{H:Hp}{E:XK}{us:List Value}{vs:List V}
  (S:FnScope N ps scope) (hd:A.handled=none) (e0:Env0 P w K mg base A outer s H) (hl:vs.length=ps.length) (r:Vals vs us)
  (x:InCallC s s.heap.objs.size (bindL (envOfC qual scope s.heap.objs.size f cd).kindOf (ps.zip us) fun _=>none) (cellsFrom (s.heap.objs.size+1) scope.names []) (bindC (envOfC qual scope s.heap.objs.size f cd).kindOf (ps.zip us) fun _=>none) s1):
  Inv (cxOf CX P w K mg base N qual scope f cd A outer s H E) [] (start N vs) H s1:=by
 have hpl:ps.length≤N.length:=by have:=congrArg List.length S.pre;rw[List.length_take]at this;omega
 obtain⟨h1,tk,rfl,hk⟩:=x.done
 have noA:∀b:Addr,b∉(cxOf CX P w K mg base N qual scope f cd A outer s H E).ex:=fun b z=>absurd (show b∈([]:List Addr) from z) (by simp)
 refine⟨⟨e0.mod,S.kind,rfl,rfl,Nat.le_refl _,fun y z c h1 h2=>?_,fun y hy=>?_,fun y c _ h=>?_,fun _=>hd,Around.frames_deeper e0.frames, .inr ⟨rfl,rfl⟩,fun b z=>absurd z (noA b),e0.bs,e0.bsz,fun b _ _=>noA b,fun b z=>absurd z (noA b),e0.funs,e0.frf⟩,
  rfl,e0.bare,Un.kept hk,⟨_,x.toInCall.ns,fun i y v h1 h2 h3=>?_⟩,fun y c h=>⟨_,x.cell y c h⟩,e0.hok.fresh (Nat.le_refl _),fun y c h=>?_,fun p hp=>absurd (show p∈([]:List (Addr×Obj)) from hp) (by simp),e0.hok.kept hk,?_⟩
 ·exact name_of_addr x.apart (PySem.mem_of_lookup h1) (PySem.mem_of_lookup h2)
 ·have hy:scope.names.lookup y=some .cell∨scope.names.lookup y=some .free:=hy
  rcases hy with hy|hy
  ·exact cell_has hy
  ·exact absurd rfl (S.nofree _ (PySem.mem_of_lookup hy))
 ·exact Nat.le_of_lt (x.above y c (PySem.mem_of_lookup h))
 ·have hi:i<vs.length:=by
   unfold start at h2
   by_cases hi:i<vs.length
   ·exact hi
   ·rw[List.getElem?_append_right (by simpa using hi)]at h2
    rw[List.getElem?_replicate]at h2
    split at h2<;>cases h2
  have ha:vs[i]?=some v:=by
   unfold start at h2
   rw[List.getElem?_append_left (by simpa using hi),List.getElem?_map]at h2
   cases e:vs[i]? with
   |none=>rw[e]at h2;cases h2
   |some a=>rw[e]at h2;cases h2;rfl
  obtain⟨u,hu,rv⟩:=r.get ha
  have hp:ps[i]?=some y:=by
   rw[←S.pre,List.getElem?_take_of_lt (by exact Nat.lt_of_lt_of_eq hi hl)];exact h1
  have ndP:ps.Nodup:=by rw[←S.pre];exact S.nd.sublist (List.take_sublist _ _)
  refine⟨u,rv,?_⟩
  rcases S.par y (List.mem_of_getElem? hp) with k|k
  ·exact .inl ⟨k,bindL_get ndP hp hu k⟩
  ·obtain⟨c,e⟩:=cell_has (n:=s.heap.objs.size+1) k
   refine .inr ⟨.inl k,c,e,?_⟩
   have q:=x.cell y c e
   rw[bindC_get ndP hp hu (by show scope.names.lookup y≠_;rw[k];decide)]at q
   exact q
 ·exact e0.hok.fresh (Nat.le_of_lt (x.above y c (PySem.mem_of_lookup h)))
 ·unfold start
  show _=N.length
  rw[List.length_append,List.length_map,List.length_replicate]
  omega
theorem fn_of {CX:CXT}{P:Program}{w:World}{K:PySem.W.Frag}{mg:Str→Option Value}{base:Heap}{k:Nat}{f:Addr}{name qual:Str}{params:Arguments}{body:List Stmt}{scope:Scope}{dV kV doc pm cdv ct oc:Value}{an od:Option Addr}
  {osl:Array (Option Value)} {N ps:List Str} {sp:Sp} (lk:K.lookup f=some ⟨oc,od, .func (PySem.W.fnOf name qual params body scope dV kV doc pm an cdv ct),osl⟩) (hcd:PySem.W.codeIn K cdv qual=true) (S:FnScope N ps scope)
  (len:∀vs H Q E,sp vs H Q E→vs.length=ps.length)
  (hbody:∀(A:Around) (outer:List Env) (s:Shared) (H:Hp) (vs:List V) (Q:VK) (E:XK),Room k (A.deeper (envOfC qual scope s.heap.objs.size f cdv))→sp vs H Q E→
   ∃t,PSs (cxOf CX P w K mg base N qual scope f cdv A outer s H E) body t∧t (Ends.of Q) (start N vs) H):
  FnOk P w K mg base CX (k+1) f (PySem.W.fnOf name qual params body scope dV kV doc pm an cdv ct) ps sp:=by
 refine⟨len,fun A outer s H args us vs Q E hr e0 hb r hsp=>?_⟩
 have hl:=len _ _ _ _ hsp
 have KX:K.In s.heap:=e0.mod.kin.keeps fun b o e=>(e0.bs b o e).1
 have lim:s.heap.NoLimit:=e0.mod.nolimit.keeps fun b o e=>(e0.bs b o e).1
 have hkind:∀y∈ps.zip us,scope.names.lookup y.1=some .local∨(scope.names.lookup y.1=some .cell∧((cellsFrom (s.heap.objs.size+1) scope.names []).lookup y.1).isSome=true):=fun⟨n,v⟩ hy=>by
  rcases S.par n (List.of_mem_zip hy).1 with q|q
  ·exact .inl q
  ·exact .inr ⟨q,PySem.W.cellsFrom_some _ _ _ (.inl q)⟩
 refine codeAny_call_function hr.depth (KX _ _ lk) rfl S.co S.gen rfl (PySem.W.codeRec_of KX hcd) (hb _ _ _ _ ?_)
 refine wpAny_newFunctionEnv_cells S.kind hkind fun env he s1 x=>?_
 subst he
 refine⟨lim.keeps x.toInCall.keep,codeAny_func ?_⟩
 obtain⟨t,ht,hq⟩:=hbody A outer s H vs Q E (hr.deeper _) hsp
 have I:Inv (cxOf CX P w K mg base N qual scope f cdv A outer s H E) [] (start N vs) H s1:=inv_start S hr.hd e0 hl r x
 refine wpAny_mono (ht [] s1 (start N vs) H _ I hq) (fun fl s' hs=>?_) fun e s' hs=>hs
 have fin:∀{σ':St} {H':Hp} {v:V} {u:Value},Inv (cxOf CX P w K mg base N qual scope f cdv A outer s H E) [] σ' H' s'→RelV v u→Q v H'→CE outer P w H s Q u s' :=
  fun{σ' H' v u} J rv q=>⟨v,H',J.os,J.bare,J.base,J.hok,rv,q⟩
 cases fl with
 |ret u=>
  obtain⟨v,σ',H',J,rv,q⟩:=hs
  exact fin J rv q
 |next=>
  obtain⟨σ',H',J,q⟩:=hs
  exact fin (v:=V.non) (u:=Value.none) J rfl q
 |brk=>
  obtain⟨_,_,_,q⟩:=hs
  exact False.elim q
 |cont=>
  obtain⟨_,_,_,q⟩:=hs
  exact False.elim q
section
variable {X:Cx}{x:Str}{p pos:Pos}{e:Expr}{es:List Expr}{t:TA}{id T:String}{r:List V→Hp→VK→Prop}
def tCB (r:List V→Hp→VK→Prop)(t:TA):TE:=fun σ H Q=>t σ H fun vs H1=>r vs H1 Q
theorem pe_callB (hc:CallR X (.builtin id) r)(hg:Gl X x)(hm:X.mg x=none)(hv:bootBuiltins x=some (.builtin id))(ha:PA X (e::es) t)(hn:x≠"__name__":=by decide)(hdb:(x==("__debug__":Str))=false:=by decide)
  (he:starEach (e::es) X.env=(false,eval e X.env)::starEach es X.env:=by rfl) (hpl:(backTo pos (starEach es X.env)).any (·.1)=false:=by rfl):PE X (.Call (.Name x p) (e::es) [] pos) (tCB r t):=by
 intro pins s σ H Q I h
 refine wpAny_Call_Name_kw (ld_blt I hg hm hv ?_ hn hdb)
 exact PyProof.Rows.callWith_builtin1 (thn (ha pos pins s σ H _ I h) fun us s1 ⟨vs,H1,I1,r1,q1⟩=>hc pins s1 σ H1 vs us Q I1 r1 q1) he hpl
theorem pe_callTy (hc:CallR X (.type T) r)(hg:Gl X x)(hm:X.mg x=none)(hv:bootBuiltins x=some (.type T))(ha:PA X (e::es) t)(hn:x≠"__name__":=by decide)(hdb:(x==("__debug__":Str))=false:=by decide)
  (he:starEach (e::es) X.env=(false,eval e X.env)::starEach es X.env:=by rfl) (hpl:(backTo pos (starEach es X.env)).any (·.1)=false:=by rfl):PE X (.Call (.Name x p) (e::es) [] pos) (tCB r t):=by
 intro pins s σ H Q I h
 refine wpAny_Call_Name_kw (ld_blt I hg hm hv ?_ hn hdb)
 exact PyProof.Rows.callWith_type1 (thn (ha pos pins s σ H _ I h) fun us s1 ⟨vs,H1,I1,r1,q1⟩=>hc pins s1 σ H1 vs us Q I1 r1 q1) he hpl
end
end L2
namespace HT
open PySem PyProof.Rows
section
open PySem.SeqAt
open PySem.AutoSeq1 (wpAny_loadPart')
open PySem.MeetsSeq PySem.MeetsSeq2 PySem.MeetsSeq3
end
section
variable {prog:Program}{w:World}{A:Around}{E:Value→Shared→Prop}{s:Shared}
theorem cat_tup {t b:Addr}{vs ws:List Value}{Q:Value→Shared→Prop}(ht:IsTup s.heap t vs.toArray)(hb:IsTup s.heap b ws.toArray)(hv:vs≠[])
  (h1:ws=[]→Q (.ref t) s) (h2:ws≠[]→Q (.ref s.heap.objs.size) {s with heap:=s.heap.push {cls:=.type "tuple",data:=.seq (vs++ws).toArray}})
  (hsz:vs.length+ws.length≤sizeLine):wpAny (model prog w) A (binaryOp .Add (.ref t) (.ref b)) Q E s:=by
 obtain⟨⟨cls,dd,data,sl⟩,ho,hc,n,hd⟩:=id ht
 obtain⟨⟨cls2,dd2,data2,sl2⟩,ho2,hc2,n2,hd2⟩:=id hb
 simp only at hc hd hc2 hd2
 subst hc hd hc2 hd2
 have e:vs.toArray++ws.toArray=(vs++ws).toArray:=by simp
 by_cases hw:ws=[]
 ·exact concat_meets ⟨_,ho,rfl⟩ ⟨_,ho2,rfl⟩ noFill_tuple_add seq_tuple_add PySem.F.slot_tuple_add PySem.F.entry_tuple_add (PySem.F.args_tuple_add_2 _ _)
   (tuple_addW1 t b vs.toArray ws.toArray n n2 dd dd2 sl sl2 (by simpa using hv) (by simp[hw])) ⟨ho,ho2,h1 hw⟩
 ·refine concat_meets ⟨_,ho,rfl⟩ ⟨_,ho2,rfl⟩ noFill_tuple_add seq_tuple_add PySem.F.slot_tuple_add PySem.F.entry_tuple_add (PySem.F.args_tuple_add_2 _ _)
   (tuple_addW2 t b vs.toArray ws.toArray n n2 dd dd2 sl sl2 (by simpa using hv) (by simpa using hw) (by rw[List.size_toArray,List.size_toArray];exact hsz)) ⟨ho,ho2,?_⟩
  rw[e]
  exact h2 hw
def sIx (n d:Nat):Option Int→Nat
 |none=>d
 |some v=>if v<0 then(v+(n:Int)).toNat else min v.toNat n
theorem sIx_none (n d:Nat):sIx n d none=d:=rfl
theorem sIx_nat (n d k:Nat):sIx n d (some (k:Int))=min k n:=by
 show(if(k:Int)<0 then((k:Int)+(n:Int)).toNat else min (k:Int).toNat n)=min k n
 rw[if_neg (by omega),Int.toNat_natCast]
theorem sIx_le (n d:Nat)(hd:d≤n)(o:Option Int):sIx n d o≤n:=by
 cases o with
 |none=>exact hd
 |some v=>
  show(if v<0 then(v+(n:Int)).toNat else min v.toNat n)≤n
  by_cases hv:v<0
  ·rw[if_pos hv];omega
  ·rw[if_neg hv];exact Nat.min_le_right _ _
theorem clip_eq (v:Int)(n d:Nat):(if v<0 then max (v+(n:Int)) 0 else min v (n:Int))=((sIx n d (some v):Nat):Int):=by
 show(if v<0 then max (v+(n:Int)) 0 else min v (n:Int))=(((if v<0 then(v+(n:Int)).toNat else min v.toNat n):Nat):Int)
 by_cases hv:v<0
 ·simp only[if_pos hv];omega
 ·simp only[if_neg hv];omega
theorem adjust_gen (lo hi:Option Int)(n:Nat):Builtin.Slice.sliceAdjust lo hi 1 (n:Int)=(((sIx n 0 lo:Nat):Int),((sIx n n hi:Nat):Int)):=by
 have h1:¬((1:Int)<0):=by omega
 unfold Builtin.Slice.sliceAdjust
 simp only[h1,if_false]
 refine Prod.ext ?_ ?_
 ·cases lo with
  |none=>rfl
  |some v=>exact clip_eq v n 0
 ·cases hi with
  |none=>rfl
  |some v=>exact clip_eq v n n
theorem places_gen (i j:Nat):Builtin.Slice.slicePlaces (i:Int) (j:Int) 1=j-i:=by
 unfold Builtin.Slice.slicePlaces
 have h1:(1:Int)>0:=by omega
 simp only[h1,if_true,Int.ediv_one]
 split<;>omega
theorem slicePart_ {v:Value}{o:Option Int}{Q:Option Int→Shared→Prop}(p:IsPart v o)(h:Q o s):wpAny (model prog w) A (Builtin.Slice.slicePartIndex v) Q E s:=by
 cases p with
 |none=>exact slicePart_none h
 |int i t=>exact slicePart_int h
theorem sliceApplied_gen {sl:Addr}{vl vu:Value}{lo hi:Option Int}{n:Nat}{Q:Int×Int×Nat→Shared→Prop}(hs:s.heap.IsSliceOf sl vl vu .none)(pl:IsPart vl lo)(pu:IsPart vu hi)
  (h:Q (((sIx n 0 lo:Nat):Int),1,sIx n n hi-sIx n 0 lo) s):wpAny (model prog w) A (Builtin.Slice.sliceApplied (.ref sl) (pure (n:Int))) Q E s:=by
 obtain⟨os,hos,hcs,hds⟩:=id hs
 unfold Builtin.Slice.sliceApplied Builtin.Slice.sliceFields
 refine wpAny_bind (wpAny_bind (wpAny_field hos hds (x:=vl) rfl (wpAny_bind (wpAny_field hos hds (x:=vu) rfl (wpAny_bind (wpAny_field hos hds (x:=.none) rfl (wpAny_pure ?_)))))))
 refine wpAny_bind (slicePart_none ?_)
 show wpAny _ _ (if((1:Int)==0)=true then _ else _) _ _ s
 rw[if_neg (by decide)]
 refine wpAny_bind (slicePart_ pl (wpAny_bind (slicePart_ pu (wpAny_bind (wpAny_pure ?_)))))
 show wpAny _ _ (match Builtin.Slice.sliceAdjust lo hi 1 (n:Int) with|(lo,hi)=>pure (lo,(1:Int),Builtin.Slice.slicePlaces lo hi 1)) _ _ s
 rw[adjust_gen lo hi n]
 show wpAny _ _ (pure (((sIx n 0 lo:Nat):Int),(1:Int),Builtin.Slice.slicePlaces ((sIx n 0 lo:Nat):Int) ((sIx n n hi:Nat):Int) 1)) _ _ s
 rw[places_gen]
 exact wpAny_pure h
theorem pick_gen (xs:Array Value)(i k:Nat):((List.range k).filterMap fun(m:Nat)=>xs[((i:Int)+(m:Int)*1).toNat]?).toArray=((xs.toList.drop i).take k).toArray:=by
 have e:(fun(m:Nat)=>xs[((i:Int)+(m:Int)*1).toNat]?)=fun m=>xs[i+m]?:=by
  funext m
  have:((i:Int)+(m:Int)*1).toNat=i+m:=by omega
  rw[this]
 rw[e]
 have:=pick_run xs i k
 rw[List.filterMap_map]at this
 have e2:((fun x=>xs[x]?)∘fun x=>i+x)=fun m=>xs[i+m]?:=rfl
 rw[e2]at this
 rw[this]
theorem getItem_tuple_cut {t sl:Addr}{items:Array Value}{vl vu:Value}{lo hi:Option Int}{Q:Value→Shared→Prop}(ht:IsTup s.heap t items)(hs:s.heap.IsSliceOf sl vl vu .none)(pl:IsPart vl lo)(pu:IsPart vu hi)
  (hw:¬(sIx items.size 0 lo=0∧sIx items.size items.size hi=items.size))
  (h:Q (.ref s.heap.objs.size) {s with heap:=s.heap.push {cls:=.type "tuple",data:=.seq ((items.toList.drop (sIx items.size 0 lo)).take (sIx items.size items.size hi-sIx items.size 0 lo)).toArray}})
  (hsz:items.size≤sizeLine):wpAny (model prog w) A (getItem (.ref t) (.ref sl)) Q E s:=by
 have htake:sizeOk (.seq ((items.toList.drop (sIx items.size 0 lo)).take (sIx items.size items.size hi-sIx items.size 0 lo)).toArray):=by
  show((items.toList.drop (sIx items.size 0 lo)).take (sIx items.size items.size hi-sIx items.size 0 lo)).toArray.size≤sizeLine
  rw[List.size_toArray,List.length_take,List.length_drop,Array.length_toList]
  omega
 have hj:sIx items.size items.size hi≤items.size:=sIx_le _ _ (Nat.le_refl _) hi
 obtain⟨os,hos,hcs,hds⟩:=id hs
 have hTs:s.TypeIs (.ref sl) "slice":=⟨os,hos,hcs⟩
 unfold getItem
 try with_reducible refine wpAny_holding ?_
 first|refine wpAny_bind (wpAny_pure ?_)|skip
 refine wpAny_bind (wpAny_sequenceKey ht.typeIs (by decide) ?_)
 refine wpAny_bind (wpAny_callSpecial?_slot (name:=Str.ofString "__getitem__") ht.typeIs PyProof.Rows.slot_tuple_getitem
  (wpAny_call_entry PyProof.Rows.slot_tuple_getitem ht.typeIs entry_tuple_getitem ?_ (args_tuple_getitem _ _)))
 show wpAny _ _ (Builtin.Tuple.tupleItemsOf (.ref t)>>=_) _ _ s
 refine wpAny_bind (tupleItemsOf_ ht ?_)
 refine wpAny_bind (wpAny_typeOf hTs ?_)
 rw[if_pos (by decide)]
 refine wpAny_bind (sliceApplied_gen hs pl pu ?_)
 have hno:¬((((sIx items.size 0 lo:Nat):Int)==0&&(1:Int)==1&&(sIx items.size items.size hi-sIx items.size 0 lo)==items.size)=true):=by
  intro q
  rw[Bool.and_eq_true,Bool.and_eq_true]at q
  have q1:((sIx items.size 0 lo:Nat):Int)=0:=eq_of_beq q.1.1
  have q2:sIx items.size items.size hi-sIx items.size 0 lo=items.size:=eq_of_beq q.2
  exact hw ⟨by omega,by omega⟩
 show wpAny _ _ (if(((sIx items.size 0 lo:Nat):Int)==0&&(1:Int)==1&&(sIx items.size items.size hi-sIx items.size 0 lo)==items.size)=true then _ else _) _ _ s
 rw[if_neg hno,pick_gen]
 first
  |exact wpAny_bind (m:=Builtin.Tuple.tupleExact _) (wpAny_newObj_type (wpAny_pure ⟨_,rfl,wpAny_pure h⟩) htake)
  |exact wpAny_bind (m:=Builtin.Tuple.tupleExact _) (wpAny_newObj_type (wpAny_bind (wpAny_pure (wpAny_pure ⟨_,rfl,wpAny_pure h⟩))) htake)
  |exact wpAny_bind (wpAny_bind (m:=Builtin.Tuple.tupleExact _) (wpAny_newObj_type (wpAny_pure (wpAny_pure ⟨_,rfl,wpAny_pure h⟩)) htake))
  |exact wpAny_bind (wpAny_bind (m:=Builtin.Tuple.tupleExact _) (wpAny_newObj_type (wpAny_pure ⟨_,rfl,wpAny_pure h⟩) htake))
end
end HT
namespace L2
open PySem PySem.Spec PyProof.Rows
abbrev TO:=St→Hp→(Option Int→Hp→Prop)→Prop
def PO (X:Cx)(e:Option Expr)(t:TO):Prop :=
 ∀(pins:List (Addr×Obj)) (s:Shared) (σ:St) (H:Hp) (Q:Option Int→Hp→Prop),Inv X pins σ H s→t σ H Q→
  wpAny (model X.prog X.w) X.A (evalPart e X.env) (fun u s'=>∃o H',Inv X pins σ H' s'∧IsPart u o∧Q o H') X.xe s
def tNoPart:TO:=fun _ H Q=>Q none H
inductive tPart_ (Q:Option Int→Hp→Prop)(x:V)(H1:Hp):Prop where
 |mk (i):(x=.int i)→(Q (some i) H1)→tPart_ Q x H1
def tPart (t:TE):TO:=fun σ H Q=>t σ H (tPart_ Q)
section
variable {X:Cx}{e:Expr}{te:TE}{lo hi:Option Expr}{tl th:TO}{pos p2:Pos}
theorem po_none:PO X none tNoPart:=by
 intro pins s σ H Q I h
 rw[evalPart_none]
 exact wpAny_pure ⟨none,H,I, .none,h⟩
theorem po_some (h:PE X e te):PO X (some e) (tPart te):=by
 intro pins s σ H Q I hw
 rw[evalPart_some]
 refine thn (h pins s σ H _ I hw) fun u s1 ⟨x,H1,I1,r1,q1⟩=>?_
 obtain⟨i,rfl,q⟩:=q1
 obtain⟨t,rfl⟩:=r1
 exact⟨some i,H1,I1, .int i t,q⟩
def SlR (X:Cx)(r:V→Option Int→Option Int→Hp→VK→Prop):Prop :=
 ∀(pins:List (Addr×Obj)) (s:Shared) (σ:St) (H:Hp) (x:V) (v vl vu:Value) (lo hi:Option Int) (sl:Addr) (Q:VK),Inv X pins σ H s→RelV x v→s.heap.IsSliceOf sl vl vu .none→IsPart vl lo→IsPart vu hi→r x lo hi H Q→
  ∃T id,typeLookup (.type T) "__getitem__"=pure (some (.builtin id))∧s.TypeIs v T∧wpAny (model X.prog X.w) X.A (getItem v (.ref sl)) (EP X pins σ Q) X.xe s
def tSl (r:V→Option Int→Option Int→Hp→VK→Prop)(te:TE)(tl th:TO):TE:=fun σ H Q=>te σ H fun x H1=>tl σ H1 fun l H2=>th σ H2 fun u H3=>r x l u H3 Q
theorem pe_slice {r:V→Option Int→Option Int→Hp→VK→Prop}(hr:SlR X r)(he:PE X e te)(hl:PO X lo tl)(hu:PO X hi th):PE X (.Subscript e (.Slice lo hi none p2) pos) (tSl r te tl th):=by
 intro pins s σ H Q I h
 refine Subscript_ (thn (he pins s σ H _ I h) fun v s1 ⟨x,H1,I1,r1,q1⟩=>?_)
 refine wpAny_Slice (thn (hl pins s1 σ H1 _ I1 q1) fun vl s2 ⟨l,H2,I2,pl,q2⟩=>thn (hu pins s2 σ H2 _ I2 q2) fun vu s3 ⟨u,H3,I3,pu,q3⟩=>?_)
 rw[evalPart_none]
 refine wpAny_pure ?_
 have I4:Inv X pins σ H3 {s3 with heap:=s3.heap.push {cls:=.type "slice",data:=.fields #[vl,vu, .none]}}:=I3.kept (t':=s3.toks) fun b ob q=>Heap.get?_push_of_some _ q
 obtain⟨T,id,hT,ht,hg⟩:=hr pins {s3 with heap:=s3.heap.push {cls:=.type "slice",data:=.fields #[vl,vu, .none]}} σ H3 x v vl vu l u s3.heap.objs.size Q I4 r1 (Heap.IsSliceOf.new ..) pl pu q3
 show wpAny (model X.prog X.w) X.A (subscriptTail e (.Slice lo hi none p2) v (.ref s3.heap.objs.size)) (EP X pins σ Q) X.xe {s3 with heap:=s3.heap.push {cls:=.type "slice",data:=.fields #[vl,vu, .none]}}
 exact tail_any (ops:=[.ref s3.heap.objs.size,v]) ht hT hg (by with_unfolding_all rfl)
def cutV (xs:List V)(lo hi:Option Int):List V:=(xs.drop (HT.sIx xs.length 0 lo)).take (HT.sIx xs.length xs.length hi-HT.sIx xs.length 0 lo)
theorem cutV_length (xs:List V)(lo hi:Option Int):(cutV xs lo hi).length≤xs.length:=by
 unfold cutV
 rw[List.length_take,List.length_drop]
 omega
inductive rSlT_ (K:PySem.W.Frag)(x:V)(lo:Option Int)(hi:Option Int)(H:Hp)(Q:VK):Prop where
 |mk (a) (xs):(x=.ref a)→(SqT K H a xs)→(¬(HT.sIx xs.length 0 lo=0∧HT.sIx xs.length xs.length hi=xs.length))→(∀p,H p=none→Q (.ref p) (upd H p (.tup (cutV xs lo hi))))→rSlT_ K x lo hi H Q
def rSlT (K:PySem.W.Frag):V→Option Int→Option Int→Hp→VK→Prop:=rSlT_ K
theorem sl_tup:SlR X (rSlT X.K):=by
 intro pins s σ H x v vl vu lo hi sl Q I rx hs pl pu h
 obtain⟨a,xs,rfl,hx,hw,q⟩:=h
 cases rx
 obtain⟨its,r,ht,hz⟩:=I.tuple hx
 have hlen:its.toArray.size=xs.length:=by rw[List.size_toArray];exact r.length.symm
 refine⟨"tuple",_,PyProof.Rows.slot_tuple_getitem.lookup,ht.typeIs,?_⟩
 refine HT.getItem_tuple_cut ht hs pl pu (by rw[hlen];exact hw) ?_ (by rw[hlen];exact hz)
 rw[hlen]
 refine⟨.ref s.heap.objs.size,_,I.laid (t':=s.toks) (o:=.tup (cutV xs lo hi)) (fun b ob q=>Heap.get?_push_of_some _ q) (Nat.le_refl _) ?_,rfl,q _ (I.hok.fresh (Nat.le_refl _))⟩
 exact⟨Nat.le_trans (cutV_length xs lo hi) hz,_,(r.drop (HT.sIx xs.length 0 lo)).take (HT.sIx xs.length xs.length hi-HT.sIx xs.length 0 lo),IsTup.new _ _⟩
inductive rCatT_ (K:PySem.W.Frag)(x:V)(y:V)(H:Hp)(Q:VK):Prop where
 |mk (a) (b) (xs) (ys):(x=.ref a)→(y=.ref b)→(SqT K H a xs)→(SqT K H b ys)→(xs≠[])→(xs.length+ys.length≤sizeLine)→((ys=[]→Q (.ref a) H))→((ys≠[]→∀p,H p=none→Q (.ref p) (upd H p (.tup (xs++ys)))))→rCatT_ K x y H Q
def rCatT (K:PySem.W.Frag):R2:=rCatT_ K
theorem Vals.nil_iff {xs:List V}{us:List Value}(r:Vals xs us):us=[]↔xs=[]:=by
 cases r with
 |nil=>simp
 |cons _ _=>simp
theorem op_catT:OpR X (binaryOp .Add) (rCatT X.K):=by
 intro pins s σ H x y v u Q I rx ry h
 obtain⟨a,b,xs,ys,rfl,rfl,ha,hb,hx,hz,q1,q2⟩:=h
 cases rx
 cases ry
 obtain⟨its,r1,p1,_⟩:=I.tuple ha
 obtain⟨its2,r2,p2,_⟩:=I.tuple hb
 refine HT.cat_tup p1 p2 (fun z=>hx (r1.nil_iff.mp z)) (fun z=>⟨.ref a,H,I,rfl,q1 (r2.nil_iff.mp z)⟩) (fun z=>?_) (by rw[←r1.length,←r2.length];exact hz)
 refine⟨.ref s.heap.objs.size,_,I.laid (t':=s.toks) (o:=.tup (xs++ys)) (fun b ob q=>Heap.get?_push_of_some _ q) (Nat.le_refl _) ?_,rfl,q2 (fun w=>z (r2.nil_iff.mpr w)) _ (I.hok.fresh (Nat.le_refl _))⟩
 exact⟨by rw[List.length_append];exact hz,_,r1.append r2,IsTup.new _ _⟩
end
def ixN (n:Nat)(i:Int):Option Nat:=if 0≤i then(if i<n then some i.toNat else none) else if -(n:Int)≤i then some (i+n).toNat else none
def atI {α:Type}(xs:List α)(i:Int):Option α:=(ixN xs.length i).bind fun j=>xs[j]?
theorem ixN_seq {n:Nat}{i:Int}{j:Nat}(h:ixN n i=some j):seqIndex? i n=some j∧j<n∧-(n:Int)≤i∧i<n:=by
 unfold ixN at h
 by_cases h0:0≤i
 ·rw[if_pos h0]at h
  by_cases h1:i<n
  ·rw[if_pos h1]at h
   have e:i.toNat=j:=Option.some.inj h
   exact⟨by rw[seqIndex_of h0 h1,e],by omega,by omega,h1⟩
  ·rw[if_neg h1]at h;cases h
 ·rw[if_neg h0]at h
  by_cases h1: -(n:Int)≤i
  ·rw[if_pos h1]at h
   have e:(i+n).toNat=j:=Option.some.inj h
   exact⟨by rw[seqIndex_neg (by omega) h1,e],by omega,h1,by omega⟩
  ·rw[if_neg h1]at h;cases h
theorem atI_get {α:Type}{xs:List α}{i:Int}{v:α}(h:atI xs i=some v):∃j,seqIndex? i xs.length=some j∧xs[j]?=some v∧j<xs.length∧-(xs.length:Int)≤i∧i<xs.length:=by
 unfold atI at h
 cases e:ixN xs.length i with
 |none=>rw[e]at h;cases h
 |some j=>
  rw[e]at h
  obtain⟨h1,h2,h3,h4⟩:=ixN_seq e
  exact⟨j,h1,h,h2,h3,h4⟩
theorem atI_nat {α:Type}{xs:List α}{j:Nat}{v:α}(h:xs[j]?=some v):atI xs (j:Int)=some v:=by
 have hj:j<xs.length:=(List.getElem?_eq_some_iff.mp h).1
 have e:ixN xs.length (j:Int)=some j:=by
  unfold ixN
  rw[if_pos (by omega),if_pos (by omega)];simp
 unfold atI;rw[e];exact h
theorem atI_last {α:Type}(xs:List α)(v:α):atI (xs++[v]) (-1)=some v:=by
 have hl:(xs++[v]).length=xs.length+1:=by simp
 have e:ixN (xs++[v]).length (-1)=some xs.length:=by
  unfold ixN
  rw[hl,if_neg (by decide),if_pos (by omega)]
  congr 1
  omega
 unfold atI
 rw[e]
 show(xs++[v])[xs.length]?=some v
 simp
def PlainIx (b:Expr):Prop:=∀o i,subscripted b false o i=operate [o,i] (getItem o i)
def IxR (X:Cx)(r:R2):Prop :=
 ∀(value slice:Expr) (pins:List (Addr×Obj)) (s:Shared) (σ:St) (H:Hp) (x y:V) (v u:Value) (Q:VK),Inv X pins σ H s→RelV x v→RelV y u→r x y H Q→
  subscripted slice false v u=operate [v,u] (getItem v u)→wpAny (model X.prog X.w) X.A (subscriptTail value slice v u) (EP X pins σ Q) X.xe s
def MtR (X:Cx)(id:String)(r:V→List V→Hp→VK→Prop):Prop :=
 ∀(pins:List (Addr×Obj)) (s:Shared) (σ:St) (H:Hp) (x:V) (xs:List V) (v:Value) (us:List Value) (Q:VK),Inv X pins σ H s→RelV x v→Vals xs us→r x xs H Q→
  wpAny (model X.prog X.w) X.A (call (.builtin id) (v::us)) (EP X pins σ Q) X.xe s
section
variable {X:Cx}{a b:Expr}{ta tb:TE}{pos:Pos}
theorem pe_ix {r:R2}(hr:IxR X r)(ha:PE X a ta)(hb:PE X b tb)(hs:PlainIx b:=by intro _ _;rfl):PE X (.Subscript a b pos) (tOp r ta tb):=by
 intro pins s σ H Q I h
 exact Subscript_ (binT ha hb I h fun v u s2 x y H2 I2 rx ry q=>hr a b pins s2 σ H2 x y v u Q I2 rx ry q (hs _ _))
inductive rIxL_ (K:PySem.W.Frag)(x:V)(y:V)(H:Hp)(Q:VK):Prop where
 |mk (p) (xs) (i) (v):(x=.ref p)→(y=.int i)→(SqL K H p xs)→(atI xs i=some v)→(Q v H)→rIxL_ K x y H Q
def rIxL (K:PySem.W.Frag):R2:=rIxL_ K
inductive rIxT_ (K:PySem.W.Frag)(x:V)(y:V)(H:Hp)(Q:VK):Prop where
 |mk (p) (xs) (i) (v):(x=.ref p)→(y=.int i)→(SqT K H p xs)→(atI xs i=some v)→(Q v H)→rIxT_ K x y H Q
def rIxT (K:PySem.W.Frag):R2:=rIxT_ K
def rIxS:R2:=fun x y H Q=>∃z i c,x=.str z∧y=.int i∧z.length≤sizeLine∧atI z.cps.toList i=some c∧Q (.str ⟨#[c]⟩) H
theorem ix_list:IxR X (rIxL X.K):=by
 intro value slice pins s σ H x y v u Q I rx ry h hs
 obtain⟨p,xs,i,z,rfl,rfl,hq,he,q⟩:=h
 cases rx
 obtain⟨t,rfl⟩:=ry
 obtain⟨its,r,pl,hz⟩:=I.list hq
 obtain⟨j,h1,h2,h3,h4,h5⟩:=atI_get he
 obtain⟨w,ew,rw'⟩:=r.get h2
 have hl:=r.length
 have hn:=line63
 have fin:EP X pins σ Q w s:=⟨z,H,I,rw',q⟩
 by_cases h0:0≤i
 ·have hj:i.toNat=j:=by
   rw[seqIndex_of h0 h5]at h1
   exact Option.some.inj h1
  exact item_listR pl.isList h0 (by omega) (by rw[hj];simpa using ew) fin hs
 ·have hj:(i+(its.toArray.size:Int)).toNat=j:=by
   rw[seqIndex_neg (by omega) h4]at h1
   rw[List.size_toArray,←hl]
   exact Option.some.inj h1
  exact subscriptTail_builtinR (x:=w) pl.isList.typeIs slot_list_getitem.lookup
   (wpAny_getItem_list_neg (Q:=fun r s'=>r=w∧EP X pins σ Q r s') pl.isList (by omega) (by rw[List.size_toArray]<;>omega) (by omega) (by rw[hj];simpa using ew) ⟨rfl,fin⟩) hs
theorem ix_tup:IxR X (rIxT X.K):=by
 intro value slice pins s σ H x y v u Q I rx ry h hs
 obtain⟨p,xs,i,z,rfl,rfl,hq,he,q⟩:=h
 cases rx
 obtain⟨t,rfl⟩:=ry
 obtain⟨its,r,pl,hz⟩:=I.tuple hq
 obtain⟨j,h1,h2,h3,h4,h5⟩:=atI_get he
 obtain⟨w,ew,rw'⟩:=r.get h2
 have hl:=r.length
 have hn:=line63
 have fin:EP X pins σ Q w s:=⟨z,H,I,rw',q⟩
 exact subscriptTail_builtinR (x:=w) pl.typeIs slot_tuple_getitem.lookup
  (getItem_tuple (j:=j) (Q:=fun r s'=>r=w∧EP X pins σ Q r s') pl (by omega) (by omega) (by rw[List.size_toArray,←hl];exact h1) (by simpa using ew) ⟨rfl,fin⟩) hs
theorem ix_str:IxR X rIxS:=by
 intro value slice pins s σ H x y v u Q I rx ry h hs
 obtain⟨z,i,c,rfl,rfl,hz,he,q⟩:=h
 obtain⟨t,rfl⟩:=rx
 obtain⟨t',rfl⟩:=ry
 obtain⟨j,h1,h2,h3,h4,h5⟩:=atI_get he
 have hl:z.cps.toList.length=z.length:=by simp[Str.length]
 rw[hl]at h1 h4 h5
 have hn:=line63
 exact tail_any (typeIs_str s z t) slot_str_getitem.lookup (getItem_str (c:=c) (by
  have e1:decide (i< -(2^63:Int))=false:=decide_eq_false (by omega)
  have e2:decide (i≥2^63)=false:=decide_eq_false (by omega)
  rw[e1,e2,Bool.or_false]) (by rw[h1];simpa using h2) ⟨.str ⟨#[c]⟩,H,I.tok _,⟨_,rfl⟩,q⟩) hs
theorem mapSeq_set (its:List Value)(n j:Nat)(u:Value):Obj.mapSeq (·.setIfInBounds j u) {cls:=.type "list",data:=.seq its.toArray n}={cls:=.type "list",data:=.seq (its.set j u).toArray n}:=by
 simp[Obj.mapSeq]
theorem Inv.lst {pins:List (Addr×Obj)}{σ:St}{H:Hp}{s:Shared}{p:Addr}{xs:List V}(I:Inv X pins σ H s)(h:H p=some (.lst xs)):
  ∃(its:List Value) (n:Nat),Vals xs its∧s.heap.get? p=some {cls:=.type "list",data:=.seq its.toArray n}∧xs.length≤sizeLine:=by
 obtain⟨z,its,n,r,e⟩:=I.hok p _ h
 exact⟨its,n,r,e,z⟩
theorem Inv.lstUpd {pins:List (Addr×Obj)}{σ:St}{H:Hp}{s:Shared}{p:Addr}{xs ys:List V}{its its':List Value}{n n':Nat}{f:Obj→Obj}(I:Inv X pins σ H s)(h:H p=some (.lst xs))
  (ho:s.heap.get? p=some {cls:=.type "list",data:=.seq its.toArray n}) (hf:f {cls:=.type "list",data:=.seq its.toArray n}={cls:=.type "list",data:=.seq its'.toArray n'}) (r:Vals ys its') (hz:ys.length≤sizeLine) (t:Nat):
  Inv X pins σ (upd H p (.lst ys)) {s with heap:=s.heap.update p f,toks:=t}:=by
 have e:(s.heap.update p f).get? p=some {cls:=.type "list",data:=.seq its'.toArray n'}:=by
  rw[Heap.get?_update_self f ho (by rw[hf]<;>rfl),hf]
 refine I.write (x:=p) (e:=p) (by rw[h];trivial) (.inl rfl) (fun b u hb q=>(Heap.get?_update_other _ _ (Ne.symm hb)).trans q) ⟨_,e⟩ ?_
 exact⟨hz,its',n',r,e⟩
inductive rSetL_ (o:V)(i:V)(v:V)(H:Hp)(Q:Hp→Prop):Prop where
 |mk (p) (xs) (k) (j):(o=.ref p)→(i=.int k)→(H p=some (.lst xs))→(ixN xs.length k=some j)→(Q (upd H p (.lst (xs.set j v))))→rSetL_ o i v H Q
def rSetL:V→V→V→Hp→(Hp→Prop)→Prop:=rSetL_
theorem set_list:PSet X rSetL:=by
 intro pins s σ H o i v ov iv u Q I ro ri rv h
 obtain⟨p,xs,k,j,rfl,rfl,hp,hj,q⟩:=h
 cases ro
 obtain⟨t,rfl⟩:=ri
 obtain⟨its,n,r,ho,hz⟩:=I.lst hp
 obtain⟨h1,h2,h3,h4⟩:=ixN_seq hj
 have hl:=r.length
 have hn:=line63
 have I':Inv X pins σ (upd H p (.lst (xs.set j v))) {s with heap:=s.heap.update p (Obj.mapSeq (·.setIfInBounds j u))} :=
  I.lstUpd hp ho (mapSeq_set its n j u) (r.set rv j) (by rw[List.length_set];exact hz) s.toks
 by_cases h0:0≤k
 ·have hk:k.toNat=j:=by
   rw[seqIndex_of h0 h4]at h1
   exact Option.some.inj h1
  exact PySem.W.ki_setAt ho h0 (by omega) (by rw[List.size_toArray,←hl];exact h4) (by rw[hk];exact⟨_,I',q⟩)
 ·have hk:(k+(its.toArray.size:Int)).toNat=j:=by
   rw[seqIndex_neg (by omega) h3]at h1
   rw[List.size_toArray,←hl]
   exact Option.some.inj h1
  exact PySem.W.ki_setBack ho (by omega) (by rw[List.size_toArray,←hl];exact h3) (by omega) (by rw[hk];exact⟨_,I',q⟩)
theorem slice_bounds (lo hi:Option Int)(n:Nat):(sliceBounds lo hi none n).1=((HT.sIx n 0 lo:Nat):Int)∧(sliceBounds lo hi none n).2.1=((HT.sIx n n hi:Nat):Int)∧(sliceBounds lo hi none n).2.2=1:=by
 refine⟨?_,?_,rfl⟩
 ·cases lo with
  |none=>simp[sliceBounds,HT.sIx]
  |some i=>
   simp only[sliceBounds,HT.sIx,Option.getD_none,show(1:Int)>0 by decide,if_true]
   by_cases h:i<0
   ·simp only[h,if_true]<;>omega
   ·simp only[h,if_false]<;>omega
 ·cases hi with
  |none=>simp[sliceBounds,HT.sIx]
  |some i=>
   simp only[sliceBounds,HT.sIx,Option.getD_none,show(1:Int)>0 by decide,if_true]
   by_cases h:i<0
   ·simp only[h,if_true]<;>omega
   ·simp only[h,if_false]<;>omega
theorem slicePick_cut (its:List Value)(lo hi:Option Int):slicePick its.toArray lo hi none=((its.drop (HT.sIx its.length 0 lo)).take (HT.sIx its.length its.length hi-HT.sIx its.length 0 lo)).toArray:=by
 obtain⟨h1,h2,h3⟩:=slice_bounds lo hi its.toArray.size
 unfold slicePick
 rw[h1,h2,h3]
 simp only[sliceRange_one,pick_run,List.size_toArray]<;>rfl
def rSlL (K:PySem.W.Frag):V→Option Int→Option Int→Hp→VK→Prop:=fun x lo hi H Q=>∃a xs,x=.ref a∧SqL K H a xs∧∀p,H p=none→Q (.ref p) (upd H p (.lst (cutV xs lo hi)))
theorem sl_list:SlR X (rSlL X.K):=by
 intro pins s σ H x v vl vu lo hi sl Q I rx hs pl pu h
 obtain⟨a,xs,rfl,hx,q⟩:=h
 cases rx
 obtain⟨its,r,ht,hz⟩:=I.list hx
 have hlen:=r.length
 refine⟨"list",_,slot_list_getitem.lookup,ht.isList.typeIs,?_⟩
 refine wpAny_getItem_list_slice ht.isList hs pl pu .none (by simp) ?_ (by rw[List.size_toArray]<;>omega)
 rw[slicePick_cut,←hlen]
 refine⟨.ref s.heap.objs.size,_,I.laid (t':=s.toks) (o:=.lst (cutV xs lo hi)) (fun b ob q=>Heap.get?_push_of_some _ q) (Nat.le_refl _) ?_,rfl,q _ (I.hok.fresh (Nat.le_refl _))⟩
 exact⟨Nat.le_trans (cutV_length xs lo hi) hz,_,0,(r.drop (HT.sIx xs.length 0 lo)).take (HT.sIx xs.length xs.length hi-HT.sIx xs.length 0 lo),Heap.get?_push_size _ rfl⟩
def flatV:V→Bool
 |.non=>true
 |.bl _=>true
 |.int _=>true
 |.str _=>true
 |_=>false
def eqV:V→V→Bool
 |.non, .non=>true
 |.bl a, .bl b=>a==b
 |.bl a, .int b=>(if a then 1 else 0)==b
 |.int a, .bl b=>a==(if b then 1 else 0)
 |.int a, .int b=>a==b
 |.str a, .str b=>a==b
 |_,_=>false
theorem eqAt_V {A:Around}{s:Shared}{y x:V}{u v:Value}(ry:RelV y u)(rx:RelV x v)(fy:flatV y=true)(fx:flatV x=true):SeqAt.EqAt A s u v (eqV y x):=by
 cases y with
 |non=>
  cases ry
  cases x with
  |non=>cases rx;exact SeqAt.EqAt.same _
  |bl b=>cases rx;exact SeqAt.EqAt.none_bool b
  |int b=>obtain⟨t,rfl⟩:=rx;exact SeqAt.EqAt.none_int b t
  |str b=>obtain⟨t,rfl⟩:=rx;exact SeqAt.EqAt.none_str b t
  |_=>exact absurd (show false=true from fx) Bool.false_ne_true
 |bl a=>
  cases ry
  cases x with
  |non=>cases rx;exact SeqAt.EqAt.bool_none a
  |bl b=>cases rx;exact SeqAt.EqAt.bool_bool a b
  |int b=>obtain⟨t,rfl⟩:=rx;exact SeqAt.EqAt.bool_int a b t
  |str b=>obtain⟨t,rfl⟩:=rx;exact SeqAt.EqAt.bool_str a b t
  |_=>exact absurd (show false=true from fx) Bool.false_ne_true
 |int a=>
  obtain⟨t',rfl⟩:=ry
  cases x with
  |non=>cases rx;exact SeqAt.EqAt.int_none a t'
  |bl b=>cases rx;exact SeqAt.EqAt.int_bool a t' b
  |int b=>obtain⟨t,rfl⟩:=rx;exact SeqAt.EqAt.int_int a t' b t
  |str b=>obtain⟨t,rfl⟩:=rx;exact SeqAt.EqAt.int_str a t' b t
  |_=>exact absurd (show false=true from fx) Bool.false_ne_true
 |str a=>
  obtain⟨t',rfl⟩:=ry
  cases x with
  |non=>cases rx;exact SeqAt.EqAt.str_none a t'
  |bl b=>cases rx;exact SeqAt.EqAt.str_bool a t' b
  |int b=>obtain⟨t,rfl⟩:=rx;exact SeqAt.EqAt.str_int a t' b t
  |str b=>obtain⟨t,rfl⟩:=rx;exact SeqAt.EqAt.str_str a t' b t
  |_=>exact absurd (show false=true from fx) Bool.false_ne_true
 |_=>exact absurd (show false=true from fy) Bool.false_ne_true
def eqU (x:V)(u:Value):Bool:=match u with
 |.none=>eqV .non x
 |.bool b=>eqV (.bl b) x
 |.int i _=>eqV (.int i) x
 |.str z _=>eqV (.str z) x
 |_=>false
theorem eqU_of {x y:V}{u:Value}(r:RelV y u)(f:flatV y=true):eqU x u=eqV y x:=by
 cases y with
 |non=>cases r;rfl
 |bl b=>cases r;rfl
 |int i=>obtain⟨t,rfl⟩:=r;rfl
 |str z=>obtain⟨t,rfl⟩:=r;rfl
 |_=>exact absurd (show false=true from f) Bool.false_ne_true
theorem any_eqU {x:V}{xs:List V}{us:List Value}(h:Vals xs us)(f:xs.all flatV=true):us.any (eqU x)=xs.any fun y=>eqV y x:=by
 induction h with
 |nil=>rfl
 |cons r _ ih=>
  rw[List.all_cons,Bool.and_eq_true]at f
  rw[List.any_cons,List.any_cons,eqU_of r f.1,ih f.2]
theorem mem_eqAt {A:Around}{s:Shared}{x:V}{v:Value}(rx:RelV x v)(fx:flatV x=true){xs:List V}{us:List Value}(h:Vals xs us)(f:xs.all flatV=true):∀u∈us,SeqAt.EqAt A s u v (eqU x u):=by
 induction h with
 |nil=>exact fun u hu=>by cases hu
 |cons r _ ih=>
  intro u' hu
  rw[List.all_cons,Bool.and_eq_true]at f
  rcases List.mem_cons.mp hu with rfl|hu
  ·rw[eqU_of r f.1];exact eqAt_V r rx f.1 fx
  ·exact ih f.2 u' hu
def inV (x:V)(xs:List V):Bool:=xs.any fun y=>eqV y x
inductive rIn_ (K:PySem.W.Frag)(neg:Bool)(x:V)(y:V)(H:Hp)(Q:VK):Prop where
 |mk (p) (xs):(y=.ref p)→((SqL K H p xs∨SqT K H p xs))→(flatV x=true)→(xs.all flatV=true)→(Q (.bl (if neg then !inV x xs else inV x xs)) H)→rIn_ K neg x y H Q
def rIn (K:PySem.W.Frag)(neg:Bool):R2:=rIn_ K neg
theorem op_in_seq:OpR X (compareOp .In) (rIn X.K false):=by
 intro pins s σ H x y v u Q I rx ry h
 obtain⟨p,xs,rfl,hq,fx,fs,q⟩:=h
 cases ry
 rcases hq with hq|hq
 ·obtain⟨its,r,pl,hz⟩:=I.list hq
  refine SeqAt.in_listAt (eqU x) pl.isList (fun w hw=>mem_eqAt rx fx r fs w (by simpa using hw)) ⟨.bl _,H,I,rfl,?_⟩
  rw[show its.toArray.any (eqU x)=its.any (eqU x) by simp,any_eqU r fs]
  exact q
 ·obtain⟨its,r,pl,hz⟩:=I.tuple hq
  refine SeqAt.in_tupleAt (eqU x) pl (fun w hw=>mem_eqAt rx fx r fs w (by simpa using hw)) ⟨.bl _,H,I,rfl,?_⟩
  rw[show its.toArray.any (eqU x)=its.any (eqU x) by simp,any_eqU r fs]
  exact q
theorem op_notIn_seq:OpR X (compareOp .NotIn) (rIn X.K true):=by
 intro pins s σ H x y v u Q I rx ry h
 obtain⟨p,xs,rfl,hq,fx,fs,q⟩:=h
 cases ry
 rcases hq with hq|hq
 ·obtain⟨its,r,pl,hz⟩:=I.list hq
  refine SeqAt.notIn_listAt (eqU x) pl.isList (fun w hw=>mem_eqAt rx fx r fs w (by simpa using hw)) ⟨.bl _,H,I,rfl,?_⟩
  rw[show its.toArray.any (eqU x)=its.any (eqU x) by simp,any_eqU r fs]
  exact q
 ·obtain⟨its,r,pl,hz⟩:=I.tuple hq
  refine SeqAt.notIn_tupleAt (eqU x) pl (fun w hw=>mem_eqAt rx fx r fs w (by simpa using hw)) ⟨.bl _,H,I,rfl,?_⟩
  rw[show its.toArray.any (eqU x)=its.any (eqU x) by simp,any_eqU r fs]
  exact q
inductive r_call_len_seq (K:PySem.W.Frag)(xs:List V)(H:Hp)(Q:VK):Prop where
 |mk (p) (ys):(xs=[.ref p])→((SqL K H p ys∨SqT K H p ys))→(Q (.int ys.length) H)→r_call_len_seq K xs H Q
theorem call_len_seq:CallR X (.builtin "len") (r_call_len_seq X.K):=by
 intro pins s σ H xs us Q I r h
 obtain⟨p,ys,rfl,hq,q⟩:=h
 obtain⟨u,rfl,rx⟩:=vals1 r
 cases rx
 have hn:=line63
 rcases hq with hq|hq
 ·obtain⟨its,r',pl,hz⟩:=I.list hq
  have hlen:=r'.length
  exact Calls.call_len_list pl.isList (by simp only[List.size_toArray]<;>omega) ⟨.int ys.length,H,I.tok _,⟨s.toks+1,by rw[List.size_toArray,hlen]⟩,q⟩
 ·obtain⟨its,r',pl,hz⟩:=I.tuple hq
  have hlen:=r'.length
  exact len_tuple pl (by simp only[List.size_toArray]<;>omega) ⟨.int ys.length,H,I.tok _,⟨s.toks+1,by rw[List.size_toArray,hlen]⟩,q⟩
theorem call_len_str:CallR X (.builtin "len") (fun xs H Q=>∃z,xs=[.str z]∧z.length≤sizeLine∧Q (.int z.length) H):=by
 intro pins s σ H xs us Q I r h
 obtain⟨z,rfl,hz,q⟩:=h
 obtain⟨u,rfl,t,rfl⟩:=vals1 r
 have hn:=line63
 exact len_str (by omega) ⟨.int z.length,H,I.tok _,⟨_,rfl⟩,q⟩
inductive r_call_list_of (K:PySem.W.Frag)(xs:List V)(H:Hp)(Q:VK):Prop where
 |mk (p) (ys):(xs=[.ref p])→((SqL K H p ys∨SqT K H p ys))→(∀l,H l=none→Q (.ref l) (upd H l (.lst ys)))→r_call_list_of K xs H Q
inductive r_call_tuple_of (K:PySem.W.Frag)(xs:List V)(H:Hp)(Q:VK):Prop where
 |mk (p) (ys):(xs=[.ref p])→(((SqL K H p ys∧∀l,H l=none→Q (.ref l) (upd H l (.tup ys)))∨(SqT K H p ys∧Q (.ref p) H)))→r_call_tuple_of K xs H Q
theorem call_tuple_of:CallR X (.type "tuple") (r_call_tuple_of X.K):=by
 intro pins s σ H xs us Q I r h
 obtain⟨p,ys,rfl,h⟩:=h
 obtain⟨u,rfl,rx⟩:=vals1 r
 cases rx
 rcases h with ⟨hq,q⟩|⟨hq,q⟩
 ·obtain⟨its,r',pl,hz⟩:=I.list hq
  have hlen:=r'.length
  refine call_tuple_list pl.isList (fun h' kp=>?_) (by simp only[List.size_toArray]<;>omega)
  have I1:Inv X pins σ H {s with heap:=h'}:=I.kept (t':=s.toks) kp
  have I2:Inv X pins σ (upd H h'.objs.size (.tup ys)) {s with heap:=h'.push {cls:=.type "tuple",data:=.seq its.toArray}} :=
   I1.laid (t':=s.toks) (fun b o e=>Heap.get?_push_of_some _ e) (Nat.le_refl _) (show ObjOk X.prog X.w _ _ _ (.tup ys) from⟨hz,its,r',IsTup.new _ _⟩)
  exact⟨.ref h'.objs.size,_,I2,rfl,q _ (I1.hok.fresh (Nat.le_refl _))⟩
 ·obtain⟨its,r',pl,hz⟩:=I.tuple hq
  exact call_tuple_same pl ⟨.ref p,H,I,rfl,q⟩
def tyV (K:PySem.W.Frag)(T:String)(x:V)(H:Hp):Prop:=match x with
 |.str _=>T="str"
 |.int _=>T="int"
 |.ref p=>(T="list"∧∃xs,SqL K H p xs)∨(T="tuple"∧∃o,K.lookup p=some o∧o.cls=.type "tuple"∧o.dict=none)∨
   (T="dict"∧((∃kvs,H p=some (.dK kvs))∨∃kvs,H p=some (.dT kvs)))∨(T="set"∧∃S n,H p=some (.set S n))
 |_=>False
theorem tyV_is {pins:List (Addr×Obj)}{σ:St}{H:Hp}{s:Shared}{T:String}{x:V}{v:Value}(I:Inv X pins σ H s)(r:RelV x v)(ty:tyV X.K T x H):
  s.TypeIs v T∧∀a,v=.ref a→∃ob,s.heap.get? a=some ob∧ob.dict=none:=by
 cases x with
 |str z=>
  obtain⟨t,rfl⟩:=r
  cases(show T="str" from ty)
  exact⟨typeIs_str s z t,fun _ e=>nomatch e⟩
 |int i=>
  obtain⟨t,rfl⟩:=r
  cases(show T="int" from ty)
  exact⟨typeIs_int s i t,fun _ e=>nomatch e⟩
 |ref p=>
  cases r
  rcases ty with ⟨rfl,xs,hq⟩|⟨rfl,o,hk,hc,hd⟩|⟨rfl,hk⟩|⟨rfl,S,n,hk⟩
  ·obtain⟨its,_,pl,_⟩:=I.list hq
   refine⟨pl.isList.typeIs,fun a e=>?_⟩
   cases e
   obtain⟨o,n,e,c,hd,_⟩:=pl
   exact⟨o,e,hd⟩
  ·refine⟨⟨o,I.kIn p o hk,hc⟩,fun a e=>?_⟩
   cases e
   exact⟨o,I.kIn _ o hk,hd⟩
  ·have z:∃o,s.heap.get? p=some o∧o.ExactDict:=by
    rcases hk with ⟨kvs,hk⟩|⟨kvs,hk⟩
    ·obtain⟨_,_,_,_,o,_,_,e,ex,_⟩:=I.hok p _ hk
     exact⟨o,e,ex⟩
    ·obtain⟨_,_,_,_,o,_,_,e,ex,_⟩:=I.hok p _ hk
     exact⟨o,e,ex⟩
   obtain⟨o,e,ex⟩:=z
   refine⟨⟨o,e,ex.1⟩,fun a e2=>?_⟩
   cases e2
   exact⟨o,e,ex.2.1⟩
  ·obtain⟨o,_,_,_,e,ex,_⟩:=I.hok p _ hk
   refine⟨⟨o,e,ex.1⟩,fun a e2=>?_⟩
   cases e2
   exact⟨o,e,ex.2.1⟩
 |_=>exact False.elim ty
inductive tBM0_ (K:PySem.W.Frag)(T:String)(r:V→List V→Hp→VK→Prop)(Q:VK)(x:V)(H1:Hp):Prop where
 |mk:(tyV K T x H1)→(r x [] H1 Q)→tBM0_ K T r Q x H1
def tBM0 (K:PySem.W.Frag)(T:String)(r:V→List V→Hp→VK→Prop)(to:TE):TE:=fun σ H Q=>to σ H (tBM0_ K T r Q)
inductive tBM_ (K:PySem.W.Frag)(T:String)(r:V→List V→Hp→VK→Prop)(t:TA)(σ:St)(Q:VK)(x:V)(H1:Hp):Prop where
 |mk:(tyV K T x H1)→(t σ H1 fun xs H2=>r x xs H2 Q)→tBM_ K T r t σ Q x H1
def tBM (K:PySem.W.Frag)(T:String)(r:V→List V→Hp→VK→Prop)(to:TE)(t:TA):TE:=fun σ H Q=>to σ H (tBM_ K T r t σ Q)
variable {o e:Expr}{es:List Expr}{to:TE}{t:TA}{name:Str}{apos cpos:Pos}{T id:String}{r:V→List V→Hp→VK→Prop}
theorem pe_bm0 (pa:PlainAttrs T)(slot:Slot T name id)(hty:typeOf (.builtin id)=pure (.type "method_descriptor"))(hm:MtR X id r)(ho:PE X o to)
  (hbase:attributeBase o name X.env (eval o X.env)=eval o X.env:=by rfl) (hline:(apos.endLine==cpos.line)=true:=by rfl):PE X (.Call (.Attribute o name apos) [] [] cpos) (tBM0 X.K T r to):=by
 intro pins s σ H Q I h
 refine wpAny_Call_method0_late hbase hline (thn (ho pins s σ H _ I h) fun v s1 ⟨x,H1,I1,r1,ty,q1⟩=>?_)
 obtain⟨h1,h2⟩:=tyV_is I1 r1 ty
 exact⟨T,id,pa,slot,hty,h1,h2,Calls.callWith_builtin rfl (PySem.evalArgs_none (hm pins s1 σ H1 x [] v [] Q I1 r1 .nil q1))⟩
theorem pe_bm (pa:PlainAttrs T)(slot:Slot T name id)(hty:typeOf (.builtin id)=pure (.type "method_descriptor"))(hm:MtR X id r)(ho:PE X o to)(ha:PA X (e::es) t)
  (hbase:attributeBase o name X.env (eval o X.env)=eval o X.env:=by rfl)
  (hfew:((backTo cpos (starEach (e::es) X.env)).all (fun x=>!x.1)&&(backToKw cpos (keywordEach [] X.env)).all (fun x=>x.1.isSome)
   &&decide ((e::es).length+([]:List Keyword).length+(if([]:List Keyword).isEmpty then 0 else 1)<30))=true:=by rfl)
  (hline:(apos.endLine==cpos.line)=true:=by rfl) (hs:starEach (e::es) X.env=(false,eval e X.env)::starEach es X.env:=by rfl) (hplain:(backTo cpos (starEach es X.env)).any (·.1)=false:=by rfl):
  PE X (.Call (.Attribute o name apos) (e::es) [] cpos) (tBM X.K T r to t):=by
 intro pins s σ H Q I h
 refine wpAny_Call_method_late hbase hfew hline rfl (thn (ho pins s σ H _ I h) fun v s1 ⟨x,H1,I1,r1,ty,q1⟩=>?_)
 obtain⟨h1,h2⟩:=tyV_is I1 r1 ty
 refine⟨T,id,pa,slot,hty,h1,h2,?_⟩
 have hA:=ha cpos pins s1 σ H1 _ I1 q1
 rw[hs]at hA ⊢
 refine Calls.callWith_builtin (by show(false||(backTo cpos (starEach es X.env)).any (·.1))=false;rw[hplain]<;>rfl) (Calls.evalArgs_plain ?_)
 exact thn hA fun us s2 ⟨vs,H2,I2,r2,q2⟩=>hm pins s2 σ H2 x vs v us Q I2 r1 r2 q2
end
def MtM (X:Cx)(id:String)(r:V→List V→Hp→VK→Prop):Prop :=
 ∀(pins:List (Addr×Obj)) (s:Shared) (σ:St) (H:Hp) (x:V) (xs:List V) (v:Value) (us:List Value) (Q:VK),Inv X pins σ H s→RelV x v→Vals xs us→r x xs H Q→
  wpAny (model X.prog X.w) X.A (call (.builtin id) (v::us)) (EP X pins σ Q) X.xe s
theorem Vals.one {x:V}{us:List Value}(h:Vals [x] us):∃u,us=[u]∧RelV x u:=by
 cases h with
 |cons r t=>cases t;exact⟨_,rfl,r⟩
theorem Vals.zero:∀{us:List Value},Vals [] us→us=[]
 |_, .nil=>rfl
theorem Vals.dropLast {xs:List V}{us:List Value}(h:Vals xs us):Vals xs.dropLast us.dropLast:=by
 induction h with
 |nil=>exact .nil
 |cons r t ih=>
  cases t with
  |nil=>exact .nil
  |cons q t'=>exact .cons r ih
theorem Vals.eraseIdx:∀{xs:List V} {us:List Value} (i:Nat),Vals xs us→Vals (xs.eraseIdx i) (us.eraseIdx i)
 |_,_,_, .nil=>.nil
 |_,_,0, .cons _ t=>t
 |_,_,i+1, .cons r t=>.cons r (Vals.eraseIdx i t)
theorem erase_last {α:Type}(l:List α):l.eraseIdx (l.length-1)=l.dropLast:=by
 induction l with
 |nil=>rfl
 |cons a r ih=>
  cases r with
  |nil=>rfl
  |cons b r=>
   have e:(a::b::r).length-1=((b::r).length-1)+1:=by
    have h1:(a::b::r).length=r.length+2:=rfl
    have h2:(b::r).length=r.length+1:=rfl
    exact rfl
   rw[e,List.eraseIdx_cons_succ,ih]
   all_goals rfl
theorem len_erase {α:Type}:∀(l:List α) (i:Nat),(l.eraseIdx i).length≤l.length
 |[],_=>Nat.le_refl _
 |_::_,0=>Nat.le_succ _
 |_::r,i+1=>Nat.succ_le_succ (len_erase r i)
section
variable {X:Cx}{pins:List (Addr×Obj)}{σ:St}{H:Hp}{s:Shared}{l b:Addr}{xs ys zs:List V}
theorem Inv.lset {its its':List Value}{n:Nat}{f:Array Value→Array Value}{t':Nat}(I:Inv X pins σ H s)(hH:H l=some (.lst xs))
  (e:s.heap.get? l=some {cls:=.type "list",data:=.seq its.toArray n}) (hf:f its.toArray=its'.toArray) (hv:Vals ys its') (hz:ys.length≤sizeLine):
  Inv X pins σ (upd H l (.lst ys)) {s with heap:=s.heap.update l (Obj.mapSeq f),toks:=t'}:=by
 have q:=PySem.IsL.update e f
 rw[hf]at q
 refine I.write (x:=l) (e:=l) (by rw[hH];exact trivial) (.inl rfl) (fun b' u hb hu=>(Heap.get?_update_other s.heap (Obj.mapSeq f) (Ne.symm hb)).trans hu) ⟨_,q⟩ ?_
 exact⟨hz,its',_,hv,q⟩
theorem Inv.lnew {its:List Value}{t':Nat}(I:Inv X pins σ H s)(hv:Vals ys its)(hz:ys.length≤sizeLine):
  Inv X pins σ (upd H s.heap.objs.size (.lst ys)) {s with heap:=s.heap.push {cls:=.type "list",data:=.seq its.toArray},toks:=t'} :=
 I.laid (fun _ _ q=>Heap.get?_push_of_some _ q) (Nat.le_refl _) ⟨hz,its,0,hv,Heap.get?_push_size _ rfl⟩
theorem Inv.fresh (I:Inv X pins σ H s):H s.heap.objs.size=none:=I.hok.fresh (Nat.le_refl _)
theorem Inv.lstM (I:Inv X pins σ H s)(hH:H l=some (.lst xs)):xs.length≤sizeLine∧∃(its:List Value) (n:Nat),Vals xs its∧xs.length=its.length∧s.heap.get? l=some {cls:=.type "list",data:=.seq its.toArray n}:=by
 obtain⟨z,its,n,r,e⟩:=I.hok l _ hH
 exact⟨z,its,n,r,r.length,e⟩
theorem notLongL {n:Nat}(h:n≤sizeLine):Builtin.List.listTooLong n=false:=by
 unfold Builtin.List.listTooLong
 exact decide_eq_false (by exact Nat.not_lt.mpr h)
end
section
variable {X:Cx}
inductive rAppend_ (x:V)(vs:List V)(H:Hp)(Q:VK):Prop where
 |mk (l) (xs) (y):(x=.ref l)→(vs=[y])→(H l=some (.lst xs))→(xs.length<sizeLine)→(Q .non (upd H l (.lst (xs++[y]))))→rAppend_ x vs H Q
def rAppend:V→List V→Hp→VK→Prop:=rAppend_
theorem mt_append:MtM X "list.append" rAppend:=by
 intro pins s σ H x vs v us Q I rx rv h
 obtain⟨l,xs,y,rfl,rfl,hH,hz,q⟩:=h
 cases rx
 obtain⟨u,rfl,ru⟩:=rv.one
 obtain⟨z,its,n,r,hl,e⟩:=I.lstM hH
 refine call_meets F.slot_list_append ⟨_,e,rfl⟩ F.entry_list_append (F.args_list_append_2 _ _) (PySem.list_append l its.toArray n u (by rw[List.size_toArray];omega)) ⟨e,?_⟩
 refine⟨.non,_,I.lset (its':=its++[u]) hH e (by simp) (r.append (.cons ru .nil)) ?_,rfl,q⟩
 rw[List.length_append,List.length_singleton]
 exact hz
inductive rExtend_ (x:V)(vs:List V)(H:Hp)(Q:VK):Prop where
 |mk (l) (b) (xs) (zs):(x=.ref l)→(vs=[.ref b])→(H l=some (.lst xs))→(H b=some (.lst zs))→(xs.length+zs.length≤sizeLine)→(Q .non (upd H l (.lst (xs++zs))))→rExtend_ x vs H Q
def rExtend:V→List V→Hp→VK→Prop:=rExtend_
theorem mt_extend:MtM X "list.extend" rExtend:=by
 intro pins s σ H x vs v us Q I rx rv h
 obtain⟨l,b,xs,zs,rfl,rfl,hH,hB,hz,q⟩:=h
 cases rx
 obtain⟨u,rfl,ru⟩:=rv.one
 cases ru
 obtain⟨z,its,n,r,hl,e⟩:=I.lstM hH
 obtain⟨z2,its2,n2,r2,hl2,e2⟩:=I.lstM hB
 have hsz:its.toArray.size+its2.toArray.size≤sizeLine:=by rw[List.size_toArray,List.size_toArray];omega
 have hlong:¬(!its.toArray.isEmpty&&Builtin.List.listTooLong (its.toArray.size+its2.toArray.size))=true:=by
  rw[notLongL hsz,Bool.and_false]
  exact Bool.false_ne_true
 refine call_meets F.slot_list_extend ⟨_,e,rfl⟩ F.entry_list_extend (F.args_list_extend_2 _ _)
  (AutoSeq1.list_extend_list_list_0 l its.toArray n b its2.toArray n2 hlong (by rw[List.size_toArray];exact Nat.le_trans (Nat.le_add_right _ _) hsz) (by exact Nat.le_succ_of_le hsz)) ⟨e,e2,?_⟩
 refine⟨.non,_,I.lset (its':=its++its2) hH e (by simp) (r.append r2) ?_,rfl,q⟩
 rw[List.length_append]
 exact hz
inductive rPop_ (x:V)(vs:List V)(H:Hp)(Q:VK):Prop where
 |mk (l) (xs) (y):(x=.ref l)→(vs=[])→(H l=some (.lst xs))→(xs[xs.length-1]?=some y)→(Q y (upd H l (.lst xs.dropLast)))→rPop_ x vs H Q
def rPop:V→List V→Hp→VK→Prop:=rPop_
theorem mt_pop:MtM X "list.pop" rPop:=by
 intro pins s σ H x vs v us Q I rx rv h
 obtain⟨l,xs,y,rfl,rfl,hH,hy,q⟩:=h
 cases rx
 have hus:=rv.zero
 subst hus
 obtain⟨z,its,n,r,hl,e⟩:=I.lstM hH
 obtain⟨u,hu,ru⟩:=r.get hy
 have hy':its.toArray[its.toArray.size-1]?=some u:=by
  show its.toArray[its.length-1]?=some u
  rw[←Array.getElem?_toList,←hl]
  exact hu
 refine call_meets F.slot_list_pop ⟨_,e,rfl⟩ F.entry_list_pop (F.args_list_pop_1 _) (MeetsSeq.list_pop_last l its.toArray n u hy' (by rw[List.size_toArray];omega)) ⟨e,?_⟩
 refine⟨y,_,I.lset (its':=its.dropLast) hH e ?_ r.dropLast ?_,ru,q⟩
 ·show its.toArray.eraseIdxIfInBounds (its.toArray.size-1)=its.dropLast.toArray
  rw[List.size_toArray,List.eraseIdxIfInBounds_toArray,erase_last]
 ·rw[List.length_dropLast]
  omega
def rPopAt:V→List V→Hp→VK→Prop:=fun x vs H Q=>∃l xs i k y,x=.ref l∧vs=[.int i]∧H l=some (.lst xs)∧-(2^63)≤i∧i<2^63∧seqIndex? i xs.length=some k∧xs[k]?=some y∧Q y (upd H l (.lst (xs.eraseIdx k)))
theorem mt_popAt:MtM X "list.pop" rPopAt:=by
 intro pins s σ H x vs v us Q I rx rv h
 obtain⟨l,xs,i,k,y,rfl,rfl,hH,h1,h2,hk,hy,q⟩:=h
 cases rx
 obtain⟨u,rfl,ru⟩:=rv.one
 obtain⟨t,rfl⟩:=ru
 obtain⟨z,its,n,r,hl,e⟩:=I.lstM hH
 obtain⟨w,hw,rw'⟩:=r.get hy
 refine call_meets F.slot_list_pop ⟨_,e,rfl⟩ F.entry_list_pop (F.args_list_pop_2 _ _)
  (MeetsSeq.list_pop_at l its.toArray n i t k w (fitsIndex_both h1 h2) (by rw[List.size_toArray,←hl];exact hk) (by rw[←Array.getElem?_toList];exact hw) (by rw[List.size_toArray];omega)) ⟨e,?_⟩
 refine⟨y,_,I.lset (its':=its.eraseIdx k) hH e ?_ (r.eraseIdx k) ?_,rw',q⟩
 ·show its.toArray.eraseIdxIfInBounds k=(its.eraseIdx k).toArray
  rw[List.eraseIdxIfInBounds_toArray]
 ·have:=len_erase xs k
  exact Nat.le_trans this z
inductive rReverse_ (x:V)(vs:List V)(H:Hp)(Q:VK):Prop where
 |mk (l) (xs):(x=.ref l)→(vs=[])→(H l=some (.lst xs))→(Q .non (upd H l (.lst xs.reverse)))→rReverse_ x vs H Q
inductive rCat_ (x:V)(y:V)(H:Hp)(Q:VK):Prop where
 |mk (l) (b) (xs) (zs):(x=.ref l)→(y=.ref b)→(H l=some (.lst xs))→(H b=some (.lst zs))→(xs.length+zs.length≤sizeLine)→(∀p,H p=none→Q (.ref p) (upd H p (.lst (xs++zs))))→rCat_ x y H Q
def rCat:R2:=rCat_
theorem op_cat:OpR X (binaryOp .Add) rCat:=by
 intro pins s σ H x y v u Q I rx ry h
 obtain⟨l,b,xs,zs,rfl,rfl,hH,hB,hz,q⟩:=h
 cases rx
 cases ry
 obtain⟨z,its,n,r,hl,e⟩:=I.lstM hH
 obtain⟨z2,its2,n2,r2,hl2,e2⟩:=I.lstM hB
 refine PySem.P.add_list e e2 ?_ (by rw[List.size_toArray,List.size_toArray];omega)
 have ea:its.toArray++its2.toArray=(its++its2).toArray:=by simp
 rw[ea]
 exact⟨.ref _,_,I.lnew (t':=s.toks) (r.append r2) (by rw[List.length_append];exact hz),rfl,q _ I.fresh⟩
inductive rRep_ (x:V)(y:V)(H:Hp)(Q:VK):Prop where
 |mk (l) (k) (xs):(x=.ref l)→(y=.int k)→(H l=some (.lst xs))→(-(2^63)≤k)→(k<2^63)→(xs.length*k.toNat≤sizeLine)→(∀p,H p=none→Q (.ref p) (upd H p (.lst (List.replicate k.toNat xs).flatten)))→rRep_ x y H Q
end
section
variable {prog:Program}{w:World}{A:Around}{E:Value→Shared→Prop}{s:Shared}
end
section
variable {X:Cx}
end
end L2
namespace Att
open PySem PySem.W PySem.Calls PyProof.Rows
theorem ints_of_wellAll {P:Params}{h:Heap}:∀(ns:List Int) (vs:List Value),WellAll P h vs (ns.map WData.int)→IntsAre vs ns:=by
 intro ns
 induction ns with
 |nil=>
  intro vs w
  rw[List.map_nil]at w
  cases w
  exact .nil
 |cons n ns ih=>
  intro vs w
  rw[List.map_cons]at w
  cases w with
  |cons a b=>
   cases a
   exact .cons _ _ (ih _ b)
theorem script_of {l:OpenLaw}{n:Nat}(hn:l.most=some n){P:Params}{h:Heap}{args:List WData}{vals:List Value}
  (hpre:l.row.toRowW.claim.pre args=true) (hwl:WellAll P h vals args):
  ∃a vs ns,vals=[Value.ref a]∧args=[WData.list (ns.map WData.int)]∧h.get? a=some {cls:=.type "list",data:=.seq vs.toArray}∧IntsAre vs ns∧ns.length≤n:=by
 have hsh:WShape.hasAll [] args [.list .int]=true:=(pre_splitW hpre).1
 have hc:l.pre.holds [] {args:=args}=true:=(pre_splitW hpre).2
 obtain⟨d,r,rfl,h1,h2⟩:=hasAllW_cons hsh
 obtain rfl:=hasAllW_nil h2
 obtain⟨xs,rfl,h3⟩:=hasW_list h1
 obtain⟨ns,rfl⟩:=items_int h3
 have hlen:ns.length≤n:=by
  unfold OpenLaw.pre at hc
  have h4:(WTm.not (.lt (.lit (.int (n:Int))) (.len (.arg 0)))).holds [] {args:=[.list (ns.map .int)]}=true:=by
   have h4:=(holds_andW hc).1
   rw[hn]at h4
   exact h4
  have h5:=condW_of h4 (w_not (w_lt w_lit (w_len_list (w_arg rfl))))
  rw[List.length_map]at h5
  refine Nat.le_of_not_lt fun q=>?_
  have q':(n:Int)<((ns.length:Nat):Int):=by omega
  first
   |(rw[decide_eq_true q']at h5;exact absurd h5 (by decide))
   |(simp at h5;omega)
 cases hwl with
 |cons w1 w2=>
  cases w2
  cases w1 with
  |list ho hall=>exact⟨_,_,ns,rfl,rfl,ho,ints_of_wellAll ns _ hall,hlen⟩
theorem post_true (l:OpenLaw)(args:List WData):l.row.toRowW.claim.post args (.bool true) args=true :=
 postW_of (r:=l.row.toRowW) (X:=(true==true))
  (show WShape.has [] (.bool true) .bool=true by first|rfl|decide|simp[WShape.has,WShape.arms,WShape.armsAll])
  (show(WTm.eq .res (.lit (.bool true))).value [] {args:=args,res:=some (.bool true),after:=args}=some (.bool (true==true)) from w_eq_bool (w_res rfl) w_lit) rfl
theorem attach_call {l:OpenLaw}{n:Nat}{q:Program}{loose:List Str}{XP:(Str→Option Value)→Heap→Prop}{YP:World→Heap→Prop}{d:DefRec}
  (hn:l.most=some n) (hdf:d.params.defaults=[])
  (call:∀(w:World) (s₀ s₁:Shared) (mg mb:Str→Option Value) (fa:Addr) (o:Obj) (pm cd doc:Value) (a:Addr) (vs:List Value) (ns:List Int),
   Ground q loose [] XP w s₀ mg mb s₁.heap→YP w s₁.heap→
   s₁.heap.get? fa=some o→o.data=.func (docDef d.name d.params d.body d.scope pm cd doc)→s₁.heap.CodeRec cd d.name→mg d.name=some (.ref fa)→
   s₁.heap.get? a=some {cls:=.type "list",data:=.seq vs.toArray}→IntsAre vs ns→ns.length≤n→s₁.gens=#[]→
   codeAny (model l.prog w) callerA (.call (.ref fa) ⟨[.ref a],[]⟩) (fun r s'=>r=.ok (.ret (.bool true))∧OldK s₁.heap s'.heap∧s'.os=s₁.os∧AllBare s'.gens) s₁):
  WalkO q loose XP YP l.row.toRowW d [] (fun f vs=>PySem.call f vs):=by
 intro w s₀ s₁ mg mb G Y fa o pm cd doc dV kV ho hd hcd hD hmg hg args vals as hpre hlay hrd hwl hlo
 obtain rfl:dV=.none:=Dflts.none hD hdf
 obtain rfl:kV=.none:=Dflts.noKw hD
 obtain⟨a,vs,ns,rfl,rfl,hobj,hints,hlen⟩:=script_of hn hpre hwl
 refine enter_call (codeAny_mono (call w s₀ s₁ mg mb fa o pm cd doc a vs ns G Y ho (fd_plain hd) hcd hmg hobj hints hlen hg) fun r s' hq=>?_)
 obtain⟨rfl,h2,h3,h4⟩:=hq
 exact⟨.inl ⟨.bool true, .bool true,[],rfl,fun _=>rfl, .bool true,post_true l _,fun _=>⟨List.Pairwise.nil,fun _ hm=>(nomatch hm)⟩⟩,h2,h3,h4⟩
section
variable {prog:Program}{w:World}{A:Around}{E:Value→Shared→Prop}{s:Shared}{K:Frag}
end
end Att
namespace L2
open PySem PySem.Spec PyProof.Rows
theorem vals_ints:∀{vs:List Value} {ns:List Int},IntsAre vs ns→Vals (ns.map V.int) vs
 |_,_, .nil=>.nil
 |_,_, .cons n t h=>.cons ⟨t,rfl⟩ (vals_ints h)
def Only (H:Hp):Prop:=∀b,H b=none∨∃o xs,H b=some (.frz o (.lst xs))
theorem law_call {P:Program}{w:World}{K:PySem.W.Frag}{mg mb:Str→Option Value}{CX:CXT}{k:Nat}{fa a:Addr}{fd:FuncData}{x:Str}{sp:Sp}{s₁:Shared}{vs:List Value}{ns:List Int}
  (KX:K.In s₁.heap) (hns:s₁.heap.Ns mainGlobals mg) (hb:s₁.heap.Ns builtinsNs mb) (hbb:∀x:Str,x≠"__name__"→mb x=bootBuiltins x) (hlim:s₁.heap.NoLimit) (hg:s₁.gens=#[])
  (ha:s₁.heap.get? a=some {cls:=.type "list",data:=.seq vs.toArray}) (hi:IntsAre vs ns) (hl:ns.length≤sizeLine) (hr:Room k callerA)
  (F:∀base:Heap,K.In base→base.Ns mainGlobals mg→FnOk P w K mg base CX k fa fd [x] sp) (hbind:∀(s:Shared) (u:Value),BindsTo s fd ⟨[u],[]⟩ [(x,u)])
  (hsp:∀H:Hp,Only H→SqL K H a (ns.map V.int)→sp [.ref a] H (fun v _=>v=.bl true) fun _ _ _=>False)
  (hCX:∀H e s',CX [] H s₁ (fun _ _ _=>False) e s'→False):
  codeAny (model P w) callerA (.call (.ref fa) ⟨[.ref a],[]⟩) (fun r s'=>r=.ok (.ret (.bool true))∧OldK s₁.heap s'.heap∧s'.os=s₁.os∧AllBare s'.gens) s₁:=by
 have rv:=vals_ints hi
 have lenV:=hi.length
 have core:∀H:Hp,Only H→SqL K H a (ns.map V.int)→HOk P w H s₁.heap→(∀b,H b≠none→b=a)→(H a≠none→K.lookup a=none)→
   codeAny (model P w) callerA (.call (.ref fa) ⟨[.ref a],[]⟩) (fun r s'=>r=.ok (.ret (.bool true))∧OldK s₁.heap s'.heap∧s'.os=s₁.os∧AllBare s'.gens) s₁:=by
  intro H hO hS hok hA hK
  have base_of:∀{b:Addr} {o:Obj},s₁.heap.get? b=some o→H b=none→(hidT s₁.heap H).get? b=some o:=fun e n=>hidT_get e n
  have noA:∀{b:Addr} {o:Obj} {es:Array DictEntry} {ep:Nat},s₁.heap.get? b=some o→o.data=.dict es ep→H b=none:=fun{b o es ep} e d=>by
   cases q:H b with
   |none=>rfl
   |some u=>
    have e':b=a:=hA b (by rw[q];simp)
    subst e'
    rw[ha]at e;cases e
    have d':Data.seq vs.toArray _=Data.dict es ep:=d
    cases d'
  have nsK:∀{b:Addr} {m:Str→Option Value},s₁.heap.Ns b m→(hidT s₁.heap H).Ns b m:=fun{b m} ⟨o,es,ep,e,d,r⟩=>⟨o,es,ep,base_of e (noA e d),d,r⟩
  have hKb:K.In (hidT s₁.heap H):=fun b o e=>base_of (KX b o e) (by
   cases q:H b with
   |none=>rfl
   |some u=>
    have e':b=a:=hA b (by rw[q];simp)
    subst e'
    rw[hK (by rw[q];simp)]at e;cases e)
  have hM:Mod K mg (hidT s₁.heap H):=⟨hKb,nsK hns,⟨mb,nsK hb,hbb⟩,let ⟨mc,h1,h2⟩:=hlim;⟨mc,nsK h1,h2⟩⟩
  have e0:Env0 P w K mg (hidT s₁.heap H) callerA [] s₁ H:=⟨rfl,hM,fun b o e=>of_hidT e,Nat.le_of_eq (hidT_size _ _),trivial,fun b hb=>absurd (show b∈([]:List Addr) from hb) (by simp),hok, .of_eq hg⟩
  refine codeAny_mono ((F _ hKb (nsK hns)).run callerA [] s₁ H ⟨[.ref a],[]⟩ [.ref a] [.ref a] _ _ hr e0 (hbind s₁ (.ref a)) (.cons rfl .nil) (hsp H hO hS)) fun r s' h=>?_
  cases r with
  |error e=>exact(hCX H e s' h).elim
  |ok fl=>
   cases fl with
   |next=>exact False.elim h
   |brk=>exact False.elim h
   |cont=>exact False.elim h
   |ret u=>
    obtain⟨v,H',os,bare,un,hok',r',q⟩:=h
    have q':v=.bl true:=q
    subst q'
    obtain rfl:u=Value.bool true:=r'
    refine⟨rfl,OldK.of_keep fun b o e=>?_,os,bare⟩
    cases q:H b with
    |none=>exact un.keep b o e q (by intro z;exact absurd (show b∈([]:List Addr) from z) (by simp)) (by simp)
    |some u=>
     rcases hO b with z|⟨ob,xs,z⟩
     ·rw[q]at z;cases z
     ·have z2:=un.frzs b ob _ z
      obtain⟨e1,_⟩:=hok b _ z
      obtain⟨e2,_⟩:=hok' b _ z2
      rw[e]at e1;cases e1
      exact e2
 cases hk:K.lookup a with
 |some o=>
  have e:=KX a o hk
  rw[ha]at e
  cases e
  refine core (fun _=>none) (fun _=>.inl rfl) (.inr ⟨_,vs.toArray,_,hk,rfl,rfl,rfl,by rw[List.size_toArray,lenV];exact hl,by simpa using rv⟩) (fun b u z=>by have z':(none:Option HO)=some u:=z;cases z') (fun b z=>absurd rfl z) fun z=>absurd rfl z
 |none=>
  refine core (fun b=>if b=a then some (.frz {cls:=.type "list",data:=.seq vs.toArray} (.lst (ns.map V.int))) else none) (fun b=>?_) (.inl (.inr ⟨{cls:=.type "list",data:=.seq vs.toArray},if_pos rfl⟩)) (fun b u z=>?_) (fun b z=>?_) fun _=>hk
  ·by_cases hb:b=a
   ·exact .inr ⟨_,_,if_pos hb⟩
   ·exact .inl (if_neg hb)
  ·by_cases hb:b=a
   ·have z':=(if_pos hb).symm.trans z
    cases z'
    subst hb
    exact⟨ha,by rw[List.length_map];exact hl,vs,_,rv,ha⟩
   ·have z':=(if_neg hb).symm.trans z
    cases z'
  ·by_cases hb:b=a
   ·exact hb
   ·exact absurd (if_neg hb) z
theorem walk_of {l:PySem.W.OpenLaw}{n k:Nat}{q:Program}{loose:List Str}{XP:(Str→Option Value)→Heap→Prop}{YP:World→Heap→Prop}{d:DefRec}{K:Params→PySem.W.Frag}{CX:World→CXT}{sp:World→Sp}{x:Str}
  (hn:l.most=some n) (hn2:n≤sizeLine) (hdf:d.params.defaults=[]) (hr:Room k callerA)
  (hY:∀(w:World) (h:Heap),YP w h→(K w.params).In h)
  (F:∀(w:World) (mg:Str→Option Value) (fa:Addr) (h:Heap),(K w.params).In h→h.Ns mainGlobals mg→mg d.name=some (.ref fa)→
   ∃fd:FuncData,(∀(s:Shared) (u:Value),BindsTo s fd ⟨[u],[]⟩ [(x,u)])∧
    ∀base:Heap,(K w.params).In base→base.Ns mainGlobals mg→FnOk l.prog w (K w.params) mg base (CX w) k fa fd [x] (sp w))
  (hsp:∀(w:World) (H:Hp) (a:Addr) (ns:List Int),ns.length≤n→Only H→SqL (K w.params) H a (ns.map V.int)→sp w [.ref a] H (fun v _=>v=.bl true) fun _ _ _=>False)
  (hCX:∀(w:World) (H:Hp) (s:Shared) (e:Value) (s':Shared),CX w [] H s (fun _ _ _=>False) e s'→False):
  PySem.W.WalkO q loose XP YP l.row.toRowW d [] (fun f vs=>PySem.call f vs):=by
 refine Att.attach_call hn hdf fun w s₀ s₁ mg mb fa o pm cd doc a vs ns G Y ho hd hcd hmg hobj hints hlen hg=>?_
 have KX:=hY w _ Y
 obtain⟨fd,hb,hF⟩:=F w mg fa _ KX G.T.g hmg
 exact law_call KX G.T.g G.T.b G.T.builtins G.T.nolimit hg hobj hints (Nat.le_trans hlen hn2) hr hF hb (fun H hO hS=>hsp w H a ns hlen hO hS) fun H e s'=>hCX w H s₁ e s'
def inClass (s:Stmt)(j:Nat):Stmt:=match s with
 |.ClassDef _ _ _ body _ _ _ _ _ _ _=>body.getD j (.Pass ⟨0,0,0,0⟩)
 |_=>.Pass ⟨0,0,0,0⟩
def defArgs (s:Stmt):Arguments:=match s with
 |.FunctionDef _ a _ _ _ _ _ _ _ _=>a
 |_=>{posonlyargs:=[],args:=[],vararg:=none,kwonlyargs:=[],kw_defaults:=[],kwarg:=none,defaults:=[]}
def defBody (s:Stmt):List Stmt:=match s with
 |.FunctionDef _ _ b _ _ _ _ _ _ _=>b
 |_=>[]
def defScope (s:Stmt):Scope:=match s with
 |.FunctionDef _ _ _ _ _ _ sc _ _ _=>sc
 |_=>{kind:=.function,names:=[],isGenerator:=false,isCoroutine:=false}
abbrev CX0:CXT:=fun _ _ _ _ _ _=>False
abbrev E0:XK:=fun _ _ _=>False
theorem pass0 {X:Cx}:Passes CX0 X E0:=fun _ _ _ _ _ _ _ h=>h.elim
structure Fun (K:PySem.W.Frag)(x qual:Str)(st:Stmt)(f:Addr)(fd:FuncData):Prop where
 ex:∃(oc:Value) (od:Option Addr) (kV doc pm:Value) (an:Option Addr) (cdv ct:Value) (osl:Array (Option Value)),
  fd=PySem.W.fnOf x qual (defArgs st) (defBody st) (defScope st) .none kV doc pm an cdv ct∧K.lookup f=some ⟨oc,od, .func fd,osl⟩∧PySem.W.codeIn K cdv qual=true
 kp:PySem.W.keepIn K (.ref f)=true
section
variable {P:Program}{w:World}{K:PySem.W.Frag}{mg:Str→Option Value}{base:Heap}
theorem Fun.ok {x qual:Str}{st:Stmt}{f:Addr}{fd:FuncData}{N ps:List Str}{k:Nat}{sp:Sp}(F:Fun K x qual st f fd)(S:FnScope N ps (defScope st))
  (hbody:∀(cdv:Value) (A:Around) (outer:List Env) (s:Shared) (H:Hp) (vs:List V) (Q:VK) (E:XK),Room k (A.deeper (envOfC qual (defScope st) s.heap.objs.size f cdv))→sp vs H Q E→
   ∃t,PSs (cxOf CX0 P w K mg base N qual (defScope st) f cdv A outer s H E).nox (defBody st) t∧t (Ends.of Q) (start N vs) H) (len:∀vs H Q E,sp vs H Q E→vs.length=ps.length:=by rintro _ _ _ _ ⟨⟩;subst_vars;rfl):FnOk P w K mg base CX0 (k+1) f fd ps sp:=by
 obtain⟨oc,od,kV,doc,pm,an,cdv,ct,osl,rfl,lk,hcd⟩:=F.ex
 refine fn_of lk hcd S len fun A outer s H vs Q E hr hsp=>?_
 obtain⟨t,h,q⟩:=hbody cdv A outer s H vs Q E hr hsp
 exact⟨t,h.nox,q⟩
theorem Fun.binds {x qual:Str}{st:Stmt}{f:Addr}{fd:FuncData}{ps:List Str}(F:Fun K x qual st f fd)
  (h:∀(kV doc pm:Value) (an:Option Addr) (cdv ct:Value) (us:List Value),us.length=ps.length→bindArgs (PySem.W.fnOf x qual (defArgs st) (defBody st) (defScope st) .none kV doc pm an cdv ct) ⟨us,[]⟩=pure (ps.zip us)):Binds K fd ps []:=by
 obtain⟨oc,od,kV,doc,pm,an,cdv,ct,osl,rfl,lk,hcd⟩:=F.ex
 exact .all (h kV doc pm an cdv ct)
theorem fun_mk {x qual:Str}{st:Stmt}{f:Addr}{oc:Value}{od an:Option Addr}{osl:Array (Option Value)}{kV doc pm cdv ct:Value}(l:K.lookup f=some ⟨oc,od, .func (PySem.W.fnOf x qual (defArgs st) (defBody st) (defScope st) .none kV doc pm an cdv ct),osl⟩)
  (c:PySem.W.codeIn K cdv qual=true) (k:PySem.W.keepIn K (.ref f)=true):Fun K x qual st f (PySem.W.fnOf x qual (defArgs st) (defBody st) (defScope st) .none kV doc pm an cdv ct):=⟨⟨oc,od,kV,doc,pm,an,cdv,ct,osl,rfl,l,c⟩,k⟩
end
theorem hu_of {A:Around}{k:Nat}(hr:Room k A):A.units+1<cLine:=Nat.lt_of_le_of_lt (Nat.add_le_add_left (by decide:1≤64) _) hr.units
section
variable {X:Cx}
theorem pv (i:Nat){x:Str}{pos:Pos}(hN:X.N[i]?=some x:=by rfl)(hv:Vis X.env.scope x:=by first|exact Or.inl rfl|exact Or.inr (Or.inl rfl)|exact Or.inr (Or.inr rfl))(hd:(x==("__debug__":Str))=false:=by decide)
  (hcd:(x==("__classdict__":Str))=false:=by decide):PE X (.Name x pos) (tVar i):=pe_var hN hv hd hcd
end
theorem iteF {A B:Prop}(h:B):if false=true then A else B:=by
 rw[if_neg Bool.false_ne_true]
 exact h
theorem iteT {A B:Prop}(h:A):if true=true then A else B:=by
 rw[if_pos rfl]
 exact h
theorem ite2 {c A B:Prop}[Decidable c](h1:c→A)(h2:¬c→B):if c then A else B:=by
 by_cases h:c
 ·rw[if_pos h]
  exact h1 h
 ·rw[if_neg h]
  exact h2 h
def Same (H H':Hp):Prop:=∀b o,H b=some o→H' b=some o
theorem Same.refl (H:Hp):Same H H:=fun _ _ h=>h
theorem Same.trans {H H1 H2:Hp}(a:Same H H1)(b:Same H1 H2):Same H H2:=fun c o h=>b c o (a c o h)
theorem Same.free {H H':Hp}(e:Same H H'){l:Addr}(h:H' l=Option.none):H l=Option.none:=by
 cases q:H l with
 |none=>rfl
 |some o=>
  rw[e l o q]at h
  cases h
theorem Same.seq {K:PySem.W.Frag}{H H':Hp}{a:Addr}{xs:List V}(e:Same H H')(h:SqL K H a xs):SqL K H' a xs:=by
 rcases h with (h|⟨o,h⟩)|h
 ·exact .inl (.inl (e _ _ h))
 ·exact .inl (.inr ⟨o,e _ _ h⟩)
 ·exact .inr h
def closL (cells:List (Str×Addr)):List (Str×NameKind)→List (Str×Addr)→List (Str×Addr)
 |[],acc=>acc
 |(n,k)::r,acc=>if k==.free then(match cells.lookup n with|some c=>closL cells r ((n,c)::acc)|none=>closL cells r acc) else closL cells r acc
theorem closL_forIn {env:Env}:∀(names:List (Str×NameKind)) (acc:List (Str×Addr)),(∀p∈names,p.2=.free→∃c,env.cells.lookup p.1=some c)→
  (forIn names acc fun(x:Str×NameKind) (r:List (Str×Addr))=>(if(x.2==NameKind.free)=true then(do let a ←cellOf env x.1;pure (ForInStep.yield ((x.1,a)::r))) else pure (ForInStep.yield r):Sem (ForInStep (List (Str×Addr)))))=pure (closL env.cells names acc):=by
 intro names
 induction names with
 |nil=>intro acc _;rfl
 |cons p r ih=>
  intro acc h
  obtain⟨n,k⟩:=p
  rw[List.forIn_cons]
  cases hk:k==NameKind.free with
  |false=>
   simp only[hk,Bool.false_eq_true,if_false,pure_bind,closL]
   exact ih acc fun q hq=>h q (List.mem_cons_of_mem _ hq)
  |true=>
   have e:k=.free:=by simpa using hk
   obtain⟨c,hc⟩:=h (n,k) List.mem_cons_self e
   simp only[hk,if_true,closL,cellOf,hc,pure_bind]
   exact ih _ fun q hq=>h q (List.mem_cons_of_mem _ hq)
theorem closL_eq {scope:Scope}{env:Env}(h:∀p∈scope.names,p.2=.free→∃c,env.cells.lookup p.1=some c):closureFor scope env=pure (closL env.cells scope.names []):=by
 have q:=closL_forIn (env:=env) scope.names [] h
 simp only[closureFor]
 first
  |exact q
  |(rw[←q];simp)
  |simpa using q
theorem closL_look {cells:List (Str×Addr)}:∀(names:List (Str×NameKind)) (acc:List (Str×Addr)) (y:Str) (c:Addr),(closL cells names acc).lookup y=some c→cells.lookup y=some c∨acc.lookup y=some c:=by
 intro names
 induction names with
 |nil=>intro acc y c h;exact .inr h
 |cons p r ih=>
  intro acc y c h
  obtain⟨n,k⟩:=p
  unfold closL at h
  split at h
  ·split at h
   ·rename_i c' hc
    rcases ih _ y c h with q|q
    ·exact .inl q
    ·rw[List.lookup_cons]at q
     cases e:y==n with
     |true=>
      rw[e]at q
      have e':y=n:=by simpa using e
      subst e'
      have q':some c'=some c:=q
      rw[←q'];exact .inl hc
     |false=>rw[e]at q;exact .inr q
   ·exact ih _ y c h
  ·exact ih _ y c h
theorem closL_acc {cells:List (Str×Addr)}:∀(names:List (Str×NameKind)) (acc:List (Str×Addr)) (y:Str),(∃c,acc.lookup y=some c)→∃c,(closL cells names acc).lookup y=some c:=by
 intro names
 induction names with
 |nil=>intro acc y h;exact h
 |cons p r ih=>
  intro acc y h
  obtain⟨n,k⟩:=p
  unfold closL
  split
  ·split
   ·refine ih _ y ?_
    rw[List.lookup_cons]
    cases e:y==n with
    |true=>exact⟨_,rfl⟩
    |false=>exact h
   ·exact ih _ y h
  ·exact ih _ y h
theorem closL_has {cells:List (Str×Addr)}:∀(names:List (Str×NameKind)) (acc:List (Str×Addr)) (y:Str),(y,NameKind.free)∈names→(∃c,cells.lookup y=some c)→∃c,(closL cells names acc).lookup y=some c:=by
 intro names
 induction names with
 |nil=>intro acc y h _;cases h
 |cons p r ih=>
  intro acc y h hc
  obtain⟨n,k⟩:=p
  unfold closL
  rcases List.mem_cons.mp h with e|h
  ·cases e
   obtain⟨c,hc⟩:=hc
   simp only[beq_self_eq_true,if_true,hc]
   exact closL_acc _ _ _ ⟨c,by rw[List.lookup_cons,beq_self_eq_true]⟩
  ·split
   ·split
    ·exact ih _ y h hc
    ·exact ih _ y h hc
   ·exact ih _ y h hc
def cxComp (X:Cx)(N':List Str)(scope:Scope)(C:Addr)(s₀:Shared)(H₀:Hp)(ex:List Addr):Cx :=
 {X with N:=N',s₀:=s₀,H₀:=H₀,env:=compEnvC scope (closL X.env.cells scope.names []) C X.env,outer:=X.stack,stack:=X.stack,ex:=ex,fn:=fun _=>false,xe:=fun _ _=>False}
def cxCompE (X:Cx)(N':List Str)(scope:Scope)(C:Addr)(s₀:Shared)(H₀:Hp)(ex:List Addr)(XE:Addr→Shared→Hp→List Addr→Value→Shared→Prop):Cx:={cxComp X N' scope C s₀ H₀ ex with xe:=XE C s₀ H₀ ex}
def noX:Addr→Shared→Hp→List Addr→Value→Shared→Prop:=fun _ _ _ _ _ _=>False
theorem cxE_no (X:Cx)(N':List Str)(scope:Scope)(C:Addr)(s₀:Shared)(H₀:Hp)(ex:List Addr):cxCompE X N' scope C s₀ H₀ ex noX=cxComp X N' scope C s₀ H₀ ex:=rfl
def PTs (X:Cx)(ifs:List Expr)(t:TT):Prop :=
 ∀(pins:List (Addr×Obj)) (s:Shared) (σ:St) (H:Hp) (Q:Bool→Hp→Prop),Inv X pins σ H s→t σ H Q→
  wpAny (model X.prog X.w) X.A (forIn ifs true fun c r=>if r=true then do let ok ←isTrue c X.env (eval c X.env);pure (ForInStep.yield ok) else pure (ForInStep.yield r)) (TP X pins σ Q) X.xe s
def tTrue:TT:=fun _ H Q=>Q true H
theorem pts_nil {X:Cx}:PTs X [] tTrue:=fun _ _ _ H _ I h=>wpAny_tests_nil ⟨H,I,h⟩
theorem pts_one {X:Cx}{c:Expr}{t:TT}(h:PT X c t):PTs X [c] t:=fun pins s σ H Q I q=>wpAny_tests_one (h pins s σ H Q I q)
section
variable {prog:Program}{w:World}{A:Around}{R:Result→Shared→Prop}{s:Shared}
theorem compLoop_go {elt target iter:Expr}{ifs:List Expr}{scope:Scope}{pos:Pos}{it acc:Value}{env:Env}(I:Nat→Shared→Prop)(E':Value→Shared→Prop)(hE:∀e s,E' e s→notedBy (model prog w) A env (fun x s'=>R (.error x) s') e s)
  (turn:∀n s,I n s→wpAny (model prog w) A (pyNext it) (fun r s₁=>match r with
   |none=>R (.ok .next) s₁
   |some v=>wpAny (model prog w) A (letOwnedTupleGo target it v) (fun _ s₀=>wpAny (model prog w) A (assign target env v) (fun _ s₂=>
     wpAny (model prog w) A (forIn ifs true fun c r=>if r=true then do let ok ←isTrue c env (eval c env);pure (ForInStep.yield ok) else pure (ForInStep.yield r)) (fun ok s₃=>
      if ok=true then wpAny (model prog w) A (eval elt env) (fun x s₄=>
       wpAny (model prog w) A (call (.builtin "list.append") [acc,x]) (fun _ s₅=>∃m,m<n∧I m s₅) E' s₄) E' s₃
      else ∃m,m<n∧I m s₃) E' s₂) E' s₀) E' s₁) E' s)
  (n:Nat) (h:I n s):
  codeAny (model prog w) A (.compLoop (.ListComp elt [⟨target,iter,ifs,0⟩] scope pos) 0 it acc env) R s:=by
 refine codeAny_loop rfl I (fun n s hI=>?_) n h
 show wpAny _ A ((compTurn (.ListComp elt [⟨target,iter,ifs,0⟩] scope pos) 0 it acc env).onRaise (fun x=>do noteFrame x env;theTreesLotGoes x)) _ _ s
 refine wpAny_noted ?_
 rw[compTurn_list]
 refine wpAny_bind (wpAny_standAt (wpAny_bind (wpAny_mono (turn n s hI) (fun r s₁ h₁=>?_) hE)))
 cases r with
 |none=>exact wpAny_pure h₁
 |some v=>
  refine wpAny_bind (wpAny_mono h₁ (fun _ s₀ h₀=>?_) hE)
  refine wpAny_bind (wpAny_mono h₀ (fun _ s₂ h₂=>wpAny_bind (wpAny_mono h₂ (fun ok s₃ h₃=>?_) hE)) hE)
  cases ok with
  |false=>exact wpAny_pure ⟨rfl,h₃⟩
  |true=>
   exact wpAny_bind (wpAny_bind (wpAny_mono h₃ (fun x s₄ h₄=>wpAny_bind (wpAny_mono h₄ (fun _ s₅ h₅=>wpAny_pure (wpAny_pure ⟨rfl,h₅⟩)) hE)) hE))
end
structure CompScope (X:Cx)(x:Str)(frees:List Str)(idx:List Nat)(scope:Scope):Prop where
 kind:scope.kind=.function
 nocell:∀y∈scope.names,y.2≠.cell
 loc:∀y∈scope.names,y.2=.local→scope.names.lookup y.1=some .local
 tgt:scope.names.lookup x=some .local
 nd:(x::frees).Nodup
 fr:∀y∈scope.names,y.2=.free→X.env.kindOf y.1=some .cell∨X.env.kindOf y.1=some .free
 ix:∀(j:Nat) (y:Str),frees[j]?=some y→∃k,idx[j]?=some k∧X.N[k]?=some y
 len:idx.length=frees.length
 cl:∀y∈frees,(y,NameKind.free)∈scope.names
def outs (σ:St)(idx:List Nat):St:=idx.map fun k=>(σ[k]?).join
def CompW (J:It)(tt:TT)(te:TE)(σ':St)(Q:VK)(H1:Hp):Prop:=∃W:Nat→Nat→List V→Hp→Prop,(∃m,W 0 m [] H1)∧∀i m vs H2,W i m vs H2→
 vs.length<sizeLine∧((J.stop i H2∧∀l,H2 l=none→Q (.ref l) (upd H2 l (.lst vs)))∨
  (J.go i H2∧∀x H3,J.yld i H2 x H3→tt (some x::σ') H3 fun b H4=>if b=true then te (some x::σ') H4 fun v H5=>∃m',m'<m∧W (i+1) m' (vs++[v]) H5 else ∃m',m'<m∧W (i+1) m' vs H4))
def tComp (idx:List Nat)(wi:TI)(tt:TT)(te:TE):TE:=fun σ H Q=>wi σ H fun J H1=>CompW J tt te (outs σ idx) Q H1
theorem Vals.snoc {xs:List V}{us:List Value}{x:V}{u:Value}(h:Vals xs us)(r:RelV x u):Vals (xs++[x]) (us++[u]):=Vals.append h (.cons r .nil)
theorem mem_of_lookup' {α β:Type}[BEq α][LawfulBEq α]{l:List (α×β)}{x:α}{b:β}(h:l.lookup x=some b):(x,b)∈l:=by
 induction l with
 |nil=>simp at h
 |cons p r ih=>
  obtain⟨n,k⟩:=p
  rw[List.lookup_cons]at h
  cases e:x==n with
  |true=>
   rw[e]at h
   have e':x=n:=by simpa using e
   have h':k=b:=Option.some.inj h
   subst e' h'
   exact List.mem_cons_self
  |false=>rw[e]at h;exact List.mem_cons_of_mem _ (ih h)
theorem relabel_free {scope:Scope}{env:Env}{y:Str}(h:(relabel scope env).names.lookup y=some .cell∨(relabel scope env).names.lookup y=some .free)(hc:∀y∈scope.names,y.2≠.cell):(y,NameKind.free)∈scope.names:=by
 have q:∃k,(y,k)∈(relabel scope env).names∧(k=.cell∨k=.free):=by
  rcases h with h|h
  ·exact⟨_,mem_of_lookup' h, .inl rfl⟩
  ·exact⟨_,mem_of_lookup' h, .inr rfl⟩
 obtain⟨k,hm,hk⟩:=q
 obtain⟨⟨n,k'⟩,hm',e⟩:=List.mem_map.mp hm
 dsimp only at e
 split at e
 ·rename_i hf
  cases e
  have:k'=.free:=by
   simp only[Bool.and_eq_true,beq_iff_eq]at hf
   exact hf.1.1
  subst this
  exact hm'
 ·cases e
  rcases hk with rfl|rfl
  ·exact absurd rfl (hc _ hm')
  ·exact hm'
theorem lookup_relabel_free {env:Env}:∀{names:List (Str×NameKind)} {x:Str},names.lookup x=some .free→
  ((names.map fun(n,k)=>if(k==NameKind.free&&env.scope.kind==.function&&env.kindOf n==some .cell) then(n,NameKind.cell) else(n,k)).lookup x=some .cell∨
   (names.map fun(n,k)=>if(k==NameKind.free&&env.scope.kind==.function&&env.kindOf n==some .cell) then(n,NameKind.cell) else(n,k)).lookup x=some .free)
 |[],_,h=>by simp at h
 |(n,k)::r,x,h=>by
  have ih:=@lookup_relabel_free env r x
  rw[List.map_cons]
  cases hx:x==n with
  |true=>
   simp only[List.lookup_cons,hx]at h
   have hk:k=.free:=Option.some.inj h
   subst hk
   by_cases hc:(NameKind.free==NameKind.free&&env.scope.kind==.function&&env.kindOf n==some .cell)=true
   ·left
    simp only[hc,if_true,List.lookup_cons,hx]
   ·right
    simp only[hc,if_false,List.lookup_cons,hx,Bool.false_eq_true]
  |false=>
   simp only[List.lookup_cons,hx]at h
   by_cases hc:(k==NameKind.free&&env.scope.kind==.function&&env.kindOf n==some .cell)=true
   ·simp only[hc,if_true,List.lookup_cons,hx];exact ih h
   ·simp only[hc,if_false,List.lookup_cons,hx,Bool.false_eq_true];exact ih h
theorem Inv.track {X:Cx}{pins:List (Addr×Obj)}{σ:St}{H:Hp}{s:Shared}{D:Addr}{vs:List V}{its:List Value}{k:Nat}(I:Inv X pins σ H s)(hD:H D=none)(hz:vs.length≤sizeLine)(hv:Vals vs its)
  (e:s.heap.get? D=some {cls:=.type "list",data:=.seq its.toArray k}) (h1:D∈X.ex∨X.s₀.heap.objs.size≤D) (h2:D≠X.env.locals) (h3:∀x c,X.env.cells.lookup x=some c→c≠D) (h4:∀p∈X.pn++pins,p.1≠D):
  Inv X pins σ (upd H D (.lst vs)) s:=by
 obtain⟨hh,g,d,t,o⟩:=s
 have nD:∀b u,H b=some u→b≠D:=fun b u q z=>by rw[z,hD]at q;cases q
 refine I.step (g':=g) (d':=d) (t':=t) (h':=hh) (ch:=[D]) (fun b hb=>?_) (fun b o _ _ _ q _=>q) (fun b o _ _ _ q _=>⟨o.slots,q⟩) (fun b o hb q n=>?_) (fun b o _ q=>⟨o,q⟩)
  (fun b xs q=>by rw[upd_ne (nD b _ q)];exact q) (fun b o u q=>by rw[upd_ne (nD b _ q)];exact q) (fun b ps q=>⟨#[],by rw[upd_ne (nD b _ q),q];simp⟩) (fun m q=>q) (fun b u q=>?_) I.bare
 ·have z:b=D:=by simpa using hb
  subst z
  exact⟨h1,h2,h3,h4⟩
 ·rw[upd_ne (by simpa using hb)];exact n
 ·by_cases z:b=D
  ·subst z
   rw[upd_same]at q;cases q
   exact⟨hz,its,k,hv,e⟩
  ·rw[upd_ne z]at q
   exact(I.hok b u q).stay (fun _ _ _ q=>q) (fun c q=>by rw[upd_ne (nD c _ q)];exact q) fun c xs q=>by rw[upd_ne (nD c _ q)];exact q
structure CompScopeM (X:Cx)(frees:List Str)(idx:List Nat)(scope:Scope):Prop where
 kind:scope.kind=.function
 nocell:∀y∈scope.names,y.2≠.cell
 loc:∀y∈scope.names,y.2=.local→scope.names.lookup y.1=some .local
 fr:∀y∈scope.names,y.2=.free→X.env.kindOf y.1=some .cell∨X.env.kindOf y.1=some .free
 ix:∀(j:Nat) (y:Str),frees[j]?=some y→∃k,idx[j]?=some k∧X.N[k]?=some y
 len:idx.length=frees.length
 cl:∀y∈frees,(y,NameKind.free)∈scope.names
def CompWM (n:Nat)(J:It)(g:TG)(tt:TT)(te:TE)(σ':St)(Q:VK)(H1:Hp):Prop:=∃W:Nat→Nat→List V→Hp→Prop,(∃m,W 0 m [] H1)∧∀i m vs H2,W i m vs H2→
 vs.length<sizeLine∧((J.stop i H2∧∀l,H2 l=none→Q (.ref l) (upd H2 l (.lst vs)))∨
  (J.go i H2∧∀(τ:St) x H3,τ.length=n→J.yld i H2 x H3→g x (τ++σ') H3 fun σ1 H4=>(∃τ':St,σ1=τ'++σ'∧τ'.length=n)∧
   tt σ1 H4 fun b H5=>if b=true then te σ1 H5 fun v H6=>∃m',m'<m∧W (i+1) m' (vs++[v]) H6 else ∃m',m'<m∧W (i+1) m' vs H5))
def tCompM (n:Nat)(idx:List Nat)(wi:TI)(g:TG)(tt:TT)(te:TE):TE:=fun σ H Q=>wi σ H fun J H1=>CompWM n J g tt te (outs σ idx) Q H1
theorem comp_core {X:Cx}{elt iter tg:Expr}{M:List Str}{g:TG}{pos p1:Pos}{ifs:List Expr}{scope:Scope}{frees:List Str}{idx:List Nat}{wi:TI}{tt:TT}{te:TE}{XE:Addr→Shared→Hp→List Addr→Value→Shared→Prop}
  {qt:Cx→Prop} (hc:∀C s₀ H₀ ex,qt (cxCompE X (M++frees) scope C s₀ H₀ ex XE)) (S:CompScopeM X frees idx scope) (hfl:∀y∈frees,scope.names.lookup y=some .free) (hi:PIQ qt X tg iter wi) (hg:∀C s₀ H₀ ex,PG (cxCompE X (M++frees) scope C s₀ H₀ ex XE) tg g)
  (ht:∀C s₀ H₀ ex,PTs (cxCompE X (M++frees) scope C s₀ H₀ ex XE) ifs tt) (he:∀C s₀ H₀ ex,PE (cxCompE X (M++frees) scope C s₀ H₀ ex XE) elt te)
  (hs:∀v,foldedSetIterable iter X.env v=pure v) {use:Option (Value→Sem Unit)} {Q':Value→Shared→Prop} {pins:List (Addr×Obj)} {s:Shared} {σ:St} {H:Hp} {Q:VK} (I:Inv X pins σ H s) (h:tCompM M.length idx wi g tt te σ H Q)
  (hxe:∀C s2 H2 ex D,Inv X pins σ H2 s2→(∀b∈ex,FpOk X pins H2 b)→s2.heap.objs.size≤C→D≠C→∀e s',XE C s2 H2 ex e s'→notedBy (model X.prog X.w) X.A (compEnvC scope (closL X.env.cells scope.names []) C X.env) (fun x s''=>compPost (model X.prog X.w) X.A X.xe use Q' (.ref D) C (.error x) s'') e s')
  (hpost:∀(D C:Addr) (H':Hp) m4 (s4:Shared),s4.heap.Ns C m4→(∀h',Heap.SameBut C s4.heap h'→Inv X pins σ H' {s4 with heap:=h'})→H' C=none→C≠X.env.locals→C∉X.fs→X.s₀.heap.objs.size≤C→(∀z c,X.env.cells.lookup z=some c→c≠C)→(∀p∈X.pn++pins,p.1≠C)→Q (.ref D) H'→
   compPost (model X.prog X.w) X.A X.xe use Q' (.ref D) C (.ok .next) s4):
  wpAny (model X.prog X.w) X.A (comprehension (.ListComp elt [⟨tg,iter,ifs,0⟩] scope pos) scope X.env p1 (newList []) (firstAsync [⟨tg,iter,ifs,0⟩]) (firstIter [⟨tg,iter,ifs,0⟩] X.env) use) Q' X.xe s:=by
 have hclos:=closL_eq (scope:=scope) (env:=X.env) fun p hp hf=>I.ok.has p.1 (S.fr p hp hf)
 refine wpAny_comprehension_free (use:=use) rfl hs hclos S.kind S.loc (thn (hi pins s σ H _ I h) fun v s1 h1=>thn h1 fun itv s2 h2=>?_)
 obtain⟨it,fp,tn,J,H2,rfl,I2,T,st2,f2,W,⟨m0,w0⟩,turn⟩:=h2
 refine wpAny_newObj_type (wpAny_newFunctionEnv S.nocell (by intro y hy;simp at hy) (fun h₁ hns₁ hsb₁=>?_) S.kind)
 dsimp only at hns₁ hsb₁ ⊢
 generalize hH2:s2.heap.push {cls:=.type "list",dict:=none,data:=.seq ([]:List Value).toArray}=G2 at hns₁ hsb₁ ⊢
 have hCe:G2.objs.size=s2.heap.objs.size+1:=by rw[←hH2,Heap.size_push]
 generalize hC:G2.objs.size=C at hns₁ hsb₁ hCe ⊢
 have hCle:s2.heap.objs.size≤C:=by omega
 have hDC:s2.heap.objs.size≠C:=by omega
 have below:∀b,b<s2.heap.objs.size→b≠C:=fun b hb=>by omega
 have old:∀b o,s2.heap.get? b=some o→h₁.get? b=some o:=fun b o e=>hsb₁.extBut b o (below b (Heap.lt_size e)) (Heap.get?_push_of_some _ (hH2 ▸ Heap.get?_push_of_some _ e))
 have hacc:∃k,h₁.get? s2.heap.objs.size=some {cls:=.type "list",data:=.seq ([]:List Value).toArray k}:=⟨_,hsb₁.extBut _ _ hDC (Heap.get?_push_of_some _ (hH2 ▸ Heap.get?_push_size _ rfl))⟩
 have look:∀y c,(closL X.env.cells scope.names []).lookup y=some c→X.env.cells.lookup y=some c:=fun y c e=>by
  rcases closL_look _ _ y c e with q|q
  ·exact q
  ·cases q
 have fpD:∀b∈fp,b<s2.heap.objs.size:=fun b hb=>by
  obtain⟨o,e,_⟩:=T.obj _ _ st2 b hb
  exact Heap.lt_size e
 have ok':(cxCompE X (M++frees) scope C s2 H2 fp XE).Ok:={
  mod:=I2.ok.mod
  kind:=S.kind
  glob:=I2.ok.glob
  blt:=I2.ok.blt
  above:=hCle
  inj:=fun y z c e1 e2=>I2.ok.inj y z c (look y c e1) (look z c e2)
  has:=fun y hy=>by
   have q:=relabel_free (scope:=scope) (env:=X.env) hy S.nocell
   exact closL_has _ _ y q (I2.ok.has y (S.fr _ q rfl))
  cab:=fun y c hf=>by cases hf
  hd:=I2.ok.hd
  frames:=I2.ok.frames
  stk:=.inl rfl
  exf:=fun b hb=>⟨below b (fpD b hb),fun y c e=>(f2 b hb).2.2.2.2.1 y c (look y c e)⟩
  bs:=I2.bs
  bsz:=Nat.le_trans I2.ok.bsz I2.sz
  noex:=fun b o e hb=>by
   rcases(f2 b hb).2.2.2.1 with z|z
   ·exact I2.ok.noex b o e z
   ·exact absurd (Nat.lt_of_lt_of_le (Heap.lt_size e) (Nat.le_trans I2.ok.bsz z)) (Nat.lt_irrefl _)
  exfs:=fun b hb hf=>by
   rcases List.mem_cons.mp (I2.stkSub b hf) with z|z
   ·exact(f2 b hb).2.1 z
   ·exact(f2 b hb).2.2.1 z
  funs:=I2.stack
  frf:=I2.stkFree}
 have Dfs:s2.heap.objs.size∉frs X.stack:=fun hb=>by
  rcases List.mem_cons.mp (I2.stkSub _ hb) with z|z
  ·have q:=I2.lt
   rw[←z]at q
   exact Nat.lt_irrefl _ q
  ·exact I2.nofs (Nat.le_refl _) z
 have Dcell:∀y c,X.env.cells.lookup y=some c→c≠s2.heap.objs.size:=fun y c e z=>by
  obtain⟨v,q⟩:=I2.cell y c e
  have q':=q.lt
  rw[z]at q'
  exact Nat.lt_irrefl _ q'
 have Dpin:∀p∈X.pn++pins,p.1≠s2.heap.objs.size:=fun p hp z=>by
  have q':=Heap.lt_size (I2.pin p hp).1
  rw[z]at q'
  exact Nat.lt_irrefl _ q'
 have I3:Inv (cxCompE X (M++frees) scope C s2 H2 fp XE) pins (List.replicate M.length none++outs σ idx) H2 {s2 with heap:=h₁,toks:=s2.toks+([]:List (Str×Value)).length}:={
  ok:=ok'
  os:=rfl
  bare:=I2.bare
  base:=Un.kept old
  loc:=by
   refine⟨_,hns₁,fun i y v e1 e2 e3=>?_⟩
   by_cases hi':i<M.length
   ·rw[List.getElem?_append_left (by rw[List.length_replicate];exact hi'),List.getElem?_replicate,if_pos hi']at e2
    cases e2
   ·obtain⟨j,rfl⟩:∃j,i=M.length+j:=⟨i-M.length,by omega⟩
    have e1':frees[j]?=some y:=by
     have e1'':(M++frees)[M.length+j]?=some y:=e1
     rw[List.getElem?_append_right (Nat.le_add_right _ _),Nat.add_sub_cancel_left]at e1''
     exact e1''
    have e2':(outs σ idx)[j]?=some (some v):=by
     rw[List.getElem?_append_right (by rw[List.length_replicate];exact Nat.le_add_right _ _),List.length_replicate,Nat.add_sub_cancel_left]at e2
     exact e2
    obtain⟨k,hk,hN⟩:=S.ix j y e1'
    have hy:y∈frees:=List.mem_of_getElem? e1'
    have e4:σ[k]?=some (some v):=by
     unfold outs at e2'
     rw[List.getElem?_map,hk]at e2'
     have e5:(σ[k]?).join=some v:=Option.some.inj e2'
     cases q:σ[k]? with
     |none=>rw[q]at e5;cases e5
     |some o=>rw[q]at e5;exact congrArg some e5
    obtain⟨m,hn,hl⟩:=I2.loc
    have kin:=S.fr _ (S.cl y hy) rfl
    have vis:Vis X.env.scope y:=by
     rcases kin with z|z
     ·exact .inr (.inl z)
     ·exact .inr (.inr z)
    obtain⟨u,r,l⟩:=hl k y v hN e4 vis
    refine⟨u,r, .inr ⟨lookup_relabel_free (env:=X.env) (hfl y hy),?_⟩⟩
    rcases l with ⟨z,_⟩|⟨_,c,ec,ic⟩
    ·rcases kin with z'|z'
     ·have z'':X.env.kindOf y=some .cell:=z'
      rw[z]at z'';cases z''
     ·have z'':X.env.kindOf y=some .free:=z'
      rw[z]at z'';cases z''
    ·obtain⟨c',ec'⟩:=closL_has (cells:=X.env.cells) scope.names [] y (S.cl y hy) ⟨c,ec⟩
     have:c'=c:=Option.some.inj ((look y c' ec').symm.trans ec)
     subst this
     obtain⟨o,ho,hd⟩:=ic
     exact⟨c',ec',o,old _ _ ho,hd⟩
  cell:=fun y c e=>by
   obtain⟨v,o,ho,hd⟩:=I2.cell y c (look y c e)
   exact⟨v,o,old _ _ ho,hd⟩
  free:=I2.hok.fresh hCle
  freeC:=fun y c e=>I2.freeC y c (look y c e)
  pin:=fun p hp=>by
   obtain⟨e,n,ne,nf,d⟩:=I2.pin p hp
   refine⟨old _ _ e,n,below _ (Heap.lt_size e),fun hb=>?_,d⟩
   rcases List.mem_cons.mp (I2.stkSub _ hb) with z|z
   ·exact ne z
   ·exact nf z
  hok:=I2.hok.kept old
  len:=by simp[cxCompE,cxComp,outs,S.len]}
 have fok:∀{pp:List (Addr×Obj)} {H':Hp},(∀b∈fp,H' b=none)→(∀p∈pp,p.1=s2.heap.objs.size)→∀b∈fp,FpOk (cxCompE X (M++frees) scope C s2 H2 fp XE) (pins++pp) H' b:=fun{pp H'} hn hp b hb=>by
  obtain⟨_,f1,f2',f3,f4,f5⟩:=f2 b hb
  refine⟨hn b hb,below b (fpD b hb),fun hf=>?_, .inl hb,fun y c e=>f4 y c (look y c e),fun p hpp z=>?_⟩
  ·rcases List.mem_cons.mp (I2.stkSub b hf) with z|z
   ·exact f1 z
   ·exact f2' z
  ·have hpp':p∈X.pn++(pins++pp):=hpp
   rw[←List.append_assoc]at hpp'
   rcases List.mem_append.mp hpp' with q|q
   ·exact f5 p q z
   ·have q':=fpD b hb
    rw[←z,hp p q]at q'
    exact Nat.lt_irrefl _ q'
 have loop:∀s3:Shared,s3={s2 with heap:=h₁,toks:=s2.toks+([]:List (Str×Value)).length}→
   codeAny (model X.prog X.w) X.A (.compLoop (.ListComp elt [⟨tg,iter,ifs,0⟩] scope pos) 0 (.ref it) (.ref s2.heap.objs.size) (compEnvC scope (closL X.env.cells scope.names []) C X.env))
    (compPost (model X.prog X.w) X.A X.xe use Q' (.ref s2.heap.objs.size) C) s3:=by
  rintro s3 rfl
  obtain⟨k0,hacc⟩:=hacc
  refine compLoop_go (fun n s'=>∃i τ vs H' its k,(τ:St).length=M.length∧Inv (cxCompE X (M++frees) scope C s2 H2 fp XE) pins (τ++outs σ idx) H' s'∧tn i s'.heap∧(∀b∈fp,H' b=none)∧H' s2.heap.objs.size=none∧
   s'.heap.get? s2.heap.objs.size=some {cls:=.type "list",data:=.seq its.toArray k}∧Vals vs its∧W i n vs H') (XE C s2 H2 fp) (hxe C s2 H2 fp s2.heap.objs.size I2 f2 hCle hDC) ?_ m0
   ⟨0,List.replicate M.length none,[],H2,[],k0,by simp,I3,T.keep _ _ _ st2 fun b _ o e=>old b o e,fun b hb=>(f2 b hb).1,I2.hok.fresh (Nat.le_refl _),hacc, .nil,w0⟩
  rintro n s' ⟨i,τ,vs,H',its,k,lτ,I',st',fr',hD',hg',hv',w'⟩
  obtain⟨hlen,alt⟩:=turn i n vs H' w'
  have IP:Inv (cxCompE X (M++frees) scope C s2 H2 fp XE) (pins++[(s2.heap.objs.size,{cls:=.type "list",data:=.seq its.toArray k})]) (τ++outs σ idx) H' s' :=
   I'.pins_of fun p hp=>(List.mem_append.mp hp).elim (fun z=>I'.pin p (List.mem_append_right _ z)) fun z=>by
    have z':p=(s2.heap.objs.size,{cls:=.type "list",data:=.seq its.toArray k}):=by simpa using z
    subst z'
    exact⟨hg',hD',hDC,Dfs,fun v q=>by cases q⟩
  have FP:=fok (pp:=[(s2.heap.objs.size,{cls:=.type "list",data:=.seq its.toArray k})]) fr' (fun p hp=>by
   have z':p=(s2.heap.objs.size,{cls:=.type "list",data:=.seq its.toArray k}):=by simpa using hp
   rw[z'])
  rcases alt with ⟨stop,qn⟩|⟨go,step⟩
  ·refine thn (T.done (cxCompE X (M++frees) scope C s2 H2 fp XE) rfl rfl rfl (hc C s2 H2 fp) i _ s' _ H' (XE C s2 H2 fp) IP FP st' stop) fun r s4 ⟨hr,I4⟩=>?_
   subst hr
   obtain⟨m4,hn4,_⟩:=id I4.loc
   refine hpost s2.heap.objs.size C (upd H' s2.heap.objs.size (.lst vs)) m4 s4 hn4 (fun h' hsb=>?_) (by rw[upd_ne (Ne.symm hDC)];exact I4.free) (fun z=>by have q:=I2.lt;rw[←z]at q;exact Nat.lt_irrefl _ (Nat.lt_of_lt_of_le q hCle)) (I2.nofs hCle) (Nat.le_trans I2.sz hCle) (fun z c e zz=>by
    obtain⟨v,q⟩:=I2.cell z c e
    have q':=q.lt
    rw[zz]at q'
    exact Nat.lt_irrefl _ (Nat.lt_of_lt_of_le q' hCle)) (fun p hp zz=>by
    have q':=Heap.lt_size (I2.pin p hp).1
    rw[zz]at q'
    exact Nat.lt_irrefl _ (Nat.lt_of_lt_of_le q' hCle)) (qn _ hD')
   have gD:s4.heap.get? s2.heap.objs.size=some {cls:=.type "list",data:=.seq its.toArray k}:=(I4.pin (s2.heap.objs.size,_) (List.mem_append_right _ (List.mem_append_right _ (List.mem_singleton.mpr rfl)))).1
   have hx:∀b o,b≠C→s4.heap.get? b=some o→h'.get? b=some o:=fun b o hb e=>(hsb.2 b hb).trans e
   have J1:Inv X pins σ H' {s4 with heap:=h'}:=by
    refine I2.call' (ch:=fp) I4.os ⟨fun b o e n hb hx'=>?_,fun b o e n hb hx'=>?_,I4.base.free,fun b o e hx'=>?_,I4.base.tups,I4.base.frzs,I4.base.tbls⟩ (fun b u e=>?_) I4.bare fun b hb=>?_
    ·exact hx b o (below b (Heap.lt_size e)) (I4.base.keep b o e n hb hx')
    ·obtain⟨sl,q⟩:=I4.base.slot b o e n hb hx'
     exact⟨sl,hx b _ (below b (Heap.lt_size e)) q⟩
    ·obtain⟨o',q⟩:=I4.base.there b o e hx'
     exact⟨o',hx b _ (below b (Heap.lt_size e)) q⟩
    ·refine(I4.hok b u e).stay (fun c v hcc q=>hx c v ?_ q) (fun _ q=>q) fun _ _ q=>q
     rintro rfl
     rcases hcc with z|z
     ·rw[←z]at e
      have:=I4.free
      rw[show H' c=none from this]at e;cases e
     ·have:=I4.free
      rw[show H' c=none from this]at z;cases z
    ·obtain⟨_,f1,f2',f3,f4,f5⟩:=f2 b hb
     exact⟨f3,f1,f4,f5⟩
   exact J1.track hD' (Nat.le_of_lt hlen) hv' (hx _ _ hDC gD) (.inr I2.sz) (fun z=>by have q:=I2.lt;rw[←z]at q;exact Nat.lt_irrefl _ q) Dcell Dpin
  ·refine thn (T.item (cxCompE X (M++frees) scope C s2 H2 fp XE) rfl rfl rfl (hc C s2 H2 fp) i _ s' _ H' (XE C s2 H2 fp) IP FP st' go) fun r s4 ⟨u,hr,h4⟩=>?_
   subst hr
   refine thn h4 fun _ s5 ⟨xv,H5,I5,r5,y5,st5,fr5⟩=>?_
   have I5':=I5.pinned (fok (pp:=[(s2.heap.objs.size,{cls:=.type "list",data:=.seq its.toArray k})]) fr5 (fun p hp=>by
    have z':p=(s2.heap.objs.size,{cls:=.type "list",data:=.seq its.toArray k}):=by simpa using hp
    rw[z'])) (T.obj _ _ st5)
   have q6:=step τ xv H5 lτ y5
   refine thn (hg C s2 H2 fp _ s5 _ H5 xv _ _ I5' r5 q6) fun _ s6 ⟨σ6,H6,I6,⟨τ6,e6,l6⟩,q6'⟩=>?_
   subst e6
   refine thn (ht C s2 H2 fp _ s6 _ H6 _ I6 q6') fun b s7 ⟨H7,I7,q7⟩=>?_
   have keepT:∀{s8:Shared} {σ8:St} {H8:Hp},Inv (cxCompE X (M++frees) scope C s2 H2 fp XE) ((pins++[(s2.heap.objs.size,{cls:=.type "list",data:=.seq its.toArray k})])++pinsAt fp s5.heap) σ8 H8 s8→
     tn (i+1) s8.heap∧(∀b∈fp,H8 b=none)∧H8 s2.heap.objs.size=none∧s8.heap.get? s2.heap.objs.size=some {cls:=.type "list",data:=.seq its.toArray k}:=fun{s8 σ8 H8} I8=>by
    refine⟨T.keep _ _ _ st5 fun b hb o e=>(I8.pin (b,o) (List.mem_append_right _ (List.mem_append_right _ (mem_pinsAt hb e)))).1,fun b hb=>?_,?_,?_⟩
    ·obtain⟨o,e,d⟩:=T.obj _ _ st5 b hb
     exact(I8.pin (b,o) (List.mem_append_right _ (List.mem_append_right _ (mem_pinsAt hb e)))).2.1
    ·exact(I8.pin (s2.heap.objs.size,_) (List.mem_append_right _ (List.mem_append_left _ (List.mem_append_right _ (List.mem_singleton.mpr rfl))))).2.1
    ·exact(I8.pin (s2.heap.objs.size,_) (List.mem_append_right _ (List.mem_append_left _ (List.mem_append_right _ (List.mem_singleton.mpr rfl))))).1
   cases b with
   |false=>
    rw[if_neg Bool.false_ne_true]at q7 ⊢
    obtain⟨m',hm,w7⟩:=q7
    obtain⟨a1,a2,a3,a4⟩:=keepT I7
    exact⟨m',hm,i+1,τ6,vs,H7,its,k,l6,I7.unpinned.unpinned,a1,a2,a3,a4,hv',w7⟩
   |true=>
    rw[if_pos rfl]at q7 ⊢
    refine thn (he C s2 H2 fp _ s7 _ H7 _ I7 q7) fun u8 s8 ⟨v8,H8,I8,r8,m',hm,w8⟩=>?_
    obtain⟨a1,a2,a3,a4⟩:=keepT I8
    refine wpAny_list_append_plain (items:=its.toArray) ⟨k,a4⟩ (fun h9 pl sb=>?_) (by rw[List.size_toArray,←hv'.length];exact Nat.le_of_lt hlen)
    obtain⟨k9,e9⟩:=pl
    have ne:∀b∈fp,b≠s2.heap.objs.size:=fun b hb=>Nat.ne_of_lt (fpD b hb)
    have I9:Inv (cxCompE X (M++frees) scope C s2 H2 fp XE) pins (τ6++outs σ idx) H8 {s8 with heap:=h9} :=
     I8.unpinned.unpinned.turned (t':=s8.toks) (fun b o hb e=>(sb.2 b hb).trans e) a3 hDC (.inr (Nat.le_refl _)) (fun y c e=>Dcell y c (look y c e)) Dpin
    refine⟨m',hm,i+1,τ6,vs++[v8],H8,its++[u8],k9,l6,I9,T.keep _ _ _ a1 fun b hb o e=>(sb.2 b (ne b hb)).trans e,a2,a3,?_,hv'.snoc r8,w8⟩
    rw[List.push_toArray]at e9
    exact e9
 exact codeAny_compStart_list (loop _ rfl) (T.self _ 0 _ _ _ (T.keep _ _ _ st2 fun b _ o e=>old b o e) (loop _ rfl))
theorem pe_lcompM {X:Cx}{elt iter tg:Expr}{M:List Str}{g:TG}{pos:Pos}{ifs:List Expr}{scope:Scope}{frees:List Str}{idx:List Nat}{wi:TI}{tt:TT}{te:TE}
  {qt:Cx→Prop} (hc:∀C s₀ H₀ ex,qt (cxComp X (M++frees) scope C s₀ H₀ ex)) (S:CompScopeM X frees idx scope) (hfl:∀y∈frees,scope.names.lookup y=some .free) (hi:PIQ qt X tg iter wi) (hg:∀C s₀ H₀ ex,PG (cxComp X (M++frees) scope C s₀ H₀ ex) tg g)
  (ht:∀C s₀ H₀ ex,PTs (cxComp X (M++frees) scope C s₀ H₀ ex) ifs tt) (he:∀C s₀ H₀ ex,PE (cxComp X (M++frees) scope C s₀ H₀ ex) elt te)
  (hs:∀v,foldedSetIterable iter X.env v=pure v:=by intro _;rfl):PE X (.ListComp elt [⟨tg,iter,ifs,0⟩] scope pos) (tCompM M.length idx wi g tt te):=by
 intro pins s σ H Q I h
 rw[eval_ListComp]
 exact comp_core (M:=M) (g:=g) (XE:=noX) (use:=none) (Q':=EP X pins σ Q) (fun C s₀ H₀ ex=>by rw[cxE_no];exact hc C s₀ H₀ ex) S hfl hi (fun C s₀ H₀ ex=>by rw[cxE_no];exact hg C s₀ H₀ ex) (fun C s₀ H₀ ex=>by rw[cxE_no];exact ht C s₀ H₀ ex) (fun C s₀ H₀ ex=>by rw[cxE_no];exact he C s₀ H₀ ex) hs I h (fun _ _ _ _ _ _ _ _ _ _ _ (z:False)=>z.elim) fun D C H' m4 s4 hn hJ _ _ _ _ _ _ q=>by
  show ∃m,s4.heap.Ns C m∧∀h',Heap.SameBut C s4.heap h'→EP X pins σ Q (.ref D) {s4 with heap:=h'}
  exact⟨m4,hn,fun h' hsb=>⟨.ref D,H',hJ h' hsb,rfl,q⟩⟩
theorem compW_M {J:It}{tt:TT}{te:TE}{σ':St}{Q:VK}{H1:Hp}:CompWM 1 J (gName 0) tt te σ' Q H1=CompW J tt te σ' Q H1:=by
 refine propext ⟨fun⟨W,h0,h⟩=>⟨W,h0,fun i m vs H2 w=>?_⟩,fun⟨W,h0,h⟩=>⟨W,h0,fun i m vs H2 w=>?_⟩⟩
 ·obtain⟨l,h⟩:=h i m vs H2 w
  exact⟨l,h.imp id fun⟨go,st⟩=>⟨go,fun x H3 y=>(st [none] x H3 rfl y).2⟩⟩
 ·obtain⟨l,h⟩:=h i m vs H2 w
  refine⟨l,h.imp id fun⟨go,st⟩=>⟨go,fun τ x H3 lτ y=>?_⟩⟩
  match τ,lτ with
  |[o],_=>exact⟨⟨[some x],rfl,rfl⟩,st x H3 y⟩
theorem tComp_M {idx:List Nat}{wi:TI}{tt:TT}{te:TE}:tCompM 1 idx wi (gName 0) tt te=tComp idx wi tt te:=by
 funext σ H Q
 unfold tCompM tComp
 exact congrArg (wi σ H) (funext fun J=>funext fun H1=>compW_M)
theorem pe_lcomp {X:Cx}{elt iter:Expr}{x:Str}{px pos:Pos}{ifs:List Expr}{scope:Scope}{frees:List Str}{idx:List Nat}{wi:TI}{tt:TT}{te:TE}
  {qt:Cx→Prop} (hc:∀C s₀ H₀ ex,qt (cxComp X (x::frees) scope C s₀ H₀ ex)) (S:CompScope X x frees idx scope) (hfl:∀y∈frees,scope.names.lookup y=some .free) (hi:PIQ qt X (.Name x px) iter wi)
  (ht:∀C s₀ H₀ ex,PTs (cxComp X (x::frees) scope C s₀ H₀ ex) ifs tt) (he:∀C s₀ H₀ ex,PE (cxComp X (x::frees) scope C s₀ H₀ ex) elt te)
  (hs:∀v,foldedSetIterable iter X.env v=pure v:=by intro _;rfl):PE X (.ListComp elt [⟨.Name x px,iter,ifs,0⟩] scope pos) (tComp idx wi tt te):=by
 have h:=pe_lcompM (M:=[x]) (g:=gName 0) (pos:=pos) hc ⟨S.kind,S.nocell,S.loc,S.fr,S.ix,S.len,S.cl⟩ hfl hi (fun C s₀ H₀ ex=>pg_name (i:=0) S.nd rfl (.inl (lookup_relabel_local S.tgt)) (.inr (lookup_relabel_local S.tgt))) ht he hs
 exact tComp_M ▸ h
section
variable {X:Cx}
theorem call_isi:CallR X (.builtin "isinstance") (fun xs H Q=>∃x t T b,xs=[x, .ty T]∧TyOf X.K H x t∧PySem.W.kitOne X.K t (.type T)=some b∧Q (.bl b) H):=by
 intro pins s σ H xs us Q I r h
 obtain⟨x,t,T,b,rfl,ty,e,q⟩:=h
 obtain⟨u,w',rfl,rx,ry⟩:=vals2 r
 cases(show w'=Value.type T from ry)
 exact isinst_ok I rx ty e fun tk=>⟨.bl b,H,I.tok tk,rfl,q⟩
theorem sl_str:SlR X (fun x lo hi H Q=>∃z,x=.str z∧z.length≤sizeLine∧Q (.str (Txt.slice z lo hi)) H):=by
 intro pins s σ H x v vl vu lo hi sl Q I rx hs pl pu h
 obtain⟨z,rfl,hz,q⟩:=h
 obtain⟨t,rfl⟩:=rx
 refine⟨"str",_,F.slot_str_getitem.lookup,typeIs_str _ _ _,?_⟩
 have fin:∀l u:Option (Int×Tok),vl=partValue l→vu=partValue u→l.map (·.1)=lo→u.map (·.1)=hi→wpAny (model X.prog X.w) X.A (getItem (.str z t) (.ref sl)) (EP X pins σ Q) X.xe s:=fun l u e1 e2 e3 e4=>by
  subst e1 e2 e3 e4
  refine wpAny_getItem_str_slice (l:=l) (u:=u) (st:=none) hs rfl (post_val_or_str ⟨Nat.le_trans (Txt.slice_le z _ _) hz,fun t' k=>⟨.str _,H,I.tok k,⟨t',rfl⟩,q⟩⟩)
 cases pl<;>cases pu<;>first
  |exact fin none none rfl rfl rfl rfl
  |exact fin none (some (_,_)) rfl rfl rfl rfl
  |exact fin (some (_,_)) none rfl rfl rfl rfl
  |exact fin (some (_,_)) (some (_,_)) rfl rfl rfl rfl
theorem vals_strValues:∀l:List (Str×Tok),Vals ((l.map (·.1)).map V.str) (strValues l)
 |[]=>.nil
 |(x,t)::r=>.cons ⟨t,rfl⟩ (vals_strValues r)
theorem mt_split:MtR X "str.split" (fun x xs H Q=>∃z y,x=.str z∧xs=[.str y]∧z.length≤sizeLine∧1≤y.length∧(Txt.split z y).length≤sizeLine∧∀l,H l=none→Q (.ref l) (upd H l (.lst ((Txt.split z y).map V.str)))):=by
 intro pins s σ H x xs v us Q I rx rs h
 obtain⟨z,y,rfl,rfl,hz,hy,hn,q⟩:=h
 obtain⟨t,rfl⟩:=rx
 obtain⟨u,rfl,t',rfl⟩:=vals1 rs
 have hy':(y.length==0)=false:=by simp;exact Nat.ne_of_gt hy
 have fin:∀(l:List (Str×Tok)) (k:Nat),l.map (·.1)=Txt.split z y→EP X pins σ Q (.ref s.heap.objs.size) {s with toks:=k,heap:=s.heap.push {cls:=.type "list",data:=.seq (strValues l).toArray}}:=fun l k e=>by
  have hv:=vals_strValues l
  rw[e]at hv
  refine⟨.ref s.heap.objs.size,_,I.lnew (t':=k) hv (by rw[List.length_map];exact hn),rfl,q _ I.fresh⟩
 cases h1:(decide (z.length<y.length)||decide (Builtin.Str.strKind z<Builtin.Str.strKind y))
 ·cases hf:(Builtin.Str.occurrences z y 0 z.length (z.length+1)).isEmpty
  ·have e:Txt.split z y=Builtin.Str.partsBetween z (Builtin.Str.occurrences z y 0 z.length (z.length+1)) y.length:=(if_neg (ne_true_of_eq_false h1)).trans (if_neg (ne_true_of_eq_false hf))
   refine call_meets F.slot_str_split (typeIs_str _ _ _) F.entry_str_split (F.args_str_split_2 _ _) (meets_str_split_sep z y t t' h1 hy' hf hz (by rw[←e];exact hn)) ?_
   show EP X pins σ Q _ {s with toks:=_,heap:=s.heap.push {cls:=.type "list",data:=.seq (strsFrom s.toks (Builtin.Str.partsBetween z (Builtin.Str.occurrences z y 0 z.length (z.length+1)) y.length)).toArray}}
   rw[strsFrom_eq]
   exact fin (numbered s.toks _) _ ((numbered_texts _ _).trans e.symm)
  ·exact call_meets F.slot_str_split (typeIs_str _ _ _) F.entry_str_split (F.args_str_split_2 _ _) (meets_str_split_not_found z y t t' h1 hy' hf) (fin [(z,t)] s.toks ((if_neg (ne_true_of_eq_false h1)).trans (if_pos hf)).symm)
 ·exact call_meets F.slot_str_split (typeIs_str _ _ _) F.entry_str_split (F.args_str_split_2 _ _) (meets_str_split_cannot_occur z y t t' h1) (fin [(z,t)] s.toks (if_pos h1).symm)
end
def compOk (osc:Scope)(N:List Str)(x:Str)(frees:List Str)(idx:List Nat)(scope:Scope):Bool :=
 scope.kind==.function&&(scope.names.all (fun y=>y.2 !=.cell)&&(scope.names.all (fun y=>y.2 !=.local||scope.names.lookup y.1==some .local)&&(scope.names.all (fun y=>y.2 !=.free||(osc.names.lookup y.1==some .cell||osc.names.lookup y.1==some .free))&&
 (scope.names.lookup x==some .local&&(decide (x::frees).Nodup&&(idx.length==frees.length&&((idx.zip frees).all (fun p=>N[p.1]?==some p.2)&&frees.all (fun y=>scope.names.lookup y==some .free))))))))
theorem zip_get {α β:Type}{l:List α}{r:List β}{j:Nat}{y:β}(e:l.length=r.length)(h:r[j]?=some y):∃k,l[j]?=some k∧(k,y)∈l.zip r:=by
 induction l generalizing r j with
 |nil=>cases r with
  |nil=>simp at h
  |cons=>cases e
 |cons a l ih=>cases r with
  |nil=>cases e
  |cons b r=>cases j with
   |zero=>cases h;exact⟨a,rfl,by simp⟩
   |succ j=>
    obtain⟨k,h1,h2⟩:=ih (j:=j) (Nat.succ.inj e) h
    exact⟨k,h1,List.mem_cons_of_mem _ h2⟩
theorem compOk_scope {X:Cx}{osc:Scope}{N:List Str}{x:Str}{frees:List Str}{idx:List Nat}{scope:Scope}(h:compOk osc N x frees idx scope=true)(ho:X.env.scope=osc)(hN:X.N=N):
  CompScope X x frees idx scope∧∀y∈frees,scope.names.lookup y=some .free:=by
 unfold compOk at h
 simp only[Bool.and_eq_true,List.all_eq_true,Bool.or_eq_true,bne_iff_ne,beq_iff_eq,decide_eq_true_eq]at h
 obtain⟨h1,h2,h3,h4,h5,h6,h7,h8,h9⟩:=h
 have fl:∀y∈frees,scope.names.lookup y=some .free:=fun y hy=>h9 y hy
 refine⟨⟨h1,h2,fun y hy e=>?_,h5,h6,fun y hy e=>?_,fun j y hj=>?_,h7,fun y hy=>mem_of_lookup' (fl y hy)⟩,fl⟩
 ·rcases h3 y hy with q|q
  ·exact absurd e q
  ·exact q
 ·have q:osc.names.lookup y.1=some .cell∨osc.names.lookup y.1=some .free:=by
   rcases h4 y hy with q|q
   ·exact absurd e q
   ·exact q
  rw[←ho]at q
  exact q
 ·obtain⟨k,e1,e2⟩:=zip_get h7 hj
  exact⟨k,e1,by rw[hN];exact h8 (k,y) e2⟩
theorem pe_lc {X:Cx}{elt iter:Expr}{x:Str}{px pos:Pos}{ifs:List Expr}{scope:Scope}{wi:TI}{tt:TT}{te:TE}(osc:Scope)(N:List Str)(frees:List Str)(idx:List Nat)
  (hk:compOk osc N x frees idx scope=true) (hi:PI X (.Name x px) iter wi)
  (ht:∀C s₀ H₀ ex,PTs (cxComp X (x::frees) scope C s₀ H₀ ex) ifs tt) (he:∀C s₀ H₀ ex,PE (cxComp X (x::frees) scope C s₀ H₀ ex) elt te)
  (ho:X.env.scope=osc:=by rfl) (hN:X.N=N:=by rfl) (hc:X.calm=true:=by rfl) (hs:∀v,foldedSetIterable iter X.env v=pure v:=by intro _;rfl):PE X (.ListComp elt [⟨.Name x px,iter,ifs,0⟩] scope pos) (tComp idx wi tt te):=by
 obtain⟨S,fl⟩:=compOk_scope (X:=X) hk ho hN
 exact pe_lcomp (qt:=Calm) (fun _ _ _ _=>hc) S fl hi ht he hs
def Nx (n i:Nat)(p:Prop):Prop:=∃m',m'<n-i∧m'=n-(i+1)∧i+1≤n∧p
theorem nx {n i:Nat}{p:Prop}(h:i<n)(q:p):Nx n i p:=⟨n-(i+1),by omega,rfl,h,q⟩
theorem comp_range {lo:Int}{n:Nat}{tt:TT}{te:TE}{σ':St}{Q:VK}{H:Hp}(Pv:Nat→List V→Hp→Prop)(h0:Pv 0 [] H)(hlen:∀i vs H2,i≤n→Pv i vs H2→vs.length<sizeLine)
  (hs:∀i vs H2,i<n→Pv i vs H2→tt (some (.int (lo+i))::σ') H2 fun b H4=>if b=true then te (some (.int (lo+i))::σ') H4 fun v H5=>Nx n i (Pv (i+1) (vs++[v]) H5) else Nx n i (Pv (i+1) vs H4))
  (hd:∀vs H2,Pv n vs H2→∀l,H2 l=none→Q (.ref l) (upd H2 l (.lst vs))):CompW (Itr lo n) tt te σ' Q H:=by
 refine⟨fun i m vs H=>m=n-i∧i≤n∧Pv i vs H,⟨n,by simp,Nat.zero_le _,h0⟩,?_⟩
 rintro i m vs H2 ⟨rfl,hi,p⟩
 refine⟨hlen i vs H2 hi p,?_⟩
 by_cases hlt:i<n
 ·refine .inr ⟨hlt,?_⟩
  rintro v H3 ⟨rfl,rfl⟩
  exact hs i vs H3 hlt p
 ·have e:i=n:=by exact Nat.le_antisymm hi (Nat.not_lt.mp hlt)
  subst e
  exact .inl ⟨Nat.le_refl _,hd vs H2 p⟩
def EntryIs (w:World)(p:Str×V)(e:DictEntry):Prop:=e.hash=hashStr w p.1∧(∃t,e.key=.str p.1 t)∧RelV p.2 e.val
def StrDict (K:PySem.W.Frag)(w:World)(a:Addr)(fs:List (Str×V)):Prop :=
 (a==sysModules)=false∧∃o es ep,K.lookup a=some o∧o.ExactDict∧o.data=.dict es ep∧Paired (EntryIs w) fs es.toList
theorem entries_find {w:World}{P:Program}{fs:List (Str×V)}{es:List DictEntry}(k:Str)(hh:Paired (EntryIs w) fs es):RelO (fs.lookup k) ((es.find? fun e=>(strKind P w).is k e.key).map (·.val)):=by
 induction hh with
 |nil=>trivial
 |@cons p e _ _ h t ih=>
  obtain⟨h1,⟨t',h2⟩,h3⟩:=h
  obtain⟨x,v⟩:=p
  rw[List.lookup_cons,List.find?_cons]
  have q:(strKind P w).is k e.key=(k==x):=by
   show Value.isStrOf k e.key=_
   rw[h2]
   show Value.isStrOf k (.str x t')=_
   rw[Bool.eq_iff_iff]
   simp[Value.isStrOf]
   first|done|(constructor<;>intro z<;>first|exact z|exact z.symm)
  rw[q]
  cases k==x with
  |true=>exact h3
  |false=>exact ih
section
variable {X:Cx}{pins:List (Addr×Obj)}{σ:St}{H:Hp}{s:Shared}
theorem Inv.strDict {a:Addr}{fs:List (Str×V)}(I:Inv X pins σ H s)(d:StrDict X.K X.w a fs):∃f,s.heap.MapOf (strKind X.prog X.w) a f∧∀k,RelO (fs.lookup k) (f k):=by
 obtain⟨_,o,es,ep,h1,h2,h3,h4⟩:=d
 refine⟨fun k=>findBy (strKind X.prog X.w).is es k,⟨o,es,ep,I.kIn _ _ h1,h2,h3,fun e he=>?_,fun k=>rfl⟩,fun k=>?_⟩
 ·have key:∀{fs:List (Str×V)} {l:List DictEntry},Paired (EntryIs X.w) fs l→e∈l→∃k,(strKind X.prog X.w).is k e.key=true∧e.hash=(strKind X.prog X.w).hash k:=by
   intro fs l p
   induction p with
   |nil=>intro hm;cases hm
   |@cons p e' l₁ l₂ h t ih=>
    intro hm
    rcases List.mem_cons.mp hm with rfl|hm
    ·obtain⟨q1,⟨t',q2⟩,_⟩:=h
     refine⟨p.1,?_,q1⟩
     show Value.isStrOf p.1 e.key=true
     rw[q2]
     simp[Value.isStrOf]
    ·exact ih hm
  exact key h4 (Array.mem_toList_iff.mpr he)
 ·have q:=entries_find (P:=X.prog) k h4
  show RelO (fs.lookup k) ((Array.find? (fun e=>(strKind X.prog X.w).is k e.key) es).map (·.val))
  rw[←Array.find?_toList]
  exact q
theorem ix_dict:IxR X (fun x y H Q=>∃z a fs v,x=.ref a∧y=.str z∧StrDict X.K X.w a fs∧fs.lookup z=some v∧Q v H):=by
 intro value slice pins s σ H x y v u Q I rx ry h hs
 obtain⟨z,a,fs,r,rfl,rfl,d,hl,q⟩:=h
 cases rx
 obtain⟨t,rfl⟩:=ry
 obtain⟨f,hm,hf⟩:=I.strDict d
 have:=hf z
 rw[hl]at this
 obtain⟨w',e,rw'⟩:=RelO.some_of this
 exact tail_any (ops:=[.ref a, .str z t]) hm.typeIs PySem.F.slot_dict_getitem.lookup (wpAny_getItem_of (knd:=strKind X.prog X.w) (k:=z) (by show Value.isStrOf z (.str z t)=true;simp[Value.isStrOf]) hm e ⟨r,H,I.tok _,rw',q⟩) hs
theorem pe_callE {CX:CXT}{func:Expr}{tf:TE}{pos:Pos}{e:Expr}{es:List Expr}{t:TA}{E:XK}(ok:Addr→Sp→Prop)
  (hok:∀f sp,ok f sp→∃k fd ps,FnOk X.prog X.w X.K X.mg X.base CX k f fd ps sp∧Room k X.A∧PySem.W.keepIn X.K (.ref f)=true∧Binds X.K fd ps []) (hf:PE X func tf) (hx:Passes CX X E)
  (ha:PA X (e::es) t) (hev:eval (.Call func (e::es) [] pos) X.env=(do callWith pos (←eval func X.env) [] (backTo pos (starEach (e::es) X.env)) (backToKw pos (keywordEach [] X.env))):=by rfl)
  (he:starEach (e::es) X.env=(false,eval e X.env)::starEach es X.env:=by rfl) (hpl:(backTo pos (starEach es X.env)).any (·.1)=false:=by rfl):
  PE X (.Call func (e::es) [] pos) (fun σ H Q=>tf σ H fun x H1=>∃f sp,x=.ref f∧ok f sp∧tCall sp [] E t σ H1 Q):=by
 intro pins s σ H Q I h
 refine Call_ (thn (hf pins s σ H _ I h) fun u s1 ⟨x,H1,I1,r1,f,sp,ex,hfo,q⟩=>?_) hev
 subst ex
 cases r1
 obtain⟨k,fd,ps,F,hr,hk,hb⟩:=hok f sp hfo
 refine PySem.W.callWith_K (h₀:=X.base) I1.ok.mod.kin hk (thn (ha pos pins s1 σ H1 _ I1 q) fun us s2 ⟨vs,H2,I2,r,q2⟩=>⟨I2.kIn,?_⟩) he hpl
 exact run_fn F hr hb .nil hx I2 r q2
end
section
variable {X:Cx}
end
end L2
namespace Fw
open PySem PySem.Spec PyProof.Rows L2
def splL (c:Nat):List Nat→List (List Nat)
 |[]=>[[]]
 |a::r=>if a=c then[]::splL c r else match splL c r with
  |p::ps=>(a::p)::ps
  |[]=>[[a]]
theorem splL_free {c:Nat}:∀{l:List Nat},c∉l→splL c l=[l]
 |[],_=>rfl
 |a::r,h=>by
  have h1:a≠c:=fun e=>h (by simp[e])
  have h2:c∉r:=fun e=>h (List.mem_cons_of_mem _ e)
  unfold splL
  rw[if_neg h1,splL_free h2]
theorem splL_app {c:Nat}:∀{l:List Nat} (r:List Nat),c∉l→splL c (l++c::r)=l::splL c r
 |[],r,_=>by simp[splL]
 |a::l,r,h=>by
  have h1:a≠c:=fun e=>h (by simp[e])
  have h2:c∉l:=fun e=>h (List.mem_cons_of_mem _ e)
  rw[List.cons_append]
  conv=>lhs;unfold splL
  rw[if_neg h1,splL_app r h2]
theorem splL_join (c:Nat):∀(ps:List Str),ps≠[]→(∀p∈ps,c∉p.cps.toList)→splL c (Str.join ⟨#[c]⟩ ps).cps.toList=ps.map (·.cps.toList)
 |[],h,_=>absurd rfl h
 |[p],_,hf=>by
  show splL c p.cps.toList=[p.cps.toList]
  exact splL_free (hf p (by simp))
 |p::q::r,_,hf=>by
  have ih:=splL_join c (q::r) (by simp) fun x hx=>hf x (List.mem_cons_of_mem _ hx)
  show splL c (p++⟨#[c]⟩++Str.join ⟨#[c]⟩ (q::r)).cps.toList=_
  have e:(p++⟨#[c]⟩++Str.join ⟨#[c]⟩ (q::r)).cps.toList=p.cps.toList++c::(Str.join ⟨#[c]⟩ (q::r)).cps.toList:=by
   show((p.cps++#[c])++(Str.join ⟨#[c]⟩ (q::r)).cps).toList=_
   simp
  rw[e,splL_app _ (hf p (by simp)),ih]
  rfl
theorem cnt_nn (c:Nat):∀l,(0:Int)≤cnt c l
 |[]=>Int.le_refl 0
 |n::r=>by
  have:=cnt_nn c r
  rw[cnt_cons]
  split<;>omega
theorem split_eq (x:Str)(c:Nat):(Txt.split x ⟨#[c]⟩).map (·.cps.toList)=splL c x.cps.toList:=by
 have h1:=StrLaws.join_split x ⟨#[c]⟩
 have h2:=StrLaws.split_free x c
 by_cases e:Txt.split x ⟨#[c]⟩=[]
 ·exfalso
  have:=split_len x c
  rw[e]at this
  have h3:=cnt_nn c x.cps.toList
  simp at this
  omega
 ·have:=splL_join c _ e h2
  rw[h1]at this
  exact this.symm
theorem slice1 (x:Str)(h:1≤x.length):Txt.slice x (some 1) none=⟨(x.cps.toList.drop 1).toArray⟩:=by
 have q:=slice_closes_fromL (x:=x) (i:=1) (b:=x.length) (by omega) (by omega) rfl
 have q':=eq_of_beq q
 rw[q']
 have e:((x.length:Int)-1).toNat=(x.cps.toList.drop 1).length:=by
  rw[List.length_drop]
  show _=x.cps.toList.length-1
  have:x.cps.toList.length=x.length:=by simp[Str.length]
  omega
 have e2:((x.cps.toList.drop (1:Int).toNat).take ((x.length:Int)-1).toNat)=x.cps.toList.drop 1:=by
  rw[e]
  show(x.cps.toList.drop 1).take (x.cps.toList.drop 1).length=_
  exact List.take_length
 first
  |exact congrArg (fun l=>(⟨l.toArray⟩:Str)) e2
  |(rw[e2])
def smallS:Str:="abcdefghijklmnopqrstuvwxyz"
def greatS:Str:="ABCDEFGHIJKLMNOPQRSTUVWXYZ"
def keptL:List Str:=["num","fun","call","let","ring","case","make","pick","plus","minus","times","less","if","kind","record","face","hide","val","part","maker","apply","main"]
def inS (y:Str)(c:Nat):Bool:=decide (c∈y.cps.toList)
def allS (z y:Str):Bool:=z.cps.toList.all (inS y)
def okLen (z:Str):Bool:=decide (1≤z.length)&&decide (z.length≤8)
def smallB (z:Str):Bool:=okLen z&&allS z smallS
def nameB (z:Str):Bool:=smallB z&& !decide (z∈keptL)
def restS (z:Str):Str:=⟨(z.cps.toList.drop 1).toArray⟩
def greatB (z:Str):Bool:=okLen z&&(inS greatS (z.cps.toList.getD 0 0)&&allS (restS z) smallS)
def pathB (z:Str):Bool:=match splL 46 z.cps.toList with
 |[a,b]=>greatB ⟨a.toArray⟩&&nameB ⟨b.toArray⟩
 |_=>false
theorem len_toList (z:Str):z.cps.toList.length=z.length:=by simp[Str.length]
theorem str_ext {a b:Str}(h:a.cps.toList=b.cps.toList):a=b:=by
 cases a;cases b
 simp only[Str.mk.injEq]
 exact Array.toList_inj.mp h
theorem small_range {c:Nat}(h:inS smallS c=true):97≤c∧c≤122:=by
 have h':c∈smallS.cps.toList:=of_decide_eq_true h
 have:∀d∈smallS.cps.toList,97≤d∧d≤122:=by decide+kernel
 exact this c h'
theorem cps_app (a b:Str):(a++b).cps.toList=a.cps.toList++b.cps.toList:=by
 show(a.cps++b.cps).toList=_
 simp
theorem len_app (a b:Str):(a++b).length=a.length+b.length:=by
 rw[←len_toList,cps_app,List.length_append,len_toList,len_toList]
inductive T where
 |int (i:Int)
 |str (x:Str)
 |tup (l:List T)
mutual
def T.sz:T→Nat
 |.int _=>1
 |.str _=>1
 |.tup l=>1+szs l
def szs:List T→Nat
 |[]=>0
 |t::r=>t.sz+szs r
end
mutual
inductive Rep (H:Hp):V→T→Prop where
 |int (i:Int):Rep H (.int i) (.int i)
 |str (x:Str) (h:x.length≤100000):Rep H (.str x) (.str x)
 |tup {a:Addr} {vs:List V} {ts:List T} (h:H a=some (.tup vs)) (r:Reps H vs ts):Rep H (.ref a) (.tup ts)
inductive Reps (H:Hp):List V→List T→Prop where
 |nil:Reps H [] []
 |cons {v:V} {t:T} {vs:List V} {ts:List T} (r:Rep H v t) (q:Reps H vs ts):Reps H (v::vs) (t::ts)
end
theorem same_new {H:Hp}{p:Addr}(h:H p=none)(o:HO):Same H (upd H p o):=fun b u q=>by rw[upd_ne (ne_of_none q h)];exact q
section
variable (kids:T→Option (List T))
inductive Good:T→Prop where
 |mk {t:T} {l:List T} (h:kids t=some l) (q:∀k∈l,Good k):Good t
inductive Bad:T→Prop where
 |none {t:T} (h:kids t=none):Bad t
 |kid {t:T} {l:List T} {k:T} (h:kids t=some l) (m:k∈l) (q:Bad k):Bad t
end
def onStr (f:Str→Bool):T→Bool
 |.str z=>f z
 |_=>false
def Has (P:Program)(w:World)(K:PySem.W.Frag)(mg:Str→Option Value)(base:Heap)(k:Nat)(x:Str)(ps:List Str)(sp:Sp):Prop :=
 ∃f fd,FnOk P w K mg base CX0 k f fd ps sp∧Binds K fd ps []∧PySem.W.keepIn K (.ref f)=true∧mg x=some (.ref f)
theorem pcall {X:Cx}{k j:Nat}{x:Str}{ps:List Str}{sp:Sp}{p pos:Pos}{e:Expr}{es:List Expr}{t:TA}(h:Has X.prog X.w X.K X.mg X.base k x ps sp)(hr:Room j X.A)(hkj:k≤j)(hg:Gl X x)(ha:PA X (e::es) t)
  (hdb:(x==("__debug__":Str))=false:=by decide) (he:starEach (e::es) X.env=(false,eval e X.env)::starEach es X.env:=by rfl) (hpl:(backTo pos (starEach es X.env)).any (·.1)=false:=by rfl):
  PE X (.Call (.Name x p) (e::es) [] pos) (tCall sp [] E0 t):=by
 obtain⟨f,fd,h1,h2,h3,h4⟩:=h
 exact pe_call h1 (hr.mono hkj) hg h4 h3 h2 .nil pass0 ha hdb he hpl
def spT (f:T→Bool):Sp:=fun vs H Q _=>∃v t,vs=[v]∧Rep H v t∧∀H',Same H H'→Q (.bl (f t)) H'
def spAllOf:Sp:=fun vs H Q _=>∃x y,vs=[.str x, .str y]∧x.length≤100000∧∀H',Same H H'→Q (.bl (allS x y)) H'
def tyT:T→Value
 |.int _=>.type "int"
 |.str _=>.type "str"
 |.tup _=>.type "tuple"
def isStrT:T→Bool
 |.str _=>true
 |_=>false
theorem rep_ty {K:PySem.W.Frag}{H:Hp}{v:V}{t:T}(r:Rep H v t):TyOf K H v (tyT t):=by
 cases r with
 |int i=>exact .int i
 |str x h=>exact .str x
 |tup h q=>exact .tup h
theorem kit_str (K:PySem.W.Frag)(t:T):PySem.W.kitOne K (tyT t) (.type "str")=some (isStrT t):=by
 cases t with
 |int i=>first|rfl|(with_unfolding_all rfl)|kernel_rfl
 |str x=>first|rfl|(with_unfolding_all rfl)|kernel_rfl
 |tup l=>first|rfl|(with_unfolding_all rfl)|kernel_rfl
structure Gb (K:PySem.W.Frag)(mg:Str→Option Value):Prop where
 len:mg "len"=none
 all:mg "all"=none
 isi:mg "isinstance"=none
 str:mg "str"=none
 tuple:mg "tuple"=none
 list:mg "list"=none
 range:mg "range"=none
 small:∃t,mg "SMALL_LETTERS"=some (.str smallS t)
 great:∃t,mg "GREAT_LETTERS"=some (.str greatS t)
 most:∃t,mg "MOST_LETTERS"=some (.int 8 t)
 kept:∃a,mg "KEPT"=some (.ref a)∧∀H,SqT K H a (keptL.map V.str)
theorem tt1 {σ:L2.St}{H:Hp}{Q:Bool→Hp→Prop}(h:Q true H):tTrue σ H Q:=h
theorem small {n:Nat}(h:n≤1000000):n≤sizeLine:=Nat.le_trans h (by decide)
theorem small' {n:Nat}(h:n≤1000000):n<sizeLine:=Nat.lt_of_le_of_lt h (by decide)
theorem sml (n:Nat)(h:n≤1000000:=by decide):n≤sizeLine:=small h
theorem n4 {n:Nat}(h:n<4):n=0∨n=1∨n=2∨n=3:=by
 have k:∀n,n<4→(n=0∨n=1∨n=2∨n=3):=by decide
 exact k n h
theorem n5 {n:Nat}(h:n<5):n=0∨n=1∨n=2∨n=3∨n=4:=by
 have k:∀n,n<5→(n=0∨n=1∨n=2∨n=3∨n=4):=by decide
 exact k n h
theorem n6 {n:Nat}(h:n<6):n=0∨n=1∨n=2∨n=3∨n=4∨n=5:=by
 have k:∀n,n<6→(n=0∨n=1∨n=2∨n=3∨n=4∨n=5):=by decide
 exact k n h
theorem i4 {e:Int}(h0:0≤e)(h:e<4):e=0∨e=1∨e=2∨e=3:=by
 obtain⟨n,rfl⟩:=Int.eq_ofNat_of_zero_le h0
 rcases n4 (n:=n) (Int.ofNat_lt.mp h) with rfl|rfl|rfl|rfl<;>simp
theorem eqV_str (a b:Str):eqV (.str a) (.str b)=decide (a=b):=by
 show(a==b)=_
 rw[Bool.eq_iff_iff]
 simp
theorem inV_str (z:Str):∀l:List Str,inV (.str z) (l.map V.str)=decide (z∈l)
 |[]=>by simp[inV]
 |a::r=>by
  have ih:=inV_str z r
  unfold inV at ih ⊢
  rw[List.map_cons,List.any_cons,ih,eqV_str,Bool.eq_iff_iff]
  simp only[Bool.or_eq_true,decide_eq_true_eq,List.mem_cons]
  constructor
  ·rintro(h|h)
   ·exact .inl h.symm
   ·exact .inr h
  ·rintro(h|h)
   ·exact .inl h.symm
   ·exact .inr h
theorem flat_strs:∀l:List Str,(l.map V.str).all flatV=true
 |[]=>rfl
 |a::r=>by rw[List.map_cons,List.all_cons,flat_strs r];rfl
theorem dot_eq:(Str.ofString ".":Str)=⟨#[46]⟩:=by decide+kernel
theorem smallB_lo {z:Str}(h:¬1≤z.length):smallB z=false:=by
 unfold smallB okLen
 rw[decide_eq_false h]
 rfl
theorem smallB_hi {z:Str}(h:¬z.length≤8):smallB z=false:=by
 unfold smallB okLen
 rw[decide_eq_false h]
 simp
theorem smallB_in {z:Str}(h1:1≤z.length)(h2:z.length≤8):smallB z=allS z smallS:=by
 unfold smallB okLen
 rw[decide_eq_true h1,decide_eq_true h2]
 simp
theorem greatB_lo {z:Str}(h:¬1≤z.length):greatB z=false:=by
 unfold greatB okLen
 rw[decide_eq_false h]
 rfl
theorem greatB_hi {z:Str}(h:¬z.length≤8):greatB z=false:=by
 unfold greatB okLen
 rw[decide_eq_false h]
 simp
theorem greatB_in {z:Str}(h1:1≤z.length)(h2:z.length≤8):greatB z=(inS greatS (z.cps.toList.getD 0 0)&&allS (restS z) smallS):=by
 unfold greatB okLen
 rw[decide_eq_true h1,decide_eq_true h2]
 simp
theorem rest_slice {z:Str}(h:1≤z.length):Txt.slice z (some 1) none=restS z:=slice1 z h
theorem rest_len (z:Str):(restS z).length≤z.length:=by
 rw[←len_toList,←len_toList]
 unfold restS
 simp
theorem first_at {z:Str}(h:1≤z.length):atI z.cps.toList (0:Int)=some (z.cps.toList.getD 0 0):=by
 refine atI_nat (j:=0) ?_
 have:0<z.cps.toList.length:=by rw[len_toList];exact h
 rw[List.getElem?_eq_getElem this]
 simp[List.getD_eq_getElem?_getD,List.getElem?_eq_getElem this]
theorem pathB_two {z a b:Str}(h:Txt.split z "."=[a,b]):pathB z=(greatB a&&nameB b):=by
 have q:=split_eq z 46
 rw[←dot_eq,h]at q
 unfold pathB
 rw[←q]
 show(greatB ⟨a.cps.toList.toArray⟩&&nameB ⟨b.cps.toList.toArray⟩)=_
 have e1:(⟨a.cps.toList.toArray⟩:Str)=a:=str_ext (by simp)
 have e2:(⟨b.cps.toList.toArray⟩:Str)=b:=str_ext (by simp)
 rw[e1,e2]
theorem pathB_other {z:Str}(h:(Txt.split z ".").length≠2):pathB z=false:=by
 have q:=split_eq z 46
 rw[←dot_eq]at q
 have q2:=congrArg List.length q
 rw[List.length_map]at q2
 unfold pathB
 split
 ·rename_i a b e
  rw[e]at q2
  exact absurd q2 h
 ·rfl
theorem split_short (z:Str):(Txt.split z ".").length≤z.length+1:=by
 have:=split_weight z "." (by decide+kernel)
 exact Nat.le_trans (Nat.le_add_left _ _) this
section
variable {ta tb tc:TE}{t u:TT}{σ:L2.St}{H:Hp}{v x y z:V}{c c1 c2:Bool}{K:PySem.W.Frag}
end
end Fw
namespace L2
open PySem PySem.Spec PyProof.Rows
section
variable {X:Cx}
end
end L2
namespace PySem
namespace Heap
def TracedAtX (g bse:Heap)(e:Addr)(cls a0 fl:Value):Prop :=
 ∃ob ws T oT ts,g.get? e=some ob∧(ob.cls=cls∧ws[0]?=some a0∧ws[2]?=some .none)∧ob.data=.fields ws∧ws[1]?=some (.ref T)∧bse.get? T=none∧T≠e∧g.get? T=some oT∧oT.data=.fields ts∧ts[3]?=some fl
def FlyingX (bse:Heap)(l:List Env)(e:Addr)(cls a0:Value)(g:Heap):Prop:=bse.StaysIn g∧bse.get? e=none∧g.FunFrames bse l∧g.TracedAtX bse e cls a0 .none
def HeldX (bse:Heap)(l:List Env)(e:Addr)(cls a0:Value)(L:Addr)(g:Heap):Prop:=bse.StaysIn g∧bse.get? e=none∧g.FunFrames bse l∧g.TracedAtX bse e cls a0 (rawInt L)
theorem FlyingX.there {bse g:Heap}{l:List Env}{e:Addr}{cls a0:Value}(x:FlyingX bse l e cls a0 g):∃ob,g.get? e=some ob∧ob.cls=cls :=
 x.2.2.2.elim fun ob h=>h.elim fun _ h=>h.elim fun _ h=>h.elim fun _ h=>h.elim fun _ h=>⟨ob,h.1,h.2.1.1⟩
end Heap
section
variable {M:Model}{A:Around}{E:Value→Shared→Prop}{s:Shared}{bse:Heap}{env:Env}{outer:List Env}{L e:Addr}{cls a0 fl:Value}{Q:Unit→Shared→Prop}
theorem entryX {ob:Obj}{ws:Array Value}{hd:Value}{hn:Bool}(hfr:A.frames=some (env::outer))(f3:s.heap.FunFrames bse (env::outer))(hf:env.frame=some L)(ge:s.heap.get? e=some ob)(f1:bse.StaysIn s.heap)(f2:bse.get? e=none)(gd:ob.data=.fields ws)(z1:1<ws.size)(g0:ws[0]?=some a0∧ws[2]?=some .none)
  (hQ:∀g,bse.StaysIn g→g.FunFrames bse (env::outer)→g.TracedAtX bse e ob.cls a0 (rawInt L)→s.heap.UpToSlots g→Q () {s with heap:=g}):
  wpAny M A (do
   let x ←frameOf env
   let y ←entryPlaceOf L hn
   let z ←EntryCells.newEntry hd x .none (rawInt L) .none y
   setField (.ref e) 1 z) Q E s:=by
 refine wpAny_bind (wpAny_frameOf_fun hfr f3 hf fun g1 so=>wpAny_bind (wpAny_entryPlaceOf fun y iy=>?_))
 unfold EntryCells.newEntry newFields
 refine wpAny_bind (wpAny_newObj_type ?_ (iy.sizeOk5 _ _ _ _ _))
 have nfe:e∉(env::outer).filterMap (·.frame):=fun z=>by
  obtain⟨_,o,q,n⟩:=f3.mem z
  rw[ge]at q
  cases q
  exact n ws gd
 have e1:g1.get? e=some ob:=(so.2.1 e nfe).trans ge
 have f1':bse.StaysIn g1:=fun b o q=>(so.2.1 b fun z=>by rw[(f3.mem z).1]at q;cases q).trans (f1 b o q)
 have t3:(([hd, .ref L, .none,rawInt L, .none]++(if y.isEmpty then List.replicate 6 Value.none else y)).toArray)[3]?=some (rawInt L):=by simp
 generalize ([hd, .ref L, .none,rawInt L, .none]++(if y.isEmpty then List.replicate 6 Value.none else y)).toArray=ts at t3 ⊢
 have nT:g1.objs.size≠e:=Nat.ne_of_gt (Heap.lt_size e1)
 have e2:=Heap.get?_push_of_some (h:=g1) {cls:=.type "traceback",dict:=none,data:=.fields ts} e1
 have gd3:=Obj.data_mapFields gd (·.setIfInBounds 1 (Value.ref g1.objs.size))
 have off:∀b o,b≠e→g1.get? b=some o→((g1.push {cls:=.type "traceback",dict:=none,data:=.fields ts}).update e (Obj.mapFields (·.setIfInBounds 1 (Value.ref g1.objs.size)))).get? b=some o:=fun b o n q=>by
  rw[Heap.get?_update_other _ _ (Ne.symm n)]
  exact Heap.get?_push_of_some _ q
 have nrec:∀b o,s.heap.get? b=some o→(∀vs,o.data≠.fields vs)→b≠e:=fun b o q n z=>by
  subst z
  rw[ge]at q
  cases q
  exact n ws gd
 have upto:∀b o,s.heap.get? b=some o→(∀vs,o.data≠.fields vs)→∃sl,((g1.push {cls:=.type "traceback",dict:=none,data:=.fields ts}).update e (Obj.mapFields (·.setIfInBounds 1 (Value.ref g1.objs.size)))).get? b=some {o with slots:=sl}:=fun b o q n=>by
  obtain⟨sl,q'⟩:=so.2.2 b o q
  exact⟨sl,off b _ (nrec b o q n) q'⟩
 refine wpAny_setField e2 gd z1 (hQ _ (fun b o q=>off b o (fun z=>by rw[z,f2]at q;cases q) (f1' b o q)) (f3.of_keeps fun b o q n=>?_) ?_ upto)
 ·obtain⟨sl,q'⟩:=upto b o q n
  exact⟨_,q',rfl⟩
 ·refine⟨_,_,g1.objs.size,_,ts,Heap.get?_update_self _ e2 (Obj.isFreed_of_fields gd3),⟨Obj.cls_mapFields _ _,?_,?_⟩,gd3,by simp[z1],f1'.fresh,nT,(Heap.get?_update_other _ _ (Ne.symm nT)).trans (Heap.get?_push_size g1 rfl),rfl,t3⟩
  ·rw[Array.getElem?_setIfInBounds_ne (by decide)];exact g0.1
  ·rw[Array.getElem?_setIfInBounds_ne (by decide)];exact g0.2
theorem flight_at {l:List Env}(fr:Option Addr)(f1:bse.StaysIn s.heap)(f3:s.heap.FunFrames bse l)(f4:s.heap.TracedAtX bse e cls a0 fl)
  (hQ:∀h',bse.StaysIn h'→h'.FunFrames bse l→h'.TracedAtX bse e cls a0 (fr.elim Value.none fun f=>rawInt f)→(∀b o,s.heap.get? b=some o→(∀vs,o.data≠.fields vs)→h'.get? b=some o)→Q () {s with heap:=h'}):
  wpAny M A (setFlight (.ref e) fr) Q E s:=by
 obtain⟨ob,ws,T,oT,ts,ge,gc,gd,g1,gn,gne,gT,gdT,g3⟩:=f4
 have sz:3<ts.size:=(Array.getElem?_eq_some_iff.mp g3).1
 have off:∀b,b≠T→(s.heap.update T (Obj.mapFields (·.setIfInBounds 3 (fr.elim Value.none fun f=>rawInt f)))).get? b=s.heap.get? b:=fun b z=>Heap.get?_update_other _ _ (Ne.symm z)
 have nrec:∀b o,s.heap.get? b=some o→(∀vs,o.data≠.fields vs)→b≠T:=fun b o q n z=>by
  subst z
  rw[gT]at q
  cases q
  exact n ts gdT
 unfold setFlight
 refine wpAny_bind (wpAny_field ge gd g1 ?_)
 rw[if_pos (by simp)]
 refine wpAny_setField gT gdT sz (hQ _ (fun b o q=>?_) (f3.of_keeps fun b o q n=>⟨o,(off b (nrec b o q n)).trans q,rfl⟩) ?_ fun b o q n=>(off b (nrec b o q n)).trans q)
 ·rw[off b (fun z=>by rw[z,gn]at q;cases q)]
  exact f1 b o q
 ·exact⟨ob,ws,T,_,_,(off e (Ne.symm gne)).trans ge,gc,gd,g1,gn,gne,Heap.get?_update_self _ gT (Obj.isFreed_of_fields (Obj.data_mapFields gdT _)),Obj.data_mapFields gdT _,by simp[sz]⟩
theorem notesX (hfr:A.frames=some (env::outer))(hf:env.frame=some L)(f1:bse.StaysIn s.heap)(f2:bse.get? e=none)(f3:s.heap.FunFrames bse (env::outer))(f4:s.heap.TracedAtX bse e cls a0 fl)
  (hQ:∀g,Heap.HeldX bse (env::outer) e cls a0 L g→s.heap.UpToSlots g→Q () {s with heap:=g}):wpAny M A (noteFrame (.ref e) env) Q E s:=by
 by_cases hb:(fl==rawInt L)=true
 ·obtain⟨ob,ws,T,oT,ts,ge,gc,gd,g1,gn,gne,gT,gdT,g3⟩:=id f4
  have ef:fl=rawInt L:=by simpa using hb
  unfold noteFrame
  simp only[hf]
  refine wpAny_bind (wpAny_field ge gd g1 ?_)
  rw[if_pos (by simp)]
  refine wpAny_bind (wpAny_field gT gdT g3 ?_)
  rw[if_pos hb]
  exact wpAny_pure (hQ s.heap ⟨f1,f2,f3,ef ▸ f4⟩ (Heap.UpToSlots.refl _))
 ·obtain⟨ob,ws,T,oT,ts,ge,⟨gc,g0⟩,gd,g1,gn,gne,gT,gdT,g3⟩:=f4
  subst gc
  unfold noteFrame
  simp only[hf]
  refine wpAny_bind (wpAny_field ge gd g1 ?_)
  rw[if_pos (by simp)]
  refine wpAny_bind (wpAny_field gT gdT g3 ?_)
  rw[if_neg hb]
  refine wpAny_bind (wpAny_setField gT gdT (Array.getElem?_eq_some_iff.mp g3).1 ?_)
  have off:∀b,b≠T→(s.heap.update T (Obj.mapFields (·.setIfInBounds 3 Value.none))).get? b=s.heap.get? b:=fun b z=>Heap.get?_update_other _ _ (Ne.symm z)
  have nrec:∀b o,s.heap.get? b=some o→(∀vs,o.data≠.fields vs)→b≠T:=fun b o q n z=>by
   subst z
   rw[gT]at q
   cases q
   exact n ts gdT
  refine entryX hfr (f3.of_keeps fun b o q n=>⟨o,(off b (nrec b o q n)).trans q,rfl⟩) hf ((off e (Ne.symm gne)).trans ge) (fun b o q=>?_) f2 gd (Array.getElem?_eq_some_iff.mp g1).1 g0 fun h' k1 k2 k3 k4=>hQ h' ⟨k1,f2,k2,k3⟩ fun b o q n=>k4 b o ((off b (nrec b o q n)).trans q) n
  rw[off b (fun z=>by rw[z,gn]at q;cases q)]
  exact f1 b o q
theorem leaves_any (hfr:A.frames=some (env::outer))(hf:env.frame=some L)(f1:bse.StaysIn s.heap)(f2:bse.get? e=none)(f3:s.heap.FunFrames bse (env::outer))(f4:s.heap.TracedAtX bse e cls a0 fl)
  (hQ:∀h',Heap.FlyingX bse outer e cls a0 h'→s.heap.UpToSlots h'→Q () {s with heap:=h'}):wpAny M A (leaving env (.ref e)) Q E s:=by
 unfold leaving
 refine wpAny_bind (notesX hfr hf f1 f2 f3 f4 fun g ⟨a1,a2,a3,a4⟩ up=>flight_at (s:={s with heap:=g}) none a1 a3 a4 fun h' k1 k2 k3 k4=>hQ h' ⟨k1,f2,k2.2.2,k3⟩ (up.trans fun b o q n=>⟨o.slots,k4 b o q n⟩))
theorem leaves_onX (hfr:A.frames=some (env::outer))(hf:env.frame=some L)(x:Heap.FlyingX bse (env::outer) e cls a0 s.heap)(hQ:∀h',Heap.FlyingX bse outer e cls a0 h'→s.heap.UpToSlots h'→Q () {s with heap:=h'}):wpAny M A (leaving env (.ref e)) Q E s:=leaves_any hfr hf x.1 x.2.1 x.2.2.1 x.2.2.2 hQ
theorem looks_onX (hfr:A.frames=some (env::outer))(hf:env.frame=some L)(x:Heap.FlyingX bse (env::outer) e cls a0 s.heap)(hQ:∀g,Heap.HeldX bse (env::outer) e cls a0 L g→s.heap.UpToSlots g→Q () {s with heap:=g}):wpAny M A (noteFrame (.ref e) env) Q E s:=notesX hfr hf x.1 x.2.1 x.2.2.1 x.2.2.2 hQ
theorem landsX {l:List Env}(x:Heap.HeldX bse l e cls a0 L s.heap)(hQ:∀h',Heap.FlyingX bse l e cls a0 h'→s.heap.UpToSlots h'→Q () {s with heap:=h'}):wpAny M A (setFlight (.ref e) none) Q E s :=
 flight_at none x.1 x.2.2.1 x.2.2.2 fun h' k1 k2 k3 k4=>hQ h' ⟨k1,x.2.1,k2,k3⟩ fun b o q n=>⟨o.slots,k4 b o q n⟩
theorem lands_againX {l:List Env}(x:Heap.FlyingX bse l e cls a0 s.heap)(hQ:∀h',Heap.FlyingX bse l e cls a0 h'→s.heap.UpToSlots h'→Q () {s with heap:=h'}):wpAny M A (setFlight (.ref e) none) Q E s :=
 flight_at none x.1 x.2.2.1 x.2.2.2 fun h' k1 k2 k3 k4=>hQ h' ⟨k1,x.2.1,k2,k3⟩ fun b o q n=>⟨o.slots,k4 b o q n⟩
theorem looks_made {h:Heap}{args:List Value}(hfr:A.frames=some (env::outer))(hf:env.frame=some L)(hkb:bse.StaysIn h)(hl:h.FunFrames bse (env::outer))(hx:Heap.MadeExcOf h s.heap e cls args)
  (hQ:∀h' t,Heap.HeldX bse (env::outer) e cls (.ref t) L h'→s.heap.UpToSlots h'→Q () {s with heap:=h'}):wpAny M A (noteFrame (.ref e) env) Q E s:=by
 obtain⟨t,he,htn,ht⟩:=hx.there
 have fresh:bse.get? e=none:=by
  cases hq:bse.get? e with
  |none=>rfl
  |some o'=>have:=hkb e o' hq;rw[hx.new]at this;cases this
 unfold noteFrame
 simp only[hf]
 refine wpAny_bind (wpAny_field he rfl (x:=.none) rfl ?_)
 rw[if_neg (by decide)]
 exact entryX (a0:=.ref t) hfr (hl.of_keeps fun b o hb _=>⟨o,hx.keeps b o hb,rfl⟩) hf he (fun b o hb=>hx.keeps b o (hkb b o hb)) fresh rfl (by show 1<6;decide) ⟨rfl,rfl⟩ fun h' k1 k2 k3 k4=>hQ h' t ⟨k1,fresh,k2,k3⟩ k4
theorem leaves_madeX {h:Heap}{args:List Value}(hfr:A.frames=some (env::outer))(hf:env.frame=some L)(hkb:bse.StaysIn h)(hl:h.FunFrames bse (env::outer))(hx:Heap.MadeExcOf h s.heap e cls args)
  (hQ:∀h' t,Heap.FlyingX bse outer e cls (.ref t) h'→s.heap.UpToSlots h'→Q () {s with heap:=h'}):wpAny M A (leaving env (.ref e)) Q E s:=by
 unfold leaving
 exact wpAny_bind (looks_made hfr hf hkb hl hx fun g t ⟨a1,a2,a3,a4⟩ up=>flight_at (s:={s with heap:=g}) none a1 a3 a4 fun h' k1 k2 k3 k4=>hQ h' t ⟨k1,a2,k2.2.2,k3⟩ (up.trans fun b o q n=>⟨o.slots,k4 b o q n⟩))
end
end PySem
namespace L2
open PySem PySem.Spec PyProof.Rows
def Flies (P:Program)(w:World)(l:List Env)(H:Hp)(s:Shared)(C ea:Addr)(H':Hp)(s':Shared):Prop :=
 s'.os=s.os∧AllBare s'.gens∧Un (frs l) [] H H' s.heap s'.heap∧HOk P w H' s'.heap∧H' ea=none∧
 ∃(B:Heap) (t:Addr),Heap.FlyingX B l ea (.ref C) (.ref t) s'.heap∧∀b o,s'.heap.get? b=some o→b∉frs l→(H' b≠none∨∃o',s.heap.get? b=some o')→B.get? b=some o
def CXF (P:Program)(w:World):CXT:=fun l H s E e s'=>∃ea C H',e=.ref ea∧Flies P w l H s C ea H' s'∧E (.ref C) (some ea) H'
section
variable {P:Program}{w:World}{K:PySem.W.Frag}{mg:Str→Option Value}{base:Heap}{N:List Str}{qual:Str}{scope:Scope}{f:Addr}{cd:Value}{A:Around}{outer:List Env}{s:Shared}{H:Hp}{E:XK}{CX:CXT}
theorem HOk.keptT {H:Hp}{h h':Heap}(ok:HOk P w H h)(k:∀b u,H b≠none→h.get? b=some u→h'.get? b=some u):HOk P w H h':=fun a o e=>
 (ok a o e).stay (fun b u hb q=>k b u (by
  rcases hb with z|z
  ·rw[z,e];simp
  ·rw[z];simp) q) (fun _ q=>q) fun _ _ q=>q
theorem ObjOk.there {H:Hp}{h:Heap}{a:Addr}{o:HO}(x:ObjOk P w H h a o):∃ob,h.get? a=some ob:=by
 cases o with
 |lst xs=>obtain⟨_,_,_,_,e⟩:=x;exact⟨_,e⟩
 |tup xs=>obtain⟨_,_,_,ob,e,_⟩:=x;exact⟨_,e⟩
 |dK kvs=>obtain⟨_,_,_,_,o,_,_,e,_⟩:=x;exact⟨_,e⟩
 |dT kvs=>obtain⟨_,_,_,_,o,_,_,e,_⟩:=x;exact⟨_,e⟩
 |set S n=>obtain⟨o,_,_,_,e,_⟩:=x;exact⟨_,e⟩
 |ins C dx fs=>obtain⟨_,_,_,e,_⟩:=x;exact⟨_,e⟩
 |own y=>exact x
 |xd fs=>obtain⟨mA,⟨o,es,ep,e,_⟩,_⟩:=x;exact⟨_,e⟩
 |rng lo hi=>obtain⟨_,_,_,e⟩:=x;exact⟨_,e⟩
 |frz o u=>exact⟨_,x.1⟩
 |tbl ps=>exact⟨_,x⟩
 |met f y=>exact⟨_,x⟩
 |ext φ=>exact x.2.1
theorem left_unF {X:Cx}{pins:List (Addr×Obj)}{σ:St}{H1:Hp}{s1:Shared}{h':Heap}(hex:X.ex=[])(I:Inv X pins σ H1 s1)
  (kp:∀b o,s1.heap.get? b=some o→b∉frs X.stack→(H1 b≠none∨∃o',X.s₀.heap.get? b=some o')→h'.get? b=some o)
  (sl:∀b o,b∈X.fs→s1.heap.get? b=some o→(∀vs,o.data≠.fields vs)→∃sl,h'.get? b=some {o with slots:=sl}):Un X.fs [] X.H₀ H1 X.s₀.heap h'∧HOk X.prog X.w H1 h':=by
 have nx:∀b:Addr,b∉X.ex:=fun b z=>by rw[hex]at z;cases z
 have nostk:∀{b o},X.s₀.heap.get? b=some o→b∉X.fs→b∉frs X.stack:=fun{b o} e hb z=>by
  rcases List.mem_cons.mp (I.stkSub b z) with q|q
  ·have h1:=Heap.lt_size e
   have h2:=I.ok.above
   rw[q]at h1
   exact absurd (Nat.lt_of_lt_of_le h1 h2) (Nat.lt_irrefl _)
  ·exact hb q
 have trk:∀{b},H1 b≠none→b∉frs X.stack:=fun{b} n z=>n (I.stkFree b z)
 have frame:∀{b o},X.s₀.heap.get? b=some o→X.H₀ b=none→b∈X.fs→∃sl',h'.get? b=some {o with slots:=sl'}:=fun{b o} e n hb=>by
  obtain⟨s2,q⟩:=I.base.slot b o e n hb (nx b)
  obtain⟨_,o',ho',hnf⟩:=I.ok.funs.mem hb
  rw[e]at ho';cases ho'
  obtain⟨s3,q3⟩:=sl b _ hb q hnf
  exact⟨s3,q3⟩
 refine⟨⟨fun b o e n hb _=>kp b o (I.base.keep b o e n hb (nx b)) (nostk e hb) (.inr ⟨o,e⟩),fun b o e n hb _=>frame e n hb,fun b o e n _=>I.base.free b o e n (nx b),fun b o e _=>?_,I.base.tups,I.base.frzs,I.base.tbls⟩,I.hok.keptT fun b u n q=>kp b u q (trk n) (.inl n)⟩
 by_cases hb:b∈X.fs
 ·obtain⟨s3,q3⟩:=frame e (I.ok.frf b hb) hb
  exact⟨_,q3⟩
 ·obtain⟨o',q⟩:=I.base.there b o e (nx b)
  exact⟨o',kp b o' q (nostk e hb) (.inr ⟨o,e⟩)⟩
theorem left_un {X:Cx}{pins:List (Addr×Obj)}{σ:St}{H1:Hp}{s1:Shared}{h':Heap}(hex:X.ex=[])(I:Inv X pins σ H1 s1)
  (kp:∀b o,s1.heap.get? b=some o→b∉frs X.stack→(H1 b≠none∨∃o',X.s₀.heap.get? b=some o')→h'.get? b=some o)
  (sl:s1.heap.UpToSlots h'):Un X.fs [] X.H₀ H1 X.s₀.heap h'∧HOk X.prog X.w H1 h':=left_unF hex I kp fun b o _=>sl b o
theorem passes_up:Passes (CXF P w) (cxOf (CXF P w) P w K mg base N qual scope f cd A outer s H E) E:=by
 intro pins σ H1 s1 e s' I h
 obtain⟨ea,C,H',rfl,⟨os,bare,un,hok,nea,B,t,fl,keepB⟩,hE⟩:=h
 have J:Inv (cxOf (CXF P w) P w K mg base N qual scope f cd A outer s H E) pins σ H' s':=I.call' os un hok bare (fun b z=>absurd z (by simp))
 show wpAny _ _ (leaving _ (.ref ea)) _ _ s'
 refine leaves_onX I.ok.frames rfl fl fun h' x1 x2=>?_
 have kp:∀b o,s'.heap.get? b=some o→b∉frs (cxOf (CXF P w) P w K mg base N qual scope f cd A outer s H E).stack→(H' b≠none∨∃o',s.heap.get? b=some o')→h'.get? b=some o:=fun b o q hb hc=>x1.1 b o (keepB b o q hb (by
  rcases hc with z|⟨o',z⟩
  ·exact .inl z
  ·exact .inr (I.base.there b o' z (by intro q;cases q))))
 obtain⟨un',hok'⟩:=left_un rfl J kp x2
 refine⟨ea,C,H',rfl,⟨J.os,J.bare,un',hok',nea,B,t,x1,fun b o q hb hc=>?_⟩,hE⟩
 have nst:b∉frs (cxOf (CXF P w) P w K mg base N qual scope f cd A outer s H E).stack:=fun z=>by
  rcases List.mem_cons.mp (J.stkSub b z) with z1|z1
  ·rcases hc with z2|⟨o',z2⟩
   ·exact z2 (J.stkFree b z)
   ·have h1:=Heap.lt_size z2
    have h2:=J.ok.above
    rw[z1]at h1
    exact absurd (Nat.lt_of_lt_of_le h1 h2) (Nat.lt_irrefl _)
  ·exact hb z1
 obtain⟨o2,q2⟩:∃o2,s'.heap.get? b=some o2:=by
  rcases hc with z|⟨o',z⟩
  ·cases hz:H' b with
   |none=>exact absurd hz z
   |some u=>exact(J.hok b u hz).there
  ·exact J.base.there b o' z (by intro q;cases q)
 have q3:=kp b o2 q2 nst hc
 rw[q]at q3
 cases q3
 refine keepB b o q2 nst ?_
 rcases hc with z|⟨o',z⟩
 ·exact .inl z
 ·exact .inr (I.base.there b o' z (by intro q;cases q))
end
section
variable {P:Program}{w:World}{K:PySem.W.Frag}{mg:Str→Option Value}{base:Heap}{N:List Str}{qual:Str}{scope:Scope}{f:Addr}{cd:Value}{A:Around}{outer:List Env}{s:Shared}{H:Hp}{E:XK}
def tRaise (C:Addr)(E:XK)(t:TA):TS:=fun _ σ H=>t σ H fun vs H1=>vs.length≤sizeLine∧∀ea,H1 ea=none→E (.ref C) (some ea) H1
theorem ps_raise {x:Str}{C:Addr}{np cpos pos:Pos}{e₀:Expr}{rest:List Expr}{t:TA}{bm:List Value}{newId B initId:String}(O:OwnCls x C bm newId mg base)(FB:ExcBaseFacts B newId initId bm)
  (hg:Gl (cxOf (CXF P w) P w K mg base N qual scope f cd A outer s H E) x) (ha:PA (cxOf (CXF P w) P w K mg base N qual scope f cd A outer s H E) (e₀::rest) t) (hdb:(x==("__debug__":Str))=false:=by decide)
  (he:starEach (e₀::rest) (cxOf (CXF P w) P w K mg base N qual scope f cd A outer s H E).env=(false,eval e₀ (cxOf (CXF P w) P w K mg base N qual scope f cd A outer s H E).env)::starEach rest (cxOf (CXF P w) P w K mg base N qual scope f cd A outer s H E).env:=by rfl)
  (hpl:(backTo cpos (starEach rest (cxOf (CXF P w) P w K mg base N qual scope f cd A outer s H E).env)).any (·.1)=false:=by rfl):
  PS (cxOf (CXF P w) P w K mg base N qual scope f cd A outer s H E) (.Raise (some (.Call (.Name x np) (e₀::rest) [] cpos)) none pos) (tRaise C E t):=by
 intro pins s1 σ H1 D I h
 obtain⟨tl,Nn,nm,q,bs,hdct,sn,sub,ab,col,dd,k0,k1,k2,k3,k5,mN,hC,hN,hni,T⟩:=O.obj
 refine wpAny_Raise_call_subT (C:=C) (nm:=nm) (q:=q) (N:=Nn) (bs:=bs) (bm:=tl) (hdct:=hdct) (sn:=sn) (sub:=sub) (ab:=ab) (col:=col) (dd:=dd) (k0:=k0) (k1:=k1) (k2:=k2) (k3:=k3) (k5:=k5)
  FB (mN:=mN) (T.hasType FB.hasBase) (I.ok.hd rfl) (by rw[he];show(false||(backTo cpos (starEach rest _)).any (·.1))=false;rw[hpl];rfl) hni (ld_glob I hg O.bound ⟨rfl,?_⟩ hdb)
 have hA:=ha cpos pins s1 σ H1 _ I h
 rw[he]at hA ⊢
 refine Calls.evalArgs_plain (thn hA fun us s2 ⟨vs,H2,I2,r,hl,hE⟩=>⟨rfl,by rw[←r.length];exact hl,I2.bk _ _ hC,hN.keeps I2.bk,T.keeps I2.bk,fun h' e hm=>?_⟩)
 show wpAny _ _ (leaving _ (.ref e)) _ _ _
 have hin:∀env∈(cxOf (CXF P w) P w K mg base N qual scope f cd A outer s H E).stack,∀b,env.frame=some b→b∈frs (cxOf (CXF P w) P w K mg base N qual scope f cd A outer s H E).stack:=fun env he b hb=>List.mem_filterMap.mpr ⟨env,he,hb⟩
 have nea:H2 e=none:=by
  cases hz:H2 e with
  |none=>rfl
  |some u=>
   obtain⟨ob,q⟩:=(I2.hok e u hz).there
   have:=hm.new
   rw[q]at this;cases this
 refine leaves_madeX (bse:=PySem.W.hideAll s2.heap (frs (cxOf (CXF P w) P w K mg base N qual scope f cd A outer s H E).stack)) (h:=s2.heap) I2.ok.frames rfl (fun b o q=>PySem.W.of_hideAll _ q) (PySem.W.funFrames_hide I2.stack hin) hm fun h'' t' x1 x4=>?_
 have up:s2.heap.UpToSlots h'':=(Heap.UpToSlots.of_keeps hm.keeps).trans x4
 have kp:∀b o,s2.heap.get? b=some o→b∉frs (cxOf (CXF P w) P w K mg base N qual scope f cd A outer s H E).stack→h''.get? b=some o:=fun b o q hb=>x1.1 b o (PySem.W.hideAll_get _ q hb)
 obtain⟨un',hok'⟩:=left_un rfl I2 (fun b o q hb _=>kp b o q hb) up
 refine⟨e,C,H2,rfl,⟨I2.os,I2.bare,un',hok',nea,_,t',x1,fun b o q hb hc=>?_⟩,hE e nea⟩
 have nst:b∉frs (cxOf (CXF P w) P w K mg base N qual scope f cd A outer s H E).stack:=fun z=>by
  rcases List.mem_cons.mp (I2.stkSub b z) with z1|z1
  ·rcases hc with z2|⟨o',z2⟩
   ·exact z2 (I2.stkFree b z)
   ·have h1:=Heap.lt_size z2
    have h2:=I2.ok.above
    rw[z1]at h1
    exact absurd (Nat.lt_of_lt_of_le h1 h2) (Nat.lt_irrefl _)
  ·exact hb z1
 obtain⟨o2,q2⟩:∃o2,s2.heap.get? b=some o2:=by
  rcases hc with z|⟨o',z⟩
  ·cases hz:H2 b with
   |none=>exact absurd hz z
   |some u=>exact(I2.hok b u hz).there
  ·exact I2.base.there b o' z (by intro q;cases q)
 have q3:=kp b o2 q2 nst
 rw[q]at q3
 cases q3
 exact PySem.W.hideAll_get _ q2 nst
theorem Fun.okX {x:Str}{st:Stmt}{fd:FuncData}{ps:List Str}{k:Nat}{sp:Sp}(F:Fun K x qual st f fd)(S:FnScope N ps (defScope st))
  (hbody:∀(cdv:Value) (A:Around) (outer:List Env) (s:Shared) (H:Hp) (vs:List V) (Q:VK) (E:XK),Room k (A.deeper (envOfC qual (defScope st) s.heap.objs.size f cdv))→sp vs H Q E→
   ∃t,PSs (cxOf (CXF P w) P w K mg base N qual (defScope st) f cdv A outer s H E) (defBody st) t∧t (Ends.of Q) (start N vs) H) (len:∀vs H Q E,sp vs H Q E→vs.length=ps.length:=by rintro _ _ _ _ ⟨⟩;subst_vars;rfl):FnOk P w K mg base (CXF P w) (k+1) f fd ps sp:=by
 obtain⟨oc,od,kV,doc,pm,an,cdv,ct,osl,rfl,lk,hcd⟩:=F.ex
 exact fn_of lk hcd S len fun A outer s H vs Q E hr hsp=>hbody cdv A outer s H vs Q E hr hsp
end
end L2
namespace PySem
theorem wpAny_excMatches_own {M:Model}{A:Around}{E:Value→Shared→Prop}{nm q nm' q':Str}{C N D N':Addr}{bs bm bs' bm':List Value}{hdct hdct':Bool}{sn sn':List Str}{sub sub':List Value}{ab ab':Bool}{col col':Option Bool}{dd dd':Option Addr}{k0 k1 k2 k3 k5 j0 j1 j2 j3 j5:Option Value}{newId newId':String}
  {h:Heap} {g:Array GenState} {d:Drawn} {t:Nat} {os:OsState} {e:Addr} {oe:Obj} {Q:Bool→Shared→Prop}
  (hC:h.get? C=some (excClassObj nm q C N bs bm hdct sn sub ab col dd k0 k1 k2 k3 k5 newId)) (hD:h.get? D=some (excClassObj nm' q' D N' bs' bm' hdct' sn' sub' ab' col' dd' j0 j1 j2 j3 j5 newId')) (he:h.get? e=some oe) (hcls:oe.cls=.ref C) (hbase:bm'.contains (.type "BaseException")=true) (hsub:(Value.ref C::bm).contains (.ref D)=true)
  (hq:Q true ⟨h,g,d,t,os⟩):wpAny M A (excMatches (.ref e) (.ref D)) Q E ⟨h,g,d,t,os⟩:=by
 have hcB:(Value.ref D::bm').contains (.type "BaseException")=true:=by rw[List.contains_cons,hbase,Bool.or_true]
 have f:=tc_notTuple
 unfold excMatches
 repeat (first|(with_reducible refine wpAny_loadPart_at he ?_;rw[hcls])|with_reducible refine wpAny_loadPart_at hD ?_|(with_reducible refine wpAny_isSubtype_exc hD ?_;rw[hcB])|(with_reducible refine wpAny_isSubtype_exc hC ?_;rw[hsub])|wp_step)
 exact hq
end PySem
namespace L2
open PySem PySem.Spec PyProof.Rows
def cxTry (X:Cx)(pins:List (Addr×Obj))(xe:Value→Shared→Prop):Cx:={X with pn:=X.pn++pins,xe:=xe}
section
variable {X:Cx}{pins p2:List (Addr×Obj)}{σ:St}{H:Hp}{s:Shared}{xe:Value→Shared→Prop}
theorem cxTry_ok (ok:X.Ok):(cxTry X pins xe).Ok:=⟨ok.mod,ok.kind,ok.glob,ok.blt,ok.above,ok.inj,ok.has,ok.cab,ok.hd,ok.frames,ok.stk,ok.exf,ok.bs,ok.bsz,ok.noex,ok.exfs,ok.funs,ok.frf⟩
theorem cxTry_ko (ok:(cxTry X pins xe).Ok):X.Ok:=⟨ok.mod,ok.kind,ok.glob,ok.blt,ok.above,ok.inj,ok.has,ok.cab,ok.hd,ok.frames,ok.stk,ok.exf,ok.bs,ok.bsz,ok.noex,ok.exfs,ok.funs,ok.frf⟩
theorem Inv.toTry (I:Inv X pins σ H s):Inv (cxTry X pins xe) [] σ H s :=
 ⟨cxTry_ok I.ok,I.os,I.bare,I.base,I.loc,I.cell,I.free,I.freeC,fun p hp=>I.pin p (by
  have:p∈(X.pn++pins)++[]:=hp
  rwa [List.append_nil]at this),I.hok,I.len⟩
theorem Inv.ofTry (I:Inv (cxTry X pins xe) p2 σ H s):Inv X pins σ H s :=
 ⟨cxTry_ko I.ok,I.os,I.bare,I.base,I.loc,I.cell,I.free,I.freeC,fun p hp=>I.pin p (List.mem_append_left _ hp),I.hok,I.len⟩
theorem Inv.stays {h':Heap}(hex:X.ex=[])(I:Inv X pins σ H s)
  (kp:∀b o,s.heap.get? b=some o→b∉frs X.stack→(H b≠none∨(∃o',X.s₀.heap.get? b=some o')∨b∈(X.pn++pins).map (·.1))→h'.get? b=some o) (sl:s.heap.UpToSlots h'):Inv X pins σ H {s with heap:=h'}:=by
 obtain⟨un,hok⟩:=left_un hex I (fun b o q hb hc=>kp b o q hb (hc.elim .inl fun z=>.inr (.inl z))) sl
 obtain⟨m,hn,hl⟩:=I.loc
 have cel:∀{c v},s.heap.IsCell c v→h'.IsCell c v:=fun{c v} ⟨o,q,hd⟩=>by
  obtain⟨sl',q'⟩:=sl c o q (fun vs z=>by rw[hd]at z;cases z)
  exact⟨_,q',hd⟩
 have un2:Un X.fs X.ex X.H₀ H X.s₀.heap h':=by rw[hex];exact un
 refine⟨I.ok,I.os,I.bare,un2,⟨m,sl.ns hn,fun i x v q1 q2 q3=>?_⟩,fun x c q=>?_,I.free,I.freeC,fun p hp=>?_,hok,I.len⟩
 ·obtain⟨u,r,l⟩:=hl i x v q1 q2 q3
  refine⟨u,r,?_⟩
  rcases l with l|⟨l1,c,l2,l3⟩
  ·exact .inl l
  ·exact .inr ⟨l1,c,l2,cel l3⟩
 ·obtain⟨v,q'⟩:=I.cell x c q
  exact⟨v,cel q'⟩
 ·obtain⟨p1,p2,p3,p4,p5⟩:=I.pin p hp
  refine⟨kp _ _ p1 (fun z=>?_) (.inr (.inr (List.mem_map_of_mem hp))),p2,p3,p4,p5⟩
  rcases List.mem_cons.mp (I.stkSub _ z) with z1|z1
  ·exact p3 z1
  ·exact p4 z1
end
def XT (X:Cx)(pins:List (Addr×Obj))(EX:St→XK):Value→Shared→Prop:=fun e s'=>∃ea C σ H',e=.ref ea∧Inv X pins σ H' s'∧H' ea=none∧
 (∃(B:Heap) (t:Addr),Heap.FlyingX B X.stack ea (.ref C) (.ref t) s'.heap∧(∀p∈X.pn++pins,p.1≠ea)∧∀b o,s'.heap.get? b=some o→b∉frs X.stack→(H' b≠none∨(∃o',X.s₀.heap.get? b=some o')∨b∈(X.pn++pins).map (·.1))→B.get? b=some o)∧EX σ (.ref C) (some ea) H'
def tCallT (sp:Sp)(EX:St→XK)(t:TA):TE:=fun σ H Q=>t σ H fun vs H1=>sp vs H1 Q (EX σ)
def cxSuite (X:Cx)(ea:Addr)(pins:List (Addr×Obj)):Cx:={X with A:=X.A.mark (some (.ref ea)),calm:=false,pn:=X.pn++pins,xe:=fun _ _=>False}
section
variable {X:Cx}{pins p2:List (Addr×Obj)}{σ:St}{H:Hp}{s:Shared}{ea:Addr}
theorem Inv.toSuite (I:Inv X pins σ H s):Inv (cxSuite X ea pins) [] σ H s :=
 ⟨⟨I.ok.mod,I.ok.kind,I.ok.glob,I.ok.blt,I.ok.above,I.ok.inj,I.ok.has,I.ok.cab,(fun z=>by cases z),I.ok.frames,I.ok.stk,I.ok.exf,I.ok.bs,I.ok.bsz,I.ok.noex,I.ok.exfs,I.ok.funs,I.ok.frf⟩,
  I.os,I.bare,I.base,I.loc,I.cell,I.free,I.freeC,fun p hp=>I.pin p (by
  have:p∈(X.pn++pins)++[]:=hp
  rwa [List.append_nil]at this),I.hok,I.len⟩
theorem Inv.ofSuite (hd:X.calm=true→X.A.handled=none)(I:Inv (cxSuite X ea pins) p2 σ H s):Inv X pins σ H s :=
 ⟨⟨I.ok.mod,I.ok.kind,I.ok.glob,I.ok.blt,I.ok.above,I.ok.inj,I.ok.has,I.ok.cab,hd,I.ok.frames,I.ok.stk,I.ok.exf,I.ok.bs,I.ok.bsz,I.ok.noex,I.ok.exfs,I.ok.funs,I.ok.frf⟩,
  I.os,I.bare,I.base,I.loc,I.cell,I.free,I.freeC,fun p hp=>I.pin p (List.mem_append_left _ hp),I.hok,I.len⟩
theorem Inv.morePin {o:Obj}(I:Inv X pins σ H s)(e:s.heap.get? ea=some o)(n:H ea=none)(nl:ea≠X.env.locals)(nf:ea∉X.fs)(nc:∀v,o.data≠.cell v):Inv X (pins++[(ea,o)]) σ H s :=
 ⟨I.ok,I.os,I.bare,I.base,I.loc,I.cell,I.free,I.freeC,fun p hp=>by
  rw[←List.append_assoc]at hp
  rcases List.mem_append.mp hp with hp|hp
  ·exact I.pin p hp
  ·rw[List.mem_singleton]at hp
   subst hp
   exact⟨e,n,nl,nf,nc⟩,I.hok,I.len⟩
theorem Inv.lessPin (I:Inv X (pins++p2) σ H s):Inv X pins σ H s :=
 ⟨I.ok,I.os,I.bare,I.base,I.loc,I.cell,I.free,I.freeC,fun p hp=>I.pin p (by rw[←List.append_assoc];exact List.mem_append_left _ hp),I.hok,I.len⟩
theorem name_gone {M:Model}{A:Around}{E:Value→Shared→Prop}{i:Nat}{n:Str}{pos:Pos}{Q:Unit→Shared→Prop}(I:Inv X pins σ H s)(hN:X.N.Nodup)(hi:X.N[i]?=some n)(hn:X.env.scope.names.lookup n=some .local)
  (h:∀s',Inv X pins (σ.set i none) H s'→Q () s'):wpAny M A (do bindName X.env n .none;unbindBehindTheSuite X.env n pos) Q E s:=by
 obtain⟨m,hns,hl⟩:=I.loc
 refine wpAny_nameGoes_keeps (m:=m) hn hns (by rw[I.ok.kind];rfl) fun h' v hns' hsb=>h _ ?_
 have same:∀{b},b≠X.env.locals→h'.get? b=s.heap.get? b:=fun nb=>hsb.2 _ nb
 have old:∀{b o},X.s₀.heap.get? b=some o→b≠X.env.locals:=fun{b o} e z=>by
  have h1:=Heap.lt_size e
  have h2:=I.ok.above
  rw[z]at h1
  exact absurd (Nat.lt_of_lt_of_le h1 h2) (Nat.lt_irrefl _)
 have cel:∀{c u},c≠X.env.locals→s.heap.IsCell c u→h'.IsCell c u:=fun nc ⟨o,q,hd⟩=>⟨o,(same nc).trans q,hd⟩
 refine⟨I.ok,I.os,I.bare,⟨fun b o e n' hb hx=>(same (old e)).trans (I.base.keep b o e n' hb hx),fun b o e n' hb hx=>?_,I.base.free,fun b o e hx=>?_,I.base.tups,I.base.frzs,I.base.tbls⟩,⟨_,hns',fun j y u e1 e2 e3=>?_⟩,fun x c q=>?_,I.free,I.freeC,fun p hp=>?_,I.hok.keptT fun b u nb q=>?_,by rw[List.length_set];exact I.len⟩
 ·obtain⟨sl,q⟩:=I.base.slot b o e n' hb hx
  exact⟨sl,(same (old e)).trans q⟩
 ·obtain⟨o',q⟩:=I.base.there b o e hx
  exact⟨o',(same (old e)).trans q⟩
 ·have hji:j≠i:=fun z=>by
   rw[z,List.getElem?_set]at e2
   simp only[if_true]at e2
   split at e2<;>cases e2
  rw[List.getElem?_set_ne (Ne.symm hji)]at e2
  have hyn:y≠n:=fun z=>by
   rw[z]at e1
   obtain⟨l1,q1⟩:=List.getElem?_eq_some_iff.mp e1
   obtain⟨l2,q2⟩:=List.getElem?_eq_some_iff.mp hi
   rcases Nat.lt_or_gt_of_ne hji with lt|lt
   ·exact List.pairwise_iff_getElem.mp hN _ _ l1 l2 lt (q1.trans q2.symm)
   ·exact List.pairwise_iff_getElem.mp hN _ _ l2 l1 lt (q2.trans q1.symm)
  obtain⟨w',r,l⟩:=hl j y u e1 e2 e3
  refine⟨w',r,?_⟩
  rcases l with ⟨l1,l2⟩|⟨l1,c,l2,l3⟩
  ·exact .inl ⟨l1,by show(if y=n then v else m y)=some w';rw[if_neg hyn];exact l2⟩
  ·exact .inr ⟨l1,c,l2,cel (I.cne y c l2) l3⟩
 ·obtain⟨v',q'⟩:=I.cell x c q
  exact⟨v',cel (I.cne x c q) q'⟩
 ·obtain⟨p1,p2',p3,p4,p5⟩:=I.pin p hp
  exact⟨(same p3).trans p1,p2',p3,p4,p5⟩
 ·exact(same (fun z=>nb (by rw[z];exact I.free))).trans q
end
def CatchOk (h:Heap)(C D:Addr):Prop:=∃(nm q nm' q':Str) (N N':Addr) (bs bm bs' bm':List Value) (hdct hdct':Bool) (sn sn':List Str) (sub sub':List Value) (ab ab':Bool) (col col':Option Bool) (dd dd':Option Addr) (k0 k1 k2 k3 k5 j0 j1 j2 j3 j5:Option Value) (newId newId':String),
 h.get? C=some (excClassObj nm q C N bs bm hdct sn sub ab col dd k0 k1 k2 k3 k5 newId)∧h.get? D=some (excClassObj nm' q' D N' bs' bm' hdct' sn' sub' ab' col' dd' j0 j1 j2 j3 j5 newId')∧bm'.contains (.type "BaseException")=true∧(Value.ref C::bm).contains (.ref D)=true
def endsLess (i:Nat)(D:Ends):Ends:={nx:=fun σ H=>D.nx (σ.set i none) H,rt:=D.rt,bk:=fun σ H=>D.bk (σ.set i none) H,ct:=fun σ H=>D.ct (σ.set i none) H}
def tTry (i:Nat)(EX:St→XK)(tb:TS)(ts:Addr→Addr→TS):TS:=fun D σ H=>tb D σ H∧∀σ' C ea H',EX σ' (.ref C) (some ea) H'→H' ea=none→ts ea C (endsLess i D) (σ'.set i (some (.ref ea))) H'
section
variable {P:Program}{w:World}{H H':Hp}{h h':Heap}{a b c:Addr}{o:Obj}
end
open PySem PySem.Spec PyProof.Rows PySem.Builtin.Getset_descriptor
section
variable {K:PySem.W.Frag}{M:Model}{h:Heap}{x C:Addr}{name:Str}{ax gx:Value}
theorem exc_ty {ob:Obj}(e:h.get? x=some ob)(c:ob.cls=.ref C):PySem.W.Looks M h (typeOf (.ref x)) (.ref C):=by
 rw[←c]
 exact(PySem.W.Looks.ld e).andThen .now
theorem find_data (X:K.In h)(h1:PySem.W.findIn K (.ref C) name=some (some ax))(h2:PySem.W.specialIn K ax "__get__"=some (some gx))(h3:PySem.W.takesIn K ax=some true):
  PySem.W.Looks M h (Builtin.ObjectAttr.find (.ref x) (.ref C) name) (.bind gx ax):=by
 have e1:=PySem.W.looks_findIn (M:=M) X h1
 have e2:PySem.W.Looks M h (Builtin.ObjectAttr.getOf (some ax)) (some gx):=PySem.W.looks_specialIn X h2
 have e3:PySem.W.Looks M h (Builtin.ObjectAttr.dataDescriptor? (some ax) (some gx)) (some (gx,ax)):=(PySem.W.looks_takesIn X h3).andThen .now
 exact e1.andThen (e2.andThen (e3.andThen (.tag .now)))
end
section
variable {prog:Program}{w:World}{A:Around}{E:Value→Shared→Prop}{s:Shared}{K:PySem.W.Frag}{x C:Addr}{ob:Obj}
theorem exc_class_get {R:Result→Shared→Prop}{tp:Value}(X:K.In s.heap)(e:s.heap.get? x=some ob)(c:ob.cls=.ref C)(hm:PySem.W.mroIn K C (.type "object")=some true)(q:R (.ok (.ret (.ref C))) s):
  codeAny (model prog w) A (.call (.builtin "getset_descriptor.__get__") ⟨[.builtin "object.__class__", .ref x,tp],[]⟩) R s:=by
 obtain⟨hp,gn,dr,tk,os⟩:=s
 have y1:=exc_ty (M:=model prog w) e c
 have y2:=PySem.W.looks_mroIn (M:=model prog w) X hm
 refine codeAny_call_builtin PySem.W.KF.slot_gs.plain PySem.W.KF.entry_gs ?_
 refine PySem.W.KF.slot_gs.check _ _ _ _ _ _ _ _ PySem.W.KF.type_class (PySem.W.KF.args_gs _ _ _) ?_
 unfold Builtin.«getset_descriptor.__get__»
 unfold descrGet
 rw[PySem.W.dga_obj]
 refine wpAny_bind (wpAny_pure ?_)
 unfold descrGetter descrCheckInstance
 unfold descrNameAndClass isInstance
 simp only[PySem.W.KF.owner_class]
 repeat lk
 refine⟨Code.quiet_builtin _ (by decide+kernel),?_⟩
 refine codeAny_builtin PySem.W.KF.entry_class ?_
 unfold Builtin.«object.__class__»
 unfold shownTypeOf
 repeat lk
 exact q
theorem exc_check {Q:Unit→Shared→Prop}{nameV:Value}(X:K.In s.heap)(e:s.heap.get? x=some ob)(c:ob.cls=.ref C)(gb:PySem.W.mroIn K C (.type "BaseException")=some true)(q:Q () s):
  wpAny (model prog w) A (checkBuiltinCall "BaseException.__getattribute__" ⟨[.ref x,nameV],[]⟩) Q E s:=by
 obtain⟨hp,gn,dr,tk,os⟩:=s
 have y1:=exc_ty (M:=model prog w) e c
 have y2:=PySem.W.looks_mroIn (M:=model prog w) X gb
 have k1:builtinKind "BaseException.__getattribute__"=some .slot:=by decide+kernel
 have k2:splitId "BaseException.__getattribute__"=some ("BaseException","__getattribute__"):=by decide+kernel
 have k3:=F.args_bexc_ga (.ref x) nameV
 simp only[checkBuiltinCall,k1,k2]
 unfold isInstance
 refine wpAny_bind (wpAny_bind (y1.at (y2.at ?_)))
 rw[if_neg (by decide)]
 cases hz:Manifest.signature? "BaseException.__getattribute__" with
 |none=>exact wpAny_pure q
 |some sig=>
  simp only[argsOk,hz]at k3
  have k4:Bind.checkArgs "BaseException.__getattribute__" sig ⟨[.ref x,nameV],[]⟩=pure ():=k3
  show wpAny _ _ (Bind.checkArgs "BaseException.__getattribute__" sig ⟨[.ref x,nameV],[]⟩) _ _ _
  rw[k4]
  exact wpAny_pure q
variable (g0:PySem.W.findIn K (.ref C) "__getattribute__"=some (some (.builtin "BaseException.__getattribute__")))(g1:PySem.W.findIn K (.ref C) "__getattr__"=some none)(gb:PySem.W.mroIn K C (.type "BaseException")=some true)
 (g2:PySem.W.findIn K (.ref C) "__class__"=some (some (.builtin "object.__class__"))) (g3:PySem.W.specialIn K (.builtin "object.__class__") "__get__"=some (some (.builtin "getset_descriptor.__get__")))
 (g4:PySem.W.takesIn K (.builtin "object.__class__")=some true) (g5:PySem.W.mroIn K C (.type "object")=some true)
include g0 g1 gb g2 g3 g4 g5
theorem exc_class {Q:Option Value→Shared→Prop}(X:K.In s.heap)(e:s.heap.get? x=some ob)(c:ob.cls=.ref C)(q:Q (some (.ref C)) {s with toks:=s.toks+1}):wpAny (model prog w) A (getAttr? (.ref x) "__class__") Q E s:=by
 obtain⟨hp,gn,dr,tk,os⟩:=s
 have y1:=exc_ty (M:=model prog w) e c
 have y2:=PySem.W.looks_findIn (M:=model prog w) X g0
 have y3:=PySem.W.looks_findIn (M:=model prog w) X g1
 have y4:=find_data (M:=model prog w) (x:=x) X g2 g3 g4
 unfold getAttr? getAttrBy?
 unfold getAttrBy
 refine wpAny_bind (wpAny_mkText ?_)
 refine wpAny_bind (wpAny_attempt (wpAny_holding ?_))
 refine wpAny_bind (y1.at ?_)
 refine wpAny_bind (y2.at ?_)
 show wpAny _ _ (getAttrByItsOwn _ _ _ _ _ _) _ _ _
 unfold getAttrByItsOwn
 refine wpAny_bind ((show PySem.W.Looks (model prog w) hp (hookBefore (.ref C)) none from y3).at ?_)
 refine wpAny_bind (wpAny_attempt (wpAny_holding ?_))
 show wpAny _ _ (boundAndCalled _ _ _) _ _ _
 unfold boundAndCalled
 rw[F.excAttr_ValueError.ga.bind]
 refine wpAny_bind (wpAny_pure (wpAny_call (codeAny_call_builtin F.excAttr_ValueError.ga.plain F.entry_bexc_ga (exc_check X e c gb ?_))))
 unfold Builtin.«object.__getattribute__»
 refine wpAny_bind (wpAny_pure (wpAny_bind (wpAny_pure (wpAny_bind (y1.at (wpAny_bind (y4.at ?_)))))))
 show wpAny _ _ (holding [_] (call _ [_,_,_])>>=ret) _ _ _
 refine wpAny_bind (wpAny_holding (wpAny_call (exc_class_get X e c g5 ?_)))
 refine wpAny_pure ?_
 exact PySem.W.handed_on rfl (wpAny_pure q)
end
structure ExcCls (K:PySem.W.Frag)(C:Addr):Prop where
 g0:PySem.W.findIn K (.ref C) "__getattribute__"=some (some (.builtin "BaseException.__getattribute__"))
 g1:PySem.W.findIn K (.ref C) "__getattr__"=some none
 gb:PySem.W.mroIn K C (.type "BaseException")=some true
 g2:PySem.W.findIn K (.ref C) "__class__"=some (some (.builtin "object.__class__"))
 g3:PySem.W.specialIn K (.builtin "object.__class__") "__get__"=some (some (.builtin "getset_descriptor.__get__"))
 g4:PySem.W.takesIn K (.builtin "object.__class__")=some true
 g5:PySem.W.mroIn K C (.type "object")=some true
 lk:∃c0 d0 cd sl,K.lookup C=some ⟨c0,d0, .cls cd,sl⟩
theorem kitx_exc {K:PySem.W.Frag}{x C:Addr}(S:ExcCls K C):PySem.W.KitX K (.ref x) (.ref C) (fun h=>∃ob,h.get? x=some ob∧ob.cls=.ref C) where
 ty:=fun _ _ _ ⟨ob,e,c⟩=>exc_ty e c
 it:=fun M h X _=>by
  obtain⟨c0,d0,cd,sl,q⟩:=S.lk
  intro A' Q' E' s' k z
  unfold isType
  unfold loadHead
  exact wpAny_bind (wpAny_loadPart (k _ _ (X _ _ q)) (wpAny_pure z))
 ne:=fun h tp dd its n sl X e=>by
  obtain⟨c0,d0,cd,sl',q⟩:=S.lk
  cases hz:(Value.ref C==Value.ref tp) with
  |false=>rfl
  |true=>
   have z:C=tp:=by simpa using hz
   have e2:=X _ _ q
   rw[z,e]at e2
   cases e2
 ca:=fun{prog w A E Q s} X ⟨ob,e,c⟩ k=>exc_class S.g0 S.g1 S.gb S.g2 S.g3 S.g4 S.g5 X e c k
section
variable {X:Cx}
end
def HT (X:Cx)(pins:List (Addr×Obj))(EX:St→XK):Value→Shared→Prop:=fun e s2=>∃(ea C:Addr) (σ:St) (H':Hp) (s1:Shared) (B:Heap) (t:Addr) (h4:Heap),e=.ref ea∧s2={s1 with heap:=h4}∧Inv X pins σ H' s1∧H' ea=none∧
 Heap.HeldX B (X.env::X.outer) ea (.ref C) (.ref t) X.env.locals h4∧s1.heap.UpToSlots h4∧(∀p∈X.pn++pins,p.1≠ea)∧
 (∀b o,s1.heap.get? b=some o→b∉frs X.stack→(H' b≠none∨(∃o',X.s₀.heap.get? b=some o')∨b∈(X.pn++pins).map (·.1))→B.get? b=some o)∧EX σ (.ref C) (some ea) H'
def LT (X:Cx)(pins:List (Addr×Obj))(EX:St→XK):Value→Shared→Prop:=fun e s=>wpAny (model X.prog X.w) X.A (noteFrame e X.env) (fun _ s2=>HT X pins EX e s2) (fun _ _=>False) s
theorem xt_lt {X:Cx}{pins:List (Addr×Obj)}{EX:St→XK}{e:Value}{s1:Shared}(hst:X.stack=X.env::X.outer)(hfr:X.env.frame=some X.env.locals)(q:XT X pins EX e s1):LT X pins EX e s1:=by
 obtain⟨ea,C,σ',H',rfl,J,nea,⟨B,t,fl,npin,keepB⟩,hE⟩:=q
 have fl':Heap.FlyingX B (X.env::X.outer) ea (.ref C) (.ref t) s1.heap:=by rw[←hst];exact fl
 have hfrm:X.A.frames=some (X.env::X.outer):=by rw[←hst];exact J.ok.frames
 exact looks_onX hfrm hfr fl' fun h4 held4 sm4=>⟨ea,C,σ',H',s1,B,t,h4,rfl,rfl,J,nea,held4,sm4,npin,keepB,hE⟩
theorem pe_callTL {X:Cx}{pins0:List (Addr×Obj)}{EX:St→XK}{k:Nat}{x:Str}{ps:List Str}{sp:Sp}{p pos:Pos}{e:Expr}{es:List Expr}{t:TA}{f:Addr}{fd:FuncData}(hst:X.stack=X.env::X.outer)(hfr:X.env.frame=some X.env.locals)(hex:X.ex=[])(F:FnOk X.prog X.w X.K X.mg X.base (CXF X.prog X.w) k f fd ps sp)(hb:Binds X.K fd ps [])(hk:PySem.W.keepIn X.K (.ref f)=true)(hm:X.mg x=some (.ref f))(hr:Room k X.A)(hg:Gl X x)
  (ha:PA (cxTry X pins0 (LT X pins0 EX)) (e::es) t) (hdb:(x==("__debug__":Str))=false:=by decide) (he:starEach (e::es) X.env=(false,eval e X.env)::starEach es X.env:=by rfl) (hpl:(backTo pos (starEach es X.env)).any (·.1)=false:=by rfl):
  PE (cxTry X pins0 (LT X pins0 EX)) (.Call (.Name x p) (e::es) [] pos) (tCallT sp EX t):=by
 intro pins s σ H Q I h
 refine wpAny_Call_Name_kw (ld_glob I hg hm ?_ hdb)
 refine PySem.W.callWith_K (h₀:=X.base) I.ok.mod.kin hk (thn (ha pos pins s σ H _ I h) fun us s1 ⟨vs,H1,I1,r,q⟩=>⟨I1.kIn,?_⟩) he hpl
 have hl':us.length=ps.length:=by rw[←r.length];exact F.len _ _ _ _ q
 have bt:BindsTo s1 fd ⟨us,[]⟩ (ps.zip us):=by
  have:=hb s1 us I1.kIn (by rw[List.append_nil];exact hl')
  rw[List.append_nil]at this
  exact this
 refine wpAny_call (codeAny_mono (F.run X.A X.stack s1 H1 ⟨us,[]⟩ us vs Q (EX σ) hr I1.env0 bt r q) fun r' s' hq=>?_)
 cases r' with
 |error e=>
  obtain⟨ea,C,H',rfl,⟨os,bare,un,hok,nea,B,tt,fl,keepB⟩,hE⟩:=hq
  have J0:Inv (cxTry X pins0 (LT X pins0 EX)) pins σ H' s':=I1.call' os un hok bare (fun b z=>absurd z (by simp))
  have J:=J0.ofTry
  have I1':=I1.ofTry
  have nfr:∀{b},b∈(X.pn++pins0).map (·.1)→b∉frs X.stack:=fun{b} hb z=>by
   obtain⟨p,hp,rfl⟩:=List.mem_map.mp hb
   obtain⟨p1,p2,p3,p4,p5⟩:=I1'.pin p hp
   rcases List.mem_cons.mp (I1'.stkSub _ z) with z1|z1
   ·exact p3 z1
   ·exact p4 z1
  refine xt_lt hst hfr ⟨ea,C,σ,H',rfl,J,nea,⟨B,tt,fl,fun p hp z=>?_,fun b o q hb hc=>keepB b o q hb ?_⟩,hE⟩
  ·obtain⟨p1,_⟩:=I1'.pin p hp
   have j1:=(J.pin p hp).1
   have:=keepB p.1 p.2 j1 (nfr (List.mem_map_of_mem hp)) (.inr ⟨_,p1⟩)
   rw[z,fl.2.1]at this
   cases this
  ·rcases hc with z|⟨o',z⟩|z
   ·exact .inl z
   ·exact .inr (I1'.base.there b o' z (by rw[hex];simp))
   ·obtain⟨p,hp,rfl⟩:=List.mem_map.mp z
    exact .inr ⟨_,(I1'.pin p hp).1⟩
 |ok fl=>
  cases fl with
  |ret u=>exact I1.after hq
  |next=>exact False.elim hq
  |brk=>exact False.elim hq
  |cont=>exact False.elim hq
def Alone (oe:Obj):Prop:=∃ws,oe.data=.fields ws∧ws[2]?=some .none
theorem ps_tryQ {X:Cx}{body suite:List Stmt}{b₀:Stmt}{y n:Str}{np hpos pos:Pos}{tb:TS}{ts:Addr→Addr→TS}{EX:St→XK}{D:Addr}{i:Nat}(hex:X.ex=[])(hst:X.stack=X.env::X.outer)(hfr:X.env.frame=some X.env.locals)
  (hN:X.N.Nodup) (hi:X.N[i]?=some n) (hn:X.env.scope.names.lookup n=some .local) (hg:Gl X y) (hm:X.mg y=some (.ref D)) (hcls:∀σ C ea H',EX σ (.ref C) ea H'→CatchOk X.base C D)
  (hb:∀pins,PSs (cxTry X pins (LT X pins EX)) body tb) (hs:∀ea C oe pins,(ea,oe)∈pins→oe.cls=.ref C→X.base.get? ea=none→Alone oe→PSs (cxSuite X ea pins) (b₀::suite) (ts ea C)) (hdb:(y==("__debug__":Str))=false:=by decide):
  PS X (.Try body [.ExceptHandler (some (.Name y np)) (some n) (b₀::suite) hpos] [] [] pos) (tTry i EX tb ts):=by
 intro pins s σ H De I h
 obtain⟨h1,h2⟩:=h
 refine wpAny_Try_except (wpAny_mono (hb pins [] s σ H De I.toTry h1) (fun f s1 q=>?_) (fun e s1 q=>?_))
 ·cases f with
  |next=>obtain⟨σ',H',J,q⟩:=q;exact wpAny_execs_nil ⟨σ',H',J.ofTry,q⟩
  |ret u=>obtain⟨v,σ',H',J,r,q⟩:=q;exact⟨v,σ',H',J.ofTry,r,q⟩
  |brk=>obtain⟨σ',H',J,q⟩:=q;exact⟨σ',H',J.ofTry,q⟩
  |cont=>obtain⟨σ',H',J,q⟩:=q;exact⟨σ',H',J.ofTry,q⟩
 ·refine wpAny_mono q (fun _ s2 hq=>?_) (fun _ _ z=>z.elim)
  obtain⟨ea,C,σ',H',s1,B,t,h4,rfl,rfl,J,nea,held4,sm4,npin,keepB,hE⟩:=hq
  refine landsX held4 fun h5 fl5 sm5=>?_
  have J5:Inv X pins σ' H' {s1 with heap:=h5}:=J.stays hex (fun b o q hb hc=>fl5.1 b o (keepB b o q hb hc)) (sm4.trans sm5)
  have rel:∀{b},(H' b≠none∨(∃o',X.s₀.heap.get? b=some o')∨b∈(X.pn++pins).map (·.1))→∃o1,s1.heap.get? b=some o1:=fun{b} hc=>by
   rcases hc with z|⟨o',z⟩|z
   ·cases hz:H' b with
    |none=>exact absurd hz z
    |some u=>exact(J.hok b u hz).there
   ·exact J.base.there b o' z (by rw[hex];simp)
   ·obtain⟨p,hp,rfl⟩:=List.mem_map.mp z
    exact⟨_,(J.pin p hp).1⟩
  obtain⟨oe,hoe,hoec⟩:=fl5.there
  obtain⟨nm,q,nm',q',N,N',bs,bm,bs',bm',hdct,hdct',sn,sn',sub,sub',ab,ab',col,col',dd,dd',k0,k1,k2,k3,k5,j0,j1,j2,j3,j5,newId,newId',hC,hD,hbase,hsub⟩:=hcls σ' C _ H' hE
  refine wpAny_handleBy_cons (codeAny_handlers_test (ld_glob (X:=cxSuite X ea pins) J5.toSuite hg hm ?_ hdb)) (by intro q;cases q)
  refine wpAny_excMatches_own (J5.bk _ _ hC) (J5.bk _ _ hD) hoe hoec hbase hsub ?_
  refine codeAny_handlers_suite_as ?_
  refine lands_againX fl5 fun h6 fl6 sm6=>?_
  have J6:Inv X pins σ' H' {s1 with heap:=h6}:=Inv.stays (s:={s1 with heap:=h5}) hex J5 (fun b o q hb hc=>by
   obtain⟨o1,q1⟩:=rel hc
   have k1':=keepB b o1 q1 hb hc
   have k2':=fl5.1 b o1 k1'
   have q':h5.get? b=some o:=q
   rw[k2']at q'
   cases q'
   exact fl6.1 b o k1') sm6
  obtain⟨oe6,hoe6,hoec6⟩:=fl6.there
  obtain⟨_,_,_,oe7,ws7,_,_,_,hoe7,hoec7,hoed7,_⟩:=fl6
  have nst:ea∉frs X.stack:=fun z=>by
   obtain⟨_,o,ho,hnf⟩:=J6.stack.mem z
   have e1:h6.get? ea=some oe7:=hoe7
   have e2:h6.get? ea=some o:=ho
   rw[e1]at e2
   cases e2
   exact hnf _ hoed7
  have nl:ea≠X.env.locals:=fun z=>nst (by rw[hst,z];unfold frs;rw[List.filterMap_cons,hfr];exact List.mem_cons_self)
  have nf:ea∉X.fs:=fun z=>nst (by rw[hst];unfold frs;rw[List.filterMap_cons,hfr];exact List.mem_cons_of_mem _ z)
  have hcl7:oe7.cls=.ref C:=by
   have e1:h6.get? ea=some oe7:=hoe7
   have e2:h6.get? ea=some oe6:=hoe6
   rw[e1]at e2
   cases e2
   exact hoec6
  have nb:X.base.get? ea=none:=by
   cases hz:X.base.get? ea with
   |none=>rfl
   |some o=>
    have k1':=keepB ea o (J.bk _ _ hz) nst (.inr (.inl ⟨o,(J.ok.bs _ _ hz).1⟩))
    rw[held4.2.1]at k1'
    cases k1'
  have Jp:Inv X (pins++[(ea,oe7)]) σ' H' {s1 with heap:=h6}:=J6.morePin hoe7 nea nl nf (fun v z=>by rw[hoed7]at z;cases z)
  refine store_ok (X:=cxSuite X ea (pins++[(ea,oe7)])) Jp.toSuite hN hi (Or.inl hn) (v:=.ref ea) rfl (fun s7 J7=>?_) (.inr hn)
  refine wpAny_mono (hs ea C oe7 (pins++[(ea,oe7)]) (List.mem_append_right _ List.mem_cons_self) hcl7 nb ⟨ws7,hoed7,hoec7.2.2⟩ [] s7 (σ'.set i (some (.ref ea))) H' (endsLess i De) J7 (h2 σ' C ea H' hE nea)) (fun f s8 q8=>?_) (fun _ _ z=>False.elim z)
  cases f with
  |next=>
   obtain⟨σ8,H8,J8,q⟩:=q8
   exact name_gone (J8.ofSuite I.ok.hd).lessPin hN hi hn fun s9 J9=>⟨_,H8,J9,q⟩
  |ret u=>
   obtain⟨v,σ8,H8,J8,r,q⟩:=q8
   exact name_gone (J8.ofSuite I.ok.hd).lessPin hN hi hn fun s9 J9=>⟨v,_,H8,J9,r,q⟩
  |brk=>
   obtain⟨σ8,H8,J8,q⟩:=q8
   exact name_gone (J8.ofSuite I.ok.hd).lessPin hN hi hn fun s9 J9=>⟨_,H8,J9,q⟩
  |cont=>
   obtain⟨σ8,H8,J8,q⟩:=q8
   exact name_gone (J8.ofSuite I.ok.hd).lessPin hN hi hn fun s9 J9=>⟨_,H8,J9,q⟩
structure PEx (X:Cx)(e:Expr)(t:TE):Prop where
 h:PE X e t
structure PAx (X:Cx)(es:List Expr)(t:TA):Prop where
 h:PA X es t
structure PSx (X:Cx)(st:Stmt)(t:TS):Prop where
 h:PS X st t
structure PSsx (X:Cx)(sts:List Stmt)(t:TS):Prop where
 h:PSs X sts t
section
variable {X:Cx}
theorem star_tup {es' es:List Expr}{x1}{p:Pos}{env:Env}:starEach (.Tuple es' x1 p::es) env=(false,eval (.Tuple es' x1 p) env)::starEach es env:=rfl
theorem star_con {v}{j}{es:List Expr}{p:Pos}{env:Env}:starEach (.Constant v j p::es) env=(false,eval (.Constant v j p) env)::starEach es env:=rfl
theorem star_nam {x:Str}{es:List Expr}{p:Pos}{env:Env}:starEach (.Name x p::es) env=(false,eval (.Name x p) env)::starEach es env:=rfl
theorem star_sub {a b:Expr}{es:List Expr}{p:Pos}{env:Env}:starEach (.Subscript a b p::es) env=(false,eval (.Subscript a b p) env)::starEach es env:=rfl
theorem x_tup {es:List Expr}{x1}{p:Pos}{t:TA}(h:PAx X es t):PEx X (.Tuple es x1 p) (tTup t):=⟨pe_tup h.h⟩
theorem x_lst {es:List Expr}{p:Pos}{t:TA}(h:PAx X es t):PEx X (.List es p) (tLst t):=⟨pe_lst h.h⟩
theorem x_nil:PAx X [] tNil:=⟨pa_nil⟩
theorem x_str {x:Str}{j}{es:List Expr}{p:Pos}{t:TA}(hr:PAx X es t):PAx X (.Constant (.str x) j p::es) (tCons (tC (.str x)) t):=⟨pa_cons pe_str hr.h star_con⟩
theorem x_int {x:Int}{j}{es:List Expr}{p:Pos}{t:TA}(hr:PAx X es t):PAx X (.Constant (.int x) j p::es) (tCons (tC (.int x)) t):=⟨pa_cons pe_int hr.h star_con⟩
theorem x_t {es' es:List Expr}{x1}{p:Pos}{te:TE}{t:TA}(ha:PEx X (.Tuple es' x1 p) te)(hr:PAx X es t):PAx X (.Tuple es' x1 p::es) (tCons te t):=⟨pa_cons ha.h hr.h star_tup⟩
theorem x_n {x:Str}{es:List Expr}{p:Pos}{te:TE}{t:TA}(ha:PEx X (.Name x p) te)(hr:PAx X es t):PAx X (.Name x p::es) (tCons te t):=⟨pa_cons ha.h hr.h star_nam⟩
theorem x_s {a b:Expr}{es:List Expr}{p:Pos}{te:TE}{t:TA}(ha:PEx X (.Subscript a b p) te)(hr:PAx X es t):PAx X (.Subscript a b p::es) (tCons te t):=⟨pa_cons ha.h hr.h star_sub⟩
theorem x_pv (i:Nat){x:Str}{pos:Pos}(hN:X.N[i]?=some x:=by rfl)(hv:Vis X.env.scope x:=by first|exact Or.inl rfl|exact Or.inr (Or.inl rfl)|exact Or.inr (Or.inr rfl))(hd:(x==("__debug__":Str))=false:=by decide)
  (hcd:(x==("__classdict__":Str))=false:=by decide):PEx X (.Name x pos) (tVar i):=⟨pv i hN hv hd hcd⟩
theorem x_set {i:Nat}{x:Str}{e:Expr}{te:TE}{pos' pos:Pos}(hN:X.N.Nodup)(hi:X.N[i]?=some x)(hx:Loc X.env.scope x)(he:PEx X e te)(hs:swapsWith e (some (.Name x pos')) pos.line X.env=pure false:=by rfl)
  (hf:X.fn x=true∨X.env.scope.names.lookup x=some .local:=by first|exact .inl rfl|exact .inr rfl|assumption):PSx X (.Assign [.Name x pos'] e pos) (tAsg te (gName i)):=⟨ps_set hN hi hx he.h hs hf⟩
theorem x_cons {st:Stmt}{rest:List Stmt}{t u:TS}(h1:PSx X st t)(h2:PSsx X rest u):PSsx X (st::rest) (tSeq t u):=⟨pss_cons h1.h h2.h⟩
theorem x_one {st:Stmt}{t:TS}(h1:PSx X st t):PSsx X [st] t:=⟨pss_one h1.h⟩
theorem x_weak {b:Stmt}{t t':TS}(h:PSx X b t)(k:∀D σ H,t' D σ H→t D σ H):PSx X b t':=⟨fun pins s σ H D I q=>h.h pins s σ H D I (k D σ H q)⟩
theorem x_weaks {b:List Stmt}{t t':TS}(h:PSsx X b t)(k:∀D σ H,t' D σ H→t D σ H):PSsx X b t':=⟨fun pins s σ H D I q=>h.h pins s σ H D I (k D σ H q)⟩
theorem x_for {tg iter:Expr}{body:List Stmt}{wi:TI}{g:TG}{tb:TS}{pos:Pos}(hp:PassesOwn (model X.prog X.w) X.A X.env X.xe)(hc:X.calm=true)(hi:PI X tg iter wi)(hg:PG X tg g)(hb:PSsx X body tb)
  (hs:∀x,foldedSetIterable iter X.env x=pure x:=by intro _;rfl):PSx X (.For tg iter body [] pos) (tFor wi g tb):=⟨ps_for hp hc hi hg hb.h hs⟩
theorem x_ci {x:Int}{j}{p:Pos}:PEx X (.Constant (.int x) j p) (tC (.int x)):=⟨pe_int⟩
theorem x_cs {x:Str}{j}{p:Pos}:PEx X (.Constant (.str x) j p) (tC (.str x)):=⟨pe_str⟩
end
section
variable {κ:Type}[DecidableEq κ]
def valV (kvs:List (κ×V))(k:κ):Option V:=(kvs.find? fun kv=>decide (kv.1=k)).map (·.2)
def putK (kvs:List (κ×V))(k:κ)(v:V):List (κ×V) :=
 if(kvs.any fun kv=>decide (kv.1=k))=true then kvs.map (fun kv=>if kv.1=k then(kv.1,v) else kv) else kvs++[(k,v)]
theorem valV_pos {p:κ×V}{r:List (κ×V)}{k:κ}(e:p.1=k):valV (p::r) k=some p.2:=by simp[valV,List.find?_cons,e]
theorem valV_neg {p:κ×V}{r:List (κ×V)}{k:κ}(e:¬p.1=k):valV (p::r) k=valV r k:=by simp[valV,List.find?_cons,e]
theorem valV_any (k:κ):∀kvs:List (κ×V),(kvs.any fun kv=>decide (kv.1=k))=(valV kvs k).isSome
 |[]=>rfl
 |p::r=>by
  rw[List.any_cons]
  by_cases e:p.1=k
  ·simp only[valV_pos e,decide_eq_true e,Bool.true_or,Option.isSome_some]
  ·rw[valV_neg e,decide_eq_false e,Bool.false_or];exact valV_any k r
theorem valV_map (k j:κ)(y:V):∀kvs:List (κ×V),valV (kvs.map fun kv=>if kv.1=k then(kv.1,y) else kv) j=(valV kvs j).map fun x=>if j=k then y else x
 |[]=>rfl
 |p::r=>by
  have ih:=valV_map k j y r
  rw[List.map_cons]
  by_cases h:p.1=k
  ·rw[if_pos h]
   by_cases e:p.1=j
   ·rw[valV_pos (p:=(p.1,y)) e,valV_pos e,Option.map_some,if_pos (e.symm.trans h)]
   ·rw[valV_neg (p:=(p.1,y)) e,valV_neg e,ih]
  ·rw[if_neg h]
   by_cases e:p.1=j
   ·rw[valV_pos (p:=p) e,valV_pos e,Option.map_some,if_neg (fun z=>h (e.trans z))]
   ·rw[valV_neg (p:=p) e,valV_neg e,ih]
theorem valV_snoc (k j:κ)(y:V):∀kvs:List (κ×V),valV kvs k=none→valV (kvs++[(k,y)]) j=if j=k then some y else valV kvs j
 |[],_=>by
  by_cases e:k=j
  ·rw[if_pos e.symm];exact valV_pos (p:=(k,y)) e
  ·rw[if_neg (fun z=>e z.symm)];exact valV_neg (p:=(k,y)) e
 |p::r,hn=>by
  rw[List.cons_append]
  have hk:¬p.1=k:=fun z=>by rw[valV_pos z]at hn;cases hn
  rw[valV_neg hk]at hn
  have ih:=valV_snoc k j y r hn
  by_cases e:p.1=j
  ·rw[valV_pos e,valV_pos e,if_neg (fun z=>hk (e.trans z))]
  ·rw[valV_neg e,valV_neg e,ih]
theorem valV_put (kvs:List (κ×V))(k j:κ)(y:V):valV (putK kvs k y) j=if j=k then some y else valV kvs j:=by
 unfold putK
 by_cases a:(kvs.any fun kv=>decide (kv.1=k))=true
 ·rw[if_pos a,valV_map]
  rw[valV_any]at a
  by_cases e:j=k
  ·obtain⟨x,hx⟩:=Option.isSome_iff_exists.mp a
   rw[if_pos e,e,hx,Option.map_some,if_pos rfl]
  ·rw[if_neg e]
   cases valV kvs j with
   |none=>rfl
   |some x=>rw[Option.map_some,if_neg e]
 ·rw[if_neg a]
  refine valV_snoc k j y kvs ?_
  rw[valV_any]at a
  cases q:valV kvs k with
  |none=>rfl
  |some x=>rw[q]at a;exact(a rfl).elim
theorem length_putK (kvs:List (κ×V))(k:κ)(v:V):(putK kvs k v).length≤kvs.length+1:=by
 unfold putK
 split
 ·rw[List.length_map];exact Nat.le_succ _
 ·rw[List.length_append,List.length_cons,List.length_nil];exact Nat.le_refl _
theorem putK_new {kvs:List (κ×V)}{k:κ}(v:V)(h:valV kvs k=none):putK kvs k v=kvs++[(k,v)]:=by
 unfold putK
 rw[valV_any,h]
 exact if_neg (by decide)
theorem RelO.isSome_eq {o:Option V}{u:Option Value}(r:RelO o u):o.isSome=u.isSome:=by
 cases o with
 |none=>cases u with
  |none=>rfl
  |some _=>exact(show False from r).elim
 |some _=>cases u with
  |none=>exact(show False from r).elim
  |some _=>rfl
theorem RelO.getD {o:Option V}{u:Option Value}{d:V}{d':Value}(r:RelO o u)(rd:RelV d d'):RelV (o.getD d) (u.getD d'):=by
 cases o with
 |none=>cases u with
  |none=>exact rd
  |some _=>exact(show False from r).elim
 |some _=>cases u with
  |none=>exact(show False from r).elim
  |some _=>exact r
theorem KV.val {kvs:List (κ×V)}{vs:List (κ×Value)}(r:KV kvs vs)(k:κ):RelO (valV kvs k) (valueAt vs k):=by
 unfold KV at r
 induction r with
 |nil=>exact True.intro
 |@cons p q ps qs h t ih=>
  obtain⟨h1,h2⟩:=h
  by_cases e:p.1=k
  ·have e':q.1=k:=h1.symm.trans e
   have b:valueAt (q::qs) k=some q.2:=by simp[valueAt,List.find?_cons,e']
   rw[valV_pos e,b];exact h2
  ·have e':¬q.1=k:=fun z=>e (h1.trans z)
   have b:valueAt (q::qs) k=valueAt qs k:=by simp[valueAt,List.find?_cons,e']
   rw[valV_neg e,b];exact ih
theorem KV.any {kvs:List (κ×V)}{vs:List (κ×Value)}(r:KV kvs vs)(k:κ):(kvs.any fun kv=>decide (kv.1=k))=vs.any fun kv=>decide (kv.1=k):=by
 unfold KV at r
 induction r with
 |nil=>rfl
 |cons h t ih=>rw[List.any_cons,List.any_cons,ih,h.1]
theorem KV.repl {kvs:List (κ×V)}{vs:List (κ×Value)}(r:KV kvs vs)(k:κ){y:V}{u:Value}(ry:RelV y u):
  KV (kvs.map fun kv=>if kv.1=k then(kv.1,y) else kv) (vs.map fun kv=>if kv.1=k then(kv.1,u) else kv):=by
 unfold KV at r ⊢
 induction r with
 |nil=>exact .nil
 |@cons p q ps qs h t ih=>
  rw[List.map_cons,List.map_cons]
  refine .cons ?_ ih
  obtain⟨h1,h2⟩:=h
  by_cases e:p.1=k
  ·rw[if_pos e,if_pos (h1.symm.trans e)];exact⟨h1,ry⟩
  ·rw[if_neg e,if_neg (fun z=>e (h1.trans z))];exact⟨h1,h2⟩
theorem KV.put {kvs:List (κ×V)}{vs:List (κ×Value)}(r:KV kvs vs)(k:κ){y:V}{u:Value}(ry:RelV y u):KV (putK kvs k y) (stored vs k u):=by
 unfold putK stored
 rw[r.any k]
 by_cases e:(vs.any fun kv=>decide (kv.1=k))=true
 ·rw[if_pos e,if_pos e];exact r.repl k ry
 ·rw[if_neg e,if_neg e];exact Paired.snoc r ⟨rfl,ry⟩
theorem KV.keys {kvs:List (κ×V)}{vs:List (κ×Value)}(r:KV kvs vs):kvs.map (·.1)=vs.map (·.1):=by
 unfold KV at r
 induction r with
 |nil=>rfl
 |cons h t ih=>rw[List.map_cons,List.map_cons,ih,h.1]
theorem KV.length {kvs:List (κ×V)}{vs:List (κ×Value)}(r:KV kvs vs):kvs.length=vs.length:=Paired.length r
end
theorem kV_is {P:Program}{w:World}{k:Key}{u:Value}(r:RelV (kV k) u):(mixKind P w).is k u=true:=by
 cases k with
 |inl i=>obtain⟨t,e⟩:=(show ∃t,u=Value.int i t from r);subst e;exact mixKind_int P w i t
 |inr x=>obtain⟨t,e⟩:=(show ∃t,u=Value.str x t from r);subst e;exact mixKind_str P w x t
theorem items_are {P:Program}{w:World}:∀{ks:List Key} {us:List Value},Vals (ks.map kV) us→ItemsAre (mixKind P w) ks us
 |[],_,r=>by rw[List.map_nil]at r;cases r;exact .nil
 |k::ks,_,r=>by
  rw[List.map_cons]at r
  cases r with
  |cons h t=>exact .cons (kV_is h) (items_are t)
abbrev KT (H:Hp):List (List Key×V)→List (List Key×Addr×Value)→Prop:=Paired fun p q=>p.1=q.1∧H q.2.1=some (.tup (p.1.map kV))∧RelV p.2 q.2.2
theorem KT.val {H:Hp}{kvs:List (List Key×V)}{xs:List (List Key×Addr×Value)}(r:KT H kvs xs)(k:List Key):RelO (valV kvs k) ((atKey xs k).map (·.2)):=by
 induction r with
 |nil=>exact True.intro
 |@cons p q ps qs h t ih=>
  obtain⟨h1,_,h2⟩:=h
  by_cases e:p.1=k
  ·have e':q.1=k:=h1.symm.trans e
   have b:atKey (q::qs) k=some q.2:=by simp[atKey,List.find?_cons,e']
   rw[valV_pos e,b];exact h2
  ·have e':¬q.1=k:=fun z=>e (h1.trans z)
   have b:atKey (q::qs) k=atKey qs k:=by simp[atKey,List.find?_cons,e']
   rw[valV_neg e,b];exact ih
theorem KT.repl {H:Hp}{kvs:List (List Key×V)}{xs:List (List Key×Addr×Value)}(r:KT H kvs xs)(k:List Key){y:V}{u:Value}(ry:RelV y u):
  KT H (kvs.map fun kv=>if kv.1=k then(kv.1,y) else kv) (xs.map (putAt k u)):=by
 induction r with
 |nil=>exact .nil
 |@cons p q ps qs h t ih=>
  rw[List.map_cons,List.map_cons]
  refine .cons ?_ ih
  obtain⟨h1,h2,h3⟩:=h
  unfold putAt
  by_cases e:p.1=k
  ·rw[if_pos e,if_pos (h1.symm.trans e)];exact⟨h1,h2,ry⟩
  ·rw[if_neg e,if_neg (fun z=>e (h1.trans z))];exact⟨h1,h2,h3⟩
theorem KT.put {H:Hp}{kvs:List (List Key×V)}{xs:List (List Key×Addr×Value)}(r:KT H kvs xs)(k:List Key){b:Addr}{y:V}{u:Value}(hb:H b=some (.tup (k.map kV)))(ry:RelV y u):
  KT H (putK kvs k y) (storedH xs k b u):=by
 have e:(kvs.any fun kv=>decide (kv.1=k))=(atKey xs k).isSome:=by
  rw[valV_any,(r.val k).isSome_eq,Option.isSome_map]
 unfold putK storedH
 rw[e]
 by_cases q:(atKey xs k).isSome=true
 ·rw[if_pos q,if_pos q];exact r.repl k ry
 ·rw[if_neg q,if_neg q];exact Paired.snoc r ⟨rfl,hb,ry⟩
theorem KT.keeps {H H':Hp}{kvs:List (List Key×V)}{xs:List (List Key×Addr×Value)}(r:KT H kvs xs)(ht:∀b ys,H b=some (.tup ys)→H' b=some (.tup ys)):KT H' kvs xs :=
 Paired.mapP r fun _ _ z=>⟨z.1,ht _ _ z.2.1,z.2.2⟩
section
variable {P:Program}{w:World}{H:Hp}{h:Heap}{a:Addr}
theorem rd_of {u:HO}(ok:HOk P w H h)(e:Rd H a u):ObjOk P w H h a u:=e.ok ok
theorem dk_rd {kvs:List (Key×V)}(ok:HOk P w H h)(e:Rd H a (.dK kvs)):kvs.length≤sizeLine∧(a==sysModules)=false∧∃vs,KV kvs vs∧h.DictOf (mixKind P w) a vs :=
 show ObjOk P w H h a (.dK kvs) from rd_of ok e
theorem dk_of {kvs:List (Key×V)}(ok:HOk P w H h)(e:H a=some (.dK kvs)):kvs.length≤sizeLine∧(a==sysModules)=false∧∃vs,KV kvs vs∧h.DictOf (mixKind P w) a vs:=dk_rd ok (.inl e)
theorem key_of {ks:List Key}(ok:HOk P w H h)(e:H a=some (.tup (ks.map kV))):(tupleKind (mixKind P w)).is h ks a:=by
 obtain⟨_,its,r,o,h1,h2,n,h3⟩:=(show ObjOk P w H h a (.tup (ks.map kV)) from ok a _ e)
 exact⟨o,its.toArray,n,h1,h2,h3,by simpa using items_are r⟩
theorem dt_rd {kvs:List (List Key×V)}(ok:HOk P w H h)(e:Rd H a (.dT kvs)):kvs.length≤sizeLine∧(a==sysModules)=false∧
  ∃xs,KT H kvs xs∧h.DictOfH (tupleKind (mixKind P w)) a xs:=by
 obtain⟨z,y,xs,r,o,es,ep,h1,h2,h3,h4,h5⟩:=(show ObjOk P w H h a (.dT kvs) from rd_of ok e)
 refine⟨z,y,xs,r,o,es,ep,h1,h2,h3,h4,fun x hx=>?_,h5⟩
 have all:∀{l:List (List Key×V)} {m:List (List Key×Addr×Value)},KT H l m→∀x∈m,(tupleKind (mixKind P w)).is h x.1 x.2.1:=by
  intro l m q
  induction q with
  |nil=>intro x hx;exact nomatch hx
  |@cons p q ps qs hq t ih=>
   intro x hx
   rcases List.mem_cons.mp hx with e|hx
   ·subst e
    exact key_of ok (by rw[←hq.1];exact hq.2.1)
   ·exact ih x hx
 exact all r x hx
theorem dt_of {kvs:List (List Key×V)}(ok:HOk P w H h)(e:H a=some (.dT kvs)):kvs.length≤sizeLine∧(a==sysModules)=false∧
  ∃xs,KT H kvs xs∧h.DictOfH (tupleKind (mixKind P w)) a xs:=dt_rd ok (.inl e)
end
def DGet (H:Hp)(a:Addr)(y:V)(r:Option V):Prop :=
 (∃kvs k,Rd H a (.dK kvs)∧y=kV k∧r=valV kvs k)∨∃kvs k b,Rd H a (.dT kvs)∧y=.ref b∧H b=some (.tup (k.map kV))∧r=valV kvs k
def DPut (H:Hp)(a:Addr)(y v:V)(H':Hp):Prop :=
 (∃kvs k,H a=some (.dK kvs)∧y=kV k∧kvs.length<sizeLine∧H'=upd H a (.dK (putK kvs k v)))∨
 ∃kvs k b,H a=some (.dT kvs)∧y=.ref b∧H b=some (.tup (k.map kV))∧kvs.length<sizeLine∧H'=upd H a (.dT (putK kvs k v))
theorem DPut.k {H:Hp}{a:Addr}{kvs:List (Key×V)}{k:Key}{v:V}(e:H a=some (.dK kvs))(hl:kvs.length<sizeLine):DPut H a (kV k) v (upd H a (.dK (putK kvs k v))):=.inl ⟨kvs,k,e,rfl,hl,rfl⟩
section
variable {X:Cx}{pins:List (Addr×Obj)}{σ:St}{H:Hp}{s:Shared}{a:Addr}{y v:V}{u r:Value}{o:Option V}{A:Around}{E:Value→Shared→Prop}
theorem Inv.big (I:Inv X pins σ H s):sysModules<s.heap.objs.size:=by
 have h:mainGlobals<s.heap.objs.size:=(I.mod.glob.keeps I.bk).lt
 exact Nat.lt_trans (by decide) h
theorem d_getItem {Q:Value→Shared→Prop}(hu:A.units+1<cLine)(I:Inv X pins σ H s)(g:DGet H a y (some v))(ry:RelV y u)(h:∀w' s',Inv X pins σ H s'→RelV v w'→Q w' s'):
  wpAny (model X.prog X.w) A (getItem (.ref a) u) Q E s:=by
 rcases g with ⟨kvs,k,e,ey,l⟩|⟨kvs,k,b,e,ey,eb,l⟩
 ·subst ey
  obtain⟨z,hd,vs,rel,dd⟩:=dk_rd I.hok e
  obtain⟨w',hw,rw'⟩:=RelO.some_of (v:=v) (o:=valueAt vs k) (by rw[l];exact rel.val k)
  exact wpAny_getItem_of (kV_is ry) dd.mapOf hw (h w' _ (I.tok _) rw')
 ·subst ey
  cases(show u=Value.ref b from ry)
  obtain⟨z,hd,xs,rel,dd⟩:=dt_rd I.hok e
  obtain⟨w',hw,rw'⟩:=RelO.some_of (v:=v) (o:=(atKey xs k).map (·.2)) (by rw[l];exact rel.val k)
  obtain⟨p,hp,hp2⟩:=Option.map_eq_some_iff.mp hw
  refine wpAny_getItem_heap (tupleKind_room_in1 hu) (key_of I.hok eb) dd hp ?_
  rw[hp2]
  exact h w' _ (I.tok _) rw'
theorem d_notIn {Q:Value→Shared→Prop}(hu:A.units+1<cLine)(I:Inv X pins σ H s)(g:DGet H a y o)(ry:RelV y u)(h:∀s',Inv X pins σ H s'→Q (.bool (!o.isSome)) s'):
  wpAny (model X.prog X.w) A (compareOp .NotIn u (.ref a)) Q E s:=by
 rcases g with ⟨kvs,k,e,ey,l⟩|⟨kvs,k,b,e,ey,eb,l⟩
 ·subst ey
  obtain⟨z,hd,vs,rel,dd⟩:=dk_rd I.hok e
  refine wpAny_notIn_of (kV_is ry) hd dd.mapOf ?_
  rw[←(rel.val k).isSome_eq,←l]
  exact h _ (I.tok _)
 ·subst ey
  cases(show u=Value.ref b from ry)
  obtain⟨z,hd,xs,rel,dd⟩:=dt_rd I.hok e
  refine wpAny_notIn_heap (tupleKind_room_in1 hu) (key_of I.hok eb) hd dd ?_
  have q:=(rel.val k).isSome_eq
  rw[Option.isSome_map]at q
  rw[←q,←l]
  exact h _ (I.tok _)
theorem d_write {h':Heap}{t':Nat}{ob:HO}(I:Inv X pins σ H s)(mu:Mut (H a))(hs:Heap.SameBut a s.heap h')(he:∃q,h'.get? a=some q)(new:ObjOk X.prog X.w (upd H a ob) h' a ob):
  Inv X pins σ (upd H a ob) {s with heap:=h',toks:=t'} :=
 I.write (x:=a) (e:=a) mu (.inl rfl) (fun b q hb z=>(hs.2 b hb).trans z) he new
theorem dk_new {P:Program}{w:World}{H':Hp}{h':Heap}{kvs:List (Key×V)}{vs:List (Key×Value)}(z:kvs.length≤sizeLine)(hd:(a==sysModules)=false)(rel:KV kvs vs)(dd:h'.DictOf (mixKind P w) a vs):
  ObjOk P w H' h' a (.dK kvs):=⟨z,hd,vs,rel,dd⟩
theorem d_setItem {H':Hp}{Q:Unit→Shared→Prop}(hu:A.units+1<cLine)(I:Inv X pins σ H s)(g:DPut H a y v H')(ry:RelV y u)(rv:RelV v r)(h:∀s',Inv X pins σ H' s'→Q () s'):
  wpAny (model X.prog X.w) A (setItem (.ref a) u r) Q E s:=by
 rcases g with ⟨kvs,k,e,ey,l,eH⟩|⟨kvs,k,b,e,ey,eb,l,eH⟩
 ·subst ey eH
  obtain⟨z,hd,vs,rel,dd⟩:=dk_of I.hok e
  have hz:vs.length≤sizeLine:=by rw[←rel.length];exact z
  have hl:(putK kvs k v).length≤sizeLine:=by have:=length_putK kvs k v;exact Nat.le_trans this l
  refine wpAny_setItem_pairs (hsz:=hz) (kV_is ry) dd fun h' dd' hs=>h _ ?_
  have he:∃q,h'.get? a=some q:=let ⟨q,_,_,hq,_⟩:=dd';⟨q,hq⟩
  exact d_write I (by rw[e];exact True.intro) hs he (dk_new hl hd (rel.put k rv) dd')
 ·subst ey eH
  cases(show u=Value.ref b from ry)
  obtain⟨z,hd,xs,rel,dd⟩:=dt_of I.hok e
  have hz:xs.length≤sizeLine:=by rw[←Paired.length rel];exact z
  have hl:(putK kvs k v).length≤sizeLine:=by have:=length_putK kvs k v;exact Nat.le_trans this l
  refine wpAny_setItem_heap (hsz:=hz) (tupleKind_room_in1 hu) (key_of I.hok eb) dd fun h' dd' hs=>h _ ?_
  obtain⟨q,es,ep,hq,h2,h3,h4,_,h5⟩:=dd'
  refine d_write I (by rw[e];exact True.intro) hs ⟨q,hq⟩ ⟨hl,hd,_,(rel.put k eb rv).keeps fun c ys ec=>?_,q,es,ep,hq,h2,h3,h4,h5⟩
  rw[upd_ne (ne_of ec e (fun z=>nomatch z))]
  exact ec
end
section
variable {X:Cx}{pins:List (Addr×Obj)}{σ:St}{H:Hp}{s:Shared}{a:Addr}{kvs:List (Key×V)}{k:Key}{u:Value}{A:Around}{E:Value→Shared→Prop}
end
def NoSl (i:Expr):Prop:=∀ov iv,subscripted i false ov iv=operate [ov,iv] (getItem ov iv)
theorem subD_of {prog:Program}{w:World}{A:Around}{E:Value→Shared→Prop}{s:Shared}{env:Env}{value slice:Expr}{pos:Pos}{T id:String}{Q:Value→Shared→Prop}
  (hl:typeLookup (.type T) "__getitem__"=pure (some (.builtin id))) (hs:NoSl slice)
  (h:wpAny (model prog w) A (eval value env) (fun o s₁=>wpAny (model prog w) A (eval slice env) (fun i s₂=>s₂.TypeIs o T∧wpAny (model prog w) A (getItem o i) Q E s₂) E s₁) E s):
  wpAny (model prog w) A (eval (.Subscript value slice pos) env) Q E s:=by
 refine Subscript_ (wpAny_mono h (fun o s₁ h₁=>wpAny_mono h₁ (fun i s₂ h₂=>?_) fun _ _ x=>x) fun _ _ x=>x)
 obtain⟨hT,h₂⟩:=h₂
 unfold subscriptTail
 refine wpAny_bind ?_
 rw[getitemInPython_of_ne hT.not_modules]
 refine wpAny_bind (wpAny_specialOf hT hl ?_)
 have fin:wpAny (model prog w) A (subscripted slice false o i) (fun r s₃=>wpAny (model prog w) A (letTemporaryGo value o r>>=fun _=>pure r) Q E s₃) E s₂:=by
  rw[hs o i]
  exact wpAny_operating (wpAny_mono h₂ (fun r s₃ h₃=>wpAny_bind (wpAny_letTemporaryGo (wpAny_pure h₃))) fun _ _ x=>x)
 first
  |exact wpAny_pure (wpAny_bind fin)
  |exact wpAny_bind (wpAny_pure (wpAny_bind fin))
  |exact wpAny_bind fin
theorem dict_typeIs {X:Cx}{pins:List (Addr×Obj)}{σ:St}{H:Hp}{s:Shared}{a:Addr}{y:V}{o:Option V}(I:Inv X pins σ H s)(g:DGet H a y o):s.TypeIs (.ref a) "dict":=by
 rcases g with ⟨kvs,k,e,_,_⟩|⟨kvs,k,b,e,_,_,_⟩
 ·obtain⟨_,_,vs,_,dd⟩:=dk_rd I.hok e
  exact dd.typeIs
 ·obtain⟨_,_,xs,_,dd⟩:=dt_rd I.hok e
  exact dd.typeIs
inductive tDGet_ (Q:VK)(x:V)(y:V)(H2:Hp):Prop where
 |mk (a) (v):(x=.ref a)→(DGet H2 a y (some v))→(Q v H2)→tDGet_ Q x y H2
def tDGet (td ty:TE):TE:=fun σ H Q=>td σ H fun x H1=>ty σ H1 (tDGet_ Q x)
def tDNotIn (ty td:TE):TE:=fun σ H Q=>ty σ H fun y H1=>td σ H1 fun x H2=>∃a o,x=.ref a∧DGet H2 a y o∧Q (.bl (!o.isSome)) H2
inductive sDPut_ (D:Ends)(σ:St)(v:V)(x:V)(y:V)(H3:Hp):Prop where
 |mk (a) (H4):(x=.ref a)→(DPut H3 a y v H4)→(D.nx σ H4)→sDPut_ D σ v x y H3
def sDPut (td ty tv:TE):TS:=fun D σ H=>tv σ H fun v H1=>td σ H1 fun x H2=>ty σ H2 (sDPut_ D σ v x)
def sDAug (td ty tv:TE)(rd:V→V→Hp→VK→Prop):TS:=fun D σ H=>td σ H fun x H1=>ty σ H1 fun y H2=>∃a v,x=.ref a∧DGet H2 a y (some v)∧
 tv σ H2 fun y2 H3=>rd v y2 H3 fun z H4=>∃H5,DPut H4 a y z H5∧D.nx σ H5
section
variable {X:Cx}{o i e value:Expr}{pos pos' tpos:Pos}{td ty tv:TE}
theorem pe_dget (hu:X.A.units+1<cLine)(ho:PE X o td)(hi:PE X i ty)(hs:NoSl i:=by intro _ _;rfl):PE X (.Subscript o i pos) (tDGet td ty):=by
 intro pins s σ H Q I h
 refine subD_of PySem.F.slot_dict_getitem.lookup hs (thn (ho pins s σ H _ I h) fun u s1 ⟨x,H1,I1,rx,q1⟩=>thn (hi pins s1 σ H1 _ I1 q1) fun iv s2 ⟨y,H2,I2,ry,a,v,ex,g,q2⟩=>?_)
 subst ex
 obtain rfl:u=Value.ref a:=rx
 exact⟨dict_typeIs I2 g,d_getItem hu I2 g ry fun w' s3 I3 rw'=>⟨v,H2,I3,rw',q2⟩⟩
theorem pc_dnotin (hu:X.A.units+1<cLine)(hi:PE X i ty)(ho:PE X o td):PC X .NotIn i o (tDNotIn ty td):=by
 intro pins s σ H Q I h
 refine thn (hi pins s σ H _ I h) fun iv s1 ⟨y,H1,I1,ry,q1⟩=>thn (ho pins s1 σ H1 _ I1 q1) fun u s2 ⟨x,H2,I2,rx,a,ov,ex,g,q2⟩=>?_
 subst ex
 obtain rfl:u=Value.ref a:=rx
 exact d_notIn hu I2 g ry fun s3 I3=>⟨.bl (!ov.isSome),H2,I3,rfl,q2⟩
theorem ps_dput (hu:X.A.units+1<cLine)(ho:PE X o td)(hi:PE X i ty)(hv:PE X value tv)(hs:swapsWith value (some (.Subscript o i pos')) pos.line X.env=pure false):
  PS X (.Assign [.Subscript o i pos'] value pos) (sDPut td ty tv):=by
 intro pins s σ H D I h
 refine wpAny_Assign_Subscript (thn (hv pins s σ H _ I h) fun r s1 ⟨v,H1,I1,rv,q1⟩=>thn (ho pins s1 σ H1 _ I1 q1) fun u s2 ⟨x,H2,I2,rx,q2⟩=>thn (hi pins s2 σ H2 _ I2 q2) fun iv s3 ⟨y,H3,I3,ry,a,H4,ex,g,q3⟩=>?_) hs
 subst ex
 obtain rfl:u=Value.ref a:=rx
 exact d_setItem hu I3 g ry rv fun s4 I4=>⟨σ,H4,I4,q3⟩
theorem ps_daug {op:Operator}{rd:V→V→Hp→VK→Prop}(hu:X.A.units+1<cLine)(ho:PE X o td)(hi:PE X i ty)(hv:PE X value tv)(hop:InOp X op rd)
  (ha:∀ov iv new,augStore i ov iv new=(do holding [new,ov,iv] (setItem ov iv new);release [new,ov,iv] [];pure .next)):PS X (.AugAssign (.Subscript o i tpos) op value pos) (sDAug td ty tv rd):=by
 intro pins s σ H D I h
 refine wpAny_AugAssign_SubscriptAny (thn (ho pins s σ H _ I h) fun u s1 ⟨x,H1,I1,rx,q1⟩=>thn (hi pins s1 σ H1 _ I1 q1) fun iv s2 ⟨y,H2,I2,ry,a,v,ex,g,q2⟩=>?_) ha
 subst ex
 obtain rfl:u=Value.ref a:=rx
 refine d_getItem hu I2 g ry fun w' s3 I3 rw'=>thn (hv pins s3 σ H2 _ I3 q2) fun w2 s4 ⟨y2,H3,I4,ry2,q3⟩=>thn (hop pins s4 σ H3 v y2 w' w2 _ I4 rw' ry2 q3) fun w3 s5 ⟨z,H4,I5,rz,H5,g5,q4⟩=>?_
 exact d_setItem hu I5 g5 ry rz fun s6 I6=>⟨σ,H5,I6,q4⟩
end
theorem dk_empty {P:Program}{w:World}{H:Hp}(h:Heap)(hb:sysModules<h.objs.size):ObjOk P w H (h.push {cls:=.type "dict",data:=.dict #[]}) h.objs.size (.dK []) :=
 ⟨Nat.zero_le _,beq_eq_false_iff_ne.mpr (Ne.symm (Nat.ne_of_lt hb)),[], .nil,Heap.DictOf.new h⟩
def tDNewK:TE:=fun _ H Q=>∀p,H p=none→Q (.ref p) (upd H p (.dK []))
section
variable {X:Cx}{pos:Pos}
theorem pe_dnewK:PE X (.Dict [] [] pos) tDNewK:=fun pins s σ H Q I h=>
 wpAny_Dict_empty ⟨.ref s.heap.objs.size,_,I.laid (a:=s.heap.objs.size) (o:=.dK []) (t':=s.toks) (fun _ _ q=>Heap.get?_push_of_some _ q) (Nat.le_refl _) (dk_empty s.heap I.big),rfl,h _ (I.hok.fresh (Nat.le_refl _))⟩
end
def tPairs:List (TE×TE)→St→Hp→(List (V×V)→Hp→Prop)→Prop
 |[],_,H,Q=>Q [] H
 |(tk,tv)::r,σ,H,Q=>tk σ H fun x H1=>tv σ H1 fun y H2=>tPairs r σ H2 fun ps H3=>Q ((x,y)::ps) H3
abbrev VV:List (V×V)→List (Value×Value)→Prop:=Paired fun p q=>RelV p.1 q.1∧RelV p.2 q.2
def PPs (X:Cx)(pos:Pos)(keys:List (Option Expr))(values:List Expr)(trs:List (TE×TE)):Prop :=
 ∀(pins:List (Addr×Obj)) (s:Shared) (σ:St) (H:Hp) (Q:List (V×V)→Hp→Prop),Inv X pins σ H s→tPairs trs σ H Q→
  wpAny (model X.prog X.w) X.A (evalPairs (pairTrees keys values X.env pos)) (fun vs s'=>∃ps H',Inv X pins σ H' s'∧VV ps vs∧Q ps H') X.xe s
theorem pps_nil {X:Cx}{pos:Pos}:PPs X pos [] [] []:=fun pins s σ H Q I h=>pairTrees_nil_walk ⟨[],H,I, .nil,h⟩
theorem pps_cons {X:Cx}{pos:Pos}{k v:Expr}{ks:List (Option Expr)}{vs:List Expr}{tk tv:TE}{trs:List (TE×TE)}(hk:PE X k tk)(hv:PE X v tv)(hr:PPs X pos ks vs trs):
  PPs X pos (some k::ks) (v::vs) ((tk,tv)::trs):=fun pins s σ H Q I h=>
 pairTrees_cons_walk (thn (hk pins s σ H _ I h) fun u s1 ⟨x,H1,I1,rx,q1⟩=>thn (hv pins s1 σ H1 _ I1 q1) fun w2 s2 ⟨y,H2,I2,ry,q2⟩=>
  thn (hr pins s2 σ H2 _ I2 q2) fun ws s3 ⟨ps,H3,I3,rel,q3⟩=>⟨(x,y)::ps,H3,I3, .cons ⟨rx,ry⟩ rel,q3⟩)
def mergeK (kvs more:List (Key×V)):List (Key×V):=more.foldl (fun acc kv=>putK acc kv.1 kv.2) kvs
theorem KV.merge:∀{more:List (Key×V)} {rs:List (Key×Value)} {kvs:List (Key×V)} {vs:List (Key×Value)},KV more rs→KV kvs vs→KV (mergeK kvs more) (merged vs rs):=by
 intro more rs kvs vs r
 unfold KV at r
 induction r generalizing kvs vs with
 |nil=>intro q;exact q
 |@cons p q ps qs h t ih=>
  intro r0
  have e:KV (putK kvs p.1 p.2) (stored vs q.1 q.2):=by
   have:=r0.put p.1 h.2
   rw[←h.1];exact this
  exact ih e
theorem length_mergeK:∀(more kvs:List (Key×V)),(mergeK kvs more).length≤kvs.length+more.length
 |[],kvs=>by show kvs.length≤kvs.length+0;exact Nat.le_refl _
 |p::r,kvs=>by
  have h1:=length_mergeK r (putK kvs p.1 p.2)
  have h2:=length_putK kvs p.1 p.2
  show(mergeK (putK kvs p.1 p.2) r).length≤_
  rw[List.length_cons];omega
theorem carries_of {P:Program}{w:World}{kvs:List (Key×V)}{ws:List (Value×Value)}(r:VV (kvs.map fun kv=>(kV kv.1,kv.2)) ws):∃rs,Carries (mixKind P w) ws rs∧KV kvs rs:=by
 induction kvs generalizing ws with
 |nil=>rw[List.map_nil]at r;cases r;exact⟨[],True.intro, .nil⟩
 |cons p kvs ih=>
  rw[List.map_cons]at r
  cases r with
  |@cons a b as bs h t=>
   obtain⟨rs,c,q⟩:=ih t
   obtain⟨b1,b2⟩:=b
   exact⟨(p.1,b2)::rs,⟨kV_is h.1,rfl,c⟩, .cons ⟨rfl,h.2⟩ q⟩
def tDisp (trs:List (TE×TE)):TE:=fun σ H Q=>∀p,H p=none→tPairs trs σ (upd H p (.dK [])) fun ps H2=>H2 p=some (.dK [])∧∃kvs:List (Key×V),ps=kvs.map (fun kv=>(kV kv.1,kv.2))∧kvs.length≤15∧Q (.ref p) (upd H2 p (.dK (mergeK [] kvs)))
theorem pe_disp {X:Cx}{pos:Pos}{keys:List (Option Expr)}{values:List Expr}{trs:List (TE×TE)}(h:PPs X pos keys values trs)(hall:keys.all (·.isSome)=true)(hl:keys.length=values.length)(h0:keys≠[])
  (h15:keys.length≤15):PE X (.Dict keys values pos) (tDisp trs):=by
 intro pins s σ H Q I q
 have hn:=I.hok.fresh (Nat.le_refl s.heap.objs.size)
 have I1:=I.laid (a:=s.heap.objs.size) (o:=.dK []) (h':=s.heap.push {cls:=.type "dict",data:=.dict #[]}) (t':=s.toks) (fun _ _ q=>Heap.get?_push_of_some _ q) (Nat.le_refl _) (dk_empty s.heap I.big)
 refine wpAny_Dict_walk (knd:=mixKind X.prog X.w) hall hl h0 h15 (thn (h pins _ σ _ _ I1 (q _ hn)) fun ws s2 ⟨ps,H2,I2,rel,e,kvs,ep,lk,q2⟩=>?_)
 subst ep
 obtain⟨rs,c,rk⟩:=carries_of (P:=X.prog) (w:=X.w) rel
 obtain⟨z,hd,vs0,r0,dd⟩:=dk_of I2.hok e
 cases r0
 refine⟨rs,c,dd,fun h' dd' hs=>⟨.ref s.heap.objs.size,_,?_,rfl,q2⟩⟩
 have hz:(mergeK [] kvs).length≤sizeLine:=by
  have h1:=length_mergeK kvs []
  rw[List.length_nil]at h1
  rw[sizeLine_eq];omega
 have he:∃q,h'.get? s.heap.objs.size=some q:=let ⟨q,_,_,hq,_⟩:=dd';⟨q,hq⟩
 exact d_write I2 (by rw[e];exact True.intro) hs he (dk_new hz hd (rk.merge .nil) dd')
structure M1 (X:Cx)(o:Expr)(m:Str)(apos:Pos)(e:Expr)(cpos:Pos):Prop where
 base:attributeBase o m X.env (eval o X.env)=eval o X.env
 few:((backTo cpos (starEach [e] X.env)).all (fun x=>!x.1)&&(backToKw cpos (keywordEach [] X.env)).all (fun x=>x.1.isSome)
  &&decide (([e]:List Expr).length+([]:List Keyword).length+(if([]:List Keyword).isEmpty then 0 else 1)<30))=true
 line:(apos.endLine==cpos.line)=true
 trees:backTo cpos (starEach [e] X.env)=[(false,eval e X.env)]
structure M2 (X:Cx)(o:Expr)(m:Str)(apos:Pos)(e f:Expr)(cpos:Pos):Prop where
 base:attributeBase o m X.env (eval o X.env)=eval o X.env
 few:((backTo cpos (starEach [e,f] X.env)).all (fun x=>!x.1)&&(backToKw cpos (keywordEach [] X.env)).all (fun x=>x.1.isSome)
  &&decide (([e,f]:List Expr).length+([]:List Keyword).length+(if([]:List Keyword).isEmpty then 0 else 1)<30))=true
 line:(apos.endLine==cpos.line)=true
 trees:backTo cpos (starEach [e,f] X.env)=[(false,eval e X.env),(false,eval f X.env)]
def IsD (H:Hp)(a:Addr):Prop:=(∃kvs,Rd H a (.dK kvs))∨∃kvs,Rd H a (.dT kvs)
theorem isD_at {X:Cx}{pins:List (Addr×Obj)}{σ:St}{H:Hp}{s:Shared}{a:Addr}(I:Inv X pins σ H s)(d:IsD H a):
  s.TypeIs (.ref a) "dict"∧(∀b,Value.ref a=.ref b→∃ob,s.heap.get? b=some ob∧ob.dict=none)∧(a==sysModules)=false:=by
 rcases d with ⟨kvs,e⟩|⟨kvs,e⟩
 ·obtain⟨_,hd,vs,_,dd⟩:=dk_rd I.hok e
  refine⟨dd.typeIs,fun b q=>?_,hd⟩
  cases q
  obtain⟨ob,_,_,h1,h2,_⟩:=dd
  exact⟨ob,h1,h2.2.1⟩
 ·obtain⟨_,hd,xs,_,dd⟩:=dt_rd I.hok e
  refine⟨dd.typeIs,fun b q=>?_,hd⟩
  cases q
  obtain⟨ob,_,_,h1,h2,_⟩:=dd
  exact⟨ob,h1,h2.2.1⟩
section
variable {X:Cx}{pins:List (Addr×Obj)}{σ:St}{H:Hp}{s:Shared}{a:Addr}{y d:V}{u r:Value}{o:Option V}{A:Around}{E:Value→Shared→Prop}
theorem d_get1 {Q:Value→Shared→Prop}(hu:A.units+1<cLine)(I:Inv X pins σ H s)(g:DGet H a y o)(ry:RelV y u)(h:∀w' s',Inv X pins σ H s'→RelV (o.getD .non) w'→Q w' s'):
  wpAny (model X.prog X.w) A (call (.builtin "dict.get") [.ref a,u]) Q E s:=by
 rcases g with ⟨kvs,k,e,ey,l⟩|⟨kvs,k,b,e,ey,eb,l⟩
 ·subst ey
  obtain⟨z,hd,vs,rel,dd⟩:=dk_rd I.hok e
  refine call_meetsIn PySem.F.slot_dict_get dd.typeIs PySem.F.entry_dict_get (PySem.F.args_dict_get_2 _ _) (meets_dict_get (mixKind X.prog X.w) a (kV_is ry) hd) ⟨_,dd.mapOf,h _ _ (I.tok _) ?_⟩
  rw[l]
  exact(rel.val k).getD rfl
 ·subst ey
  cases(show u=Value.ref b from ry)
  obtain⟨z,hd,xs,rel,dd⟩:=dt_rd I.hok e
  refine call_meetsIn PySem.F.slot_dict_get dd.typeIs PySem.F.entry_dict_get (PySem.F.args_dict_get_2 _ _) (meetsH_dict_get (tupleKind (mixKind X.prog X.w)) a b hd) ⟨tupleKind_room_in1 hu,k,xs,key_of I.hok eb,dd,h _ _ (I.tok _) ?_⟩
  rw[l]
  exact(rel.val k).getD rfl
theorem d_get2 {Q:Value→Shared→Prop}(hu:A.units+1<cLine)(I:Inv X pins σ H s)(g:DGet H a y o)(ry:RelV y u)(rd:RelV d r)(h:∀w' s',Inv X pins σ H s'→RelV (o.getD d) w'→Q w' s'):
  wpAny (model X.prog X.w) A (call (.builtin "dict.get") [.ref a,u,r]) Q E s:=by
 rcases g with ⟨kvs,k,e,ey,l⟩|⟨kvs,k,b,e,ey,eb,l⟩
 ·subst ey
  obtain⟨z,hd,vs,rel,dd⟩:=dk_rd I.hok e
  refine call_meetsIn PySem.F.slot_dict_get dd.typeIs PySem.F.entry_dict_get (PySem.F.args_dict_get_3 _ _ _) (meets_dict_get_default (mixKind X.prog X.w) a (kV_is ry) hd r) ⟨_,dd.mapOf,h _ _ (I.tok _) ?_⟩
  rw[l]
  exact(rel.val k).getD rd
 ·subst ey
  cases(show u=Value.ref b from ry)
  obtain⟨z,hd,xs,rel,dd⟩:=dt_rd I.hok e
  refine call_meetsIn PySem.F.slot_dict_get dd.typeIs PySem.F.entry_dict_get (PySem.F.args_dict_get_3 _ _ _) (meetsH_dict_get_default (tupleKind (mixKind X.prog X.w)) a b hd r) ⟨tupleKind_room_in1 hu,k,xs,key_of I.hok eb,dd,h _ _ (I.tok _) ?_⟩
  rw[l]
  exact(rel.val k).getD rd
end
def tDGet1 (td ty:TE):TE:=fun σ H Q=>td σ H fun x H1=>∃a,x=.ref a∧IsD H1 a∧ty σ H1 fun y H2=>∃o,DGet H2 a y o∧Q (o.getD .non) H2
def tDGet2 (td ty tx:TE):TE:=fun σ H Q=>td σ H fun x H1=>∃a,x=.ref a∧IsD H1 a∧ty σ H1 fun y H2=>tx σ H2 fun z H3=>∃o,DGet H3 a y o∧Q (o.getD z) H3
section
variable {X:Cx}{o e f:Expr}{apos cpos:Pos}{td ty tx:TE}
theorem pe_dget1 (hu:X.A.units+1<cLine)(ho:PE X o td)(he:PE X e ty)(m:M1 X o "get" apos e cpos):PE X (.Call (.Attribute o "get" apos) [e] [] cpos) (tDGet1 td ty):=by
 intro pins s σ H Q I h
 refine wpAny_Call_method m.base m.few m.line PySem.F.plainAttrs_dict PySem.F.slot_dict_get PySem.F.type_dict_get (thn (ho pins s σ H _ I h) fun u s1 ⟨x,H1,I1,rx,a,ex,d,q1⟩=>?_)
 subst ex
 obtain rfl:u=Value.ref a:=rx
 obtain⟨t1,t2,_⟩:=isD_at I1 d
 refine⟨t1,t2,?_⟩
 rw[m.trees]
 refine Calls.callWith_builtin rfl (Calls.evalArgs_plain (Calls.spliced_cons (thn (he pins s1 σ H1 _ I1 q1) fun iv s2 ⟨y,H2,I2,ry,ov,g,q2⟩=>Calls.spliced_nil ?_)))
 exact d_get1 hu I2 g ry fun w' s3 I3 rw'=>⟨_,H2,I3,rw',q2⟩
theorem pe_dget2 (hu:X.A.units+1<cLine)(ho:PE X o td)(he:PE X e ty)(hf:PE X f tx)(m:M2 X o "get" apos e f cpos):PE X (.Call (.Attribute o "get" apos) [e,f] [] cpos) (tDGet2 td ty tx):=by
 intro pins s σ H Q I h
 refine wpAny_Call_method m.base m.few m.line PySem.F.plainAttrs_dict PySem.F.slot_dict_get PySem.F.type_dict_get (thn (ho pins s σ H _ I h) fun u s1 ⟨x,H1,I1,rx,a,ex,d,q1⟩=>?_)
 subst ex
 obtain rfl:u=Value.ref a:=rx
 obtain⟨t1,t2,_⟩:=isD_at I1 d
 refine⟨t1,t2,?_⟩
 rw[m.trees]
 refine Calls.callWith_builtin rfl (Calls.evalArgs_plain (Calls.spliced_cons (thn (he pins s1 σ H1 _ I1 q1) fun iv s2 ⟨y,H2,I2,ry,q2⟩=>
  Calls.spliced_cons (thn (hf pins s2 σ H2 _ I2 q2) fun fv s3 ⟨z,H3,I3,rz,ov,g,q3⟩=>Calls.spliced_nil ?_))))
 exact d_get2 hu I3 g ry rz fun w' s4 I4 rw'=>⟨_,H3,I4,rw',q3⟩
end
section
variable {X:Cx}{pins:List (Addr×Obj)}{σ:St}{H:Hp}{s:Shared}{a:Addr}{kvs:List (Key×V)}{A:Around}{E:Value→Shared→Prop}
theorem d_copyOf {Q:Value→Shared→Prop}(I:Inv X pins σ H s)(e:Rd H a (.dK kvs))(h:∀p s',H p=none→Inv X pins σ (upd H p (.dK kvs)) s'→Q (.ref p) s'):wpAny (model X.prog X.w) A (call (.type "dict") [.ref a]) Q E s:=by
 obtain⟨z,hd,vs,rel,dd⟩:=dk_rd I.hok e
 refine kt_call_dict hd dd (by rw[←rel.length];exact z) fun h' dd' hs=>?_
 refine h _ _ (I.hok.fresh (Nat.le_refl _)) (I.laid (a:=s.heap.objs.size) (o:=.dK kvs) (t':=s.toks) (fun b q hq=>?_) (Nat.le_refl _) (dk_new z (beq_eq_false_iff_ne.mpr (Ne.symm (Nat.ne_of_lt I.big))) rel dd'))
 exact(hs.2 b (Nat.ne_of_lt (Heap.lt_size hq))).trans (Heap.get?_push_of_some _ hq)
end
section
variable {X:Cx}{pins:List (Addr×Obj)}{σ:St}{H:Hp}{s:Shared}{a:Addr}{y:V}{u:Value}{A:Around}{E:Value→Shared→Prop}
end
section
variable {X:Cx}
end
section
variable {κ:Type}[DecidableEq κ]
end
section
variable {X:Cx}
structure PPsx (X:Cx)(pos:Pos)(keys:List (Option Expr))(values:List Expr)(trs:List (TE×TE)):Prop where
 h:PPs X pos keys values trs
theorem xp_nil {pos:Pos}:PPsx X pos [] [] []:=⟨pps_nil⟩
theorem xp_cons {pos p:Pos}{z:Str}{j}{v:Expr}{ks:List (Option Expr)}{vs:List Expr}{tv:TE}{trs:List (TE×TE)}(hv:PEx X v tv)(hr:PPsx X pos ks vs trs):PPsx X pos (some (.Constant (.str z) j p)::ks) (v::vs) ((tC (.str z),tv)::trs):=⟨pps_cons pe_str hv.h hr.h⟩
theorem x_disp {pos:Pos}{keys:List (Option Expr)}{values:List Expr}{trs:List (TE×TE)}(h:PPsx X pos keys values trs)(hall:keys.all (·.isSome)=true)(hl:keys.length=values.length)(h0:keys≠[])(h15:keys.length≤15):PEx X (.Dict keys values pos) (tDisp trs):=⟨pe_disp h.h hall hl h0 h15⟩
theorem swaps_dict {ks:List (Option Expr)}{vs:List Expr}{x:Str}{p p':Pos}{l}{env:Env}:swapsWith (.Dict ks vs p) (some (.Name x p')) l env=pure false:=rfl
theorem x_op {a b:Expr}{op:Operator}{pos:Pos}{ta tb:TE}{r:R2}(ho:OpR X (binaryOp op) r)(ha:PEx X a ta)(hb:PEx X b tb):PEx X (.BinOp a op b pos) (tOp r ta tb):=⟨pe_op ho ha.h hb.h⟩
theorem swaps_lst {es:List Expr}{x:Str}{p p':Pos}{l}{env:Env}:swapsWith (.List es p) (some (.Name x p')) l env=pure false:=rfl
theorem x_ix {a b:Expr}{pos:Pos}{ta tb:TE}{r:R2}(hr:IxR X r)(ha:PEx X a ta)(hb:PEx X b tb)(hs:PlainIx b):PEx X (.Subscript a b pos) (tOp r ta tb):=⟨pe_ix hr ha.h hb.h hs⟩
theorem swaps_sub {a b:Expr}{x:Str}{p p':Pos}{l}{env:Env}:swapsWith (.Subscript a b p) (some (.Name x p')) l env=pure false:=rfl
end
section
variable {K:PySem.W.Frag}{i:Nat}{w z:Str}{t u e:TS}{D:Ends}{σ:St}{H:Hp}{a:Addr}{xs:List V}
abbrev tgR (K:PySem.W.Frag)(i:Nat)(w:Str):TT:=tTest (tOp rEq (tOp (rIxT K) (tVar i) (tC (.int 0))) (tC (.str w)))
theorem tag_el (h0:σ[i]?=some (some (.ref a)))(ha:H a=some (.tup (.str z::xs)))(ne:z≠w)(q:e D σ H):tIfS (tgR K i w) t e D σ H :=
 ⟨_,h0,a,_,0,_,rfl,rfl,SqT.of ha,atI_nat (j:=0) rfl,rfl,_,rfl,ite2 (fun c=>absurd (V.str.inj (of_decide_eq_true c)) ne) (fun _=>q)⟩
theorem tag_no (h0:σ[i]?=some (some (.ref a)))(ha:H a=some (.tup (.str z::xs)))(ne:z≠w)(q:u D σ H):tSeq (tIfS (tgR K i w) t tNext) u D σ H:=tag_el (e:=tNext) h0 ha ne q
theorem ix_t {j:Nat}{v:V}{Q:VK}(h0:σ[i]?=some (some (.ref a)))(ha:H a=some (.tup xs))(hj:xs[j]?=some v)(q:Q v H):tOp (rIxT K) (tVar i) (tC (.int (j:Int))) σ H Q:=⟨_,h0,a,_,_,_,rfl,rfl,SqT.of ha,atI_nat (j:=j) hj,q⟩
theorem dg_at {key:Str}{kvs:List (Key×V)}{v:V}{Q:VK}(h0:σ[i]?=some (some (.ref a)))(h:H a=some (.dK kvs))(g:valV kvs (Sum.inr key)=some v)(q:Q v H):tDGet (tVar i) (tC (.str key)) σ H Q:=⟨_,h0,a,_,rfl, .inl ⟨kvs,Sum.inr key,(by first|exact h|exact .inl h),rfl,g.symm⟩,q⟩
end
section
variable {X:Cx}
theorem ixT (K:PySem.W.Frag)(h:X.K=K:=by rfl):IxR X (rIxT K):=h ▸ ix_tup
theorem ixL (K:PySem.W.Frag)(h:X.K=K:=by rfl):IxR X (rIxL K):=h ▸ ix_list
theorem clen (K:PySem.W.Frag)(h:X.K=K:=by rfl):CallR X (.builtin "len") (r_call_len_seq K):=h ▸ call_len_seq
theorem piL (K:PySem.W.Frag){tg l:Expr}{tl:TE}(hl:PE X l tl)(h:X.K=K:=by rfl):PI X tg l (iList K tl):=h ▸ pi_list hl
theorem piT (K:PySem.W.Frag){tg l:Expr}{tl:TE}(hl:PE X l tl)(h:X.K=K:=by rfl):PI X tg l (iTup K tl):=h ▸ pi_tup hl
theorem fldK (K:PySem.W.Frag){e:Expr}{f:Str}{pos:Pos}{ta:TE}(he:PE X e ta)(hb:attributeBase e f X.env (eval e X.env)=eval e X.env)(h:X.K=K:=by rfl):PE X (.Attribute e f pos) (tFld K ta f):=h ▸ pe_fld he hb
theorem sfldK (K:PySem.W.Frag){o value:Expr}{f:Str}{pos pos':Pos}{ta tv:TE}(ha:PE X o ta)(hv:PE X value tv)(hs:swapsWith value (some (.Attribute o f pos')) pos.line X.env=pure false)(h:X.K=K:=by rfl):PS X (.Assign [.Attribute o f pos'] value pos) (sFld K ta tv f):=h ▸ ps_fld ha hv hs
theorem pgT (K:PySem.W.Frag){es:List Expr}{k:Nat}{t:TGs}{n:Nat}{pos:Pos}(hc:X.calm=true)(hq:PGs X es t)(hn:(assignEach es X.env).length=n:=by rfl)(hst:(assignEach es X.env).findIdx? (·.1)=none:=by rfl)(h:X.K=K:=by rfl):PG X (.Tuple es k pos) (gTup K n t):=h ▸ pg_tup hc hq hn hst
theorem ctup (K:PySem.W.Frag)(h:X.K=K:=by rfl):CallR X (.type "tuple") (r_call_tuple_of K):=h ▸ call_tuple_of
theorem papp (K:PySem.W.Frag){o e:Expr}{es:List Expr}{apos cpos:Pos}{to:TE}{t:TA}(ho:PE X o to)(ha:PA X (e::es) t)(hbase:attributeBase o "append" X.env (eval o X.env)=eval o X.env:=by rfl)
  (hfew:((backTo cpos (starEach (e::es) X.env)).all (fun x=>!x.1)&&(backToKw cpos (keywordEach [] X.env)).all (fun x=>x.1.isSome)&&decide ((e::es).length+([]:List Keyword).length+(if([]:List Keyword).isEmpty then 0 else 1)<30))=true:=by rfl)
  (hline:(apos.endLine==cpos.line)=true:=by rfl) (hs:starEach (e::es) X.env=(false,eval e X.env)::starEach es X.env:=by rfl) (hplain:(backTo cpos (starEach es X.env)).any (·.1)=false:=by rfl) (h:X.K=K:=by rfl):
  PE X (.Call (.Attribute o "append" apos) (e::es) [] cpos) (tBM K "list" rAppend to t):=h ▸ pe_bm PySem.F.plainAttrs_list PySem.F.slot_list_append PySem.F.type_list_append mt_append ho ha hbase hfew hline hs hplain
theorem ppop (K:PySem.W.Frag){o:Expr}{apos cpos:Pos}{to:TE}(ho:PE X o to)(hbase:attributeBase o "pop" X.env (eval o X.env)=eval o X.env:=by rfl)(hline:(apos.endLine==cpos.line)=true:=by rfl)(h:X.K=K:=by rfl):
  PE X (.Call (.Attribute o "pop" apos) [] [] cpos) (tBM0 K "list" rPop to):=h ▸ pe_bm0 PySem.F.plainAttrs_list PySem.F.slot_list_pop PySem.F.type_list_pop mt_pop ho hbase hline
theorem pset (i:Nat){x:Str}{e:Expr}{te:TE}{pos pos':Pos}(hN:X.N.Nodup)(he:PE X e te)(hi:X.N[i]?=some x:=by rfl)(hx:Loc X.env.scope x:=by exact Or.inl rfl)(hs:swapsWith e (some (.Name x pos')) pos.line X.env=pure false:=by rfl)(hf:X.fn x=true∨X.env.scope.names.lookup x=some .local:=by first|exact .inl rfl|exact .inr rfl):
  PS X (.Assign [.Name x pos'] e pos) (tAsg te (gName i)):=ps_set hN hi hx he hs hf
end
theorem ps_lcompM {X:Cx}{elt iter tg:Expr}{M:List Str}{g gy:TG}{y:Str}{py pos pos0:Pos}{ifs:List Expr}{scope:Scope}{frees:List Str}{idx:List Nat}{wi:TI}{tt:TT}{te:TE}
  (hc:X.calm=true) (S:CompScopeM X frees idx scope) (hfl:∀y∈frees,scope.names.lookup y=some .free) (hi:PI X tg iter wi) (hgy:PG X (.Name y py) gy) (hg:∀C s₀ H₀ ex,PG (cxComp X (M++frees) scope C s₀ H₀ ex) tg g)
  (ht:∀C s₀ H₀ ex,PTs (cxComp X (M++frees) scope C s₀ H₀ ex) ifs tt) (he:∀C s₀ H₀ ex,PE (cxComp X (M++frees) scope C s₀ H₀ ex) elt te)
  (hsw:swapsWith (.ListComp elt [⟨tg,iter,ifs,0⟩] scope pos) (some (.Name y py)) pos0.line X.env=pure true)
  (hs:∀v,foldedSetIterable iter X.env v=pure v:=by intro _;rfl):PS X (.Assign [.Name y py] (.ListComp elt [⟨tg,iter,ifs,0⟩] scope pos) pos0) (tAsg (tCompM M.length idx wi g tt te) gy):=by
 intro pins s σ H D I h
 rw[exec_Assign_Name_used _ _ _ _ hsw]
 refine wpAny_bind (wpAny_standAt ?_)
 refine wpAny_bind ?_
 show wpAny _ _ (comprehension (.ListComp elt [⟨tg,iter,ifs,0⟩] scope pos) scope X.env _ (newList []) _ _ (some (assign (.Name y py) X.env))>>=fun _=>pure ()) _ _ s
 refine wpAny_bind (wpAny_mono (Q:=fun _ s'=>∃σ' H',Inv X pins σ' H' s'∧D.nx σ' H') ?_ (fun _ s' h'=>wpAny_pure (wpAny_pure h')) fun _ _ h'=>h')
 refine comp_core (M:=M) (g:=g) (XE:=noX) (use:=some (assign (.Name y py) X.env)) (Q':=fun _ s'=>∃σ' H',Inv X pins σ' H' s'∧D.nx σ' H') (qt:=Calm) (fun _ _ _ _=>hc) S hfl hi (fun C s₀ H₀ ex=>by rw[cxE_no];exact hg C s₀ H₀ ex) (fun C s₀ H₀ ex=>by rw[cxE_no];exact ht C s₀ H₀ ex) (fun C s₀ H₀ ex=>by rw[cxE_no];exact he C s₀ H₀ ex) hs I h (fun _ _ _ _ _ _ _ _ _ _ _ (z:False)=>z.elim) fun Dd C H' m4 s4 hn4 hJ HC nC nfC szC celC pinC q=>?_
 show wpAny _ _ (assign (.Name y py) X.env (.ref Dd)) _ _ s4
 have I5:=hJ s4.heap ⟨rfl,fun _ _=>rfl⟩
 obtain⟨oC,es,ep,gC,rC⟩:=id hn4
 have IPn:Inv X (pins++[(C,oC)]) σ H' s4:=I5.pins_of fun p hp=>(List.mem_append.mp hp).elim (fun z=>I5.pin p (List.mem_append_right _ z)) fun z=>by
  have z':p=(C,oC):=by simpa using z
  subst z'
  exact⟨gC,HC,nC,nfC,fun v q=>by have q2:oC.data=.cell v:=q;have q3:=rC.1;rw[q2]at q3;cases q3⟩
 refine thn (hgy _ s4 σ _ (.ref Dd) _ _ IPn rfl q) fun _ s6 ⟨σ6,H6,I6,q6⟩=>?_
 have pC:=I6.pin (C,oC) (List.mem_append_right _ (List.mem_append_right _ (List.mem_singleton.mpr rfl)))
 exact⟨m4,hn4.at' (fun o e=>by rw[gC]at e;cases e;exact pC.1),fun h'' sb=>⟨σ6,H6,I6.unpinned.turned (t':=s6.toks) (fun b o hb e=>(sb.2 b hb).trans e) pC.2.1 nC (.inr szC) celC pinC,q6⟩⟩
theorem ps_lcomp {X:Cx}{elt iter:Expr}{x y:Str}{px py pos pos0:Pos}{ifs:List Expr}{scope:Scope}{frees:List Str}{idx:List Nat}{wi:TI}{tt:TT}{te:TE}{g:TG}
  (hc:X.calm=true) (S:CompScope X x frees idx scope) (hfl:∀y∈frees,scope.names.lookup y=some .free) (hi:PI X (.Name x px) iter wi) (hgy:PG X (.Name y py) g)
  (ht:∀C s₀ H₀ ex,PTs (cxComp X (x::frees) scope C s₀ H₀ ex) ifs tt) (he:∀C s₀ H₀ ex,PE (cxComp X (x::frees) scope C s₀ H₀ ex) elt te)
  (hsw:swapsWith (.ListComp elt [⟨.Name x px,iter,ifs,0⟩] scope pos) (some (.Name y py)) pos0.line X.env=pure true)
  (hs:∀v,foldedSetIterable iter X.env v=pure v:=by intro _;rfl):PS X (.Assign [.Name y py] (.ListComp elt [⟨.Name x px,iter,ifs,0⟩] scope pos) pos0) (tAsg (tComp idx wi tt te) g):=by
 have h:=ps_lcompM (M:=[x]) (g:=gName 0) hc ⟨S.kind,S.nocell,S.loc,S.fr,S.ix,S.len,S.cl⟩ hfl hi hgy (fun C s₀ H₀ ex=>pg_name (i:=0) S.nd rfl (.inl (lookup_relabel_local S.tgt)) (.inr (lookup_relabel_local S.tgt))) ht he hsw hs
 exact tComp_M ▸ h
theorem ps_lc {X:Cx}{elt iter:Expr}{x y:Str}{px py pos pos0:Pos}{ifs:List Expr}{scope:Scope}{wi:TI}{tt:TT}{te:TE}{g:TG}(osc:Scope)(N:List Str)(frees:List Str)(idx:List Nat)
  (hk:compOk osc N x frees idx scope=true) (hi:PI X (.Name x px) iter wi) (hgy:PG X (.Name y py) g)
  (ht:∀C s₀ H₀ ex,PTs (cxComp X (x::frees) scope C s₀ H₀ ex) ifs tt) (he:∀C s₀ H₀ ex,PE (cxComp X (x::frees) scope C s₀ H₀ ex) elt te)
  (hsw:swapsWith (.ListComp elt [⟨.Name x px,iter,ifs,0⟩] scope pos) (some (.Name y py)) pos0.line X.env=pure true)
  (ho:X.env.scope=osc:=by rfl) (hN:X.N=N:=by rfl) (hc:X.calm=true:=by rfl) (hs:∀v,foldedSetIterable iter X.env v=pure v:=by intro _;rfl):
  PS X (.Assign [.Name y py] (.ListComp elt [⟨.Name x px,iter,ifs,0⟩] scope pos) pos0) (tAsg (tComp idx wi tt te) g):=by
 obtain⟨S,fl⟩:=compOk_scope (X:=X) hk ho hN
 exact ps_lcomp hc S fl hi hgy ht he hsw hs
end L2
namespace PySem
open PyProof.Rows
namespace F
end F
section
variable {prog:Program}{w:World}{A:Around}{E:Value→Shared→Prop}{s:Shared}
end
end PySem
namespace PySem
open PyProof.Rows
section
variable {prog:Program}{w:World}{A:Around}{E:Value→Shared→Prop}{s:Shared}
end
section
variable {prog:Program}{w:World}{A:Around}{s:Shared}{R:Result→Shared→Prop}
end
section
variable {prog:Program}{w:World}{A:Around}{E:Value→Shared→Prop}{s:Shared}
end
end PySem
namespace L2
open PySem PySem.Spec PyProof.Rows
section
variable {X:Cx}
theorem boot_rev:bootBuiltins "reversed"=some (.type "reversed"):=PyProof.Rows.boot_reversed
theorem Vals.of_get:∀{xs:List V} {us:List Value},xs.length=us.length→(∀(i:Nat) (x:V) (u:Value),xs[i]?=some x→us[i]?=some u→RelV x u)→Vals xs us
 |[],[],_,_=>.nil
 |[],_::_,h,_=>by simp at h
 |_::_,[],h,_=>by simp at h
 |x::xs,u::us,h,g=>.cons (g 0 x u rfl rfl) (Vals.of_get (by simpa using h) fun i a b e f=>g (i+1) a b (by simpa using e) (by simpa using f))
end
open PySem PySem.Spec PyProof.Rows PySem.W
theorem mix_rel {P:Program}{w:World}{k:Key}{v:Value}(h:(mixKind P w).is k v=true):RelV (kV k) v:=by
 cases k with
 |inl i=>exact⟨_,(Value.isInt_shape h).choose_spec⟩
 |inr z=>exact⟨_,(Value.isStrOf_shape h).choose_spec⟩
inductive r_call_list_d (xs:List V)(H:Hp)(Q:VK):Prop where
 |mk (a) (kvs):(xs=[V.ref a])→(H a=some (.dK kvs))→(∀l,H l=none→Q (.ref l) (upd H l (.lst (kvs.map fun kv=>kV kv.1))))→r_call_list_d xs H Q
end L2
namespace Fw
open PySem PySem.Spec PyProof.Rows L2
def top (i:Nat):Stmt:=PySem.Challenge.pw_facework_k61_calls_counted.main.body.getD i (.Pass ⟨0,0,0,0⟩)
def G60:Int:=10^60
theorem G60_lt:G60<2^200:=by unfold G60;decide
theorem bits_lt {i:Int}(h1: -(2^200)<i)(h2:i<2^200):Builtin.Int.intBits i≤2^20:=by
 have hb:Builtin.Int.intBits i≤200:=by
  unfold Builtin.Int.intBits
  by_cases h0:i=0
  ·subst h0;decide
  ·have hz:(i==0)=false:=by simpa using h0
   rw[hz]
   have hn:i.natAbs≠0:=by omega
   have:=(Nat.log2_lt hn (k:=200)).mpr (by omega)
   show i.natAbs.log2+1≤200
   exact this
 exact Nat.le_trans hb (by decide)
theorem mul_ok {i j:Int}(h1: -G60<i)(h2:i<G60)(h3: -G60<j)(h4:j<G60):IntMulOk i j:=by
 have:=G60_lt
 exact IntMulOk.of_bits (bits_lt (by omega) (by omega)) (bits_lt (by omega) (by omega))
end Fw
namespace L2
open PySem PySem.Spec PyProof.Rows
theorem op_mulG {X:Cx}:OpR X (binaryOp .Mult) (rI (fun i j=>IntMulOk i j) fun i j=>.int (i*j)):=opI fun _ _ _ _ _ _ _ hc q=>mul_int q hc
end L2
namespace Fw
open PySem PySem.Spec PyProof.Rows L2
structure IsC (K:PySem.W.Frag)(C:Addr):Prop where
 i1:PySem.W.findIn K (.ref C) "__class__"=some (some (.builtin "object.__class__"))
 i2:PySem.W.specialIn K (.builtin "object.__class__") "__get__"=some (some (.builtin "getset_descriptor.__get__"))
 i3:PySem.W.takesIn K (.builtin "object.__class__")=some true
 i4:PySem.W.mroIn K C (.type "object")=some true
 i5:PySem.W.kitOne K (.ref C) (.ref C)=some true
 i6:PySem.W.kitOne K (.ref C) (.type "int")=some false
 i7:PySem.W.kitOne K (.ref C) (.type "tuple")=some false
 i8:PySem.W.kitOne K (.type "int") (.ref C)=some false
 i9:PySem.W.kitOne K (.type "tuple") (.ref C)=some false
inductive NoNum (CL:Addr)(H:Hp):V→Prop where
 |tup {r:Addr} {xs:List V}:H r=some (.tup xs)→NoNum CL H (.ref r)
 |ins {r dx:Addr} {fs:List (Str×V)}:H r=some (.ins CL dx fs)→NoNum CL H (.ref r)
inductive NoBlk (CL:Addr)(H:Hp):V→Prop where
 |int (i:Int):NoBlk CL H (.int i)
 |ins {r dx:Addr} {fs:List (Str×V)}:H r=some (.ins CL dx fs)→NoBlk CL H (.ref r)
inductive NoFn (H:Hp):V→Prop where
 |int (i:Int):NoFn H (.int i)
 |tup {r:Addr} {xs:List V}:H r=some (.tup xs)→NoFn H (.ref r)
theorem NoNum.kp {CL:Addr}{H H':Hp}{v:V}(h:NoNum CL H v)(k:∀r o,v=.ref r→H r=some o→H' r=some o):NoNum CL H' v:=by
 cases h with
 |tup h=>exact .tup (k _ _ rfl h)
 |ins h=>exact .ins (k _ _ rfl h)
theorem kit_int (K:PySem.W.Frag):PySem.W.kitOne K (.type "int") (.type "int")=some true:=by first|rfl|kernel_rfl
theorem kit_bool (K:PySem.W.Frag):PySem.W.kitOne K (.type "int") (.type "bool")=some false:=by first|rfl|kernel_rfl
theorem kit_ti (K:PySem.W.Frag):PySem.W.kitOne K (.type "tuple") (.type "int")=some false:=by first|rfl|kernel_rfl
theorem NoNum.ty {K:PySem.W.Frag}{CL:Addr}{H:Hp}{v:V}(IC:IsC K CL)(cl:Cls K CL)(h:NoNum CL H v):∃t,TyOf K H v t∧PySem.W.kitOne K t (.type "int")=some false:=by
 cases h with
 |tup h=>exact⟨_, .tup h,kit_ti K⟩
 |ins h=>exact⟨_, .ins h cl IC.i1 IC.i2 IC.i3 IC.i4,IC.i6⟩
theorem NoFn.ty {K:PySem.W.Frag}{CL:Addr}{H:Hp}{v:V}(IC:IsC K CL)(h:NoFn H v):∃t,TyOf K H v t∧PySem.W.kitOne K t (.ref CL)=some false:=by
 cases h with
 |int i=>exact⟨_, .int i,IC.i8⟩
 |tup h=>exact⟨_, .tup h,IC.i9⟩
def HasX (P:Program)(w:World)(K:PySem.W.Frag)(mg:Str→Option Value)(base:Heap)(k:Nat)(x:Str)(ps:List Str)(sp:Sp):Prop :=
 ∃f fd,FnOk P w K mg base (CXF P w) k f fd ps sp∧Binds K fd ps []∧PySem.W.keepIn K (.ref f)=true∧mg x=some (.ref f)
inductive spWhole (CL:Addr)(vs:List V)(H:Hp)(Q:VK)(E_:XK):Prop where
 |mk (i:Int):vs=[.int i]→Q (.bl true) H→spWhole CL vs H Q E_
 |no (v:V):vs=[v]→NoNum CL H v→Q (.bl false) H→spWhole CL vs H Q E_
inductive spNum (CL CS:Addr)(vs:List V)(H:Hp)(Q:VK)(E:XK):Prop where
 |mk (i:Int):vs=[.int i]→(∀H',Same H H'→Q (.int i) H')→spNum CL CS vs H Q E
 |no (v:V):vs=[v]→NoNum CL H v→(∀ea H',Same H H'→E (.ref CS) (some ea) H')→spNum CL CS vs H Q E
def rk (w:Nat)(i j:Int):Int:=match w with
 |0=>i+j
 |1=>i-j
 |2=>i*j
 |_=>if i<j then 1 else 0
def In60 (i:Int):Prop:=-G60<i∧i<G60
inductive spRk (w:Nat)(vs:List V)(H:Hp)(Q:VK)(E_:XK):Prop where
 |mk (i j:Int):vs=[.int i, .int j]→In60 i→In60 j→Q (.int (rk w i j)) H→spRk w vs H Q E_
section
variable {P:Program}{w:World}{K:PySem.W.Frag}{mg:Str→Option Value}{base:Heap}{f:Addr}{fd:FuncData}
theorem boot_bool':bootBuiltins "bool"=some (.type "bool"):=by decide+kernel
abbrev s_whole:Stmt:=top 24
theorem sc_whole:FnScope ["thing"] ["thing"] (defScope s_whole):=⟨rfl,rfl,rfl,by decide+kernel,rfl,by decide+kernel,by decide+kernel⟩
theorem ok_whole {CL:Addr}(F:Fun K "is_whole" "is_whole" s_whole f fd)(IC:IsC K CL)(cl:Cls K CL)(mi:mg "isinstance"=none)(mI:mg "int"=none)(mB:mg "bool"=none):FnOk P w K mg base CX0 1 f fd ["thing"] (spWhole CL):=by
 refine F.ok sc_whole (fun cdv A outer s H vs Q E hr h=>?_) (by rintro _ _ _ _ ⟨⟩<;>subst_vars<;>rfl)
 refine⟨_,pss_one (ps_ret (pe_and (pe_callB call_isi rfl mi boot_isinstance (pa_cons (pv 0) (pa_cons (pe_bltn (v:=.ty "int") rfl mI boot_int rfl) pa_nil))) (pe_one (pe_not (pe_callB call_isi rfl mi boot_isinstance (pa_cons (pv 0) (pa_cons (pe_bltn (v:=.ty "bool") rfl mB boot_bool' rfl) pa_nil))))))),?_⟩
 rcases h with ⟨i,rfl,q⟩|⟨v,rfl,hn,q⟩
 ·refine⟨_,rfl,_,_,_,_,rfl, .int i,kit_int K,_,rfl,iteT ?_⟩
  exact⟨_,rfl,_,_,_,_,rfl, .int i,kit_bool K,_,rfl,q⟩
 ·obtain⟨t,ty,e⟩:=hn.ty IC cl
  exact⟨_,rfl,_,_,_,_,rfl,ty,e,_,rfl,iteF q⟩
abbrev s_num:Stmt:=top 34
theorem sc_num:FnScope ["value"] ["value"] (defScope s_num):=⟨rfl,rfl,rfl,by decide+kernel,rfl,by decide+kernel,by decide+kernel⟩
theorem ok_num {CL CS:Addr}{bm:List Value}{newId B initId:String}(F:Fun K "number_of" "number_of" s_num f fd)(O:OwnCls "Stuck" CS bm newId mg base)(FB:ExcBaseFacts B newId initId bm)(h1:Has P w K mg base 1 "is_whole" ["thing"] (spWhole CL)):FnOk P w K mg base (CXF P w) 2 f fd ["value"] (spNum CL CS):=by
 refine F.okX sc_num (fun cdv A outer s H vs Q E hr h=>?_) (by rintro _ _ _ _ ⟨⟩<;>subst_vars<;>rfl)
 refine⟨_,pss_cons (ps_if (pt_not (pt_val (pcall h1 hr (by decide) rfl (pa_cons (pv 0) pa_nil)))) (pss_one (ps_raise O FB rfl (pa_cons pe_str pa_nil))) pss_nil) (pss_one (ps_ret (pv 0))),?_⟩
 rcases h with ⟨i,rfl,q⟩|⟨v,rfl,hn,q⟩
 ·exact⟨_,rfl, .mk i rfl ⟨true,rfl,iteF ⟨_,rfl,q H (Same.refl _)⟩⟩⟩
 ·exact⟨_,rfl, .no v rfl hn ⟨false,rfl,iteT ⟨sml 1,fun ea _=>q ea H (Same.refl _)⟩⟩⟩
abbrev s_rk (n:Nat):Stmt:=top (29+n)
theorem sc_rk0:FnScope ["one","other"] ["one","other"] (defScope (s_rk 0)):=⟨rfl,rfl,rfl,by decide+kernel,rfl,by decide+kernel,by decide+kernel⟩
theorem sc_rk1:FnScope ["one","other"] ["one","other"] (defScope (s_rk 1)):=⟨rfl,rfl,rfl,by decide+kernel,rfl,by decide+kernel,by decide+kernel⟩
theorem sc_rk2:FnScope ["one","other"] ["one","other"] (defScope (s_rk 2)):=⟨rfl,rfl,rfl,by decide+kernel,rfl,by decide+kernel,by decide+kernel⟩
theorem sc_rk3:FnScope ["one","other"] ["one","other"] (defScope (s_rk 3)):=⟨rfl,rfl,rfl,by decide+kernel,rfl,by decide+kernel,by decide+kernel⟩
theorem rk_len {n:Nat}:∀vs H Q E,spRk n vs H Q E→vs.length=(["one","other"]:List Str).length:=fun vs H Q E h=>by
 obtain⟨i,j,rfl,_⟩:=h
 rfl
theorem ok_rk0 (F:Fun K "sum_of" "sum_of" (s_rk 0) f fd):FnOk P w K mg base CX0 1 f fd ["one","other"] (spRk 0):=by
 refine F.ok sc_rk0 (fun cdv A outer s H vs Q E hr h=>?_) rk_len
 obtain⟨i,j,rfl,_,_,q⟩:=h
 exact⟨_,pss_one (ps_ret (pe_op op_add (pv 0) (pv 1))),_,rfl,_,rfl,i,j,rfl,rfl,q⟩
theorem ok_rk1 (F:Fun K "difference_of" "difference_of" (s_rk 1) f fd):FnOk P w K mg base CX0 1 f fd ["one","other"] (spRk 1):=by
 refine F.ok sc_rk1 (fun cdv A outer s H vs Q E hr h=>?_) rk_len
 obtain⟨i,j,rfl,_,_,q⟩:=h
 exact⟨_,pss_one (ps_ret (pe_op op_sub (pv 0) (pv 1))),_,rfl,_,rfl,i,j,rfl,rfl,q⟩
theorem ok_rk2 (F:Fun K "product_of" "product_of" (s_rk 2) f fd):FnOk P w K mg base CX0 1 f fd ["one","other"] (spRk 2):=by
 refine F.ok sc_rk2 (fun cdv A outer s H vs Q E hr h=>?_) rk_len
 obtain⟨i,j,rfl,h1,h2,q⟩:=h
 exact⟨_,pss_one (ps_ret (pe_op op_mulG (pv 0) (pv 1))),_,rfl,_,rfl,i,j,rfl,rfl,mul_ok h1.1 h1.2 h2.1 h2.2,q⟩
theorem ok_rk3 (F:Fun K "is_less" "is_less" (s_rk 3) f fd):FnOk P w K mg base CX0 1 f fd ["one","other"] (spRk 3):=by
 refine F.ok sc_rk3 (fun cdv A outer s H vs Q E hr h=>?_) rk_len
 obtain⟨i,j,rfl,_,_,q⟩:=h
 refine⟨_,pss_one (ps_ret (pe_ifExp (pt_cmpR op_lt (pv 0) (pv 1)) pe_int pe_int)),_,rfl,_,rfl,i,j,rfl,rfl,_,rfl,ite2 (fun c=>?_) (fun c=>?_)⟩
 ·have c1:i<j:=of_decide_eq_true c
  show Q (.int 1) H
  have e:rk 3 i j=1:=if_pos c1
  rw[e]at q
  exact q
 ·have c1:¬i<j:=fun z=>c (decide_eq_true z)
  show Q (.int 0) H
  have e:rk 3 i j=0:=if_neg c1
  rw[e]at q
  exact q
end
def wordOf:Nat→Str
 |0=>"plus"
 |1=>"minus"
 |2=>"times"
 |_=>"less"
def rkL (fr:Nat→Addr):List (Str×V):=[("plus", .ref (fr 0)),("minus", .ref (fr 1)),("times", .ref (fr 2)),("less", .ref (fr 3))]
theorem rk_words:("minus":Str)≠"plus"∧("times":Str)≠"plus"∧("times":Str)≠"minus"∧("less":Str)≠"plus"∧("less":Str)≠"minus"∧("less":Str)≠"times":=by decide+kernel
theorem rk_look (fr:Nat→Addr):∀k,k≤3→(rkL fr).lookup (wordOf k)=some (.ref (fr k))
 |0,_=>by first|rfl|(unfold rkL wordOf;simp[List.lookup_cons])
 |1,_=>by
  have h:=rk_words
  have b:∀{x y:Str},x≠y→(x==y)=false:=fun n=>by simpa using n
  show(rkL fr).lookup ("minus":Str)=_
  unfold rkL
  simp only[List.lookup_cons,b h.1,beq_self_eq_true]
 |2,_=>by
  have h:=rk_words
  have b:∀{x y:Str},x≠y→(x==y)=false:=fun n=>by simpa using n
  show(rkL fr).lookup ("times":Str)=_
  unfold rkL
  simp only[List.lookup_cons,b h.2.1,b h.2.2.1,beq_self_eq_true]
 |3,_=>by
  have h:=rk_words
  have b:∀{x y:Str},x≠y→(x==y)=false:=fun n=>by simpa using n
  show(rkL fr).lookup ("less":Str)=_
  unfold rkL
  simp only[List.lookup_cons,b h.2.2.2.1,b h.2.2.2.2.1,b h.2.2.2.2.2,beq_self_eq_true]
 |n+4,h=>by omega
inductive spReck (CL CS CT:Addr)(vs:List V)(H:Hp)(Q:VK)(E:XK):Prop where
 |mk (k:Nat) (i j:Int):vs=[.str (wordOf k), .int i, .int j]→k≤3→In60 i→In60 j→(In60 (rk k i j)→∀H',Same H H'→Q (.int (rk k i j)) H')→(¬In60 (rk k i j)→∀ea H',Same H H'→E (.ref CT) (some ea) H')→spReck CL CS CT vs H Q E
 |no (k:Nat) (v u:V):vs=[.str (wordOf k),v,u]→k≤3→(NoNum CL H v∨(∃i,v=.int i)∧NoNum CL H u)→(∀ea H',Same H H'→E (.ref CS) (some ea) H')→spReck CL CS CT vs H Q E
theorem abs_in (n:Int):(G60≤if n<0 then -n else n)↔¬In60 n:=by
 unfold In60
 split<;>omega
section
variable {P:Program}{w:World}{K:PySem.W.Frag}{mg:Str→Option Value}{base:Heap}{f:Addr}{fd:FuncData}
abbrev s_reck:Stmt:=top 35
theorem sc_reck:FnScope ["word","one","other","number"] ["word","one","other"] (defScope s_reck):=⟨rfl,rfl,rfl,by decide+kernel,rfl,by decide+kernel,by decide+kernel⟩
theorem boot_abs':bootBuiltins "abs"=some (.builtin "abs"):=by decide+kernel
set_option maxHeartbeats 1000000 in
theorem ok_reck {CL CS CT dr:Addr}{fr:Nat→Addr}{bm:List Value}{newId B initId:String}(F:Fun K "reckoned" "reckoned" s_reck f fd)(O:OwnCls "TooGreat" CT bm newId mg base)(FB:ExcBaseFacts B newId initId bm)(ma:mg "abs"=none)(hR:mg "RECKONINGS"=some (.ref dr))(D:StrDict K w dr (rkL fr))
  (hF:∀n,n≤3→∃fd,FnOk P w K mg base CX0 1 (fr n) fd ["one","other"] (spRk n)∧PySem.W.keepIn K (.ref (fr n))=true∧Binds K fd ["one","other"] []) (h1:HasX P w K mg base 2 "number_of" ["value"] (spNum CL CS)):
  FnOk P w K mg base (CXF P w) 3 f fd ["word","one","other"] (spReck CL CS CT):=by
 refine F.okX sc_reck (fun cdv A outer s H vs Q E hr h=>?_) (by rintro _ _ _ _ ⟨⟩<;>subst_vars<;>rfl)
 obtain⟨fN,gN,GN,bN,kN,mN⟩:=h1
 refine⟨_,pss_cons (pset 3 sc_reck.nd (pe_callE (E:=E0) (fun f sp=>∃n,n≤3∧f=fr n∧sp=spRk n) (fun f sp ⟨n,hn,e1,e2⟩=>by
    obtain⟨fd',G,kp,b⟩:=hF n hn
    rw[e1,e2]
    exact⟨1,fd',_,G,hr.mono (by decide),kp,b⟩) (pe_ix ix_dict (pe_glob (v:=.ref dr) rfl hR rfl) (pv 0)) pass0
   (pa_cons (pe_call GN (hr.mono (by decide)) rfl mN kN bN .nil passes_up (pa_cons (pv 1) pa_nil)) (pa_cons (pe_call GN (hr.mono (by decide)) rfl mN kN bN .nil passes_up (pa_cons (pv 2) pa_nil)) pa_nil))))
  (pss_cons (ps_if (pt_cmpR op_ge (pe_callB call_abs rfl ma boot_abs' (pa_cons (pv 3) pa_nil)) (pe_op op_pow pe_int pe_int)) (pss_one (ps_raise O FB rfl (pa_cons pe_str pa_nil))) pss_nil)
  (pss_one (ps_ret (pv 3)))),?_⟩
 rcases h with ⟨k,i,j,rfl,hk,hi,hj,q1,q2⟩|⟨k,v,u,rfl,hk,hn,q⟩
 ·refine⟨_,rfl,wordOf k,dr,_, .ref (fr k),rfl,rfl,D,rk_look fr k hk,fr k,spRk k,rfl,⟨k,hk,rfl,rfl⟩,_,rfl, .mk i rfl fun H1 s1=>⟨_,rfl, .mk j rfl fun H2 s2=>⟨i,j,rfl,hi,hj,?_⟩⟩⟩
  have s12:=s1.trans s2
  refine⟨_,rfl,_,rfl,10,60,rfl,rfl,⟨by decide,by decide,by decide⟩,_,_,rfl,rfl,_,rfl,ite2 (fun c=>?_) (fun c=>?_)⟩
  ·have c1:G60≤if rk k i j<0 then -(rk k i j) else rk k i j:=of_decide_eq_true c
   exact⟨(sml 1),fun ea _=>q2 ((abs_in _).mp c1) ea H2 s12⟩
  ·have c1:¬(G60≤if rk k i j<0 then -(rk k i j) else rk k i j):=fun z=>c (decide_eq_true z)
   have c2:In60 (rk k i j):=by
    by_cases z:In60 (rk k i j)
    ·exact z
    ·exact absurd ((abs_in _).mpr z) c1
   exact⟨_,rfl,q1 c2 H2 s12⟩
 ·refine⟨_,rfl,wordOf k,dr,_, .ref (fr k),rfl,rfl,D,rk_look fr k hk,fr k,spRk k,rfl,⟨k,hk,rfl,rfl⟩,_,rfl,?_⟩
  rcases hn with hn|⟨⟨i,rfl⟩,hn⟩
  ·exact .no v rfl hn q
  ·exact .mk i rfl fun H1 s1=>⟨_,rfl, .no u rfl (hn.kp fun r o _ h=>s1 r o h) fun ea H2 s2=>q ea H2 (s1.trans s2)⟩
end
end Fw
namespace PySem
open PyProof.Rows
namespace F
theorem slot_lri_hint:Slot "list_reverseiterator" "__length_hint__" "list_reverseiterator.__length_hint__" :=
 .of (owner:="list_reverseiterator") (n:="__length_hint__") (by rw[typeLookup_type,builtinLookup_eq_fast];kernel_rfl) (by decide+kernel) (by decide+kernel) (by decide+kernel)
  (by first|exact .inl (by decide+kernel)|exact .inr (by decide+kernel)) (by rw[isSubtype_type];kernel_rfl)
theorem nolen_lri:typeLookup (.type "list_reverseiterator") "__len__"=pure none:=by rw[typeLookup_type,builtinLookup_eq_fast];kernel_rfl
end F
section
variable {prog:Program}{w:World}{A:Around}{s:Shared}{R:Result→Shared→Prop}
theorem wpAny_extend_lri (hh:A.handled=none)(S I l:Addr)(res:Value)(c₀:Nat){xs:Array Value}(hn:xs.size≤sizeLine)(hlI:l≠I)(hSI:S≠I)(hSl:S≠l)(hit:s.heap.IsRevIter I l ((xs.size:Int)-1))(hl:s.heap.IsList l xs)
  (hS:s.heap.get? S=some {cls:=.type "list",data:=.seq #[] c₀})
  (hR:∀s' acc' c',Moved [S,I] (fun a b=>a=b) s s'→s'.heap.get? S=some {cls:=.type "list",dict:=none,data:=.seq acc' c',slots:=#[]}→ItemsOf (fun i v=>xs[xs.size-1-i]?=some v) acc' xs.size→R (.ok (.ret res)) s'):
  wpAny (model prog w) A.in1 (Builtin.List.listExtendWith (.ref S) (.ref I) res)
   (fun fin s'=>match fin with|.done f=>R (.ok f) s'|.again c'=>c'.quiet=true∧codeAny (model prog w) A c' R s') (fun e s'=>R (.error e) s') s:=by
 have l63:=L2.line63
 have hz:(xs.size:Int)<2^63:=by omega
 have W:=(Walks.listRev (prog:=prog) (w:=w) (A:=A.in1) hh I l hlI xs).toS
 have hSf:S∉[I,l]:=by simp[hSI,hSl]
 unfold Builtin.List.listExtendWith
 refine wpAny_bind (wpAny_typeOf hit.typeIs ?_)
 have h1:Builtin.List.listSameRef (.ref S) (.ref I)=false:=by simp[Builtin.List.listSameRef,hSI]
 have h2:(Value.type "list_reverseiterator"==Value.type "list")=false:=by decide
 have h3:(Value.type "list_reverseiterator"==Value.type "tuple")=false:=by decide
 simp only[h1,h2,h3,Bool.or_false,Bool.false_eq_true,if_false]
 refine wpAny_bind (wpAny_pyIter_revIter hit ?_)
 refine wpAny_bind (wpAny_holding ?_)
 unfold Builtin.List.listLengthHint
 refine wpAny_bind (wpAny_specialOf hit.typeIs F.nolen_lri ?_)
 show wpAny _ A.in1 (specialOf (Value.ref I) (Str.ofString "__length_hint__")>>=_) _ _ _
 refine wpAny_bind (wpAny_specialOf hit.typeIs F.slot_lri_hint.lookup ?_)
 (generalize hid:("list_reverseiterator.__length_hint__":String)=id0;(fail_if_success (clear hid id0));wp_delta;rw[show splitId id0=some ("list_reverseiterator","__length_hint__") from by subst hid;decide+kernel];subst hid)
 refine wpAny_bind (wpAny_isInstance (b:=true) hit.typeIs (by rw[isSubtype_type];kernel_rfl) ?_)
 rw[if_neg (by decide)]
 dsimp only
 rw[if_pos (by decide+kernel),if_neg (by decide+kernel)]
 refine wpAny_pure ?_
 have key:∀(h':Heap) (c₁:Nat),h'.get? S=some {cls:=.type "list",data:=.seq #[] c₁}→(∀b o,b≠S→s.heap.get? b=some o→h'.get? b=some o)→
   codeAny (model prog w) A (.builtin "list.extend.loop" ⟨[.ref S, .ref I,res],[]⟩) R {s with heap:=h'}:=fun h' c₁ hS' kp=>by
  have st:(fun(i:Nat) (s:Shared)=>i≤xs.size∧s.heap.IsRevIter I l ((xs.size:Int)-1-(i:Int))∧s.heap.IsList l xs) 0 {s with heap:=h'}:=by
   refine⟨Nat.zero_le _,?_,?_⟩
   ·have e:(xs.size:Int)-1-((0:Nat):Int)=(xs.size:Int)-1:=by omega
    show Heap.IsRevIter h' I l ((xs.size:Int)-1-((0:Nat):Int))
    rw[e]
    exact hit.at fun o e=>kp I _ (Ne.symm hSI) e
   ·exact hl.at fun o e=>kp l _ (Ne.symm hSl) e
  refine codeAny_extend_loopS W hn S hSf res xs.size 0 _ #[] c₁ rfl (Nat.zero_le _) st hS' (ItemsOf.nil _) fun s' acc' c' hm hS'' hacc=>?_
  exact hR s' acc' c' ⟨fun b o hb e=>hm.heap b o hb (kp b o (fun z=>hb (by simp[z])) e),hm.gens.symm,hm.drawn,hm.os,hm.toks⟩ hS'' hacc
 split
 ·refine wpAny_bind (wpAny_rule ?_)
  refine wpAny_bind ?_
  show wpAny _ A.in1 (updateSeq S (·.push .none)>>=fun _=>updateSeq S (·.pop)) _ _ _
  clear l63 hz hn
  refine wpAny_bind (wpAny_updateSeq hS rfl ?_)
  have hS₂:=Heap.get?_update_self (Obj.mapSeq (·.push Value.none)) hS rfl
  refine wpAny_updateSeq (hz:=by seq_fits) hS₂ rfl ?_
  have hS₃:=Heap.get?_update_self (Obj.mapSeq (·.pop)) hS₂ rfl
  exact wpAny_pure ⟨plainId_quiet F.plain_extend_loop _,key _ _ hS₃ fun b o hb e=>(Heap.get?_update_other _ _ (Ne.symm hb)).trans ((Heap.get?_update_other _ _ (Ne.symm hb)).trans e)⟩
 ·exact wpAny_pure ⟨plainId_quiet F.plain_extend_loop _,key _ _ hS fun b o _ e=>e⟩
end
section
variable {prog:Program}{w:World}{A:Around}{E:Value→Shared→Prop}{s:Shared}
theorem wpAny_collect_lri {Q:List Value→Shared→Prop}(hh:A.handled=none)(I l:Addr){xs:Array Value}(hn:xs.size≤sizeLine)(hlI:l≠I)(hit:s.heap.IsRevIter I l ((xs.size:Int)-1))(hl:s.heap.IsList l xs)
  (hQ:∀s' acc,s.heap.objs.size<s'.heap.objs.size→Moved [s.heap.objs.size,I] (fun a b=>a=b) s s'→ItemsOf (fun i v=>xs[xs.size-1-i]?=some v) acc xs.size→Q acc.toList s'):wpAny (model prog w) A (collect (.ref I)) Q E s:=by
 have hSI:s.heap.objs.size≠I:=fun e=>by
  obtain⟨o,ho,_⟩:=hit
  have:=Heap.lt_size ho
  rw[←e]at this
  exact Nat.lt_irrefl _ this
 have hSl:s.heap.objs.size≠l:=fun e=>by
  obtain⟨o,ho,_⟩:=hl
  have:=Heap.lt_size ho
  rw[←e]at this
  exact Nat.lt_irrefl _ this
 unfold collect
 refine wpAny_bind (wpAny_runValue ?_)
 generalize hR:(fun r s'=>_:Result→Shared→Prop)=R
 refine codeAny_builtin F.entry_proto_collect ?_
 rw[Around.under_plainId F.plain_proto_collect _]
 show wpAny _ A.in1 (newList []>>=fun l=>again (.builtin "list.__iadd__" ⟨[l, .ref I],[]⟩)) _ _ s
 refine wpAny_bind (wpAny_newObj_type ?_)
 refine wpAny_pure ⟨plainId_quiet F.plain_list_iadd _,codeAny_builtin F.entry_list_iadd ?_⟩
 rw[Around.under_plainId F.plain_list_iadd _]
 show wpAny _ A.in1 (Builtin.List.listExtendWith (.ref s.heap.objs.size) (.ref I) (.ref s.heap.objs.size)) _ _ _
 refine wpAny_extend_lri (A:=A) (s:={s with heap:=s.heap.push {cls:=.type "list",data:=.seq ([]:List Value).toArray}}) hh s.heap.objs.size I l (.ref s.heap.objs.size) _ hn hlI hSI hSl (hit.at fun o e=>Heap.get?_push_of_some _ e) (hl.at fun o e=>Heap.get?_push_of_some _ e) (Heap.get?_push_size _ rfl) fun s' acc' c' hm hS' hacc=>?_
 subst hR
 show wpAny _ A (load s.heap.objs.size>>=_) _ _ s'
 refine wpAny_bind (wpAny_load hS' ?_)
 exact wpAny_pure (hQ s' acc' (Heap.lt_size hS') ⟨fun b o hb e=>hm.heap b o hb (Heap.get?_push_of_some _ e),hm.gens,hm.drawn,hm.os,hm.toks⟩ hacc)
theorem code_tuple_new_lri {Q₁:Value→Shared→Prop}(hh:A.handled=none)(I l:Addr){xs:Array Value}(hn:xs.size≤sizeLine)(hlI:l≠I)(hit:s.heap.IsRevIter I l ((xs.size:Int)-1))(hl:s.heap.IsList l xs)
  (h:∀s' acc,s.heap.objs.size<s'.heap.objs.size→Moved [s.heap.objs.size,I] (fun a b=>a=b) s s'→ItemsOf (fun i v=>xs[xs.size-1-i]?=some v) acc xs.size→Q₁ (.ref s'.heap.objs.size) {s' with heap:=s'.heap.push {cls:=.type "tuple",data:=.seq acc}}):
  codeAny (model prog w) A (.call (.builtin "tuple.__new__") ⟨[.type "tuple", .ref I],[]⟩) (wants Q₁ E) s:=by
 refine codeAny_of_tree ?_
 show wpAny _ A.in1 (do checkBuiltinCall "tuple.__new__" ⟨[.type "tuple", .ref I],[]⟩;again (.builtin "tuple.__new__" ⟨[.type "tuple", .ref I],[]⟩)) _ _ s
 refine wpAny_bind (wpAny_of_eq (F.newCall_tuple_1 _) (wpAny_pure ⟨plainId_quiet F.plain_tuple_new _,codeAny_builtin F.entry_tuple_new ?_⟩))
 rw[Around.under_plainId F.plain_tuple_new _]
 have hsub:=sub_tuple_self
 have hinit:=init_tuple_lookup
 have hmh:=madeHere_tuple
 have hTI:=hit.typeIs
 wp_walk using wpAny_typeOf hTI,wpAny_collect_lri (A:=A.in1) hh I l hn hlI hit hl
 intro s' acc hlt hm hacc
 show wpAny _ _ (Builtin.Tuple.tupleExact acc.toList.toArray>>=fun v=>ret v) _ _ _
 unfold Builtin.Tuple.tupleExact
 refine wpAny_bind (wpAny_newObj_type ?_ (by show acc.toList.toArray.size≤sizeLine;simp only[Array.toArray_toList];rw[hacc.1];exact hn))
 refine wpAny_pure ?_
 have e:acc.toList.toArray=acc:=by simp
 rw[e]
 exact h s' acc hlt hm hacc
theorem call_tuple_lri {Q:Value→Shared→Prop}(hh:A.handled=none)(I l:Addr){xs:Array Value}(hn:xs.size≤sizeLine)(hlI:l≠I)(hit:s.heap.IsRevIter I l ((xs.size:Int)-1))(hl:s.heap.IsList l xs)
  (hQ:∀s' acc,s.heap.objs.size<s'.heap.objs.size→Moved [s.heap.objs.size,I] (fun a b=>a=b) s s'→ItemsOf (fun i v=>xs[xs.size-1-i]?=some v) acc xs.size→Q (.ref s'.heap.objs.size) {s' with heap:=s'.heap.push {cls:=.type "tuple",data:=.seq acc}}):
  wpAny (model prog w) A (call (.type "tuple") [.ref I]) Q E s:=by
 refine callType_codes (Q₁:=fun obj s₁=>s₁.TypeIs obj "tuple"∧Q obj s₁) F.called_tuple (F.typeCall_tuple_1 _) F.entry_object_init
  (code_tuple_new_lri (A:=A.in1) hh I l hn hlI hit hl fun s' acc hlt hm hacc=>⟨⟨_,Heap.get?_push_size _ rfl,rfl⟩,hQ s' acc hlt hm hacc⟩) fun obj s₁ h₁=>?_
 exact⟨h₁.1,F.args_object_init_2 obj _,object_init_meets F.called_tuple.init.lookup F.called_tuple.made (by decide) prog w A.in1 _ s₁ ⟨h₁.1,rfl,h₁.2⟩⟩
end
end PySem
namespace L2
open PySem PySem.Spec PyProof.Rows
section
variable {X:Cx}
def tTupRev (K:PySem.W.Frag)(te:TE):TE:=fun σ H Q=>te σ H fun x H1=>∃a xs,x=.ref a∧SqL K H1 a xs∧∀l,H1 l=none→Q (.ref l) (upd H1 l (.tup xs.reverse))
theorem pe_tupRev {e:Expr}{te:TE}{p pos p2 pos2:Pos}(hc:X.calm=true)(hgl:Gl X "tuple")(hml:X.mg "tuple"=none)(hgr:Gl X "reversed")(hmr:X.mg "reversed"=none)(he:PE X e te)
  (hs1:starEach [Expr.Call (.Name "reversed" p2) [e] [] pos2] X.env=[(false,eval (Expr.Call (.Name "reversed" p2) [e] [] pos2) X.env)]:=by rfl) (hs2:starEach [e] X.env=[(false,eval e X.env)]:=by rfl):
  PE X (.Call (.Name "tuple" p) [.Call (.Name "reversed" p2) [e] [] pos2] [] pos) (tTupRev X.K te):=by
 intro pins s σ H Q I h
 refine wpAny_Call_Name_kw (ld_blt I hgl hml PyProof.Rows.boot_tuple ?_ (by decide) (by decide))
 refine PyProof.Rows.callWith_type1 ?_ hs1 rfl
 rw[hs1]
 refine Calls.spliced_cons ?_
 refine wpAny_Call_Name_kw (ld_blt I hgr hmr boot_rev ?_ (by decide) (by decide))
 refine PyProof.Rows.callWith_type1 ?_ hs2 rfl
 rw[hs2]
 refine Calls.spliced_cons (thn (he pins s σ H _ I h) fun u s1 ⟨x,H1,I1,r1,q1⟩=>?_)
 refine Calls.spliced_nil ?_
 obtain⟨a,xs,rfl,hq,q⟩:=q1
 cases r1
 obtain⟨its,rv,pt,hz⟩:=I1.list hq
 have hlen:=rv.length
 have h63:=line63
 refine call_reversed_list pt.isList ?_
 refine Calls.spliced_nil ?_
 have ha:a<s1.heap.objs.size:=by obtain⟨o,ho,_⟩:=pt.isList;exact Heap.lt_size ho
 have hl:Heap.IsList (s1.heap.push (revObj a ((its.toArray.size:Int)-1))) a its.toArray:=pt.isList.at fun o e=>Heap.get?_push_of_some _ e
 refine call_tuple_lri (s:={s1 with heap:=s1.heap.push (revObj a ((its.toArray.size:Int)-1))}) (I1.ok.hd hc) s1.heap.objs.size a (xs:=its.toArray) (by simp;omega) (Nat.ne_of_lt ha) ⟨_,Heap.get?_push_size _ rfl,rfl,rfl⟩ hl fun s' acc hlt hm hacc=>?_
 obtain⟨h',g',d',t',o'⟩:=s'
 have eg:s1.gens=g':=hm.gens
 have ed:d'=s1.drawn:=hm.drawn
 have eo:o'=s1.os:=hm.os
 subst eg ed eo
 have sz:(s1.heap.push (revObj a (((its.toArray).size:Int)-1))).objs.size=s1.heap.objs.size+1:=Heap.size_push ..
 have hlt':s1.heap.objs.size+1<h'.objs.size:=by rw[←sz];exact hlt
 have kp:∀b o,s1.heap.get? b=some o→(h'.push {cls:=.type "tuple",data:=.seq acc}).get? b=some o:=fun b o e=>by
  have hb:=Heap.lt_size e
  refine Heap.get?_push_of_some _ (hm.heap b o ?_ (Heap.get?_push_of_some _ e))
  simp only[List.mem_cons,List.not_mem_nil,or_false,not_or]
  exact⟨Nat.ne_of_lt (Nat.lt_of_lt_of_le hb (Nat.le_of_lt (by rw[sz];exact Nat.lt_succ_self _))),Nat.ne_of_lt hb⟩
 have va:Vals xs.reverse acc.toList:=by
  refine Vals.of_get (by rw[List.length_reverse,hlen];have:=hacc.1;simp at this;simp[this]) fun i x u e f=>?_
  have hi:i<xs.length:=by have:=(List.getElem?_eq_some_iff.mp e).1;simpa using this
  rw[List.getElem?_reverse hi]at e
  have f':acc[i]?=some u:=by simpa using f
  have g:=hacc.2 i u f'
  have g':its[xs.length-1-i]?=some u:=by
   have:its.toArray[its.toArray.size-1-i]?=some u:=g
   simp only[List.size_toArray,List.getElem?_toArray]at this
   rw[hlen];exact this
  obtain⟨u',hu',ru⟩:=rv.get e
  rw[g']at hu'
  cases hu'
  exact ru
 have ea:acc.toList.toArray=acc:=by simp
 have hle:s1.heap.objs.size≤h'.objs.size:=Nat.le_of_lt (Nat.lt_trans (Nat.lt_succ_self _) hlt')
 have hz':xs.reverse.length≤sizeLine:=by simpa using hz
 refine⟨.ref _,_,I1.laid (t':=t') kp (a:=h'.objs.size) hle (show ObjOk X.prog X.w _ _ _ (.tup xs.reverse) from⟨hz',acc.toList,va,_,Heap.get?_push_size _ rfl,rfl,?_⟩),rfl,q _ (I1.hok.fresh hle)⟩
 exact⟨_,by rw[ea]⟩
end
end L2
namespace Fw
open PySem PySem.Spec PyProof.Rows L2
def Kp1 (pl:Addr)(H H':Hp):Prop:=∀b o,b≠pl→H b=some o→H' b=some o
inductive spTaken (vs:List V)(H:Hp)(Q:VK)(E_:XK):Prop where
 |mk (pl:Addr) (p a:List V) (n:Nat):vs=[.ref pl, .int (n:Int)]→H pl=some (.lst (p++a))→a.length=n→n≤100→(∀t H',H t=none→H' t=some (.tup a)→H' pl=some (.lst p)→Kp1 pl H H'→Q (.ref t) H')→spTaken vs H Q E_
section
variable {P:Program}{w:World}{K:PySem.W.Frag}{mg:Str→Option Value}{base:Heap}{f:Addr}{fd:FuncData}{CM CF CC:Addr}
abbrev s_taken:Stmt:=top 36
abbrev nT:List Str:=["pile","count","told"]
theorem sc_taken:FnScope nT ["pile","count"] (defScope s_taken):=⟨rfl,rfl,rfl,by decide+kernel,rfl,by decide+kernel,by decide+kernel⟩
theorem take_rev {a:List V}{i:Nat}(hi:i<a.length):∃v,(a.take (a.length-i)).getLast?=some v∧(a.take (a.length-i)).dropLast=a.take (a.length-(i+1))∧a.reverse.take i++[v]=a.reverse.take (i+1):=by
 have h1:a.length-1-i<a.length:=by omega
 refine⟨a[a.length-1-i],?_,?_,?_⟩
 ·rw[List.getLast?_eq_getElem?,List.length_take,List.getElem?_take]
  have e:min (a.length-i) a.length-1=a.length-1-i:=by rw[Nat.min_eq_left (Nat.sub_le _ _)];exact Nat.sub_right_comm _ _ _
  rw[e,if_pos (by omega)]
  exact List.getElem?_eq_getElem h1
 ·rw[List.dropLast_eq_take,List.length_take,List.take_take,Nat.min_eq_left (Nat.sub_le _ _),Nat.min_eq_left (Nat.sub_le _ _),Nat.sub_sub]
 ·rw[List.take_add_one,List.getElem?_reverse hi,List.getElem?_eq_getElem h1]
  rfl
theorem ok_taken (F:Fun K "taken_off" "taken_off" s_taken f fd)(mt:mg "tuple"=none)(mr:mg "reversed"=none)(mg':mg "range"=none):FnOk P w K mg base CX0 1 f fd ["pile","count"] spTaken:=by
 refine F.ok sc_taken (fun cdv A outer s H vs Q E hr h=>?_)
 obtain⟨pl,p,a,n,rfl,hp,la,ln,q⟩:=h
 subst la
 have hz:=sizeLine_eq
 refine⟨_,pss_cons (ps_lc (defScope s_taken) nT ["pile"] [0] (by decide+kernel) (pi_range1 rfl mg' (pa_cons (pv 1) pa_nil)) (pg_name (i:=2) sc_taken.nd rfl (Or.inl rfl)) (fun C s₀ H₀ ex=>pts_nil)
   (fun C s₀ H₀ ex=>ppop K (pv 1)) (by with_unfolding_all rfl))
  (pss_one (ps_ret (pe_tupRev rfl rfl mt rfl mr (pv 2)))),?_⟩
 refine⟨_,rfl,(a.length:Int),rfl,by omega,by omega,?_⟩
 rw[Int.toNat_natCast]
 refine comp_range (n:=a.length) (fun i vs H'=>vs=a.reverse.take i∧H' pl=some (.lst (p++a.take (a.length-i)))∧Kp1 pl H H'∧(∀b,b≠pl→H' b=H b)) ⟨rfl,?_,fun b o _ h=>h,fun _ _=>rfl⟩ ?_ ?_ ?_
 ·rw[Nat.sub_zero,List.take_length]
  exact hp
 ·rintro i vs H' hi ⟨rfl,_⟩
  rw[List.length_take,List.length_reverse]
  omega
 ·rintro i vs H' hi ⟨rfl,hp',kp,ke⟩
  obtain⟨v,e1,e2,e3⟩:=take_rev hi
  refine⟨_,rfl, .inl ⟨rfl,_,SqL.of hp'⟩,pl,_,v,rfl,rfl,hp',?_,nx hi ⟨e3,?_,fun b o nb hb=>?_,fun b nb=>?_⟩⟩
  ·rw[←List.getLast?_eq_getElem?,List.getLast?_append,e1]
   rfl
  ·have ne:a.take (a.length-i)≠[]:=fun z=>by rw[z]at e1;cases e1
   rw[upd_same,List.dropLast_append_of_ne_nil ne,e2]
  ·rw[upd_ne nb]
   exact kp b o nb hb
  ·rw[upd_ne nb]
   exact ke b nb
 ·rintro vs H' ⟨rfl,hp',kp,ke⟩ l hl
  have lpl:l≠pl:=fun z=>by rw[z,hp']at hl;cases hl
  rw[Nat.sub_self,List.take_zero,List.append_nil]at hp'
  have e1:a.reverse.take a.length=a.reverse:=List.take_of_length_le (by rw[List.length_reverse];exact Nat.le_refl _)
  rw[e1]
  refine⟨_,rfl,l,a.reverse,rfl,SqL.of upd_same,fun t ht=>?_⟩
  rw[List.reverse_reverse]
  have tl:t≠l:=fun z=>by rw[z,upd_same]at ht;cases ht
  rw[upd_ne tl]at ht
  have tpl:t≠pl:=fun z=>by rw[z,hp']at ht;cases ht
  refine q t _ (by rw[←ke t tpl];exact ht) upd_same (by rw[upd_ne (Ne.symm tpl),upd_ne (Ne.symm lpl)];exact hp') fun b o nb hb=>?_
  have h1:=kp b o nb hb
  rw[upd_ne (fun z=>by rw[z,ht]at h1;cases h1),upd_ne (fun z=>by rw[z,hl]at h1;cases h1)]
  exact h1
end
inductive Ph where
 |num (i:Int)
 |nm (x:Str)
 |fn (x:Str) (b:Ph)
 |call (a b:Ph)
 |op (k:Nat) (a b:Ph)
abbrev En:=List (Str×Int)
def lkI:En→Str→Option Int
 |[],_=>none
 |(x,i)::r,y=>if y=x then some i else lkI r y
inductive Vl where
 |num (i:Int)
 |fn (x:Str) (b:Ph) (e:En)
inductive Ot where
 |stuck|great|long|deep
inductive Rs where
 |val (i:Int)|out (o:Ot)
def gt60 (i:Int):Bool:=!(decide (-G60<i)&&decide (i<G60))
theorem gt60_iff {i:Int}:gt60 i=true↔¬In60 i:=by
 unfold gt60 In60
 by_cases a: -G60<i<;>by_cases b:i<G60<;>simp[a,b]
def reckI (k:Nat)(i j:Int):Rs:=if gt60 (rk k i j)=true then .out .great else .val (rk k i j)
def ev (most:Int):Nat→Ph→En→Nat→Nat→Option (Rs×Nat)
 |0,_,_,_,_=>none
 |_+1, .num i,_,c,_=>some (.val i,c)
 |_+1, .nm x,e,c,_=>match lkI e x with
  |some i=>some (.val i,c)
  |none=>none
 |_+1, .fn _ _,_,_,_=>none
 |m+1, .op k a b,e,c,u=>match ev most m a e c u with
  |some (.val i,c1)=>match ev most m b e c1 u with
   |some (.val j,c2)=>some (reckI k i j,c2)
   |r=>r
  |r=>r
 |m+2, .call (.fn x body) b,e,c,u=>match ev most (m+1) b e c u with
  |some (.val j,c2)=>if ¬e.length≤900 then none else if(c2:Int)+1>most then some (.out .long,c2) else if u+1>10 then some (.out .deep,c2) else ev most m body ((x,j)::e) (c2+1) (u+1)
  |r=>r
 |_, .call _ _,_,_,_=>none
inductive S6 where
 |w (p:Ph) (e:En)
 |fE (x:Str) (b:Ph) (e:En)
 |c
 |bk
 |n (k:Nat)
inductive T6 where
 |go (S:List S6) (P:List Vl) (c u:Nat)|out (o:Ot)|bad
def step6 (most:Int):S6→List S6→List Vl→Nat→Nat→T6
 |.w (.num i) _,S,P,c,u=>.go S (.num i::P) c u
 |.w (.nm x) e,S,P,c,u=>match lkI e x with
  |some i=>.go S (.num i::P) c u
  |none=>.bad
 |.w (.fn x b) e,S,P,c,u=>.go (.fE x b e::S) P c u
 |.w (.call a b) e,S,P,c,u=>.go (.w a e::.w b e::.c::S) P c u
 |.w (.op k a b) e,S,P,c,u=>.go (.w a e::.w b e::.n k::S) P c u
 |.fE x b e,S,P,c,u=>.go S (.fn x b e::P) c u
 |.c,S, .num j::.fn x body e'::P,c,u=>if ¬e'.length≤900 then .bad else if(c:Int)+1>most then .out .long else if u+1>10 then .out .deep else .go (.w body ((x,j)::e')::.bk::S) P (c+1) (u+1)
 |.bk,S,P,c,u+1=>.go S P c u
 |.n k,S, .num j::.num i::P,c,u=>match reckI k i j with
  |.val w=>.go S (.num w::P) c u
  |.out o=>.out o
 |_,_,_,_,_=>.bad
inductive F6 where
 |done (P:List Vl) (c u:Nat)|out (o:Ot)
def run6 (L:Nat)(most:Int):Nat→List S6→List Vl→Nat→Nat→Option F6
 |_,[],P,c,u=>some (.done P c u)
 |0,_::_,_,_,_=>none
 |n+1,s::S,P,c,u=>if S.length+4≤L∧P.length+4≤L then(match step6 most s S P c u with
  |.go S' P' c' u'=>run6 L most n S' P' c' u'
  |.out o=>some (.out o)
  |.bad=>none) else none
def Ld (f g:Nat→Option F6):Prop:=∃k,∀n,f (n+k)=g n
theorem Ld.trans {f g h:Nat→Option F6}(a:Ld f g)(b:Ld g h):Ld f h:=by
 obtain⟨k1,h1⟩:=a
 obtain⟨k2,h2⟩:=b
 exact⟨k2+k1,fun n=>by rw[←Nat.add_assoc,h1,h2]⟩
section
variable {L:Nat}{most:Int}
theorem ld_go {s:S6}{S S':List S6}{P P':List Vl}{c c' u u':Nat}(h:step6 most s S P c u=.go S' P' c' u')(a:S.length+4≤L)(b:P.length+4≤L):Ld (fun n=>run6 L most n (s::S) P c u) (fun n=>run6 L most n S' P' c' u') :=
 ⟨1,fun n=>by show(if S.length+4≤L∧P.length+4≤L then _ else _)=_;rw[if_pos ⟨a,b⟩,h]⟩
theorem ld_out {s:S6}{S:List S6}{P:List Vl}{c u:Nat}{o:Ot}(h:step6 most s S P c u=.out o)(a:S.length+4≤L)(b:P.length+4≤L):Ld (fun n=>run6 L most n (s::S) P c u) (fun _=>some (.out o)) :=
 ⟨1,fun n=>by show(if S.length+4≤L∧P.length+4≤L then _ else _)=_;rw[if_pos ⟨a,b⟩,h]⟩
def fin6 (L:Nat)(most:Int)(S:List S6)(P:List Vl)(c' u:Nat):Rs→Nat→Option F6
 |.val i=>fun n=>run6 L most n S (.num i::P) c' u
 |.out o=>fun _=>some (.out o)
theorem run_ph (m:Nat):∀(p:Ph) (e:En) (c u:Nat) (r:Rs) (c':Nat) (S:List S6) (P:List Vl),ev most m p e c u=some (r,c')→S.length+3*m+4≤L→P.length+2*m+4≤L→Ld (fun n=>run6 L most n (.w p e::S) P c u) (fin6 L most S P c' u r):=by
 induction m using Nat.strongRecOn with
 |ind m ih=>
 intro p e c u r c' S P h hS hP
 cases m with
 |zero=>unfold ev at h;cases h
 |succ m=>
 have a0:S.length+4≤L:=by omega
 have b0:P.length+4≤L:=by omega
 cases p with
 |num i=>unfold ev at h;cases h;exact ld_go rfl a0 b0
 |nm x=>
  unfold ev at h
  cases hx:lkI e x with
  |none=>rw[hx]at h;cases h
  |some w=>rw[hx]at h;cases h;exact ld_go (by simp only[step6,hx]) a0 b0
 |fn x b=>unfold ev at h;cases h
 |op k a b=>
  unfold ev at h
  refine(ld_go rfl a0 b0).trans ?_
  cases ha:ev most m a e c u with
  |none=>rw[ha]at h;cases h
  |some rc=>
   obtain⟨r1,c1⟩:=rc
   have l1:=ih m (by omega) a e c u r1 c1 (.w b e::.n k::S) P ha (by simp;omega) (by omega)
   refine l1.trans ?_
   rw[ha]at h
   cases r1 with
   |out o=>cases h;exact⟨0,fun n=>rfl⟩
   |val v=>
    dsimp only at h
    cases hb:ev most m b e c1 u with
    |none=>rw[hb]at h;cases h
    |some rc2=>
     obtain⟨r2,c2⟩:=rc2
     have l2:=ih m (by omega) b e c1 u r2 c2 (.n k::S) (.num v::P) hb (by simp;omega) (by simp;omega)
     refine l2.trans ?_
     rw[hb]at h
     cases r2 with
     |out o=>cases h;exact⟨0,fun n=>rfl⟩
     |val w=>
      cases h
      cases hr:reckI k v w with
      |val z=>exact ld_go (by simp only[step6,hr]) a0 (by simp;omega)
      |out o=>exact ld_out (by simp only[step6,hr]) a0 (by simp;omega)
 |call a b=>
  cases a with
  |num i=>unfold ev at h;cases h
  |nm x=>unfold ev at h;cases h
  |call a1 a2=>unfold ev at h;cases h
  |op k a1 a2=>unfold ev at h;cases h
  |fn x body=>
  cases m with
  |zero=>unfold ev at h;cases h
  |succ m=>
   unfold ev at h
   refine(ld_go rfl a0 b0).trans ((ld_go rfl (by simp;omega) b0).trans ((ld_go rfl (by simp;omega) b0).trans ?_))
   cases hb:ev most (m+1) b e c u with
   |none=>rw[hb]at h;cases h
   |some rc2=>
    obtain⟨r2,c2⟩:=rc2
    have l2:=ih (m+1) (by omega) b e c u r2 c2 (.c::S) (.fn x body e::P) hb (by simp;omega) (by simp;omega)
    refine l2.trans ?_
    rw[hb]at h
    cases r2 with
    |out o=>cases h;exact⟨0,fun n=>rfl⟩
    |val w=>
     dsimp only at h
     by_cases zl:¬e.length≤900
     ·rw[if_pos zl]at h;cases h
     rw[if_neg zl]at h
     by_cases z1:(c2:Int)+1>most
     ·rw[if_pos z1]at h;cases h;exact ld_out (by simp only[step6];rw[if_neg zl,if_pos z1]) a0 (by simp;omega)
     ·rw[if_neg z1]at h
      by_cases z2:u+1>10
      ·rw[if_pos z2]at h;cases h;exact ld_out (by simp only[step6];rw[if_neg zl,if_neg z1,if_pos z2]) a0 (by simp;omega)
      ·rw[if_neg z2]at h
       refine(ld_go (by simp only[step6];rw[if_neg zl,if_neg z1,if_neg z2]) a0 (by simp;omega)).trans ?_
       have l3:=ih m (by omega) body ((x,w)::e) (c2+1) (u+1) r c' (.bk::S) P h (by simp;omega) (by omega)
       refine l3.trans ?_
       cases r with
       |out o=>exact⟨0,fun n=>rfl⟩
       |val z=>exact ld_go rfl a0 (by simp;omega)
def endF:Rs→Nat→F6
 |.val w,c=>.done [.num w] c 0
 |.out o,_=>.out o
theorem run_all6 {m c:Nat}{p:Ph}{e:En}{r:Rs}{c':Nat}(h:ev most m p e c 0=some (r,c')):∃n,run6 (3*m+8) most n [.w p e] [] c 0=some (endF r c'):=by
 obtain⟨k,hk⟩:=run_ph (L:=3*m+8) (most:=most) m p e c 0 r c' [] [] h (by show 0+3*m+4≤_;omega) (by show 0+2*m+4≤_;omega)
 refine⟨0+k,?_⟩
 have:=hk 0
 dsimp only at this
 rw[this]
 cases r<;>rfl
end
inductive Cp:List Str→Nat→Ph→Prop where
 |num {g:List Str} {n:Nat} {i:Int}:Cp g (n+1) (.num i)
 |nm {g:List Str} {n:Nat} {x:Str}:x∈g→Cp g (n+1) (.nm x)
 |op {g:List Str} {n k:Nat} {a b:Ph}:Cp g n a→Cp g n b→Cp g (n+1) (.op k a b)
 |call {g:List Str} {n:Nat} {x:Str} {b a:Ph}:Cp (x::g) n b→Cp g (n+1) a→Cp g (n+2) (.call (.fn x b) a)
theorem Cp.mono {g:List Str}{n:Nat}{p:Ph}(h:Cp g n p):∀{n':Nat},n≤n'→Cp g n' p:=by
 induction h with
 |num=>intro n' l;obtain⟨k,rfl⟩:∃k,n'=k+1:=⟨n'-1,by omega⟩;exact .num
 |nm m=>intro n' l;obtain⟨k,rfl⟩:∃k,n'=k+1:=⟨n'-1,by omega⟩;exact .nm m
 |op _ _ i1 i2=>intro n' l;obtain⟨k,rfl⟩:∃k,n'=k+1:=⟨n'-1,by omega⟩;exact .op (i1 (by omega)) (i2 (by omega))
 |call _ _ i1 i2=>intro n' l;obtain⟨k,rfl⟩:∃k,n'=k+2:=⟨n'-2,by omega⟩;exact .call (i1 (by omega)) (i2 (by omega))
theorem lkI_cons {g:List Str}{e:En}{x:Str}{i:Int}(h:∀y∈g,∃j,lkI e y=some j):∀y∈x::g,∃j,lkI ((x,i)::e) y=some j:=fun y hy=>by
 unfold lkI
 by_cases c:y=x
 ·rw[if_pos c];exact⟨_,rfl⟩
 ·rw[if_neg c]
  refine h y ?_
  cases hy with
  |head=>exact absurd rfl c
  |tail _ m=>exact m
theorem ev_total {most:Int}{g:List Str}{n:Nat}{p:Ph}(h:Cp g n p):∀{e:En} {c u:Nat},(∀y∈g,∃j,lkI e y=some j)→e.length+n≤900→∃r c',ev most n p e c u=some (r,c'):=by
 induction h with
 |num=>intro e c u _ _;unfold ev;exact⟨_,_,rfl⟩
 |nm hx=>
  intro e c u he _
  obtain⟨j,h1⟩:=he _ hx
  unfold ev
  rw[h1]
  exact⟨_,_,rfl⟩
 |@op g n k a b _ _ i1 i2=>
  intro e c u he l
  obtain⟨r1,c1,e1⟩:=i1 (c:=c) (u:=u) he (by omega)
  unfold ev
  rw[e1]
  cases r1 with
  |out o=>exact⟨_,_,rfl⟩
  |val i=>
   obtain⟨r2,c2,e2⟩:=i2 (c:=c1) (u:=u) he (by omega)
   dsimp only
   rw[e2]
   cases r2 with
   |out o=>exact⟨_,_,rfl⟩
   |val j=>exact⟨_,_,rfl⟩
 |@call g n x b a _ _ i1 i2=>
  intro e c u he l
  obtain⟨r2,c2,e2⟩:=i2 (c:=c) (u:=u) he (by omega)
  unfold ev
  rw[e2]
  cases r2 with
  |out o=>exact⟨_,_,rfl⟩
  |val j=>
   dsimp only
   have zl:e.length≤900:=by omega
   rw[if_neg (not_not_intro zl)]
   split
   ·exact⟨_,_,rfl⟩
   ·split
    ·exact⟨_,_,rfl⟩
    ·exact i1 (lkI_cons he) (by simp;omega)
end Fw
namespace L2
open PySem PySem.Spec PyProof.Rows
section
variable {X:Cx}{pins:List (Addr×Obj)}{σ:St}{H:Hp}{s:Shared}
theorem Inv.refit {a:Addr}{u0 u1:HO}(I:Inv X pins σ H s)(e0:H a=some u0)(n1:∀xs,u0≠.tup xs)(n2:∀ps,u0≠.tbl ps)(n3:∀x,u0≠.own x)(n4:∀o u,X.H₀ a≠some (.frz o u))(new:ObjOk X.prog X.w (upd H a u1) s.heap a u1):
  Inv X pins σ (upd H a u1) s:=by
 have ne:∀b,H b=none→b≠a:=fun b h e=>by rw[e,e0]at h;cases h
 exact{
  ok:=I.ok
  os:=I.os
  bare:=I.bare
  base:=⟨I.base.keep,I.base.slot,fun b o h n hx=>by have q:=I.base.free b o h n hx;rw[upd_ne (ne b q)];exact q,I.base.there,
   fun b xs h=>by
    have q:=I.base.tups b xs h
    rw[upd_ne (fun e=>by rw[e,e0]at q;exact n1 xs (Option.some.inj q))];exact q,
   fun b o u h=>by
    have q:=I.base.frzs b o u h
    rw[upd_ne (fun e=>by rw[e]at h;exact n4 o u h)];exact q,
   fun b ps h=>by
    obtain⟨more,q⟩:=I.base.tbls b ps h
    exact⟨more,by rw[upd_ne (fun e=>by rw[e,e0]at q;exact n2 _ (Option.some.inj q))];exact q⟩⟩
  loc:=I.loc
  cell:=I.cell
  free:=by rw[upd_ne (ne _ I.free)];exact I.free
  freeC:=fun x c h=>by rw[upd_ne (ne _ (I.freeC x c h))];exact I.freeC x c h
  pin:=fun p hp=>by
   obtain⟨p1,p2,p3⟩:=I.pin p hp
   exact⟨p1,by rw[upd_ne (ne _ p2)];exact p2,p3⟩
  hok:=fun b u h=>by
   by_cases e:b=a
   ·subst e
    rw[upd_same]at h
    cases h
    exact new
   ·rw[upd_ne e]at h
    refine(I.hok b u h).stay (fun _ _ _ q=>q) (fun c q=>?_) fun c xs q=>?_
    ·rw[upd_ne (fun z=>by rw[z,e0]at q;exact n3 _ (Option.some.inj q))];exact q
    ·rw[upd_ne (fun z=>by rw[z,e0]at q;exact n1 _ (Option.some.inj q))];exact q
  len:=I.len}
theorem Inv.freeze {a:Addr}{kvs:List (Key×V)}(I:Inv X pins σ H s)(e:H a=some (.dK kvs)):∃o,s.heap.get? a=some o∧(∀o' u,X.H₀ a≠some (.frz o' u))∧Inv X pins σ (upd H a (.frz o (.dK kvs))) s:=by
 obtain⟨z,hd,vs,rel,dd⟩:=dk_of I.hok e
 obtain⟨o,es,ep,ho,r⟩:=id dd
 have n4:∀o' u,X.H₀ a≠some (.frz o' u):=fun o' u h=>by have:=I.base.frzs a o' u h;rw[e]at this;cases this
 exact⟨o,ho,n4,I.refit e (fun _ h=>by cases h) (fun _ h=>by cases h) (fun _ h=>by cases h) n4 ⟨ho,z,hd,vs,rel,dd⟩⟩
theorem Inv.thaw {a:Addr}{o:Obj}{kvs:List (Key×V)}(I:Inv X pins σ H s)(n4:∀o' u,X.H₀ a≠some (.frz o' u))(e:H a=some (.frz o (.dK kvs))):Inv X pins σ (upd H a (.dK kvs)) s:=by
 have h:=I.hok a _ e
 exact I.refit e (fun _ h=>by cases h) (fun _ h=>by cases h) (fun _ h=>by cases h) n4 h.2
end
def dFrz (a:Addr)(kvs:List (Key×V))(o:Obj)(D:Ends):Ends where
 nx:=fun σ' H'=>H' a=some (.frz o (.dK kvs))∧D.nx σ' (upd H' a (.dK kvs))
 rt:=fun v H'=>H' a=some (.frz o (.dK kvs))∧D.rt v (upd H' a (.dK kvs))
 bk:=fun σ' H'=>H' a=some (.frz o (.dK kvs))∧D.bk σ' (upd H' a (.dK kvs))
 ct:=fun σ' H'=>H' a=some (.frz o (.dK kvs))∧D.ct σ' (upd H' a (.dK kvs))
def sFrz (t:TS):TS:=fun D σ H=>∃a kvs,H a=some (.dK kvs)∧∀o,t (dFrz a kvs o D) σ (upd H a (.frz o (.dK kvs)))
theorem ps_frz {X:Cx}{st:Stmt}{t:TS}(h:PS X st t):PS X st (sFrz t):=by
 intro pins s σ H D I q
 obtain⟨a,kvs,e0,q⟩:=q
 obtain⟨o,ho,n4,I1⟩:=I.freeze e0
 refine thn (h pins s σ _ _ I1 (q o)) fun fl s1 hs=>?_
 cases fl with
 |next=>obtain⟨σ',H',I2,e1,q1⟩:=hs;exact⟨σ',_,I2.thaw n4 e1,q1⟩
 |brk=>obtain⟨σ',H',I2,e1,q1⟩:=hs;exact⟨σ',_,I2.thaw n4 e1,q1⟩
 |cont=>obtain⟨σ',H',I2,e1,q1⟩:=hs;exact⟨σ',_,I2.thaw n4 e1,q1⟩
 |ret u=>obtain⟨v,σ',H',I2,r,e1,q1⟩:=hs;exact⟨v,σ',_,I2.thaw n4 e1,r,q1⟩
def Itk (a:Addr)(o:Obj)(kvs:List (Key×V)):It :=
 ⟨fun i H=>H a=some (.frz o (.dK kvs))∧i<kvs.length,fun i H x H'=>H'=H∧∃k v,kvs[i]?=some (k,v)∧x=kV k,fun i H=>H a=some (.frz o (.dK kvs))∧kvs.length≤i⟩
theorem frz_at {X:Cx}{pins:List (Addr×Obj)}{σ:St}{H:Hp}{s:Shared}{a:Addr}{o:Obj}{kvs:List (Key×V)}{es:Array DictEntry}{ep:Nat}(I:Inv X pins σ H s)(e:H a=some (.frz o (.dK kvs)))(hep:o.data=.dict es ep):
  (a==sysModules)=false∧kvs.length≤sizeLine∧∃vs,KV kvs vs∧s.heap.DictAt (mixKind X.prog X.w) a vs ep:=by
 obtain⟨ho,z,hd,vs,rel,dd⟩:=I.hok a _ e
 refine⟨hd,z,vs,rel,?_⟩
 obtain⟨o2,es2,ep2,ho2,h2,h3,r⟩:=dd
 rw[ho]at ho2
 cases ho2
 rw[hep]at h3
 cases h3
 exact⟨o,es,ho,h2,hep,r⟩
theorem turn_keys {P:Program}{w:World}{K:PySem.W.Frag}{tg:Expr}(a it:Addr)(o:Obj)(kvs:List (Key×V))(es:Array DictEntry)(ep:Nat)(hep:o.data=.dict es ep):Turn P w K tg (Itk a o kvs) [it] it (fun i h=>h.IsKeyIter it a i kvs.length ep) where
 mem:=by simp
 obj:=fun i h st b hb=>by
  have e:b=it:=by simpa using hb
  subst e
  obtain⟨o,e,c,d⟩:=st
  exact⟨o,e,fun v z=>by rw[d]at z;cases z⟩
 keep:=fun i h h' st k=>by
  obtain⟨o,e,r⟩:=st
  exact⟨o,k it (by simp) o e,r⟩
 item:=by
  intro X hP hw hK hc i pins s σ H E I hf st hg
  subst hP hw hK
  obtain⟨ha,hi⟩:=hg
  obtain⟨hd,hz,vs,rel,dd⟩:=frz_at I ha hep
  have hl:=rel.length
  have hk:=rel.keys
  obtain⟨⟨k,v⟩,hx⟩:∃p,vs[i]?=some p:=⟨vs[i]'(by omega),List.getElem?_eq_getElem (by omega)⟩
  obtain⟨⟨k',v'⟩,hy⟩:∃p,kvs[i]?=some p:=⟨kvs[i],List.getElem?_eq_getElem hi⟩
  have ek:k'=k:=by
   have q:=congrArg (fun l=>l[i]?) hk
   simp only[List.getElem?_map,hx,hy,Option.map_some]at q
   exact Option.some.inj q
  subst ek
  obtain⟨f0,f1,f2,f3,f4,f5⟩:=hf it (by simp)
  rw[hl]at st
  refine wpAny_pyNext_dict_item st dd hx fun key h' hkey st' sb=>?_
  have I1:Inv X pins σ H {s with heap:=h'}:=I.turned (t':=s.toks) (fun b o hb e=>(sb.2 b hb).trans e) f0 f1 f3 f4 f5
  obtain⟨o',e',c',d'⟩:=id st'
  rw[←hl]at st'
  exact⟨key,rfl,go_of (s:={s with heap:=h'}) e' c' d' (by decide) ⟨kV k',H,I1,mix_rel hkey,⟨rfl,k',v',hy,rfl⟩,st',fun b hb=>(hf b hb).1⟩⟩
 done:=by
  intro X hP hw hK hc i pins s σ H E I hf st hg
  subst hP hw hK
  obtain⟨ha,hi⟩:=hg
  obtain⟨hd,hz,vs,rel,dd⟩:=frz_at I ha hep
  have hl:=rel.length
  obtain⟨f0,f1,f2,f3,f4,f5⟩:=hf it (by simp)
  rw[hl]at st
  exact wpAny_pyNext_dict_end (I.ok.hd hc) st dd (List.getElem?_eq_none (by omega)) fun h' eb=>⟨rfl,I.turned (t':=s.toks) (fun b o hb e=>eb b o hb e) f0 f1 f3 f4 f5⟩
 self:=fun _ _ _ _ _ st h=>wpAny_pyIter_keyiter st h
def iKeys (tl:TE):TI:=fun σ H R=>tl σ H fun x H1=>∃a o kvs,x=.ref a∧H1 a=some (.frz o (.dK kvs))∧R (Itk a o kvs) H1
theorem pi_keys {X:Cx}{tg l:Expr}{tl:TE}(hl:PE X l tl):PI X tg l (iKeys tl):=by
 intro pins s σ H R I h
 refine thn (hl pins s σ H _ I h) fun v s1 ⟨x,H1,I1,r1,q1⟩=>?_
 obtain⟨a,o,kvs,rfl,ha,q⟩:=q1
 cases r1
 have hob:=I1.hok a _ ha
 obtain⟨ho,z,hd,vs,rel,dd⟩:=hob
 obtain⟨o2,es,ep,ho2,h2,h3,r⟩:=id dd
 rw[ho]at ho2
 cases ho2
 refine wpAny_pyIter_dict (knd:=mixKind X.prog X.w) (kvs:=vs) (ep:=ep) hd ⟨o,es,ho,h2,h3,r⟩ ?_
 have hlen:=rel.length
 refine⟨s1.heap.objs.size,[s1.heap.objs.size],_,_,H1,rfl,I1.kept (t':=s1.toks) fun b o e=>Heap.get?_push_of_some _ e,turn_keys a _ o kvs es ep h3,⟨_,Heap.get?_push_size _ rfl,rfl,by rw[hlen];rfl⟩,fun b hb=>?_,q⟩
 have e:b=s1.heap.objs.size:=by simpa using hb
 subst e
 exact I1.fpOk (Nat.le_refl _) (I1.hok.fresh (Nat.le_refl _))
theorem for_keys {a:Addr}{o:Obj}{kvs:List (Key×V)}{g:TG}{tb:TS}{D:Ends}{σ:St}{H:Hp}(Pv:Nat→St→Hp→Prop)(h0:Pv 0 σ H)(hl:∀i σ H,i≤kvs.length→Pv i σ H→H a=some (.frz o (.dK kvs)))
  (hs:∀i k v σ H,kvs[i]?=some (k,v)→Pv i σ H→g (kV k) σ H fun σ2 H2=>tb (D.lp (Pv (i+1))) σ2 H2) (hd:∀σ H,Pv kvs.length σ H→D.nx σ H):
  ∃W:Nat→Nat→St→Hp→Prop,(∃m,W 0 m σ H)∧∀i m σ H,W i m σ H→
   ((Itk a o kvs).stop i H∧D.nx σ H)∨((Itk a o kvs).go i H∧∃N:St→Hp→Prop,(∀σ' H',N σ' H'→∃m',m'<m∧W (i+1) m' σ' H')∧∀x H',(Itk a o kvs).yld i H x H'→g x σ H' fun σ2 H2=>tb (D.lp N) σ2 H2):=by
 refine⟨fun i m σ H=>m=kvs.length-i∧i≤kvs.length∧Pv i σ H,⟨kvs.length,by simp,Nat.zero_le _,h0⟩,?_⟩
 rintro i m σ H ⟨rfl,hi,p⟩
 have q:=hl i σ H hi p
 by_cases hlt:i<kvs.length
 ·refine .inr ⟨⟨q,hlt⟩,Pv (i+1),fun σ' H' p'=>⟨kvs.length-(i+1),by omega,rfl,hlt,p'⟩,fun x H' y=>?_⟩
  obtain⟨e,k,v,hk,rfl⟩:=y
  subst e
  exact hs i k v σ _ hk p
 ·have e:i=kvs.length:=by omega
  subst e
  exact .inl ⟨⟨q,Nat.le_refl _⟩,hd σ H p⟩
end L2
namespace PySem
open PyProof.Rows
section
variable {prog:Program}{w:World}{A:Around}{E:Value→Shared→Prop}{s:Shared}
theorem nextOfT_item {it t:Addr}{i:Nat}{xs:Array Value}{x:Value}{Q:Value→Shared→Prop}(hit:s.heap.IsTupleIter it t i)(ht:s.heap.IsTuple t xs)(hx:xs[i]?=some x)
  (hQ:∀h',h'.IsTupleIter it t (i+1)→Heap.SameBut it s.heap h'→Q x {s with heap:=h'}):wpAny (model prog w) A (Builtin.SmallTypes.nextOf (.ref it)) Q E s:=by
 obtain⟨o,ho,hc,hd⟩:=id hit
 obtain⟨u,hu,_,n,hn⟩:=ht
 unfold Builtin.SmallTypes.nextOf
 refine wpAny_bind (wpAny_callSpecial?_slot (name:=Str.ofString "__next__") hit.typeIs F.slot_tuple_iterator_next (wpAny_call_entry F.slot_tuple_iterator_next hit.typeIs F.entry_tuple_iterator_next ?_ (F.args_tuple_iterator_next_1 _)))
 show wpAny _ _ (field (.ref it) 0>>=_) _ _ s
 refine wpAny_bind (wpAny_field ho hd (x:=.ref t) rfl ?_)
 rw[if_neg (show ¬((Value.ref t==Value.none)=true) from Bool.false_ne_true)]
 show wpAny _ _ (field (.ref it) 1>>=_) _ _ s
 refine wpAny_bind (wpAny_field ho hd (x:=.int i 0) rfl ?_)
 show wpAny _ _ (seqItems? (.ref t)>>=_) _ _ s
 refine wpAny_bind (wpAny_seqItems hu hn ?_)
 simp only[Int.toNat_natCast,hx]
 refine wpAny_bind (wpAny_setField ho hd (by simp) (wpAny_pure ⟨x,rfl,wpAny_pure (hQ _ ⟨_,Heap.get?_update_self _ ho (Obj.isFreed_of_fields (Obj.data_mapFields hd _)),(Obj.cls_mapFields ..).trans hc,by rw[Obj.data_mapFields hd];simp[rawInt]⟩ (Heap.SameBut.update ..))⟩))
theorem nextOfT_end {it t:Addr}{i:Nat}{xs:Array Value}{Q:Value→Shared→Prop}(hh:A.handled=none)(hit:s.heap.IsTupleIter it t i)(ht:s.heap.IsTuple t xs)(hx:xs[i]?=none)
  (hE:∀h' e,Heap.ExtBut it s.heap h'→(∃o,h'.get? e=some o∧o.cls=.type "StopIteration")→E (.ref e) {s with heap:=h'}):wpAny (model prog w) A (Builtin.SmallTypes.nextOf (.ref it)) Q E s:=by
 obtain⟨o,ho,hc,hd⟩:=id hit
 obtain⟨u,hu,_,n,hn⟩:=ht
 unfold Builtin.SmallTypes.nextOf
 refine wpAny_bind (wpAny_callSpecial?_slot (name:=Str.ofString "__next__") hit.typeIs F.slot_tuple_iterator_next (wpAny_call_entry F.slot_tuple_iterator_next hit.typeIs F.entry_tuple_iterator_next ?_ (F.args_tuple_iterator_next_1 _)))
 show wpAny _ _ (field (.ref it) 0>>=_) _ _ s
 refine wpAny_bind (wpAny_field ho hd (x:=.ref t) rfl ?_)
 rw[if_neg (show ¬((Value.ref t==Value.none)=true) from Bool.false_ne_true)]
 show wpAny _ _ (field (.ref it) 1>>=_) _ _ s
 refine wpAny_bind (wpAny_field ho hd (x:=.int i 0) rfl ?_)
 show wpAny _ _ (seqItems? (.ref t)>>=_) _ _ s
 refine wpAny_bind (wpAny_seqItems hu hn ?_)
 simp only[Int.toNat_natCast,hx]
 refine wpAny_bind (wpAny_rule (wpAny_bind (wpAny_setField ho hd (by simp) ?_)))
 show wpAny _ _ (newExc (.type "StopIteration") []>>=_) _ _ _
 refine wpAny_bind ?_
 simp only[newExc,newTuple]
 refine wpAny_bind (wpAny_newObj_type ?_ (by size_fits))
 refine wpAny_bind (m:=firstArgMember _ _) (wpAny_of_eq (a:=Value.none) (by first|rfl|(simp only[firstArgMember];rfl)) ?_)
 refine wpAny_newObj_type ?_ (by size_fits)
 simp only[raiseNew]
 refine wpAny_bind (wpAny_handled ?_)
 first|rw[show A.in1.handled=none from hh]|rw[hh]
 exact wpAny_bind (wpAny_pure (wpAny_throw (hE _ _ (((Heap.SameBut.update ..).extBut.push _).push _) ⟨_,Heap.get?_push_size _ rfl,rfl⟩)))
end
end PySem
namespace L2
open PySem PySem.Spec PyProof.Rows
section
variable {X:Cx}{pins:List (Addr×Obj)}{σ:St}{H:Hp}{s:Shared}{h':Heap}
end
theorem boot_zip':bootBuiltins "zip"=some (.type "zip"):=by decide+kernel
end L2
namespace PySem
open PyProof.Rows
def kit:Bool→String
 |true=>"list_iterator"
 |false=>"tuple_iterator"
def kin:Bool→String
 |true=>"list"
 |false=>"tuple"
def SIt (b:Bool)(h:Heap)(a t:Addr)(i:Nat):Prop:=∃o,h.get? a=some o∧o.cls=.type (kit b)∧o.data=.fields #[.ref t, .int i 0]
def SSq (b:Bool)(h:Heap)(a:Addr)(xs:Array Value):Prop:=∃o,h.get? a=some o∧o.cls=.type (kin b)∧∃n,o.data=.seq xs n
theorem SIt.extBut {b:Bool}{h h':Heap}{a c t:Addr}{i:Nat}(x:SIt b h a t i)(hs:Heap.ExtBut c h h')(n:a≠c):SIt b h' a t i:=let ⟨o,e,r⟩:=x;⟨o,hs _ _ n e,r⟩
theorem SSq.extBut {b:Bool}{h h':Heap}{a c:Addr}{xs:Array Value}(x:SSq b h a xs)(hs:Heap.ExtBut c h h')(n:a≠c):SSq b h' a xs:=let ⟨o,e,r⟩:=x;⟨o,hs _ _ n e,r⟩
section
variable {prog:Program}{w:World}{A:Around}{E:Value→Shared→Prop}{s:Shared}
theorem nextOfL_item {it t:Addr}{i:Nat}{xs:Array Value}{x:Value}{Q:Value→Shared→Prop}(hit:s.heap.IsListIter it t i)(ht:s.heap.IsList t xs)(hx:xs[i]?=some x)
  (hQ:∀h',h'.IsListIter it t (i+1)→Heap.SameBut it s.heap h'→Q x {s with heap:=h'}):wpAny (model prog w) A (Builtin.SmallTypes.nextOf (.ref it)) Q E s:=by
 obtain⟨o,ho,hc,hd⟩:=id hit
 obtain⟨u,hu,_,n,hn⟩:=ht
 unfold Builtin.SmallTypes.nextOf
 refine wpAny_bind (wpAny_callSpecial?_slot (name:=Str.ofString "__next__") hit.typeIs slot_listiter_next (wpAny_call_entry slot_listiter_next hit.typeIs entry_listiter_next ?_ (args_listiter_next _)))
 show wpAny _ _ (field (.ref it) 0>>=_) _ _ s
 refine wpAny_bind (wpAny_field ho hd (x:=.ref t) rfl ?_)
 rw[if_neg (show ¬((Value.ref t==Value.none)=true) from Bool.false_ne_true)]
 show wpAny _ _ (field (.ref it) 1>>=_) _ _ s
 refine wpAny_bind (wpAny_field ho hd (x:=.int i 0) rfl ?_)
 show wpAny _ _ (seqItems? (.ref t)>>=_) _ _ s
 refine wpAny_bind (wpAny_seqItems hu hn ?_)
 simp only[Int.toNat_natCast,hx]
 refine wpAny_bind (wpAny_setField ho hd (by simp) (wpAny_pure ⟨x,rfl,wpAny_pure (hQ _ ⟨_,Heap.get?_update_self _ ho (Obj.isFreed_of_fields (Obj.data_mapFields hd _)),(Obj.cls_mapFields ..).trans hc,by rw[Obj.data_mapFields hd];simp[rawInt]⟩ (Heap.SameBut.update ..))⟩))
theorem nextOfL_end {it t:Addr}{i:Nat}{xs:Array Value}{Q:Value→Shared→Prop}(hh:A.handled=none)(hit:s.heap.IsListIter it t i)(ht:s.heap.IsList t xs)(hx:xs[i]?=none)
  (hE:∀h' e,Heap.ExtBut it s.heap h'→(∃o,h'.get? e=some o∧o.cls=.type "StopIteration")→E (.ref e) {s with heap:=h'}):wpAny (model prog w) A (Builtin.SmallTypes.nextOf (.ref it)) Q E s:=by
 obtain⟨o,ho,hc,hd⟩:=id hit
 obtain⟨u,hu,_,n,hn⟩:=ht
 unfold Builtin.SmallTypes.nextOf
 refine wpAny_bind (wpAny_callSpecial?_slot (name:=Str.ofString "__next__") hit.typeIs slot_listiter_next (wpAny_call_entry slot_listiter_next hit.typeIs entry_listiter_next ?_ (args_listiter_next _)))
 show wpAny _ _ (field (.ref it) 0>>=_) _ _ s
 refine wpAny_bind (wpAny_field ho hd (x:=.ref t) rfl ?_)
 rw[if_neg (show ¬((Value.ref t==Value.none)=true) from Bool.false_ne_true)]
 show wpAny _ _ (field (.ref it) 1>>=_) _ _ s
 refine wpAny_bind (wpAny_field ho hd (x:=.int i 0) rfl ?_)
 show wpAny _ _ (seqItems? (.ref t)>>=_) _ _ s
 refine wpAny_bind (wpAny_seqItems hu hn ?_)
 simp only[Int.toNat_natCast,hx]
 refine wpAny_bind (wpAny_rule (wpAny_bind (wpAny_setField ho hd (by simp) ?_)))
 show wpAny _ _ (newExc (.type "StopIteration") []>>=_) _ _ _
 refine wpAny_bind ?_
 simp only[newExc,newTuple]
 refine wpAny_bind (wpAny_newObj_type ?_ (by size_fits))
 refine wpAny_bind (m:=firstArgMember _ _) (wpAny_of_eq (a:=Value.none) (by first|rfl|(simp only[firstArgMember];rfl)) ?_)
 refine wpAny_newObj_type ?_ (by size_fits)
 simp only[raiseNew]
 refine wpAny_bind (wpAny_handled ?_)
 first|rw[show A.in1.handled=none from hh]|rw[hh]
 exact wpAny_bind (wpAny_pure (wpAny_throw (hE _ _ (((Heap.SameBut.update ..).extBut.push _).push _) ⟨_,Heap.get?_push_size _ rfl,rfl⟩)))
theorem nextOfG_item {b:Bool}{it t:Addr}{i:Nat}{xs:Array Value}{x:Value}{Q:Value→Shared→Prop}(hit:SIt b s.heap it t i)(ht:SSq b s.heap t xs)(hx:xs[i]?=some x)
  (hQ:∀h',SIt b h' it t (i+1)→Heap.SameBut it s.heap h'→Q x {s with heap:=h'}):wpAny (model prog w) A (Builtin.SmallTypes.nextOf (.ref it)) Q E s:=by
 cases b with
 |true=>exact nextOfL_item hit ht hx hQ
 |false=>exact nextOfT_item hit ht hx hQ
theorem nextOfG_end {b:Bool}{it t:Addr}{i:Nat}{xs:Array Value}{Q:Value→Shared→Prop}(hh:A.handled=none)(hit:SIt b s.heap it t i)(ht:SSq b s.heap t xs)(hx:xs[i]?=none)
  (hE:∀h' e,Heap.ExtBut it s.heap h'→(∃o,h'.get? e=some o∧o.cls=.type "StopIteration")→E (.ref e) {s with heap:=h'}):wpAny (model prog w) A (Builtin.SmallTypes.nextOf (.ref it)) Q E s:=by
 cases b with
 |true=>exact nextOfL_end hh hit ht hx hE
 |false=>exact nextOfT_end hh hit ht hx hE
theorem SSq.up {b:Bool}{h h':Heap}{a:Addr}{xs:Array Value}(x:SSq b h a xs)(k:∀o,h.get? a=some o→h'.get? a=some o):SSq b h' a xs:=x.elim fun o e=>⟨o,k o e.1,e.2⟩
theorem SIt.up {b:Bool}{h h':Heap}{a t:Addr}{i:Nat}(x:SIt b h a t i)(k:∀o,h.get? a=some o→h'.get? a=some o):SIt b h' a t i:=x.elim fun o e=>⟨o,k o e.1,e.2⟩
end
end PySem
namespace L2
open PySem PySem.Spec PyProof.Rows
end L2
namespace PySem
open PyProof.Rows
section
variable {prog:Program}{w:World}{A:Around}{E:Value→Shared→Prop}{s:Shared}
structure ZipG (K1 K2:Bool)(h:Heap)(z TI TO i1 i2 t1 t2:Addr)(k:Nat):Prop where
 nd:[z,TI,TO,i1,i2].Nodup
 zz:IsZip h z TI TO .none
 ti:IsPair h TI (.ref i1) (.ref i2)
 tO:∃a b,IsPair h TO a b
 j1:SIt K1 h i1 t1 k
 j2:SIt K2 h i2 t2 k
theorem zipG_item {K1 K2:Bool}{z TI TO i1 i2 t1 t2:Addr}{k:Nat}{xs ys:Array Value}{x y:Value}{Q:Option Value→Shared→Prop}(Z:ZipG K1 K2 s.heap z TI TO i1 i2 t1 t2 k)(n1:t1∉[z,TO,i1,i2])(n2:t2∉[z,TO,i1,i2])
  (h1:SSq K1 s.heap t1 xs) (h2:SSq K2 s.heap t2 ys) (hx:xs[k]?=some x) (hy:ys[k]?=some y)
  (hQ:∀h',IsZip h' z TI TO (rawInt s.heap.objs.size)→IsPair h' TI (.ref i1) (.ref i2)→IsPair h' TO x y→SIt K1 h' i1 t1 (k+1)→SIt K2 h' i2 t2 (k+1)→IsPair h' s.heap.objs.size x y→h'.objs.size=s.heap.objs.size+1→
   (∀c o,c∉[z,TO,i1,i2]→s.heap.get? c=some o→h'.get? c=some o)→Q (some (.ref s.heap.objs.size)) {s with heap:=h'}):wpAny (model prog w) A (pyNext (.ref z)) Q E s:=by
 obtain⟨nd,zz,ti,⟨a,b,tO⟩,j1,j2⟩:=Z
 simp only[List.nodup_cons,List.mem_cons,List.not_mem_nil,or_false,not_or,List.nodup_nil,and_true,not_false_eq_true]at nd n1 n2
 obtain⟨⟨zTI,zTO,z1,z2⟩,⟨TITO,TI1,TI2⟩,⟨TO1,TO2⟩,i12⟩:=nd
 obtain⟨a1,a2,a3,a4⟩:=n1
 obtain⟨b1,b2,b3,b4⟩:=n2
 have hT:s.TypeIs (.ref z) "zip":=⟨_,zz,rfl⟩
 unfold pyNext
 refine wpAny_bind (wpAny_attempt (wpAny_callSpecial?_slot (name:=Str.ofString "__next__") hT F.slot_zip_next (wpAny_call_entry F.slot_zip_next hT F.entry_zip_next ?_ (F.args_zip_next_1 _))))
 show wpAny _ _ (field (.ref z) 2>>=_) _ _ _
 refine wpAny_bind (wpAny_field zz rfl (x:=.bool false) rfl ?_)
 show wpAny _ _ (field (.ref z) 3>>=_) _ _ _
 refine wpAny_bind (wpAny_field zz rfl (x:=.ref TI) rfl (wpAny_bind (wpAny_seqItems ti rfl ?_)))
 show wpAny _ _ (Builtin.SmallTypes.ownedTupleIsFree (.ref z)>>=_) _ _ _
 refine wpAny_bind ?_
 unfold Builtin.SmallTypes.ownedTupleIsFree
 refine wpAny_bind (wpAny_field zz rfl (x:=.none) rfl (wpAny_pure ?_))
 simp only[if_true]
 refine wpAny_bind (wpAny_rule (wpAny_bind (wpAny_field zz rfl (x:=.ref TO) rfl (wpAny_bind (wpAny_setField_rec zz (by simp) fun g1 q1 r1=>?_)))))
 replace q1:IsZip g1 z TI TO .ellipsis:=q1
 refine wpAny_bind ?_
 simp only[List.zipIdx_cons,List.zipIdx_nil,List.forIn_cons,List.forIn_nil]
 refine wpAny_bind (wpAny_bind (wpAny_onRaise ?_))
 show wpAny _ _ (Builtin.SmallTypes.nextOf (.ref i1)>>=_) _ _ _
 refine wpAny_bind (nextOfG_item (j1.extBut r1.extBut (Ne.symm z1)) (h1.extBut r1.extBut a1) hx fun g2 q2 r2=>wpAny_pure ?_)
 have tO2:IsPair g2 TO a b:=r2.extBut _ _ TO1 (r1.extBut _ _ (Ne.symm zTO) tO)
 refine wpAny_bind (wpAny_seqItems tO2 rfl (wpAny_bind (wpAny_updateSeq_pair tO2 fun g3 q3 r3=>?_)))
 replace q3:IsPair g3 TO x b:=q3
 refine wpAny_bind (wpAny_letGo (wpAny_pure ?_))
 refine wpAny_bind (wpAny_bind (wpAny_onRaise ?_))
 show wpAny _ _ (Builtin.SmallTypes.nextOf (.ref i2)>>=_) _ _ _
 refine wpAny_bind (nextOfG_item (((j2.extBut r1.extBut (Ne.symm z2)).extBut r2.extBut (Ne.symm i12)).extBut r3.extBut (Ne.symm TO2)) (((h2.extBut r1.extBut b1).extBut r2.extBut b3).extBut r3.extBut b2) hy fun g4 q4 r4=>wpAny_pure ?_)
 have tO4:IsPair g4 TO x b:=r4.extBut _ _ TO2 q3
 refine wpAny_bind (wpAny_seqItems tO4 rfl (wpAny_bind (wpAny_updateSeq_pair tO4 fun g5 q5 r5=>?_)))
 replace q5:IsPair g5 TO x y:=q5
 refine wpAny_bind (wpAny_letGo (wpAny_pure (wpAny_pure ?_)))
 refine wpAny_bind (wpAny_seqItems q5 rfl (wpAny_bind (wpAny_newTuple ?_)))
 have sz:g5.objs.size=s.heap.objs.size:=by rw[r5.1,r4.1,r3.1,r2.1,r1.1]
 have kp5:∀c o,c≠z→c≠TO→c≠i1→c≠i2→s.heap.get? c=some o→g5.get? c=some o:=fun c o c1 c2 c3 c4 e=>r5.extBut _ _ c2 (r4.extBut _ _ c4 (r3.extBut _ _ c2 (r2.extBut _ _ c3 (r1.extBut _ _ c1 e))))
 have zz5:IsZip g5 z TI TO .ellipsis:=r5.extBut _ _ zTO (r4.extBut _ _ z2 (r3.extBut _ _ zTO (r2.extBut _ _ z1 q1)))
 have k15:SIt K1 g5 i1 t1 (k+1):=((q2.extBut r3.extBut (Ne.symm TO1)).extBut r4.extBut i12).extBut r5.extBut (Ne.symm TO1)
 have k25:SIt K2 g5 i2 t2 (k+1):=q4.extBut r5.extBut (Ne.symm TO2)
 have ti5:IsPair g5 TI (.ref i1) (.ref i2):=kp5 _ _ (Ne.symm zTI) TITO TI1 TI2 ti
 show wpAny _ _ (Builtin.SmallTypes.ownedTupleHandOut (.ref z) (.ref g5.objs.size)>>=_) _ _ _
 refine wpAny_bind ?_
 unfold Builtin.SmallTypes.ownedTupleHandOut
 refine wpAny_bind (wpAny_setField_rec (Heap.get?_push_of_some _ zz5) (by simp) fun g7 q7 r7=>?_)
 replace q7:IsZip g7 z TI TO (rawInt g5.objs.size):=q7
 refine wpAny_setField_rec q7 (by simp) fun g8 q8 r8=>?_
 replace q8:IsZip g8 z TI TO (rawInt g5.objs.size):=q8
 have up:∀c o,c≠z→g5.get? c=some o→g8.get? c=some o:=fun c o c1 e=>r8.extBut _ _ c1 (r7.extBut _ _ c1 (Heap.get?_push_of_some _ e))
 have new:IsPair g8 g5.objs.size x y:=r8.extBut _ _ (Nat.ne_of_gt (Heap.lt_size zz5)) (r7.extBut _ _ (Nat.ne_of_gt (Heap.lt_size zz5)) (Heap.get?_push_size _ rfl))
 have sz8:g8.objs.size=s.heap.objs.size+1:=by rw[r8.1,r7.1,Heap.size_push,sz]
 rw[sz]at q8 new
 refine wpAny_pure ⟨_,rfl,?_⟩
 refine wpAny_pure ?_
 show Q (some (.ref g5.objs.size)) _
 rw[sz]
 exact hQ g8 q8 (up _ _ (Ne.symm zTI) ti5) (up _ _ (Ne.symm zTO) q5) (let ⟨o,e,r⟩:=k15;⟨o,up _ o (Ne.symm z1) e,r⟩) (let ⟨o,e,r⟩:=k25;⟨o,up _ o (Ne.symm z2) e,r⟩) new sz8 fun c o hc e=>by
  simp only[List.mem_cons,List.not_mem_nil,or_false,not_or]at hc
  exact up c o hc.1 (kp5 c o hc.1 hc.2.1 hc.2.2.1 hc.2.2.2 e)
theorem zipG_end {K1 K2:Bool}{z TI TO i1 i2 t1 t2:Addr}{k:Nat}{xs:Array Value}{Q:Option Value→Shared→Prop}(hh:A.handled=none)(Z:ZipG K1 K2 s.heap z TI TO i1 i2 t1 t2 k)(n1:t1∉[z,TO,i1,i2])
  (h1:SSq K1 s.heap t1 xs) (hx:xs[k]?=none) (hQ:∀h',(∀c o,c∉[z,TO,i1,i2]→s.heap.get? c=some o→h'.get? c=some o)→Q none {s with heap:=h'}):wpAny (model prog w) A (pyNext (.ref z)) Q E s:=by
 obtain⟨nd,zz,ti,⟨a,b,tO⟩,j1,j2⟩:=Z
 simp only[List.nodup_cons,List.mem_cons,List.not_mem_nil,or_false,not_or,List.nodup_nil,and_true,not_false_eq_true]at nd n1
 obtain⟨⟨zTI,zTO,z1,z2⟩,⟨TITO,TI1,TI2⟩,⟨TO1,TO2⟩,i12⟩:=nd
 obtain⟨a1,a2,a3,a4⟩:=n1
 have hT:s.TypeIs (.ref z) "zip":=⟨_,zz,rfl⟩
 unfold pyNext
 refine wpAny_bind (wpAny_attempt (wpAny_callSpecial?_slot (name:=Str.ofString "__next__") hT F.slot_zip_next (wpAny_call_entry F.slot_zip_next hT F.entry_zip_next ?_ (F.args_zip_next_1 _))))
 show wpAny _ _ (field (.ref z) 2>>=_) _ _ _
 refine wpAny_bind (wpAny_field zz rfl (x:=.bool false) rfl ?_)
 show wpAny _ _ (field (.ref z) 3>>=_) _ _ _
 refine wpAny_bind (wpAny_field zz rfl (x:=.ref TI) rfl (wpAny_bind (wpAny_seqItems ti rfl ?_)))
 show wpAny _ _ (Builtin.SmallTypes.ownedTupleIsFree (.ref z)>>=_) _ _ _
 refine wpAny_bind ?_
 unfold Builtin.SmallTypes.ownedTupleIsFree
 refine wpAny_bind (wpAny_field zz rfl (x:=.none) rfl (wpAny_pure ?_))
 simp only[if_true]
 refine wpAny_bind (wpAny_rule (wpAny_bind (wpAny_field zz rfl (x:=.ref TO) rfl (wpAny_bind (wpAny_setField_rec zz (by simp) fun g1 q1 r1=>?_)))))
 replace q1:IsZip g1 z TI TO .ellipsis:=q1
 refine wpAny_bind ?_
 simp only[List.zipIdx_cons,List.zipIdx_nil,List.forIn_cons,List.forIn_nil]
 refine wpAny_bind (wpAny_bind (wpAny_onRaise ?_))
 show wpAny _ _ (Builtin.SmallTypes.nextOf (.ref i1)>>=_) _ _ _
 refine wpAny_bind (nextOfG_end hh (j1.extBut r1.extBut (Ne.symm z1)) (h1.extBut r1.extBut a1) hx fun g2 e r2 he=>?_)
 obtain⟨oe,ho,hc⟩:=he
 have zz2:IsZip g2 z TI TO .ellipsis:=r2 _ _ z1 q1
 have ez:e≠z:=fun q=>by subst q;rw[zz2]at ho;cases ho;simp at hc
 refine wpAny_setField_rec (s:={s with heap:=g2}) zz2 (by simp) fun g3 q3 r3=>?_
 refine wpAny_bind (wpAny_isInstance (T:="StopIteration") (b:=true) ⟨oe,r3.extBut _ _ ez ho,hc⟩ isSubtype_stop ?_)
 exact wpAny_pure (hQ _ fun c o hcc e=>by
  simp only[List.mem_cons,List.not_mem_nil,or_false,not_or]at hcc
  exact r3.extBut _ _ hcc.1 (r2 _ _ hcc.2.2.1 (r1.extBut _ _ hcc.1 e)))
abbrev zg1 (K1:String)(h:Heap)(t1:Addr):Heap:=h.push {cls:=.type K1,data:=.fields #[.ref t1, .int 0 0]}
abbrev zg2 (K1 K2:String)(h:Heap)(t1 t2:Addr):Heap:=(zg1 K1 h t1).push {cls:=.type K2,data:=.fields #[.ref t2, .int 0 0]}
abbrev zg3 (K1 K2:String)(h:Heap)(t1 t2:Addr):Heap:=(zg2 K1 K2 h t1 t2).push {cls:=.type "tuple",data:=.seq #[.ref h.objs.size, .ref (zg1 K1 h t1).objs.size]}
abbrev zg4 (K1 K2:String)(h:Heap)(t1 t2:Addr):Heap:=(zg3 K1 K2 h t1 t2).push {cls:=.type "tuple",data:=.seq #[.none, .none]}
abbrev zg5 (K1 K2:String)(h:Heap)(t1 t2:Addr):Heap:=(zg4 K1 K2 h t1 t2).push {cls:=.type "zip",data:=.fields #[.none, .bool false, .bool false, .ref (zg2 K1 K2 h t1 t2).objs.size, .ref (zg3 K1 K2 h t1 t2).objs.size]}
theorem meets_zipLT (t1 t2:Addr)(xs ys:Array Value):
  Meets (Builtin.«zip.__new__» ⟨[.type "zip", .ref t1, .ref t2],[]⟩) (fun _ R s=>s.heap.IsList t1 xs∧s.heap.IsTuple t2 ys∧R (.ok (.ret (.ref (zg4 "list_iterator" "tuple_iterator" s.heap t1 t2).objs.size))) {s with heap:=zg5 "list_iterator" "tuple_iterator" s.heap t1 t2}) :=
 .of_wp fun prog w A R s h=>by
  obtain⟨hp,g,d,tk,os⟩:=s
  obtain⟨h1,h2,h⟩:=h
  have hsub:=sub_zip
  have q1:Heap.IsList (Shared.heap ⟨hp,g,d,tk,os⟩) t1 xs:=h1
  have q2:Heap.IsTuple (Shared.heap ⟨hp.push {cls:=.type "list_iterator",data:=.fields #[.ref t1, .int 0 0]},g,d,tk,os⟩) t2 ys:=Heap.IsTuple.push h2 _
  wp_walk using wpAny_pyIter_list q1,wpAny_pyIter_tuple q2
  exact⟨_,rfl,h⟩
theorem meets_zipTL (t1 t2:Addr)(xs ys:Array Value):
  Meets (Builtin.«zip.__new__» ⟨[.type "zip", .ref t1, .ref t2],[]⟩) (fun _ R s=>s.heap.IsTuple t1 xs∧s.heap.IsList t2 ys∧R (.ok (.ret (.ref (zg4 "tuple_iterator" "list_iterator" s.heap t1 t2).objs.size))) {s with heap:=zg5 "tuple_iterator" "list_iterator" s.heap t1 t2}) :=
 .of_wp fun prog w A R s h=>by
  obtain⟨hp,g,d,tk,os⟩:=s
  obtain⟨h1,h2,h⟩:=h
  have hsub:=sub_zip
  have q1:Heap.IsTuple (Shared.heap ⟨hp,g,d,tk,os⟩) t1 xs:=h1
  have q2:Heap.IsList (Shared.heap ⟨hp.push {cls:=.type "tuple_iterator",data:=.fields #[.ref t1, .int 0 0]},g,d,tk,os⟩) t2 ys:=Heap.IsList.push h2 _
  wp_walk using wpAny_pyIter_tuple q1,wpAny_pyIter_list q2
  exact⟨_,rfl,h⟩
theorem meets_zipLL (t1 t2:Addr)(xs ys:Array Value):
  Meets (Builtin.«zip.__new__» ⟨[.type "zip", .ref t1, .ref t2],[]⟩) (fun _ R s=>s.heap.IsList t1 xs∧s.heap.IsList t2 ys∧R (.ok (.ret (.ref (zg4 "list_iterator" "list_iterator" s.heap t1 t2).objs.size))) {s with heap:=zg5 "list_iterator" "list_iterator" s.heap t1 t2}) :=
 .of_wp fun prog w A R s h=>by
  obtain⟨hp,g,d,tk,os⟩:=s
  obtain⟨h1,h2,h⟩:=h
  have hsub:=sub_zip
  have q1:Heap.IsList (Shared.heap ⟨hp,g,d,tk,os⟩) t1 xs:=h1
  have q2:Heap.IsList (Shared.heap ⟨hp.push {cls:=.type "list_iterator",data:=.fields #[.ref t1, .int 0 0]},g,d,tk,os⟩) t2 ys:=Heap.IsList.push h2 _
  wp_walk using wpAny_pyIter_list q1,wpAny_pyIter_list q2
  exact⟨_,rfl,h⟩
theorem meets_zipG (K1 K2:Bool)(hk:(K1||K2)=true)(t1 t2:Addr)(xs ys:Array Value):
  Meets (Builtin.«zip.__new__» ⟨[.type "zip", .ref t1, .ref t2],[]⟩) (fun _ R s=>SSq K1 s.heap t1 xs∧SSq K2 s.heap t2 ys∧R (.ok (.ret (.ref (zg4 (kit K1) (kit K2) s.heap t1 t2).objs.size))) {s with heap:=zg5 (kit K1) (kit K2) s.heap t1 t2}):=by
 cases K1 with
 |true=>cases K2 with
  |false=>exact meets_zipLT t1 t2 xs ys
  |true=>exact meets_zipLL t1 t2 xs ys
 |false=>cases K2 with
  |false=>cases hk
  |true=>exact meets_zipTL t1 t2 xs ys
theorem call_zipG {K1 K2:Bool}(hk:(K1||K2)=true){t1 t2:Addr}{xs ys:Array Value}{Q:Value→Shared→Prop}(h1:SSq K1 s.heap t1 xs)(h2:SSq K2 s.heap t2 ys)
  (h:∀h' z TI TO i1 i2,s.heap.objs.size≤z→s.heap.objs.size≤TI→s.heap.objs.size≤TO→s.heap.objs.size≤i1→s.heap.objs.size≤i2→ZipG K1 K2 h' z TI TO i1 i2 t1 t2 0→(∀c o,s.heap.get? c=some o→h'.get? c=some o)→Q (.ref z) {s with heap:=h'}):
  wpAny (model prog w) A (call (.type "zip") [.ref t1, .ref t2]) Q E s:=by
 refine callType_new F.called_zip (by decide) (F.typeCall_zip_2 _ _) (F.newCall_zip_2 _ _) (fun obj=>F.args_object_init_3 obj _ _) F.entry_zip_new (meets_zipG K1 K2 hk t1 t2 xs ys) ⟨h1,h2,?_⟩
 have z1:(zg1 (kit K1) s.heap t1).objs.size=s.heap.objs.size+1:=Heap.size_push ..
 have z2:(zg2 (kit K1) (kit K2) s.heap t1 t2).objs.size=s.heap.objs.size+2:=by rw[Heap.size_push,z1]
 have z3:(zg3 (kit K1) (kit K2) s.heap t1 t2).objs.size=s.heap.objs.size+3:=by rw[Heap.size_push,z2]
 have z4:(zg4 (kit K1) (kit K2) s.heap t1 t2).objs.size=s.heap.objs.size+4:=by rw[Heap.size_push,z3]
 have p5:(zg5 (kit K1) (kit K2) s.heap t1 t2).get? (zg4 (kit K1) (kit K2) s.heap t1 t2).objs.size=some _:=Heap.get?_push_size _ rfl
 have p4:(zg5 (kit K1) (kit K2) s.heap t1 t2).get? (zg3 (kit K1) (kit K2) s.heap t1 t2).objs.size=some _:=Heap.get?_push_of_some _ (Heap.get?_push_size _ rfl)
 have p3:(zg5 (kit K1) (kit K2) s.heap t1 t2).get? (zg2 (kit K1) (kit K2) s.heap t1 t2).objs.size=some _:=Heap.get?_push_of_some _ (Heap.get?_push_of_some _ (Heap.get?_push_size _ rfl))
 have p2:(zg5 (kit K1) (kit K2) s.heap t1 t2).get? (zg1 (kit K1) s.heap t1).objs.size=some _:=Heap.get?_push_of_some _ (Heap.get?_push_of_some _ (Heap.get?_push_of_some _ (Heap.get?_push_size _ rfl)))
 have p1:(zg5 (kit K1) (kit K2) s.heap t1 t2).get? s.heap.objs.size=some _:=Heap.get?_push_of_some _ (Heap.get?_push_of_some _ (Heap.get?_push_of_some _ (Heap.get?_push_of_some _ (Heap.get?_push_size _ rfl))))
 refine⟨⟨_,p5,rfl⟩,h _ _ _ _ _ _ ?_ ?_ ?_ (Nat.le_refl _) ?_ ⟨?_,p5,p3,⟨_,_,p4⟩,⟨_,p1,rfl,rfl⟩,⟨_,p2,rfl,rfl⟩⟩ fun c o e=>Heap.get?_push_of_some _ (Heap.get?_push_of_some _ (Heap.get?_push_of_some _ (Heap.get?_push_of_some _ (Heap.get?_push_of_some _ e))))⟩
 ·rw[z4];exact Nat.le_add_right _ _
 ·rw[z2];exact Nat.le_add_right _ _
 ·rw[z3];exact Nat.le_add_right _ _
 ·rw[z1];exact Nat.le_add_right _ _
 ·rw[z1,z2,z3,z4]
  generalize s.heap.objs.size=n
  simp only[List.nodup_cons,List.mem_cons,List.not_mem_nil,or_false,not_or,List.nodup_nil,and_true,not_false_eq_true]
  refine⟨⟨?_,?_,?_,?_⟩,⟨?_,?_,?_⟩,⟨?_,?_⟩,?_⟩<;>(intro q;simp at q)
end
end PySem
namespace L2
open PySem PySem.Spec PyProof.Rows
end L2
namespace PySem
open PyProof.Rows
section
variable {prog:Program}{w:World}{A:Around}{E:Value→Shared→Prop}{s:Shared}
theorem wpAny_loadIfAlive {M:Model}{a:Addr}{Q:Option Obj→Shared→Prop}(h:Q (s.heap.get? a) s):wpAny M A (loadIfAlive a) Q E s:=fun Γ p hΓ=>by
 unfold loadIfAlive
 rw[Sem.wp_loadIfAlive]
 exact(wpAny_pure h:wpAny M A (pure (s.heap.get? a)) Q E s) Γ p hΓ
abbrev IsZipL (h:Heap)(z TI TO T0:Addr)(fl:Bool):Prop:=h.get? z=some {cls:=.type "zip",dict:=none,data:=.fields #[rawInt T0, .bool fl, .bool false, .ref TI, .ref TO],slots:=#[]}
theorem zip_busy {z TI TO T0:Addr}{fl:Bool}{o0:Obj}{Q:Bool→Shared→Prop}(zz:IsZipL s.heap z TI TO T0 fl)(h0:s.heap.get? T0=some o0)(h:∀g,IsZipL g z TI TO T0 true→Heap.ExtBut z s.heap g→g.objs.size=s.heap.objs.size→Q false {s with heap:=g}):
  wpAny (model prog w) A (Builtin.SmallTypes.ownedTupleIsFree (.ref z)) Q E s:=by
 unfold Builtin.SmallTypes.ownedTupleIsFree
 refine wpAny_bind (wpAny_field zz rfl (x:=rawInt T0) rfl ?_)
 show wpAny _ _ (loadIfAlive (T0:Int).toNat>>=_) _ _ _
 refine wpAny_bind (wpAny_loadIfAlive ?_)
 rw[Int.toNat_natCast,h0]
 rw[if_neg (by simp)]
 refine wpAny_bind (wpAny_field zz rfl (x:=.bool fl) rfl ?_)
 cases fl with
 |true=>exact wpAny_pure (h _ zz (fun _ _ _ e=>e) rfl)
 |false=>exact wpAny_bind (wpAny_setField_rec zz (by simp) fun g1 q1 r1=>wpAny_pure (h _ q1 r1.extBut r1.1))
theorem zipK_item {kb:Bool}{z TI TO i1 i2 t1 t2 T0:Addr}{fl:Bool}{k:Nat}{xs ys:Array Value}{x y:Value}{o0:Obj}{Q:Option Value→Shared→Prop}(nd:[z,TI,i1,i2].Nodup)(zz:IsZipL s.heap z TI TO T0 fl)(ti:IsPair s.heap TI (.ref i1) (.ref i2))
  (h0:s.heap.get? T0=some o0) (j1:s.heap.IsListIter i1 t1 k) (j2:SIt kb s.heap i2 t2 k) (n1:t1∉[z,i1,i2]) (n2:t2∉[z,i1,i2])
  (h1:s.heap.IsList t1 xs) (h2:SSq kb s.heap t2 ys) (hx:xs[k]?=some x) (hy:ys[k]?=some y)
  (hQ:∀h',IsZipL h' z TI TO T0 true→h'.IsListIter i1 t1 (k+1)→SIt kb h' i2 t2 (k+1)→IsPair h' s.heap.objs.size x y→h'.objs.size=s.heap.objs.size+1→
   (∀c o,c∉[z,i1,i2]→s.heap.get? c=some o→h'.get? c=some o)→Q (some (.ref s.heap.objs.size)) {s with heap:=h'}):wpAny (model prog w) A (pyNext (.ref z)) Q E s:=by
 simp only[List.nodup_cons,List.mem_cons,List.not_mem_nil,or_false,not_or,List.nodup_nil,and_true,not_false_eq_true]at nd n1 n2
 obtain⟨⟨zTI,z1,z2⟩,⟨TI1,TI2⟩,i12⟩:=nd
 obtain⟨a1,a3,a4⟩:=n1
 obtain⟨b1,b3,b4⟩:=n2
 have hT:s.TypeIs (.ref z) "zip":=⟨_,zz,rfl⟩
 unfold pyNext
 refine wpAny_bind (wpAny_attempt (wpAny_callSpecial?_slot (name:=Str.ofString "__next__") hT F.slot_zip_next (wpAny_call_entry F.slot_zip_next hT F.entry_zip_next ?_ (F.args_zip_next_1 _))))
 show wpAny _ _ (field (.ref z) 2>>=_) _ _ _
 refine wpAny_bind (wpAny_field zz rfl (x:=.bool false) rfl ?_)
 show wpAny _ _ (field (.ref z) 3>>=_) _ _ _
 refine wpAny_bind (wpAny_field zz rfl (x:=.ref TI) rfl (wpAny_bind (wpAny_seqItems ti rfl ?_)))
 show wpAny _ _ (Builtin.SmallTypes.ownedTupleIsFree (.ref z)>>=_) _ _ _
 refine wpAny_bind (zip_busy zz h0 fun g1 q1 r1 rs=>?_)
 rw[if_neg Bool.false_ne_true]
 dsimp only
 refine wpAny_bind ?_
 rw[←Array.forIn_toList]
 simp only[List.forIn_cons,List.forIn_nil]
 refine wpAny_bind (wpAny_bind (wpAny_holding ?_))
 show wpAny _ _ (Builtin.SmallTypes.nextOf (.ref i1)>>=_) _ _ _
 refine wpAny_bind (nextOfL_item (j1.extBut r1 (Ne.symm z1)) (h1.extBut r1 a1) hx fun g2 q2 r2=>wpAny_pure ?_)
 dsimp only
 refine wpAny_pure ?_
 dsimp only
 refine wpAny_bind (wpAny_bind (wpAny_holding ?_))
 show wpAny _ _ (Builtin.SmallTypes.nextOf (.ref i2)>>=_) _ _ _
 refine wpAny_bind (nextOfG_item ((j2.extBut r1 (Ne.symm z2)).extBut r2.extBut (Ne.symm i12)) ((h2.extBut r1 b1).extBut r2.extBut b3) hy fun g3 q3 r3=>wpAny_pure ?_)
 dsimp only
 refine wpAny_pure ?_
 dsimp only
 refine wpAny_pure ?_
 dsimp only
 refine wpAny_bind (wpAny_newTuple ?_ (by show 2≤sizeLine;rw[sizeLine_eq];decide))
 have sz:g3.objs.size=s.heap.objs.size:=by rw[r3.1,r2.1,rs]
 refine wpAny_pure ⟨_,rfl,wpAny_pure ?_⟩
 show Q (some (.ref g3.objs.size)) _
 rw[sz]
 have zz3:IsZipL g3 z TI TO T0 true:=r3.extBut _ _ z2 (r2.extBut _ _ z1 q1)
 have e1:g3.IsListIter i1 t1 (k+1):=q2.extBut r3.extBut i12
 refine hQ _ (Heap.get?_push_of_some _ zz3) (let ⟨o,e,r⟩:=e1;⟨o,Heap.get?_push_of_some _ e,r⟩) (let ⟨o,e,r⟩:=q3;⟨o,Heap.get?_push_of_some _ e,r⟩) (by rw[←sz];exact Heap.get?_push_size _ rfl) (by rw[Heap.size_push,sz]) fun c o hc e=>?_
 simp only[List.mem_cons,List.not_mem_nil,or_false,not_or]at hc
 exact Heap.get?_push_of_some _ (r3.extBut _ _ hc.2.2 (r2.extBut _ _ hc.2.1 (r1 _ _ hc.1 e)))
theorem zipK_end {z TI TO i1 i2 t1 T0:Addr}{fl:Bool}{k:Nat}{xs:Array Value}{o0:Obj}{Q:Option Value→Shared→Prop}(hh:A.handled=none)(nd:[z,TI,i1,i2].Nodup)(zz:IsZipL s.heap z TI TO T0 fl)(ti:IsPair s.heap TI (.ref i1) (.ref i2))
  (h0:s.heap.get? T0=some o0) (j1:s.heap.IsListIter i1 t1 k) (n1:t1∉[z,i1,i2]) (h1:s.heap.IsList t1 xs) (hx:xs[k]?=none)
  (hQ:∀h',(∀c o,c∉[z,i1,i2]→s.heap.get? c=some o→h'.get? c=some o)→Q none {s with heap:=h'}):wpAny (model prog w) A (pyNext (.ref z)) Q E s:=by
 simp only[List.nodup_cons,List.mem_cons,List.not_mem_nil,or_false,not_or,List.nodup_nil,and_true,not_false_eq_true]at nd n1
 obtain⟨⟨zTI,z1,z2⟩,⟨TI1,TI2⟩,i12⟩:=nd
 obtain⟨a1,a3,a4⟩:=n1
 have hT:s.TypeIs (.ref z) "zip":=⟨_,zz,rfl⟩
 unfold pyNext
 refine wpAny_bind (wpAny_attempt (wpAny_callSpecial?_slot (name:=Str.ofString "__next__") hT F.slot_zip_next (wpAny_call_entry F.slot_zip_next hT F.entry_zip_next ?_ (F.args_zip_next_1 _))))
 show wpAny _ _ (field (.ref z) 2>>=_) _ _ _
 refine wpAny_bind (wpAny_field zz rfl (x:=.bool false) rfl ?_)
 show wpAny _ _ (field (.ref z) 3>>=_) _ _ _
 refine wpAny_bind (wpAny_field zz rfl (x:=.ref TI) rfl (wpAny_bind (wpAny_seqItems ti rfl ?_)))
 show wpAny _ _ (Builtin.SmallTypes.ownedTupleIsFree (.ref z)>>=_) _ _ _
 refine wpAny_bind (zip_busy zz h0 fun g1 q1 r1 rs=>?_)
 rw[if_neg Bool.false_ne_true]
 dsimp only
 refine wpAny_bind ?_
 rw[←Array.forIn_toList]
 simp only[List.forIn_cons,List.forIn_nil]
 refine wpAny_bind (wpAny_bind (wpAny_holding ?_))
 show wpAny _ _ (Builtin.SmallTypes.nextOf (.ref i1)>>=_) _ _ _
 refine wpAny_bind (nextOfL_end hh (j1.extBut r1 (Ne.symm z1)) (h1.extBut r1 a1) hx fun g2 e r2 he=>?_)
 obtain⟨oe,ho,hc⟩:=he
 refine wpAny_bind (wpAny_isInstance (T:="StopIteration") (b:=true) ⟨oe,ho,hc⟩ isSubtype_stop ?_)
 exact wpAny_pure (hQ _ fun c o hcc e=>by
  simp only[List.mem_cons,List.not_mem_nil,or_false,not_or]at hcc
  exact r2 _ _ hcc.2.1 (r1 _ _ hcc.1 e))
theorem in4 {a b c d e x:Addr}(h:x∈[a,c,d,e]):x∈[a,b,c,d,e]:=(List.Sublist.cons_cons a (List.sublist_cons_self b _)).subset h
theorem in3 {a b c d e x:Addr}(h:x∈[a,d,e]):x∈[a,b,c,d,e]:=in4 ((List.Sublist.cons_cons a (List.sublist_cons_self c _)).subset h)
structure ZW (kb:Bool)(h:Heap)(z TI TO i1 i2 t1 t2 N:Addr)(xs ys:Array Value)(k:Nat):Prop where
 zz:ZipG true kb h z TI TO i1 i2 t1 t2 k∧h.objs.size=N∨∃fl o,IsZipL h z TI TO N fl∧h.get? N=some o∧IsPair h TI (.ref i1) (.ref i2)∧SIt true h i1 t1 k∧SIt kb h i2 t2 k
 h1:SSq true h t1 xs
 h2:SSq kb h t2 ys
section
variable {z TI TO i1 i2 t1 t2 N S:Addr}{xs ys:Array Value}{k:Nat}{kb:Bool}
theorem ZipG.up {K1 K2:Bool}{h h':Heap}(Z:ZipG K1 K2 h z TI TO i1 i2 t1 t2 k)(kp:∀b o,b∈[z,TI,TO,i1,i2]→h.get? b=some o→h'.get? b=some o):ZipG K1 K2 h' z TI TO i1 i2 t1 t2 k:=by
 obtain⟨nd,zz,ti,⟨u,v,tO⟩,j1,j2⟩:=Z
 exact⟨nd,kp _ _ (by simp) zz,kp _ _ (by simp) ti,⟨u,v,kp _ _ (by simp) tO⟩,j1.up fun o=>kp _ o (by simp),j2.up fun o=>kp _ o (by simp)⟩
theorem ZW.up {h h':Heap}(W:ZW kb h z TI TO i1 i2 t1 t2 N xs ys k)(kp:∀b o,b≠S→h.get? b=some o→h'.get? b=some o)(hs:h'.objs.size=h.objs.size)(sS:S∉[z,TI,TO,i1,i2])(sN:N≠S)(m1:t1≠S)(m2:t2≠S):ZW kb h' z TI TO i1 i2 t1 t2 N xs ys k:=by
 have kq:∀b o,b∈[z,TI,TO,i1,i2]→h.get? b=some o→h'.get? b=some o:=fun b o hb=>kp b o fun q=>sS (q ▸ hb)
 refine⟨?_,W.h1.up fun o=>kp _ o m1,W.h2.up fun o=>kp _ o m2⟩
 rcases W.zz with ⟨Z,e⟩|⟨fl,o,zz,h0,ti,j1,j2⟩
 ·exact .inl ⟨Z.up kq,hs.trans e⟩
 ·exact .inr ⟨fl,o,kq _ _ (by simp) zz,kp _ _ sN h0,kq _ _ (by simp) ti,j1.up fun o=>kq _ o (by simp),j2.up fun o=>kq _ o (by simp)⟩
theorem zw_item {x y:Value}{Q:Option Value→Shared→Prop}(W:ZW kb s.heap z TI TO i1 i2 t1 t2 N xs ys k)(nd:[z,TI,TO,i1,i2].Nodup)(n1:t1∉[z,TI,TO,i1,i2])(n2:t2∉[z,TI,TO,i1,i2])(nN:N∉[z,TI,TO,i1,i2])(hx:xs[k]?=some x)(hy:ys[k]?=some y)
  (hQ:∀h',ZW kb h' z TI TO i1 i2 t1 t2 N xs ys (k+1)→IsPair h' s.heap.objs.size x y→h'.objs.size=s.heap.objs.size+1→(∀c o,c∉[z,TI,TO,i1,i2]→s.heap.get? c=some o→h'.get? c=some o)→Q (some (.ref s.heap.objs.size)) {s with heap:=h'}):
  wpAny (model prog w) A (pyNext (.ref z)) Q E s:=by
 obtain⟨Z,h1,h2⟩:=W
 rcases Z with ⟨Z,rfl⟩|⟨fl,o,zz,h0,ti,j1,j2⟩
 ·refine zipG_item Z (fun q=>n1 (in4 q)) (fun q=>n2 (in4 q)) h1 h2 hx hy fun h' q1 q2 q3 q4 q5 q6 q7 kp=>?_
  have kq:∀c o,c∉[z,TI,TO,i1,i2]→s.heap.get? c=some o→h'.get? c=some o:=fun c o hc=>kp c o fun q=>hc (in4 q)
  exact hQ h' ⟨.inr ⟨false,_,q1,q6,q2,q4,q5⟩,h1.up fun o=>kq _ o n1,h2.up fun o=>kq _ o n2⟩ q6 q7 kq
 ·refine zipK_item (nd.sublist (by simp)) zz ti h0 j1 j2 (fun q=>n1 (in3 q)) (fun q=>n2 (in3 q)) h1 h2 hx hy fun h' q1 q4 q5 q6 q7 kp=>?_
  have kq:∀c o,c∉[z,TI,TO,i1,i2]→s.heap.get? c=some o→h'.get? c=some o:=fun c o hc=>kp c o fun q=>hc (in3 q)
  refine hQ h' ⟨.inr ⟨true,_,q1,kq _ _ nN h0,kp TI _ (fun q=>?_) ti,q4,q5⟩,h1.up fun o=>kq _ o n1,h2.up fun o=>kq _ o n2⟩ q6 q7 kq
  simp only[List.nodup_cons,List.mem_cons,List.not_mem_nil,or_false,not_or]at nd q
  exact q.elim (fun h=>nd.1.1 h.symm) fun h=>h.elim nd.2.1.2.1 nd.2.1.2.2
theorem zw_end {Q:Option Value→Shared→Prop}(hh:A.handled=none)(W:ZW kb s.heap z TI TO i1 i2 t1 t2 N xs ys k)(nd:[z,TI,TO,i1,i2].Nodup)(n1:t1∉[z,TI,TO,i1,i2])(hx:xs[k]?=none)
  (hQ:∀h',(∀c o,c∉[z,TI,TO,i1,i2]→s.heap.get? c=some o→h'.get? c=some o)→Q none {s with heap:=h'}):wpAny (model prog w) A (pyNext (.ref z)) Q E s:=by
 obtain⟨Z,h1,h2⟩:=W
 rcases Z with ⟨Z,_⟩|⟨fl,o,zz,h0,ti,j1,j2⟩
 ·exact zipG_end hh Z (fun q=>n1 (in4 q)) h1 hx fun h' kp=>hQ h' fun c o hc=>kp c o fun q=>hc (in4 q)
 ·exact zipK_end hh (nd.sublist (by simp)) zz ti h0 j1 (fun q=>n1 (in3 q)) h1 hx fun h' kp=>hQ h' fun c o hc=>kp c o fun q=>hc (in3 q)
end
end
section
variable {prog:Program}{w:World}{A:Around}{R:Result→Shared→Prop}
end
namespace F
end F
section
variable {prog:Program}{w:World}{A:Around}{E:Value→Shared→Prop}{s:Shared}
end
end PySem
namespace L2
open PySem PySem.Spec PyProof.Rows
section
variable {X:Cx}{pins:List (Addr×Obj)}{σ:St}{s:Shared}
end
end L2
namespace PySem
open PyProof.Rows
namespace F
theorem zip_nokeys:typeLookup (.type "zip") "keys"=pure none:=am_miss_of_fast (by decide+kernel)
theorem entry_zip_ga:entryFor table "zip.__getattribute__"=some Builtin.«object.__getattribute__» :=
 entryFor_alias (id':="object.__getattribute__") (by kernel_rfl) (by first|rfl|decide+kernel) (by decide+kernel) (by kernel_rfl)
theorem zip_nogetattr:typeLookup (.type "zip") "__getattr__"=pure none:=am_miss_of_fast (by decide+kernel)
end F
section
variable {prog:Program}{w:World}{A:Around}{E:Value→Shared→Prop}{s:Shared}
theorem wpAny_miss_zip {a:Addr}{fs:Array Value}{u:Tok}{Q:Fin→Shared→Prop}(hx:s.heap.get? a=some {cls:=.type "zip",dict:=none,data:=.fields fs,slots:=#[]})(hh:A.handled=none)
  (h:∀h' tk e,Heap.NewAttrErr s.heap h' e (.ref a) "keys"→E (.ref e) {s with heap:=h',toks:=tk}):
  wpAny (model prog w) A (Builtin.«object.__getattribute__» ⟨[.ref a, .str "keys" u],[]⟩) Q E s:=by
 obtain⟨hp,g,d,tk,os⟩:=s
 have hT:(⟨hp,g,d,tk,os⟩:Shared).TypeIs (.ref a) "zip":=⟨_,hx,rfl⟩
 have hmiss:=F.zip_nokeys
 unfold Builtin.«object.__getattribute__»
 repeat (any_goals (first|assumption|wp_step))
 exact wpAny_raiseAttrError hh h (attrMsg_fits (by decide+kernel) (by rw[sizeLine_eq];decide+kernel))
theorem wpAny_nokeys_zip {a:Addr}{fs:Array Value}{Q:Option Value→Shared→Prop}(hx:s.heap.get? a=some {cls:=.type "zip",dict:=none,data:=.fields fs,slots:=#[]})(hh:A.handled=none)
  (h:∀h' tk,(∀b o,s.heap.get? b=some o→h'.get? b=some o)→Q none {s with heap:=h',toks:=tk}):wpAny (model prog w) A (getAttr? (.ref a) "keys") Q E s:=by
 obtain⟨hp,g,d,tk,os⟩:=s
 have hT:∀tk,(⟨hp,g,d,tk,os⟩:Shared).TypeIs (.ref a) "zip":=fun _=>⟨_,hx,rfl⟩
 have f1:=sub_AttributeError
 have f3:=F.slot_zip_getattribute.lookup
 have f4:=F.slot_zip_getattribute.bind (.ref a)
 have f5:=F.zip_nogetattr
 unfold getAttr? getAttrBy? getAttrBy
 repeat (any_goals (first|assumption|wp_step))
 refine codeAny_call_builtin F.slot_zip_getattribute.plain F.entry_zip_ga (F.slot_zip_getattribute.check _ _ _ _ _ _ _ _ (hT _) (F.args_zip_getattribute_2 _ _) (wpAny_miss_zip hx hh fun h' tk' e hx'=>?_))
 obtain⟨t',u',he⟩:=hx'.there
 have hE:∀tk,(⟨h',g,d,tk,os⟩:Shared).TypeIs (.ref e) "AttributeError":=fun _=>⟨_,he,rfl⟩
 show wpAny _ _ (getattributeRaised _ _ _ _ _ _ _) _ _ _
 unfold getattributeRaised
 repeat (any_goals (first|assumption|wp_step))
 exact h h' tk' hx'.keeps
end
namespace F
theorem plain_upd_loop:plainId "dict.update.loop"=true:=by decide+kernel
theorem entry_upd_loop:entryFor table "dict.update.loop"=some Builtin.«dict.update.loop»:=entryFor_of_fast (by kernel_rfl)
end F
section
variable {prog:Program}{w:World}{K:Type}[DecidableEq K]{knd:KeyKind prog w K}{A:Around}{R:Result→Shared→Prop}
theorem Heap.DictOf.kept {h h':Heap}{a:Addr}{kvs:List (K×Value)}(hm:h.DictOf knd a kvs)(k:∀o,h.get? a=some o→h'.get? a=some o):h'.DictOf knd a kvs:=let ⟨o,es,ep,ho,r⟩:=hm;⟨o,es,ep,k o ho,r⟩
theorem upd_zipK {kb:Bool}{z TI TO i1 i2 t1 t2 S N:Addr}{xs ys:Array Value}(ks:Nat→K)(hh:A.handled=none)(hxy:xs.size=ys.size)(hk:∀j x,xs[j]?=some x→knd.is (ks j) x=true)(res:Value)
  (nd:[z,TI,TO,i1,i2].Nodup) (lt:∀b∈[z,TI,TO,i1,i2],b<N) (sS:S∉[z,TI,TO,i1,i2]) (sN:S<N) (n1:t1∉[z,TI,TO,i1,i2]) (m1:t1≠S) (n2:t2∉[z,TI,TO,i1,i2]) (m2:t2≠S):
  ∀(m i:Nat) (s:Shared) (kvs:List (K×Value)) (tk:Tok),xs.size=i+m→ZW kb s.heap z TI TO i1 i2 t1 t2 N xs ys i→N≤s.heap.objs.size→s.heap.DictOf knd S kvs→kvs.length+m≤sizeLine→
  (∀h' tk',(∀b o,b∉[S,z,TI,TO,i1,i2]→s.heap.get? b=some o→h'.get? b=some o)→h'.DictOf knd S ((List.range' i m).foldl (fun acc j=>stored acc (ks j) (ys.getD j .none)) kvs)→R (.ok (.ret res)) {s with heap:=h',toks:=tk'})→
  codeAny (model prog w) A (.builtin "dict.update.loop" ⟨[.ref S, .ref z, .int i tk,res],[]⟩) R s:=by
 have nP:∀j,N≤j→j∉[z,TI,TO,i1,i2]:=fun j l h=>absurd (lt _ h) (Nat.not_lt.mpr l)
 intro m
 induction m with
 |zero=>
  intro i s kvs tk hm W sz hS hl hR
  obtain rfl:xs.size=i:=hm
  refine codeAny_builtin F.entry_upd_loop ?_
  rw[Around.under_plainId F.plain_upd_loop _]
  show wpAny _ _ (pyNext (.ref z)>>=_) _ _ _
  refine wpAny_bind (zw_end hh W nd n1 (by simp) fun h' kp=>?_)
  show wpAny _ _ (Builtin.Dict.addKeywords S []>>=_) _ _ _
  exact wpAny_bind (wpAny_pure (wpAny_pure (hR h' s.toks (fun b o hb=>kp b o fun q=>hb (List.mem_cons_of_mem _ q)) (hS.kept fun o=>kp S o sS))))
 |succ m ih=>
  intro i s kvs tk hm W sz hS hl hR
  have hlt:i<xs.size:=by rw[hm];exact Nat.lt_add_of_pos_right (Nat.succ_pos _)
  have hx:xs[i]?=some xs[i]:=by simp[hlt]
  have hy:ys[i]?=some (ys[i]'(hxy ▸ hlt)):=by simp
  refine codeAny_builtin F.entry_upd_loop ?_
  rw[Around.under_plainId F.plain_upd_loop _]
  show wpAny _ _ (pyNext (.ref z)>>=_) _ _ _
  refine wpAny_bind (zw_item W nd n1 n2 (nP N (Nat.le_refl _)) hx hy fun h' W' np sz' kp=>?_)
  have hS':=hS.kept fun o=>kp S o sS
  have hT:Shared.TypeIs {s with heap:=h'} (.ref s.heap.objs.size) "tuple":=⟨_,np,rfl⟩
  refine wpAny_bind (wpAny_holding ?_)
  refine wpAny_bind ?_
  refine wpAny_tryCatch ?_
  unfold Builtin.Dict.pairItems
  refine wpAny_bind (wpAny_typeOf hT ?_)
  rw[if_pos (by decide)]
  refine wpAny_bind (wpAny_seqItems np rfl (wpAny_pure ?_))
  show wpAny _ _ (holding [xs[i],ys[i]'(hxy ▸ hlt)] (dictSet S xs[i] (ys[i]'(hxy ▸ hlt)))) _ _ _
  refine wpAny_holding (wpAny_dictSet_pairs (s:={s with heap:=h'}) (hk i _ hx) hS' (fun h2 hd2 hs2=>?_) (by omega))
  have k2:∀b o,b≠S→h'.get? b=some o→h2.get? b=some o:=fun b o hb e=>(hs2.2 b hb).trans e
  refine wpAny_pure ⟨plainId_quiet F.plain_upd_loop _,?_⟩
  refine ih (i+1) {s with heap:=h2,toks:=s.toks+1} _ _ (by rw[hm,Nat.succ_add];rfl) (W'.up k2 hs2.1 sS (Nat.ne_of_gt sN) m1 m2) (by show N≤h2.objs.size;rw[hs2.1,sz'];exact Nat.le_succ_of_le sz) hd2 ?_ fun h3 tk3 kp3 hd3=>?_
  ·have:=stored_length_le kvs (ks i) (ys[i]'(hxy ▸ hlt))
   omega
  ·refine hR h3 tk3 (fun b o hb e=>kp3 b o hb (k2 b o (fun q=>hb (by rw[q];exact List.mem_cons_self)) (kp b o (fun q=>hb (List.mem_cons_of_mem _ q)) e))) ?_
   rw[List.range'_succ,List.foldl_cons]
   have e:ys.getD i .none=ys[i]'(hxy ▸ hlt):=by simp[Array.getD,hxy ▸ hlt]
   rw[e]
   exact hd3
end
section
variable {prog:Program}{w:World}{K:Type}[DecidableEq K]{knd:KeyKind prog w K}{A:Around}{E:Value→Shared→Prop}{s:Shared}
theorem call_dict_zipK {kb:Bool}{z TI TO i1 i2 t1 t2:Addr}{xs ys:Array Value}(ks:Nat→K){Q:Value→Shared→Prop}(hh:A.handled=none)(hn:xs.size≤sizeLine)(hxy:xs.size=ys.size)(hk:∀j x,xs[j]?=some x→knd.is (ks j) x=true)(Z:ZipG true kb s.heap z TI TO i1 i2 t1 t2 0)
  (h1:s.heap.IsList t1 xs) (h2:SSq kb s.heap t2 ys) (n1:t1∉[z,TI,TO,i1,i2]) (n2:t2∉[z,TI,TO,i1,i2])
  (hQ:∀h' tk',(∀b o,b∉[s.heap.objs.size,z,TI,TO,i1,i2]→s.heap.get? b=some o→h'.get? b=some o)→h'.DictOf knd s.heap.objs.size ((List.range' 0 xs.size).foldl (fun acc j=>stored acc (ks j) (ys.getD j .none)) [])→Q (.ref s.heap.objs.size) {s with heap:=h',toks:=tk'}):
  wpAny (model prog w) A (call (.type "dict") [.ref z]) Q E s:=by
 have lt:∀c∈[z,TI,TO,i1,i2],c<s.heap.objs.size:=fun c hc=>by
  simp only[List.mem_cons,List.not_mem_nil,or_false]at hc
  obtain⟨nd,zz,ti,⟨u,v,tO⟩,⟨o1,j1,c1,d1⟩,⟨o2,j2,c2,d2⟩⟩:=Z
  rcases hc with rfl|rfl|rfl|rfl|rfl
  ·exact Heap.lt_size zz
  ·exact Heap.lt_size ti
  ·exact Heap.lt_size tO
  ·exact Heap.lt_size j1
  ·exact Heap.lt_size j2
 refine callType_codes (Q₁:=fun obj s₁=>obj=.ref s.heap.objs.size∧s₁={s with heap:=s.heap.push {cls:=.type "dict",data:=.dict #[]}}) F.kt_called_dict (F.kt_typeCall_dict_1 _) F.entry_dict_init (kt_code_dict_new _ ⟨rfl,rfl⟩) ?_
 rintro obj s₁ ⟨rfl,rfl⟩
 have hnew:(s.heap.push {cls:=.type "dict",data:=.dict #[]}).DictOf knd s.heap.objs.size []:=Heap.DictOf.new s.heap
 have up:∀b o,s.heap.get? b=some o→(s.heap.push {cls:=.type "dict",data:=.dict #[]}).get? b=some o:=fun b o e=>Heap.get?_push_of_some _ e
 have szp:(s.heap.push {cls:=.type "dict",data:=.dict #[]}).objs.size=s.heap.objs.size+1:=Heap.size_push ..
 refine⟨hnew.typeIs,F.args_dict_init_2 _ _,?_⟩
 revert hnew up szp
 generalize s.heap.push {cls:=.type "dict",data:=.dict #[]}=g
 intro hnew up szp
 have Z1:ZipG true kb g z TI TO i1 i2 t1 t2 0:=Z.up fun b o _=>up b o
 unfold Builtin.«dict.__init__»
 refine wpAny_bind ?_
 unfold Builtin.Dict.selfAndRest
 refine wpAny_bind (wpAny_notOrdered_dict hnew.typeIs ?_)
 show wpAny _ _ (pure (s.heap.objs.size,[Value.ref z])) _ _ _
 refine wpAny_pure ?_
 show wpAny _ _ (Builtin.Dict.updateFrom "dict.__init__" s.heap.objs.size (.ref z) [] .none) _ _ _
 unfold Builtin.Dict.updateFrom
 have hT:Shared.TypeIs {s with heap:=g} (.ref z) "zip":=⟨_,Z1.zz,rfl⟩
 refine wpAny_bind (wpAny_typeOf hT ?_)
 rw[if_pos (by decide)]
 refine wpAny_bind (wpAny_nokeys_zip Z1.zz hh fun h3 tk3 kp3=>?_)
 rw[if_pos (show(Option.none (α:=Value)).isNone=true from rfl)]
 have Z3:ZipG true kb h3 z TI TO i1 i2 t1 t2 0:=Z1.up fun b o _=>kp3 b o
 have hd3:=hnew.kept fun o=>kp3 _ o
 refine wpAny_bind (wpAny_rule (wpAny_bind (wpAny_pyIter_zip (s:={s with heap:=h3,toks:=tk3}) Z3.zz ?_)))
 have neS:∀c∈[z,TI,TO,i1,i2],c≠s.heap.objs.size:=fun c hc e=>by have:=lt c hc;rw[e]at this;exact Nat.lt_irrefl _ this
 have ne1:t1≠s.heap.objs.size:=h1.elim fun o e=>Nat.ne_of_lt (Heap.lt_size e.1)
 have ne2:t2≠s.heap.objs.size:=by
  cases kb with
  |true=>exact h2.elim fun o e=>Nat.ne_of_lt (Heap.lt_size e.1)
  |false=>exact h2.elim fun o e=>Nat.ne_of_lt (Heap.lt_size e.1)
 have s3:s.heap.objs.size<h3.objs.size:=by
  obtain⟨o,_,_,ho,_⟩:=hd3
  exact Heap.lt_size ho
 refine wpAny_pure ⟨plainId_quiet F.plain_upd_loop _,upd_zipK (A:=A.in1) (N:=h3.objs.size) (S:=s.heap.objs.size) ks hh hxy hk .none Z.nd (fun b hb=>Nat.lt_trans (lt b hb) s3) (fun h=>neS _ h rfl) s3 n1 ne1 n2 ne2 xs.size 0 _ [] _ (Nat.zero_add _).symm
  ⟨.inl ⟨Z3,rfl⟩,SSq.up (b:=true) h1 fun o e=>kp3 _ o (up _ o e),SSq.up (b:=kb) h2 fun o e=>kp3 _ o (up _ o e)⟩ (Nat.le_refl _) hd3 (by simpa using hn) fun h' tk' kp hd=>?_⟩
 exact⟨rfl,hQ h' tk' (fun b o hb e=>kp b o hb (kp3 b o (up b o e))) hd⟩
end
end PySem
namespace L2
open PySem PySem.Spec PyProof.Rows
def seqO:Bool→List V→HO
 |true=>.lst
 |false=>.tup
def tDictZip (ta:TA):TE:=fun σ H Q=>ta σ H fun vs H1=>∃(kb:Bool) (a b:Addr) (ks:List Key) (ys:List V),vs=[.ref a, .ref b]∧H1 a=some (.lst (ks.map kV))∧H1 b=some (seqO kb ys)∧ks.length=ys.length∧∀p,H1 p=none→Q (.ref p) (upd H1 p (.dK (mergeK [] (ks.zip ys))))
theorem kv_zip:∀{ks:List Key} {ys:List V} {us:List Value},Vals ys us→ks.length=ys.length→KV (ks.zip ys) (ks.zip us)
 |[],_,_,_,_=>.nil
 |k::ks,_,_, .cons r rr,h=>.cons ⟨rfl,r⟩ (kv_zip rr (Nat.succ.inj h))
theorem mergeK_len (more:List (Key×V)):∀kvs:List (Key×V),(mergeK kvs more).length≤kvs.length+more.length:=by
 induction more with
 |nil=>intro kvs;exact Nat.le_refl _
 |cons p r ih=>
  intro kvs
  have h1:=ih (putK kvs p.1 p.2)
  have h2:=length_putK kvs p.1 p.2
  show(mergeK (putK kvs p.1 p.2) r).length≤_
  rw[List.length_cons]
  omega
theorem pe_dictZip {X:Cx}{e1 e2:Expr}{ta:TA}{p pos p2 pos2:Pos}(hc:X.calm=true)(hgl:Gl X "dict")(hml:X.mg "dict"=none)(hg:Gl X "zip")(hm:X.mg "zip"=none)(hbd:bootBuiltins "dict"=some (.type "dict"))(ha:PA X [e1,e2] ta)
  (hs1:starEach [Expr.Call (.Name "zip" p2) [e1,e2] [] pos2] X.env=[(false,eval (Expr.Call (.Name "zip" p2) [e1,e2] [] pos2) X.env)]:=by rfl)
  (hs:starEach [e1,e2] X.env=[(false,eval e1 X.env),(false,eval e2 X.env)]:=by rfl) (hs2:starEach [e2] X.env=[(false,eval e2 X.env)]:=by rfl):
  PE X (.Call (.Name "dict" p) [.Call (.Name "zip" p2) [e1,e2] [] pos2] [] pos) (tDictZip ta):=by
 intro pins s σ H Q I h
 refine wpAny_Call_Name_kw (ld_blt I hgl hml hbd ?_ (by decide) (by decide))
 refine PyProof.Rows.callWith_type1 ?_ hs1 rfl
 rw[hs1]
 refine Calls.spliced_cons ?_
 refine Call_ (ld_blt I hg hm boot_zip' (PyProof.Rows.callWith_type1 (thn (ha pos2 pins s σ H _ I h) fun us s1 ⟨vs,H1,I1,r1,q1⟩=>?_) (by rw[hs,hs2]) (by rw[hs2];rfl)))
 obtain⟨kb,a,b,ks,ys,rfl,h1,h2,hlen,q⟩:=q1
 cases r1 with
 |cons r rr=>
  cases rr with
  |cons r' rr=>
   cases rr
   cases r
   cases r'
   obtain⟨its1,rv1,p1,z1⟩:=I1.list (SqL.of (K:=X.K) h1)
   obtain⟨its2,rv2,p2',z2⟩:∃its:List Value,Vals ys its∧SSq kb s1.heap b its.toArray∧ys.length≤sizeLine:=by
    cases kb with
    |true=>obtain⟨its,a1,a2,a3⟩:=I1.list (SqL.of (K:=X.K) h2);exact⟨its,a1,a2.isList,a3⟩
    |false=>obtain⟨its,a1,a2,a3⟩:=I1.tuple (SqT.of (K:=X.K) h2);exact⟨its,a1,a2,a3⟩
   have l1:=rv1.length
   have l2:=rv2.length
   rw[List.length_map]at l1
   refine call_zipG (K1:=true) (K2:=kb) rfl p1.isList p2' fun h2' z TI TO i1 i2 g1 g2 g3 g4 g5 Z kp=>?_
   refine Calls.spliced_nil ?_
   have alt:a<s1.heap.objs.size:=p1.isList.elim fun o e=>Heap.lt_size e.1
   have blt:b<s1.heap.objs.size:=p2'.elim fun o e=>Heap.lt_size e.1
   have ge:∀c∈[z,TI,TO,i1,i2],s1.heap.objs.size≤c:=fun c hc=>by
    simp only[List.mem_cons,List.not_mem_nil,or_false]at hc
    rcases hc with rfl|rfl|rfl|rfl|rfl<;>assumption
   have szl:s1.heap.objs.size≤h2'.objs.size:=Nat.le_trans g1 (Nat.le_of_lt (Heap.lt_size Z.zz))
   have zl:its2.length≤sizeLine:=by rw[←l2];exact z2
   refine call_dict_zipK (knd:=mixKind X.prog X.w) (s:={s1 with heap:=h2'}) (fun j=>ks.getD j (Sum.inl 0)) (I1.ok.hd hc) (by simp;omega) (by simp;omega) (fun j x hx=>?_) Z (SSq.up (b:=true) p1.isList (kp _)) (SSq.up (b:=kb) p2' (kp _))
    (fun q=>absurd (ge _ q) (Nat.not_le.mpr alt)) (fun q=>absurd (ge _ q) (Nat.not_le.mpr blt)) fun h3 tk3 kp3 hD=>?_
   ·have hj:j<its1.length:=by simpa using(Array.getElem?_eq_some_iff.mp hx).1
    have hk:ks[j]?=some (ks[j]'(by omega)):=List.getElem?_eq_getElem _
    obtain⟨u,hu,ru⟩:=rv1.get (x:=kV (ks[j]'(by omega))) (i:=j) (by rw[List.getElem?_map,hk];rfl)
    rw[List.getElem?_toArray,hu]at hx
    cases hx
    rw[List.getD_eq_getElem?_getD,hk]
    exact kV_is ru
   have kp1:∀c o,s1.heap.get? c=some o→h3.get? c=some o:=fun c o e=>kp3 c o (fun q=>by
    have hlt:=Heap.lt_size e
    rcases List.mem_cons.mp q with q|q
    ·rw[q]at hlt
     exact absurd hlt (Nat.not_lt.mpr szl)
    ·exact absurd (ge c q) (Nat.not_le.mpr hlt)) (kp c o e)
   have e0:(List.range' 0 its1.toArray.size).foldl (fun acc j=>stored acc (ks.getD j (Sum.inl 0)) (its2.toArray.getD j .none)) []=merged [] (ks.zip its2):=by
    have:ks.zip its2=(List.range' 0 its1.toArray.size).map fun j=>(ks.getD j (Sum.inl 0),its2.toArray.getD j .none):=by
     refine List.ext_getElem? fun j=>?_
     by_cases hj:j<ks.length
     ·rw[List.getElem?_map,List.getElem?_range' (by simp;omega)]
      have hj2:j<its2.length:=by omega
      simp[List.getElem?_zip_eq_some,List.getElem?_eq_getElem,hj,hj2]
     ·rw[List.getElem?_eq_none (by rw[List.length_zip];omega),List.getElem?_eq_none (by simp;omega)]
    rw[this]
    unfold merged
    rw[List.foldl_map]
   rw[e0]at hD
   have rel:KV (mergeK [] (ks.zip ys)) (merged [] (ks.zip its2)):=KV.merge (kv_zip rv2 hlen) .nil
   have zm:(mergeK [] (ks.zip ys)).length≤sizeLine:=by
    have:=mergeK_len (ks.zip ys) []
    rw[List.length_zip]at this
    simp at this
    omega
   have big:(h2'.objs.size==sysModules)=false:=beq_eq_false_iff_ne.mpr (Ne.symm (Nat.ne_of_lt (Nat.lt_of_lt_of_le I1.big szl)))
   have I3:=I1.laid (a:=h2'.objs.size) (o:=.dK (mergeK [] (ks.zip ys))) (h':=h3) (t':=tk3) kp1 szl (dk_new zm big rel hD)
   exact⟨.ref h2'.objs.size,_,I3,rfl,q _ (I1.hok.fresh szl)⟩
end L2
namespace PySem
open PyProof.Rows
namespace F
theorem list_nokeys:typeLookup (.type "list") "keys"=pure none:=am_miss_of_fast (by decide+kernel)
theorem list_nogetattr:typeLookup (.type "list") "__getattr__"=pure none:=am_miss_of_fast (by decide+kernel)
theorem entry_list_gaD:entryFor table "list.__getattribute__"=some Builtin.«object.__getattribute__» :=
 entryFor_alias (id':="object.__getattribute__") (by kernel_rfl) (by first|rfl|decide+kernel) (by decide+kernel) (by kernel_rfl)
end F
section
variable {prog:Program}{w:World}{A:Around}{E:Value→Shared→Prop}{s:Shared}
theorem wpAny_miss_list {a:Addr}{xs:Array Value}{c:Nat}{u:Tok}{Q:Fin→Shared→Prop}(hx:s.heap.get? a=some {cls:=.type "list",dict:=none,data:=.seq xs c,slots:=#[]})(hh:A.handled=none)
  (h:∀h' tk e,Heap.NewAttrErr s.heap h' e (.ref a) "keys"→E (.ref e) {s with heap:=h',toks:=tk}):
  wpAny (model prog w) A (Builtin.«object.__getattribute__» ⟨[.ref a, .str "keys" u],[]⟩) Q E s:=by
 obtain⟨hp,g,d,tk,os⟩:=s
 have hT:(⟨hp,g,d,tk,os⟩:Shared).TypeIs (.ref a) "list":=⟨_,hx,rfl⟩
 have hmiss:=F.list_nokeys
 unfold Builtin.«object.__getattribute__»
 repeat (any_goals (first|assumption|wp_step))
 exact wpAny_raiseAttrError hh h (attrMsg_fits (by decide+kernel) (by rw[sizeLine_eq];decide+kernel))
theorem wpAny_nokeys_list {a:Addr}{xs:Array Value}{c:Nat}{Q:Option Value→Shared→Prop}(hx:s.heap.get? a=some {cls:=.type "list",dict:=none,data:=.seq xs c,slots:=#[]})(hh:A.handled=none)
  (h:∀h' tk,(∀b o,s.heap.get? b=some o→h'.get? b=some o)→Q none {s with heap:=h',toks:=tk}):wpAny (model prog w) A (getAttr? (.ref a) "keys") Q E s:=by
 obtain⟨hp,g,d,tk,os⟩:=s
 have hT:∀tk,(⟨hp,g,d,tk,os⟩:Shared).TypeIs (.ref a) "list":=fun _=>⟨_,hx,rfl⟩
 have f1:=sub_AttributeError
 have f3:=F.slot_list_getattribute.lookup
 have f4:=F.slot_list_getattribute.bind (.ref a)
 have f5:=F.list_nogetattr
 unfold getAttr? getAttrBy? getAttrBy
 repeat (any_goals (first|assumption|wp_step))
 refine codeAny_call_builtin F.slot_list_getattribute.plain F.entry_list_gaD (F.slot_list_getattribute.check _ _ _ _ _ _ _ _ (hT _) (F.args_list_getattribute_2 _ _) (wpAny_miss_list hx hh fun h' tk' e hx'=>?_))
 obtain⟨t',u',he⟩:=hx'.there
 have hE:∀tk,(⟨h',g,d,tk,os⟩:Shared).TypeIs (.ref e) "AttributeError":=fun _=>⟨_,he,rfl⟩
 show wpAny _ _ (getattributeRaised _ _ _ _ _ _ _) _ _ _
 unfold getattributeRaised
 repeat (any_goals (first|assumption|wp_step))
 exact h h' tk' hx'.keeps
end
end PySem
namespace L2
open PySem PySem.Spec PyProof.Rows
inductive rUpd (x:V)(xs:List V)(H:Hp)(Q:VK):Prop where
 |mk (a b:Addr) (kvs more:List (Key×V)):x=.ref a→xs=[.ref b]→a≠b→H a=some (.dK kvs)→H b=some (.dK more)→kvs.length+more.length≤sizeLine→Q .non (upd H a (.dK (mergeK kvs more)))→rUpd x xs H Q
theorem mt_updateD {X:Cx}:MtM X "dict.update" rUpd:=by
 intro pins s σ H x xs v us Q I rx rs h
 obtain⟨a,b,kvs,more,rfl,rfl,nab,ha,hb,hz,q⟩:=h
 cases rx
 cases rs with
 |cons r rr=>
  cases rr
  cases r
  obtain⟨z1,d1,va,rel1,dd1⟩:=dk_of I.hok ha
  obtain⟨z2,d2,vb,rel2,dd2⟩:=dk_of I.hok hb
  have l1:=rel1.length
  have l2:=rel2.length
  refine call_meetsIn PySem.F.slot_dict_update dd1.typeIs PySem.F.entry_dict_update (PySem.F.args_dict_update_2 _ _) (meets_dict_update (mixKind X.prog X.w) a b nab d2) ⟨va,vb,dd1,dd2,by omega,fun h' dd' de hs=>?_⟩
  have he:∃q,h'.get? a=some q:=let ⟨q,_,_,hq,_⟩:=dd';⟨q,hq⟩
  have:=mergeK_len more kvs
  exact⟨.non,_,d_write (t':=s.toks) I (by rw[ha];exact True.intro) hs he (dk_new (by omega) d1 (KV.merge rel2 rel1) dd'),rfl,q⟩
def tGGet2 (K:PySem.W.Frag)(w:World)(td ty tx:TE):TE:=fun σ H Q=>td σ H fun x H1=>∃a fs,x=.ref a∧StrDict K w a fs∧ty σ H1 fun y H2=>tx σ H2 fun d H3=>∃z,y=.str z∧Q ((fs.lookup z).getD d) H3
theorem pe_gget2 {X:Cx}{o e f:Expr}{apos cpos:Pos}{td ty tx:TE}(ho:PE X o td)(he:PE X e ty)(hf:PE X f tx)(m:M2 X o "get" apos e f cpos):PE X (.Call (.Attribute o "get" apos) [e,f] [] cpos) (tGGet2 X.K X.w td ty tx):=by
 intro pins s σ H Q I h
 refine wpAny_Call_method m.base m.few m.line PySem.F.plainAttrs_dict PySem.F.slot_dict_get PySem.F.type_dict_get (thn (ho pins s σ H _ I h) fun u s1 ⟨x,H1,I1,rx,a,fs,ex,d,q1⟩=>?_)
 subst ex
 obtain rfl:u=Value.ref a:=rx
 obtain⟨g,hm,_⟩:=I1.strDict d
 refine⟨hm.typeIs,fun b q=>?_,?_⟩
 ·cases q
  obtain⟨ob,_,_,h1,h2,_⟩:=hm
  exact⟨ob,h1,h2.2.1⟩
 rw[m.trees]
 refine Calls.callWith_builtin rfl (Calls.evalArgs_plain (Calls.spliced_cons (thn (he pins s1 σ H1 _ I1 q1) fun iv s2 ⟨y,H2,I2,ry,q2⟩=>
  Calls.spliced_cons (thn (hf pins s2 σ H2 _ I2 q2) fun fv s3 ⟨dv,H3,I3,rz,z,ey,q3⟩=>Calls.spliced_nil ?_))))
 subst ey
 obtain⟨t,rfl⟩:=ry
 obtain⟨g3,hm3,hf3⟩:=I3.strDict d
 exact call_meetsIn PySem.F.slot_dict_get hm3.typeIs PySem.F.entry_dict_get (PySem.F.args_dict_get_3 _ _ _) (meets_dict_get_default (knd:=strKind X.prog X.w) (k:=z) (d:=a) (by show Value.isStrOf z (.str z t)=true;simp[Value.isStrOf]) d.1 fv) ⟨_,hm3,_,H3,I3.tok _,(hf3 z).getD rz,q3⟩
end L2
namespace PySem
open PyProof.Rows
section
variable {prog:Program}{w:World}{K:Type}[DecidableEq K]{knd:KeyKind prog w K}{A:Around}{R:Result→Shared→Prop}
theorem upd_list {it l S:Addr}{items:Array Value}(ks:Nat→K)(vals:Nat→Value)(hh:A.handled=none)(res:Value)(nS:S≠it)(lS:l≠S)(lit:l≠it):
  ∀(m i:Nat) (s:Shared) (kvs:List (K×Value)) (tk:Tok),items.size=i+m→s.heap.IsListIter it l i→s.heap.IsList l items→
  (∀j x,items[j]?=some x→∃p key,x=.ref p∧p≠S∧p≠it∧s.heap.IsTuple p #[key,vals j]∧knd.is (ks j) key=true)→s.heap.DictOf knd S kvs→kvs.length+m≤sizeLine→
  (∀h' tk',(∀b o,b∉[S,it]→s.heap.get? b=some o→h'.get? b=some o)→h'.DictOf knd S ((List.range' i m).foldl (fun acc j=>stored acc (ks j) (vals j)) kvs)→R (.ok (.ret res)) {s with heap:=h',toks:=tk'})→
  codeAny (model prog w) A (.builtin "dict.update.loop" ⟨[.ref S, .ref it, .int i tk,res],[]⟩) R s:=by
 intro m
 induction m with
 |zero=>
  intro i s kvs tk hm hit hl hp hS hz hR
  obtain rfl:items.size=i:=hm
  refine codeAny_builtin F.entry_upd_loop ?_
  rw[Around.under_plainId F.plain_upd_loop _]
  show wpAny _ _ (pyNext (.ref it)>>=_) _ _ _
  refine wpAny_bind (wpAny_pyNext_list_end hh hit hl (by simp) fun h' eb=>?_)
  show wpAny _ _ (Builtin.Dict.addKeywords S []>>=_) _ _ _
  exact wpAny_bind (wpAny_pure (wpAny_pure (hR h' s.toks (fun b o hb e=>eb b o (fun q=>hb (by simp[q])) e) (hS.kept fun o e=>eb S o nS e))))
 |succ m ih=>
  intro i s kvs tk hm hit hl hp hS hz hR
  have hlt:i<items.size:=by rw[hm];exact Nat.lt_add_of_pos_right (Nat.succ_pos _)
  have hx:items[i]?=some items[i]:=by simp[hlt]
  obtain⟨p,key,ep,pS,pit,tp,hk⟩:=hp i _ hx
  refine codeAny_builtin F.entry_upd_loop ?_
  rw[Around.under_plainId F.plain_upd_loop _]
  show wpAny _ _ (pyNext (.ref it)>>=_) _ _ _
  refine wpAny_bind (wpAny_pyNext_list_item hit hl hx fun h' hit' sb=>?_)
  have k1:∀b o,b≠it→s.heap.get? b=some o→h'.get? b=some o:=fun b o hb e=>(sb.2 b hb).trans e
  have hS':=hS.kept fun o e=>k1 S o nS e
  obtain⟨o,ho,hc,n,hd⟩:=id tp
  have ho':=k1 p o pit ho
  rw[ep]
  have hT:Shared.TypeIs {s with heap:=h'} (.ref p) "tuple":=⟨_,ho',hc⟩
  refine wpAny_bind (wpAny_holding ?_)
  refine wpAny_bind ?_
  refine wpAny_tryCatch ?_
  unfold Builtin.Dict.pairItems
  refine wpAny_bind (wpAny_typeOf hT ?_)
  rw[if_pos (by decide)]
  refine wpAny_bind (wpAny_seqItems ho' hd (wpAny_pure ?_))
  show wpAny _ _ (holding [key,vals i] (dictSet S key (vals i))) _ _ _
  refine wpAny_holding (wpAny_dictSet_pairs (s:={s with heap:=h'}) hk hS' (fun h2 hd2 hs2=>?_) (by omega))
  have k2:∀b o,b≠S→h'.get? b=some o→h2.get? b=some o:=fun b o hb e=>(hs2.2 b hb).trans e
  refine wpAny_pure ⟨plainId_quiet F.plain_upd_loop _,?_⟩
  refine ih (i+1) {s with heap:=h2,toks:=s.toks+1} _ _ (by rw[hm,Nat.succ_add];rfl) ?_ ?_ (fun j x hj=>?_) hd2 ?_ fun h3 tk3 kp3 hd3=>?_
  ·obtain⟨o1,e1,e2⟩:=hit'
   exact⟨o1,k2 _ _ (Ne.symm nS) e1,e2⟩
  ·obtain⟨o1,e1,e2⟩:=hl
   exact⟨o1,k2 _ _ lS (k1 _ _ lit e1),e2⟩
  ·obtain⟨p',key',q1,q2,q3,⟨o1,e1,e2⟩,q5⟩:=hp j x hj
   exact⟨p',key',q1,q2,q3,⟨o1,k2 _ _ q2 (k1 _ _ q3 e1),e2⟩,q5⟩
  ·have:=stored_length_le kvs (ks i) (vals i)
   omega
  ·refine hR h3 tk3 (fun b o hb e=>kp3 b o hb (k2 b o (fun q=>hb (by simp[q])) (k1 b o (fun q=>hb (by simp[q])) e))) ?_
   rw[List.range'_succ,List.foldl_cons]
   exact hd3
end
section
variable {prog:Program}{w:World}{K:Type}[DecidableEq K]{knd:KeyKind prog w K}{A:Around}{E:Value→Shared→Prop}{s:Shared}
theorem call_dict_list {l:Addr}{items:Array Value}{c:Nat}(ks:Nat→K)(vals:Nat→Value){Q:Value→Shared→Prop}(hh:A.handled=none)(hn:items.size≤sizeLine)(hl:s.heap.get? l=some {cls:=.type "list",dict:=none,data:=.seq items c,slots:=#[]})
  (hp:∀j x,items[j]?=some x→∃p key,x=.ref p∧s.heap.IsTuple p #[key,vals j]∧knd.is (ks j) key=true)
  (hQ:∀h' tk',(∀b o,s.heap.get? b=some o→h'.get? b=some o)→h'.DictOf knd s.heap.objs.size ((List.range' 0 items.size).foldl (fun acc j=>stored acc (ks j) (vals j)) [])→Q (.ref s.heap.objs.size) {s with heap:=h',toks:=tk'}):
  wpAny (model prog w) A (call (.type "dict") [.ref l]) Q E s:=by
 refine callType_codes (Q₁:=fun obj s₁=>obj=.ref s.heap.objs.size∧s₁={s with heap:=s.heap.push {cls:=.type "dict",data:=.dict #[]}}) F.kt_called_dict (F.kt_typeCall_dict_1 _) F.entry_dict_init (kt_code_dict_new _ ⟨rfl,rfl⟩) ?_
 rintro obj s₁ ⟨rfl,rfl⟩
 have hnew:(s.heap.push {cls:=.type "dict",data:=.dict #[]}).DictOf knd s.heap.objs.size []:=Heap.DictOf.new s.heap
 have up:∀b o,s.heap.get? b=some o→(s.heap.push {cls:=.type "dict",data:=.dict #[]}).get? b=some o:=fun b o e=>Heap.get?_push_of_some _ e
 refine⟨hnew.typeIs,F.args_dict_init_2 _ _,?_⟩
 revert hnew up
 generalize s.heap.push {cls:=.type "dict",data:=.dict #[]}=g
 intro hnew up
 unfold Builtin.«dict.__init__»
 refine wpAny_bind ?_
 unfold Builtin.Dict.selfAndRest
 refine wpAny_bind (wpAny_notOrdered_dict hnew.typeIs ?_)
 show wpAny _ _ (pure (s.heap.objs.size,[Value.ref l])) _ _ _
 refine wpAny_pure ?_
 show wpAny _ _ (Builtin.Dict.updateFrom "dict.__init__" s.heap.objs.size (.ref l) [] .none) _ _ _
 unfold Builtin.Dict.updateFrom
 have hT:Shared.TypeIs {s with heap:=g} (.ref l) "list":=⟨_,up _ _ hl,rfl⟩
 refine wpAny_bind (wpAny_typeOf hT ?_)
 rw[if_pos (by decide)]
 refine wpAny_bind (wpAny_nokeys_list (up _ _ hl) hh fun h3 tk3 kp3=>?_)
 rw[if_pos (show(Option.none (α:=Value)).isNone=true from rfl)]
 have hl3:=kp3 _ _ (up _ _ hl)
 have hd3:=hnew.kept fun o=>kp3 _ o
 have lt3:s.heap.objs.size<h3.objs.size:=by
  obtain⟨o,_,_,ho,_⟩:=hd3
  exact Heap.lt_size ho
 refine wpAny_bind (wpAny_rule (wpAny_bind (wpAny_pyIter_list (s:={s with heap:=h3,toks:=tk3}) (l:=l) (items:=items) ⟨_,hl3,rfl,_,rfl⟩ ?_)))
 have up4:∀b o,h3.get? b=some o→(h3.push {cls:=.type "list_iterator",data:=.fields #[.ref l, .int 0 0]}).get? b=some o:=fun b o e=>Heap.get?_push_of_some _ e
 have hit:(h3.push {cls:=.type "list_iterator",data:=.fields #[.ref l, .int 0 0]}).IsListIter h3.objs.size l 0:=⟨_,Heap.get?_push_size _ rfl,rfl,rfl⟩
 have l3:∀b o,h3.get? b=some o→b≠h3.objs.size:=fun b o e=>Nat.ne_of_lt (Heap.lt_size e)
 revert up4 hit
 show _→_→wpAny _ _ (again (.builtin "dict.update.loop" ⟨[.ref s.heap.objs.size, .ref h3.objs.size,rawInt 0, .none],[]⟩)) _ _ {s with heap:=h3.push {cls:=.type "list_iterator",data:=.fields #[.ref l, .int 0 0]},toks:=tk3}
 generalize h3.push {cls:=.type "list_iterator",data:=.fields #[.ref l, .int 0 0]}=g4
 intro up4 hit
 refine wpAny_pure ⟨plainId_quiet F.plain_upd_loop _,upd_list (A:=A.in1) (S:=s.heap.objs.size) (it:=h3.objs.size) (l:=l) (items:=items) ks vals hh .none (Nat.ne_of_lt lt3) (Nat.ne_of_lt (Heap.lt_size hl)) (l3 _ _ hl3) items.size 0 {s with heap:=g4,toks:=tk3} [] _ (Nat.zero_add _).symm
  hit ⟨_,up4 _ _ hl3,rfl,_,rfl⟩ (fun j x hj=>?_) (hd3.kept fun o=>up4 _ o) (by simpa using hn) fun h' tk' kp hd=>?_⟩
 ·obtain⟨p,key,q1,⟨o,e1,e2⟩,q3⟩:=hp j x hj
  have e3:=kp3 _ _ (up _ _ e1)
  exact⟨p,key,q1,Nat.ne_of_lt (Heap.lt_size e1),l3 _ _ e3,⟨o,up4 _ _ e3,e2⟩,q3⟩
 ·exact⟨rfl,hQ h' tk' (fun b o e=>kp b o (fun q=>by
   have e3:=kp3 _ _ (up _ _ e)
   rcases List.mem_cons.mp q with q|q
   ·exact absurd q (Nat.ne_of_lt (Heap.lt_size e))
   ·rw[List.mem_singleton]at q
    exact absurd q (l3 _ _ e3)) (up4 _ _ (kp3 _ _ (up _ _ e)))) hd⟩
end
end PySem
namespace L2
open PySem PySem.Spec PyProof.Rows
inductive rDictL (xs:List V)(H:Hp)(Q:VK):Prop where
 |mk (l:Addr) (ps:List Addr) (kvl:List (Key×V)):xs=[.ref l]→H l=some (.lst (ps.map V.ref))→ps.length=kvl.length→(∀(j:Nat) p kv,ps[j]?=some p→kvl[j]?=some kv→H p=some (.tup [kV kv.1,kv.2]))→(∀q,H q=none→Q (.ref q) (upd H q (.dK (mergeK [] kvl))))→rDictL xs H Q
theorem kv_of {f:Nat→Key×Value}:∀{kvl:List (Key×V)} (i:Nat),(∀(j:Nat) kv,kvl[j]?=some kv→kv.1=(f (i+j)).1∧RelV kv.2 (f (i+j)).2)→KV kvl ((List.range' i kvl.length).map f)
 |[],i,_=>.nil
 |kv::kvl,i,h=>by
  rw[List.length_cons,List.range'_succ,List.map_cons]
  exact .cons (h 0 kv rfl) (kv_of (i+1) fun j kv' hj=>by
   have:=h (j+1) kv' (by simpa using hj)
   rw[show i+(j+1)=i+1+j by omega]at this
   exact this)
theorem call_dict_l {X:Cx}(hc:X.calm=true):CallR X (.type "dict") rDictL:=by
 intro pins s σ H xs us Q I r h
 obtain⟨l,ps,kvl,rfl,hl,hlen,hps,q⟩:=h
 obtain⟨u,rfl,rx⟩:=vals1 r
 cases rx
 obtain⟨z,its,n,rv,e⟩:=I.hok l _ hl
 have lv:=rv.length
 rw[List.length_map]at lv z
 have key:∀j,j<its.length→∃p key val,its[j]?=some (.ref p)∧s.heap.IsTuple p #[key,val]∧∃kv,kvl[j]?=some kv∧(mixKind X.prog X.w).is kv.1 key=true∧RelV kv.2 val:=fun j hj=>by
  have hp:ps[j]?=some (ps[j]'(by omega)):=List.getElem?_eq_getElem _
  have hk:kvl[j]?=some (kvl[j]'(by omega)):=List.getElem?_eq_getElem _
  obtain⟨u,hu,ru⟩:=rv.get (x:=.ref (ps[j]'(by omega))) (i:=j) (by rw[List.getElem?_map,hp];rfl)
  cases ru
  obtain⟨z2,its2,rv2,p2⟩:=I.hok _ _ (hps j _ _ hp hk)
  cases rv2 with
  |cons r1 rr=>
   cases rr with
   |cons r2 rr=>
    cases rr
    exact⟨_,_,_,hu,p2,_,hk,kV_is r1,r2⟩
 obtain⟨vals,hv⟩:∃vals:Nat→Value,∀j,j<its.length→∃p key,its[j]?=some (.ref p)∧s.heap.IsTuple p #[key,vals j]∧∃kv,kvl[j]?=some kv∧(mixKind X.prog X.w).is kv.1 key=true∧RelV kv.2 (vals j):=by
  have this:∀j,∃val,j<its.length→∃p key,its[j]?=some (.ref p)∧s.heap.IsTuple p #[key,val]∧∃kv,kvl[j]?=some kv∧(mixKind X.prog X.w).is kv.1 key=true∧RelV kv.2 val:=fun j=>by
   by_cases hj:j<its.length
   ·obtain⟨p,k,v,q⟩:=key j hj
    exact⟨v,fun _=>⟨p,k,q⟩⟩
   ·exact⟨.none,fun h=>absurd h hj⟩
  exact⟨fun j=>(this j).choose,fun j hj=>(this j).choose_spec hj⟩
 refine call_dict_list (knd:=mixKind X.prog X.w) (items:=its.toArray) (fun j=>(kvl.getD j (Sum.inl 0, .non)).1) vals (I.ok.hd hc) (by simp;omega) e (fun j x hx=>?_) fun h' tk' kp hd=>?_
 ·have hj:j<its.length:=by simpa using(Array.getElem?_eq_some_iff.mp hx).1
  obtain⟨p,k,q1,q2,kv,q3,q4,q5⟩:=hv j hj
  rw[List.getElem?_toArray,q1]at hx
  cases hx
  exact⟨p,k,rfl,q2,by rw[List.getD_eq_getElem?_getD,q3];exact q4⟩
 ·have e0:(List.range' 0 its.toArray.size).foldl (fun acc j=>stored acc ((kvl.getD j (Sum.inl 0, .non)).1) (vals j)) []=merged [] ((List.range' 0 kvl.length).map fun j=>((kvl.getD j (Sum.inl 0, .non)).1,vals j)):=by
   unfold merged
   rw[List.foldl_map,List.size_toArray,←lv,hlen]
  rw[e0]at hd
  have rel:KV (mergeK [] kvl) (merged [] ((List.range' 0 kvl.length).map fun j=>((kvl.getD j (Sum.inl 0, .non)).1,vals j))):=KV.merge (kv_of 0 fun j kv hj=>by
   rw[Nat.zero_add]
   have hj2:j<its.length:=by have:=(List.getElem?_eq_some_iff.mp hj).1;omega
   obtain⟨p,k,q1,q2,kv',q3,q4,q5⟩:=hv j hj2
   rw[hj]at q3
   cases q3
   exact⟨by rw[List.getD_eq_getElem?_getD,hj];rfl,q5⟩) .nil
  have zm:(mergeK [] kvl).length≤sizeLine:=by
   have:=mergeK_len kvl []
   simp at this
   omega
  have big:(s.heap.objs.size==sysModules)=false:=beq_eq_false_iff_ne.mpr (Ne.symm (Nat.ne_of_lt I.big))
  exact⟨.ref s.heap.objs.size,_,I.laid (a:=s.heap.objs.size) (o:=.dK (mergeK [] kvl)) (h':=h') (t':=tk') kp (Nat.le_refl _) (dk_new zm big rel hd),rfl,q _ (I.hok.fresh (Nat.le_refl _))⟩
theorem kv_get:∀{kvs:List (Key×V)} {vs:List (Key×Value)},KV kvs vs→∀{i:Nat} {p:Key×V},kvs[i]?=some p→∃q,vs[i]?=some q∧RelV p.2 q.2
 |_,_, .nil,_,_,h=>by simp at h
 |_,_, .cons r rr,0,_,h=>by cases h;exact⟨_,rfl,r.2⟩
 |_,_, .cons r rr,i+1,_,h=>kv_get rr (i:=i) h
def Itvs (a:Addr)(o:Obj)(kvs:List (Key×V)):It :=
 ⟨fun i H=>H a=some (.frz o (.dK kvs))∧i<kvs.length,fun i H x H'=>H'=H∧∃k,kvs[i]?=some (k,x),fun i H=>H a=some (.frz o (.dK kvs))∧kvs.length≤i⟩
theorem turn_vals {P:Program}{w:World}{K:PySem.W.Frag}{tg:Expr}(a it:Addr)(o:Obj)(kvs:List (Key×V))(es:Array DictEntry)(ep:Nat)(hep:o.data=.dict es ep):Turn P w K tg (Itvs a o kvs) [it] it (fun i h=>h.IsValIter it a i kvs.length ep) where
 mem:=by simp
 obj:=fun i h st b hb=>by
  have e:b=it:=by simpa using hb
  subst e
  obtain⟨o,e,c,d⟩:=st
  exact⟨o,e,fun v z=>by rw[d]at z;cases z⟩
 keep:=fun i h h' st k=>by
  obtain⟨o,e,r⟩:=st
  exact⟨o,k it (by simp) o e,r⟩
 item:=by
  intro X hP hw hK hc i pins s σ H E I hf st hg
  subst hP hw hK
  obtain⟨ha,hi⟩:=hg
  obtain⟨hd,hz,vs,rel,dd⟩:=frz_at I ha hep
  have hl:=rel.length
  obtain⟨⟨k,v⟩,hx⟩:∃p,vs[i]?=some p:=⟨vs[i]'(by omega),List.getElem?_eq_getElem (by omega)⟩
  obtain⟨⟨k',v'⟩,hy⟩:∃p,kvs[i]?=some p:=⟨kvs[i],List.getElem?_eq_getElem hi⟩
  have rv:RelV v' v:=by
   obtain⟨p,hp,r⟩:=kv_get rel hy
   rw[hx]at hp
   cases hp
   exact r
  obtain⟨f0,f1,f2,f3,f4,f5⟩:=hf it (by simp)
  rw[hl]at st
  refine wpAny_pyNext_values_item st dd hx fun h' st' sb=>?_
  have I1:Inv X pins σ H {s with heap:=h'}:=I.turned (t':=s.toks) (fun b o hb e=>(sb.2 b hb).trans e) f0 f1 f3 f4 f5
  obtain⟨o',e',c',d'⟩:=id st'
  rw[←hl]at st'
  exact⟨v,rfl,go_of (s:={s with heap:=h'}) e' c' d' (by decide) ⟨v',H,I1,rv,⟨rfl,k',hy⟩,st',fun b hb=>(hf b hb).1⟩⟩
 done:=by
  intro X hP hw hK hc i pins s σ H E I hf st hg
  subst hP hw hK
  obtain⟨ha,hi⟩:=hg
  obtain⟨hd,hz,vs,rel,dd⟩:=frz_at I ha hep
  have hl:=rel.length
  obtain⟨f0,f1,f2,f3,f4,f5⟩:=hf it (by simp)
  rw[hl]at st
  exact wpAny_pyNext_values_end (I.ok.hd hc) st dd (List.getElem?_eq_none (by omega)) fun h' eb=>⟨rfl,I.turned (t':=s.toks) (fun b o hb e=>eb b o hb e) f0 f1 f3 f4 f5⟩
 self:=fun _ _ _ _ _ st h=>wpAny_pyIter_valiter st h
def iVals (td:TE):TI:=fun σ H R=>td σ H fun x H1=>∃a kvs,x=.ref a∧H1 a=some (.dK kvs)∧∀o,R (Itvs a o kvs) (upd H1 a (.frz o (.dK kvs)))
theorem pi_vals {X:Cx}{tg d:Expr}{td:TE}{apos cpos:Pos}(hd:PE X d td)(hbase:attributeBase d "values" X.env (eval d X.env)=eval d X.env:=by rfl)(hline:(apos.endLine==cpos.line)=true:=by rfl):PI X tg (.Call (.Attribute d "values" apos) [] [] cpos) (iVals td):=by
 intro pins s σ H R I h
 refine wpAny_Call_method0_late hbase hline (thn (hd pins s σ H _ I h) fun v s1 ⟨x,H1,I1,r1,q1⟩=>?_)
 obtain⟨a,kvs,rfl,ha,q⟩:=q1
 cases r1
 obtain⟨z,hsm,vs,rel,dd⟩:=dk_of I1.hok ha
 obtain⟨o,ho,n4,I2⟩:=I1.freeze ha
 obtain⟨o2,es,ep,ho2,h2,h3,r⟩:=id dd
 rw[ho]at ho2
 cases ho2
 refine⟨"dict","dict.values",PySem.F.plainAttrs_dict,PySem.F.slot_dict_values,PySem.F.type_dict_values,dd.typeIs,fun b e=>?_,Calls.callWith_builtin rfl (PySem.evalArgs_none ?_)⟩
 ·cases e
  exact⟨o,ho,h2.2.1⟩
 refine call_meetsIn PySem.F.slot_dict_values dd.typeIs PySem.F.entry_dict_values (PySem.F.args_dict_values_1 _) (meets_dict_values (mixKind X.prog X.w) a hsm) ⟨⟨vs,dd⟩,?_⟩
 have I3:Inv X pins σ _ {s1 with heap:=s1.heap.push {cls:=.type "dict_values",data:=.fields #[.ref a]}}:=I2.kept (t':=s1.toks) fun b o e=>Heap.get?_push_of_some _ e
 have hv:(s1.heap.push {cls:=.type "dict_values",data:=.fields #[.ref a]}).IsValuesView s1.heap.objs.size a:=⟨_,Heap.get?_push_size _ rfl,rfl,rfl⟩
 have da:(s1.heap.push {cls:=.type "dict_values",data:=.fields #[.ref a]}).DictAt (mixKind X.prog X.w) a vs ep:=⟨o,es,Heap.get?_push_of_some _ ho,h2,h3,r⟩
 refine wpAny_pyIter_values hv da ?_
 have hlen:=rel.length
 refine⟨_,[_],_,_,upd H1 a (.frz o (.dK kvs)),rfl,I3.kept (t':=s1.toks) fun b o e=>Heap.get?_push_of_some _ e,turn_vals a _ o kvs es ep h3,⟨_,Heap.get?_push_size _ rfl,rfl,by rw[hlen];rfl⟩,fun b hb=>?_,q o⟩
 have e:b=(s1.heap.push {cls:=.type "dict_values",data:=.fields #[.ref a]}).objs.size:=by simpa using hb
 subst e
 exact I3.fpOk (Nat.le_refl _) (I3.hok.fresh (Nat.le_refl _))
theorem for_vals {a:Addr}{o:Obj}{kvs:List (Key×V)}{g:TG}{tb:TS}{D:Ends}{σ:St}{H:Hp}(Pv:Nat→St→Hp→Prop)(h0:Pv 0 σ H)(hl:∀i σ H,i≤kvs.length→Pv i σ H→H a=some (.frz o (.dK kvs)))
  (hs:∀i k v σ H,kvs[i]?=some (k,v)→Pv i σ H→g v σ H fun σ2 H2=>tb (D.lp (Pv (i+1))) σ2 H2) (hd:∀σ H,Pv kvs.length σ H→D.nx σ H):
  ∃W:Nat→Nat→St→Hp→Prop,(∃m,W 0 m σ H)∧∀i m σ H,W i m σ H→
   ((Itvs a o kvs).stop i H∧D.nx σ H)∨((Itvs a o kvs).go i H∧∃N:St→Hp→Prop,(∀σ' H',N σ' H'→∃m',m'<m∧W (i+1) m' σ' H')∧∀x H',(Itvs a o kvs).yld i H x H'→g x σ H' fun σ2 H2=>tb (D.lp N) σ2 H2):=by
 refine⟨fun i m σ H=>m=kvs.length-i∧i≤kvs.length∧Pv i σ H,⟨kvs.length,by simp,Nat.zero_le _,h0⟩,?_⟩
 rintro i m σ H ⟨rfl,hi,p⟩
 have q:=hl i σ H hi p
 by_cases hlt:i<kvs.length
 ·refine .inr ⟨⟨q,hlt⟩,Pv (i+1),fun σ' H' p'=>⟨kvs.length-(i+1),by omega,rfl,hlt,p'⟩,fun x H' y=>?_⟩
  obtain⟨e,k,hk⟩:=y
  subst e
  exact hs i k x σ _ hk p
 ·have e:i=kvs.length:=by omega
  subst e
  exact .inl ⟨⟨q,Nat.le_refl _⟩,hd σ H p⟩
theorem call_dict_d {X:Cx}:CallR X (.type "dict") (fun xs H Q=>∃a kvs,xs=[V.ref a]∧H a=some (.dK kvs)∧∀p,H p=none→Q (.ref p) (upd H p (.dK kvs))):=by
 intro pins s σ H xs us Q I r h
 obtain⟨a,kvs,rfl,e,q⟩:=h
 obtain⟨u,rfl,rx⟩:=vals1 r
 cases rx
 exact d_copyOf I (.inl e) fun p s' hp I'=>⟨.ref p,_,I',rfl,q p hp⟩
end L2
namespace Fw
open PySem PySem.Spec PyProof.Rows L2
theorem boot_dict':bootBuiltins "dict"=some (.type "dict"):=by decide+kernel
inductive spWN (vs:List V)(H:Hp)(Q:VK)(E_:XK):Prop where
 |mk (kb:Bool) (d lw ts:Addr) (kvs:List (Key×V)) (x:Str) (v:V):vs=[.ref d, .ref lw, .ref ts]→H d=some (.dK kvs)→kvs.length≤1000→H lw=some (.lst [.str x])→H ts=some (seqO kb [v])→(∀(p:Addr) H',Same H H'→H p=none→H' p=some (.dK (putK kvs (Sum.inr x) v))→Q (.ref p) H')→spWN vs H Q E_
section
variable {P:Program}{w:World}{K:PySem.W.Frag}{mg:Str→Option Value}{base:Heap}{f:Addr}{fd:FuncData}
abbrev s_wn:Stmt:=top 26
abbrev pWN:List Str:=["names","words","schemes"]
theorem sc_wn:FnScope ["names","words","schemes","told"] pWN (defScope s_wn):=⟨rfl,rfl,rfl,by decide+kernel,rfl,by decide+kernel,by decide+kernel⟩
set_option maxHeartbeats 2000000 in
theorem ok_wn (F:Fun K "with_names" "with_names" s_wn f fd)(mD:mg "dict"=none)(mz:mg "zip"=none):FnOk P w K mg base CX0 1 f fd pWN spWN:=by
 refine F.ok sc_wn (fun cdv A outer s H vs Q E hr h=>?_)
 obtain⟨kb,d,lw,ts,kvs,x,v,rfl,hd,lk,hw,ht,q⟩:=h
 refine⟨_,pss_cons (pset 3 sc_wn.nd (pe_callTy call_dict_d rfl mD boot_dict' (pa_cons (pv 0) pa_nil)))
  (pss_cons (ps_expr (pe_bm PySem.F.plainAttrs_dict PySem.F.slot_dict_update PySem.F.type_dict_update mt_updateD (pv 3) (pa_cons (pe_dictZip rfl rfl mD rfl mz boot_dict' (pa_cons (pv 1) (pa_cons (pv 2) pa_nil))) pa_nil)))
  (pss_one (ps_ret (pv 3)))),?_⟩
 refine⟨_,rfl,d,kvs,rfl,hd,fun p hp=>?_⟩
 have s1:=same_new hp (.dK kvs)
 have b1:(upd H p (.dK kvs)) p=some (.dK kvs):=upd_same
 revert s1 b1
 generalize upd H p (.dK kvs)=H1
 intro s1 b1
 refine⟨_,rfl,?_,_,rfl,_,rfl,kb,lw,ts,[Sum.inr x],[v],rfl,s1 _ _ hw,s1 _ _ ht,rfl,fun r hr2=>?_⟩
 ·exact .inr (.inr (.inl ⟨rfl, .inl ⟨_,b1⟩⟩))
 ·have s2:=same_new hr2 (.dK (mergeK [] [(Sum.inr x,v)]))
  refine⟨p,r,kvs,[(Sum.inr x,v)],rfl,rfl,ne_of_none b1 hr2,s2 _ _ b1,upd_same,small (by show kvs.length+1≤1000000;omega),?_⟩
  refine⟨_,rfl,q p _ (fun b o hb=>?_) hp upd_same⟩
  rw[upd_ne (ne_of_none hb hp)]
  exact s2 _ _ (s1 _ _ hb)
end
theorem comp_tup {K:PySem.W.Frag}{H:Hp}{a:Addr}{xs:List V}{tt:TT}{te:TE}{σ':L2.St}{Q:VK}(Pv:Nat→List V→Hp→Prop)(h0:Pv 0 [] H)(hl:∀i vs H,i≤xs.length→Pv i vs H→SqT K H a xs∧vs.length<sizeLine)
  (hs:∀i x vs H2,i<xs.length→xs[i]?=some x→Pv i vs H2→tt (some x::σ') H2 fun b H4=>if b=true then te (some x::σ') H4 fun v H5=>Nx xs.length i (Pv (i+1) (vs++[v]) H5) else Nx xs.length i (Pv (i+1) vs H4))
  (hd:∀vs H2,Pv xs.length vs H2→∀l,H2 l=none→Q (.ref l) (upd H2 l (.lst vs))):CompW (Itt K a) tt te σ' Q H:=by
 refine⟨fun i m vs H=>m=xs.length-i∧i≤xs.length∧Pv i vs H,⟨xs.length,by simp,Nat.zero_le _,h0⟩,?_⟩
 rintro i m vs H2 ⟨rfl,hi,p⟩
 obtain⟨q1,q2⟩:=hl i vs H2 hi p
 refine⟨q2,?_⟩
 by_cases hlt:i<xs.length
 ·refine .inr ⟨⟨xs,xs[i],q1,by simp[hlt]⟩,?_⟩
  rintro x H3 ⟨e,y⟩
  subst e
  exact hs i x vs _ hlt (y xs q1) p
 ·have e:i=xs.length:=by exact Nat.le_antisymm hi (Nat.not_lt.mp hlt)
  subst e
  exact .inl ⟨⟨xs,q1,Nat.le_refl _⟩,hd vs H2 p⟩
inductive spSt (fW:Addr)(vs:List V)(H:Hp)(Q:VK)(E_:XK):Prop where
 |mk (t d:Addr) (ps:List V):vs=[.ref t, .ref d]→H t=some (.tup ps)→ps.length≤10→(∀(l:Addr) (qs:List Addr) H',Same H H'→H l=none→H' l=some (.lst (qs.map V.ref))→qs.length=ps.length→(∀(j:Nat) p,ps[j]?=some p→∃q,qs[j]?=some q∧H q=none∧H' q=some (.tup [.ref fW,p, .ref d]))→Q (.ref l) H')→spSt fW vs H Q E_
section
variable {P:Program}{w:World}{K:PySem.W.Frag}{mg:Str→Option Value}{base:Heap}{f fW:Addr}{fd:FuncData}
abbrev s_st:Stmt:=top 42
abbrev pSt:List Str:=["phrases","names"]
theorem sc_st:FnScope pSt pSt (defScope s_st):=⟨rfl,rfl,rfl,by decide+kernel,rfl,by decide+kernel,by decide+kernel⟩
set_option maxHeartbeats 2000000 in
theorem ok_st (F:Fun K "steps_of" "steps_of" s_st f fd)(mW:mg "work_on"=some (.ref fW)):FnOk P w K mg base CX0 1 f fd pSt (spSt fW):=by
 refine F.ok sc_st (fun cdv A outer s H vs Q E hr h=>?_)
 obtain⟨t,d,ps,rfl,ht,l10,q⟩:=h
 refine⟨_,pss_one (ps_ret (pe_lc (te:=tTup (tCons (tC (.ref fW)) (tCons (tVar 0) (tCons (tVar 1) tNil)))) (defScope s_st) pSt ["names"] [1] (by decide+kernel) (piT K (pv 0)) (fun C s₀ H₀ ex=>pts_nil)
  (fun C s₀ H₀ ex=>pe_tup (pa_cons (pe_glob (v:=.ref fW) rfl mW rfl) (pa_cons (pv 0) (pa_cons (pv 1) pa_nil)))))),?_⟩
 refine⟨_,rfl,t,rfl,⟨_,SqT.of ht⟩,comp_tup (xs:=ps) (fun i vs H'=>∃qs:List Addr,Same H H'∧vs=qs.map V.ref∧qs.length=i∧∀(j:Nat) p,j<i→ps[j]?=some p→∃q,qs[j]?=some q∧H q=none∧H' q=some (.tup [.ref fW,p, .ref d])) ⟨[],Same.refl _,rfl,rfl,fun j p h=>absurd h (Nat.not_lt_zero _)⟩ ?_ ?_ ?_⟩
 ·rintro i vs H' hi ⟨qs,s1,rfl,lq,_⟩
  exact⟨SqT.of (s1 _ _ ht),by rw[List.length_map];exact small' (by omega)⟩
 ·rintro i x vs H' hi hx ⟨qs,s1,rfl,lq,aq⟩
  refine tt1 (iteT ⟨_,rfl,_,rfl,(sml 3),fun r hr2=>nx hi ?_⟩)
  have s2:=same_new hr2 (.tup [.ref fW,x, .ref d])
  refine⟨qs++[r],s1.trans s2,by rw[List.map_append];rfl,by rw[List.length_append,lq];rfl,fun j p hj hp=>?_⟩
  rcases Nat.lt_succ_iff_lt_or_eq.mp hj with z|rfl
  ·obtain⟨q',h1,h2,h3⟩:=aq j p z hp
   exact⟨q',by rw[List.getElem?_append_left (by omega)];exact h1,h2,s2 _ _ h3⟩
  ·rw[hx]at hp
   cases hp
   exact⟨r,by rw[←lq];simp,s1.free hr2,upd_same⟩
 ·rintro vs H' ⟨qs,s1,rfl,lq,aq⟩ l hl
  have s2:=same_new hl (.lst (qs.map V.ref))
  exact q l qs _ (s1.trans s2) (s1.free hl) upd_same lq fun j p hp=>by
   obtain⟨q',h1,h2,h3⟩:=aq j p (List.getElem?_eq_some_iff.mp hp).1 hp
   exact⟨q',h1,h2,s2 _ _ h3⟩
end
end Fw
namespace PySem
open PyProof.Rows
section
variable {prog:Program}{w:World}{A:Around}{s:Shared}{R:Result→Shared→Prop}
theorem wpAny_list_init_lri (hh:A.handled=none)(S I l:Addr){xs:Array Value}(hn:xs.size≤sizeLine)(hlI:l≠I)(hSI:S≠I)(hSl:S≠l)(hit:s.heap.IsRevIter I l ((xs.size:Int)-1))(hl:s.heap.IsList l xs)
  (hS:s.heap.get? S=some {cls:=.type "list",data:=.seq #[]})
  (hR:∀s' acc' c',Moved [S,I] (fun a b=>a=b) s s'→s'.heap.get? S=some {cls:=.type "list",dict:=none,data:=.seq acc' c',slots:=#[]}→ItemsOf (fun i v=>xs[xs.size-1-i]?=some v) acc' xs.size→R (.ok (.ret .none)) s'):
  wpAny (model prog w) A.in1 (Builtin.«list.__init__» ⟨[.ref S, .ref I],[]⟩)
   (fun fin s'=>match fin with|.done f=>R (.ok f) s'|.again c'=>c'.quiet=true∧codeAny (model prog w) A c' R s') (fun e s'=>R (.error e) s') s:=by
 show wpAny _ A.in1 (do let old ←Builtin.List.listItems (.ref S);Builtin.List.listUpdate (.ref S) (fun _=>#[]);letGo old.toList.reverse;Builtin.List.listExtendWith (.ref S) (.ref I) .none) _ _ s
 refine wpAny_bind ?_
 unfold Builtin.List.listItems
 refine wpAny_bind (wpAny_seqItems hS rfl (wpAny_pure ?_))
 show wpAny _ A.in1 (updateSeq S (fun _=>#[])>>=fun _=>letGo (#[]:Array Value).toList.reverse>>=fun _=>Builtin.List.listExtendWith (.ref S) (.ref I) .none) _ _ s
 refine wpAny_bind (wpAny_updateSeq hS rfl ?_)
 have hS₂:=Heap.get?_update_self (Obj.mapSeq (fun _=>(#[]:Array Value))) hS rfl
 have oth:∀b o,b≠S→s.heap.get? b=some o→(s.heap.update S (Obj.mapSeq (fun _=>(#[]:Array Value)))).get? b=some o :=
  fun b o hb e=>(Heap.get?_update_other _ _ (Ne.symm hb)).trans e
 refine wpAny_bind (wpAny_letGo ?_)
 refine wpAny_extend_lri (s:={s with heap:=s.heap.update S (Obj.mapSeq (fun _=>(#[]:Array Value)))}) hh S I l .none _ hn hlI hSI hSl (hit.at fun o e=>oth _ _ (Ne.symm hSI) e) (hl.at fun o e=>oth _ _ (Ne.symm hSl) e) hS₂ fun s' acc' c' hm hS' hacc=>?_
 exact hR s' acc' c' ⟨fun b o hb e=>hm.heap b o hb (oth b o (fun z=>hb (by simp[z])) e),hm.gens,hm.drawn,hm.os,hm.toks⟩ hS' hacc
end
section
variable {prog:Program}{w:World}{A:Around}{E:Value→Shared→Prop}{s:Shared}
theorem call_list_lri {Q:Value→Shared→Prop}(hh:A.handled=none)(I l:Addr){xs:Array Value}(hn:xs.size≤sizeLine)(hlI:l≠I)(hit:s.heap.IsRevIter I l ((xs.size:Int)-1))(hl:s.heap.IsList l xs)
  (hQ:∀s' acc' c',Moved [s.heap.objs.size,I] (fun a b=>a=b) s s'→s'.heap.get? s.heap.objs.size=some {cls:=.type "list",dict:=none,data:=.seq acc' c',slots:=#[]}→ItemsOf (fun i v=>xs[xs.size-1-i]?=some v) acc' xs.size→Q (.ref s.heap.objs.size) s'):
  wpAny (model prog w) A (call (.type "list") [.ref I]) Q E s:=by
 refine callType_codes (Q₁:=fun obj s₁=>obj=.ref s.heap.objs.size∧s₁={s with heap:=s.heap.push {cls:=.type "list",data:=.seq #[]}}) F.called_list (F.typeCall_list_1 _) F.entry_list_init
  (code_list_new _ ⟨rfl,rfl⟩) fun obj s₁ h₁=>?_
 obtain⟨rfl,rfl⟩:=h₁
 have hS:(s.heap.push {cls:=.type "list",data:=.seq #[]}).get? s.heap.objs.size=some {cls:=.type "list",data:=.seq #[]}:=Heap.get?_push_size _ rfl
 have hSI:s.heap.objs.size≠I:=fun e=>by
  obtain⟨o,ho,_⟩:=hit
  have:=Heap.lt_size ho
  rw[←e]at this
  exact Nat.lt_irrefl _ this
 have hSl:s.heap.objs.size≠l:=fun e=>by
  obtain⟨o,ho,_⟩:=hl
  have:=Heap.lt_size ho
  rw[←e]at this
  exact Nat.lt_irrefl _ this
 refine⟨⟨_,hS,rfl⟩,F.args_list_init_2 _ _,wpAny_list_init_lri (A:=A.in1) (s:={s with heap:=s.heap.push {cls:=.type "list",data:=.seq #[]}}) hh _ I l hn hlI hSI hSl (hit.at fun o e=>Heap.get?_push_of_some _ e) (hl.at fun o e=>Heap.get?_push_of_some _ e) hS fun s' acc' c' hm hS' hacc=>?_⟩
 exact⟨rfl,hQ s' acc' c' ⟨fun b o hb e=>hm.heap b o hb (Heap.get?_push_of_some _ e),hm.gens,hm.drawn,hm.os,hm.toks⟩ hS' hacc⟩
end
end PySem
namespace L2
open PySem PySem.Spec PyProof.Rows
section
variable {X:Cx}
def tListRevL (K:PySem.W.Frag)(te:TE):TE:=fun σ H Q=>te σ H fun x H1=>∃a xs,x=.ref a∧SqL K H1 a xs∧∀l,H1 l=none→Q (.ref l) (upd H1 l (.lst xs.reverse))
theorem pe_listRevL {e:Expr}{te:TE}{p pos p2 pos2:Pos}(hc:X.calm=true)(hgl:Gl X "list")(hml:X.mg "list"=none)(hgr:Gl X "reversed")(hmr:X.mg "reversed"=none)(he:PE X e te)
  (hs1:starEach [Expr.Call (.Name "reversed" p2) [e] [] pos2] X.env=[(false,eval (Expr.Call (.Name "reversed" p2) [e] [] pos2) X.env)]:=by rfl) (hs2:starEach [e] X.env=[(false,eval e X.env)]:=by rfl):
  PE X (.Call (.Name "list" p) [.Call (.Name "reversed" p2) [e] [] pos2] [] pos) (tListRevL X.K te):=by
 intro pins s σ H Q I h
 refine wpAny_Call_Name_kw (ld_blt I hgl hml boot_list ?_ (by decide) (by decide))
 refine PyProof.Rows.callWith_type1 ?_ hs1 rfl
 rw[hs1]
 refine Calls.spliced_cons ?_
 refine wpAny_Call_Name_kw (ld_blt I hgr hmr boot_rev ?_ (by decide) (by decide))
 refine PyProof.Rows.callWith_type1 ?_ hs2 rfl
 rw[hs2]
 refine Calls.spliced_cons (thn (he pins s σ H _ I h) fun u s1 ⟨x,H1,I1,r1,q1⟩=>?_)
 refine Calls.spliced_nil ?_
 obtain⟨a,xs,rfl,hq,q⟩:=q1
 cases r1
 obtain⟨its,rv,pt,hz⟩:=I1.list hq
 have hlen:=rv.length
 have h63:=line63
 refine call_reversed_list pt.isList ?_
 refine Calls.spliced_nil ?_
 have ha:a<s1.heap.objs.size:=by obtain⟨o,ho,_⟩:=pt.isList;exact Heap.lt_size ho
 have hl:Heap.IsList (s1.heap.push (revObj a ((its.toArray.size:Int)-1))) a its.toArray:=pt.isList.at fun o e=>Heap.get?_push_of_some _ e
 refine call_list_lri (s:={s1 with heap:=s1.heap.push (revObj a ((its.toArray.size:Int)-1))}) (I1.ok.hd hc) s1.heap.objs.size a (xs:=its.toArray) (by simp;omega) (Nat.ne_of_lt ha) ⟨_,Heap.get?_push_size _ rfl,rfl,rfl⟩ hl fun s' acc c hm hS hacc=>?_
 obtain⟨h',g',d',t',o'⟩:=s'
 have eg:s1.gens=g':=hm.gens
 have ed:d'=s1.drawn:=hm.drawn
 have eo:o'=s1.os:=hm.os
 subst eg ed eo
 have sz:(s1.heap.push (revObj a (((its.toArray).size:Int)-1))).objs.size=s1.heap.objs.size+1:=Heap.size_push ..
 have kp:∀b o,s1.heap.get? b=some o→h'.get? b=some o:=fun b o e=>by
  have hb:=Heap.lt_size e
  refine hm.heap b o ?_ (Heap.get?_push_of_some _ e)
  simp only[List.mem_cons,List.not_mem_nil,or_false,not_or]
  exact⟨Nat.ne_of_lt (Nat.lt_of_lt_of_le hb (Nat.le_of_lt (by rw[sz];exact Nat.lt_succ_self _))),Nat.ne_of_lt hb⟩
 have va:Vals xs.reverse acc.toList:=by
  refine Vals.of_get (by rw[List.length_reverse,hlen];have:=hacc.1;simp at this;simp[this]) fun i x u e f=>?_
  have hi:i<xs.length:=by have:=(List.getElem?_eq_some_iff.mp e).1;simpa using this
  rw[List.getElem?_reverse hi]at e
  have f':acc[i]?=some u:=by simpa using f
  have g:=hacc.2 i u f'
  have g':its[xs.length-1-i]?=some u:=by
   have:its.toArray[its.toArray.size-1-i]?=some u:=g
   simp only[List.size_toArray,List.getElem?_toArray]at this
   rw[hlen];exact this
  obtain⟨u',hu',ru⟩:=rv.get e
  rw[g']at hu'
  cases hu'
  exact ru
 have ea:acc.toList.toArray=acc:=by simp
 refine⟨.ref _,_,I1.laid (t':=t') kp (a:=(s1.heap.push (revObj a (((its.toArray).size:Int)-1))).objs.size) (by rw[sz];exact Nat.le_succ _) (show ObjOk X.prog X.w _ h' _ (.lst xs.reverse) from⟨by simpa using hz,acc.toList,c,va,by rw[ea];exact hS⟩),rfl,q _ (I1.hok.fresh (by rw[sz];exact Nat.le_succ _))⟩
end
end L2
namespace Fw
open PySem PySem.Spec PyProof.Rows L2
def wfl (cl pl st rp pv:Addr):List (Str×V):=[("calls", .ref cl),("pile", .ref pl),("steps", .ref st),("record_places", .ref rp),("part_vals", .ref pv)]
section
variable (cl pl st rp pv:Addr)
theorem wf1:(wfl cl pl st rp pv).lookup ("calls":Str)=some (V.ref cl):=by first|rfl|(with_unfolding_all rfl)|kernel_rfl
theorem wf2:(wfl cl pl st rp pv).lookup ("pile":Str)=some (V.ref pl):=by first|rfl|(with_unfolding_all rfl)|kernel_rfl
theorem wf3:(wfl cl pl st rp pv).lookup ("steps":Str)=some (V.ref st):=by first|rfl|(with_unfolding_all rfl)|kernel_rfl
theorem wf5:(wfl cl pl st rp pv).lookup ("part_vals":Str)=some (V.ref pv):=by first|rfl|(with_unfolding_all rfl)|kernel_rfl
end
structure TxW (K:PySem.W.Frag)(CW:Addr):Prop where
 cw:Cls K CW
 w1:NoAttr K CW "calls"
 w2:NoAttr K CW "pile"
 w3:NoAttr K CW "steps"
 w4:NoAttr K CW "record_places"
 w5:NoAttr K CW "part_vals"
structure WA where
 (m dx cl pl st rp pv:Addr)
structure WM (CW:Addr)(H:Hp)(a:WA)(pile steps:List V):Prop where
 ob:H a.m=some (.ins CW a.dx (wfl a.cl a.pl a.st a.rp a.pv))
 hp:H a.pl=some (.lst pile)
 hs:H a.st=some (.lst steps)
 nd:a.pl≠a.st
def Kq (a:WA)(H H':Hp):Prop:=∀b o,b≠a.pl→b≠a.st→H b=some o→H' b=some o
theorem Kq.trans {a:WA}{H H1 H2:Hp}(h:Kq a H H1)(k:Kq a H1 H2):Kq a H H2:=fun b o n1 n2 e=>k b o n1 n2 (h b o n1 n2 e)
theorem kq_same {a:WA}{H H':Hp}(s:Same H H'):Kq a H H':=fun b o _ _ e=>s b o e
section
variable {CW:Addr}{H H':Hp}{a:WA}{pile steps:List V}
theorem WM.same (w:WM CW H a pile steps)(s:Same H H'):WM CW H' a pile steps:=⟨s _ _ w.ob,s _ _ w.hp,s _ _ w.hs,w.nd⟩
theorem WM.setS (w:WM CW H a pile steps)(xs:List V):WM CW (upd H a.st (.lst xs)) a pile xs:=⟨by rw[upd_ne (ne_of w.ob w.hs (by intro z;cases z))];exact w.ob,by rw[upd_ne w.nd];exact w.hp,upd_same,w.nd⟩
theorem WM.setP (w:WM CW H a pile steps)(xs:List V):WM CW (upd H a.pl (.lst xs)) a xs steps:=⟨by rw[upd_ne (ne_of w.ob w.hp (by intro z;cases z))];exact w.ob,upd_same,by rw[upd_ne (Ne.symm w.nd)];exact w.hs,w.nd⟩
theorem kq_setS {xs:List V}:Kq a H (upd H a.st (.lst xs)):=fun b o _ n e=>by rw[upd_ne n];exact e
theorem kq_setP {xs:List V}:Kq a H (upd H a.pl (.lst xs)):=fun b o n _ e=>by rw[upd_ne n];exact e
end
inductive spThen (CW:Addr)(vs:List V)(H:Hp)(Q:VK)(E_:XK):Prop where
 |mk (a:WA) (pile steps xs:List V) (l:Addr):vs=[.ref a.m, .ref l]→WM CW H a pile steps→H l=some (.lst xs)→xs.length≤100→steps.length≤100000→(∀H',WM CW H' a pile (steps++xs.reverse)→Kq a H H'→Q .non H')→spThen CW vs H Q E_
section
variable {P:Program}{w:World}{K:PySem.W.Frag}{mg:Str→Option Value}{base:Heap}{f CW:Addr}{fd:FuncData}
abbrev s_then:Stmt:=inClass (top 41) 1
theorem sc_then:FnScope ["self","steps"] ["self","steps"] (defScope s_then):=⟨rfl,rfl,rfl,by decide+kernel,rfl,by decide+kernel,by decide+kernel⟩
set_option maxHeartbeats 2000000 in
theorem ok_then (F:Fun K "then" "Worker.then" s_then f fd)(Tx:TxW K CW)(mL:mg "list"=none)(mr:mg "reversed"=none):FnOk P w K mg base CX0 1 f fd ["self","steps"] (spThen CW):=by
 refine F.ok sc_then (fun cdv A outer s H vs Q E hr h=>?_)
 obtain⟨a,pile,steps,xs,l,rfl,wm,hl,lx,ls,q⟩:=h
 refine⟨_,pss_one (ps_expr (pe_bm PySem.F.plainAttrs_list PySem.F.slot_list_extend PySem.F.type_list_extend mt_extend (fldK K (pv 0) rfl) (pa_cons (pe_listRevL rfl rfl mL rfl mr (pv 1)) pa_nil))),?_⟩
 refine⟨_,rfl,a.m,CW,a.dx,_,_,rfl,wm.ob,Tx.cw,Tx.w3,wf3 _ _ _ _ _, .inl ⟨rfl,_,SqL.of wm.hs⟩,_,rfl,l,xs,rfl,SqL.of hl,fun r hr2=>?_⟩
 have s1:=same_new hr2 (.lst xs.reverse)
 have w1:=wm.same s1
 refine⟨a.st,r,steps,xs.reverse,rfl,rfl,w1.hs,upd_same,small (by rw[List.length_reverse];omega),?_⟩
 exact q _ (w1.setS _) ((kq_same s1).trans kq_setS)
end
section
variable {CW:Addr}{H H':Hp}{a:WA}{pile p steps:List V}
theorem WM.kp1 (w:WM CW H a pile steps)(k:Kp1 a.pl H H')(h:H' a.pl=some (.lst p)):WM CW H' a p steps:=⟨k _ _ (ne_of w.ob w.hp (by intro z;cases z)) w.ob,h,k _ _ (Ne.symm w.nd) w.hs,w.nd⟩
theorem kq_kp1 (k:Kp1 a.pl H H'):Kq a H H':=fun b o n _ e=>k b o n e
theorem WM.tup (w:WM CW H a pile steps){r:Addr}{xs:List V}(h:H r=some (.tup xs))(k:Kq a H H'):H' r=some (.tup xs):=k _ _ (ne_of h w.hp (by intro z;cases z)) (ne_of h w.hs (by intro z;cases z)) h
end
inductive spEndN (CW CF CS CT:Addr)(vs:List V)(H:Hp)(Q:VK)(E:XK):Prop where
 |mk (a:WA) (pile steps xs:List V) (r:Addr) (nv:V) (k:Nat) (i j:Int):vs=[.ref a.m, .ref r,nv]→WM CW H a (pile++[.int i, .int j]) steps→H r=some (.tup (.str (wordOf k)::xs))→k≤3→pile.length≤100000→In60 i→In60 j→(In60 (rk k i j)→∀H',WM CW H' a (pile++[.int (rk k i j)]) steps→Kq a H H'→Q .non H')→(¬In60 (rk k i j)→∀ea H',Kq a H H'→E (.ref CT) (some ea) H')→spEndN CW CF CS CT vs H Q E
 |no (a:WA) (pile steps xs:List V) (r:Addr) (nv u v:V) (k:Nat):vs=[.ref a.m, .ref r,nv]→WM CW H a (pile++[u,v]) steps→H r=some (.tup (.str (wordOf k)::xs))→k≤3→(NoNum CF H u∨(∃i,u=.int i)∧NoNum CF H v)→(∀ea H',Kq a H H'→E (.ref CS) (some ea) H')→spEndN CW CF CS CT vs H Q E
section
variable {P:Program}{w:World}{K:PySem.W.Frag}{mg:Str→Option Value}{base:Heap}{f CW CF CS CT:Addr}{fd:FuncData}
abbrev s_endn:Stmt:=top 52
abbrev pWp:List Str:=["worker","phrase","names"]
theorem sc_endn:FnScope ["worker","phrase","names","values"] pWp (defScope s_endn):=⟨rfl,rfl,rfl,by decide+kernel,rfl,by decide+kernel,by decide+kernel⟩
set_option maxHeartbeats 2000000 in
theorem ok_endn {fR:Addr}{gR:FuncData}(F:Fun K "end_numbers" "end_numbers" s_endn f fd)(Tx:TxW K CW)(h1:Has P w K mg base 1 "taken_off" ["pile","count"] spTaken)
  (G:FnOk P w K mg base (CXF P w) 3 fR gR ["word","one","other"] (spReck CF CS CT)) (hm:mg "reckoned"=some (.ref fR)) (kp:PySem.W.keepIn K (.ref fR)=true) (b:Binds K gR ["word","one","other"] []):
  FnOk P w K mg base (CXF P w) 4 f fd pWp (spEndN CW CF CS CT):=by
 refine F.okX sc_endn (len:=(by rintro _ _ _ _ ⟨⟩<;>subst_vars<;>rfl)) (fun cdv A outer s H vs Q E hr h=>?_)
 refine⟨_,pss_cons (pset 3 sc_endn.nd (pcall h1 hr (by decide) rfl (pa_cons (fldK K (pv 0) rfl) (pa_cons pe_int pa_nil))))
  (pss_one (ps_expr (papp K (fldK K (pv 0) rfl) (pa_cons (pe_call G hr rfl hm kp b .nil passes_up
   (pa_cons (pe_ix (ixT K) (pv 1) pe_int) (pa_cons (pe_ix (ixT K) (pv 3) pe_int) (pa_cons (pe_ix (ixT K) (pv 3) pe_int) pa_nil)))) pa_nil)))),?_⟩
 cases h with
 |mk a pile steps xs r nv k i j e M hr' hk lp hi hj q1 q2=>
  subst e
  refine⟨_,rfl,a.m,CW,a.dx,_, .ref a.pl,rfl,M.ob,Tx.cw,Tx.w2,wf2 _ _ _ _ _,a.pl,pile,[.int i, .int j],2,rfl,M.hp,rfl,by decide,fun t H1 ht0 ht hp1 k1=>?_⟩
  have M1:=M.kp1 k1 hp1
  have x1:=kq_kp1 (a:=a) k1
  have hr1:=M.tup hr' x1
  refine⟨_,rfl,a.m,CW,a.dx,_, .ref a.pl,rfl,M1.ob,Tx.cw,Tx.w2,wf2 _ _ _ _ _, .inl ⟨rfl,_,SqL.of M1.hp⟩,ix_t (a:=r) (j:=0) rfl hr1 rfl ⟨_,rfl,t,_,0, .int i,rfl,rfl,SqT.of ht,atI_nat (j:=0) rfl,
   ix_t (a:=t) (j:=1) rfl ht rfl (.mk k i j rfl hk hi hj (fun hin H2 s2=>?_) (fun hout ea H2 s2=>q2 hout ea H2 (x1.trans (kq_same s2))))⟩⟩
  have M2:=M1.same s2
  exact⟨a.pl,pile,_,rfl,rfl,M2.hp,small' (Nat.le_trans lp (by decide)),q1 hin _ (M2.setP _) ((x1.trans (kq_same s2)).trans kq_setP)⟩
 |no a pile steps xs r nv u v k e M hr' hk hn q=>
  subst e
  refine⟨_,rfl,a.m,CW,a.dx,_, .ref a.pl,rfl,M.ob,Tx.cw,Tx.w2,wf2 _ _ _ _ _,a.pl,pile,[u,v],2,rfl,M.hp,rfl,by decide,fun t H1 ht0 ht hp1 k1=>?_⟩
  have M1:=M.kp1 k1 hp1
  have x1:=kq_kp1 (a:=a) k1
  have hr1:=M.tup hr' x1
  have kpn:∀{z:V},NoNum CF H z→NoNum CF H1 z:=fun hz=>by
   cases hz with
   |tup h'=>exact .tup (k1 _ _ (ne_of h' M.hp (by intro z;cases z)) h')
   |ins h'=>exact .ins (k1 _ _ (ne_of h' M.hp (by intro z;cases z)) h')
  refine⟨_,rfl,a.m,CW,a.dx,_, .ref a.pl,rfl,M1.ob,Tx.cw,Tx.w2,wf2 _ _ _ _ _, .inl ⟨rfl,_,SqL.of M1.hp⟩,ix_t (a:=r) (j:=0) rfl hr1 rfl ⟨_,rfl,t,_,0,u,rfl,rfl,SqT.of ht,atI_nat (j:=0) rfl,
   ix_t (a:=t) (j:=1) rfl ht rfl (.no k u v rfl hk (hn.imp kpn fun z=>⟨z.1,kpn z.2⟩) fun ea H2 s2=>q ea H2 (x1.trans (kq_same s2)))⟩⟩
end
theorem wfT (cl pl st rp pv:Addr):(wfl cl pl st rp pv).lookup ("then":Str)=none:=by first|rfl|(with_unfolding_all rfl)|kernel_rfl
inductive spHeaded (vs:List V)(H:Hp)(Q:VK)(E_:XK):Prop where
 |mk (r:Addr) (xs:List V):vs=[.ref r]→H r=some (.tup xs)→Q (.ref r) H→spHeaded vs H Q E_
structure DsL (H:Hp)(t:Addr)(ds:List Addr):Prop where
 tp:H t=some (.tup (ds.map V.ref))
 len:ds.length≤50
 at_:∀d∈ds,∃s xs,H d=some (.tup (.str s::xs))∧s≠"record"∧s≠"maker"∧s≠"apply"
theorem DsL.tps {H H':Hp}{t:Addr}{ds:List Addr}(h:DsL H t ds)(s:∀b ys,H b=some (.tup ys)→H' b=some (.tup ys)):DsL H' t ds:=⟨s _ _ h.tp,h.len,fun d m=>by obtain⟨w,xs,h1,h2⟩:=h.at_ d m;exact⟨w,xs,s _ _ h1,h2⟩⟩
theorem DsL.same {H H':Hp}{t:Addr}{ds:List Addr}(h:DsL H t ds)(s:Same H H'):DsL H' t ds:=h.tps fun b ys h=>s b _ h
inductive spNamed (vs:List V)(H:Hp)(Q:VK)(E_:XK):Prop where
 |mk (t:Addr) (ds:List Addr) (sort:Str):vs=[.ref t, .str sort]→DsL H t ds→(sort="record"∨sort="maker")→(∀(p:Addr) H',Same H H'→H p=none→H' p=some (.dK [])→Q (.ref p) H')→spNamed vs H Q E_
section
variable {P:Program}{w:World}{K:PySem.W.Frag}{mg:Str→Option Value}{base:Heap}{f:Addr}{fd:FuncData}
abbrev s_headed:Stmt:=top 1
abbrev s_named:Stmt:=top 4
theorem kit_tup5 (K:PySem.W.Frag):PySem.W.kitOne K (.type "tuple") (.type "tuple")=some true:=by first|rfl|kernel_rfl
theorem sc_headed:FnScope ["thing"] ["thing"] (defScope s_headed):=⟨rfl,rfl,rfl,by decide+kernel,rfl,by decide+kernel,by decide+kernel⟩
theorem sc_named:FnScope ["program","sort"] ["program","sort"] (defScope s_named):=⟨rfl,rfl,rfl,by decide+kernel,rfl,by decide+kernel,by decide+kernel⟩
theorem ok_headed (F:Fun K "headed" "headed" s_headed f fd)(mi:mg "isinstance"=none)(mt:mg "tuple"=none):FnOk P w K mg base CX0 1 f fd ["thing"] spHeaded:=by
 refine F.ok sc_headed (fun cdv A outer s H vs Q E hr h=>?_)
 obtain⟨r,xs,rfl,hr',q⟩:=h
 refine⟨_,pss_one (ps_ret (pe_ifExp (pt_val (pe_callB call_isi rfl mi boot_isinstance (pa_cons (pv 0) (pa_cons (pe_bltn (v:=.ty "tuple") rfl mt boot_tuple rfl) pa_nil)))) (pv 0) (pe_tup (pa_cons (pv 0) pa_nil)))),?_⟩
 exact⟨_,rfl,_,_,_,_,rfl, .tup hr',kit_tup5 K,true,rfl,iteT ⟨_,rfl,q⟩⟩
set_option maxHeartbeats 2000000 in
theorem ok_named (F:Fun K "named" "named" s_named f fd)(mD:mg "dict"=none):FnOk P w K mg base CX0 1 f fd ["program","sort"] spNamed:=by
 refine F.ok sc_named (fun cdv A outer s H vs Q E hr h=>?_)
 obtain⟨t,ds,sort,rfl,ml,ns,q⟩:=h
 refine⟨_,pss_one (ps_ret (pe_callTy (call_dict_l rfl) rfl mD boot_dict' (pa_cons (pe_lc (te:=tTup (tCons (tOp (rIxT K) (tVar 0) (tC (.int 1))) (tCons (tVar 0) tNil))) (defScope s_named) ["program","sort"] ["sort"] [1] (by decide+kernel) (piT K (pv 0))
  (fun C s₀ H₀ ex=>pts_one (pt_cmpR op_eq (pe_ix (ixT K) (pv 0) pe_int) (pv 1))) (fun C s₀ H₀ ex=>pe_tup (pa_cons (pe_ix (ixT K) (pv 0) pe_int) (pa_cons (pv 0) pa_nil)))) pa_nil))),?_⟩
 refine⟨_,rfl,t,rfl,⟨_,SqT.of ml.tp⟩,comp_tup (xs:=ds.map V.ref) (fun i vs H'=>H'=H∧vs=[]) ⟨rfl,rfl⟩ ?_ ?_ ?_⟩
 ·rintro i vs H' hi ⟨rfl,rfl⟩
  exact⟨SqT.of ml.tp,small' (by decide)⟩
 ·rintro i x vs H' hi hx ⟨rfl,rfl⟩
  rw[List.getElem?_map]at hx
  cases e:ds[i]? with
  |none=>rw[e]at hx;cases hx
  |some d=>
  rw[e]at hx
  cases hx
  obtain⟨w,xs,h1,h2,h3,h4⟩:=ml.at_ d (List.mem_of_getElem? e)
  refine ix_t (a:=d) (j:=0) rfl h1 rfl ⟨_,rfl,rfl,_,rfl,?_⟩
  rw[decide_eq_false (fun z=>by
   have z':=V.str.inj z
   rcases ns with n|n
   ·exact h2 (z'.trans n)
   ·exact h3 (z'.trans n))]
  exact iteF (nx hi ⟨rfl,rfl⟩)
 ·rintro vs H' ⟨rfl,rfl⟩ l hl
  have s1:=same_new hl (.lst [])
  exact⟨l,[],[],rfl,upd_same,rfl,fun j p kv hj=>by simp at hj,fun p hp=>q p _ (s1.trans (same_new hp _)) (s1.free hp) upd_same⟩
end
inductive spFP (vs:List V)(H:Hp)(Q:VK)(E_:XK):Prop where
 |mk (t:Addr) (ds:List Addr):vs=[.ref t]→DsL H t ds→(∀(p:Addr) H',Same H H'→H p=none→H' p=some (.dK [])→Q (.ref p) H')→spFP vs H Q E_
section
variable {P:Program}{w:World}{K:PySem.W.Frag}{mg:Str→Option Value}{base:Heap}{f:Addr}{fd:FuncData}
abbrev s_fp:Stmt:=top 7
theorem sc_fp:FnScope ["program","told","record","place","field"] ["program"] (defScope s_fp):=⟨rfl,rfl,rfl,by decide+kernel,rfl,by decide+kernel,by decide+kernel⟩
set_option maxHeartbeats 2000000 in
theorem ok_fp (F:Fun K "field_places" "field_places" s_fp f fd)(h1:Has P w K mg base 1 "named" ["program","sort"] spNamed):FnOk P w K mg base CX0 2 f fd ["program"] spFP:=by
 refine F.ok sc_fp (fun cdv A outer s H vs Q E hr h=>?_)
 obtain⟨t,ds,rfl,ml,q⟩:=h
 refine⟨_,pss_cons (pset 1 sc_fp.nd pe_dnewK)
  (pss_cons (ps_for PassesOwn.never rfl (pi_vals (pcall h1 hr (by decide) rfl (pa_cons (pv 0) (pa_cons pe_str pa_nil)))) (pg_name (i:=2) sc_fp.nd rfl (Or.inl rfl)) (pss_one ps_never))
  (pss_one (ps_ret (pv 1)))),?_⟩
 refine fun p hp=>?_
 have s1:=same_new hp (.dK [])
 have b1:(upd H p (.dK [])) p=some (.dK []):=upd_same
 revert s1 b1
 generalize upd H p (.dK [])=H1
 intro s1 b1
 refine⟨_,rfl,t,ds,"record",rfl,ml.same s1, .inl rfl,fun a H2 s2 ha0 ha=>⟨a,[],rfl,ha,fun o=>?_⟩⟩
 have s3:Same H1 (upd H2 a (.frz o (.dK []))):=fun b u e=>by rw[upd_ne (ne_of_none e ha0)];exact s2 _ _ e
 refine for_vals (kvs:=[]) (fun i σ H'=>σ=[some (.ref t),some (.ref p),none,none,none]∧H'=upd H2 a (.frz o (.dK []))) ⟨rfl,rfl⟩ ?_ ?_ ?_
 ·rintro i σ H' _ ⟨rfl,rfl⟩
  exact upd_same
 ·rintro i k x σ H' hx
  simp at hx
 ·rintro σ H' ⟨rfl,rfl⟩
  exact⟨_,rfl,q p _ (s1.trans s3) hp (s3 _ _ b1)⟩
end
def cfl5 (most begun under:V):List (Str×V):=[("most",most),("begun",begun),("under_way",under)]
structure TxC (K:PySem.W.Frag)(CC:Addr):Prop where
 cc:Cls K CC
 c1:NoAttr K CC "most"
 c2:NoAttr K CC "begun"
 c3:NoAttr K CC "under_way"
inductive spCalls (CC:Addr)(vs:List V)(H:Hp)(Q:VK)(E_:XK):Prop where
 |mk (p dx:Addr) (v:V):vs=[.ref p,v]→H p=some (.ins CC dx [])→Q .non (upd H p (.ins CC dx (cfl5 v (.int 0) (.int 0))))→spCalls CC vs H Q E_
section
variable (v u t:V)
theorem pc1:putF "most" v []=([("most",v)]:List (Str×V)):=by first|rfl|(with_unfolding_all rfl)|kernel_rfl
theorem pc2:putF "begun" u [("most",v)]=([("most",v),("begun",u)]:List (Str×V)):=by first|rfl|(with_unfolding_all rfl)|kernel_rfl
theorem pc3:putF "under_way" t [("most",v),("begun",u)]=cfl5 v u t:=by first|rfl|(with_unfolding_all rfl)|kernel_rfl
theorem pw1:putF "calls" v []=([("calls",v)]:List (Str×V)):=by first|rfl|(with_unfolding_all rfl)|kernel_rfl
theorem pw2:putF "pile" u [("calls",v)]=([("calls",v),("pile",u)]:List (Str×V)):=by first|rfl|(with_unfolding_all rfl)|kernel_rfl
theorem pw3:putF "steps" t [("calls",v),("pile",u)]=([("calls",v),("pile",u),("steps",t)]:List (Str×V)):=by first|rfl|(with_unfolding_all rfl)|kernel_rfl
theorem pw4 (r:V):putF "record_places" r [("calls",v),("pile",u),("steps",t)]=([("calls",v),("pile",u),("steps",t),("record_places",r)]:List (Str×V)):=by first|rfl|(with_unfolding_all rfl)|kernel_rfl
theorem pw5 (r x:V):putF "part_vals" x [("calls",v),("pile",u),("steps",t),("record_places",r)]=([("calls",v),("pile",u),("steps",t),("record_places",r),("part_vals",x)]:List (Str×V)):=by first|rfl|(with_unfolding_all rfl)|kernel_rfl
end
theorem kp1_free {m b:Addr}{H H':Hp}(k:Kp1 m H H')(n:b≠m)(h:H' b=none):H b=none:=by
 cases e:H b with
 |none=>rfl
 |some o=>rw[k b o n e]at h;cases h
theorem lay5 {H:Hp}{d m C dx:Addr}{o:HO}{fs fs':List (Str×V)}(hm:H m=some (.ins C dx fs))(hd:H d=none):
  (upd H d o) m=some (.ins C dx fs)∧(upd (upd H d o) m (.ins C dx fs')) m=some (.ins C dx fs')∧(upd (upd H d o) m (.ins C dx fs')) d=some o∧Kp1 m H (upd (upd H d o) m (.ins C dx fs'))∧d≠m:=by
 have n:m≠d:=ne_of_none hm hd
 refine⟨by rw[upd_ne n];exact hm,upd_same,by rw[upd_ne (Ne.symm n),upd_same],fun b x nb h=>?_,Ne.symm n⟩
 rw[upd_ne nb,upd_ne (ne_of_none h hd)]
 exact h
section
variable {P:Program}{w:World}{K:PySem.W.Frag}{mg:Str→Option Value}{base:Heap}{f CC CW:Addr}{fd:FuncData}
abbrev s_calls:Stmt:=inClass (top 38) 0
abbrev s_work0:Stmt:=inClass (top 41) 0
theorem sc_calls:FnScope ["self","most"] ["self","most"] (defScope s_calls):=⟨rfl,rfl,rfl,by decide+kernel,rfl,by decide+kernel,by decide+kernel⟩
theorem sc_work0:FnScope ["self","program","calls"] ["self","program","calls"] (defScope s_work0):=⟨rfl,rfl,rfl,by decide+kernel,rfl,by decide+kernel,by decide+kernel⟩
theorem ok_calls (F:Fun K "__init__" "Calls.__init__" s_calls f fd)(Tx:TxC K CC):FnOk P w K mg base CX0 1 f fd ["self","most"] (spCalls CC):=by
 refine F.ok sc_calls (fun cdv A outer s H vs Q E hr h=>?_)
 obtain⟨p,dx,v,rfl,hp,q⟩:=h
 refine⟨_,pss_cons (sfldK K (pv 0) (pv 1) rfl) (pss_cons (sfldK K (pv 0) pe_int rfl) (pss_one (sfldK K (pv 0) pe_int rfl))),?_⟩
 refine⟨_,rfl,_,rfl,p,CC,dx,[],rfl,hp,Tx.cc,Tx.c1,(by show 0<1000;decide),?_⟩
 rw[pc1]
 refine⟨_,rfl,p,CC,dx,_,rfl,upd_same,Tx.cc,Tx.c2,(by show 1<1000;decide),?_⟩
 rw[pc2]
 refine⟨_,rfl,p,CC,dx,_,rfl,upd_same,Tx.cc,Tx.c3,(by show 2<1000;decide),?_⟩
 rw[pc3,upd_upd,upd_upd]
 exact q
inductive spWork0 (CW:Addr)(vs:List V)(H:Hp)(Q:VK)(E_:XK):Prop where
 |mk (m dx t cl:Addr) (ds:List Addr):vs=[.ref m, .ref t, .ref cl]→H m=some (.ins CW dx [])→DsL H t ds→(∀(a:WA) H',a.m=m→a.cl=cl→WM CW H' a [] []→Kp1 m H H'→H a.pl=none→H a.st=none→H a.pv=none→H' a.pv=some (.dK [])→Q .non H')→spWork0 CW vs H Q E_
set_option maxHeartbeats 2000000 in
theorem ok_work0 (F:Fun K "__init__" "Worker.__init__" s_work0 f fd)(Tx:TxW K CW)(h1:Has P w K mg base 2 "field_places" ["program"] spFP):FnOk P w K mg base CX0 3 f fd ["self","program","calls"] (spWork0 CW):=by
 refine F.ok sc_work0 (fun cdv A outer s H vs Q E hr h=>?_)
 obtain⟨m,dx,t,cl,ds,rfl,hm,ml,q⟩:=h
 refine⟨_,pss_cons (sfldK K (pv 0) (pv 2) rfl) (pss_cons (sfldK K (pv 0) (pe_lst pa_nil) rfl) (pss_cons (sfldK K (pv 0) (pe_lst pa_nil) rfl) (pss_cons (sfldK K (pv 0) (pcall h1 hr (by decide) rfl (pa_cons (pv 1) pa_nil)) rfl) (pss_one (sfldK K (pv 0) pe_dnewK rfl))))),?_⟩
 refine⟨_,rfl,_,rfl,m,CW,dx,[],rfl,hm,Tx.cw,Tx.w1,(by show 0<1000;decide),?_⟩
 rw[pw1]
 have k2:Kp1 m H (upd H m (.ins CW dx [("calls", .ref cl)])):=fun b o nb h=>by rw[upd_ne nb];exact h
 have b2:(upd H m (.ins CW dx [("calls", .ref cl)])) m=some (.ins CW dx [("calls", .ref cl)]):=upd_same
 revert k2 b2
 generalize upd H m (.ins CW dx [("calls", .ref cl)])=H2
 intro k2 b2
 refine⟨(sml 0),fun pl hpl=>?_⟩
 obtain⟨a3,b3,c3,k3,npl⟩:=lay5 (o:=.lst []) (fs':=[("calls", .ref cl),("pile", .ref pl)]) b2 hpl
 refine⟨_,rfl,m,CW,dx,_,rfl,a3,Tx.cw,Tx.w2,(by show 1<1000;decide),?_⟩
 rw[pw2]
 revert b3 c3 k3
 generalize upd (upd H2 pl (.lst [])) m (.ins CW dx [("calls", .ref cl),("pile", .ref pl)])=H3
 intro b3 c3 k3
 refine⟨(sml 0),fun st hst=>?_⟩
 obtain⟨a4,b4,c4,k4,nst⟩:=lay5 (o:=.lst []) (fs':=[("calls", .ref cl),("pile", .ref pl),("steps", .ref st)]) b3 hst
 have nps:pl≠st:=ne_of_none c3 hst
 refine⟨_,rfl,m,CW,dx,_,rfl,a4,Tx.cw,Tx.w3,(by show 2<1000;decide),?_⟩
 rw[pw3]
 have p4:=k4 _ _ npl c3
 revert b4 c4 k4 p4
 generalize upd (upd H3 st (.lst [])) m (.ins CW dx [("calls", .ref cl),("pile", .ref pl),("steps", .ref st)])=H4
 intro b4 c4 k4 p4
 have k04:Kp1 m H H4:=fun b o n h=>k4 _ _ n (k3 _ _ n (k2 _ _ n h))
 have ml4:DsL H4 t ds:=ml.tps fun b ys h=>k04 _ _ (ne_of h hm (by intro z;cases z)) h
 refine⟨_,rfl,t,ds,rfl,ml4,fun rp H5 s5 hrp0 hrp=>?_⟩
 refine⟨_,rfl,m,CW,dx,_,rfl,s5 _ _ b4,Tx.cw,Tx.w4,(by show 3<1000;decide),?_⟩
 rw[pw4]
 have k6:Kp1 m H (upd H5 m (.ins CW dx [("calls", .ref cl),("pile", .ref pl),("steps", .ref st),("record_places", .ref rp)])):=fun b o nb h=>by rw[upd_ne nb];exact s5 _ _ (k04 _ _ nb h)
 have b6:(upd H5 m (.ins CW dx [("calls", .ref cl),("pile", .ref pl),("steps", .ref st),("record_places", .ref rp)])) m=some (.ins CW dx [("calls", .ref cl),("pile", .ref pl),("steps", .ref st),("record_places", .ref rp)]):=upd_same
 have p6:(upd H5 m (.ins CW dx [("calls", .ref cl),("pile", .ref pl),("steps", .ref st),("record_places", .ref rp)])) pl=some (.lst []):=by rw[upd_ne npl];exact s5 _ _ p4
 have t6:(upd H5 m (.ins CW dx [("calls", .ref cl),("pile", .ref pl),("steps", .ref st),("record_places", .ref rp)])) st=some (.lst []):=by rw[upd_ne nst];exact s5 _ _ c4
 revert k6 b6 p6 t6
 generalize upd H5 m (.ins CW dx [("calls", .ref cl),("pile", .ref pl),("steps", .ref st),("record_places", .ref rp)])=H6
 intro k6 b6 p6 t6
 refine fun pv hpv=>?_
 obtain⟨a7,b7,c7,k7,npv⟩:=lay5 (o:=.dK []) (fs':=[("calls", .ref cl),("pile", .ref pl),("steps", .ref st),("record_places", .ref rp),("part_vals", .ref pv)]) b6 hpv
 refine⟨_,rfl,m,CW,dx,_,rfl,a7,Tx.cw,Tx.w5,(by show 4<1000;decide),?_⟩
 rw[pw5]
 exact q ⟨m,dx,cl,pl,st,rp,pv⟩ _ rfl rfl ⟨b7,k7 _ _ npl p6,k7 _ _ nst t6,nps⟩ (fun b o n h=>k7 _ _ n (k6 _ _ n h)) (kp1_free k2 npl hpl) (kp1_free (fun b o n h=>k3 _ _ n (k2 _ _ n h)) nst hst) (kp1_free k6 npv hpv) c7
end
end Fw
namespace L2
open PySem PySem.Spec PyProof.Rows
theorem mt_stripC {X:Cx}:MtR X "str.strip" (fun x xs H Q=>∃z y,x=V.str z∧xs=[.str y]∧z.length≤sizeLine∧Q (.str (Txt.stripChars z y)) H):=by
 intro pins s σ H x xs v us Q I rx rs h
 obtain⟨z,y,rfl,rfl,hz,q⟩:=h
 obtain⟨t,rfl⟩:=rx
 obtain⟨u,rfl,ru⟩:=vals1 rs
 obtain⟨t',rfl⟩:=ru
 exact SCL.stripChars (fun t2 k _=>⟨.str (Txt.stripChars z y),H,I.tok k,⟨t2,rfl⟩,q⟩) hz
end L2
namespace Fw
open PySem PySem.Spec PyProof.Rows L2
theorem empty_len {x:Str}(h:x.length=0):x="":=by
 obtain⟨c⟩:=x
 have e:c=#[]:=Array.eq_empty_of_size_eq_zero h
 rw[e]
 decide+kernel
theorem tw_all {α:Type}(p:α→Bool):∀l:List α,l.all p=true→l.takeWhile p=l
 |[],_=>rfl
 |a::r,h=>by
  rw[List.all_cons,Bool.and_eq_true]at h
  rw[List.takeWhile_cons,if_pos h.1,tw_all p r h.2]
theorem tw_len {α:Type}(p:α→Bool):∀l:List α,l.all p=false→(l.takeWhile p).length<l.length
 |[],h=>by cases h
 |a::r,h=>by
  rw[List.takeWhile_cons]
  by_cases c:p a=true
  ·rw[if_pos c]
   rw[List.all_cons,c,Bool.true_and]at h
   exact Nat.succ_lt_succ (tw_len p r h)
  ·rw[if_neg c]
   exact Nat.succ_pos _
theorem tw_drop {α:Type}(p:α→Bool):∀l:List α,l.all p=false→(l.drop (l.takeWhile p).length).all p=false
 |[],h=>by cases h
 |a::r,h=>by
  rw[List.takeWhile_cons]
  by_cases c:p a=true
  ·rw[if_pos c]
   rw[List.all_cons,c,Bool.true_and]at h
   exact tw_drop p r h
  ·rw[if_neg c]
   exact h
theorem strip_len (x y:Str):(Txt.stripChars x y).length=0↔allS x y=true:=by
 have hn:x.cps.toList.length=x.length:=len_toList x
 have ep:∀c,y.cps.contains c=inS y c:=fun c=>by
  unfold inS
  rw[←Array.contains_toList]
  exact List.contains_eq_mem c y.cps.toList
 have ef:(fun c=>y.cps.contains c)=inS y:=funext ep
 unfold Txt.stripChars Txt.stripBy stripSame stripped stripHi stripLo
 simp only[if_true]
 have ef':y.cps.contains=inS y:=ef
 rw[ef']
 have ea:allS x y=x.cps.toList.all (inS y):=rfl
 rw[ea]
 generalize x.cps.toList=l at hn
 by_cases h:l.all (inS y)=true
 ·rw[tw_all _ l h,List.drop_eq_nil_of_le (Nat.le_refl _)]
  refine⟨fun _=>h,fun _=>?_⟩
  show(if(l.length==0&&x.length-0==x.length)=true then x else Builtin.Str.strSub x l.length (x.length-0)).length=0
  by_cases hc:(l.length==0&&x.length-0==x.length)=true
  ·rw[if_pos hc]
   rw[Bool.and_eq_true,beq_iff_eq,beq_iff_eq]at hc
   omega
  ·rw[if_neg hc]
   show(x.cps.extract l.length (x.length-0)).size=0
   rw[Array.size_extract]
   omega
 ·have h':l.all (inS y)=false:=by simpa using h
  have a1:=tw_len _ l h'
  have a2:=tw_drop _ l h'
  rw[←List.all_reverse]at a2
  have a3:=tw_len _ _ a2
  rw[List.length_reverse,List.length_drop]at a3
  refine⟨fun hz=>?_,fun h2=>absurd h2 h⟩
  exfalso
  split at hz
  ·omega
  ·have hz':(x.cps.extract (List.takeWhile (inS y) l).length (x.length-(List.takeWhile (inS y) (List.drop (List.takeWhile (inS y) l).length l).reverse).length)).size=0:=hz
   rw[Array.size_extract]at hz'
   have hs:x.cps.size=x.length:=rfl
   omega
theorem strip_is (x y:Str):decide (V.str (Txt.stripChars x y)=V.str "")=allS x y:=by
 have h:=strip_len x y
 by_cases c:allS x y=true
 ·rw[c]
  exact decide_eq_true (congrArg V.str (empty_len (h.mpr c)))
 ·have c':allS x y=false:=by simpa using c
  rw[c']
  refine decide_eq_false fun e=>c (h.mp ?_)
  injection e with e'
  rw[e']
  decide+kernel
abbrev s_all_of:Stmt:=top 19
abbrev s_is_small:Stmt:=top 20
abbrev s_is_name:Stmt:=top 21
abbrev s_is_great:Stmt:=top 22
abbrev s_is_path:Stmt:=top 23
section
variable {P:Program}{w:World}{K:PySem.W.Frag}{mg:Str→Option Value}{base:Heap}{f:Addr}{fd:FuncData}
theorem sc_all_of:FnScope ["text","signs"] ["text","signs"] (defScope s_all_of):=⟨rfl,rfl,rfl,by decide+kernel,rfl,by decide+kernel,by decide+kernel⟩
theorem ok_all_of (F:Fun K "all_of" "all_of" s_all_of f fd)(G:Gb K mg):FnOk P w K mg base CX0 1 f fd ["text","signs"] spAllOf:=by
 refine F.ok sc_all_of (len:=fun vs H Q E h=>(by obtain⟨x,y,rfl,_⟩:=h;rfl)) (fun cdv A outer s H vs Q E hr h=>?_)
 obtain⟨x,y,rfl,hx,q⟩:=h
 refine⟨_,pss_one (ps_ret (pe_cmpR op_eq (pe_bm PySem.F.plainAttrs_str PySem.F.slot_str_strip PySem.F.type_str_strip mt_stripC (pv 0) (pa_cons (pv 1) pa_nil)) pe_str (nomark _))),?_⟩
 refine⟨_,rfl,rfl,_,rfl,x,y,rfl,rfl,small (by omega),rfl,?_⟩
 rw[strip_is]
 exact q H (Same.refl H)
theorem sc_is_small:FnScope ["thing"] ["thing"] (defScope s_is_small):=⟨rfl,rfl,rfl,by decide+kernel,rfl,by decide+kernel,by decide+kernel⟩
theorem ok_is_small (F:Fun K "is_small" "is_small" s_is_small f fd)(G:Gb K mg)(h1:Has P w K mg base 1 "all_of" ["text","signs"] spAllOf):FnOk P w K mg base CX0 2 f fd ["thing"] (spT (onStr smallB)):=by
 refine F.ok sc_is_small (len:=fun vs H Q E h=>(by obtain⟨v,t,rfl,_⟩:=h;rfl)) (fun cdv A outer s H vs Q E hr h=>?_)
 obtain⟨v,t,rfl,rt,q⟩:=h
 obtain⟨t1,hsm⟩:=G.small
 obtain⟨t2,hmo⟩:=G.most
 refine⟨_,pss_one (ps_ret (pe_and (pe_callB call_isi rfl G.isi boot_isinstance (pa_cons (pv 0) (pa_cons (pe_bltn (v:=.ty "str") rfl G.str boot_str rfl) pa_nil)))
  (pe_and (pe_chain op_le op_le pe_int (pe_callB call_len_str rfl G.len PySem.boot_len (pa_cons (pv 0) pa_nil)) (pe_glob (v:=.int 8) rfl hmo ⟨_,rfl⟩))
   (pe_one (pcall h1 hr (by decide) rfl (pa_cons (pv 0) (pa_cons (pe_glob (v:=.str smallS) rfl hsm ⟨_,rfl⟩) pa_nil))))))),?_⟩
 refine⟨_,rfl,_,_,_,_,rfl,rep_ty rt,kit_str K t,_,rfl,?_⟩
 cases rt with
 |int i=>exact iteF (q H (Same.refl H))
 |tup h r=>exact iteF (q H (Same.refl H))
 |str z hz=>
  have q':∀H',Same H H'→Q (.bl (smallB z)) H':=q
  refine iteT ⟨_,rfl,z,rfl,small (by omega),1,z.length,rfl,rfl,_,rfl,?_⟩
  refine ite2 (fun c=>?_) (fun c=>?_)
  ·have c1:(1:Int)≤z.length:=of_decide_eq_true c
   refine⟨_,_,rfl,rfl,_,rfl,?_⟩
   refine ite2 (fun d=>?_) (fun d=>?_)
   ·have d1:(z.length:Int)≤8:=of_decide_eq_true d
    rw[smallB_in (by omega) (by omega)]at q'
    exact⟨_,rfl,z,smallS,rfl,hz,q'⟩
   ·have d1:¬(z.length:Int)≤8:=of_decide_eq_false (Bool.eq_false_iff.mpr d)
    rw[smallB_hi (by omega)]at q'
    exact q' H (Same.refl H)
  ·have c1:¬(1:Int)≤z.length:=of_decide_eq_false (Bool.eq_false_iff.mpr c)
   rw[smallB_lo (by omega)]at q'
   exact⟨_,rfl,iteF (q' H (Same.refl H))⟩
theorem sc_is_name:FnScope ["thing"] ["thing"] (defScope s_is_name):=⟨rfl,rfl,rfl,by decide+kernel,rfl,by decide+kernel,by decide+kernel⟩
theorem ok_is_name (F:Fun K "is_name" "is_name" s_is_name f fd)(G:Gb K mg)(h1:Has P w K mg base 2 "is_small" ["thing"] (spT (onStr smallB))):FnOk P w K mg base CX0 3 f fd ["thing"] (spT (onStr nameB)):=by
 refine F.ok sc_is_name (len:=fun vs H Q E h=>(by obtain⟨v,t,rfl,_⟩:=h;rfl)) (fun cdv A outer s H vs Q E hr h=>?_)
 obtain⟨v,t,rfl,rt,q⟩:=h
 obtain⟨a,hke,hkt⟩:=G.kept
 refine⟨_,pss_one (ps_ret (pe_and (pcall h1 hr (by decide) rfl (pa_cons (pv 0) pa_nil)) (pe_one (pe_cmpR op_notIn_seq (pv 0) (pe_glob (v:=.ref a) rfl hke rfl) (by with_unfolding_all rfl))))),?_⟩
 refine⟨_,rfl,v,t,rfl,rt,fun H' e=>⟨_,rfl,?_⟩⟩
 cases rt with
 |int i=>exact iteF (q H' e)
 |tup h r=>exact iteF (q H' e)
 |str z hz=>
  have q':∀H',Same H H'→Q (.bl (nameB z)) H':=q
  show if smallB z=true then _ else _
  cases hs:smallB z with
  |false=>
   unfold nameB at q'
   rw[hs]at q'
   exact iteF (q' H' e)
  |true=>
   unfold nameB at q'
   rw[hs]at q'
   refine iteT ⟨_,rfl,a,keptL.map V.str,rfl, .inr (hkt H'),rfl,flat_strs _,?_⟩
   rw[if_pos rfl,inV_str]
   exact q' H' e
theorem sc_is_great:FnScope ["thing"] ["thing"] (defScope s_is_great):=⟨rfl,rfl,rfl,by decide+kernel,rfl,by decide+kernel,by decide+kernel⟩
theorem ok_is_great (F:Fun K "is_great" "is_great" s_is_great f fd)(G:Gb K mg)(h1:Has P w K mg base 1 "all_of" ["text","signs"] spAllOf):FnOk P w K mg base CX0 2 f fd ["thing"] (spT (onStr greatB)):=by
 refine F.ok sc_is_great (len:=fun vs H Q E h=>(by obtain⟨v,t,rfl,_⟩:=h;rfl)) (fun cdv A outer s H vs Q E hr h=>?_)
 obtain⟨v,t,rfl,rt,q⟩:=h
 obtain⟨t1,hsm⟩:=G.small
 obtain⟨t2,hmo⟩:=G.most
 obtain⟨t3,hgr⟩:=G.great
 refine⟨_,pss_cons (ps_if (PW.pt (pw_or (pt_not (pt_val (pe_callB call_isi rfl G.isi boot_isinstance (pa_cons (pv 0) (pa_cons (pe_bltn (v:=.ty "str") rfl G.str boot_str rfl) pa_nil)))))
   (pw_or1 (pt_not (pt_chain op_le op_le pe_int (pe_callB call_len_str rfl G.len PySem.boot_len (pa_cons (pv 0) pa_nil)) (pe_glob (v:=.int 8) rfl hmo ⟨_,rfl⟩)))))) (pss_one (ps_ret pe_bl)) pss_nil)
  (pss_one (ps_ret (pe_and (pe_cmpR op_in_str (pe_ix ix_str (pv 0) pe_int (fun _ _=>rfl)) (pe_glob (v:=.str greatS) rfl hgr ⟨_,rfl⟩) (by with_unfolding_all rfl))
   (pe_one (pcall h1 hr (by decide) rfl (pa_cons (pe_slice sl_str (pv 0) (po_some pe_int) po_none) (pa_cons (pe_glob (v:=.str smallS) rfl hsm ⟨_,rfl⟩) pa_nil))))))),?_⟩
 refine⟨_,rfl,_,_,_,_,rfl,rep_ty rt,kit_str K t,_,rfl,?_⟩
 cases rt with
 |int i=>exact iteT (iteT (q H (Same.refl H)))
 |tup h r=>exact iteT (iteT (q H (Same.refl H)))
 |str z hz=>
  have q':∀H',Same H H'→Q (.bl (greatB z)) H':=q
  refine iteF ⟨_,rfl,z,rfl,small (by omega),1,z.length,rfl,rfl,_,rfl,?_⟩
  refine ite2 (fun c=>?_) (fun c=>?_)
  ·have c1:(1:Int)≤z.length:=of_decide_eq_true c
   refine⟨_,_,rfl,rfl,_,rfl,?_⟩
   refine ite2 (fun d=>?_) (fun d=>?_)
   ·have d1:¬(z.length:Int)≤8:=of_decide_eq_false (by simpa using d)
    rw[greatB_hi (by omega)]at q'
    exact q' H (Same.refl H)
   ·have d1:(z.length:Int)≤8:=of_decide_eq_true (by simpa using d)
    rw[greatB_in (by omega) (by omega)]at q'
    refine⟨_,rfl,z,0,_,rfl,rfl,small (by omega),first_at (by omega),_,_,rfl,rfl,_,rfl,?_⟩
    rw[StrLaws.found_one]
    show if inS greatS (z.cps.toList.getD 0 0)=true then _ else _
    cases hg:inS greatS (z.cps.toList.getD 0 0) with
    |false=>
     rw[hg]at q'
     exact iteF (q' H (Same.refl H))
    |true=>
     rw[hg,Bool.true_and]at q'
     refine iteT ⟨_,rfl,1,rfl,z,rfl,small (by omega),?_⟩
     have rl:=rest_len z
     refine⟨restS z,smallS,?_,by omega,q'⟩
     rw[rest_slice (by omega)]
     rfl
  ·have c1:¬(1:Int)≤z.length:=of_decide_eq_false (Bool.eq_false_iff.mpr c)
   rw[greatB_lo (by omega)]at q'
   exact⟨_,rfl,iteT (q' H (Same.refl H))⟩
theorem sc_is_path:FnScope ["thing","sides"] ["thing"] (defScope s_is_path):=⟨rfl,rfl,rfl,by decide+kernel,rfl,by decide+kernel,by decide+kernel⟩
theorem ok_is_path (F:Fun K "is_path" "is_path" s_is_path f fd)(G:Gb K mg)(h1:Has P w K mg base 3 "is_name" ["thing"] (spT (onStr nameB)))(h2:Has P w K mg base 2 "is_great" ["thing"] (spT (onStr greatB))):FnOk P w K mg base CX0 4 f fd ["thing"] (spT (onStr pathB)):=by
 refine F.ok sc_is_path (len:=fun vs H Q E h=>(by obtain⟨v,t,rfl,_⟩:=h;rfl)) (fun cdv A outer s H vs Q E hr h=>?_)
 obtain⟨v,t,rfl,rt,q⟩:=h
 refine⟨_,pss_cons (ps_if (pt_not (pt_val (pe_callB call_isi rfl G.isi boot_isinstance (pa_cons (pv 0) (pa_cons (pe_bltn (v:=.ty "str") rfl G.str boot_str rfl) pa_nil))))) (pss_one (ps_ret pe_bl)) pss_nil)
  (pss_cons (ps_set (i:=1) sc_is_path.nd rfl (Or.inl rfl) (pe_bm PySem.F.plainAttrs_str PySem.F.slot_str_split PySem.F.type_str_split mt_split (pv 0) (pa_cons pe_str pa_nil)))
   (pss_one (ps_ret (pe_and (pe_cmpR op_eq (pe_callB call_len_seq rfl G.len PySem.boot_len (pa_cons (pv 1) pa_nil)) pe_int (nomark _))
    (pe_and (pcall h2 hr (by decide) rfl (pa_cons (pe_ix ix_list (pv 1) pe_int (fun _ _=>rfl)) pa_nil))
     (pe_one (pcall h1 hr (by decide) rfl (pa_cons (pe_ix ix_list (pv 1) pe_int (fun _ _=>rfl)) pa_nil)))))))),?_⟩
 refine⟨_,rfl,_,_,_,_,rfl,rep_ty rt,kit_str K t,_,rfl,?_⟩
 cases rt with
 |int i=>exact iteT (q H (Same.refl H))
 |tup h r=>exact iteT (q H (Same.refl H))
 |str z hz=>
  have q':∀H',Same H H'→Q (.bl (pathB z)) H':=q
  have sl:=split_short z
  refine iteF ⟨_,rfl,rfl,z,".",rfl,rfl,small (by omega),by decide+kernel,small (by omega),fun l hl=>?_⟩
  have g1:=same_new hl (.lst ((Txt.split z ".").map V.str))
  refine⟨_,rfl,l,_,rfl, .inl (SqL.of upd_same),rfl,_,rfl,?_⟩
  refine ite2 (fun c=>?_) (fun c=>?_)
  ·have c1:(Txt.split z ".").length=2:=by
    have:=of_decide_eq_true c
    injection this with e
    rw[List.length_map]at e
    omega
   obtain⟨a,b,e⟩:∃a b,Txt.split z "."=[a,b]:=by
    match hh:Txt.split z ".",c1 with
    |[a,b],_=>exact⟨a,b,rfl⟩
   have la:a.length≤z.length:=part_short (y:=".") (by rw[e];simp)
   have lb:b.length≤z.length:=part_short (y:=".") (by rw[e];simp)
   rw[pathB_two e]at q'
   refine⟨_,rfl,l,_,0, .str a,rfl,rfl,SqL.of upd_same,atI_nat (j:=0) (by rw[e];rfl), .str a, .str a,rfl, .str a (by omega),fun H2 e2=>⟨_,rfl,?_⟩⟩
   show if greatB a=true then _ else _
   cases hg:greatB a with
   |false=>
    rw[hg]at q'
    exact iteF (q' H2 (g1.trans e2))
   |true=>
    rw[hg,Bool.true_and]at q'
    refine iteT ⟨_,rfl,l,_,1, .str b,rfl,rfl,SqL.of (e2 _ _ upd_same),atI_nat (j:=1) (by rw[e];rfl), .str b, .str b,rfl, .str b (by omega),fun H3 e3=>q' H3 (g1.trans (e2.trans e3))⟩
  ·have c1:(Txt.split z ".").length≠2:=fun e=>c (by rw[List.length_map,e];rfl)
   rw[pathB_other c1]at q'
   exact q' _ g1
end
structure PtOk (t g v:Str):Prop where
 len:t.length≤100
 gr:greatB t=false
 pt:pathB t=true
 dot:(Builtin.Str.occurrences t "." 0 t.length 1).isEmpty=false
 spl:Txt.split t "."=[g,v]
def PthL (H:Hp)(pv d:Addr)(t:Str)(u:V):Prop:=∃(g v:Str) (kvs kp kv:List (Key×V)) (dv:Addr),PtOk t g v∧H d=some (.dK kvs)∧valV kvs (Sum.inr g)=none∧H pv=some (.dK kp)∧valV kp (Sum.inr g)=some (.ref dv)∧H dv=some (.dK kv)∧valV kv (Sum.inr v)=some u
theorem PthL.dks {H H':Hp}{pv d:Addr}{t:Str}{u:V}(h:PthL H pv d t u)(s:∀b kvs,H b=some (.dK kvs)→H' b=some (.dK kvs)):PthL H' pv d t u:=by
 obtain⟨g,v,kvs,kp,kv,dv,ok,h1,h2,h3,h4,h5,h6⟩:=h
 exact⟨g,v,kvs,kp,kv,dv,ok,s _ _ h1,h2,s _ _ h3,h4,s _ _ h5,h6⟩
theorem PthL.same {H H':Hp}{pv d:Addr}{t:Str}{u:V}(h:PthL H pv d t u)(s:Same H H'):PthL H' pv d t u:=h.dks fun b kvs h=>s b _ h
inductive spVP (CW:Addr)(vs:List V)(H:Hp)(Q:VK)(E:XK):Prop where
 |mk (m dx cl pl st rp pv d:Addr) (t:Str) (u:V):vs=[.ref m, .str t, .ref d]→H m=some (.ins CW dx (wfl cl pl st rp pv))→PthL H pv d t u→(∀H',Same H H'→Q u H')→spVP CW vs H Q E
section
variable {P:Program}{w:World}{K:PySem.W.Frag}{mg:Str→Option Value}{base:Heap}{f CW:Addr}{fd:FuncData}
abbrev s_vp:Stmt:=top 57
abbrev nVP:List Str:=["worker","path","names","sides","vals"]
theorem sc_vp:FnScope nVP ["worker","path","names"] (defScope s_vp):=⟨rfl,rfl,rfl,by decide+kernel,rfl,by decide+kernel,by decide+kernel⟩
set_option maxHeartbeats 2000000 in
theorem ok_vp (F:Fun K "value_of_path" "value_of_path" s_vp f fd)(Tx:TxW K CW):FnOk P w K mg base CX0 1 f fd ["worker","path","names"] (spVP CW):=by
 refine F.ok sc_vp (fun cdv A outer s H vs Q E hr h=>?_)
 have hu:=hu_of hr
 obtain⟨m,dx,cl,pl,st,rp,pv,d,t,u,rfl,ob,hp,q⟩:=h
 refine⟨_,pss_cons (pset 3 sc_vp.nd (pe_bm PySem.F.plainAttrs_str PySem.F.slot_str_split PySem.F.type_str_split mt_split (L2.pv 1) (pa_cons pe_str pa_nil)))
  (pss_cons (pset 4 sc_vp.nd (pe_dget hu (fldK K (L2.pv 0) rfl) (pe_dget2 hu (L2.pv 2) (pe_ix (ixL K) (L2.pv 3) pe_int) (pe_ix (ixL K) (L2.pv 3) pe_int) ⟨rfl,rfl,rfl,rfl⟩)))
  (pss_cons (ps_if (pt_cmp (pc_dnotin hu (pe_ix (ixL K) (L2.pv 3) pe_int) (L2.pv 4)) rfl) pss_never pss_nil)
  (pss_one (ps_ret (pe_dget hu (L2.pv 4) (pe_ix (ixL K) (L2.pv 3) pe_int)))))),?_⟩
 obtain⟨g,v,kvs,kp,kv,dv,ok,h1,h2,h3,h4,h5,h6⟩:=hp
 have sz:(Txt.split t ".").length≤sizeLine:=by rw[ok.spl];exact small (by show 2≤1000000;decide)
 refine⟨_,rfl,rfl,t,".",rfl,rfl,small (Nat.le_trans ok.len (by decide)),by decide+kernel,sz,fun l hl=>?_⟩
 rw[ok.spl]
 have s1:=same_new hl (.lst ([g,v].map V.str))
 have b1:(upd H l (.lst ([g,v].map V.str))) l=some (.lst ([g,v].map V.str)):=upd_same
 revert s1 b1
 generalize upd H l (.lst ([g,v].map V.str))=H1
 intro s1 b1
 refine⟨_,rfl,m,CW,dx,_, .ref pv,rfl,s1 _ _ ob,Tx.cw,Tx.w5,wf5 _ _ _ _ _,_,rfl,d,rfl, .inl ⟨kvs, .inl (s1 _ _ h1)⟩,?_⟩
 have b1':SqL K H1 l [.str g, .str v]:=SqL.of b1
 refine⟨_,rfl,l,_,0, .str g,rfl,rfl,b1',atI_nat (j:=0) rfl,_,rfl,l,_,0, .str g,rfl,rfl,b1',atI_nat (j:=0) rfl,none, .inl ⟨kvs,Sum.inr g, .inl (s1 _ _ h1),rfl,h2.symm⟩,?_⟩
 refine⟨pv, .ref dv,rfl, .inl ⟨kp,Sum.inr g, .inl (s1 _ _ h3),rfl,h4.symm⟩,?_⟩
 refine⟨_,rfl,l,_,1, .str v,rfl,rfl,b1',atI_nat (j:=1) rfl,_,rfl,dv,some u,rfl, .inl ⟨kv,Sum.inr v, .inl (s1 _ _ h5),rfl,h6.symm⟩,_,rfl,iteF ?_⟩
 exact⟨_,rfl,_,rfl,l,_,1, .str v,rfl,rfl,b1',atI_nat (j:=1) rfl,dv,u,rfl, .inl ⟨kv,Sum.inr v, .inl (s1 _ _ h5),rfl,h6.symm⟩,q _ s1⟩
end
theorem pe_no {X:Cx}{e:Expr}:PE X e (fun _ _ _=>False):=fun _ _ _ _ _ _ h=>h.elim
inductive spWW (CW:Addr)(vs:List V)(H:Hp)(Q:VK)(E:XK):Prop where
 |num (a:WA) (pile steps:List V) (d:Addr) (i:Int):vs=[.ref a.m, .int i, .ref d]→WM CW H a pile steps→pile.length≤100000→(∀H',WM CW H' a (pile++[.int i]) steps→Kq a H H'→Q .non H')→spWW CW vs H Q E
 |nm (a:WA) (pile steps:List V) (d:Addr) (kvs:List (Key×V)) (x:Str) (u:V):vs=[.ref a.m, .str x, .ref d]→WM CW H a pile steps→pile.length≤100000→x.length≤100→pathB x=false→H d=some (.dK kvs)→valV kvs (Sum.inr x)=some u→(∀H',WM CW H' a (pile++[u]) steps→Kq a H H'→Q .non H')→spWW CW vs H Q E
 |pt (a:WA) (pile steps:List V) (d:Addr) (t:Str) (u:V):vs=[.ref a.m, .str t, .ref d]→WM CW H a pile steps→pile.length≤100000→PthL H a.pv d t u→(∀H',WM CW H' a (pile++[u]) steps→Kq a H H'→Q .non H')→spWW CW vs H Q E
section
variable {P:Program}{w:World}{K:PySem.W.Frag}{mg:Str→Option Value}{base:Heap}{f CW:Addr}{fd:FuncData}
abbrev s_ww:Stmt:=top 58
theorem sc_ww:FnScope ["worker","word","names"] ["worker","word","names"] (defScope s_ww):=⟨rfl,rfl,rfl,by decide+kernel,rfl,by decide+kernel,by decide+kernel⟩
theorem kit_is5 (K:PySem.W.Frag):PySem.W.kitOne K (.type "int") (.type "str")=some false∧PySem.W.kitOne K (.type "str") (.type "str")=some true:=⟨by first|rfl|kernel_rfl,by first|rfl|kernel_rfl⟩
set_option maxHeartbeats 2000000 in
theorem ok_ww (F:Fun K "work_on_word" "work_on_word" s_ww f fd)(Tx:TxW K CW)(mi:mg "isinstance"=none)(ms:mg "str"=none)(h1:Has P w K mg base 4 "is_path" ["thing"] (spT (onStr pathB)))(h2:Has P w K mg base 1 "value_of_path" ["worker","path","names"] (spVP CW)):FnOk P w K mg base CX0 5 f fd ["worker","word","names"] (spWW CW):=by
 refine F.ok sc_ww (len:=(by rintro _ _ _ _ ⟨⟩<;>subst_vars<;>rfl)) (fun cdv A outer s H vs Q E hr h=>?_)
 have hu:=hu_of hr
 refine⟨_,pss_one (ps_if (pt_not (pt_val (pe_callB call_isi rfl mi boot_isinstance (pa_cons (pv 1) (pa_cons (pe_bltn (v:=.ty "str") rfl ms boot_str rfl) pa_nil))))) (pss_one (ps_expr (papp K (fldK K (pv 0) rfl) (pa_cons (pv 1) pa_nil))))
  (pss_one (ps_if (pt_val (pcall h1 hr (by decide) rfl (pa_cons (pv 1) pa_nil))) (pss_one (ps_expr (papp K (fldK K (pv 0) rfl) (pa_cons (pcall h2 hr (by decide) rfl (pa_cons (pv 0) (pa_cons (pv 1) (pa_cons (pv 2) pa_nil)))) pa_nil)))) (pss_one (ps_expr (papp K (fldK K (pv 0) rfl) (pa_cons (pe_dget hu (pv 2) (pv 1)) pa_nil))))))),?_⟩
 cases h with
 |num a pile steps d i e M lp q=>
  subst e
  refine⟨_,rfl,_,_,_,_,rfl, .int i,(kit_is5 K).1,false,rfl,iteT ?_⟩
  exact⟨_,rfl,a.m,CW,a.dx,_, .ref a.pl,rfl,M.ob,Tx.cw,Tx.w2,wf2 _ _ _ _ _, .inl ⟨rfl,_,SqL.of M.hp⟩,_,rfl,a.pl,pile,_,rfl,rfl,M.hp,small' (Nat.le_trans lp (by decide)),q _ (M.setP _) kq_setP⟩
 |nm a pile steps d kvs x u e M lp lx np hd hv q=>
  subst e
  refine⟨_,rfl,_,_,_,_,rfl, .str x,(kit_is5 K).2,true,rfl,iteF ?_⟩
  refine⟨_,rfl,_, .str x,rfl, .str x (Nat.le_trans lx (by decide)),fun H1 s1=>⟨_,rfl,?_⟩⟩
  rw[show onStr pathB (.str x)=false from np]
  have M1:=M.same s1
  refine iteF ⟨_,rfl,a.m,CW,a.dx,_, .ref a.pl,rfl,M1.ob,Tx.cw,Tx.w2,wf2 _ _ _ _ _, .inl ⟨rfl,_,SqL.of M1.hp⟩,_,rfl,_,rfl,d,u,rfl, .inl ⟨kvs,Sum.inr x, .inl (s1 _ _ hd),rfl,hv.symm⟩,?_⟩
  exact⟨a.pl,pile,_,rfl,rfl,M1.hp,small' (Nat.le_trans lp (by decide)),q _ (M1.setP _) ((kq_same s1).trans kq_setP)⟩
 |pt a pile steps d t u e M lp hp q=>
  subst e
  obtain⟨g,v,kvs,kp,kv,dv,ok,h1',h2',h3',h4',h5',h6'⟩:=id hp
  refine⟨_,rfl,_,_,_,_,rfl, .str t,(kit_is5 K).2,true,rfl,iteF ?_⟩
  refine⟨_,rfl,_, .str t,rfl, .str t (Nat.le_trans ok.len (by decide)),fun H1 s1=>⟨_,rfl,?_⟩⟩
  rw[show onStr pathB (.str t)=true from ok.pt]
  have M1:=M.same s1
  refine iteT ⟨_,rfl,a.m,CW,a.dx,_, .ref a.pl,rfl,M1.ob,Tx.cw,Tx.w2,wf2 _ _ _ _ _, .inl ⟨rfl,_,SqL.of M1.hp⟩,_,rfl,_,rfl,_,rfl, .mk a.m a.dx a.cl a.pl a.st a.rp a.pv d t u rfl M1.ob (hp.same s1) fun H2 s2=>?_⟩
  have M2:=M1.same s2
  exact⟨a.pl,pile,_,rfl,rfl,M2.hp,small' (Nat.le_trans lp (by decide)),q _ (M2.setP _) ((kq_same (s1.trans s2)).trans kq_setP)⟩
end
end Fw
namespace L2
open PySem PySem.Spec PyProof.Rows
section
variable {X:Cx}
theorem catT (K:PySem.W.Frag)(h:X.K=K:=by rfl):OpR X (binaryOp .Add) (rCatT K):=h ▸ op_catT
theorem slT (K:PySem.W.Frag)(h:X.K=K:=by rfl):SlR X (rSlT K):=h ▸ sl_tup
end
end L2
namespace Fw
open PySem PySem.Spec PyProof.Rows L2
inductive spWO (CW fW:Addr)(K:PySem.W.Frag)(fs:List (Str×V))(vs:List V)(H:Hp)(Q:VK)(E:XK):Prop where
 |leaf (m:Addr) (v:V) (d:Addr):vs=[.ref m,v, .ref d]→((∃i,v=.int i)∨∃x,v=.str x∧x.length≤100∧greatB x=false)→(∀H',Same H H'→∀(Q':VK) (E':XK),(∀H2,Q .non H2→Q' .non H2)→spWW CW vs H' Q' E')→spWO CW fW K fs vs H Q E
 |node (a:WA) (pile steps xs:List V) (r d tf fe:Addr) (wd:Str) (lo hi:Nat):vs=[.ref a.m, .ref r, .ref d]→WM CW H a pile steps→H r=some (.tup (.str wd::xs))→fs.lookup wd=some (.ref tf)→(∀H,SqT K H tf [.int (lo:Int), .int (hi:Int), .ref fe])→0<lo→lo≤hi→hi≤xs.length+1→xs.length≤5→steps.length≤100000→
   (∀(qs:List Addr) (qe:Addr) H',WM CW H' a pile (steps++(qs.map V.ref++[V.ref qe]).reverse)→Kq a H H'→qs.length=hi-lo→(∀(j:Nat) p,j<hi-lo→xs[lo-1+j]?=some p→∃q,qs[j]?=some q∧H' q=some (.tup [.ref fW,p, .ref d]))→H' qe=some (.tup [.ref fe, .ref r, .ref d])→Q .non H')→spWO CW fW K fs vs H Q E
section
variable {P:Program}{w:World}{K:PySem.W.Frag}{mg:Str→Option Value}{base:Heap}{f CW fW fT dr:Addr}{fd gT:FuncData}{fs:List (Str×V)}{tg:V}{tgu:Value}
theorem kit_nt5 (K:PySem.W.Frag):PySem.W.kitOne K (.type "int") (.type "tuple")=some false∧PySem.W.kitOne K (.type "str") (.type "tuple")=some false:=⟨by first|rfl|kernel_rfl,by first|rfl|kernel_rfl⟩
abbrev s_wo:Stmt:=top 59
theorem sc_wo:FnScope ["worker","phrase","names","thing","form"] ["worker","phrase","names"] (defScope s_wo):=⟨rfl,rfl,rfl,by decide+kernel,rfl,by decide+kernel,by decide+kernel⟩
set_option maxHeartbeats 4000000 in
theorem ok_wo (F:Fun K "work_on" "work_on" s_wo f fd)(Tx:TxW K CW)(mi:mg "isinstance"=none)(mt:mg "tuple"=none)(MT:Meth K CW "then" fT)(GT:FnOk P w K mg base CX0 1 fT gT ["self","steps"] (spThen CW))(bT:Binds K gT ["self","steps"] [])
  (hF:mg "FORMS"=some (.ref dr)) (D:StrDict K w dr fs) (hG:mg "TAG_FORM"=some tgu) (rG:RelV tg tgu) (h1:Has P w K mg base 2 "is_great" ["thing"] (spT (onStr greatB))) (h2:Has P w K mg base 5 "work_on_word" ["worker","word","names"] (spWW CW)) (h3:Has P w K mg base 1 "headed" ["thing"] spHeaded) (h4:Has P w K mg base 1 "steps_of" pSt (spSt fW)):
  FnOk P w K mg base (CXF P w) 6 f fd ["worker","phrase","names"] (spWO CW fW K fs):=by
 refine F.okX sc_wo (len:=(by rintro _ _ _ _ ⟨⟩<;>subst_vars<;>rfl)) (fun cdv A outer s H vs Q E hr h=>?_)
 refine⟨_,pss_cons (ps_if (PW.pt (pw_and (pt_not (pt_val (pe_callB call_isi rfl mi boot_isinstance (pa_cons (pv 1) (pa_cons (pe_bltn (v:=.ty "tuple") rfl mt boot_tuple rfl) pa_nil))))) (pw_and1 (pt_not (pt_val (pcall h1 hr (by decide) rfl (pa_cons (pv 1) pa_nil)))))))
   (pss_cons (ps_expr (pcall h2 hr (by decide) rfl (pa_cons (pv 0) (pa_cons (pv 1) (pa_cons (pv 2) pa_nil))))) (pss_one ps_retN)) pss_nil)
  (pss_cons (pset 3 sc_wo.nd (pcall h3 hr (by decide) rfl (pa_cons (pv 1) pa_nil)))
  (pss_cons (pset 4 sc_wo.nd (pe_gget2 (pe_glob (v:=.ref dr) rfl hF rfl) (pe_ix (ixT K) (pv 3) pe_int) (pe_glob (v:=tg) rfl hG rG) ⟨rfl,rfl,rfl,rfl⟩))
  (pss_one (ps_expr (pe_meth (pv 0) Tx.cw MT GT (hr.mono (by decide)) bT .nil pass0 (pa_cons (pe_op op_cat (pcall h4 hr (by decide) rfl (pa_cons (pe_slice (slT K) (pv 3) (po_some (pe_ix (ixT K) (pv 4) pe_int)) (po_some (pe_ix (ixT K) (pv 4) pe_int))) (pa_cons (pv 2) pa_nil))) (pe_lst (pa_cons (pe_tup (pa_cons (pe_ix (ixT K) (pv 4) pe_int) (pa_cons (pv 3) (pa_cons (pv 2) pa_nil)))) pa_nil))) pa_nil)))))),?_⟩
 cases h with
 |leaf m v d e lf q=>
  subst e
  rcases lf with ⟨i,rfl⟩|⟨x,rfl,lx,gx⟩
  ·refine⟨_,rfl,_,_,_,_,rfl, .int i,(kit_nt5 K).1,false,rfl,iteT ⟨_,rfl,_, .int i,rfl, .int i,fun H1 s1=>⟨_,rfl,iteT ?_⟩⟩⟩
   exact⟨_,rfl,_,rfl,_,rfl,q H1 s1 _ _ fun H2 h=>h⟩
  ·refine⟨_,rfl,_,_,_,_,rfl, .str x,(kit_nt5 K).2,false,rfl,iteT ⟨_,rfl,_, .str x,rfl, .str x (Nat.le_trans lx (by decide)),fun H1 s1=>⟨_,rfl,?_⟩⟩⟩
   rw[show onStr greatB (.str x)=false from gx]
   exact iteT ⟨_,rfl,_,rfl,_,rfl,q H1 s1 _ _ fun H2 h=>h⟩
 |node a pile steps xs r d tf fe wd lo hi e M hr' hl ht l0 l1 l2 l5 ls q=>
  subst e
  refine⟨_,rfl,_,_,_,_,rfl, .tup hr',kit_tup5 K,true,rfl,iteF (iteF ?_)⟩
  refine⟨_,rfl,r,_,rfl,hr',?_⟩
  refine⟨dr,fs,rfl,D,ix_t (a:=r) (j:=0) rfl hr' rfl ⟨wd,rfl,?_⟩⟩
  rw[hl]
  refine⟨_,rfl,a.m,a.dx,_,rfl,M.ob,wfT _ _ _ _ _,?_⟩
  refine⟨_,rfl,_,rfl,tf,_,_,_,rfl,rfl,ht H,atI_nat (j:=0) rfl,(lo:Int),rfl,_,rfl,tf,_,_,_,rfl,rfl,ht H,atI_nat (j:=1) rfl,(hi:Int),rfl,r,_,rfl,SqT.of hr',?_,fun p1 hp1=>?_⟩
  ·rintro⟨z,_⟩
   rw[HT.sIx_nat,List.length_cons]at z
   omega
  have lc:cutV (.str wd::xs) (some (lo:Int)) (some (hi:Int))=(xs.drop (lo-1)).take (hi-lo):=by
   unfold cutV
   rw[HT.sIx_nat,HT.sIx_nat,List.length_cons,show min lo (xs.length+1)=lo by omega,show min hi (xs.length+1)=hi by omega]
   obtain⟨k,rfl⟩:∃k,lo=k+1:=⟨lo-1,by omega⟩
   rfl
  rw[lc]
  have gps:∀(j:Nat) p,j<hi-lo→xs[lo-1+j]?=some p→((xs.drop (lo-1)).take (hi-lo))[j]?=some p:=fun j p hj hp=>by
   rw[List.getElem?_take,if_pos hj,List.getElem?_drop]
   exact hp
  have lps:((xs.drop (lo-1)).take (hi-lo)).length=hi-lo:=by rw[List.length_take,List.length_drop];omega
  revert gps lps
  generalize (xs.drop (lo-1)).take (hi-lo)=ps
  intro gps lps
  have s1:=same_new hp1 (.tup ps)
  refine⟨_,rfl,p1,d,ps,rfl,upd_same,by omega,fun l4 qs H4 s4 hl40 hl4 lq aq=>?_⟩
  have s04:=s1.trans s4
  refine⟨_,rfl,tf,_,_,_,rfl,rfl,ht H4,atI_nat (j:=2) rfl,_,rfl,_,rfl,(sml 3),fun qe hqe=>⟨(sml 1),fun l6 hl6=>?_⟩⟩
  have s5:=same_new hqe (.tup [.ref fe, .ref r, .ref d])
  have s6:=same_new hl6 (.lst [.ref qe])
  refine⟨l4,l6,_,_,rfl,rfl,s6 _ _ (s5 _ _ hl4),upd_same,by rw[List.length_map,lq];exact small (by show ps.length+1≤1000000;omega),fun l7 hl7=>?_⟩
  have s7:=same_new hl7 (.lst (qs.map V.ref++[.ref qe]))
  have s47:=s5.trans (s6.trans s7)
  have M7:=M.same (s04.trans s47)
  refine⟨a,pile,steps,_,l7,rfl,M7,upd_same,by rw[List.length_append,List.length_map,lq];show ps.length+1≤100;omega,ls,fun H8 M8 k8=>?_⟩
  refine q qs qe H8 M8 ((kq_same (s04.trans s47)).trans k8) (lq.trans lps) (fun j p hj hp=>?_) ?_
  ·obtain⟨q',h1',_,h3'⟩:=aq j p (gps j p hj hp)
   exact⟨q',h1',M7.tup (s47 _ _ h3') k8⟩
  ·exact M7.tup (s7 _ _ (s6 _ _ upd_same)) k8
end
end Fw
namespace L2
open PySem PySem.Spec PyProof.Rows
variable {X:Cx} in
theorem call_isiO:CallR X (.builtin "isinstance") (fun xs H Q=>∃x t D b,xs=[x, .ref D]∧TyOf X.K H x t∧PySem.W.kitOne X.K t (.ref D)=some b∧Q (.bl b) H):=by
 intro pins s σ H xs us Q I r h
 obtain⟨x,t,D,b,rfl,ty,k,q⟩:=h
 obtain⟨u,u',rfl,rx,ry⟩:=vals2 r
 cases(show u'=Value.ref D from ry)
 exact isinst_ok I rx ty k fun tk=>⟨.bl b,H,I.tok tk,rfl,q⟩
end L2
namespace Fw
open PySem PySem.Spec PyProof.Rows L2
section
variable (m b u v:V)
theorem cf1:(cfl5 m b u).lookup ("most":Str)=some m:=by first|rfl|(with_unfolding_all rfl)|kernel_rfl
theorem cf2:(cfl5 m b u).lookup ("begun":Str)=some b:=by first|rfl|(with_unfolding_all rfl)|kernel_rfl
theorem cf3:(cfl5 m b u).lookup ("under_way":Str)=some u:=by first|rfl|(with_unfolding_all rfl)|kernel_rfl
theorem cp2:putF "begun" v (cfl5 m b u)=cfl5 m v u:=by first|rfl|(with_unfolding_all rfl)|kernel_rfl
theorem cp3:putF "under_way" v (cfl5 m b u)=cfl5 m b v:=by first|rfl|(with_unfolding_all rfl)|kernel_rfl
end
def ffl (x p n:V):List (Str×V):=[("word",x),("phrase",p),("names",n)]
section
variable (x p n:V)
theorem ff1:(ffl x p n).lookup ("word":Str)=some x:=by first|rfl|(with_unfolding_all rfl)|kernel_rfl
theorem ff2:(ffl x p n).lookup ("phrase":Str)=some p:=by first|rfl|(with_unfolding_all rfl)|kernel_rfl
theorem ff3:(ffl x p n).lookup ("names":Str)=some n:=by first|rfl|(with_unfolding_all rfl)|kernel_rfl
theorem fp1:putF "word" x []=([("word",x)]:List (Str×V)):=by first|rfl|(with_unfolding_all rfl)|kernel_rfl
theorem fp2:putF "phrase" p [("word",x)]=([("word",x),("phrase",p)]:List (Str×V)):=by first|rfl|(with_unfolding_all rfl)|kernel_rfl
theorem fp3:putF "names" n [("word",x),("phrase",p)]=ffl x p n:=by first|rfl|(with_unfolding_all rfl)|kernel_rfl
end
structure TxF (K:PySem.W.Frag)(CF:Addr):Prop where
 cf:Cls K CF
 f1:NoAttr K CF "word"
 f2:NoAttr K CF "phrase"
 f3:NoAttr K CF "names"
inductive spBegin (CC CTl CTd:Addr)(vs:List V)(H:Hp)(Q:VK)(E:XK):Prop where
 |mk (p dx:Addr) (m b u:Int):vs=[.ref p]→H p=some (.ins CC dx (cfl5 (.int m) (.int b) (.int u)))→(b+1>m→∀ea,E (.ref CTl) (some ea) H)→(b+1≤m→u+1>10→∀ea,E (.ref CTd) (some ea) H)→(b+1≤m→u+1≤10→Q .non (upd H p (.ins CC dx (cfl5 (.int m) (.int (b+1)) (.int (u+1))))))→spBegin CC CTl CTd vs H Q E
inductive spCmb (CC:Addr)(vs:List V)(H:Hp)(Q:VK)(E:XK):Prop where
 |mk (p dx:Addr) (m b u:Int):vs=[.ref p]→H p=some (.ins CC dx (cfl5 (.int m) (.int b) (.int u)))→Q .non (upd H p (.ins CC dx (cfl5 (.int m) (.int b) (.int (u-1)))))→spCmb CC vs H Q E
inductive spFun (CF:Addr)(vs:List V)(H:Hp)(Q:VK)(E_:XK):Prop where
 |mk (p dx:Addr) (x f n:V):vs=[.ref p,x,f,n]→H p=some (.ins CF dx [])→Q .non (upd H p (.ins CF dx (ffl x f n)))→spFun CF vs H Q E_
inductive spEndU (CW CF:Addr)(vs:List V)(H:Hp)(Q:VK)(E:XK):Prop where
 |mk (a:WA) (pile steps:List V) (r d:Addr) (x:Str) (vb:V):vs=[.ref a.m, .ref r, .ref d]→WM CW H a pile steps→H r=some (.tup [.str "fun", .str x,vb])→pile.length≤100000→
   (∀(o dx:Addr) H',WM CW H' a (pile++[.ref o]) steps→Kq a H H'→H o=none→H' o=some (.ins CF dx (ffl (.str x) vb (.ref d)))→Q .non H')→spEndU CW CF vs H Q E
def Kc (a:WA)(H H':Hp):Prop:=∀b o,b≠a.pl→b≠a.st→b≠a.cl→H b=some o→H' b=some o
theorem Kc.refl {a:WA}{H:Hp}:Kc a H H:=fun _ _ _ _ _ h=>h
theorem Kc.trans {a:WA}{H H1 H2:Hp}(h:Kc a H H1)(k:Kc a H1 H2):Kc a H H2:=fun b o n1 n2 n3 e=>k b o n1 n2 n3 (h b o n1 n2 n3 e)
theorem Kq.c {a:WA}{H H':Hp}(h:Kq a H H'):Kc a H H':=fun b o n1 n2 _ e=>h b o n1 n2 e
def CM (CC:Addr)(H:Hp)(a:WA)(most:Int)(c u:Nat):Prop:=∃dx,H a.cl=some (.ins CC dx (cfl5 (.int most) (.int (c:Int)) (.int (u:Int))))
theorem WM.ncl {CW CC:Addr}{H:Hp}{a:WA}{pile steps:List V}{most:Int}{c u:Nat}(M:WM CW H a pile steps)(k:CM CC H a most c u):a.cl≠a.pl∧a.cl≠a.st:=by
 obtain⟨dx,h⟩:=k
 exact⟨ne_of h M.hp (by intro z;cases z),ne_of h M.hs (by intro z;cases z)⟩
theorem CM.kq {CW CC:Addr}{H H':Hp}{a:WA}{pile steps:List V}{most:Int}{c u:Nat}(k:CM CC H a most c u)(M:WM CW H a pile steps)(x:Kq a H H'):CM CC H' a most c u:=by
 obtain⟨n1,n2⟩:=M.ncl k
 obtain⟨dx,h⟩:=k
 exact⟨dx,x _ _ n1 n2 h⟩
section
variable {P:Program}{w:World}{K:PySem.W.Frag}{mg:Str→Option Value}{base:Heap}{f CC CW CF CTl CTd:Addr}{fd:FuncData}
abbrev s_begin:Stmt:=inClass (top 38) 1
abbrev s_cmb:Stmt:=inClass (top 38) 2
abbrev s_fun0:Stmt:=inClass (top 40) 0
theorem sc_begin:FnScope ["self"] ["self"] (defScope s_begin):=⟨rfl,rfl,rfl,by decide+kernel,rfl,by decide+kernel,by decide+kernel⟩
theorem sc_cmb:FnScope ["self"] ["self"] (defScope s_cmb):=⟨rfl,rfl,rfl,by decide+kernel,rfl,by decide+kernel,by decide+kernel⟩
theorem sc_fun0:FnScope ["self","word","phrase","names"] ["self","word","phrase","names"] (defScope s_fun0):=⟨rfl,rfl,rfl,by decide+kernel,rfl,by decide+kernel,by decide+kernel⟩
theorem ok_begin {bm bm':List Value}{newId B initId newId' B' initId':String}{tk:Tok}(F:Fun K "begin" "Calls.begin" s_begin f fd)(Tc:TxC K CC)(O:OwnCls "TooLong" CTl bm newId mg base)(FB:ExcBaseFacts B newId initId bm)(O':OwnCls "TooDeep" CTd bm' newId' mg base)(FB':ExcBaseFacts B' newId' initId' bm')
  (hM:mg "MOST_UNDER_WAY"=some (.int 10 tk)):FnOk P w K mg base (CXF P w) 1 f fd ["self"] (spBegin CC CTl CTd):=by
 refine F.okX sc_begin (fun cdv A outer s H vs Q E hr h=>?_)
 obtain⟨p,dx,m,b,u,rfl,hp,q1,q2,q3⟩:=h
 refine⟨_,pss_cons (ps_if (pt_cmpR op_gt (pe_op op_add (fldK K (pv 0) rfl) pe_int) (fldK K (pv 0) rfl)) (pss_one (ps_raise O FB rfl (pa_cons pe_str pa_nil))) pss_nil)
  (pss_cons (ps_if (pt_cmpR op_gt (pe_op op_add (fldK K (pv 0) rfl) pe_int) (pe_glob (v:=.int 10) rfl hM ⟨_,rfl⟩)) (pss_one (ps_raise O' FB' rfl (pa_cons pe_str pa_nil))) pss_nil)
  (pss_cons (sfldK K (pv 0) (pe_op op_add (fldK K (pv 0) rfl) pe_int) rfl) (pss_one (sfldK K (pv 0) (pe_op op_add (fldK K (pv 0) rfl) pe_int) rfl)))),?_⟩
 refine⟨_,rfl,p,CC,dx,_,_,rfl,hp,Tc.cc,Tc.c2,cf2 _ _ _,b,1,rfl,rfl,_,rfl,p,CC,dx,_,_,rfl,hp,Tc.cc,Tc.c1,cf1 _ _ _,b+1,m,rfl,rfl,_,rfl,ite2 (fun c=>?_) (fun c=>?_)⟩
 ·exact⟨(sml 1),fun ea _=>q1 (of_decide_eq_true c) ea⟩
 have c1:b+1≤m:=Int.not_lt.mp fun z=>c (decide_eq_true z)
 refine⟨_,rfl,p,CC,dx,_,_,rfl,hp,Tc.cc,Tc.c3,cf3 _ _ _,u,1,rfl,rfl,u+1,10,rfl,rfl,_,rfl,ite2 (fun c'=>?_) (fun c'=>?_)⟩
 ·exact⟨(sml 1),fun ea _=>q2 c1 (of_decide_eq_true c') ea⟩
 have c2:u+1≤10:=Int.not_lt.mp fun z=>c' (decide_eq_true z)
 refine⟨_,rfl,p,CC,dx,_,_,rfl,hp,Tc.cc,Tc.c2,cf2 _ _ _,b,1,rfl,rfl,_,rfl,p,CC,dx,_,rfl,hp,Tc.cc,Tc.c2,(by show 3<1000;decide),?_⟩
 rw[cp2]
 refine⟨_,rfl,p,CC,dx,_,_,rfl,upd_same,Tc.cc,Tc.c3,cf3 _ _ _,u,1,rfl,rfl,_,rfl,p,CC,dx,_,rfl,upd_same,Tc.cc,Tc.c3,(by show 3<1000;decide),?_⟩
 rw[cp3,upd_upd]
 exact q3 c1 c2
theorem ok_cmb (F:Fun K "come_back" "Calls.come_back" s_cmb f fd)(Tc:TxC K CC):FnOk P w K mg base (CXF P w) 1 f fd ["self"] (spCmb CC):=by
 refine F.okX sc_cmb (fun cdv A outer s H vs Q E hr h=>?_)
 obtain⟨p,dx,m,b,u,rfl,hp,q⟩:=h
 refine⟨_,pss_one (sfldK K (pv 0) (pe_op op_sub (fldK K (pv 0) rfl) pe_int) rfl),?_⟩
 refine⟨_,rfl,p,CC,dx,_,_,rfl,hp,Tc.cc,Tc.c3,cf3 _ _ _,u,1,rfl,rfl,_,rfl,p,CC,dx,_,rfl,hp,Tc.cc,Tc.c3,(by show 3<1000;decide),?_⟩
 rw[cp3]
 exact q
theorem ok_fun0 (F:Fun K "__init__" "Function.__init__" s_fun0 f fd)(Tf:TxF K CF):FnOk P w K mg base CX0 1 f fd ["self","word","phrase","names"] (spFun CF):=by
 refine F.ok sc_fun0 (fun cdv A outer s H vs Q E hr h=>?_)
 obtain⟨p,dx,x,fv,n,rfl,hp,q⟩:=h
 refine⟨_,pss_cons (sfldK K (pv 0) (pv 1) rfl) (pss_cons (sfldK K (pv 0) (pv 2) rfl) (pss_one (sfldK K (pv 0) (pv 3) rfl))),?_⟩
 refine⟨_,rfl,_,rfl,p,CF,dx,[],rfl,hp,Tf.cf,Tf.f1,(by show 0<1000;decide),?_⟩
 rw[fp1]
 refine⟨_,rfl,_,rfl,p,CF,dx,_,rfl,upd_same,Tf.cf,Tf.f2,(by show 1<1000;decide),?_⟩
 rw[fp2]
 refine⟨_,rfl,_,rfl,p,CF,dx,_,rfl,upd_same,Tf.cf,Tf.f3,(by show 2<1000;decide),?_⟩
 rw[fp3,upd_upd,upd_upd]
 exact q
abbrev s_endu:Stmt:=top 43
theorem sc_endu:FnScope pWp pWp (defScope s_endu):=⟨rfl,rfl,rfl,by decide+kernel,rfl,by decide+kernel,by decide+kernel⟩
set_option maxHeartbeats 1000000 in
theorem ok_endu {fI:Addr}{gI:FuncData}(F:Fun K "end_fun" "end_fun" s_endu f fd)(Tx:TxW K CW)(MF:Mk K CF fI)(GF:FnOk P w K mg base CX0 1 fI gI ["self","word","phrase","names"] (spFun CF))(bF:Binds K gI ["self","word","phrase","names"] [])(hF:mg "Function"=some (.ref CF)):FnOk P w K mg base (CXF P w) 3 f fd pWp (spEndU CW CF):=by
 refine F.okX sc_endu (fun cdv A outer s H vs Q E hr h=>?_)
 obtain⟨a,pile,steps,r,d,x,vb,rfl,M,hr',lp,q⟩:=h
 refine⟨_,pss_one (ps_expr (papp K (fldK K (pv 0) rfl) (pa_cons (pe_make MF GF hr rfl hF bF .nil pass0 (pa_cons (pe_ix (ixT K) (pv 1) pe_int) (pa_cons (pe_ix (ixT K) (pv 1) pe_int) (pa_cons (pv 2) pa_nil)))) pa_nil))),?_⟩
 refine⟨_,rfl,a.m,CW,a.dx,_, .ref a.pl,rfl,M.ob,Tx.cw,Tx.w2,wf2 _ _ _ _ _, .inl ⟨rfl,_,SqL.of M.hp⟩,ix_t (a:=r) (j:=1) rfl hr' rfl (ix_t (a:=r) (j:=2) rfl hr' rfl ⟨_,rfl,fun o dx ho hdx no=>⟨o,dx,_,_,_,rfl,upd_same,⟨rfl,?_⟩⟩⟩)⟩
 have s1:Same H (upd (upd (upd H dx (.own o)) o (.ins CF dx [])) o (.ins CF dx (ffl (.str x) vb (.ref d)))):=fun b u h=>by rw[upd_ne (ne_of_none h ho),upd_ne (ne_of_none h ho),upd_ne (ne_of_none h hdx)];exact h
 have b1:(upd (upd (upd H dx (.own o)) o (.ins CF dx [])) o (.ins CF dx (ffl (.str x) vb (.ref d)))) o=some (.ins CF dx (ffl (.str x) vb (.ref d))):=upd_same
 revert s1 b1
 generalize upd (upd (upd H dx (.own o)) o (.ins CF dx [])) o (.ins CF dx (ffl (.str x) vb (.ref d)))=H1
 intro s1 b1
 have M1:=M.same s1
 exact⟨a.pl,pile,_,rfl,rfl,M1.hp,small' (Nat.le_trans lp (by decide)),q o dx _ (M1.setP _) ((kq_same s1).trans kq_setP) ho (by rw[upd_ne (ne_of b1 M1.hp (by intro z;cases z))];exact b1)⟩
end
section
variable (m b u:V)
theorem cfB:(cfl5 m b u).lookup ("begin":Str)=none:=by first|rfl|(with_unfolding_all rfl)|kernel_rfl
theorem cfK:(cfl5 m b u).lookup ("come_back":Str)=none:=by first|rfl|(with_unfolding_all rfl)|kernel_rfl
end
theorem kc_upd {a:WA}{H:Hp}{o:HO}:Kc a H (upd H a.cl o):=fun b u _ _ n h=>by rw[upd_ne n];exact h
theorem WM.setC {CW CC:Addr}{H:Hp}{a:WA}{pile steps:List V}{most:Int}{c u:Nat}(M:WM CW H a pile steps)(k:CM CC H a most c u)(nm:a.cl≠a.m)(o:HO):WM CW (upd H a.cl o) a pile steps:=by
 obtain⟨n1,n2⟩:=M.ncl k
 exact⟨by rw[upd_ne (Ne.symm nm)];exact M.ob,by rw[upd_ne (Ne.symm n1)];exact M.hp,by rw[upd_ne (Ne.symm n2)];exact M.hs,M.nd⟩
theorem CM.nm {CW CC:Addr}{H:Hp}{a:WA}{pile steps:List V}{most:Int}{c u:Nat}(M:WM CW H a pile steps)(k:CM CC H a most c u)(ne:CC≠CW):a.cl≠a.m:=by
 obtain⟨dx,h⟩:=k
 exact ne_of h M.ob (by intro z;cases z)
inductive spCB (CW CC:Addr)(vs:List V)(H:Hp)(Q:VK)(E:XK):Prop where
 |mk (a:WA) (pile steps:List V) (p n:V) (most:Int) (c u:Nat):vs=[.ref a.m,p,n]→WM CW H a pile steps→CM CC H a most c (u+1)→(∀H',WM CW H' a pile steps→CM CC H' a most c u→Kc a H H'→Q .non H')→spCB CW CC vs H Q E
inductive spBC (CW CC CF CS CTl CTd fW fB:Addr)(vs:List V)(H:Hp)(Q:VK)(E:XK):Prop where
 |ok (a:WA) (pile steps:List V) (most:Int) (c u:Nat) (o dx d:Addr) (x:Str) (bv v:V) (kvs:List (Key×V)):vs=[.ref a.m, .ref o,v]→WM CW H a pile steps→CM CC H a most c u→H o=some (.ins CF dx (ffl (.str x) bv (.ref d)))→H d=some (.dK kvs)→kvs.length≤1000→steps.length≤100000→
   ((c:Int)+1>most→∀ea H',Kc a H H'→E (.ref CTl) (some ea) H')→(¬(c:Int)+1>most→u+1>10→∀ea H',Kc a H H'→E (.ref CTd) (some ea) H')→
   (¬(c:Int)+1>most→¬u+1>10→∀(q1 q2 dd:Addr) H',WM CW H' a pile (steps++[.ref q2, .ref q1])→CM CC H' a most (c+1) (u+1)→Kc a H H'→H' q1=some (.tup [.ref fW,bv, .ref dd])→H' q2=some (.tup [.ref fB,bv, .ref dd])→H dd=none→H' dd=some (.dK (putK kvs (Sum.inr x) v))→Q .non H')→spBC CW CC CF CS CTl CTd fW fB vs H Q E
 |no (m f v:V):vs=[m,f,v]→NoFn H f→(∀ea,E (.ref CS) (some ea) H)→spBC CW CC CF CS CTl CTd fW fB vs H Q E
section
variable {P:Program}{w:World}{K:PySem.W.Frag}{mg:Str→Option Value}{base:Heap}{f CC CW CF CS CTl CTd fW fB fT:Addr}{fd gT:FuncData}
abbrev s_cb:Stmt:=top 44
abbrev s_bc:Stmt:=top 45
theorem sc_cb:FnScope pWp pWp (defScope s_cb):=⟨rfl,rfl,rfl,by decide+kernel,rfl,by decide+kernel,by decide+kernel⟩
theorem sc_bc:FnScope ["worker","function","argument","names"] ["worker","function","argument"] (defScope s_bc):=⟨rfl,rfl,rfl,by decide+kernel,rfl,by decide+kernel,by decide+kernel⟩
theorem ok_cb {fK:Addr}{gK:FuncData}(F:Fun K "come_back" "come_back" s_cb f fd)(Tx:TxW K CW)(Tc:TxC K CC)(nCW:CC≠CW)(MK:Meth K CC "come_back" fK)(GK:FnOk P w K mg base (CXF P w) 1 fK gK ["self"] (spCmb CC))(bK:Binds K gK ["self"] []):FnOk P w K mg base (CXF P w) 2 f fd pWp (spCB CW CC):=by
 refine F.okX sc_cb (fun cdv A outer s H vs Q E hr h=>?_)
 obtain⟨a,pile,steps,p,n,most,c,u,rfl,M,C,q⟩:=h
 have nm:=C.nm M nCW
 obtain⟨dx,hc⟩:=id C
 refine⟨_,pss_one (ps_expr (pe_meth0 (E:=E) (fldK K (pv 0) rfl) Tc.cc MK GK hr bK .nil passes_up)),?_⟩
 refine⟨_,rfl,a.m,CW,a.dx,_, .ref a.cl,rfl,M.ob,Tx.cw,Tx.w1,wf1 _ _ _ _ _,a.cl,dx,_,rfl,hc,cfK _ _ _,a.cl,dx,most,c,_,rfl,hc,?_⟩
 rw[show(((u+1:Nat):Int)-1)=(u:Int) by omega]
 exact q _ (M.setC C nm _) ⟨dx,upd_same⟩ kc_upd
set_option maxHeartbeats 4000000 in
theorem ok_bc {fG:Addr}{gG:FuncData}{bm:List Value}{newId B initId:String}(F:Fun K "begin_call" "begin_call" s_bc f fd)(Tx:TxW K CW)(Tc:TxC K CC)(Tf:TxF K CF)(IC:IsC K CF)(nCW:CC≠CW)(mi:mg "isinstance"=none)(hF:mg "Function"=some (.ref CF))(OS:OwnCls "Stuck" CS bm newId mg base)(FS:ExcBaseFacts B newId initId bm)
  (MG:Meth K CC "begin" fG) (GG:FnOk P w K mg base (CXF P w) 1 fG gG ["self"] (spBegin CC CTl CTd)) (bG:Binds K gG ["self"] []) (MT:Meth K CW "then" fT) (GT:FnOk P w K mg base CX0 1 fT gT ["self","steps"] (spThen CW)) (bT:Binds K gT ["self","steps"] [])
  (h2:Has P w K mg base 1 "with_names" pWN spWN) (mW:mg "work_on"=some (.ref fW)) (mB:mg "come_back"=some (.ref fB)):FnOk P w K mg base (CXF P w) 2 f fd ["worker","function","argument"] (spBC CW CC CF CS CTl CTd fW fB):=by
 refine F.okX sc_bc (len:=(by rintro _ _ _ _ ⟨⟩<;>subst_vars<;>rfl)) (fun cdv A outer s H vs Q E hr h=>?_)
 refine⟨_,pss_cons (ps_if (pt_not (pt_val (pe_callB call_isiO rfl mi boot_isinstance (pa_cons (pv 1) (pa_cons (pe_glob (v:=.ref CF) rfl hF rfl) pa_nil))))) (pss_one (ps_raise OS FS rfl (pa_cons pe_str pa_nil))) pss_nil)
  (pss_cons (ps_expr (pe_meth0 (E:=E) (fldK K (pv 0) rfl) Tc.cc MG GG hr bG .nil passes_up))
  (pss_cons (pset 3 sc_bc.nd (pcall h2 hr (by decide) rfl (pa_cons (fldK K (pv 1) rfl) (pa_cons (pe_lst (pa_cons (fldK K (pv 1) rfl) pa_nil)) (pa_cons (pe_lst (pa_cons (pv 2) pa_nil)) pa_nil)))))
  (pss_one (ps_expr (pe_meth (pv 0) Tx.cw MT GT hr bT .nil pass0 (pa_cons (pe_lst (pa_cons (pe_tup (pa_cons (pe_glob (v:=.ref fW) rfl mW rfl) (pa_cons (fldK K (pv 1) rfl) (pa_cons (pv 3) pa_nil)))) (pa_cons (pe_tup (pa_cons (pe_glob (v:=.ref fB) rfl mB rfl) (pa_cons (fldK K (pv 1) rfl) (pa_cons (pv 3) pa_nil)))) pa_nil))) pa_nil)))))),?_⟩
 cases h with
 |no m fv v e hn q=>
  subst e
  obtain⟨ty,t1,t2⟩:=hn.ty IC
  exact⟨_,rfl,_,_,_,_,rfl,t1,t2,false,rfl,iteT ⟨sml 1,fun ea _=>q ea⟩⟩
 |ok a pile steps most c u o dx d x bv v kvs e M C ho hd lk ls q1 q2 q3=>
  subst e
  have nm:=C.nm M nCW
  obtain⟨n1,n2⟩:=M.ncl C
  obtain⟨dxc,hc⟩:=id C
  refine⟨_,rfl,_,_,_,_,rfl, .ins ho Tf.cf IC.i1 IC.i2 IC.i3 IC.i4,IC.i5,true,rfl,iteF ?_⟩
  refine⟨_,rfl,a.m,CW,a.dx,_, .ref a.cl,rfl,M.ob,Tx.cw,Tx.w1,wf1 _ _ _ _ _,a.cl,dxc,_,rfl,hc,cfB _ _ _,a.cl,dxc,most,c,u,rfl,hc,fun z ea=>q1 z ea H Kc.refl,fun z1 z2 ea=>q2 (Int.not_lt.mpr z1) (by omega) ea H Kc.refl,fun z1 z2=>?_⟩
  have noc:o≠a.cl:=ne_of ho hc (by intro z;cases z)
  have ndc:d≠a.cl:=ne_of hd hc (by intro z;cases z)
  have M1:=M.setC C nm (.ins CC dxc (cfl5 (.int most) (.int ((c:Int)+1)) (.int ((u:Int)+1))))
  have C1:CM CC (upd H a.cl (.ins CC dxc (cfl5 (.int most) (.int ((c:Int)+1)) (.int ((u:Int)+1))))) a most (c+1) (u+1):=⟨dxc,upd_same⟩
  have k1:Kc a H (upd H a.cl (.ins CC dxc (cfl5 (.int most) (.int ((c:Int)+1)) (.int ((u:Int)+1))))):=kc_upd
  have ho1:(upd H a.cl (.ins CC dxc (cfl5 (.int most) (.int ((c:Int)+1)) (.int ((u:Int)+1))))) o=some (.ins CF dx (ffl (.str x) bv (.ref d))):=by rw[upd_ne noc];exact ho
  have hd1:(upd H a.cl (.ins CC dxc (cfl5 (.int most) (.int ((c:Int)+1)) (.int ((u:Int)+1))))) d=some (.dK kvs):=by rw[upd_ne ndc];exact hd
  revert M1 C1 k1 ho1 hd1
  generalize upd H a.cl (.ins CC dxc (cfl5 (.int most) (.int ((c:Int)+1)) (.int ((u:Int)+1))))=H1
  intro M1 C1 k1 ho1 hd1
  refine⟨_,rfl,o,CF,dx,_, .ref d,rfl,ho1,Tf.cf,Tf.f3,ff3 _ _ _,_,rfl,o,CF,dx,_, .str x,rfl,ho1,Tf.cf,Tf.f1,ff1 _ _ _,sml 1,fun l2 hl2=>?_⟩
  have s2:=same_new hl2 (.lst [.str x])
  have b2:(upd H1 l2 (.lst [.str x])) l2=some (.lst [.str x]):=upd_same
  revert s2 b2
  generalize upd H1 l2 (.lst [.str x])=H2
  intro s2 b2
  refine⟨_,rfl,sml 1,fun l3 hl3=>?_⟩
  have s3:=same_new hl3 (.lst [v])
  refine⟨true,d,l2,l3,kvs,x,v,rfl,s3 _ _ (s2 _ _ hd1),lk,s3 _ _ b2,upd_same,fun dd H4 s4 hdd0 hdd=>?_⟩
  have s14:=s2.trans (s3.trans s4)
  have M4:=M1.same s14
  have ho4:=s14 _ _ ho1
  refine⟨_,rfl,a.m,a.dx,_,rfl,M4.ob,wfT _ _ _ _ _,?_⟩
  refine⟨_,rfl,o,CF,dx,_,bv,rfl,ho4,Tf.cf,Tf.f2,ff2 _ _ _,_,rfl,sml 3,fun t1 ht1=>?_⟩
  have s5:=same_new ht1 (.tup [.ref fW,bv, .ref dd])
  have b5:(upd H4 t1 (.tup [.ref fW,bv, .ref dd])) t1=some (.tup [.ref fW,bv, .ref dd]):=upd_same
  revert s5 b5
  generalize upd H4 t1 (.tup [.ref fW,bv, .ref dd])=H5
  intro s5 b5
  refine⟨_,rfl,o,CF,dx,_,bv,rfl,s5 _ _ ho4,Tf.cf,Tf.f2,ff2 _ _ _,_,rfl,sml 3,fun t2 ht2=>?_⟩
  have s6:=same_new ht2 (.tup [.ref fB,bv, .ref dd])
  have b6:(upd H5 t2 (.tup [.ref fB,bv, .ref dd])) t2=some (.tup [.ref fB,bv, .ref dd]):=upd_same
  revert s6 b6
  generalize upd H5 t2 (.tup [.ref fB,bv, .ref dd])=H6
  intro s6 b6
  refine⟨sml 2,fun l7 hl7=>?_⟩
  have s7:=same_new hl7 (.lst [.ref t1, .ref t2])
  have s47:=s5.trans (s6.trans s7)
  have M7:=M4.same s47
  refine⟨a,pile,steps,[.ref t1, .ref t2],l7,rfl,M7,upd_same,by show 2≤100;decide,ls,fun H8 M8 k8=>?_⟩
  have x18:Kq a H1 H8:=(kq_same (s14.trans s47)).trans k8
  refine q3 (Int.not_lt.mpr z1) (by omega) t1 t2 dd H8 M8 (C1.kq M1 x18) (k1.trans x18.c) (M7.tup (s7 _ _ (s6 _ _ b5)) k8) (M7.tup (s7 _ _ b6) k8) ?_ ?_
  ·have hddH1:H1 dd=none:=s2.free (s3.free hdd0)
   cases e:H dd with
   |none=>rfl
   |some ob=>
    by_cases z1:dd=a.pl
    ·rw[z1,M1.hp]at hddH1;cases hddH1
    ·by_cases z2:dd=a.st
     ·rw[z2,M1.hs]at hddH1;cases hddH1
     ·by_cases z3:dd=a.cl
      ·obtain⟨dz,hz⟩:=C1;rw[z3,hz]at hddH1;cases hddH1
      ·rw[k1 _ _ z1 z2 z3 e]at hddH1;cases hddH1
  ·have hdd7:=s47 _ _ hdd
   exact k8 _ _ (ne_of hdd7 M7.hp (by intro z;cases z)) (ne_of hdd7 M7.hs (by intro z;cases z)) hdd7
end
inductive spEndC (CW CC CF CS CTl CTd fW fB:Addr)(vs:List V)(H:Hp)(Q:VK)(E:XK):Prop where
 |ok (a:WA) (pile steps:List V) (most:Int) (c u:Nat) (o dx d:Addr) (x:Str) (bv v p n:V) (kvs:List (Key×V)):vs=[.ref a.m,p,n]→WM CW H a (pile++[.ref o,v]) steps→CM CC H a most c u→H o=some (.ins CF dx (ffl (.str x) bv (.ref d)))→H d=some (.dK kvs)→kvs.length≤1000→steps.length≤100000→
   ((c:Int)+1>most→∀ea H',Kc a H H'→E (.ref CTl) (some ea) H')→(¬(c:Int)+1>most→u+1>10→∀ea H',Kc a H H'→E (.ref CTd) (some ea) H')→
   (¬(c:Int)+1>most→¬u+1>10→∀(q1 q2 dd:Addr) H',WM CW H' a pile (steps++[.ref q2, .ref q1])→CM CC H' a most (c+1) (u+1)→Kc a H H'→H' q1=some (.tup [.ref fW,bv, .ref dd])→H' q2=some (.tup [.ref fB,bv, .ref dd])→H' dd=some (.dK (putK kvs (Sum.inr x) v))→Q .non H')→spEndC CW CC CF CS CTl CTd fW fB vs H Q E
 |no (a:WA) (pile steps:List V) (f v p n:V):vs=[.ref a.m,p,n]→WM CW H a (pile++[f,v]) steps→NoFn H f→(∀ea H',Kc a H H'→E (.ref CS) (some ea) H')→spEndC CW CC CF CS CTl CTd fW fB vs H Q E
section
variable {P:Program}{w:World}{K:PySem.W.Frag}{mg:Str→Option Value}{base:Heap}{f CC CW CF CS CTl CTd fW fB fT:Addr}{fd gT:FuncData}
abbrev s_endc:Stmt:=top 46
theorem sc_endc:FnScope ["worker","phrase","names","values"] pWp (defScope s_endc):=⟨rfl,rfl,rfl,by decide+kernel,rfl,by decide+kernel,by decide+kernel⟩
set_option maxHeartbeats 1000000 in
theorem ok_endc {fG:Addr}{gG:FuncData}(F:Fun K "end_call" "end_call" s_endc f fd)(Tx:TxW K CW)(h1:Has P w K mg base 1 "taken_off" ["pile","count"] spTaken)(h2:HasX P w K mg base 2 "begin_call" ["worker","function","argument"] (spBC CW CC CF CS CTl CTd fW fB)):FnOk P w K mg base (CXF P w) 3 f fd pWp (spEndC CW CC CF CS CTl CTd fW fB):=by
 refine F.okX sc_endc (len:=(by rintro _ _ _ _ ⟨⟩<;>subst_vars<;>rfl)) (fun cdv A outer s H vs Q E hr h=>?_)
 obtain⟨fN,gN,GN,bN,kN,mN⟩:=h2
 refine⟨_,pss_cons (pset 3 sc_endc.nd (pcall h1 hr (by decide) rfl (pa_cons (fldK K (pv 0) rfl) (pa_cons pe_int pa_nil))))
  (pss_one (ps_expr (pe_call GN hr rfl mN kN bN .nil passes_up (pa_cons (pv 0) (pa_cons (pe_ix (ixT K) (pv 3) pe_int) (pa_cons (pe_ix (ixT K) (pv 3) pe_int) pa_nil)))))),?_⟩
 cases h with
 |ok a pile steps most c u o dx d x bv v p n kvs e M C ho hd lk ls q1 q2 q3=>
  subst e
  refine⟨_,rfl,a.m,CW,a.dx,_, .ref a.pl,rfl,M.ob,Tx.cw,Tx.w2,wf2 _ _ _ _ _,a.pl,pile,[.ref o,v],2,rfl,M.hp,rfl,by decide,fun t H1 ht0 ht hp1 k1=>?_⟩
  have M1:=M.kp1 k1 hp1
  have x1:=kq_kp1 (a:=a) k1
  have ho1:=k1 _ _ (ne_of ho M.hp (by intro z;cases z)) ho
  have hd1:=k1 _ _ (ne_of hd M.hp (by intro z;cases z)) hd
  exact⟨_,rfl,ix_t (a:=t) (j:=0) rfl ht rfl (ix_t (a:=t) (j:=1) rfl ht rfl (.ok a pile steps most c u o dx d x bv v kvs rfl M1 (C.kq M x1) ho1 hd1 lk ls (fun z ea H' k'=>q1 z ea H' (x1.c.trans k')) (fun z1 z2 ea H' k'=>q2 z1 z2 ea H' (x1.c.trans k')) (fun z1 z2 t1 t2 dd H' M' C' k' g1 g2 _ g3=>q3 z1 z2 t1 t2 dd H' M' C' (x1.c.trans k') g1 g2 g3)))⟩
 |no a pile steps fv v p n e M hn q=>
  subst e
  refine⟨_,rfl,a.m,CW,a.dx,_, .ref a.pl,rfl,M.ob,Tx.cw,Tx.w2,wf2 _ _ _ _ _,a.pl,pile,[fv,v],2,rfl,M.hp,rfl,by decide,fun t H1 ht0 ht hp1 k1=>?_⟩
  have x1:=kq_kp1 (a:=a) k1
  have hn1:NoFn H1 fv:=by
   cases hn with
   |int i=>exact .int i
   |tup h'=>exact .tup (k1 _ _ (ne_of h' M.hp (by intro z;cases z)) h')
  exact⟨_,rfl,ix_t (a:=t) (j:=0) rfl ht rfl (ix_t (a:=t) (j:=1) rfl ht rfl (.no _ fv v rfl hn1 fun ea=>q ea H1 x1.c))⟩
end
def Tup5 (H H':Hp):Prop:=∀b ys,H b=some (.tup ys)→H' b=some (.tup ys)
structure NmOk (x:Str):Prop where
 len:x.length≤100
 gr:greatB x=false
 pt:pathB x=false
 dot:(Builtin.Str.occurrences x "." 0 x.length 1).isEmpty=true
 hd:∃c,atI x.cps.toList 0=some c∧(Builtin.Str.occurrences "ABCDEFGHIJKLMNOPQRSTUVWXYZ" ⟨#[c]⟩ 0 (Str.length "ABCDEFGHIJKLMNOPQRSTUVWXYZ") 1).isEmpty=true
def nmB (x:Str):Bool:=decide (x.length≤100)&&(!greatB x&&(!pathB x&&((Builtin.Str.occurrences x "." 0 x.length 1).isEmpty&&(match atI x.cps.toList 0 with|some c=>(Builtin.Str.occurrences "ABCDEFGHIJKLMNOPQRSTUVWXYZ" ⟨#[c]⟩ 0 (Str.length "ABCDEFGHIJKLMNOPQRSTUVWXYZ") 1).isEmpty|none=>false))))
theorem nm_ok {x:Str}(h:nmB x=true):NmOk x:=by
 unfold nmB at h
 simp only[Bool.and_eq_true,decide_eq_true_eq,Bool.not_eq_true']at h
 obtain⟨h1,h2,h3,h4,h5⟩:=h
 refine⟨h1,h2,h3,h4,?_⟩
 cases e:atI x.cps.toList 0 with
 |none=>rw[e]at h5;cases h5
 |some c=>rw[e]at h5;exact⟨c,rfl,h5⟩
theorem PtOk.great {t g v:Str}(h:PtOk t g v):greatB g=true:=by
 have:=h.pt
 rw[pathB_two h.spl,Bool.and_eq_true]at this
 exact this.1
inductive PhL (H:Hp):V→Ph→Prop where
 |num (i:Int):In60 i→PhL H (.int i) (.num i)
 |nm (x:Str):NmOk x→PhL H (.str x) (.nm x)
 |pt (t g v:Str):PtOk t g v→PhL H (.str t) (.nm t)
 |fn {r:Addr} {x:Str} {vb:V} {b:Ph}:H r=some (.tup [.str "fun", .str x,vb])→NmOk x→PhL H vb b→PhL H (.ref r) (.fn x b)
 |call {r:Addr} {va vb:V} {a b:Ph}:H r=some (.tup [.str "call",va,vb])→PhL H va a→PhL H vb b→PhL H (.ref r) (.call a b)
 |op {r:Addr} {k:Nat} {va vb:V} {a b:Ph}:k≤3→H r=some (.tup [.str (wordOf k),va,vb])→PhL H va a→PhL H vb b→PhL H (.ref r) (.op k a b)
theorem PhL.tps {H H':Hp}(e:Tup5 H H'){v:V}{p:Ph}(h:PhL H v p):PhL H' v p:=by
 induction h with
 |num i h=>exact .num i h
 |nm x a=>exact .nm x a
 |pt t g v a=>exact .pt t g v a
 |fn h n _ i1=>exact .fn (e _ _ h) n i1
 |call h _ _ i1 i2=>exact .call (e _ _ h) i1 i2
 |op k h _ _ i1 i2=>exact .op k (e _ _ h) i1 i2
theorem PhL.same {H H':Hp}(s:Same H H'){v:V}{p:Ph}(h:PhL H v p):PhL H' v p:=h.tps fun b ys h=>s b _ h
def LE (H:Hp)(d:Addr)(e:En):Prop:=∃kvs:List (Key×V),H d=some (.dK kvs)∧kvs.length≤e.length∧(∀y,valV kvs (Sum.inr y)=(lkI e y).map V.int)∧∀y i,lkI e y=some i→In60 i
theorem le_nil {H:Hp}{d:Addr}(h:H d=some (.dK [])):LE H d []:=⟨[],h,Nat.le_refl _,fun _=>rfl,fun _ _ h=>by cases h⟩
theorem LE.dks {H H':Hp}{d:Addr}{e:En}(h:LE H d e)(s:∀kvs,H d=some (.dK kvs)→H' d=some (.dK kvs)):LE H' d e:=by
 obtain⟨kvs,h1,h2⟩:=h
 exact⟨kvs,s _ h1,h2⟩
theorem le_put {H':Hp}{d:Addr}{e:En}{kvs:List (Key×V)}{x:Str}{i:Int}(h2:kvs.length≤e.length)(h3:∀y,valV kvs (Sum.inr y)=(lkI e y).map V.int)(h4:∀y i,lkI e y=some i→In60 i)(hi:In60 i)(h:H' d=some (.dK (putK kvs (Sum.inr x) (.int i)))):LE H' d ((x,i)::e):=by
 refine⟨_,h,Nat.le_trans (length_putK _ _ _) (Nat.succ_le_succ h2),fun y=>?_,fun y j=>?_⟩
 ·rw[valV_put]
  unfold lkI
  by_cases c:y=x
  ·subst c;rw[if_pos rfl,if_pos rfl];rfl
  ·rw[if_neg (fun z=>c (Sum.inr.inj z)),if_neg c];exact h3 y
 ·unfold lkI
  by_cases c:y=x
  ·rw[if_pos c];intro z;cases z;exact hi
  ·rw[if_neg c];exact h4 y j
def pth (g v:Str):Str:=g++"."++v
def PVL (x1 x2:Str)(H:Hp)(pv:Addr)(E0:En):Prop:=∃kp,H pv=some (.dK kp)∧kp.length≤E0.length∧∀t i,lkI E0 t=some i→∃g v dv e',(v=x1∨v=x2)∧t=pth g v∧PtOk t g v∧valV kp (Sum.inr g)=some (.ref dv)∧dv≠pv∧LE H dv e'∧lkI e' v=some i
theorem PVL.dks {x1 x2:Str}{H H':Hp}{pv:Addr}{E0:En}(h:PVL x1 x2 H pv E0)(s:∀b kvs,H b=some (.dK kvs)→H' b=some (.dK kvs)):PVL x1 x2 H' pv E0:=by
 obtain⟨kp,h1,h2,h3⟩:=h
 refine⟨kp,s _ _ h1,h2,fun t i h=>?_⟩
 obtain⟨g,v,dv,e',a1,a2,a3,a4,a0,a5,a6⟩:=h3 t i h
 exact⟨g,v,dv,e',a1,a2,a3,a4,a0,a5.dks fun kvs=>s _ kvs,a6⟩
theorem lkI_app {e1 E0:En}{y:Str}:lkI (e1++E0) y=(match lkI e1 y with|some i=>some i|none=>lkI E0 y):=by
 induction e1 with
 |nil=>rfl
 |cons p r ih=>
  obtain⟨x,i⟩:=p
  have c1:∀l:En,lkI ((x,i)::l) y=if y=x then some i else lkI l y:=fun l=>rfl
  rw[List.cons_append,c1,c1]
  by_cases c:y=x
  ·rw[if_pos c,if_pos c]
  ·rw[if_neg c,if_neg c];exact ih
theorem lkI_key {e:En}{y:Str}{i:Int}(h:lkI e y=some i):y∈e.map (·.1):=by
 induction e with
 |nil=>cases h
 |cons p r ih=>
  obtain⟨x,j⟩:=p
  unfold lkI at h
  by_cases c:y=x
  ·rw[c];exact List.mem_cons_self
  ·rw[if_neg c]at h;exact List.mem_cons_of_mem _ (ih h)
def EnP (E0:En)(H:Hp)(d:Addr)(e:En):Prop:=∃e1,e=e1++E0∧LE H d e1∧∀y∈e1.map (·.1),NmOk y
structure Kv (CF:Addr)(H H':Hp):Prop where
 t:Tup5 H H'
 d:∀b kvs,H b=some (.dK kvs)→H' b=some (.dK kvs)
 f:∀b dx fs,H b=some (.ins CF dx fs)→H' b=some (.ins CF dx fs)
theorem WM.kv {CW CC CF:Addr}{H H':Hp}{a:WA}{pile steps:List V}{most:Int}{c u:Nat}(M:WM CW H a pile steps)(C:CM CC H a most c u)(nCF:CC≠CF)(k:Kc a H H'):Kv CF H H':=by
 obtain⟨dxc,hc⟩:=C
 exact⟨fun b ys h=>k b _ (ne_of h M.hp (by intro z;cases z)) (ne_of h M.hs (by intro z;cases z)) (ne_of h hc (by intro z;cases z)) h,fun b ys h=>k b _ (ne_of h M.hp (by intro z;cases z)) (ne_of h M.hs (by intro z;cases z)) (ne_of h hc (by intro z;cases z)) h,fun b dx fs h=>k b _ (ne_of h M.hp (by intro z;cases z)) (ne_of h M.hs (by intro z;cases z)) (ne_of h hc (by intro z;cases z;exact nCF rfl)) h⟩
theorem EnP.mono {CF:Addr}{E0:En}{H H':Hp}{d:Addr}{e:En}(k:Kv CF H H')(h:EnP E0 H d e):EnP E0 H' d e:=by
 obtain⟨e1,h1,h2,h3⟩:=h
 exact⟨e1,h1,h2.dks fun kvs=>k.d _ kvs,h3⟩
inductive VP (CF:Addr)(E0:En)(H:Hp):V→Vl→Prop where
 |num {i:Int}:In60 i→VP CF E0 H (.int i) (.num i)
 |fn {o dx d:Addr} {x:Str} {bv:V} {b:Ph} {e:En}:H o=some (.ins CF dx (ffl (.str x) bv (.ref d)))→NmOk x→PhL H bv b→EnP E0 H d e→VP CF E0 H (.ref o) (.fn x b e)
theorem VP.mono {CF:Addr}{E0:En}{H H':Hp}(k:Kv CF H H'){v:V}{w:Vl}(h:VP CF E0 H v w):VP CF E0 H' v w:=by
 cases h with
 |num h=>exact .num h
 |fn h1 h2 h3 h4=>exact .fn (k.f _ _ _ h1) h2 (h3.tps k.t) (h4.mono k)
theorem EnP.nm {x1 x2:Str}{E0 e:En}{H:Hp}{d pv:Addr}{x:Str}{i:Int}(h:EnP E0 H d e)(p:PVL x1 x2 H pv E0)(nx:NmOk x)(g:lkI e x=some i):In60 i∧∃kvs,H d=some (.dK kvs)∧valV kvs (Sum.inr x)=some (.int i):=by
 obtain⟨e1,rfl,⟨kvs,h1,h2,h3,h4⟩,_⟩:=h
 rw[lkI_app]at g
 cases hx:lkI e1 x with
 |some j=>rw[hx]at g;cases g;exact⟨h4 _ _ hx,kvs,h1,by rw[h3,hx];rfl⟩
 |none=>
  rw[hx]at g
  obtain⟨kp,_,_,h5⟩:=p
  obtain⟨_,_,_,_,_,_,ok,_⟩:=h5 x i g
  have:=ok.pt
  rw[nx.pt]at this
  cases this
theorem EnP.pt {x1 x2:Str}{E0 e:En}{H:Hp}{d pv:Addr}{t g v:Str}{i:Int}(h:EnP E0 H d e)(p:PVL x1 x2 H pv E0)(nx:PtOk t g v)(gg:lkI e t=some i):In60 i∧PthL H pv d t (.int i):=by
 obtain⟨e1,rfl,⟨kvs,h1,h2,h3,h4⟩,hk⟩:=h
 rw[lkI_app]at gg
 cases hx:lkI e1 t with
 |some j=>
  have:=(hk _ (lkI_key hx)).pt
  rw[nx.pt]at this
  cases this
 |none=>
  rw[hx]at gg
  obtain⟨kp,p1,_,h5⟩:=p
  obtain⟨g',v',dv,e',_,_,ok,q1,_,⟨kv,r1,r2,r3,r4⟩,q3⟩:=h5 t i gg
  refine⟨r4 _ _ q3,g',v',kvs,kp,kv,dv,ok,h1,?_,p1,q1,r1,by rw[r3,q3];rfl⟩
  rw[h3]
  cases hg:lkI e1 g' with
  |none=>rfl
  |some j=>
   have:=(hk _ (lkI_key hg)).gr
   rw[ok.great]at this
   cases this
structure FA where
 (w u c b n:Addr)
structure CA where
 (W C F S T L D:Addr)
inductive StL (CF:Addr)(E0:En)(A:FA)(H:Hp):V→S6→Prop where
 |w {q d:Addr} {v:V} {p:Ph} {e:En}:H q=some (.tup [.ref A.w,v, .ref d])→PhL H v p→EnP E0 H d e→StL CF E0 A H (.ref q) (.w p e)
 |fE {q r d:Addr} {x:Str} {vb:V} {b:Ph} {e:En}:H q=some (.tup [.ref A.u, .ref r, .ref d])→H r=some (.tup [.str "fun", .str x,vb])→NmOk x→PhL H vb b→EnP E0 H d e→StL CF E0 A H (.ref q) (.fE x b e)
 |c {q d:Addr} {v:V}:H q=some (.tup [.ref A.c,v, .ref d])→StL CF E0 A H (.ref q) .c
 |bk {q d:Addr} {v:V}:H q=some (.tup [.ref A.b,v, .ref d])→StL CF E0 A H (.ref q) .bk
 |n {q r d:Addr} {k:Nat} {xs:List V}:k≤3→H q=some (.tup [.ref A.n, .ref r, .ref d])→H r=some (.tup (.str (wordOf k)::xs))→StL CF E0 A H (.ref q) (.n k)
section
variable {CF:Addr}{E0:En}{A:FA}{H H':Hp}
theorem StL.mono (k:Kv CF H H'){v:V}{s:S6}(h:StL CF E0 A H v s):StL CF E0 A H' v s:=by
 cases h with
 |w h1 h2 h3=>exact .w (k.t _ _ h1) (h2.tps k.t) (h3.mono k)
 |fE h1 h2 h3 h4 h5=>exact .fE (k.t _ _ h1) (k.t _ _ h2) h3 (h4.tps k.t) (h5.mono k)
 |c h1=>exact .c (k.t _ _ h1)
 |bk h1=>exact .bk (k.t _ _ h1)
 |n h0 h1 h2=>exact .n h0 (k.t _ _ h1) (k.t _ _ h2)
inductive StsL (CF:Addr)(E0:En)(A:FA)(H:Hp):List V→List S6→Prop where
 |nil:StsL CF E0 A H [] []
 |cons {v:V} {s:S6} {vs:List V} {ss:List S6}:StL CF E0 A H v s→StsL CF E0 A H vs ss→StsL CF E0 A H (v::vs) (s::ss)
theorem StsL.mono (k:Kv CF H H'){vs:List V}{ss:List S6}(h:StsL CF E0 A H vs ss):StsL CF E0 A H' vs ss:=by
 induction h with
 |nil=>exact .nil
 |cons a _ ih=>exact .cons (a.mono k) ih
theorem StsL.len {vs:List V}{ss:List S6}(h:StsL CF E0 A H vs ss):vs.length=ss.length:=by
 induction h with
 |nil=>rfl
 |cons _ _ ih=>exact congrArg (·+1) ih
inductive PiL (CF:Addr)(E0:En)(H:Hp):List V→List Vl→Prop where
 |nil:PiL CF E0 H [] []
 |cons {v:V} {w:Vl} {vs:List V} {ws:List Vl}:VP CF E0 H v w→PiL CF E0 H vs ws→PiL CF E0 H (v::vs) (w::ws)
theorem PiL.mono (k:Kv CF H H'){vs:List V}{ss:List Vl}(h:PiL CF E0 H vs ss):PiL CF E0 H' vs ss:=by
 induction h with
 |nil=>exact .nil
 |cons a _ ih=>exact .cons (a.mono k) ih
theorem PiL.len {vs:List V}{ss:List Vl}(h:PiL CF E0 H vs ss):vs.length=ss.length:=by
 induction h with
 |nil=>rfl
 |cons _ _ ih=>exact congrArg (·+1) ih
end
def adS (A:FA):S6→Addr
 |.w _ _=>A.w|.fE _ _ _=>A.u|.c=>A.c|.bk=>A.b|.n _=>A.n
def spS (C:CA)(A:FA)(K:PySem.W.Frag)(fs:List (Str×V)):S6→Sp
 |.w _ _=>spWO C.W A.w K fs|.fE _ _ _=>spEndU C.W C.F|.c=>spEndC C.W C.C C.F C.S C.L C.D A.w A.b|.bk=>spCB C.W C.C|.n _=>spEndN C.W C.F C.S C.T
def outA (C:CA):Ot→Addr
 |.stuck=>C.S|.great=>C.T|.long=>C.L|.deep=>C.D
structure FormsOk (K:PySem.W.Frag)(fs:List (Str×V))(A:FA):Prop where
 fn:∃tf,fs.lookup ("fun":Str)=some (.ref tf)∧∀H,SqT K H tf [.int 2, .int 2, .ref A.u]
 call:∃tf,fs.lookup ("call":Str)=some (.ref tf)∧∀H,SqT K H tf [.int 1, .int 3, .ref A.c]
 op:∀k,k≤3→∃tf,fs.lookup (wordOf k)=some (.ref tf)∧∀H,SqT K H tf [.int 1, .int 3, .ref A.n]
theorem one_of {qs:List Addr}{q:Addr}(l:qs.length=1)(e:qs[0]?=some q):qs=[q]:=by
 cases qs with
 |nil=>cases l
 |cons y ys=>cases ys with
  |nil=>cases e;rfl
  |cons=>cases l
theorem two_of {qs:List Addr}{q r:Addr}(l:qs.length=2)(e:qs[0]?=some q)(g:qs[1]?=some r):qs=[q,r]:=by
 cases qs with
 |nil=>cases l
 |cons y ys=>cases ys with
  |nil=>cases l
  |cons z zs=>cases zs with
   |nil=>cases e;cases g;rfl
   |cons=>cases l
set_option maxHeartbeats 4000000 in
theorem step_go {C:CA}{A:FA}{K:PySem.W.Frag}{fs:List (Str×V)}{H:Hp}{a:WA}{E0:En}{x1 x2:Str}{most:Int}{c u:Nat}{P:List Vl}{pvs svs:List V}{S:List S6}{v:V}{s:S6}(nCF:C.C≠C.F)(fm:FormsOk K fs A)(M:WM C.W H a pvs.reverse svs.reverse)(cm:CM C.C H a most c u)(pvl:PVL x1 x2 H a.pv E0)(sl:StL C.F E0 A H v s)(sts:StsL C.F E0 A H svs S)(hP:PiL C.F E0 H pvs P)(lp:P.length≤50000)(ls:S.length≤50000)(nb:step6 most s S P c u≠.bad):
  ∃(q:Addr) (pv:V) (d:Addr),v=.ref q∧H q=some (.tup [.ref (adS A s),pv, .ref d])∧∀(Q:VK) (E:XK),(∀S' P' c' u' pvs' svs' H',step6 most s S P c u=.go S' P' c' u'→WM C.W H' a pvs'.reverse svs'.reverse→CM C.C H' a most c' u'→Kc a H H'→StsL C.F E0 A H' svs' S'→PiL C.F E0 H' pvs' P'→Q .non H')→(∀o,step6 most s S P c u=.out o→∀ea H',Kc a H H'→E (.ref (outA C o)) (some ea) H')→spS C A K fs s [.ref a.m,pv, .ref d] H Q E:=by
 have lp':pvs.reverse.length≤100000:=by rw[List.length_reverse,hP.len];omega
 have ls':svs.reverse.length≤100000:=by rw[List.length_reverse,sts.len];omega
 have kv:∀{H'},Kc a H H'→Kv C.F H H':=fun k=>M.kv cm nCF k
 cases sl with
 |@w q d v p e h1 h2 h3=>
  refine⟨q,v,d,rfl,h1,fun Q E hgo hout=>?_⟩
  show spWO C.W A.w K fs [.ref a.m,v, .ref d] H Q E
  cases h2 with
  |num i hi=>
   exact .leaf a.m (.int i) d rfl (.inl ⟨i,rfl⟩) fun H' s' Q' E' qq=>.num a _ _ d i rfl (M.same s') lp' fun H2 M2 k2=>by
    have kc:=(kq_same (a:=a) s').trans k2
    exact qq H2 (hgo S (.num i::P) c u (.int i::pvs) svs H2 rfl (by rw[List.reverse_cons];exact M2) (cm.kq M kc) kc.c (sts.mono (kv kc.c)) (.cons (.num hi) (hP.mono (kv kc.c))))
  |nm x nmx=>
   cases he:lkI e x with
   |none=>exact absurd (by simp only[step6,he]) nb
   |some i=>
    obtain⟨hi,kvs,hd,hv⟩:=h3.nm pvl nmx he
    exact .leaf a.m (.str x) d rfl (.inr ⟨x,rfl,nmx.len,nmx.gr⟩) fun H' s' Q' E' qq=>.nm a _ _ d kvs x (.int i) rfl (M.same s') lp' nmx.len nmx.pt (s' _ _ hd) hv fun H2 M2 k2=>by
     have kc:=(kq_same (a:=a) s').trans k2
     exact qq H2 (hgo S (.num i::P) c u (.int i::pvs) svs H2 (by simp only[step6,he]) (by rw[List.reverse_cons];exact M2) (cm.kq M kc) kc.c (sts.mono (kv kc.c)) (.cons (.num hi) (hP.mono (kv kc.c))))
  |pt t g v ptx=>
   cases he:lkI e t with
   |none=>exact absurd (by simp only[step6,he]) nb
   |some i=>
    obtain⟨hi,hpt⟩:=h3.pt pvl ptx he
    exact .leaf a.m (.str t) d rfl (.inr ⟨t,rfl,ptx.len,ptx.gr⟩) fun H' s' Q' E' qq=>.pt a _ _ d t (.int i) rfl (M.same s') lp' (hpt.same s') fun H2 M2 k2=>by
     have kc:=(kq_same (a:=a) s').trans k2
     exact qq H2 (hgo S (.num i::P) c u (.int i::pvs) svs H2 (by simp only[step6,he]) (by rw[List.reverse_cons];exact M2) (cm.kq M kc) kc.c (sts.mono (kv kc.c)) (.cons (.num hi) (hP.mono (kv kc.c))))
  |@fn r x vb b hr nx hb=>
   obtain⟨tf,f1,f2⟩:=fm.fn
   refine .node a _ _ [.str x,vb] r d tf A.u "fun" 2 2 rfl M hr f1 f2 (by decide) (by decide) (by show 2≤3;decide) (by show 2≤5;decide) ls' fun qs qe H' M' k' lq aq hqe=>?_
   obtain rfl:qs=[]:=List.eq_nil_of_length_eq_zero lq
   have k:=kv k'.c
   exact hgo (.fE x b e::S) P c u pvs (.ref qe::svs) H' rfl (by simpa using M') (cm.kq M k') k'.c (.cons (.fE hqe (k.t _ _ hr) nx (hb.tps k.t) (h3.mono k)) (sts.mono k)) (hP.mono k)
  |@call r va vb pa pb hr ha hb=>
   obtain⟨tf,f1,f2⟩:=fm.call
   refine .node a _ _ [va,vb] r d tf A.c "call" 1 3 rfl M hr f1 f2 (by decide) (by decide) (by show 3≤3;decide) (by show 2≤5;decide) ls' fun qs qe H' M' k' lq aq hqe=>?_
   obtain⟨q0,e0,h0⟩:=aq 0 va (by decide) rfl
   obtain⟨q1,e1,h1'⟩:=aq 1 vb (by decide) rfl
   obtain rfl:=two_of lq e0 e1
   have k:=kv k'.c
   exact hgo (.w pa e::.w pb e::.c::S) P c u pvs (.ref q0::.ref q1::.ref qe::svs) H' rfl (by simpa using M') (cm.kq M k') k'.c (.cons (.w h0 (ha.tps k.t) (h3.mono k)) (.cons (.w h1' (hb.tps k.t) (h3.mono k)) (.cons (.c hqe) (sts.mono k)))) (hP.mono k)
  |@op r k' va vb pa pb hk hr ha hb=>
   obtain⟨tf,f1,f2⟩:=fm.op k' hk
   refine .node a _ _ [va,vb] r d tf A.n (wordOf k') 1 3 rfl M hr f1 f2 (by decide) (by decide) (by show 3≤3;decide) (by show 2≤5;decide) ls' fun qs qe H' M' kq' lq aq hqe=>?_
   obtain⟨q0,e0,h0⟩:=aq 0 va (by decide) rfl
   obtain⟨q1,e1,h1'⟩:=aq 1 vb (by decide) rfl
   obtain rfl:=two_of lq e0 e1
   have k:=kv kq'.c
   exact hgo (.w pa e::.w pb e::.n k'::S) P c u pvs (.ref q0::.ref q1::.ref qe::svs) H' rfl (by simpa using M') (cm.kq M kq') kq'.c (.cons (.w h0 (ha.tps k.t) (h3.mono k)) (.cons (.w h1' (hb.tps k.t) (h3.mono k)) (.cons (.n hk hqe (k.t _ _ hr)) (sts.mono k)))) (hP.mono k)
 |@fE q r d x vb b e h1 h2 nx h3 h4=>
  refine⟨q, .ref r,d,rfl,h1,fun Q E hgo hout=>?_⟩
  show spEndU C.W C.F [.ref a.m, .ref r, .ref d] H Q E
  refine .mk a _ _ r d x vb rfl M h2 lp' fun o dx H' M' k' _ ho=>?_
  have k:=kv k'.c
  exact hgo S (.fn x b e::P) c u (.ref o::pvs) svs H' rfl (by rw[List.reverse_cons];exact M') (cm.kq M k') k'.c (sts.mono k) (.cons (.fn ho nx (h3.tps k.t) (h4.mono k)) (hP.mono k))
 |@c q d v h1=>
  refine⟨q,v,d,rfl,h1,fun Q E hgo hout=>?_⟩
  show spEndC C.W C.C C.F C.S C.L C.D A.w A.b [.ref a.m,v, .ref d] H Q E
  cases hP with
  |nil=>exact absurd rfl nb
  |@cons jv j pvs P hj hP=>cases hP with
   |nil=>exact absurd (by cases j<;>rfl) nb
   |@cons iv i pvs P hi hP=>
    rw[List.reverse_cons,List.reverse_cons,List.append_assoc]at M
    cases hj with
    |fn=>exact absurd rfl nb
    |@num j hj6=>
    cases hi with
    |num=>exact absurd rfl nb
    |@fn o dx d' x bv body e' ho nx hb he'=>
     by_cases zl:¬e'.length≤900
     ·exact absurd (by simp only[step6];rw[if_pos zl]) nb
     obtain⟨e1,rfl,⟨kvs,hd',dk1,dk2,dk3⟩,hk⟩:=he'
     have ll:e1.length≤900:=by rw[List.length_append]at zl;omega
     refine .ok a pvs.reverse _ most c u o dx d' x bv (.int j) v (.ref d) kvs rfl M cm ho hd' (by omega) ls' (fun z ea H' k'=>hout .long (by simp only[step6];rw[if_neg zl,if_pos z]) ea H' k') (fun z1 z2 ea H' k'=>hout .deep (by simp only[step6];rw[if_neg zl,if_neg z1,if_pos z2]) ea H' k') (fun z1 z2 q1 q2 dd H' M' C' k' g1 g2 g3=>?_)
     have k:=kv k'
     refine hgo (.w body ((x,j)::(e1++E0))::.bk::S) P (c+1) (u+1) pvs (.ref q1::.ref q2::svs) H' (by simp only[step6];rw[if_neg zl,if_neg z1,if_neg z2]) (by simpa using M') C' k' (.cons (.w g1 (hb.tps k.t) ⟨(x,j)::e1,rfl,le_put dk1 dk2 dk3 hj6 g3,fun y hy=>?_⟩) (.cons (.bk g2) (sts.mono k))) (hP.mono k)
     cases hy with
     |head=>exact nx
     |tail _ hy=>exact hk y hy
 |@bk q d v h1=>
  refine⟨q,v,d,rfl,h1,fun Q E hgo hout=>?_⟩
  show spCB C.W C.C [.ref a.m,v, .ref d] H Q E
  cases u with
  |zero=>exact absurd rfl nb
  |succ u=>
   refine .mk a _ _ v (.ref d) most c u rfl M cm fun H' M' C' k'=>?_
   have k:=kv k'
   exact hgo S P c u pvs svs H' rfl M' C' k' (sts.mono k) (hP.mono k)
 |@n q r d k' xs hk h1 h2=>
  refine⟨q, .ref r,d,rfl,h1,fun Q E hgo hout=>?_⟩
  show spEndN C.W C.F C.S C.T [.ref a.m, .ref r, .ref d] H Q E
  cases hP with
  |nil=>exact absurd rfl nb
  |@cons jv j pvs P hj hP=>cases hP with
   |nil=>exact absurd (by cases j<;>rfl) nb
   |@cons iv i pvs P hi hP=>
    rw[List.reverse_cons,List.reverse_cons,List.append_assoc]at M
    have lq:pvs.reverse.length≤100000:=by rw[List.length_reverse,hP.len];simp at lp;omega
    cases hj with
    |fn=>exact absurd rfl nb
    |@num y h6j=>
    cases hi with
    |fn=>exact absurd rfl nb
    |@num z h6=>
     refine .mk a pvs.reverse _ xs r (.ref d) k' z y rfl M h2 hk lq h6 h6j (fun hin H' M' kq'=>?_) (fun hout' ea H' kq'=>hout .great (by simp only[step6,reckI,if_pos (gt60_iff.mpr hout')]) ea H' kq'.c)
     have k:=kv kq'.c
     exact hgo S (.num (rk k' z y)::P) c u (.int (rk k' z y)::pvs) svs H' (by simp only[step6,reckI];rw[if_neg (fun q=>gt60_iff.mp q hin)]) (by rw[List.reverse_cons];exact M') (cm.kq M kq') kq'.c (sts.mono k) (.cons (.num hin) (hP.mono k))
end Fw
namespace L2
open PySem PySem.Spec PyProof.Rows
structure FunD (K:PySem.W.Frag)(x qual:Str)(st:Stmt)(f:Addr)(fd:FuncData)(T:Addr)(its:Array Value):Prop where
 ex:∃(oc:Value) (od:Option Addr) (kV doc pm:Value) (an:Option Addr) (cdv ct:Value) (osl:Array (Option Value)),
  fd=PySem.W.fnOf x qual (defArgs st) (defBody st) (defScope st) (.ref T) kV doc pm an cdv ct∧K.lookup f=some ⟨oc,od, .func fd,osl⟩∧PySem.W.codeIn K cdv qual=true
 kp:PySem.W.keepIn K (.ref f)=true
 df:∃oc od n sl,K.lookup T=some ⟨oc,od, .seq its n,sl⟩
section
variable {P:Program}{w:World}{K:PySem.W.Frag}{mg:Str→Option Value}{base:Heap}{N:List Str}{qual:Str}{f:Addr}{T:Addr}{its:Array Value}
theorem FunD.okX {x:Str}{st:Stmt}{fd:FuncData}{ps:List Str}{k:Nat}{sp:Sp}(F:FunD K x qual st f fd T its)(S:FnScope N ps (defScope st))(len:∀vs H Q E,sp vs H Q E→vs.length=ps.length)
  (hbody:∀(cdv:Value) (A:Around) (outer:List Env) (s:Shared) (H:Hp) (vs:List V) (Q:VK) (E:XK),Room k (A.deeper (envOfC qual (defScope st) s.heap.objs.size f cdv))→sp vs H Q E→
   ∃t,PSs (cxOf (CXF P w) P w K mg base N qual (defScope st) f cdv A outer s H E) (defBody st) t∧t (Ends.of Q) (start N vs) H):FnOk P w K mg base (CXF P w) (k+1) f fd ps sp:=by
 obtain⟨oc,od,kV,doc,pm,an,cdv,ct,osl,rfl,lk,hcd⟩:=F.ex
 exact fn_of lk hcd S len fun A outer s H vs Q E hr hsp=>hbody cdv A outer s H vs Q E hr hsp
theorem FunD.bindsD {x:Str}{st:Stmt}{fd:FuncData}{ps:List Str}{ds:List Value}(F:FunD K x qual st f fd T its)
  (h:∀(kV doc pm:Value) (an:Option Addr) (cdv ct:Value) (us:List Value),(us++ds).length=ps.length→∃k:Option (Array Value)→Sem (List (Str×Value)),bindArgs (PySem.W.fnOf x qual (defArgs st) (defBody st) (defScope st) (.ref T) kV doc pm an cdv ct) ⟨us,[]⟩=seqItems? (.ref T)>>=k∧k (some its)=pure (ps.zip (us++ds))):Binds K fd ps ds:=by
 obtain⟨oc,od,kV,doc,pm,an,cdv,ct,osl,rfl,lk,hcd⟩:=F.ex
 obtain⟨oc',od',n,sl,hT⟩:=F.df
 intro s us hK hl
 obtain⟨k,e1,e2⟩:=h kV doc pm an cdv ct us hl
 exact BindsTo.of_defaults rfl (hK T _ hT) rfl e1 e2
theorem FunD.binds {x:Str}{st:Stmt}{fd:FuncData}{ps:List Str}(F:FunD K x qual st f fd T its)
  (h:∀(kV doc pm:Value) (an:Option Addr) (cdv ct:Value) (us:List Value),us.length=ps.length→∃k:Option (Array Value)→Sem (List (Str×Value)),bindArgs (PySem.W.fnOf x qual (defArgs st) (defBody st) (defScope st) (.ref T) kV doc pm an cdv ct) ⟨us,[]⟩=seqItems? (.ref T)>>=k∧k (some its)=pure (ps.zip us)):Binds K fd ps [] :=
 F.bindsD fun kV doc pm an cdv ct us hl=>by rw[List.append_nil]at hl ⊢;exact h kV doc pm an cdv ct us hl
end
end L2
namespace Fw
open PySem PySem.Spec PyProof.Rows L2
inductive spGo (C:CA)(A:FA)(vs:List V)(H:Hp)(Q:VK)(E:XK):Prop where
 |mk (a:WA) (pvs svs:List V) (S:List S6) (P:List Vl) (L n:Nat) (most:Int) (c u:Nat) (res:F6) (E0:En) (x1 x2:Str):vs=[.ref a.m]→WM C.W H a pvs.reverse svs.reverse→CM C.C H a most c u→PVL x1 x2 H a.pv E0→StsL C.F E0 A H svs S→PiL C.F E0 H pvs P→run6 L most n S P c u=some res→L≤50000→S.length≤100→P.length≤100→((∃o,res=.out o)∨∃i c' u',res=.done [.num i] c' u')→
   (∀i c' u',res=.done [.num i] c' u'→In60 i→∀H',WM C.W H' a [] []→CM C.C H' a most c' u'→Kc a H H'→Q (.int i) H')→(∀o,res=.out o→∀ea H',Kc a H H'→E (.ref (outA C o)) (some ea) H')→spGo C A vs H Q E
def WdGo (C:CA)(A:FA)(H0:Hp)(a:WA)(L:Nat)(most:Int)(res:F6)(E0:En)(m:Nat)(σ:L2.St)(H:Hp):Prop:=∃o S P pvs svs c u,σ=[some (.ref a.m),o]∧WM C.W H a pvs.reverse svs.reverse∧CM C.C H a most c u∧Kc a H0 H∧StsL C.F E0 A H svs S∧PiL C.F E0 H pvs P∧run6 L most m S P c u=some res
section
variable {P:Program}{w:World}{K:PySem.W.Frag}{mg:Str→Option Value}{base:Heap}{f:Addr}{C:CA}{A:FA}{fd:FuncData}{fs:List (Str×V)}
abbrev s_go:Stmt:=top 60
theorem sc_go:FnScope ["worker","step"] ["worker"] (defScope s_go):=⟨rfl,rfl,rfl,by decide+kernel,rfl,by decide+kernel,by decide+kernel⟩
set_option maxHeartbeats 2000000 in
theorem ok_go (F:Fun K "go_on" "go_on" s_go f fd)(Tx:TxW K C.W)(ml:mg "len"=none)(nCF:C.C≠C.F)(fm:FormsOk K fs A)
  (hF:∀s:S6,∃k fd,k≤6∧FnOk P w K mg base (CXF P w) k (adS A s) fd pWp (spS C A K fs s)∧PySem.W.keepIn K (.ref (adS A s))=true∧Binds K fd pWp []):FnOk P w K mg base (CXF P w) 7 f fd ["worker"] (spGo C A):=by
 refine F.okX sc_go (fun cdv A' outer s H vs Q E hr h=>?_)
 obtain⟨a,pvs0,svs0,S0,P0,L,n0,most,c0,u0,res,E0,x1,x2,rfl,M0,C0,pvl0,st0,p0,ex0,l5,ls0,lp0,hres,q1,q2⟩:=h
 refine⟨_,pss_cons (ps_while PassesOwn.leaving (pt_cmpR op_gt (pe_callB (clen K) rfl ml PySem.boot_len (pa_cons (fldK K (pv 0) rfl) pa_nil)) pe_int)
   (pss_cons (pset 1 sc_go.nd (ppop K (fldK K (pv 0) rfl)))
   (pss_one (ps_expr (pe_callE (E:=E) (fun f sp=>∃s,f=adS A s∧sp=spS C A K fs s) (fun f sp ⟨s,e1,e2⟩=>by
    obtain⟨k,fd',hk,G,kp,b⟩:=hF s
    rw[e1,e2]
    exact⟨k,fd',_,G,hr.mono hk,kp,b⟩) (pe_ix (ixT K) (pv 1) pe_int) passes_up (pa_cons (pv 0) (pa_cons (pe_ix (ixT K) (pv 1) pe_int) (pa_cons (pe_ix (ixT K) (pv 1) pe_int) pa_nil))))))))
  (pss_one (ps_ret (ppop K (fldK K (pv 0) rfl)))),?_⟩
 refine⟨WdGo C A H a L most res E0,⟨n0,none,S0,P0,pvs0,svs0,c0,u0,rfl,M0,C0,Kc.refl,st0,p0,ex0⟩,?_⟩
 rintro m σ H2 ⟨o,S,Pl,pvs,svs,c,u,rfl,M,Cm,k2,st,hP,ex⟩
 refine⟨_,rfl,a.m,C.W,a.dx,_, .ref a.st,rfl,M.ob,Tx.cw,Tx.w3,wf3 _ _ _ _ _,a.st,_,rfl, .inl (SqL.of M.hs),_,_,rfl,rfl,_,rfl,?_⟩
 cases st with
 |nil=>
  refine ite2 (fun c=>absurd (of_decide_eq_true c) (by simp)) (fun _=>?_)
  unfold run6 at ex
  obtain rfl:F6.done Pl c u=res:=Option.some.inj ex
  rcases hres with ⟨o',z⟩|⟨w',c',u',z⟩
  ·cases z
  ·cases z
   cases hP with
   |@cons v _ pvs _ hv hP=>cases hP with
    |nil=>
     cases hv with
     |num h6=>
     have M':=M.setP []
     refine⟨_,rfl,a.m,C.W,a.dx,_, .ref a.pl,rfl,M.ob,Tx.cw,Tx.w2,wf2 _ _ _ _ _, .inl ⟨rfl,_,SqL.of M.hp⟩,a.pl,_,_,rfl,rfl,M.hp,rfl,?_⟩
     have kq:Kq a H2 (upd H2 a.pl (.lst [])):=kq_setP
     exact q1 w' c u rfl h6 _ M' (Cm.kq M kq) (k2.trans kq.c)
 |@cons v s svs S sl sts=>
  refine ite2 (fun _=>?_) (fun c=>absurd (decide_eq_true (by simp)) c)
  refine⟨_,fun _ _ h=>h,?_⟩
  cases m with
  |zero=>cases ex
  |succ m=>
   unfold run6 at ex
   by_cases zb:S.length+4≤L∧Pl.length+4≤L
   rotate_left
   ·rw[if_neg zb]at ex;cases ex
   rw[if_pos zb]at ex
   rw[List.reverse_cons]at M
   refine⟨_,rfl,a.m,C.W,a.dx,_, .ref a.st,rfl,M.ob,Tx.cw,Tx.w3,wf3 _ _ _ _ _, .inl ⟨rfl,_,SqL.of M.hs⟩,a.st,_,v,rfl,rfl,M.hs,by simp,?_⟩
   rw[List.dropLast_concat]
   have M3:=M.setS svs.reverse
   have k3:Kq a H2 (upd H2 a.st (.lst svs.reverse)):=kq_setS
   revert M3 k3
   generalize upd H2 a.st (.lst svs.reverse)=H3
   intro M3 k3
   have kv3:=M.kv Cm nCF k3.c
   have nb:step6 most s S Pl c u≠.bad:=fun z=>by rw[z]at ex;cases ex
   obtain⟨q,pv,d,rfl,hq,go⟩:=step_go nCF fm M3 (Cm.kq M k3) ((pvl0.dks (M0.kv C0 nCF k2).d).dks kv3.d) (sl.mono kv3) (sts.mono kv3) (hP.mono kv3) (by omega) (by omega) nb
   refine ix_t (a:=q) (j:=0) rfl hq rfl ⟨adS A s,_,rfl,⟨s,rfl,rfl⟩,?_⟩
   refine⟨_,rfl,ix_t (a:=q) (j:=1) rfl hq rfl (ix_t (a:=q) (j:=2) rfl hq rfl (go _ _ (fun S' P' c' u' pvs' svs' H' e M' C' k' st' hP'=>?_) (fun o' e ea H' k'=>?_)))⟩
   ·refine⟨m,Nat.le_refl _,_,S',P',pvs',svs',c',u',rfl,M',C',k2.trans (k3.c.trans k'),st',hP',?_⟩
    rw[e]at ex
    exact ex
   ·rw[e]at ex
    cases ex
    exact q2 o' rfl ea H' (k2.trans (k3.c.trans k'))
end
inductive spWko (C:CA)(vs:List V)(H:Hp)(Q:VK)(E:XK):Prop where
 |mk (a:WA) (v:V) (d:Addr) (p:Ph) (e:En) (m:Nat) (most:Int) (c:Nat) (r:Rs) (c':Nat) (E0:En) (x1 x2:Str):vs=[.ref a.m,v, .ref d]→WM C.W H a [] []→CM C.C H a most c 0→PVL x1 x2 H a.pv E0→PhL H v p→EnP E0 H d e→ev most m p e c 0=some (r,c')→m≤10000→(∀i,r=.val i→In60 i→∀H',WM C.W H' a [] []→CM C.C H' a most c' 0→Kc a H H'→Q (.int i) H')→(∀o,r=.out o→∀ea H',Kc a H H'→E (.ref (outA C o)) (some ea) H')→spWko C vs H Q E
section
variable {P:Program}{w:World}{K:PySem.W.Frag}{mg:Str→Option Value}{base:Heap}{f fT fG:Addr}{C:CA}{A:FA}{fd gT gG:FuncData}
abbrev s_wko:Stmt:=top 61
theorem sc_wko:FnScope pWp pWp (defScope s_wko):=⟨rfl,rfl,rfl,by decide+kernel,rfl,by decide+kernel,by decide+kernel⟩
set_option maxHeartbeats 2000000 in
theorem ok_wko (F:Fun K "worked_out" "worked_out" s_wko f fd)(Tx:TxW K C.W)(nCF:C.C≠C.F)(MT:Meth K C.W "then" fT)(GT:FnOk P w K mg base CX0 1 fT gT ["self","steps"] (spThen C.W))(bT:Binds K gT ["self","steps"] [])
  (h3:Has P w K mg base 1 "steps_of" pSt (spSt A.w)) (GG:FnOk P w K mg base (CXF P w) 7 fG gG ["worker"] (spGo C A)) (mG:mg "go_on"=some (.ref fG)) (kG:PySem.W.keepIn K (.ref fG)=true) (bG:Binds K gG ["worker"] []):FnOk P w K mg base (CXF P w) 8 f fd pWp (spWko C):=by
 refine F.okX sc_wko (fun cdv A' outer s H vs Q E hr h=>?_)
 obtain⟨a,v,d,p,e,m,most,c,r,c',E0,x1,x2,rfl,M,Cm,pvl,hp,hd,hev,lm,q1,q2⟩:=h
 refine⟨_,pss_cons (ps_expr (pe_meth (pv 0) Tx.cw MT GT (hr.mono (by decide)) bT .nil pass0 (pa_cons (pcall h3 hr (by decide) rfl (pa_cons (pe_tup (pa_cons (pv 1) pa_nil)) (pa_cons (pv 2) pa_nil))) pa_nil)))
  (pss_one (ps_ret (pe_call GG hr rfl mG kG bG .nil passes_up (pa_cons (pv 0) pa_nil)))),?_⟩
 refine⟨_,rfl,a.m,a.dx,_,rfl,M.ob,wfT _ _ _ _ _,?_⟩
 refine⟨_,rfl,(sml 1),fun t ht=>⟨_,rfl,t,d,[v],rfl,upd_same,by show 1≤10;decide,fun l5 qs H5 s5 hl50 hl5 lq aq=>?_⟩⟩
 obtain⟨q',h1',h2',h3'⟩:=aq 0 v rfl
 obtain rfl:=one_of lq h1'
 have s05:=(same_new ht (.tup [v])).trans s5
 have M5:=M.same s05
 refine⟨a,[],[],[.ref q'],l5,rfl,M5,hl5,by show 1≤100;decide,by show 0≤100000;decide,fun H6 M6 k6=>?_⟩
 have k06:=(kq_same s05).trans k6
 have C6:=Cm.kq M k06
 have kv:=M.kv Cm nCF k06.c
 obtain⟨n,hn⟩:=run_all6 hev
 have st:StsL C.F E0 A H6 [.ref q'] [.w p e]:=.cons (.w (M5.tup h3' k6) (hp.tps kv.t) (hd.mono kv)) .nil
 refine⟨_,rfl,a,[],[.ref q'],_,[],_,n,most,c,0,endF r c',E0,x1,x2,rfl,M6,C6,pvl.dks kv.d,st, .nil,hn,by omega,by show 1≤100;decide,by show 0≤100;decide,?_,fun w c'' u'' hr' h6 H' M' C' k'=>?_,fun o hr' ea H' k'=>?_⟩
 ·cases r with
  |val w=>exact .inr ⟨w,c',0,rfl⟩
  |out o=>exact .inl ⟨o,rfl⟩
 ·cases r with
  |val w0=>cases hr';exact q1 _ rfl h6 H' M' C' (k06.c.trans k')
  |out o=>cases hr'
 ·cases r with
  |val w0=>cases hr'
  |out o0=>cases hr';exact q2 _ rfl ea H' (k06.c.trans k')
end
structure Pa where
 (g x1:Str) (p1:Ph) (x2:Str) (p2:Ph)
def VaL (H:Hp)(a:Addr)(x:Str)(p:Ph):Prop:=∃v,H a=some (.tup [.str "val", .str x,v])∧PhL H v p∧NmOk x
def BdL (H:Hp)(bd:Addr)(q:Pa):Prop:=∃a1 a2,H bd=some (.tup [.ref a1, .ref a2])∧VaL H a1 q.x1 q.p1∧VaL H a2 q.x2 q.p2
def PaL (H:Hp)(d:Addr)(q:Pa):Prop:=∃fc a1 a2,H d=some (.tup [.str "part", .str q.g, .str fc, .ref a1, .ref a2])∧VaL H a1 q.x1 q.p1∧VaL H a2 q.x2 q.p2
theorem VaL.tps {H H':Hp}(e:Tup5 H H'){a:Addr}{x:Str}{p:Ph}(h:VaL H a x p):VaL H' a x p:=by
 obtain⟨v,h1,h2,h3⟩:=h
 exact⟨v,e _ _ h1,h2.tps e,h3⟩
theorem BdL.tps {H H':Hp}(e:Tup5 H H'){a:Addr}{q:Pa}(h:BdL H a q):BdL H' a q:=by
 obtain⟨a1,a2,h1,h2,h3⟩:=h
 exact⟨a1,a2,e _ _ h1,h2.tps e,h3.tps e⟩
theorem PaL.tps {H H':Hp}(e:Tup5 H H'){a:Addr}{q:Pa}(h:PaL H a q):PaL H' a q:=by
 obtain⟨fc,a1,a2,h1,h2,h3⟩:=h
 exact⟨fc,a1,a2,e _ _ h1,h2.tps e,h3.tps e⟩
def Al {α β:Type}(R:α→β→Prop)(xs:List α)(ys:List β):Prop:=xs.length=ys.length∧∀(i:Nat) x y,xs[i]?=some x→ys[i]?=some y→R x y
theorem Al.nil {α β:Type}{R:α→β→Prop}:Al R [] []:=⟨rfl,fun i x y h=>by simp at h⟩
theorem Al.snoc {α β:Type}{R:α→β→Prop}{xs:List α}{ys:List β}{x:α}{y:β}(h:Al R xs ys)(r:R x y):Al R (xs++[x]) (ys++[y]):=by
 refine⟨by rw[List.length_append,List.length_append,h.1];rfl,fun i a b e1 e2=>?_⟩
 by_cases c:i<xs.length
 ·rw[List.getElem?_append_left c]at e1
  rw[List.getElem?_append_left (by rw[←h.1];exact c)]at e2
  exact h.2 i a b e1 e2
 ·rw[List.getElem?_append_right (by omega)]at e1
  rw[List.getElem?_append_right (by rw[←h.1];omega),←h.1]at e2
  cases hk:i-xs.length with
  |zero=>rw[hk]at e1 e2;cases e1;cases e2;exact r
  |succ n=>rw[hk]at e1;cases e1
theorem Al.mono {α β:Type}{R S:α→β→Prop}{xs:List α}{ys:List β}(h:Al R xs ys)(k:∀x y,R x y→S x y):Al S xs ys:=⟨h.1,fun i x y e1 e2=>k _ _ (h.2 i x y e1 e2)⟩
theorem Al.get {α β:Type}{R:α→β→Prop}{xs:List α}{ys:List β}{i:Nat}{x:α}(h:Al R xs ys)(e:xs[i]?=some x):∃y,ys[i]?=some y∧R x y:=by
 have l:i<ys.length:=by rw[←h.1];exact(List.getElem?_eq_some_iff.mp e).1
 exact⟨ys[i],List.getElem?_eq_getElem l,h.2 i _ _ e (List.getElem?_eq_getElem l)⟩
structure PrL (H:Hp)(t fa mn:Addr)(ds:List Addr)(qs:List Pa)(v:V)(p:Ph):Prop where
 tp:H t=some (.tup ((fa::(ds++[mn])).map V.ref))
 fc:∃xs,H fa=some (.tup (.str "face"::xs))∧xs.length=3
 pa:Al (PaL H) ds qs
 mn:H mn=some (.tup [.str "main",v])
 ph:PhL H v p
 len:ds.length≤10
theorem PrL.tps {H H':Hp}(e:Tup5 H H'){t fa mn:Addr}{ds:List Addr}{qs:List Pa}{v:V}{p:Ph}(h:PrL H t fa mn ds qs v p):PrL H' t fa mn ds qs v p:=⟨e _ _ h.tp,by obtain⟨xs,h1,h2⟩:=h.fc;exact⟨xs,e _ _ h1,h2⟩,h.pa.mono fun _ _=>PaL.tps e,e _ _ h.mn,h.ph.tps e,h.len⟩
theorem PrL.same {H H':Hp}(s:Same H H'){t fa mn:Addr}{ds:List Addr}{qs:List Pa}{v:V}{p:Ph}(h:PrL H t fa mn ds qs v p):PrL H' t fa mn ds qs v p:=h.tps fun b ys h=>s b _ h
theorem w_sorts:(("face":Str)≠"record"∧("face":Str)≠"maker"∧("face":Str)≠"apply"∧("face":Str)≠"part")∧(("part":Str)≠"record"∧("part":Str)≠"maker"∧("part":Str)≠"apply")∧("main":Str)≠"record"∧("main":Str)≠"maker"∧("main":Str)≠"apply"∧("main":Str)≠"part":=by decide+kernel
theorem PrL.ds {H:Hp}{t fa mn:Addr}{ds:List Addr}{qs:List Pa}{v:V}{p:Ph}(h:PrL H t fa mn ds qs v p):DsL H t (fa::(ds++[mn])):=by
 obtain⟨⟨f1,f2,f3,f4⟩,⟨p1,p2,p3⟩,m1,m2,m3,m4⟩:=w_sorts
 refine⟨h.tp,by have:=h.len;simp;omega,fun d m=>?_⟩
 rcases List.mem_cons.mp m with rfl|m
 ·obtain⟨xs,h1,_⟩:=h.fc
  exact⟨_,xs,h1,f1,f2,f3⟩
 ·rcases List.mem_append.mp m with m|m
  ·obtain⟨i,hi,e⟩:=List.mem_iff_getElem.mp m
   obtain⟨q,_,fc,a1,a2,h1,_⟩:=h.pa.get (i:=i) (x:=d) (by rw[List.getElem?_eq_getElem hi,e])
   exact⟨_,_,h1,p1,p2,p3⟩
  ·rw[List.mem_singleton.mp m]
   exact⟨_,_,h.mn,m1,m2,m3⟩
inductive spItems (vs:List V)(H:Hp)(Q:VK)(E_:XK):Prop where
 |mk (bd a1 a2:Addr) (x1 x2:Str) (p1 p2:Ph):vs=[.ref bd, .str "val"]→H bd=some (.tup [.ref a1, .ref a2])→VaL H a1 x1 p1→VaL H a2 x2 p2→(∀(l:Addr) H',Same H H'→H l=none→H' l=some (.lst [.ref a1, .ref a2])→Q (.ref l) H')→spItems vs H Q E_
inductive spBody (vs:List V)(H:Hp)(Q:VK)(E_:XK):Prop where
 |mk (d:Addr) (x y:V) (a1 a2:Addr):vs=[.ref d]→H d=some (.tup [.str "part",x,y, .ref a1, .ref a2])→(∀(b:Addr) H',Same H H'→H b=none→H' b=some (.tup [.ref a1, .ref a2])→Q (.ref b) H')→spBody vs H Q E_
def MdL (H0 H:Hp)(r:Addr)(q:Pa):Prop:=∃bd em,H r=some (.tup [.str q.g, .ref bd, .ref em])∧BdL H bd q∧H em=some (.dK [])∧H0 em=none
inductive spMP (vs:List V)(H:Hp)(Q:VK)(E_:XK):Prop where
 |mk (t fa mn:Addr) (ds:List Addr) (qs:List Pa) (v:V) (p:Ph):vs=[.ref t]→PrL H t fa mn ds qs v p→(∀(l:Addr) (rs:List Addr) H',Same H H'→H l=none→H' l=some (.lst (rs.map V.ref))→Al (MdL H H') rs qs→Q (.ref l) H')→spMP vs H Q E_
section
variable {P:Program}{w:World}{K:PySem.W.Frag}{mg:Str→Option Value}{base:Heap}{f:Addr}{fd:FuncData}
abbrev s_items:Stmt:=top 2
abbrev s_body:Stmt:=top 3
abbrev s_mp:Stmt:=top 6
theorem sc_items:FnScope ["items","sort"] ["items","sort"] (defScope s_items):=⟨rfl,rfl,rfl,by decide+kernel,rfl,by decide+kernel,by decide+kernel⟩
theorem sc_body:FnScope ["declaration"] ["declaration"] (defScope s_body):=⟨rfl,rfl,rfl,by decide+kernel,rfl,by decide+kernel,by decide+kernel⟩
theorem sc_mp:FnScope ["program","makers","told","declaration","maker"] ["program"] (defScope s_mp):=⟨rfl,rfl,rfl,by decide+kernel,rfl,by decide+kernel,by decide+kernel⟩
set_option maxHeartbeats 1000000 in
theorem ok_items (F:Fun K "items_of" "items_of" s_items f fd):FnOk P w K mg base CX0 1 f fd ["items","sort"] spItems:=by
 refine F.ok sc_items (fun cdv A outer s H vs Q E hr h=>?_)
 obtain⟨bd,a1,a2,x1,x2,p1,p2,rfl,hb,⟨v1,h1,_⟩,⟨v2,h2,_⟩,q⟩:=h
 refine⟨_,pss_one (ps_ret (pe_lc (defScope s_items) ["items","sort"] ["sort"] [1] (by decide+kernel) (piT K (pv 0)) (fun C s₀ H₀ ex=>pts_one (pt_cmpR op_eq (pe_ix (ixT K) (pv 0) pe_int) (pv 1))) (fun C s₀ H₀ ex=>pv 0))),?_⟩
 refine⟨_,rfl,bd,rfl,⟨_,SqT.of hb⟩,comp_tup (xs:=[.ref a1, .ref a2]) (fun i vs H'=>H'=H∧vs=[V.ref a1,V.ref a2].take i) ⟨rfl,rfl⟩ ?_ ?_ ?_⟩
 ·rintro i vs H' hi ⟨rfl,rfl⟩
  exact⟨SqT.of hb,small' (by rw[List.length_take];exact Nat.le_trans (Nat.min_le_right _ _) (by show 2≤_;decide))⟩
 ·rintro i x vs H' hi hx ⟨rfl,rfl⟩
  have:i=0∨i=1:=by simp at hi;omega
  rcases this with rfl|rfl
  ·cases hx
   exact ix_t (a:=a1) (j:=0) rfl h1 rfl ⟨_,rfl,rfl,_,rfl,ite2 (fun _=>⟨_,rfl,nx hi ⟨rfl,rfl⟩⟩) (fun c=>absurd (decide_eq_true rfl) c)⟩
  ·cases hx
   exact ix_t (a:=a2) (j:=0) rfl h2 rfl ⟨_,rfl,rfl,_,rfl,ite2 (fun _=>⟨_,rfl,nx hi ⟨rfl,rfl⟩⟩) (fun c=>absurd (decide_eq_true rfl) c)⟩
 ·rintro vs H' ⟨rfl,rfl⟩ l hl
  exact q l _ (same_new hl _) hl upd_same
theorem ok_body (F:Fun K "body_of" "body_of" s_body f fd):FnOk P w K mg base CX0 1 f fd ["declaration"] spBody:=by
 refine F.ok sc_body (fun cdv A outer s H vs Q E hr h=>?_)
 obtain⟨d,x,y,a1,a2,rfl,hd,q⟩:=h
 refine⟨_,pss_one (ps_ret (pe_ifExp (pt_cmpR op_eq (pe_ix (ixT K) (pv 0) pe_int) pe_str) (pe_slice (slT K) (pv 0) (po_some pe_int) po_none) (pe_slice (slT K) (pv 0) (po_some pe_int) po_none))),?_⟩
 refine ix_t (a:=d) (j:=0) rfl hd rfl ⟨rfl,_,rfl,?_⟩
 rw[decide_eq_false (fun z=>w_sorts.2.1.2.1 (V.str.inj z))]
 refine iteF ⟨_,rfl,3,rfl,d,_,rfl,SqT.of hd,(by rintro⟨z,_⟩;exact absurd z (by show ¬HT.sIx 5 0 (some 3)=0;decide)),fun b hb=>?_⟩
 exact q b _ (same_new hb _) hb upd_same
set_option maxHeartbeats 2000000 in
theorem ok_mp (F:Fun K "made_parts" "made_parts" s_mp f fd)(h1:Has P w K mg base 1 "named" ["program","sort"] spNamed)(h2:Has P w K mg base 1 "body_of" ["declaration"] spBody):FnOk P w K mg base CX0 2 f fd ["program"] spMP:=by
 refine F.ok sc_mp (fun cdv A outer s H vs Q E hr h=>?_)
 obtain⟨t,fa,mn,ds,qs,v,p,rfl,pr,q⟩:=h
 refine⟨_,pss_cons (pset 1 sc_mp.nd (pcall h1 hr (by decide) rfl (pa_cons (pv 0) (pa_cons pe_str pa_nil))))
  (pss_cons (pset 2 sc_mp.nd (pe_lst pa_nil))
  (pss_cons (ps_for PassesOwn.never rfl (piT K (pv 0)) (pg_name (i:=3) sc_mp.nd rfl (Or.inl rfl)) (pss_one (ps_if (pt_cmpR op_eq (pe_ix (ixT K) (pv 3) pe_int) pe_str) (pss_one (ps_expr (papp K (pv 2) (pa_cons (pe_tup (pa_cons (pe_ix (ixT K) (pv 3) pe_int) (pa_cons (pcall h2 hr (by decide) rfl (pa_cons (pv 3) pa_nil)) (pa_cons pe_dnewK pa_nil)))) pa_nil)))) (pss_one (ps_if (pt_cmpR op_eq (pe_ix (ixT K) (pv 3) pe_int) pe_str) (pss_cons ps_never (pss_one ps_never)) pss_nil)))))
  (pss_one (ps_ret (pv 2))))),?_⟩
 refine⟨_,rfl,t,_,"maker",rfl,pr.ds, .inr rfl,fun a H1 s1 ha0 ha=>?_⟩
 refine⟨(sml 0),fun l hl=>?_⟩
 have s2:=same_new hl (.lst [])
 have b2:(upd H1 l (.lst [])) l=some (.lst []):=upd_same
 have hl0:=s1.free hl
 revert s2 b2
 generalize upd H1 l (.lst [])=H2
 intro s2 b2
 have s02:=s1.trans s2
 refine⟨_,rfl,t,rfl,⟨_,SqT.of (pr.same s02).tp⟩,?_⟩
 obtain⟨⟨f1,f2,f3,f4⟩,⟨p1,p2,p3⟩,m1,m2,m3,m4⟩:=w_sorts
 refine for_tup (xs:=(fa::(ds++[mn])).map V.ref) (fun i σ H'=>(∃o3,σ=[some (.ref t),some (.ref a),some (.ref l),o3,none])∧∃rs:List Addr,H' l=some (.lst (rs.map V.ref))∧Al (MdL H H') rs (qs.take (i-1))∧Same H H') ⟨⟨_,rfl⟩,[],b2,by simpa using Al.nil,s02⟩ ?_ ?_ ?_
 ·rintro i σ H' _ ⟨⟨o3,rfl⟩,rs,_,_,s'⟩
  exact SqT.of (pr.same s').tp
 ·rintro i x σ H' hx ⟨⟨o3,rfl⟩,rs,hl',al,s'⟩
  have pr':=pr.same s'
  rw[List.getElem?_map]at hx
  cases i with
  |zero=>
   cases hx
   obtain⟨fx,hf,_⟩:=pr'.fc
   refine ix_t (a:=fa) (j:=0) rfl hf rfl ⟨rfl,_,rfl,?_⟩
   rw[decide_eq_false (fun z=>f4 (V.str.inj z))]
   refine iteF (ix_t (a:=fa) (j:=0) rfl hf rfl ⟨rfl,_,rfl,?_⟩)
   rw[decide_eq_false (fun z=>f3 (V.str.inj z))]
   exact iteF ⟨⟨_,rfl⟩,rs,hl',al,s'⟩
  |succ i=>
   rw[List.getElem?_cons_succ]at hx
   by_cases c:i<ds.length
   ·rw[List.getElem?_append_left c,List.getElem?_eq_getElem c]at hx
    cases hx
    obtain⟨qq,hq,fc,a1,a2,hd,hv1,hv2⟩:=pr'.pa.get (List.getElem?_eq_getElem c)
    refine ix_t (a:=ds[i]) (j:=0) rfl hd rfl ⟨rfl,_,rfl,ite2 (fun _=>?_) (fun c=>absurd (decide_eq_true rfl) c)⟩
    refine⟨_,rfl, .inl ⟨rfl,_,SqL.of hl'⟩,ix_t (a:=ds[i]) (j:=1) rfl hd rfl ⟨_,rfl,ds[i],_,_,a1,a2,rfl,hd,fun b H3 s3 hb0 hb=>?_⟩⟩
    refine fun em hem=>?_
    have s4:=same_new hem (.dK [])
    have b4:(upd H3 em (.dK [])) em=some (.dK []):=upd_same
    revert s4 b4
    generalize upd H3 em (.dK [])=H4
    intro s4 b4
    refine⟨sml 3,fun r hr'=>?_⟩
    have s5:=same_new hr' (.tup [.str qq.g, .ref b, .ref em])
    have b5:(upd H4 r (.tup [.str qq.g, .ref b, .ref em])) r=some (.tup [.str qq.g, .ref b, .ref em]):=upd_same
    revert s5 b5
    generalize upd H4 r (.tup [.str qq.g, .ref b, .ref em])=H5
    intro s5 b5
    have s35:=s3.trans (s4.trans s5)
    have hl5:=s35 _ _ hl'
    have lr:rs.length≤10:=by
     have:=al.1
     have:=pr.len
     have:=pr.pa.1
     rw[List.length_take]at*
     omega
    refine⟨l,_,_,rfl,rfl,hl5,small' (by rw[List.length_map];omega),⟨⟨_,rfl⟩,rs++[r],?_,?_,?_⟩⟩
    ·rw[List.map_append];exact upd_same
    ·have kt:Tup5 H' (upd H5 l (.lst (rs.map V.ref++[.ref r]))):=fun b ys h=>by rw[upd_ne (ne_of (s35 _ _ h) hl5 (by intro z;cases z))];exact s35 _ _ h
     have k5:∀b o,(∀xs,o≠.lst xs)→H5 b=some o→(upd H5 l (.lst (rs.map V.ref++[.ref r]))) b=some o:=fun b o no h=>by rw[upd_ne (ne_of h hl5 (fun z=>no _ z))];exact h
     have e1:qs.take (i+1+1-1)=qs.take (i+1-1)++[qq]:=by
      show qs.take (i+1)=qs.take i++[qq]
      rw[List.take_succ,hq];rfl
     rw[e1]
     refine(al.mono fun r' q' hm=>?_).snoc ⟨b,em,k5 _ _ (fun _ z=>by cases z) b5,⟨a1,a2,k5 _ _ (fun _ z=>by cases z) (s5 _ _ (s4 _ _ hb)),hv1.tps kt,hv2.tps kt⟩,k5 _ _ (fun _ z=>by cases z) (s5 _ _ b4),s'.free (s3.free hem)⟩
     obtain⟨bd,em',r1,r2,r3,r4⟩:=hm
     exact⟨bd,em',kt _ _ r1,r2.tps kt,k5 _ _ (fun _ z=>by cases z) (s35 _ _ r3),r4⟩
    ·exact fun b o h=>by rw[upd_ne (ne_of_none h hl0)];exact s35 _ _ (s' _ _ h)
   ·rw[List.getElem?_append_right (by omega)]at hx
    have hi:i-ds.length=0:=by
     cases e:i-ds.length with
     |zero=>rfl
     |succ n=>rw[e]at hx;cases hx
    rw[hi]at hx
    cases hx
    refine ix_t (a:=mn) (j:=0) rfl pr'.mn rfl ⟨rfl,_,rfl,?_⟩
    rw[decide_eq_false (fun z=>m4 (V.str.inj z))]
    refine iteF (ix_t (a:=mn) (j:=0) rfl pr'.mn rfl ⟨rfl,_,rfl,?_⟩)
    rw[decide_eq_false (fun z=>m3 (V.str.inj z))]
    refine iteF ⟨⟨_,rfl⟩,rs,hl',?_,s'⟩
    have l1:=pr.pa.1
    rw[List.take_of_length_le (by omega)]at al ⊢
    exact al
 ·rintro σ H' ⟨⟨o3,rfl⟩,rs,hl',al,s'⟩
  rw[List.take_of_length_le (by have:=pr.pa.1;simp;omega)]at al
  exact⟨_,rfl,q l rs H' s' hl0 hl' al⟩
end
def evPa (most:Int)(m:Nat)(q:Pa)(E0:En)(c:Nat):Option ((Int×Int) ⊕ Ot)×Nat:=match ev most m q.p1 E0 c 0 with
 |some (.val i,c1)=>match ev most m q.p2 ((q.x1,i)::E0) c1 0 with
  |some (.val j,c2)=>(some (.inl (i,j)),c2)
  |some (.out o,c2)=>(some (.inr o),c2)
  |none=>(none,0)
 |some (.out o,c1)=>(some (.inr o),c1)
 |none=>(none,0)
def paE (q:Pa)(i j:Int)(E:En):En:=(pth q.g q.x2,j)::(pth q.g q.x1,i)::E
def evPs (most:Int)(m:Nat):List Pa→En→Nat→Option (En ⊕ Ot)×Nat
 |[],E,c=>(some (.inl E),c)
 |q::r,E,c=>match evPa most m q E c with
  |(some (.inl (i,j)),c')=>evPs most m r (paE q i j E) c'
  |(some (.inr o),c')=>(some (.inr o),c')
  |(none,_)=>(none,0)
structure PaOk (x1 x2:Str)(q:Pa):Prop where
 e1:q.x1=x1
 e2:q.x2=x2
 k1:PtOk (pth q.g x1) q.g x1
 k2:PtOk (pth q.g x2) q.g x2
inductive spVo (C:CA)(vs:List V)(H:Hp)(Q:VK)(E:XK):Prop where
 |mk (a:WA) (bd em:Addr) (q:Pa) (E0:En) (x1 x2:Str) (m:Nat) (most:Int) (c:Nat) (r:(Int×Int) ⊕ Ot) (c':Nat):vs=[.ref a.m, .ref bd, .ref em]→WM C.W H a [] []→CM C.C H a most c 0→PVL x1 x2 H a.pv E0→BdL H bd q→H em=some (.dK [])→evPa most m q E0 c=(some r,c')→m≤10000→E0.length≤800→(∀i j,r=.inl (i,j)→∀(d:Addr) H',H d=none→WM C.W H' a [] []→CM C.C H' a most c' 0→LE H' d [(q.x2,j),(q.x1,i)]→Kc a H H'→Q (.ref d) H')→(∀o,r=.inr o→∀ea H',Kc a H H'→E (.ref (outA C o)) (some ea) H')→spVo C vs H Q E
abbrev s_vo:Stmt:=top 63
abbrev nVo:List Str:=["worker","body","names","told","val"]
theorem sc_vo:FnScope nVo ["worker","body","names"] (defScope s_vo):=⟨rfl,rfl,rfl,by decide+kernel,rfl,by decide+kernel,by decide+kernel⟩
section
variable {P:Program}{w:World}{K:PySem.W.Frag}{mg:Str→Option Value}{base:Heap}{f fK:Addr}{C:CA}{fd gK:FuncData}{cdv:Value}{A:Around}{outer:List Env}{s:Shared}{H0:Hp}{E:XK}
abbrev forVo (i:Nat):Stmt:=match(defBody s_vo).getD 1 (.Pass ⟨0,0,0,0⟩) with|.For _ _ b _ _=>b.getD i (.Pass ⟨0,0,0,0⟩)|_=>.Pass ⟨0,0,0,0⟩
abbrev VX (P:Program)(w:World)(K:PySem.W.Frag)(mg:Str→Option Value)(base:Heap)(f:Addr)(cdv:Value)(A:Around)(outer:List Env)(s:Shared)(H:Hp)(E:XK):Cx:=cxOf (CXF P w) P w K mg base nVo "vals_of" (defScope s_vo) f cdv A outer s H E
def tVo (C:CA)(E:XK):TS:=fun D σ H=>∃(a:WA) (v1:V) (dn dt va:Addr) (x:Str) (p:Ph) (e et E0:En) (x1 x2:Str) (m:Nat) (most:Int) (c:Nat) (r:Rs) (c' c0:Nat) (H0:Hp) (l:Addr) (ls:List V),H l=some (.lst ls)∧l≠a.pl∧l≠a.st∧σ=[some (.ref a.m),some v1,some (.ref dn),some (.ref dt),some (.ref va)]∧VaL H va x p∧WM C.W H a [] []∧CM C.C H a most c 0∧WM C.W H0 a [] []∧CM C.C H0 a most c0 0∧PVL x1 x2 H0 a.pv E0∧Kc a H0 H∧H0 dt=none∧LE H dt et∧et.length≤10∧EnP E0 H dn e∧dn≠dt∧e.length≤900∧ev most m p e c 0=some (r,c')∧m≤10000∧
 (∀i,r=.val i→∀(dn':Addr) H',WM C.W H' a [] []→CM C.C H' a most c' 0→Kc a H0 H'→LE H' dt ((x,i)::et)→EnP E0 H' dn' ((x,i)::e)→dn'≠dt→H' l=some (.lst ls)→D.nx [some (.ref a.m),some v1,some (.ref dn'),some (.ref dt),some (.ref va)] H')∧∀o,r=.out o→∀ea H',Kc a H0 H'→E (.ref (outA C o)) (some ea) H'
set_option maxHeartbeats 2000000 in
theorem ps_vo (hr:Room 8 (A.deeper (envOfC "vals_of" (defScope s_vo) s.heap.objs.size f cdv)))(nCF:C.C≠C.F)(hW:Has P w K mg base 1 "with_names" pWN spWN)(GK:FnOk P w K mg base (CXF P w) 8 fK gK pWp (spWko C))(mK:mg "worked_out"=some (.ref fK))(kK:PySem.W.keepIn K (.ref fK)=true)(bK:Binds K gK pWp []):PSsx (VX P w K mg base f cdv A outer s H0 E) [forVo 0,forVo 1] (tVo C E):=by
 have hu:=hu_of hr
 refine x_weaks (x_cons ⟨ps_dput hu (pv 3) (pe_ix (ixT K) (pv 4) pe_int) (pe_call (E:=E) GK hr rfl mK kK bK .nil passes_up (pa_cons (pv 0) (pa_cons (pe_ix (ixT K) (pv 4) pe_int) (pa_cons (pv 2) pa_nil)))) rfl⟩
  (x_one ⟨pset 2 sc_vo.nd (pcall hW hr (by decide) rfl (pa_cons (pv 2) (pa_cons (pe_lst (pa_cons (pe_ix (ixT K) (pv 4) pe_int) pa_nil)) (pa_cons (pe_lst (pa_cons (pe_dget hu (pv 3) (pe_ix (ixT K) (pv 4) pe_int)) pa_nil)) pa_nil))))⟩)) ?_
 rintro D σ H ⟨a,v1,dn,dt,va,x,p,e,et,E0,x1,x2,m,most,c,r,c',c0,H0,l,ls,hll,nl1,nl2,rfl,⟨vv,hva,hp,nx⟩,M,Cm,M0,C0,pvl,k0,hdt,hle,let10,hen,ndn,l900,hev,lm,q1,q2⟩
 have kv0:=M0.kv C0 nCF k0
 refine⟨_,rfl,ix_t (a:=va) (j:=2) rfl hva rfl ⟨_,rfl, .mk a vv dn p e m most c r c' E0 x1 x2 rfl M Cm (pvl.dks kv0.d) hp hen hev lm (fun i hi h6 H1 M1 C1 k1=>?_) (fun o ho ea H1 k1=>q2 o ho ea H1 (k0.trans k1))⟩⟩
 have kv1:=M.kv Cm nCF k1
 have hva1:=kv1.t _ _ hva
 obtain⟨kt,t1,t2,t3,t4⟩:=hle
 have t1':=kv1.d _ _ t1
 refine⟨_,rfl,ix_t (a:=va) (j:=1) rfl hva1 rfl ⟨dt,_,rfl,DPut.k (k:=Sum.inr x) t1' (small' (by omega)),?_⟩⟩
 have ndt:∀{b:Addr} {o:HO},H0 b=some o→b≠dt:=fun h=>ne_of_none h hdt
 have hw2:WM C.W (upd H1 dt (.dK (putK kt (Sum.inr x) (.int i)))) a [] []:=⟨by rw[upd_ne (ndt M0.ob)];exact M1.ob,by rw[upd_ne (ndt M0.hp)];exact M1.hp,by rw[upd_ne (ndt M0.hs)];exact M1.hs,M1.nd⟩
 have hc2:CM C.C (upd H1 dt (.dK (putK kt (Sum.inr x) (.int i)))) a most c' 0:=by
  obtain⟨dx,h⟩:=C1
  obtain⟨dx0,h0⟩:=C0
  exact⟨dx,by rw[upd_ne (ndt h0)];exact h⟩
 have k2:Kc a H0 (upd H1 dt (.dK (putK kt (Sum.inr x) (.int i)))):=fun b o n1 n2 n3 h=>by rw[upd_ne (ndt h)];exact k1 _ _ n1 n2 n3 (k0 _ _ n1 n2 n3 h)
 have b2:(upd H1 dt (.dK (putK kt (Sum.inr x) (.int i)))) dt=some (.dK (putK kt (Sum.inr x) (.int i))):=upd_same
 have l2:LE (upd H1 dt (.dK (putK kt (Sum.inr x) (.int i)))) dt ((x,i)::et):=le_put t2 t3 t4 h6 upd_same
 have hva2:(upd H1 dt (.dK (putK kt (Sum.inr x) (.int i)))) va=some (.tup [.str "val", .str x,vv]):=by rw[upd_ne (ne_of hva1 t1' (by intro z;cases z))];exact hva1
 obtain⟨e1,he,⟨kn,n1,n2,n3,n4⟩,hk1⟩:=hen.mono kv1
 have n1':(upd H1 dt (.dK (putK kt (Sum.inr x) (.int i)))) dn=some (.dK kn):=by rw[upd_ne ndn];exact n1
 have hl1:H1 l=some (.lst ls):=k1 _ _ nl1 nl2 (by obtain⟨_,z⟩:=Cm;exact ne_of hll z (by intro z;cases z)) hll
 have hl2:(upd H1 dt (.dK (putK kt (Sum.inr x) (.int i)))) l=some (.lst ls):=by rw[upd_ne (ne_of hl1 t1' (by intro z;cases z))];exact hl1
 revert hw2 hc2 k2 b2 l2 hva2 n1' hl2
 generalize upd H1 dt (.dK (putK kt (Sum.inr x) (.int i)))=H2
 intro hw2 hc2 k2 b2 l2 hva2 n1' hl2
 refine⟨_,rfl,ix_t (a:=va) (j:=1) rfl hva2 rfl ⟨sml 1,fun lw hlw=>?_⟩⟩
 have s3:=same_new hlw (.lst [.str x])
 have b3:(upd H2 lw (.lst [.str x])) lw=some (.lst [.str x]):=upd_same
 revert s3 b3
 generalize upd H2 lw (.lst [.str x])=H3
 intro s3 b3
 refine⟨_,rfl,ix_t (a:=va) (j:=1) rfl (s3 _ _ hva2) rfl ⟨dt, .int i,rfl, .inl ⟨_,Sum.inr x, .inl (s3 _ _ b2),rfl,by rw[valV_put,if_pos rfl]⟩,sml 1,fun lv hlv=>?_⟩⟩
 have s4:=same_new hlv (.lst [.int i])
 have l1:e1.length≤900:=by rw[he,List.length_append]at l900;omega
 refine .mk true dn lw lv kn x (.int i) rfl (s4 _ _ (s3 _ _ n1')) (by omega) (s4 _ _ b3) upd_same fun dn' H5 s5 hdn0 hdn=>?_
 have s25:=s3.trans (s4.trans s5)
 refine q1 i hi dn' H5 (hw2.same s25) (hc2.kq hw2 (kq_same s25)) (k2.trans (kq_same s25).c) (l2.dks fun kvs h=>s25 _ _ h) ⟨(x,i)::e1,by rw[he];rfl,le_put n2 n3 n4 h6 hdn,fun y hy=>?_⟩ (fun z=>?_) (s25 _ _ hl2)
 ·cases hy with
  |head=>exact nx
  |tail _ hy=>exact hk1 y hy
 ·rw[z]at hdn0
  rw[s4 _ _ (s3 _ _ b2)]at hdn0
  cases hdn0
set_option maxHeartbeats 2000000 in
theorem ok_vo (F:Fun K "vals_of" "vals_of" s_vo f fd)(nCF:C.C≠C.F)(hI:Has P w K mg base 1 "items_of" ["items","sort"] spItems)(hW:Has P w K mg base 1 "with_names" pWN spWN)(GK:FnOk P w K mg base (CXF P w) 8 fK gK pWp (spWko C))(mK:mg "worked_out"=some (.ref fK))(kK:PySem.W.keepIn K (.ref fK)=true)(bK:Binds K gK pWp []):FnOk P w K mg base (CXF P w) 9 f fd ["worker","body","names"] (spVo C):=by
 refine F.okX sc_vo (fun cdv A outer s H vs Q E hr h=>?_)
 obtain⟨a,bd,em,q,E0,x1,x2,m,most,c,r,c',rfl,M,Cm,pvl,⟨a1,a2,hbd,hv1,hv2⟩,hem,hev,lm,l8,q1,q2⟩:=h
 have l9:E0.length≤900:=Nat.le_trans l8 (by decide)
 refine⟨_,pss_cons (pset 3 sc_vo.nd pe_dnewK) (pss_cons (x_for (X:=VX P w K mg base f cdv A outer s H E) PassesOwn.leaving rfl (piL K (pcall hI hr (by decide) rfl (pa_cons (pv 1) (pa_cons pe_str pa_nil)))) (pg_name (i:=4) sc_vo.nd rfl (Or.inl rfl)) (ps_vo hr nCF hW GK mK kK bK)).h (pss_one (ps_ret (pv 3)))),?_⟩
 refine fun dt hdt=>?_
 have s1:=same_new hdt (.dK [])
 have b1:(upd H dt (.dK [])) dt=some (.dK []):=upd_same
 revert s1 b1
 generalize upd H dt (.dK [])=H1
 intro s1 b1
 refine⟨_,rfl,bd,a1,a2,q.x1,q.x2,q.p1,q.p2,rfl,s1 _ _ hbd,hv1.tps (fun b ys h=>s1 _ _ h),hv2.tps (fun b ys h=>s1 _ _ h),fun l H2 s2 hl0 hl=>⟨l,rfl,⟨_,SqL.of hl⟩,?_⟩⟩
 have s02:=s1.trans s2
 have b2:=s2 _ _ b1
 have hlH:H l=none:=s1.free hl0
 have nl1:l≠a.pl:=Ne.symm (ne_of_none M.hp hlH)
 have nl2:l≠a.st:=Ne.symm (ne_of_none M.hs hlH)
 have C2:CM C.C H2 a most c 0:=Cm.kq M (kq_same s02)
 have tp:∀{H'},Kc a H H'→Tup5 H H':=fun k=>(M.kv Cm nCF k).t
 unfold evPa at hev
 cases h1:ev most m q.p1 E0 c 0 with
 |none=>rw[h1]at hev;cases hev
 |some rc=>
 obtain⟨r1,c1⟩:=rc
 rw[h1]at hev
 let Pv:Nat→L2.St→Hp→Prop:=fun i σ H'=>∃(dn:Addr) (o4:Option V),σ=[some (.ref a.m),some (.ref bd),some (.ref dn),some (.ref dt),o4]∧Kc a H H'∧H' l=some (.lst [.ref a1, .ref a2])∧WM C.W H' a [] []∧dn≠dt∧((i=0∧CM C.C H' a most c 0∧LE H' dt []∧EnP E0 H' dn E0)∨(i=1∧∃z1,r1=.val z1∧CM C.C H' a most c1 0∧LE H' dt [(q.x1,z1)]∧EnP E0 H' dn ((q.x1,z1)::E0))∨(i=2∧∃z1 z2,r=.inl (z1,z2)∧CM C.C H' a most c' 0∧LE H' dt [(q.x2,z2),(q.x1,z1)]))
 refine for_list (xs:=[.ref a1, .ref a2]) Pv ⟨em,none,rfl,(kq_same s02).c,hl,M.same s02,ne_of_none hem hdt, .inl ⟨rfl,C2,le_nil b2,[],rfl,le_nil (s02 _ _ hem),fun y hy=>by cases hy⟩⟩ ?_ ?_ ?_
 ·rintro i σ H' _ ⟨dn,o4,rfl,k,hl',_⟩
  exact SqL.of hl'
 ·rintro i x σ H' hx ⟨dn,o4,rfl,k,hl',M',ndn,h|h|h⟩
  ·obtain⟨rfl,C',le',en'⟩:=h
   cases hx
   refine⟨a,_,dn,dt,a1,q.x1,q.p1,E0,[],E0,x1,x2,m,most,c,r1,c1,c,H,l,_,hl',nl1,nl2,rfl,hv1.tps (tp k),M',C',M,Cm,pvl,k,hdt,le',by decide,en',ndn,l9,h1,lm,fun z1 hz dn' H3 M3 C3 k3 l3 e3 n3 hl3=>?_,fun o ho ea H3 k3=>?_⟩
   ·exact⟨dn',_,rfl,k3,hl3,M3,n3, .inr (.inl ⟨rfl,z1,hz,C3,l3,e3⟩)⟩
   ·rw[ho]at hev
    cases hev
    exact q2 o rfl ea H3 k3
  ·obtain⟨rfl,z1,hz,C',le',en'⟩:=h
   cases hx
   rw[hz]at hev
   dsimp only at hev
   cases h2:ev most m q.p2 ((q.x1,z1)::E0) c1 0 with
   |none=>rw[h2]at hev;cases hev
   |some rc2=>
   obtain⟨r2,c2⟩:=rc2
   rw[h2]at hev
   refine⟨a,_,dn,dt,a2,q.x2,q.p2,(q.x1,z1)::E0,[(q.x1,z1)],E0,x1,x2,m,most,c1,r2,c2,c,H,l,_,hl',nl1,nl2,rfl,hv2.tps (tp k),M',C',M,Cm,pvl,k,hdt,le',by show 1≤10;decide,en',ndn,by rw[List.length_cons];omega,h2,lm,fun z2 hz2 dn' H3 M3 C3 k3 l3 e3 n3 hl3=>?_,fun o ho ea H3 k3=>?_⟩
   ·rw[hz2]at hev
    cases hev
    exact⟨dn',_,rfl,k3,hl3,M3,n3, .inr (.inr ⟨rfl,z1,z2,rfl,C3,l3⟩)⟩
   ·rw[ho]at hev
    cases hev
    exact q2 o rfl ea H3 k3
  ·obtain⟨rfl,_⟩:=h
   cases hx
 ·rintro σ H' ⟨dn,o4,rfl,k,hl',M',ndn,h|h|h⟩
  ·cases h.1
  ·cases h.1
  ·obtain⟨_,z1,z2,hr',C',le'⟩:=h
   exact⟨_,rfl,q1 z1 z2 hr' dt H' hdt M' C' le' k⟩
end
def Ke (a:WA)(H H':Hp):Prop:=∀b o,b≠a.pl→b≠a.st→b≠a.cl→b≠a.pv→H b=some o→H' b=some o
theorem Kc.d {a:WA}{H H':Hp}(k:Kc a H H'):Ke a H H':=fun b o n1 n2 n3 _ h=>k b o n1 n2 n3 h
theorem Ke.trans {a:WA}{H H1 H2:Hp}(h:Ke a H H1)(k:Ke a H1 H2):Ke a H H2:=fun b o n1 n2 n3 n4 e=>k b o n1 n2 n3 n4 (h b o n1 n2 n3 n4 e)
theorem kd_upd {a:WA}{H:Hp}{o:HO}:Ke a H (upd H a.pv o):=fun b u _ _ _ n h=>by rw[upd_ne n];exact h
theorem lkI_c (x:Str)(i:Int)(l:En)(y:Str):lkI ((x,i)::l) y=if y=x then some i else lkI l y:=rfl
theorem pvl_put {x1 x2:Str}{H H':Hp}{pv d:Addr}{E0:En}{q:Pa}{i j:Int}{kp:List (Key×V)}(h:PVL x1 x2 H pv E0)(hk:H pv=some (.dK kp))(ok:PaOk x1 x2 q)(s:∀b kvs,b≠pv→H b=some (.dK kvs)→H' b=some (.dK kvs))(hd:LE H' d [(q.x2,j),(q.x1,i)])(nd:d≠pv)(hp:H' pv=some (.dK (putK kp (Sum.inr q.g) (.ref d)))):PVL x1 x2 H' pv (paE q i j E0):=by
 obtain⟨kp',h1,h2,h3⟩:=h
 rw[hk]at h1
 cases h1
 refine⟨_,hp,Nat.le_trans (length_putK _ _ _) (by show _≤E0.length+1+1;omega),fun t z hz=>?_⟩
 unfold paE at hz
 rw[lkI_c,lkI_c,ok.e1,ok.e2]at hz
 by_cases c2:t=pth q.g x2
 ·rw[if_pos c2]at hz
  cases hz
  exact⟨q.g,x2,d,_, .inr rfl,c2,by rw[c2];exact ok.k2,by rw[valV_put,if_pos rfl],nd,hd,by rw[ok.e2,lkI_c,if_pos rfl]⟩
 ·rw[if_neg c2]at hz
  by_cases c1:t=pth q.g x1
  ·rw[if_pos c1]at hz
   cases hz
   refine⟨q.g,x1,d,_, .inl rfl,c1,by rw[c1];exact ok.k1,by rw[valV_put,if_pos rfl],nd,hd,?_⟩
   rw[ok.e1,ok.e2,lkI_c,if_neg (fun z=>c2 (by rw[c1,z])),lkI_c,if_pos rfl]
  ·rw[if_neg c1]at hz
   obtain⟨g,v,dv,e',a1,a2,a3,a4,a0,a5,a6⟩:=h3 t z hz
   have ng:g≠q.g:=fun e=>by
    rcases a1 with e'|e'
    ·exact c1 (by rw[a2,e,e'])
    ·exact c2 (by rw[a2,e,e'])
   exact⟨g,v,dv,e',a1,a2,a3,by rw[valV_put,if_neg (fun z=>ng (Sum.inr.inj z))];exact a4,a0,a5.dks fun kvs h=>s _ _ a0 h,a6⟩
inductive spWP (C:CA)(vs:List V)(H:Hp)(Q:VK)(E:XK):Prop where
 |mk (a:WA) (l:Addr) (rs:List Addr) (qs:List Pa) (x1 x2:Str) (m:Nat) (most:Int) (r:En ⊕ Ot) (c':Nat) (Hb:Hp):vs=[.ref a.m, .ref l]→WM C.W H a [] []→CM C.C H a most 0 0→H a.pv=some (.dK [])→Hb a.pv=some (.dK [])→l≠a.pl→l≠a.st→H l=some (.lst (rs.map V.ref))→Al (MdL Hb H) rs qs→(∀q∈qs,PaOk x1 x2 q)→evPs most m qs [] 0=(some r,c')→m≤10000→qs.length≤10→(∀E',r=.inl E'→∀H',WM C.W H' a [] []→CM C.C H' a most c' 0→PVL x1 x2 H' a.pv E'→Ke a H H'→Q .non H')→(∀o,r=.inr o→∀ea H',Ke a H H'→E (.ref (outA C o)) (some ea) H')→spWP C vs H Q E
section
variable {P:Program}{w:World}{K:PySem.W.Frag}{mg:Str→Option Value}{base:Heap}{f fV:Addr}{C:CA}{fd gV:FuncData}
abbrev s_wp:Stmt:=top 64
abbrev nWp:List Str:=["worker","parts","name","body","givers"]
theorem sc_wp:FnScope nWp ["worker","parts"] (defScope s_wp):=⟨rfl,rfl,rfl,by decide+kernel,rfl,by decide+kernel,by decide+kernel⟩
set_option maxHeartbeats 4000000 in
theorem ok_wp (F:Fun K "work_out_parts" "work_out_parts" s_wp f fd)(Tx:TxW K C.W)(nCF:C.C≠C.F)(GV:FnOk P w K mg base (CXF P w) 9 fV gV ["worker","body","names"] (spVo C))(mV:mg "vals_of"=some (.ref fV))(kV:PySem.W.keepIn K (.ref fV)=true)(bV:Binds K gV ["worker","body","names"] []):FnOk P w K mg base (CXF P w) 10 f fd ["worker","parts"] (spWP C):=by
 refine F.okX sc_wp (fun cdv A outer s H vs Q E hr h=>?_)
 have hu:=hu_of hr
 obtain⟨a,l,rs,qs,x1,x2,m,most,r,c',Hb,rfl,M,Cm,hpv,hpb,nl1,nl2,hl,al,pok,hev,lm,lq,q1,q2⟩:=h
 refine⟨_,pss_one (ps_for PassesOwn.leaving rfl (piL K (pv 1)) (pgT K (n:=3) rfl (pgs_cons (pg_name (i:=2) sc_wp.nd rfl (Or.inl rfl)) (pgs_cons (pg_name (i:=3) sc_wp.nd rfl (Or.inl rfl)) (pgs_cons (pg_name (i:=4) sc_wp.nd rfl (Or.inl rfl)) pgs_nil)))) (pss_one (ps_dput hu (fldK K (pv 0) rfl) (pv 2) (pe_call (E:=E) GV hr rfl mV kV bV .nil passes_up (pa_cons (pv 0) (pa_cons (pv 3) (pa_cons (pv 4) pa_nil)))) rfl))),?_⟩
 refine⟨_,rfl,l,rfl,⟨_,SqL.of hl⟩,?_⟩
 obtain⟨dxc,hcl⟩:=id Cm
 have npl:a.pv≠a.pl:=ne_of hpv M.hp (by intro z;cases z)
 have nps:a.pv≠a.st:=ne_of hpv M.hs (by intro z;cases z)
 have npc:a.pv≠a.cl:=ne_of hpv hcl (by intro z;cases z)
 have npm:a.pv≠a.m:=ne_of hpv M.ob (by intro z;cases z)
 have nlp:l≠a.pv:=ne_of hl hpv (by intro z;cases z)
 have nlc:l≠a.cl:=ne_of hl hcl (by intro z;cases z)
 have tup:∀{H'},Ke a H H'→Tup5 H H':=fun k b ys h=>k _ _ (ne_of h M.hp (by intro z;cases z)) (ne_of h M.hs (by intro z;cases z)) (ne_of h hcl (by intro z;cases z)) (ne_of h hpv (by intro z;cases z)) h
 refine for_list (xs:=rs.map V.ref) (fun i σ H'=>(∃o2 o3 o4,σ=[some (.ref a.m),some (.ref l),o2,o3,o4])∧Ke a H H'∧WM C.W H' a [] []∧∃(Ei:En) (ci:Nat),evPs most m (qs.drop i) Ei ci=(some r,c')∧PVL x1 x2 H' a.pv Ei∧CM C.C H' a most ci 0∧Ei.length≤2*i) ⟨⟨_,_,_,rfl⟩,fun _ _ _ _ _ _ h=>h,M,[],0,hev,⟨[],hpv,Nat.le_refl _,fun t i h=>by cases h⟩,Cm,Nat.le_refl _⟩ ?_ ?_ ?_
 ·rintro i σ H' _ ⟨⟨o2,o3,o4,rfl⟩,k,_⟩
  exact SqL.of (k _ _ nl1 nl2 nlc nlp hl)
 ·rintro i x σ H' hx ⟨⟨o2,o3,o4,rfl⟩,k,M',Ei,ci,he,pvl,C',le⟩
  rw[List.getElem?_map]at hx
  cases e:rs[i]? with
  |none=>rw[e]at hx;cases hx
  |some ra=>
  rw[e]at hx
  cases hx
  obtain⟨qq,hq,bd,em,hr1,hbd,hem,hem0⟩:=al.get e
  have li:i<qs.length:=(List.getElem?_eq_some_iff.mp hq).1
  have nep:em≠a.pv:=fun z=>by rw[z,hpb]at hem0;cases hem0
  have hem':H' em=some (.dK []):=k _ _ (ne_of hem M.hp (by intro z;cases z)) (ne_of hem M.hs (by intro z;cases z)) (ne_of hem hcl (by intro z;cases z)) nep hem
  have hdr:qs.drop i=qq::qs.drop (i+1):=by
   rw[List.drop_eq_getElem_cons li]
   rw[List.getElem?_eq_getElem li]at hq
   cases hq
   rfl
  rw[hdr]at he
  unfold evPs at he
  refine⟨ra,_,rfl,SqT.of (tup k _ _ hr1),rfl,_,_,rfl,_,_,rfl,_,[],rfl,rfl,?_⟩
  cases hp:evPa most m qq Ei ci with
  |mk o1 c1=>
  rw[hp]at he
  cases o1 with
  |none=>cases he
  |some r1=>
  refine⟨_,rfl,_,rfl,_,rfl, .mk a bd em qq Ei x1 x2 m most ci r1 c1 rfl M' C' pvl (hbd.tps (tup k)) hem' hp lm (by omega) (fun z1 z2 hz d H2 hd0 M2 C2 le2 k2=>?_) (fun o ho ea H2 k2=>?_)⟩
  ·subst hz
   dsimp only at he
   obtain⟨kp,hkp,lkp,_⟩:=id pvl
   have kv2:=M'.kv C' nCF k2
   have hkp2:=kv2.d _ _ hkp
   have ndp:d≠a.pv:=fun z=>by rw[z,hkp]at hd0;cases hd0
   refine⟨_,rfl,a.m,C.W,a.dx,_, .ref a.pv,rfl,M2.ob,Tx.cw,Tx.w5,wf5 _ _ _ _ _,_,rfl,a.pv,_,rfl,DPut.k (k:=Sum.inr qq.g) hkp2 (small' (by omega)),?_⟩
   refine⟨⟨_,_,_,rfl⟩,k.trans (k2.d.trans kd_upd),⟨by rw[upd_ne (Ne.symm npm)];exact M2.ob,by rw[upd_ne (Ne.symm npl)];exact M2.hp,by rw[upd_ne (Ne.symm nps)];exact M2.hs,M2.nd⟩,paE qq z1 z2 Ei,c1,he,?_,?_,by show Ei.length+1+1≤_;omega⟩
   ·exact pvl_put pvl hkp (pok qq (List.mem_of_getElem? hq)) (fun b kvs n h=>by rw[upd_ne n];exact kv2.d _ _ h) (le2.dks fun kvs h=>by rw[upd_ne ndp];exact h) ndp upd_same
   ·obtain⟨dx,h⟩:=C2
    exact⟨dx,by rw[upd_ne (Ne.symm npc)];exact h⟩
  ·subst ho
   cases he
   exact q2 o rfl ea H2 (k.trans k2.d)
 ·rintro σ H' ⟨⟨o2,o3,o4,rfl⟩,k,M',Ei,ci,he,pvl,C',le⟩
  rw[List.length_map,al.1,List.drop_length]at he
  unfold evPs at he
  cases he
  exact q1 Ei rfl H' M' C' pvl k
end
def evMain (most:Int)(m:Nat)(qs:List Pa)(p:Ph):Option Rs×Nat:=match evPs most m qs [] 0 with
 |(some (.inl E),c)=>match ev most m p E c 0 with
  |some (r,c')=>(some r,c')
  |none=>(none,0)
 |(some (.inr o),c)=>(some (.out o),c)
 |(none,_)=>(none,0)
inductive spRun (C:CA)(vs:List V)(H:Hp)(Q:VK)(E:XK):Prop where
 |mk (t fa mn:Addr) (ds:List Addr) (qs:List Pa) (v:V) (p:Ph) (x1 x2:Str) (m:Nat) (most:Int) (r:Rs) (c':Nat):vs=[.ref t, .int most]→PrL H t fa mn ds qs v p→(∀q∈qs,PaOk x1 x2 q)→evMain most m qs p=(some r,c')→m≤10000→(∀i,r=.val i→In60 i→∀H',Same H H'→Q (.int i) H')→(∀o,r=.out o→∀ea H',Same H H'→E (.ref (outA C o)) (some ea) H')→spRun C vs H Q E
theorem atI_last {α:Type}(xs:List α)(y:α):atI (xs++[y]) (-1)=some y:=by
 unfold atI ixN
 rw[if_neg (by decide),List.length_append,List.length_singleton,if_pos (by omega)]
 show(xs++[y])[_]?=_
 rw[show(-1+((xs.length+1:Nat):Int)).toNat=xs.length by omega]
 simp
section
variable {P:Program}{w:World}{K:PySem.W.Frag}{mg:Str→Option Value}{base:Heap}{f:Addr}{C:CA}{fd:FuncData}
abbrev s_run:Stmt:=top 65
theorem sc_run:FnScope ["program","most","worker"] ["program","most"] (defScope s_run):=⟨rfl,rfl,rfl,by decide+kernel,rfl,by decide+kernel,by decide+kernel⟩
set_option maxHeartbeats 4000000 in
theorem ok_run {T fI fC fK fP:Addr}{its:Array Value}{gI gC gK gP:FuncData}(F:FunD K "run" "run" s_run f fd T its)(Tx:TxW K C.W)(nCF:C.C≠C.F)(MM:Mk K C.W fI)(GI:FnOk P w K mg base CX0 3 fI gI ["self","program","calls"] (spWork0 C.W))(bI:Binds K gI ["self","program","calls"] [])(hI:mg "Worker"=some (.ref C.W))
  (MC:Mk K C.C fC) (GC:FnOk P w K mg base CX0 1 fC gC ["self","most"] (spCalls C.C)) (bC:Binds K gC ["self","most"] []) (hC:mg "Calls"=some (.ref C.C))
  (GP:FnOk P w K mg base (CXF P w) 10 fP gP ["worker","parts"] (spWP C)) (mP:mg "work_out_parts"=some (.ref fP)) (kP:PySem.W.keepIn K (.ref fP)=true) (bP:Binds K gP ["worker","parts"] []) (h2:Has P w K mg base 2 "made_parts" ["program"] spMP) (h3:HasX P w K mg base 2 "number_of" ["value"] (spNum C.F C.S))
  (GK:FnOk P w K mg base (CXF P w) 8 fK gK pWp (spWko C)) (mK:mg "worked_out"=some (.ref fK)) (kK:PySem.W.keepIn K (.ref fK)=true) (bK:Binds K gK pWp []):FnOk P w K mg base (CXF P w) 11 f fd ["program","most"] (spRun C):=by
 refine F.okX sc_run (by rintro _ _ _ _ ⟨⟩;subst_vars;rfl) (fun cdv A' outer s H vs Q E hr h=>?_)
 obtain⟨t,fa,mn,ds,qs,v,p,x1,x2,m,most,r,c',rfl,pr,pok,hev,lm,q1,q2⟩:=h
 obtain⟨fN,gN,GN,bN,kN,mN⟩:=h3
 refine⟨_,pss_cons (pset 2 sc_run.nd (pe_make MM GI (hr.mono (by decide)) rfl hI bI .nil pass0 (pa_cons (pv 0) (pa_cons (pe_make MC GC (hr.mono (by decide)) rfl hC bC .nil pass0 (pa_cons (pv 1) pa_nil)) pa_nil))))
  (pss_cons (ps_expr (pe_call GP hr rfl mP kP bP .nil passes_up (pa_cons (pv 2) (pa_cons (pcall h2 hr (by decide) rfl (pa_cons (pv 0) pa_nil)) pa_nil))))
  (pss_one (ps_ret (pe_call GN (hr.mono (by decide)) rfl mN kN bN .nil passes_up (pa_cons (pe_call GK (hr.mono (by decide)) rfl mK kK bK .nil passes_up (pa_cons (pv 2) (pa_cons (pe_ix (ixT K) (pe_ix (ixT K) (pv 0) (pe_un un_neg pe_int)) pe_int) (pa_cons pe_dnewK pa_nil)))) pa_nil))))),?_⟩
 refine⟨_,rfl,_,rfl,fun mc dc hmc hdc nmc=>⟨mc,dc, .int most,rfl,upd_same,⟨rfl,fun mm dx hmm hdx nmm=>?_⟩⟩⟩
 have sC:Same H (upd (upd (upd H dc (.own mc)) mc (.ins C.C dc [])) mc (.ins C.C dc (cfl5 (.int most) (.int 0) (.int 0)))):=fun b o h=>by
  rw[upd_ne (ne_of_none h hmc),upd_ne (ne_of_none h hmc),upd_ne (ne_of_none h hdc)];exact h
 have bC':(upd (upd (upd H dc (.own mc)) mc (.ins C.C dc [])) mc (.ins C.C dc (cfl5 (.int most) (.int 0) (.int 0)))) mc=some (.ins C.C dc (cfl5 (.int most) (.int 0) (.int 0))):=upd_same
 revert hmm hdx sC bC'
 generalize upd (upd (upd H dc (.own mc)) mc (.ins C.C dc [])) mc (.ins C.C dc (cfl5 (.int most) (.int 0) (.int 0)))=HC
 intro hmm hdx sC bC'
 have sW:Same HC (upd (upd HC dx (.own mm)) mm (.ins C.W dx [])):=fun b o h=>by
  rw[upd_ne (ne_of_none h hmm),upd_ne (ne_of_none h hdx)];exact h
 refine⟨mm,dx,t,mc,_,rfl,upd_same,(pr.same (sC.trans sW)).ds,fun a H1 ea ecl M1 k1 n1 n2 n3 hpv1=>⟨rfl,?_⟩⟩
 subst ea
 have s1:Same H H1:=fun b o h=>k1 b o (ne_of_none (sC b o h) hmm) (sW _ _ (sC _ _ h))
 have C1:CM C.C H1 a most 0 0:=⟨dc,by rw[ecl];exact k1 _ _ (ne_of_none bC' hmm) (sW _ _ bC')⟩
 have np:H a.pl=none:=(sC.trans sW).free n1
 have ns:H a.st=none:=(sC.trans sW).free n2
 have nv:H a.pv=none:=(sC.trans sW).free n3
 have nc:H a.cl=none:=by rw[ecl];exact hmc
 have pr1:=pr.same s1
 refine⟨_,rfl,_,rfl,t,fa,mn,ds,qs,v,p,rfl,pr1,fun l rs H2 s2 hl0 hl al=>?_⟩
 have M2:=M1.same s2
 have C2:CM C.C H2 a most 0 0:=C1.kq M1 (kq_same s2)
 have hpv2:=s2 _ _ hpv1
 have kd:∀H',Ke a H2 H'→Same H H':=fun H' k b o h=>k b o (ne_of_none h np) (ne_of_none h ns) (ne_of_none h nc) (ne_of_none h nv) (s2 _ _ (s1 _ _ h))
 have lq:qs.length≤10:=by have:=pr.len;have:=pr.pa.1;omega
 unfold evMain at hev
 cases hp:evPs most m qs [] 0 with
 |mk o1 c1=>
 rw[hp]at hev
 cases o1 with
 |none=>cases hev
 |some r1=>
 refine .mk a l rs qs x1 x2 m most r1 c1 H1 rfl M2 C2 hpv2 hpv1 (Ne.symm (ne_of_none M1.hp hl0)) (Ne.symm (ne_of_none M1.hs hl0)) hl al pok hp lm lq (fun E' hE H3 M3 C3 pvl k3=>?_) (fun o ho ea H3 k3=>?_)
 ·subst hE
  dsimp only at hev
  cases he:ev most m p E' c1 0 with
  |none=>rw[he]at hev;cases hev
  |some rc=>
  obtain⟨r2,c2⟩:=rc
  rw[he]at hev
  cases hev
  have s03:=kd _ k3
  have pr3:=pr.same s03
  refine⟨_,rfl,_,rfl,1,rfl,t,_,_, .ref mn,rfl,rfl,SqT.of pr3.tp,?_,mn,_,1,v,rfl,rfl,SqT.of pr3.mn,atI_nat (j:=1) rfl,fun d hd=>?_⟩
  ·show atI ((fa::(ds++[mn])).map V.ref) (-1)=_
   rw[show(fa::(ds++[mn])).map V.ref=(fa::ds).map V.ref++[V.ref mn] by simp]
   exact atI_last _ _
  have s4:=same_new hd (.dK [])
  have b4:(upd H3 d (.dK [])) d=some (.dK []):=upd_same
  revert s4 b4
  generalize upd H3 d (.dK [])=H4
  intro s4 b4
  have s04:=s03.trans s4
  have fin:∀H',Kc a H4 H'→Same H H':=fun H' k b o h=>k b o (ne_of_none h np) (ne_of_none h ns) (ne_of_none h nc) (s04 b o h)
  refine .mk a v d p E' m most c1 r c' E' x1 x2 rfl (M3.same s4) (C3.kq M3 (kq_same s4)) (pvl.dks fun b kvs h=>s4 _ _ h) (pr.ph.same s04) ⟨[],rfl,le_nil b4,fun y hy=>by cases hy⟩ he lm (fun i hi h6 H5 M5 C5 k5=>?_) (fun o ho ea H5 k5=>q2 o ho ea H5 (fin _ k5))
  exact .mk i rfl fun H6 s6=>q1 i hi h6 H6 ((fin _ k5).trans s6)
 ·subst ho
  cases hev
  exact q2 o rfl ea H3 (kd _ k3)
end
abbrev s_next:Stmt:=top 67
abbrev s_drawn:Stmt:=top 68
def StOk (H:Hp)(st:Addr):Prop:=∃ns:List Int,ns≠[]∧ns.length≤100∧H st=some (.lst (ns.map V.int))
def Grow (st:Addr)(H H':Hp):Prop:=(∀b o,b≠st→H b=some o→H' b=some o)∧StOk H' st
theorem Grow.trans {st:Addr}{H H1 H2:Hp}(a:Grow st H H1)(b:Grow st H1 H2):Grow st H H2:=⟨fun c o hc e=>b.1 c o hc (a.1 c o hc e),b.2⟩
theorem Grow.ok {st:Addr}{H H':Hp}(a:Grow st H H'):StOk H' st:=a.2
theorem StOk.same {st:Addr}{H H':Hp}(h:StOk H st)(e:Same H H'):StOk H' st:=by
 obtain⟨ns,h1,h2,h3⟩:=h
 exact⟨ns,h1,h2,e _ _ h3⟩
theorem grow_same {st:Addr}{H H':Hp}(h:StOk H st)(e:Same H H'):Grow st H H':=⟨fun b o _ q=>e b o q,h.same e⟩
theorem grow_new {st p:Addr}{H:Hp}{o:HO}(h:StOk H st)(hp:H p=none):Grow st H (upd H p o):=grow_same h (same_new hp o)
theorem grow_set {st:Addr}{H:Hp}{ns:List Int}(h1:ns≠[])(h2:ns.length≤100):Grow st H (upd H st (.lst (ns.map V.int))):=⟨fun b o hb e=>by rw[upd_ne hb];exact e,ns,h1,h2,upd_same⟩
theorem StOk.ne_tup {st b:Addr}{H:Hp}{xs:List V}(h:StOk H st)(e:H b=some (.tup xs)):b≠st:=by
 obtain⟨ns,_,_,h3⟩:=h
 exact ne_of e h3 (by intro z;cases z)
theorem Grow.tups {st:Addr}{H H':Hp}(a:Grow st H H')(h:StOk H st):∀b xs,H b=some (.tup xs)→H' b=some (.tup xs):=fun b xs e=>a.1 b _ (h.ne_tup e) e
theorem ix0 (k:Nat):ixN (k+1) 0=some 0:=by
 unfold ixN
 rw[if_pos (by omega),if_pos (by omega)]
 rfl
theorem sq0 (k:Nat):seqIndex? 0 (k+1)=some 0:=(ixN_seq (ix0 k)).1
inductive spNext (vs:List V)(H:Hp)(Q:VK)(E_:XK):Prop where
 |mk (st:Addr) (m:Int):vs=[.ref st, .int m]→StOk H st→0<m→m≤1000000000→(∀(d:Int) H',0≤d→d<m→Grow st H H'→Q (.int d) H')→spNext vs H Q E_
section
variable {P:Program}{w:World}{K:PySem.W.Frag}{mg:Str→Option Value}{base:Heap}{f:Addr}{fd:FuncData}
theorem sc_next:FnScope ["_law_state","_law_many","_law_digit"] ["_law_state","_law_many"] (defScope s_next):=⟨rfl,rfl,rfl,by decide+kernel,rfl,by decide+kernel,by decide+kernel⟩
theorem ok_next (F:Fun K "_law_next" "_law_next" s_next f fd)(ml:mg "len"=none):FnOk P w K mg base CX0 1 f fd ["_law_state","_law_many"] spNext:=by
 refine F.ok sc_next (fun cdv A outer s H vs Q E hr h=>?_)
 obtain⟨st,m,rfl,hs,m0,m1,q⟩:=h
 obtain⟨ns,hne,hle,hst⟩:=id hs
 refine⟨_,pss_cons (ps_if (pt_cmpR op_gt (pe_callB (clen K) rfl ml PySem.boot_len (pa_cons (pv 0) pa_nil)) pe_int)
   (pss_cons (pset 2 sc_next.nd (pe_op op_mod (pe_ix (ixL K) (pv 0) pe_int) (pv 1)))
   (pss_cons (ps_asg (pe_op op_fdiv (pe_ix (ixL K) (pv 0) pe_int) (pv 1)) (pg_sub (pv 0) pe_int set_list))
   (pss_cons (ps_if (pt_cmpR op_in_seq (pe_ix (ixL K) (pv 0) pe_int) (pe_tup (pa_cons pe_int (pa_cons (pe_un un_neg pe_int) pa_nil))) (by with_unfolding_all rfl))
    (pss_one (ps_expr (pe_bm PySem.F.plainAttrs_list PySem.F.slot_list_pop PySem.F.type_list_pop mt_popAt (pv 0) (pa_cons pe_int pa_nil)))) pss_nil)
   (pss_one (ps_ret (pv 2)))))) pss_nil)
  (pss_cons (ps_asg (pe_op op_mod (pe_op op_add (pe_op op_mul (pe_ix (ixL K) (pv 0) pe_int) pe_int) pe_int) (pe_op op_sub (pe_op op_pow pe_int pe_int) pe_int)) (pg_sub (pv 0) pe_int set_list))
  (pss_one (ps_ret (pe_op op_mod (pe_op op_fdiv (pe_ix (ixL K) (pv 0) pe_int) pe_int) (pv 1))))),?_⟩
 cases ns with
 |nil=>exact absurd rfl hne
 |cons n r=>
  refine⟨_,rfl,st,_,rfl, .inl (SqL.of hst),_,_,rfl,rfl,_,rfl,?_⟩
  refine ite2 (fun c=>?_) (fun c=>?_)
  ·have c1:(1:Int)<(((n::r).map V.int).length:Nat):=of_decide_eq_true c
   have hr0:r≠[]:=fun e=>by rw[e]at c1;simp at c1
   refine⟨_,rfl,st,_,0, .int n,rfl,rfl,SqL.of hst,atI_nat (j:=0) rfl,_,rfl,n,m,rfl,rfl,m0,?_⟩
   refine⟨_,rfl,st,_,0, .int n,rfl,rfl,SqL.of hst,atI_nat (j:=0) rfl,_,rfl,n,m,rfl,rfl,⟨m0,by omega⟩,?_⟩
   refine⟨_,rfl,st,_,0,0,rfl,rfl,hst,by rw[List.length_map];exact ix0 _,?_⟩
   have g1:Grow st H (upd H st (.lst ((n / m::r).map V.int))):=grow_set (by simp) (by simpa using hle)
   refine⟨_,rfl,st,_,0, .int (n / m),rfl,rfl,SqL.of upd_same,atI_nat (j:=0) rfl,1,rfl,small (by show 2≤1000000;decide),fun p hp=>?_⟩
   have g2:Grow st _ (upd (upd H st (.lst ((n / m::r).map V.int))) p (.tup [.int 0, .int (-1)])):=grow_new g1.ok hp
   refine⟨p,[.int 0, .int (-1)],rfl, .inr (SqT.of upd_same),rfl,rfl,_,rfl,?_⟩
   have hd0:0≤n%m:=Int.emod_nonneg _ (by omega)
   have hd1:n%m<m:=Int.emod_lt_of_pos _ m0
   have hst2:(upd (upd H st (.lst ((n / m::r).map V.int))) p (.tup [.int 0, .int (-1)])) st=some (.lst ((n / m::r).map V.int)):=(same_new hp _) _ _ upd_same
   refine ite2 (fun c2=>?_) (fun c2=>?_)
   ·refine⟨_,rfl, .inl ⟨rfl,_,SqL.of hst2⟩,st,_,0,0, .int (n / m),rfl,rfl,hst2,by decide,by decide,?_,rfl,?_⟩
    ·rw[List.length_map]
     exact sq0 _
    ·refine⟨_,rfl,q _ _ hd0 hd1 ((g1.trans g2).trans ?_)⟩
     exact grow_set (ns:=r) hr0 (by simp at hle;omega)
   ·exact⟨_,rfl,q _ _ hd0 hd1 (g1.trans g2)⟩
  ·refine⟨_,rfl,st,_,0, .int n,rfl,rfl,SqL.of hst,atI_nat (j:=0) rfl,_,_,rfl,rfl, .inr ⟨by decide,by decide⟩,_,_,rfl,rfl,_,_,rfl,rfl,⟨by decide,by decide,by decide⟩,_,_,rfl,rfl,_,_,rfl,rfl,(by show(0:Int)<2^61-1;decide),?_⟩
   refine⟨_,rfl,st,_,0,0,rfl,rfl,hst,by rw[List.length_map];exact ix0 _,?_⟩
   have g1:∀x,Grow st H (upd H st (.lst ((x::r).map V.int))):=fun x=>grow_set (by simp) (by simpa using hle)
   refine⟨_,rfl,st,_,0, .int _,rfl,rfl,SqL.of upd_same,atI_nat (j:=0) rfl,_,_,rfl,rfl,⟨by decide,by decide⟩,_,rfl,_,_,rfl,rfl,m0,?_⟩
   exact q _ _ (Int.emod_nonneg _ (by omega)) (Int.emod_lt_of_pos _ m0) (g1 _)
end
inductive spDrawn (K:PySem.W.Frag)(vs:List V)(H:Hp)(Q:VK)(E_:XK):Prop where
 |mk (a:Addr) (ns:List Int):vs=[.ref a]→SqL K H a (ns.map V.int)→ns.length≤63→(∀p H',Same H H'→H p=none→StOk H' p→Q (.ref p) H')→spDrawn K vs H Q E_
section
variable {P:Program}{w:World}{K:PySem.W.Frag}{mg:Str→Option Value}{base:Heap}{f:Addr}{fd:FuncData}
theorem sc_drawn:FnScope ["_law_script","_law_seed","_law_cell"] ["_law_script"] (defScope s_drawn):=⟨rfl,rfl,rfl,by decide+kernel,rfl,by decide+kernel,by decide+kernel⟩
theorem ok_drawn (F:Fun K "_law_drawn" "_law_drawn" s_drawn f fd)(ml:mg "len"=none):FnOk P w K mg base CX0 1 f fd ["_law_script"] (spDrawn K):=by
 refine F.ok sc_drawn (fun cdv A outer s H vs Q E hr h=>?_)
 obtain⟨a,ns,rfl,hS,h63,q⟩:=h
 refine⟨_,pss_cons (pset 1 sc_drawn.nd pe_int)
  (pss_cons (ps_for PassesOwn.never rfl (piL K (pv 0)) (pg_name (i:=2) sc_drawn.nd rfl (Or.inl rfl)) (pss_one (pset 1 sc_drawn.nd
   (pe_op op_mod (pe_op op_add (pe_op op_add (pe_op op_mul (pv 1) pe_int) (pe_op op_mod (pv 2) (pe_op op_pow pe_int pe_int))) pe_int) (pe_op op_sub (pe_op op_pow pe_int pe_int) pe_int)))))
  (pss_cons (ps_if (PW.pt (pw_and (pt_cmpR op_gt (pe_callB (clen K) rfl ml PySem.boot_len (pa_cons (pv 0) pa_nil)) pe_int) (pw_and1 (pt_cmpR op_eq (pe_op op_mod (pe_ix (ixL K) (pv 0) pe_int) pe_int) pe_int))))
   (pss_one (ps_ret (pe_op op_cat (pe_op op_cat (pe_lst (pa_cons (pe_op op_fdiv (pe_ix (ixL K) (pv 0) pe_int) pe_int) pa_nil)) (pe_slice sl_list (pv 0) (po_some pe_int) (po_some pe_int))) (pe_lst (pa_cons (pv 1) pa_nil))))) pss_nil)
  (pss_one (ps_ret (pe_lst (pa_cons (pv 1) pa_nil)))))),?_⟩
 refine⟨_,rfl,a,rfl,⟨_,hS⟩,for_list (xs:=ns.map V.int) (fun i σ H'=>H'=H∧∃(x:Int) (o:Option V),σ=[some (.ref a),some (.int x),o]) ⟨rfl,1000003,none,rfl⟩ ?_ ?_ ?_⟩
 ·rintro i σ H' _ ⟨rfl,_⟩
  exact hS
 ·rintro i x σ H' hx ⟨rfl,y,o,rfl⟩
  rw[List.getElem?_map]at hx
  cases hn:ns[i]? with
  |none=>rw[hn]at hx;cases hx
  |some n=>
   rw[hn]at hx
   cases hx
   refine⟨_,rfl,_,_,rfl,rfl, .inr ⟨by decide,by decide⟩,_,rfl,_,_,rfl,rfl,⟨by decide,by decide,by decide⟩,_,_,rfl,rfl,(by show(0:Int)<10^30;decide),_,_,rfl,rfl,_,_,rfl,rfl,_,_,rfl,rfl,⟨by decide,by decide,by decide⟩,_,_,rfl,rfl,_,_,rfl,rfl,(by show(0:Int)<2^61-1;decide),?_⟩
   exact⟨rfl,_,_,rfl⟩
 ·rintro σ H' ⟨rfl,x,o,rfl⟩
  have last:∀H1 D,Same H' H1→D.rt=Q→tRet (tLst (tCons (tVar 1) tNil)) D [some (.ref a),some (.int x),o] H1:=fun H1 D e hD=>by
   refine⟨_,rfl,small (by show 1≤1000000;decide),fun p hp=>?_⟩
   rw[hD]
   exact q p _ (e.trans (same_new hp _)) (e.free hp) ⟨[x],by simp,by simp,upd_same⟩
  refine⟨_,rfl,a,_,rfl, .inl hS,_,_,rfl,rfl,_,rfl,?_⟩
  refine ite2 (fun c=>?_) (fun c=>?_)
  ·have c1:(0:Int)<((ns.map V.int).length:Nat):=of_decide_eq_true c
   cases ns with
   |nil=>simp at c1
   |cons n r=>
    refine⟨_,rfl,a,_,0, .int n,rfl,rfl,hS,atI_nat (j:=0) rfl,_,_,rfl,rfl,(by show(0:Int)<2;decide),rfl,_,rfl,?_⟩
    refine ite2 (fun c2=>?_) (fun c2=>?_)
    ·refine⟨_,rfl,a,_,0, .int n,rfl,rfl,hS,atI_nat (j:=0) rfl,_,_,rfl,rfl,⟨by decide,by decide⟩,small (by show 1≤1000000;decide),fun p1 hp1=>?_⟩
     have e1:=same_new hp1 (.lst [V.int (n / 2)])
     refine⟨_,rfl,1,rfl,63,rfl,a,_,rfl,e1.seq hS,fun p2 hp2=>?_⟩
     have e2:=same_new hp2 (.lst (cutV ((n::r).map V.int) (some 1) (some 63)))
     obtain⟨ms,hms⟩:∃ms:List Int,cutV ((n::r).map V.int) (some 1) (some 63)=ms.map V.int:=by
      unfold cutV
      rw[←List.map_drop,←List.map_take]
      exact⟨_,rfl⟩
     have hml:ms.length≤63:=by
      have:=cutV_length ((n::r).map V.int) (some 1) (some 63)
      rw[hms,List.length_map,List.length_map]at this
      omega
     refine⟨p1,p2,_,_,rfl,rfl,e2 _ _ upd_same,upd_same,?_,fun p3 hp3=>?_⟩
     ·rw[hms,List.length_map]
      exact small (by simp;omega)
     have e3:=same_new hp3 (.lst ([V.int (n / 2)]++cutV ((n::r).map V.int) (some 1) (some 63)))
     refine⟨_,rfl,small (by show 1≤1000000;decide),fun p4 hp4=>?_⟩
     have e4:=same_new hp4 (.lst [V.int x])
     refine⟨p3,p4,_,_,rfl,rfl,e4 _ _ upd_same,upd_same,?_,fun p5 hp5=>?_⟩
     ·rw[hms]
      exact small (by simp;omega)
     refine q p5 _ (e1.trans (e2.trans (e3.trans (e4.trans (same_new hp5 _))))) ((e1.trans (e2.trans (e3.trans e4))).free hp5) ⟨n / 2::(ms++[x]),by simp,by simp;omega,?_⟩
     rw[upd_same,hms]
     simp
    ·exact last _ _ (Same.refl _) rfl
  ·exact last _ _ (Same.refl _) rfl
end
end Fw
namespace L2
open PySem PySem.Spec PyProof.Rows PySem.W
theorem op_notInD {X:Cx}(hu:X.A.units+1<cLine):OpR X (compareOp .NotIn) (fun x y H Q=>∃a o,y=V.ref a∧DGet H a x o∧Q (.bl (!o.isSome)) H):=by
 intro pins s σ H x y v u Q I rx ry h
 obtain⟨a,o,rfl,g,q⟩:=h
 cases ry
 exact d_notIn hu I g rx fun s' I'=>⟨.bl (!o.isSome),H,I',rfl,q⟩
end L2
namespace Fw
open PySem PySem.Spec PyProof.Rows L2
def WdB (H:Hp)(wd:Addr)(x:Str)(M c u:Int):Prop:=∃kvs:List (Key×V),H wd=some (.dK kvs)∧kvs.length≤10∧valV kvs (Sum.inr "word")=some (.str x)∧valV kvs (Sum.inr "begun")=some (.int c)∧valV kvs (Sum.inr "under")=some (.int u)∧valV kvs (Sum.inr "most")=some (.int M)
def Kw (wd:Addr)(H H':Hp):Prop:=∀b o,b≠wd→H b=some o→H' b=some o
theorem Kw.refl {wd:Addr}{H:Hp}:Kw wd H H:=fun b o _ h=>h
theorem Kw.trans {wd:Addr}{H H1 H2:Hp}(a:Kw wd H H1)(b:Kw wd H1 H2):Kw wd H H2:=fun c o n h=>b c o n (a c o n h)
theorem kw_same {wd:Addr}{H H':Hp}(s:Same H H'):Kw wd H H':=fun c o _ h=>s c o h
theorem kw_upd {wd:Addr}{H:Hp}{o:HO}:Kw wd H (upd H wd o):=fun c u n h=>by rw[upd_ne n];exact h
theorem WdB.same {H H':Hp}{wd:Addr}{x:Str}{M c u:Int}(h:WdB H wd x M c u)(s:Same H H'):WdB H' wd x M c u:=by
 obtain⟨kvs,h1,h2⟩:=h
 exact⟨kvs,s _ _ h1,h2⟩
theorem WdB.there {wd:Addr}{H:Hp}{x:Str}{M c u:Int}(w:WdB H wd x M c u):H wd≠none:=by
 obtain⟨kvs,h1,_⟩:=w
 rw[h1];simp
theorem WdB.tp {wd:Addr}{H H':Hp}{x:Str}{M c u:Int}(w:WdB H wd x M c u)(k:Kw wd H H'):Tup5 H H':=fun b ys h=>by
 obtain⟨kvs,h1,_⟩:=w
 exact k b _ (ne_of h h1 (by intro z;cases z)) h
theorem WdB.ls {wd:Addr}{H H':Hp}{x:Str}{M c u:Int}(w:WdB H wd x M c u)(k:Kw wd H H'){b:Addr}{ys:List V}(h:H b=some (.lst ys)):H' b=some (.lst ys):=by
 obtain⟨kvs,h1,_⟩:=w
 exact k b _ (ne_of h h1 (by intro z;cases z)) h
theorem putK_len {kvs:List (Key×V)}{k:Key}{v:V}{y:V}(h:valV kvs k=some v):(putK kvs k y).length=kvs.length:=by
 unfold putK
 rw[valV_any,h]
 simp
theorem wd_ne:("word":Str)≠"begun"∧("word":Str)≠"under"∧("word":Str)≠"most"∧("begun":Str)≠"under"∧("begun":Str)≠"most"∧("under":Str)≠"most":=by decide+kernel
theorem inr_ne {x y:Str}(h:x≠y):(Sum.inr x:Key)≠Sum.inr y:=fun z=>h (Sum.inr.inj z)
theorem wd_word {H:Hp}{wd:Addr}{x y:Str}{M c u:Int}(h:WdB H wd x M c u):∃kvs,H wd=some (.dK kvs)∧kvs.length≤10∧WdB (upd H wd (.dK (putK kvs (Sum.inr "word") (.str y)))) wd y M c u:=by
 obtain⟨kvs,h1,h2,h3,h4,h5,h6⟩:=h
 obtain⟨n1,n2,n3,n4,n5,n6⟩:=wd_ne
 exact⟨kvs,h1,h2,_,upd_same,by rw[putK_len h3];exact h2,by rw[valV_put,if_pos rfl],by rw[valV_put,if_neg (inr_ne (Ne.symm n1))];exact h4,by rw[valV_put,if_neg (inr_ne (Ne.symm n2))];exact h5,by rw[valV_put,if_neg (inr_ne (Ne.symm n3))];exact h6⟩
theorem wd_begun {H:Hp}{wd:Addr}{x:Str}{M c u c':Int}(h:WdB H wd x M c u):∃kvs,H wd=some (.dK kvs)∧kvs.length≤10∧valV kvs (Sum.inr "begun")=some (.int c)∧WdB (upd H wd (.dK (putK kvs (Sum.inr "begun") (.int c')))) wd x M c' u:=by
 obtain⟨kvs,h1,h2,h3,h4,h5,h6⟩:=h
 obtain⟨n1,n2,n3,n4,n5,n6⟩:=wd_ne
 exact⟨kvs,h1,h2,h4,_,upd_same,by rw[putK_len h4];exact h2,by rw[valV_put,if_neg (inr_ne n1)];exact h3,by rw[valV_put,if_pos rfl],by rw[valV_put,if_neg (inr_ne (Ne.symm n4))];exact h5,by rw[valV_put,if_neg (inr_ne (Ne.symm n5))];exact h6⟩
theorem wd_under {H:Hp}{wd:Addr}{x:Str}{M c u u':Int}(h:WdB H wd x M c u):∃kvs,H wd=some (.dK kvs)∧kvs.length≤10∧valV kvs (Sum.inr "under")=some (.int u)∧WdB (upd H wd (.dK (putK kvs (Sum.inr "under") (.int u')))) wd x M c u':=by
 obtain⟨kvs,h1,h2,h3,h4,h5,h6⟩:=h
 obtain⟨n1,n2,n3,n4,n5,n6⟩:=wd_ne
 exact⟨kvs,h1,h2,h5,_,upd_same,by rw[putK_len h5];exact h2,by rw[valV_put,if_neg (inr_ne n2)];exact h3,by rw[valV_put,if_neg (inr_ne n4)];exact h4,by rw[valV_put,if_pos rfl],by rw[valV_put,if_neg (inr_ne (Ne.symm n6))];exact h6⟩
theorem rk3 (a b c:V):mergeK [] ([(Sum.inr "plus",a),(Sum.inr "minus",b),(Sum.inr "times",c)]:List (Key×V))=([(Sum.inr "plus",a),(Sum.inr "minus",b),(Sum.inr "times",c)]:List (Key×V)):=by
 obtain⟨h1,h2,h3,_⟩:=rk_words
 have n:∀{x y:Str},x≠y→(Sum.inr x:Key)≠Sum.inr y:=fun h z=>h (Sum.inr.inj z)
 simp only[mergeK,putK,List.foldl_cons,List.foldl_nil,List.any_nil,List.any_cons,Bool.false_eq_true,if_false,List.nil_append,List.cons_append,decide_eq_false (n h1),decide_eq_false (n h2),decide_eq_false (n h3),decide_eq_false (n (Ne.symm h1)),decide_eq_false (n (Ne.symm h2)),decide_eq_false (n (Ne.symm h3)),Bool.or_false,Bool.false_or]
theorem rk3_at (i j:Int):∀k,k≤2→valV ([(Sum.inr "plus", .int (i+j)),(Sum.inr "minus", .int (i-j)),(Sum.inr "times", .int (i*j))]:List (Key×V)) (Sum.inr (wordOf k))=some (.int (rk k i j)):=fun k hk=>by
 obtain⟨h1,h2,h3,_⟩:=rk_words
 have:k=0∨k=1∨k=2:=by omega
 rcases this with rfl|rfl|rfl<;>simp[valV,List.find?_cons,wordOf,rk,h1,h2,h3,Ne.symm h1,Ne.symm h2,Ne.symm h3]
theorem less_no:∀k,k≤2→wordOf k≠"less":=fun k hk=>by
 obtain⟨_,_,_,h1,h2,h3⟩:=rk_words
 have:k=0∨k=1∨k=2:=by omega
 rcases this with rfl|rfl|rfl
 ·exact Ne.symm h1
 ·exact Ne.symm h2
 ·exact Ne.symm h3
def otW:Ot→Str
 |.stuck=>"stuck"|.great=>"great"|.long=>"long"|.deep=>"deep"
theorem ot_no:∀o:Ot,otW o≠"":=fun o=>by cases o<;>decide+kernel
theorem nw_t {x:Str}(h:x≠""):(!decide (V.str x=V.str ""))=true:=by
 rw[decide_eq_false (fun z=>h (V.str.inj z))]
 rfl
inductive Kd (H:Hp):V→Bool→Prop where
 |int (i:Int):Kd H (.int i) true
 |lst {a:Addr} {xs:List V}:H a=some (.lst xs)→Kd H (.ref a) false
inductive spFault (vs:List V)(H:Hp)(Q:VK)(E_:XK):Prop where
 |set (wd:Addr) (x:Str) (M c u:Int):vs=[.ref wd, .str x]→WdB H wd "" M c u→(∀H',WdB H' wd x M c u→Kw wd H H'→Q .non H')→spFault vs H Q E_
 |old (wd:Addr) (x y:Str) (M c u:Int):vs=[.ref wd, .str x]→WdB H wd y M c u→y≠""→Q .non H→spFault vs H Q E_
inductive spRck (vs:List V)(H:Hp)(Q:VK)(E_:XK):Prop where
 |ok (wd:Addr) (k:Nat) (i j:Int) (M c u:Int):vs=[.ref wd, .str (wordOf k), .int i, .int j]→k≤3→WdB H wd "" M c u→In60 i→In60 j→(In60 (rk k i j)→∀H',Same H H'→Q (.int (rk k i j)) H')→(¬In60 (rk k i j)→∀H',WdB H' wd "great" M c u→Kw wd H H'→Q (.int (rk k i j)) H')→spRck vs H Q E_
 |stuck (wd:Addr) (x:Str) (u1 u2:V) (b1 b2:Bool) (M c u:Int):vs=[.ref wd, .str x,u1,u2]→WdB H wd "" M c u→Kd H u1 b1→Kd H u2 b2→(b1&&b2)=false→(∀H',WdB H' wd "stuck" M c u→Kw wd H H'→Q .non H')→spRck vs H Q E_
 |no (wd:Addr) (x y:Str) (u1 u2:V) (M c u:Int):vs=[.ref wd, .str x,u1,u2]→WdB H wd y M c u→y≠""→Q .non H→spRck vs H Q E_
theorem kit_l (K:PySem.W.Frag):PySem.W.kitOne K (.type "list") (.type "int")=some false∧PySem.W.kitOne K (.type "list") (.type "list")=some true∧PySem.W.kitOne K (.type "int") (.type "list")=some false∧PySem.W.kitOne K (.type "NoneType") (.type "list")=some false∧PySem.W.kitOne K (.type "NoneType") (.type "int")=some false:=⟨by first|rfl|kernel_rfl,by first|rfl|kernel_rfl,by first|rfl|kernel_rfl,by first|rfl|kernel_rfl,by first|rfl|kernel_rfl⟩
theorem Kd.int_ {K:PySem.W.Frag}{H:Hp}{v:V}{b:Bool}(h:Kd H v b):∃t,TyOf K H v t∧PySem.W.kitOne K t (.type "int")=some b:=by
 cases h with
 |int i=>exact⟨_, .int i,kit_int K⟩
 |lst e=>exact⟨_, .lst e,(kit_l K).1⟩
section
variable {P:Program}{w:World}{K:PySem.W.Frag}{mg:Str→Option Value}{base:Heap}{f:Addr}{fd:FuncData}
abbrev s_fault:Stmt:=top 72
abbrev s_rck:Stmt:=top 74
theorem sc_fault:FnScope ["_law_world_here","_law_word"] ["_law_world_here","_law_word"] (defScope s_fault):=⟨rfl,rfl,rfl,by decide+kernel,rfl,by decide+kernel,by decide+kernel⟩
theorem sc_rck:FnScope ["_law_world_here","_law_word","_law_one","_law_other","_law_made"] ["_law_world_here","_law_word","_law_one","_law_other"] (defScope s_rck):=⟨rfl,rfl,rfl,by decide+kernel,rfl,by decide+kernel,by decide+kernel⟩
theorem ok_fault (F:Fun K "_law_fault" "_law_fault" s_fault f fd):FnOk P w K mg base CX0 1 f fd ["_law_world_here","_law_word"] spFault:=by
 refine F.ok sc_fault (len:=(by rintro _ _ _ _ ⟨⟩<;>subst_vars<;>rfl)) (fun cdv A outer s H vs Q E hr h=>?_)
 have hu:=hu_of hr
 refine⟨_,pss_one (ps_if (pt_cmpR op_eq (pe_dget hu (pv 0) pe_str) pe_str) (pss_one (ps_dput hu (pv 0) pe_str (pv 1) rfl)) pss_nil),?_⟩
 cases h with
 |set wd x M c u e hw q=>
  subst e
  obtain⟨kvs',g1,g2,g3⟩:=wd_word (y:=x) hw
  obtain⟨kvs,h1,h2,h3,h4⟩:=hw
  obtain rfl:kvs=kvs':=by rw[h1]at g1;cases g1;rfl
  refine⟨_,rfl,wd,_,rfl, .inl ⟨kvs,Sum.inr "word", .inl h1,rfl,h3.symm⟩,rfl,_,rfl,ite2 (fun _=>?_) (fun c=>absurd (decide_eq_true rfl) c)⟩
  exact⟨_,rfl,_,rfl,wd,_,rfl,DPut.k (k:=Sum.inr "word") h1 (small' (by exact Nat.le_trans h2 (by decide))),q _ g3 kw_upd⟩
 |old wd x y M c u e hw ny q=>
  subst e
  obtain⟨kvs,h1,h2,h3,h4⟩:=hw
  exact⟨_,rfl,wd,_,rfl, .inl ⟨kvs,Sum.inr "word", .inl h1,rfl,h3.symm⟩,rfl,_,rfl,ite2 (fun c=>absurd (V.str.inj (of_decide_eq_true c)) ny) (fun _=>q)⟩
@[irreducible] def stR3:Stmt:=(defBody s_rck).getD 3 (.Pass ⟨0,0,0,0⟩)
theorem bodyR:defBody s_rck=(defBody s_rck).getD 0 (.Pass ⟨0,0,0,0⟩)::(defBody s_rck).getD 1 (.Pass ⟨0,0,0,0⟩)::(defBody s_rck).getD 2 (.Pass ⟨0,0,0,0⟩)::stR3::(defBody s_rck).drop 4:=by
 unfold stR3
 rfl
abbrev RX (P:Program)(w:World)(K:PySem.W.Frag)(mg:Str→Option Value)(base:Heap)(f:Addr)(cdv:Value)(A:Around)(outer:List Env)(s:Shared)(H:Hp)(E:XK):Cx:=(cxOf CX0 P w K mg base ["_law_world_here","_law_word","_law_one","_law_other","_law_made"] "_law_reckoned" (defScope s_rck) f cdv A outer s H E).nox
def tR3:TS:=fun D σ H=>∃(v0:V) (k:Nat) (i j:Int),k≤2∧σ=[some v0,some (.str (wordOf k)),some (.int i),some (.int j),none]∧In60 i∧In60 j∧∀H',Same H H'→D.nx [some v0,some (.str (wordOf k)),some (.int i),some (.int j),some (.int (rk k i j))] H'
set_option maxHeartbeats 2000000 in
theorem ps_R3 {cdv:Value}{A:Around}{outer:List Env}{s:Shared}{H:Hp}{E:XK}(hu:(RX P w K mg base f cdv A outer s H E).A.units+1<cLine):PSx (RX P w K mg base f cdv A outer s H E) stR3 tR3:=by
 unfold stR3
 refine x_weak (x_set (i:=4) (x:="_law_made") sc_rck.nd rfl (Or.inl rfl) ⟨pe_dget hu (x_disp (xp_cons (L2.x_op op_add (x_pv 2) (x_pv 3)) (xp_cons (L2.x_op op_sub (x_pv 2) (x_pv 3)) (xp_cons (L2.x_op op_mulG (x_pv 2) (x_pv 3)) xp_nil))) rfl rfl (by simp) (by decide)).h (pv 1)⟩ swaps_sub (.inl rfl)) ?_
 rintro D σ H ⟨v0,k,i,j,hk,rfl,hi,hj,q⟩
 refine fun p hp=>⟨_,rfl,_,rfl,_,_,rfl,rfl,_,rfl,_,rfl,_,_,rfl,rfl,_,rfl,_,rfl,_,_,rfl,rfl,mul_ok hi.1 hi.2 hj.1 hj.2,upd_same,[(Sum.inr "plus", .int (i+j)),(Sum.inr "minus", .int (i-j)),(Sum.inr "times", .int (i*j))],rfl,(by show 3≤15;decide),?_⟩
 rw[rk3]
 refine⟨_,rfl,p,_,rfl, .inl ⟨_,Sum.inr (wordOf k), .inl upd_same,rfl,(rk3_at i j k hk).symm⟩,q _ fun b o h=>?_⟩
 rw[upd_ne (ne_of_none h hp),upd_ne (ne_of_none h hp)]
 exact h
set_option maxHeartbeats 2000000 in
theorem ok_rck (F:Fun K "_law_reckoned" "_law_reckoned" s_rck f fd)(mi:mg "isinstance"=none)(mI:mg "int"=none)(ma:mg "abs"=none)(h1:Has P w K mg base 1 "_law_fault" ["_law_world_here","_law_word"] spFault):FnOk P w K mg base CX0 2 f fd ["_law_world_here","_law_word","_law_one","_law_other"] spRck:=by
 refine F.ok sc_rck (len:=(by rintro _ _ _ _ ⟨⟩<;>subst_vars<;>rfl)) (fun cdv A outer s H vs Q E hr h=>?_)
 have hu:=hu_of hr
 rw[bodyR]
 refine⟨_,pss_cons (ps_if (PW.pt (pw_and (pt_cmpR op_eq (pe_dget hu (pv 0) pe_str) pe_str) (pw_and1 (pt_not (PW.pt (pw_and (pt_val (pe_callB call_isi rfl mi boot_isinstance (pa_cons (pv 2) (pa_cons (pe_bltn (v:=.ty "int") rfl mI boot_int rfl) pa_nil)))) (pw_and1 (pt_val (pe_callB call_isi rfl mi boot_isinstance (pa_cons (pv 3) (pa_cons (pe_bltn (v:=.ty "int") rfl mI boot_int rfl) pa_nil))))))))))) (pss_one (ps_expr (pcall h1 hr (by decide) rfl (pa_cons (pv 0) (pa_cons pe_str pa_nil))))) pss_nil)
  (pss_cons (ps_if (pt_cmpR op_ne (pe_dget hu (pv 0) pe_str) pe_str) (pss_one (ps_ret pe_non)) pss_nil)
  (pss_cons (ps_if (pt_cmpR op_eq (pv 1) pe_str) (pss_one (ps_ret (pe_callTy call_int1 rfl mI boot_int (pa_cons (pe_cmpR op_lt (pv 2) (pv 3)) pa_nil)))) pss_nil)
  (pss_cons (ps_R3 hu).h
  (pss_cons (ps_if (pt_cmpR op_ge (pe_callB call_abs rfl ma boot_abs' (pa_cons (pv 4) pa_nil)) (pe_op op_pow pe_int pe_int)) (pss_one (ps_expr (pcall h1 hr (by decide) rfl (pa_cons (pv 0) (pa_cons pe_str pa_nil))))) pss_nil)
  (pss_one (ps_ret (pv 4))))))),?_⟩
 cases h with
 |no wd x y u1 u2 M c u e hw ny q=>
  subst e
  obtain⟨kvs,g1,g2,g3,g4⟩:=hw
  refine⟨_,rfl,wd,_,rfl, .inl ⟨kvs,Sum.inr "word", .inl g1,rfl,g3.symm⟩,rfl,_,rfl,ite2 (fun c=>absurd (V.str.inj (of_decide_eq_true c)) ny) (fun _=>iteF ?_)⟩
  refine⟨_,rfl,wd,_,rfl, .inl ⟨kvs,Sum.inr "word", .inl g1,rfl,g3.symm⟩,rfl,_,rfl,ite2 (fun _=>q) (fun c=>absurd ?_ c)⟩
  rw[decide_eq_false (fun z=>ny (V.str.inj z))]
  rfl
 |stuck wd x u1 u2 b1 b2 M c u e hw k1 k2 hb q=>
  subst e
  obtain⟨kvs,g1,g2,g3,g4⟩:=id hw
  obtain⟨t1,ty1,e1⟩:=k1.int_ (K:=K)
  obtain⟨t2,ty2,e2⟩:=k2.int_ (K:=K)
  refine⟨_,rfl,wd,_,rfl, .inl ⟨kvs,Sum.inr "word", .inl g1,rfl,g3.symm⟩,rfl,_,rfl,ite2 (fun _=>?_) (fun c=>absurd (decide_eq_true rfl) c)⟩
  refine⟨_,rfl,_,_,_,_,rfl,ty1,e1,b1,rfl,?_⟩
  cases b1 with
  |false=>
   refine iteF (iteT ?_)
   refine⟨_,rfl, .set wd "stuck" M c u rfl hw fun H1 w1 k1=>?_⟩
   obtain⟨kvs1,f1,f2,f3,f4⟩:=id w1
   refine⟨_,rfl,wd,_,rfl, .inl ⟨kvs1,Sum.inr "word", .inl f1,rfl,f3.symm⟩,rfl,_,rfl,ite2 (fun _=>q H1 w1 k1) (fun c=>absurd ?_ c)⟩
   exact nw_t (ot_no .stuck)
  |true=>
   obtain rfl:b2=false:=hb
   refine iteT ⟨_,rfl,_,_,_,_,rfl,ty2,e2,false,rfl,iteT ?_⟩
   refine⟨_,rfl, .set wd "stuck" M c u rfl hw fun H1 w1 k1=>?_⟩
   obtain⟨kvs1,f1,f2,f3,f4⟩:=id w1
   refine⟨_,rfl,wd,_,rfl, .inl ⟨kvs1,Sum.inr "word", .inl f1,rfl,f3.symm⟩,rfl,_,rfl,ite2 (fun _=>q H1 w1 k1) (fun c=>absurd ?_ c)⟩
   exact nw_t (ot_no .stuck)
 |ok wd k i j M c u e hk hw hi hj q1 q2=>
  subst e
  obtain⟨kvs,g1,g2,g3,g4⟩:=id hw
  refine⟨_,rfl,wd,_,rfl, .inl ⟨kvs,Sum.inr "word", .inl g1,rfl,g3.symm⟩,rfl,_,rfl,ite2 (fun _=>?_) (fun c=>absurd (decide_eq_true rfl) c)⟩
  refine⟨_,rfl,_,_,_,_,rfl, .int i,kit_int K,true,rfl,iteT ⟨_,rfl,_,_,_,_,rfl, .int j,kit_int K,true,rfl,iteF ?_⟩⟩
  refine⟨_,rfl,wd,_,rfl, .inl ⟨kvs,Sum.inr "word", .inl g1,rfl,g3.symm⟩,rfl,_,rfl,ite2 (fun c=>absurd c (by simp)) (fun _=>?_)⟩
  by_cases k3:k=3
  ·subst k3
   refine⟨_,rfl,rfl,_,rfl,ite2 (fun _=>?_) (fun c=>absurd (decide_eq_true rfl) c)⟩
   refine⟨_,rfl,_,rfl,_,_,rfl,rfl, .inr ⟨_,rfl,?_⟩⟩
   have e3:rk 3 i j=if decide (i<j)=true then 1 else 0:=by show(if i<j then 1 else 0)=_;by_cases c:i<j<;>simp[c]
   have h3:In60 (rk 3 i j):=by rw[e3];unfold In60 G60;split<;>decide
   have:=q1 h3 H (Same.refl _)
   rw[e3]at this
   exact this
  ·have hk2:k≤2:=by omega
   refine⟨_,rfl,rfl,_,rfl,ite2 (fun c=>absurd (V.str.inj (of_decide_eq_true c)) (less_no k hk2)) (fun _=>?_)⟩
   refine⟨_,k,i,j,hk2,rfl,hi,hj,fun H1 s1=>?_⟩
   refine⟨_,rfl,_,rfl,10,60,rfl,rfl,⟨by decide,by decide,by decide⟩,_,_,rfl,rfl,_,rfl,ite2 (fun c9=>?_) (fun c9=>?_)⟩
   ·have c1:G60≤if rk k i j<0 then -(rk k i j) else rk k i j:=of_decide_eq_true c9
    exact⟨_,rfl, .set wd "great" M c u rfl (hw.same s1) fun H2 w2 k2=>⟨_,rfl,q2 ((abs_in _).mp c1) H2 w2 ((kw_same s1).trans k2)⟩⟩
   ·have c1:¬(G60≤if rk k i j<0 then -(rk k i j) else rk k i j):=fun z=>c9 (decide_eq_true z)
    have c2:In60 (rk k i j):=by
     by_cases z:In60 (rk k i j)
     ·exact z
     ·exact absurd ((abs_in _).mpr z) c1
    exact⟨_,rfl,q1 c2 H1 s1⟩
end
def mx (most:Int):Int:=if most>0 then most else 0
def NI (v:V):Prop:=v=.non∨∃i,v=.int i
def callE (most:Int)(m:Nat)(x:Str)(b:Ph)(e:En)(j:Int)(c u:Nat):Option (Rs×Nat):=if ¬e.length≤900 then none else if(c:Int)+1>most then some (.out .long,c) else if u+1>10 then some (.out .deep,c) else ev most m b ((x,j)::e) (c+1) (u+1)
structure Go (wd:Addr)(most:Int)(u:Nat)(H:Hp)(Q:VK)(r:Rs)(c':Nat):Prop where
 v:∀i,r=.val i→In60 i→∀H',WdB H' wd "" (mx most) c' u→Kw wd H H'→Q (.int i) H'
 o:∀o,r=.out o→∀v' H' (u':Int),NI v'→WdB H' wd (otW o) (mx most) c' u'→Kw wd H H'→Q v' H'
theorem Go.kw {wd:Addr}{most:Int}{u:Nat}{H H1:Hp}{Q:VK}{r:Rs}{c':Nat}(g:Go wd most u H Q r c')(k:Kw wd H H1):Go wd most u H1 Q r c' :=
 ⟨fun i h h6 H' b c=>g.v i h h6 H' b (k.trans c),fun o h v' H' u' a b c=>g.o o h v' H' u' a b (k.trans c)⟩
theorem LE.kw {wd d:Addr}{H H':Hp}{e:En}(h:LE H d e)(n:d≠wd)(k:Kw wd H H'):LE H' d e:=h.dks fun kvs q=>k _ _ n q
theorem LE.same {d:Addr}{H H':Hp}{e:En}(h:LE H d e)(s:Same H H'):LE H' d e:=h.dks fun kvs q=>s _ _ q
abbrev pVl:List Str:=["_law_world_here","_law_phrase","_law_names_here"]
inductive spVal (m:Nat)(vs:List V)(H:Hp)(Q:VK)(E_:XK):Prop where
 |ok (wd:Addr) (v:V) (d:Addr) (p:Ph) (e:En) (most:Int) (c u:Nat) (r:Rs) (c':Nat):vs=[.ref wd,v, .ref d]→WdB H wd "" (mx most) c u→PhL H v p→LE H d e→d≠wd→ev most m p e c u=some (r,c')→Go wd most u H Q r c'→spVal m vs H Q E_
 |fn (wd r d:Addr) (x:Str) (vb:V) (M c u:Int):vs=[.ref wd, .ref r, .ref d]→WdB H wd "" M c u→H r=some (.tup [.str "fun", .str x,vb])→(∀(o:Addr) H',Same H H'→H' o=some (.lst [.str x,vb, .ref d])→Q (.ref o) H')→spVal m vs H Q E_
 |no (wd:Addr) (x y:V) (z:Str) (M c u:Int):vs=[.ref wd,x,y]→WdB H wd z M c u→z≠""→Q .non H→spVal m vs H Q E_
def spValN:Nat→Sp
 |0=>fun _ _ _ _=>False
 |m+1=>spVal (m+1)
inductive spCal (m:Nat)(vs:List V)(H:Hp)(Q:VK)(E_:XK):Prop where
 |ok (wd o d:Addr) (x:Str) (bv:V) (b:Ph) (e:En) (j:Int) (most:Int) (c u:Nat) (r:Rs) (c':Nat):vs=[.ref wd, .ref o, .int j]→WdB H wd "" (mx most) c u→H o=some (.lst [.str x,bv, .ref d])→PhL H bv b→LE H d e→d≠wd→In60 j→callE most m x b e j c u=some (r,c')→Go wd most u H Q r c'→spCal m vs H Q E_
 |no (wd o:Addr) (xs:List V) (y:V) (z:Str) (M c u:Int):vs=[.ref wd, .ref o,y]→H o=some (.lst xs)→WdB H wd z M c u→z≠""→Q .non H→spCal m vs H Q E_
theorem mx_le {most:Int}{c:Nat}:(c:Int)+1>most↔mx most≤c:=by
 unfold mx
 split<;>omega
theorem boot_list':bootBuiltins "list"=some (.type "list"):=by decide+kernel
section
variable {P:Program}{w:World}{K:PySem.W.Frag}{mg:Str→Option Value}{base:Heap}{f:Addr}{fd:FuncData}
abbrev s_cal:Stmt:=top 73
abbrev nCal:List Str:=["_law_world_here","_law_function","_law_thing","_law_inner","_law_made"]
theorem sc_cal:FnScope nCal ["_law_world_here","_law_function","_law_thing"] (defScope s_cal):=⟨rfl,rfl,rfl,by decide+kernel,rfl,by decide+kernel,by decide+kernel⟩
set_option maxHeartbeats 4000000 in
theorem ok_cal {m k:Nat}(F:Fun K "_law_called" "_law_called" s_cal f fd)(mD:mg "dict"=none)(mi:mg "isinstance"=none)(mL:mg "list"=none)(h0:Has P w K mg base 1 "_law_fault" ["_law_world_here","_law_word"] spFault)(hV:Has P w K mg base (k+1) "_law_value" pVl (spValN m)):FnOk P w K mg base CX0 (k+2) f fd ["_law_world_here","_law_function","_law_thing"] (spCal m):=by
 refine F.ok sc_cal (len:=(by rintro _ _ _ _ ⟨⟩<;>subst_vars<;>rfl)) (fun cdv A outer s H vs Q E hr h=>?_)
 have hu:=hu_of hr
 refine⟨_,pss_cons (ps_if (pt_not (pt_val (pe_callB call_isi rfl mi boot_isinstance (pa_cons (pv 1) (pa_cons (pe_bltn (v:=.ty "list") rfl mL boot_list' rfl) pa_nil))))) (pss_one (ps_expr (pcall h0 hr (Nat.le_add_left _ _) rfl (pa_cons (pv 0) (pa_cons pe_str pa_nil)))))
   (pss_one (ps_if (pt_cmpR op_ge (pe_dget hu (pv 0) pe_str) (pe_dget hu (pv 0) pe_str)) (pss_one (ps_expr (pcall h0 hr (Nat.le_add_left _ _) rfl (pa_cons (pv 0) (pa_cons pe_str pa_nil)))))
    (pss_one (ps_if (pt_cmpR op_ge (pe_dget hu (pv 0) pe_str) pe_int) (pss_one (ps_expr (pcall h0 hr (Nat.le_add_left _ _) rfl (pa_cons (pv 0) (pa_cons pe_str pa_nil))))) pss_nil)))))
  (pss_cons (ps_if (pt_cmpR op_ne (pe_dget hu (pv 0) pe_str) pe_str) (pss_one (ps_ret pe_non)) pss_nil)
  (pss_cons (ps_daug hu (pv 0) pe_str pe_int in_add (fun _ _ _=>rfl))
  (pss_cons (ps_daug hu (pv 0) pe_str pe_int in_add (fun _ _ _=>rfl))
  (pss_cons (pset 3 sc_cal.nd (pe_callTy call_dict_d rfl mD boot_dict' (pa_cons (pe_ix (ixL K) (pv 1) pe_int) pa_nil)))
  (pss_cons (ps_dput hu (pv 3) (pe_ix (ixL K) (pv 1) pe_int) (pv 2) rfl)
  (pss_cons (pset 4 sc_cal.nd (pcall hV hr (Nat.le_refl _) rfl (pa_cons (pv 0) (pa_cons (pe_ix (ixL K) (pv 1) pe_int) (pa_cons (pv 3) pa_nil)))))
  (pss_cons (ps_daug hu (pv 0) pe_str pe_int in_sub (fun _ _ _=>rfl))
  (pss_one (ps_ret (pv 4)))))))))),?_⟩
 cases h with
 |no wd o xs y z M c u e ho hw nz q=>
  subst e
  obtain⟨kvs,g1,g2,g3,g4,g5,g6⟩:=id hw
  refine⟨_,rfl,_,_,_,_,rfl, .lst ho,(kit_l K).2.1,true,rfl,iteF (dg_at rfl g1 g4 (dg_at rfl g1 g6 ⟨_,_,rfl,rfl,_,rfl,ite2 (fun _=>?_) (fun _=>?_)⟩))⟩
  ·exact⟨_,rfl, .old wd "long" z M c u rfl hw nz (dg_at rfl g1 g3 ⟨rfl,_,rfl,ite2 (fun _=>q) (fun c=>absurd (nw_t nz) c)⟩)⟩
  ·refine dg_at rfl g1 g5 ⟨_,_,rfl,rfl,_,rfl,ite2 (fun _=>?_) (fun _=>?_)⟩
   ·exact⟨_,rfl, .old wd "deep" z M c u rfl hw nz (dg_at rfl g1 g3 ⟨rfl,_,rfl,ite2 (fun _=>q) (fun c=>absurd (nw_t nz) c)⟩)⟩
   ·exact dg_at rfl g1 g3 ⟨rfl,_,rfl,ite2 (fun _=>q) (fun c=>absurd (nw_t nz) c)⟩
 |ok wd o d x bv body e' j most c u r c' e hw ho hb he ndw hj hc go=>
  subst e
  obtain⟨kvs,g1,g2,g3,g4,g5,g6⟩:=id hw
  unfold callE at hc
  by_cases zl:¬e'.length≤900
  ·rw[if_pos zl]at hc;cases hc
  rw[if_neg zl]at hc
  have zl':e'.length≤900:=Decidable.not_not.mp zl
  refine⟨_,rfl,_,_,_,_,rfl, .lst ho,(kit_l K).2.1,true,rfl,iteF ?_⟩
  by_cases z1:(c:Int)+1>most
  ·rw[if_pos z1]at hc
   cases hc
   refine dg_at rfl g1 g4 (dg_at rfl g1 g6 ⟨_,_,rfl,rfl,_,rfl,ite2 (fun _=>?_) (fun c=>absurd (decide_eq_true (mx_le.mp z1)) c)⟩)
   refine⟨_,rfl, .set wd "long" _ _ _ rfl hw fun H1 w1 k1=>?_⟩
   obtain⟨kvs1,f1,f2,f3,f4⟩:=id w1
   exact dg_at rfl f1 f3 ⟨rfl,_,rfl,ite2 (fun _=>go.o .long rfl .non H1 _ (.inl rfl) w1 k1) (fun c=>absurd (nw_t (ot_no .long)) c)⟩
  rw[if_neg z1]at hc
  refine dg_at rfl g1 g4 (dg_at rfl g1 g6 ⟨_,_,rfl,rfl,_,rfl,ite2 (fun c=>absurd (mx_le.mpr (of_decide_eq_true c)) z1) (fun _=>?_)⟩)
  by_cases z2:u+1>10
  ·rw[if_pos z2]at hc
   cases hc
   refine dg_at rfl g1 g5 ⟨_,_,rfl,rfl,_,rfl,ite2 (fun _=>?_) (fun c=>absurd (decide_eq_true (by show(10:Int)≤u;omega)) c)⟩
   refine⟨_,rfl, .set wd "deep" _ _ _ rfl hw fun H1 w1 k1=>?_⟩
   obtain⟨kvs1,f1,f2,f3,f4⟩:=id w1
   exact dg_at rfl f1 f3 ⟨rfl,_,rfl,ite2 (fun _=>go.o .deep rfl .non H1 _ (.inl rfl) w1 k1) (fun c=>absurd (nw_t (ot_no .deep)) c)⟩
  rw[if_neg z2]at hc
  refine dg_at rfl g1 g5 ⟨_,_,rfl,rfl,_,rfl,ite2 (fun c=>absurd (of_decide_eq_true c) (by show ¬(10:Int)≤u;omega)) (fun _=>?_)⟩
  refine dg_at rfl g1 g3 ⟨rfl,_,rfl,ite2 (fun c=>absurd c (by simp)) (fun _=>?_)⟩
  obtain⟨ka,a1,a2,a3,w1⟩:=wd_begun (c':=(c:Int)+1) hw
  refine⟨_,rfl,wd,_,rfl, .inl ⟨ka,Sum.inr "begun", .inl a1,rfl,a3.symm⟩,_,_,rfl,rfl,_,DPut.k (k:=Sum.inr "begun") a1 (small' (by exact Nat.le_trans a2 (by decide))),?_⟩
  have k1:Kw wd H (upd H wd (.dK (putK ka (Sum.inr "begun") (.int ((c:Int)+1))))):=kw_upd
  revert w1 k1
  generalize upd H wd (.dK (putK ka (Sum.inr "begun") (.int ((c:Int)+1))))=H1
  intro w1 k1
  obtain⟨kb,b1,b2,b3,w2⟩:=wd_under (u':=(u:Int)+1) w1
  refine⟨_,rfl,wd,_,rfl, .inl ⟨kb,Sum.inr "under", .inl b1,rfl,b3.symm⟩,_,_,rfl,rfl,_,DPut.k (k:=Sum.inr "under") b1 (small' (by exact Nat.le_trans b2 (by decide))),?_⟩
  have k2:Kw wd H1 (upd H1 wd (.dK (putK kb (Sum.inr "under") (.int ((u:Int)+1))))):=kw_upd
  revert w2 k2
  generalize upd H1 wd (.dK (putK kb (Sum.inr "under") (.int ((u:Int)+1))))=H2
  intro w2 k2
  have k02:=k1.trans k2
  have ho2:=hw.ls k02 ho
  obtain⟨kd,d1,d2,d3,d4⟩:=he.kw ndw k02
  refine⟨_,rfl,o,_,2, .ref d,rfl,rfl,SqL.of ho2,atI_nat (j:=2) rfl,d,kd,rfl,d1,fun dd hdd=>?_⟩
  have s3:=same_new hdd (.dK kd)
  have b3':(upd H2 dd (.dK kd)) dd=some (.dK kd):=upd_same
  have nw:dd≠wd:=fun z=>w2.there (by rw[←z];exact hdd)
  revert s3 b3'
  generalize upd H2 dd (.dK kd)=H3
  intro s3 b3'
  refine⟨_,rfl,_,rfl,_,rfl,o,_,0, .str x,rfl,rfl,SqL.of (s3 _ _ ho2),atI_nat (j:=0) rfl,dd,_,rfl,DPut.k (k:=Sum.inr x) b3' (small' (by omega)),?_⟩
  have k4:Kw dd H3 (upd H3 dd (.dK (putK kd (Sum.inr x) (.int j)))):=kw_upd
  have b4:(upd H3 dd (.dK (putK kd (Sum.inr x) (.int j)))) dd=some (.dK (putK kd (Sum.inr x) (.int j))):=upd_same
  revert k4 b4
  generalize upd H3 dd (.dK (putK kd (Sum.inr x) (.int j)))=H4
  intro k4 b4
  have s24:Same H2 H4:=fun b o h=>k4 b o (ne_of_none h hdd) (s3 b o h)
  have k04:=k02.trans (kw_same s24)
  have he4:LE H4 dd ((x,j)::e'):=le_put d2 d3 d4 hj b4
  have w4:=w2.same s24
  cases m with
  |zero=>unfold ev at hc;cases hc
  |succ m=>
  refine⟨_,rfl,_,rfl,o,_,1,bv,rfl,rfl,SqL.of (s24 _ _ ho2),atI_nat (j:=1) rfl,_,rfl, .ok wd bv dd body ((x,j)::e') most (c+1) (u+1) r c' rfl w4 (hb.tps (hw.tp k04)) he4 nw hc ⟨fun i hr' h6 H5 w5 k5=>?_,fun oo hr' v5 H5 u5 n5 w5 k5=>?_⟩⟩
  ·obtain⟨kc,c1,c2,c3,w6⟩:=wd_under (u':=((u+1:Nat):Int)-1) w5
   refine⟨_,rfl,wd,_,rfl, .inl ⟨kc,Sum.inr "under", .inl c1,rfl,c3.symm⟩,_,_,rfl,rfl,_,DPut.k (k:=Sum.inr "under") c1 (small' (by exact Nat.le_trans c2 (by decide))),?_⟩
   rw[show((u+1:Nat):Int)-1=u by omega]at w6 ⊢
   exact⟨_,rfl,go.v i hr' h6 _ w6 (k04.trans (k5.trans kw_upd))⟩
  ·obtain⟨kc,c1,c2,c3,w6⟩:=wd_under (u':=u5-1) w5
   refine⟨_,rfl,wd,_,rfl, .inl ⟨kc,Sum.inr "under", .inl c1,rfl,c3.symm⟩,_,_,rfl,rfl,_,DPut.k (k:=Sum.inr "under") c1 (small' (by exact Nat.le_trans c2 (by decide))),?_⟩
   exact⟨_,rfl,go.o oo hr' v5 _ _ n5 w6 (k04.trans (k5.trans kw_upd))⟩
end
def bdW:List Str:=["let","ring","case","if","pick"]
def opW:List Str:=["plus","minus","times","less"]
theorem op_words:∀k,k≤3→wordOf k∈opW∧wordOf k∉bdW∧wordOf k≠"fun"∧wordOf k≠"call"∧wordOf k≠"make":=fun k hk=>by
 have:k=0∨k=1∨k=2∨k=3:=by omega
 rcases this with rfl|rfl|rfl|rfl<;>decide+kernel
theorem bd_in:("let":Str)∈bdW∧("if":Str)∈bdW∧("ring":Str)∈bdW∧("let":Str)≠"fun"∧("if":Str)≠"fun"∧("ring":Str)≠"fun"∧("call":Str)≠"fun"∧("call":Str)∉bdW∧("call":Str)≠"make":=by decide+kernel
theorem kit_v (K:PySem.W.Frag):PySem.W.kitOne K (.type "tuple") (.type "int")=some false∧PySem.W.kitOne K (.type "tuple") (.type "str")=some false∧PySem.W.kitOne K (.type "str") (.type "int")=some false:=⟨by first|rfl|kernel_rfl,by first|rfl|kernel_rfl,by first|rfl|kernel_rfl⟩
abbrev s_val:Stmt:=top 77
abbrev nVl:List Str:=["_law_world_here","_law_phrase","_law_names_here","_law_values"]
theorem sc_val:FnScope nVl pVl (defScope s_val):=⟨rfl,rfl,rfl,by decide+kernel,rfl,by decide+kernel,by decide+kernel⟩
@[irreducible] def stV4:Stmt:=(defBody s_val).getD 4 (.Pass ⟨0,0,0,0⟩)
@[irreducible] def stV5:Stmt:=(defBody s_val).getD 5 (.Pass ⟨0,0,0,0⟩)
@[irreducible] def stV7:Stmt:=(defBody s_val).getD 7 (.Pass ⟨0,0,0,0⟩)
abbrev stVi (i:Nat):Stmt:=(defBody s_val).getD i (.Pass ⟨0,0,0,0⟩)
theorem bodyV:defBody s_val=stVi 0::stVi 1::stVi 2::stVi 3::stV4::stV5::stVi 6::stV7::(defBody s_val).drop 8:=by
 unfold stV4 stV5 stV7
 rfl
def spCalN:Nat→Sp
 |0=>fun _ _ _ _=>False
 |m+1=>spCal m
def tV4:TS:=fun D σ H=>∃(v0 v2:V) (r:Addr) (z:Str) (xs:List V),σ=[some v0,some (.ref r),some v2,none]∧H r=some (.tup (.str z::xs))∧z∉bdW∧∀H',Same H H'→D.nx σ H'
def tV7:TS:=fun D σ H=>∃(v0 v2 u1 u2:V) (r l:Addr) (z:Str) (xs:List V),σ=[some v0,some (.ref r),some v2,some (.ref l)]∧H r=some (.tup (.str z::xs))∧H l=some (.lst [u1,u2])∧z∈opW∧∀H',Same H H'→spRck [v0, .str z,u1,u2] H' D.rt E0
inductive Snd (H:Hp)(wd:Addr)(most:Int)(u:Nat)(r:Rs)(c':Nat)(u2:V)(H':Hp):Prop where
 |ok (i:Int):r=.val i→In60 i→u2=.int i→WdB H' wd "" (mx most) c' u→Kw wd H H'→Snd H wd most u r c' u2 H'
 |no (o:Ot) (u':Int):r=.out o→WdB H' wd (otW o) (mx most) c' u'→Kw wd H H'→Snd H wd most u r c' u2 H'
theorem Snd.kw {H:Hp}{wd:Addr}{most:Int}{u:Nat}{r:Rs}{c':Nat}{u2:V}{H':Hp}(h:Snd H wd most u r c' u2 H'):Kw wd H H':=by cases h<;>assumption
theorem Snd.wl {H:Hp}{wd:Addr}{most:Int}{u:Nat}{r:Rs}{c':Nat}{u2:V}{H' H2:Hp}(h:Snd H wd most u r c' u2 H')(s:Same H' H2):Snd H wd most u r c' u2 H2:=by
 cases h with
 |ok i a b c d e=>exact .ok i a b c (d.same s) (e.trans (kw_same s))
 |no o u' a b c=>exact .no o u' a (b.same s) (c.trans (kw_same s))
theorem Snd.pre {H0 H:Hp}{wd:Addr}{most:Int}{u:Nat}{r:Rs}{c':Nat}{u2:V}{H':Hp}(h:Snd H wd most u r c' u2 H')(k:Kw wd H0 H):Snd H0 wd most u r c' u2 H':=by
 cases h with
 |ok i a b c d e=>exact .ok i a b c d (k.trans e)
 |no o u' a b c=>exact .no o u' a b (k.trans c)
inductive Two (H:Hp)(wd:Addr)(most:Int)(u:Nat)(m:Nat)(e:En)(pb:Ph)(r1:Rs)(c1:Nat)(u1 u2:V)(H':Hp):Prop where
 |ok (i j:Int) (c2:Nat):r1=.val i→In60 i→ev most m pb e c1 u=some (.val j,c2)→In60 j→u1=.int i→u2=.int j→WdB H' wd "" (mx most) c2 u→Kw wd H H'→Two H wd most u m e pb r1 c1 u1 u2 H'
 |no (o:Ot) (c2:Nat) (u':Int):((r1=.out o∧c2=c1)∨∃i,r1=.val i∧ev most m pb e c1 u=some (.out o,c2))→WdB H' wd (otW o) (mx most) c2 u'→Kw wd H H'→Two H wd most u m e pb r1 c1 u1 u2 H'
theorem Two.kw {H:Hp}{wd:Addr}{most:Int}{u m:Nat}{e:En}{pb:Ph}{r1:Rs}{c1:Nat}{u1 u2:V}{H':Hp}(h:Two H wd most u m e pb r1 c1 u1 u2 H'):Kw wd H H':=by cases h<;>assumption
def tV5 (m:Nat):TS:=fun D σ H=>∃(wd r d:Addr) (z:Str) (va vb:V) (e:En) (most:Int) (c u:Nat),σ=[some (.ref wd),some (.ref r),some (.ref d),none]∧z≠"make"∧H r=some (.tup [.str z,va,vb])∧WdB H wd "" (mx most) c u∧LE H d e∧d≠wd∧
 ((∃(pa pb:Ph) (r1:Rs) (c1:Nat),PhL H va pa∧PhL H vb pb∧ev most m pa e c u=some (r1,c1)∧(∀i,r1=.val i→ev most m pb e c1 u≠none)∧∀(l:Addr) u1 u2 H',H' l=some (.lst [u1,u2])→Two H wd most u m e pb r1 c1 u1 u2 H'→D.nx [some (.ref wd),some (.ref r),some (.ref d),some (.ref l)] H')∨
  (∃(ra:Addr) (x:Str) (bv:V) (pb:Ph) (r2:Rs) (c2:Nat),va=.ref ra∧H ra=some (.tup [.str "fun", .str x,bv])∧PhL H vb pb∧ev most m pb e c u=some (r2,c2)∧∀(l o:Addr) u2 H',H' l=some (.lst [.ref o,u2])→H' o=some (.lst [.str x,bv, .ref d])→Snd H wd most u r2 c2 u2 H'→D.nx [some (.ref wd),some (.ref r),some (.ref d),some (.ref l)] H'))
section
variable {P:Program}{w:World}{K:PySem.W.Frag}{mg:Str→Option Value}{base:Heap}{f:Addr}{fd:FuncData}{m k:Nat}{cdv:Value}{A:Around}{outer:List Env}{s:Shared}{H0:Hp}{E:XK}
abbrev LX (P:Program)(w:World)(K:PySem.W.Frag)(mg:Str→Option Value)(base:Heap)(f:Addr)(cdv:Value)(A:Around)(outer:List Env)(s:Shared)(H:Hp)(E:XK):Cx:=(cxOf CX0 P w K mg base nVl "_law_value" (defScope s_val) f cdv A outer s H E).nox
set_option maxHeartbeats 1000000 in
theorem ps_V4:PSx (LX P w K mg base f cdv A outer s H0 E) stV4 tV4:=by
 unfold stV4
 refine x_weak ⟨ps_if (pt_cmpR op_in_seq (pe_ix (ixT K) (pv 1) pe_int) (x_tup (x_str (x_str (x_str (x_str (x_str x_nil)))))).h (by with_unfolding_all rfl)) pss_never pss_nil⟩ ?_
 rintro D σ H ⟨v0,v2,r,z,xs,rfl,hr',hz,q⟩
 refine ix_t (a:=r) (j:=0) rfl hr' rfl ⟨sml 5,fun p hp=>⟨p,bdW.map V.str,rfl, .inr (SqT.of upd_same),rfl,flat_strs _,_,rfl,?_⟩⟩
 rw[if_neg Bool.false_ne_true,inV_str]
 have s1:=same_new hp (.tup (bdW.map V.str))
 rw[decide_eq_false hz]
 exact iteF (q _ s1)
set_option maxHeartbeats 1000000 in
theorem ps_V7 (hr:Room (k+2) (A.deeper (envOfC "_law_value" (defScope s_val) s.heap.objs.size f cdv)))(hR:Has P w K mg base 2 "_law_reckoned" ["_law_world_here","_law_word","_law_one","_law_other"] spRck):PSx (LX P w K mg base f cdv A outer s H0 E) stV7 tV7:=by
 unfold stV7
 refine x_weak ⟨ps_if (pt_cmpR op_in_seq (pe_ix (ixT K) (pv 1) pe_int) (x_tup (x_str (x_str (x_str (x_str x_nil))))).h (by with_unfolding_all rfl)) (pss_one (ps_ret (pcall hR hr (Nat.le_add_left _ _) rfl (pa_cons (pv 0) (pa_cons (pe_ix (ixT K) (pv 1) pe_int) (pa_cons (pe_ix (ixL K) (pv 3) pe_int) (pa_cons (pe_ix (ixL K) (pv 3) pe_int) pa_nil))))))) pss_nil⟩ ?_
 rintro D σ H ⟨v0,v2,u1,u2,r,l,z,xs,rfl,hr',hl,hz,q⟩
 refine ix_t (a:=r) (j:=0) rfl hr' rfl ⟨sml 4,fun p hp=>⟨p,opW.map V.str,rfl, .inr (SqT.of upd_same),rfl,flat_strs _,_,rfl,?_⟩⟩
 rw[if_neg Bool.false_ne_true,inV_str,decide_eq_true hz]
 have s1:=same_new hp (.tup (opW.map V.str))
 exact iteT ⟨_,rfl,ix_t (a:=r) (j:=0) rfl (s1 _ _ hr') rfl ⟨_,rfl,l,_,0,u1,rfl,rfl,SqL.of (s1 _ _ hl),atI_nat (j:=0) rfl,_,rfl,l,_,1,u2,rfl,rfl,SqL.of (s1 _ _ hl),atI_nat (j:=1) rfl,q _ s1⟩⟩
set_option maxHeartbeats 2000000 in
theorem ps_V5 (hr:Room k (A.deeper (envOfC "_law_value" (defScope s_val) s.heap.objs.size f cdv)))(mI:mg "int"=none)(hV:Has P w K mg base k "_law_value" pVl (spValN m)):PSx (LX P w K mg base f cdv A outer s H0 E) stV5 (tV5 m):=by
 unfold stV5
 refine x_weak ⟨ps_lc (defScope s_val) nVl ["_law_world_here","_law_names_here"] [0,2] (by decide+kernel) (piT K (pe_slice (slT K) (pv 1) (po_some (pe_op op_add pe_int (pe_callTy call_int1 rfl mI boot_int (pa_cons (pe_cmpR op_eq (pe_ix (ixT K) (pv 1) pe_int) pe_str) pa_nil)))) po_none)) (pg_name (i:=3) sc_val.nd rfl (Or.inl rfl)) (fun C s₀ H₀ ex=>pts_nil)
   (fun C s₀ H₀ ex=>pcall hV hr (Nat.le_refl _) rfl (pa_cons (pv 1) (pa_cons (pv 0) (pa_cons (pv 2) pa_nil)))) (by with_unfolding_all rfl)⟩ ?_
 rintro D σ H ⟨wd,r,d,zw,va,vb,e,most,c,u,rfl,wm,hr',hw,hd,ndw,alt⟩
 refine⟨_,rfl,?_⟩
 refine ix_t (a:=r) (j:=0) rfl hr' rfl ⟨rfl, .inr ⟨_,rfl,_,_,rfl,rfl,?_⟩⟩
 rw[decide_eq_false (fun z=>wm (V.str.inj z))]
 refine⟨1,rfl,r,_,rfl,SqT.of hr',(by rintro⟨z,_⟩;exact absurd z (by show ¬HT.sIx 3 0 (some 1)=0;decide)),fun p1 hp1=>?_⟩
 rw[show cutV ([.str zw,va,vb]:List V) (some 1) none=[va,vb] from rfl]
 have s1:=same_new hp1 (.tup [va,vb])
 have b1:(upd H p1 (.tup [va,vb])) p1=some (.tup [va,vb]):=upd_same
 revert s1 b1
 generalize upd H p1 (.tup [va,vb])=H1
 intro s1 b1
 have hw1:=hw.same s1
 have hd1:=hd.same s1
 rcases alt with ⟨pa,pb,r1,c1,ha,hb,ea,nbb,q⟩|⟨ra,x,bv,pb,r2,c2,rfl,hra,hb,eb,q⟩
 ·have ha1:=ha.same s1
  have hb1:=hb.same s1
  cases m with
  |zero=>exact absurd ea (by unfold ev;intro z;cases z)
  |succ m=>
  refine⟨p1,rfl,⟨_,SqT.of b1⟩,comp_tup (xs:=[va,vb]) (fun i vs H'=>(i=0∧vs=[]∧H'=H1)∨(i=1∧∃u1,vs=[u1]∧Snd H1 wd most u r1 c1 u1 H')∨(i=2∧∃u1 u2,vs=[u1,u2]∧Two H1 wd most u (m+1) e pb r1 c1 u1 u2 H')) (.inl ⟨rfl,rfl,rfl⟩) ?_ ?_ ?_⟩
  ·rintro i vs H' hi (⟨rfl,rfl,rfl⟩|⟨rfl,u1,rfl,o1⟩|⟨rfl,u1,u2,rfl,t2⟩)
   ·exact⟨SqT.of b1,small' (by show 0≤_;exact Nat.zero_le _)⟩
   ·exact⟨SqT.of (hw1.tp o1.kw _ _ b1),small' (by show 1≤_;decide)⟩
   ·exact⟨SqT.of (hw1.tp t2.kw _ _ b1),small' (by show 2≤_;decide)⟩
  ·rintro i x vs H' hi hx (⟨rfl,rfl,rfl⟩|⟨rfl,u1,rfl,o1⟩|⟨rfl,_⟩)
   ·cases hx
    exact tt1 (iteT ⟨_,rfl,_,rfl,_,rfl, .ok wd va d pa e most c u r1 c1 rfl hw1 ha1 hd1 ndw ea ⟨fun i hr1 h6 H2 w2 k2=>nx hi (.inr (.inl ⟨rfl,_,rfl, .ok i hr1 h6 rfl w2 k2⟩)),fun oo hr1 v2 H2 u2 n2 w2 k2=>nx hi (.inr (.inl ⟨rfl,_,rfl, .no oo u2 hr1 w2 k2⟩))⟩⟩)
   ·cases hx
    cases o1 with
    |ok i0 hr1 h6 eu w2 k1=>
     cases eb:ev most (m+1) pb e c1 u with
     |none=>exact absurd eb (nbb _ hr1)
     |some rc=>
      obtain⟨r2,c2⟩:=rc
      exact tt1 (iteT ⟨_,rfl,_,rfl,_,rfl, .ok wd vb d pb e most c1 u r2 c2 rfl w2 (hb1.tps (hw1.tp k1)) (hd1.kw ndw k1) ndw eb ⟨fun j hr2 h6j H3 w3 k3=>nx hi (.inr (.inr ⟨rfl,_,_,rfl, .ok i0 j c2 hr1 h6 (by rw[eb,hr2]) h6j eu rfl w3 (k1.trans k3)⟩)),fun oo hr2 v3 H3 u3 n3 w3 k3=>nx hi (.inr (.inr ⟨rfl,_,_,rfl, .no oo c2 u3 (.inr ⟨i0,hr1,by rw[eb,hr2]⟩) w3 (k1.trans k3)⟩))⟩⟩)
    |no oo u2 hr1 w2 k1=>
     exact tt1 (iteT ⟨_,rfl,_,rfl,_,rfl, .no wd vb (.ref d) _ _ _ _ rfl w2 (ot_no oo) (nx hi (.inr (.inr ⟨rfl,_,_,rfl, .no oo c1 u2 (.inl ⟨hr1,rfl⟩) w2 k1⟩)))⟩)
   ·exact absurd hi (Nat.lt_irrefl _)
  ·rintro vs H' (⟨z,_⟩|⟨z,_⟩|⟨_,u1,u2,rfl,t2⟩) l hl
   ·cases z
   ·cases z
   ·have sl:=same_new hl (.lst [u1,u2])
    refine q l u1 u2 _ upd_same ?_
    cases t2 with
    |ok i j c2 a1 a2 a3 a4 a5 a6 hw2 k2=>exact .ok i j c2 a1 a2 a3 a4 a5 a6 (hw2.same sl) ((kw_same s1).trans (k2.trans (kw_same sl)))
    |no oo c2 u' ee hw2 k2=>exact .no oo c2 u' ee (hw2.same sl) ((kw_same s1).trans (k2.trans (kw_same sl)))
 ·have hb1:=hb.same s1
  cases m with
  |zero=>exact absurd eb (by unfold ev;intro z;cases z)
  |succ m=>
  refine⟨p1,rfl,⟨_,SqT.of b1⟩,comp_tup (xs:=[.ref ra,vb]) (fun i vs H'=>(i=0∧vs=[]∧H'=H1)∨(i=1∧∃o,vs=[.ref o]∧Same H1 H'∧H' o=some (.lst [.str x,bv, .ref d]))∨(i=2∧∃o u2,vs=[.ref o,u2]∧H' o=some (.lst [.str x,bv, .ref d])∧Snd H1 wd most u r2 c2 u2 H')) (.inl ⟨rfl,rfl,rfl⟩) ?_ ?_ ?_⟩
  ·rintro i vs H' hi (⟨rfl,rfl,rfl⟩|⟨rfl,o,rfl,s2,_⟩|⟨rfl,o,u2,rfl,_,t2⟩)
   ·exact⟨SqT.of b1,small' (by show 0≤_;exact Nat.zero_le _)⟩
   ·exact⟨SqT.of (s2 _ _ b1),small' (by show 1≤_;decide)⟩
   ·exact⟨SqT.of (hw1.tp t2.kw _ _ b1),small' (by show 2≤_;decide)⟩
  ·rintro i y vs H' hi hx (⟨rfl,rfl,rfl⟩|⟨rfl,o,rfl,s2,ho⟩|⟨rfl,_⟩)
   ·cases hx
    exact tt1 (iteT ⟨_,rfl,_,rfl,_,rfl, .fn wd ra d x bv _ _ _ rfl hw1 (s1 _ _ hra) fun o H2 s2 ho=>nx hi (.inr (.inl ⟨rfl,o,rfl,s2,ho⟩))⟩)
   ·cases hx
    have w2:=hw1.same s2
    exact tt1 (iteT ⟨_,rfl,_,rfl,_,rfl, .ok wd vb d pb e most c u r2 c2 rfl w2 (hb1.same s2) (hd1.same s2) ndw eb ⟨fun j hr2 h6j H3 w3 k3=>nx hi (.inr (.inr ⟨rfl,_,_,rfl,w2.ls k3 ho, .ok j hr2 h6j rfl w3 ((kw_same s2).trans k3)⟩)),fun oo hr2 v3 H3 u3 n3 w3 k3=>nx hi (.inr (.inr ⟨rfl,_,_,rfl,w2.ls k3 ho, .no oo u3 hr2 w3 ((kw_same s2).trans k3)⟩))⟩⟩)
   ·exact absurd hi (Nat.lt_irrefl _)
  ·rintro vs H' (⟨z,_⟩|⟨z,_⟩|⟨_,o,u2,rfl,ho,t2⟩) l hl
   ·cases z
   ·cases z
   ·have sl:=same_new hl (.lst [.ref o,u2])
    exact q l o u2 _ upd_same (sl _ _ ho) ((t2.wl sl).pre (kw_same s1))
end
section
variable {P:Program}{w:World}{K:PySem.W.Frag}{mg:Str→Option Value}{base:Heap}{f:Addr}{fd:FuncData}{m k:Nat}
abbrev pCl:List Str:=["_law_world_here","_law_function","_law_thing"]
set_option maxHeartbeats 4000000 in
theorem ok_val (F:Fun K "_law_value" "_law_value" s_val f fd)(mi:mg "isinstance"=none)(mI:mg "int"=none)(ms:mg "str"=none)(hR:Has P w K mg base 2 "_law_reckoned" ["_law_world_here","_law_word","_law_one","_law_other"] spRck)
  (hC:Has P w K mg base (k+2) "_law_called" pCl (spCalN m)) (hV:Has P w K mg base (k+2) "_law_value" pVl (spValN m)):FnOk P w K mg base CX0 (k+3) f fd pVl (spValN (m+1)):=by
 refine F.ok sc_val (len:=(by rintro _ _ _ _ ⟨⟩<;>subst_vars<;>rfl)) (fun cdv A outer s H vs Q E hr h=>?_)
 have hu:=hu_of hr
 rw[bodyV]
 refine⟨_,pss_cons (ps_if (pt_cmpR op_ne (pe_dget hu (pv 0) pe_str) pe_str) (pss_one (ps_ret pe_non)) pss_nil)
  (pss_cons (ps_if (pt_val (pe_callB call_isi rfl mi boot_isinstance (pa_cons (pv 1) (pa_cons (pe_bltn (v:=.ty "int") rfl mI boot_int rfl) pa_nil)))) (pss_one (ps_ret (pv 1))) pss_nil)
  (pss_cons (ps_if (pt_val (pe_callB call_isi rfl mi boot_isinstance (pa_cons (pv 1) (pa_cons (pe_bltn (v:=.ty "str") rfl ms boot_str rfl) pa_nil))))
   (pss_cons (ps_if (PW.pt (pw_and (pt_cmpR op_notin_str pe_str (pv 1) (by with_unfolding_all rfl)) (pw_and1 (pt_cmpR op_in_str (pe_ix ix_str (pv 1) pe_int) pe_str (by with_unfolding_all rfl))))) pss_never pss_nil)
   (pss_cons (ps_if (pt_cmpR (op_notInD hu) (pv 1) (pv 2) (by with_unfolding_all rfl)) pss_never pss_nil)
   (pss_one (ps_ret (pe_dget1 hu (pv 2) (pv 1) ⟨rfl,rfl,rfl,rfl⟩))))) pss_nil)
  (pss_cons (ps_if (pt_cmpR op_eq (pe_ix (ixT K) (pv 1) pe_int) pe_str) (pss_one (ps_ret (pe_lst (pa_cons (pe_ix (ixT K) (pv 1) pe_int) (pa_cons (pe_ix (ixT K) (pv 1) pe_int) (pa_cons (pv 2) pa_nil)))))) pss_nil)
  (pss_cons ps_V4.h
  (pss_cons (ps_V5 hr mI hV).h
  (pss_cons (ps_if (pt_cmpR op_eq (pe_ix (ixT K) (pv 1) pe_int) pe_str) (pss_one (ps_ret (pcall hC hr (Nat.le_refl _) rfl (pa_cons (pv 0) (pa_cons (pe_ix (ixL K) (pv 3) pe_int) (pa_cons (pe_ix (ixL K) (pv 3) pe_int) pa_nil)))))) pss_nil)
  (pss_cons (ps_V7 hr hR).h pss_never))))))),?_⟩
 cases h with
 |no wd x y z M c u e hw nz q=>
  subst e
  obtain⟨kvs,g1,g2,g3,g4⟩:=hw
  exact dg_at rfl g1 g3 ⟨rfl,_,rfl,ite2 (fun _=>q) (fun c=>absurd (nw_t nz) c)⟩
 |fn wd r d x vb M c u ee hw hr' q=>
  subst ee
  obtain⟨kvs,g1,g2,g3,g4⟩:=id hw
  refine dg_at rfl g1 g3 ⟨rfl,_,rfl,ite2 (fun c=>absurd c (by simp)) (fun _=>?_)⟩
  refine⟨_,rfl,_,_,_,_,rfl, .tup hr',(kit_v K).1,false,rfl,iteF ⟨_,rfl,_,_,_,_,rfl, .tup hr',(kit_v K).2.1,false,rfl,iteF ?_⟩⟩
  refine ix_t (a:=r) (j:=0) rfl hr' rfl ⟨rfl,_,rfl,ite2 (fun _=>?_) (fun c=>absurd (decide_eq_true rfl) c)⟩
  refine ix_t (a:=r) (j:=1) rfl hr' rfl (ix_t (a:=r) (j:=2) rfl hr' rfl ⟨_,rfl,sml 3,fun o ho=>?_⟩)
  exact q o _ (same_new ho _) upd_same
 |ok wd v d p e most c u r0 c' ee hw hp hd ndw hev go=>
  subst ee
  obtain⟨kvs,g1,g2,g3,g4⟩:=id hw
  obtain⟨bi1,bi2,bi3,bi4,bi5,bi6,bi7,bi8,bi9⟩:=bd_in
  refine dg_at rfl g1 g3 ⟨rfl,_,rfl,ite2 (fun c=>absurd c (by simp)) (fun _=>?_)⟩
  cases hp with
  |num i hi=>
   unfold ev at hev
   cases hev
   exact⟨_,rfl,_,_,_,_,rfl, .int i,kit_int K,true,rfl,iteT ⟨_,rfl,go.v _ rfl hi H hw Kw.refl⟩⟩
  |nm x nmx=>
   obtain⟨ch,hc1,hc2⟩:=nmx.hd
   obtain⟨kv,hdk,hl,hks,h6⟩:=hd
   unfold ev at hev
   cases hx:lkI e x with
   |none=>rw[hx]at hev;cases hev
   |some i=>
    rw[hx]at hev
    cases hev
    have hv:valV kv (Sum.inr x)=some (.int i):=by rw[hks,hx];rfl
    refine⟨_,rfl,_,_,_,_,rfl, .str x,(kit_v K).2.2,false,rfl,iteF ⟨_,rfl,_,_,_,_,rfl, .str x,(kit_is5 K).2,true,rfl,iteT ?_⟩⟩
    refine⟨_,rfl,_,_,rfl,rfl,_,rfl,?_⟩
    rw[nmx.dot]
    refine iteT ⟨_,rfl,x,0,ch,rfl,rfl,small (by have:=nmx.len;omega),hc1,_,_,rfl,rfl,_,rfl,?_⟩
    rw[hc2]
    refine iteF ⟨_,rfl,_,rfl,d,_,rfl, .inl ⟨kv,Sum.inr x, .inl hdk,rfl,hv.symm⟩,_,rfl,iteF ?_⟩
    exact⟨_,rfl,d,rfl, .inl ⟨kv, .inl hdk⟩,_,rfl,_, .inl ⟨kv,Sum.inr x, .inl hdk,rfl,hv.symm⟩,go.v i rfl (h6 _ _ hx) H hw Kw.refl⟩
  |pt t g v ptx=>
   obtain⟨kv,hdk,hl,hks,h6⟩:=hd
   unfold ev at hev
   cases hx:lkI e t with
   |none=>rw[hx]at hev;cases hev
   |some i=>
    rw[hx]at hev
    cases hev
    have hv:valV kv (Sum.inr t)=some (.int i):=by rw[hks,hx];rfl
    refine⟨_,rfl,_,_,_,_,rfl, .str t,(kit_v K).2.2,false,rfl,iteF ⟨_,rfl,_,_,_,_,rfl, .str t,(kit_is5 K).2,true,rfl,iteT ?_⟩⟩
    refine⟨_,rfl,_,_,rfl,rfl,_,rfl,?_⟩
    rw[ptx.dot]
    refine iteF (iteF ⟨_,rfl,_,rfl,d,_,rfl, .inl ⟨kv,Sum.inr t, .inl hdk,rfl,hv.symm⟩,_,rfl,iteF ?_⟩)
    exact⟨_,rfl,d,rfl, .inl ⟨kv, .inl hdk⟩,_,rfl,_, .inl ⟨kv,Sum.inr t, .inl hdk,rfl,hv.symm⟩,go.v i rfl (h6 _ _ hx) H hw Kw.refl⟩
  |@fn r x vb b hr' nx hb=>unfold ev at hev;cases hev
  |@op r k' va vb pa pb hk hr' ha hb=>
   obtain⟨wi,wb,wf,wc,wm⟩:=op_words k' hk
   refine⟨_,rfl,_,_,_,_,rfl, .tup hr',(kit_v K).1,false,rfl,iteF ⟨_,rfl,_,_,_,_,rfl, .tup hr',(kit_v K).2.1,false,rfl,iteF (tag_no rfl hr' wf ?_)⟩⟩
   refine⟨_,_,r,wordOf k',_,rfl,hr',wb,fun H1 s1=>?_⟩
   have hr1:=s1 _ _ hr'
   unfold ev at hev
   cases ea:ev most m pa e c u with
   |none=>rw[ea]at hev;cases hev
   |some rc=>
   obtain⟨r1,c1⟩:=rc
   rw[ea]at hev
   refine⟨wd,r,d,wordOf k',va,vb,e,most,c,u,rfl,wm,hr1,hw.same s1,hd.same s1,ndw, .inl ⟨pa,pb,r1,c1,ha.same s1,hb.same s1,ea,fun i hi z=>?_,fun l u1 u2 H2 hl t2=>?_⟩⟩
   ·rw[hi]at hev;dsimp only at hev;rw[z]at hev;cases hev
   have k02:=(kw_same s1).trans t2.kw
   have hr2:=hw.tp k02 _ _ hr'
   refine tag_no rfl hr2 wc ⟨_,_,_,_,r,l,wordOf k',_,rfl,hr2,hl,wi,fun H3 s3=>?_⟩
   have k03:=k02.trans (kw_same s3)
   cases t2 with
   |ok i j c2 a1 hi a3 hj a5 a6 hw2 k2=>
    subst a1 a5 a6
    dsimp only at hev
    rw[a3]at hev
    cases hev
    refine .ok wd k' i j _ _ _ rfl hk (hw2.same s3) hi hj (fun hin H4 s4=>?_) (fun hout H4 w4 k4=>?_)
    ·exact go.v (rk k' i j) (by show(if _ then _ else _)=_;exact if_neg (fun z=>gt60_iff.mp z hin)) hin H4 ((hw2.same s3).same s4) (k03.trans (kw_same s4))
    ·exact go.o .great (by show(if _ then _ else _)=_;exact if_pos (gt60_iff.mpr hout)) _ H4 _ (.inr ⟨_,rfl⟩) w4 (k03.trans k4)
   |no oo c2 u' ee hw2 k2=>
    have er:r0=.out oo∧c'=c2:=by
     rcases ee with ⟨z,z'⟩|⟨i,z1,z2⟩
     ·rw[z]at hev;cases hev;exact⟨rfl,z'.symm⟩
     ·rw[z1]at hev;dsimp only at hev;rw[z2]at hev;cases hev;exact⟨rfl,rfl⟩
    obtain⟨rfl,rfl⟩:=er
    exact .no wd _ _ u1 u2 _ _ _ rfl (hw2.same s3) (ot_no oo) (go.o oo rfl _ H3 _ (.inl rfl) (hw2.same s3) k03)
  |@call r va vb pa pb hr' ha hb=>
   refine⟨_,rfl,_,_,_,_,rfl, .tup hr',(kit_v K).1,false,rfl,iteF ⟨_,rfl,_,_,_,_,rfl, .tup hr',(kit_v K).2.1,false,rfl,iteF (tag_no rfl hr' bi7 ?_)⟩⟩
   cases ha with
   |num=>unfold ev at hev;cases hev
   |nm=>unfold ev at hev;cases hev
   |pt=>unfold ev at hev;cases hev
   |call=>unfold ev at hev;cases hev
   |op=>unfold ev at hev;cases hev
   |@fn ra x bv body hra nx hbody=>
   cases m with
   |zero=>unfold ev at hev;cases hev
   |succ m=>
   refine⟨_,_,r,"call",_,rfl,hr',bi8,fun H1 s1=>?_⟩
   have hr1:=s1 _ _ hr'
   unfold ev at hev
   cases eb:ev most (m+1) pb e c u with
   |none=>rw[eb]at hev;cases hev
   |some rc=>
   obtain⟨r2,c2⟩:=rc
   rw[eb]at hev
   refine⟨wd,r,d,"call", .ref ra,vb,e,most,c,u,rfl,bi9,hr1,hw.same s1,hd.same s1,ndw, .inr ⟨ra,x,bv,pb,r2,c2,rfl,s1 _ _ hra,hb.same s1,eb,fun l o u2 H2 hl ho t2=>?_⟩⟩
   have k02:=(kw_same s1).trans t2.kw
   have hr2:=hw.tp k02 _ _ hr'
   refine ix_t (a:=r) (j:=0) rfl hr2 rfl ⟨rfl,_,rfl,ite2 (fun _=>?_) (fun c=>absurd (decide_eq_true rfl) c)⟩
   refine⟨_,rfl,_,rfl,l,_,0, .ref o,rfl,rfl,SqL.of hl,atI_nat (j:=0) rfl,_,rfl,l,_,1,u2,rfl,rfl,SqL.of hl,atI_nat (j:=1) rfl,?_⟩
   cases t2 with
   |ok j a1 hj a3 hw2 k2=>
    subst a1 a3
    exact .ok wd o d x bv body e j most c2 u r0 c' rfl hw2 ho (hbody.tps (hw.tp k02)) (hd.kw ndw k02) ndw hj hev (go.kw k02)
   |no oo u' a1 hw2 k2=>
    subst a1
    cases hev
    exact .no wd o _ _ _ _ _ _ rfl ho hw2 (ot_no oo) (go.o oo rfl _ H2 _ (.inl rfl) hw2 k02)
theorem fn_false {ps:List Str}{lv:Nat}:FnOk P w K mg base CX0 lv f fd ps (fun _ _ _ _=>False):=⟨fun vs H Q E h=>h.elim,fun A outer s H args us vs Q E _ _ _ _ h=>h.elim⟩
theorem val_all {fC:Addr}{gC:FuncData}(F:Fun K "_law_value" "_law_value" s_val f fd)(bF:Binds K fd pVl [])(mF:mg "_law_value"=some (.ref f))(FC:Fun K "_law_called" "_law_called" s_cal fC gC)(bC:Binds K gC pCl [])(mC:mg "_law_called"=some (.ref fC))(mD:mg "dict"=none)(mi:mg "isinstance"=none)(mI:mg "int"=none)(ms:mg "str"=none)(mL:mg "list"=none)
  (h0:Has P w K mg base 1 "_law_fault" ["_law_world_here","_law_word"] spFault) (hR:Has P w K mg base 2 "_law_reckoned" ["_law_world_here","_law_word","_law_one","_law_other"] spRck):∀m:Nat,FnOk P w K mg base CX0 (m+3) f fd pVl (spValN m):=fun m=>by
 induction m using Nat.strongRecOn with
 |ind m ih=>
 cases m with
 |zero=>exact fn_false
 |succ m=>
  have hV:Has P w K mg base (m+3) "_law_value" pVl (spValN m):=⟨f,fd,ih m (Nat.lt_succ_self _),bF,F.kp,mF⟩
  cases m with
  |zero=>exact ok_val (k:=1) F mi mI ms hR ⟨fC,gC,fn_false,bC,FC.kp,mC⟩ hV
  |succ m=>
   have hV':Has P w K mg base (m+3) "_law_value" pVl (spValN m):=⟨f,fd,ih m (by omega),bF,F.kp,mF⟩
   exact ok_val (k:=m+2) F mi mI ms hR ⟨fC,gC,ok_cal (k:=m+2) FC mD mi mL h0 hV',bC,FC.kp,mC⟩ hV
end
theorem boot_max':bootBuiltins "max"=some (.builtin "max"):=by decide+kernel
inductive spWorld (vs:List V)(H:Hp)(Q:VK)(E_:XK):Prop where
 |mk (t:Addr) (ds:List Addr) (most:Int):vs=[.ref t, .int most]→DsL H t ds→(∀(wd:Addr) H',Same H H'→H wd=none→WdB H' wd "" (mx most) 0 0→Q (.ref wd) H')→spWorld vs H Q E_
abbrev s_world:Stmt:=top 71
abbrev nWorld:List Str:=["_law_program","_law_most","_law_world_here","_law_declaration","_law_place","_law_field"]
theorem sc_world:FnScope nWorld ["_law_program","_law_most"] (defScope s_world):=⟨rfl,rfl,rfl,by decide+kernel,rfl,by decide+kernel,by decide+kernel⟩
@[irreducible] def stD0:Stmt:=(defBody s_world).getD 0 (.Pass ⟨0,0,0,0⟩)
theorem bodyD:defBody s_world=stD0::(defBody s_world).drop 1:=by
 unfold stD0
 rfl
def tD0:TS:=fun D σ H=>∃(v0:V) (most:Int),σ=[some v0,some (.int most),none,none,none,none]∧∀(wd:Addr) H',Same H H'→H wd=none→WdB H' wd "" (mx most) 0 0→D.nx [some v0,some (.int most),some (.ref wd),none,none,none] H'
theorem w5:("word":Str)≠"spots"∧("begun":Str)≠"spots"∧("under":Str)≠"spots"∧("most":Str)≠"spots":=by decide+kernel
theorem wd5 (s:V)(x:Str)(M c u:Int)(wd:Addr)(H:Hp):WdB (upd H wd (.dK (mergeK [] ([(Sum.inr "most", .int M),(Sum.inr "begun", .int c),(Sum.inr "under", .int u),(Sum.inr "word", .str x),(Sum.inr "spots",s)]:List (Key×V))))) wd x M c u:=by
 obtain⟨h1,h2,h3,h4⟩:=w5
 obtain⟨n1,n2,n3,n4,n5,n6⟩:=wd_ne
 refine⟨_,upd_same,?_⟩
 unfold mergeK
 simp only[List.foldl_cons,List.foldl_nil]
 refine⟨?_,?_,?_,?_,?_⟩
 ·refine Nat.le_trans (length_putK _ _ _) (Nat.succ_le_succ (Nat.le_trans (length_putK _ _ _) (Nat.succ_le_succ (Nat.le_trans (length_putK _ _ _) (Nat.succ_le_succ (Nat.le_trans (length_putK _ _ _) (Nat.succ_le_succ (Nat.le_trans (length_putK _ _ _) (Nat.succ_le_succ (by show 0≤5;decide))))))))))
 ·rw[valV_put,if_neg (inr_ne h1),valV_put,if_pos rfl]
 ·rw[valV_put,if_neg (inr_ne h2),valV_put,if_neg (inr_ne (Ne.symm n1)),valV_put,if_neg (inr_ne n4),valV_put,if_pos rfl]
 ·rw[valV_put,if_neg (inr_ne h3),valV_put,if_neg (inr_ne (Ne.symm n2)),valV_put,if_pos rfl]
 ·rw[valV_put,if_neg (inr_ne h4),valV_put,if_neg (inr_ne (Ne.symm n3)),valV_put,if_neg (inr_ne (Ne.symm n6)),valV_put,if_neg (inr_ne (Ne.symm n5)),valV_put,if_pos rfl]
section
variable {P:Program}{w:World}{K:PySem.W.Frag}{mg:Str→Option Value}{base:Heap}{f:Addr}{fd:FuncData}
set_option maxHeartbeats 1000000 in
theorem ps_D0 {cdv:Value}{A:Around}{outer:List Env}{s:Shared}{H0:Hp}{E:XK}(mM:mg "max"=none):PSx (cxOf CX0 P w K mg base nWorld "_law_world" (defScope s_world) f cdv A outer s H0 E).nox stD0 tD0:=by
 unfold stD0
 refine x_weak (x_set (i:=2) (x:="_law_world_here") sc_world.nd rfl (Or.inl rfl) (x_disp (xp_cons ⟨pe_callB (call_max2 rfl) rfl mM boot_max' (pa_cons pe_int (pa_cons (pv 1) pa_nil))⟩ (xp_cons x_ci (xp_cons x_ci (xp_cons x_cs (xp_cons ⟨pe_dnewK⟩ xp_nil))))) rfl rfl (by simp) (by decide)) swaps_dict (.inl rfl)) ?_
 rintro D σ H ⟨v0,most,rfl,q⟩
 refine fun wd hwd=>⟨_,rfl,_,_,rfl,fun sp hsp=>?_⟩
 have nws:wd≠sp:=ne_of_none upd_same hsp
 refine⟨by rw[upd_ne nws];exact upd_same,[(Sum.inr "most", .int _),(Sum.inr "begun", .int 0),(Sum.inr "under", .int 0),(Sum.inr "word", .str ""),(Sum.inr "spots", .ref sp)],rfl,(by show 5≤15;decide),?_⟩
 refine q wd _ (fun b o h=>?_) hwd (wd5 (.ref sp) "" (mx most) 0 0 wd _)
 rw[upd_ne (Ne.symm nws)]at hsp
 rw[upd_ne (ne_of_none h hwd),upd_ne (ne_of_none h hsp),upd_ne (ne_of_none h hwd)]
 exact h
set_option maxHeartbeats 2000000 in
theorem ok_world (F:Fun K "_law_world" "_law_world" s_world f fd)(mM:mg "max"=none):FnOk P w K mg base CX0 1 f fd ["_law_program","_law_most"] spWorld:=by
 refine F.ok sc_world (fun cdv A outer s H vs Q E hr h=>?_)
 obtain⟨t,ds,most,rfl,ml,q⟩:=h
 rw[bodyD]
 refine⟨_,pss_cons (ps_D0 mM).h
  (pss_cons (ps_for PassesOwn.never rfl (piT K (pv 0)) (pg_name (i:=3) sc_world.nd rfl (Or.inl rfl)) (pss_one (ps_if (pt_cmpR op_eq (pe_ix (ixT K) (pv 3) pe_int) pe_str) pss_never pss_nil)))
  (pss_one (ps_ret (pv 2)))),?_⟩
 refine⟨_,most,rfl,fun wd H1 s1 hwd hw=>?_⟩
 have ml1:=ml.same s1
 refine⟨_,rfl,t,rfl,⟨_,SqT.of ml1.tp⟩,?_⟩
 refine for_tup (xs:=ds.map V.ref) (fun i σ H'=>(∃o3,σ=[some (.ref t),some (.int most),some (.ref wd),o3,none,none])∧H'=H1) ⟨⟨_,rfl⟩,rfl⟩ ?_ ?_ ?_
 ·rintro i σ H' _ ⟨⟨o3,rfl⟩,rfl⟩
  exact SqT.of ml1.tp
 ·rintro i x σ H' hx ⟨⟨o3,rfl⟩,rfl⟩
  rw[List.getElem?_map]at hx
  cases e:ds[i]? with
  |none=>rw[e]at hx;cases hx
  |some d=>
  rw[e]at hx
  cases hx
  obtain⟨sw,xs,g1,g2,_,_⟩:=ml1.at_ d (List.mem_of_getElem? e)
  refine ix_t (a:=d) (j:=0) rfl g1 rfl ⟨rfl,_,rfl,?_⟩
  rw[decide_eq_false (fun z=>g2 (V.str.inj z))]
  exact iteF ⟨⟨_,rfl⟩,rfl⟩
 ·rintro σ H' ⟨⟨o3,rfl⟩,rfl⟩
  exact⟨_,rfl,q wd _ s1 hwd hw⟩
end
inductive NS (lz:Nat)(H:Hp)(wd dn:Addr)(most:Int):(En×Nat) ⊕ (Ot×Nat)→Prop where
 |ok (e:En) (c:Nat):WdB H wd "" (mx most) c 0→LE H dn e→e.length≤lz→NS lz H wd dn most (.inl (e,c))
 |no (o:Ot) (c:Nat) (u':Int) (kn:List (Key×V)):WdB H wd (otW o) (mx most) c u'→H dn=some (.dK kn)→kn.length≤lz→NS lz H wd dn most (.inr (o,c))
def stp (most:Int)(m:Nat)(x:Str)(p:Ph):(En×Nat) ⊕ (Ot×Nat)→Option ((En×Nat) ⊕ (Ot×Nat))
 |.inl (e,c)=>match ev most m p e c 0 with
  |some (.val i,c1)=>some (.inl ((x,i)::e,c1))
  |some (.out o,c1)=>some (.inr (o,c1))
  |none=>none
 |.inr oc=>some (.inr oc)
def PutS (st':(En×Nat) ⊕ (Ot×Nat))(x:Str)(v:V):Prop:=∀e c,st'=.inl (e,c)→∃i e',e=(x,i)::e'∧v=.int i∧In60 i
abbrev s_vals:Stmt:=top 78
abbrev nVs:List Str:=["_law_world_here","_law_body","_law_paths","_law_names_here","_law_made","_law_item"]
theorem sc_vals:FnScope nVs ["_law_world_here","_law_body","_law_paths"] (defScope s_vals):=⟨rfl,rfl,rfl,by decide+kernel,rfl,by decide+kernel,by decide+kernel⟩
abbrev forVs:Stmt:=match(defBody s_vals).getD 2 (.Pass ⟨0,0,0,0⟩) with|.For _ _ b _ _=>b.getD 0 (.Pass ⟨0,0,0,0⟩)|_=>.Pass ⟨0,0,0,0⟩
section
variable {P:Program}{w:World}{K:PySem.W.Frag}{mg:Str→Option Value}{base:Heap}{f:Addr}{fd:FuncData}{cdv:Value}{A:Around}{outer:List Env}{s:Shared}{H0:Hp}{E:XK}{M k:Nat}
abbrev VsX (P:Program)(w:World)(K:PySem.W.Frag)(mg:Str→Option Value)(base:Heap)(f:Addr)(cdv:Value)(A:Around)(outer:List Env)(s:Shared)(H:Hp)(E:XK):Cx:=(cxOf CX0 P w K mg base nVs "_law_vals" (defScope s_vals) f cdv A outer s H E).nox
def tVs (M:Nat):TS:=fun D σ H=>∃(wd dn dm va:Addr) (v1 v2:V) (x:Str) (p:Ph) (most:Int) (st st':(En×Nat) ⊕ (Ot×Nat)) (km:List (Key×V)) (lz:Nat),lz≤850∧σ=[some (.ref wd),some v1,some v2,some (.ref dn),some (.ref dm),some (.ref va)]∧VaL H va x p∧NS lz H wd dn most st∧stp most M x p st=some st'∧H dm=some (.dK km)∧km.length≤10∧dn≠wd∧dm≠wd∧dn≠dm∧
 ∀(v:V) H',NS (lz+1) H' wd dn most st'→PutS st' x v→H' dm=some (.dK (putK km (Sum.inr x) v))→(∀b o,b≠wd→b≠dn→b≠dm→H b=some o→H' b=some o)→D.nx σ H'
set_option maxHeartbeats 2000000 in
theorem ps_vs (hr:Room (k+1) (A.deeper (envOfC "_law_vals" (defScope s_vals) s.heap.objs.size f cdv)))(hV:Has P w K mg base (k+1) "_law_value" pVl (spVal M)):PSsx (VsX P w K mg base f cdv A outer s H0 E) [forVs] (tVs M):=by
 have hu:=hu_of hr
 refine x_weaks (x_one ⟨ps_if (pt_cmpR op_eq (pe_ix (ixT K) (pv 5) pe_int) pe_str) (pss_cons (ps_dput hu (pv 3) (pe_ix (ixT K) (pv 5) pe_int) (pcall hV hr (Nat.le_refl _) rfl (pa_cons (pv 0) (pa_cons (pe_ix (ixT K) (pv 5) pe_int) (pa_cons (pv 3) pa_nil)))) rfl) (pss_one (ps_dput hu (pv 4) (pe_ix (ixT K) (pv 5) pe_int) (pe_dget hu (pv 3) (pe_ix (ixT K) (pv 5) pe_int)) rfl))) pss_nil⟩) ?_
 rintro D σ H ⟨wd,dn,dm,va,v1,v2,x,p,most,st,st',km,lz,hlz,rfl,⟨vv,hva,hp,nx⟩,ns,hst,hdm,lkm,ndw,nmw,nnm,q⟩
 refine ix_t (a:=va) (j:=0) rfl hva rfl ⟨rfl,_,rfl,ite2 (fun _=>?_) (fun c=>absurd (decide_eq_true rfl) c)⟩
 have fin:∀(v:V) (H1:Hp) (z:Str) (Mo c u:Int) (kn:List (Key×V)),WdB H1 wd z Mo c u→Kw wd H H1→H dn=some (.dK kn)→kn.length≤851→(∀H2,WdB H2 wd z Mo c u→H2 dn=some (.dK (putK kn (Sum.inr x) v))→NS (lz+1) H2 wd dn most st')→PutS st' x v→sDPut (tVar 3) (tOp (rIxT K) (tVar 5) (tC (.int 1))) (fun _ H Q=>Q v H) (D.to fun σ' H'=>sDPut (tVar 4) (tOp (rIxT K) (tVar 5) (tC (.int 1))) (tDGet (tVar 3) (tOp (rIxT K) (tVar 5) (tC (.int 1)))) D σ' H') [some (.ref wd),some v1,some v2,some (.ref dn),some (.ref dm),some (.ref va)] H1:=fun v H1 z Mo c u kn w1 k1 hkn lkn hns hps=>by
  have hva1:H1 va=some (.tup [.str "val", .str x,vv]):=by
   obtain⟨kw,hkw,_⟩:=w1
   refine k1 _ _ (fun z=>?_) hva
   cases ns with
   |ok e c w0=>obtain⟨kv,h0,_⟩:=w0;rw[←z,hva]at h0;cases h0
   |no o c u' kn w0=>obtain⟨kv,h0,_⟩:=w0;rw[←z,hva]at h0;cases h0
  have hdn1:=k1 _ _ ndw hkn
  have hdm1:=k1 _ _ nmw hdm
  refine⟨_,rfl,ix_t (a:=va) (j:=1) rfl hva1 rfl ⟨dn,_,rfl,DPut.k (k:=Sum.inr x) hdn1 (small' (by omega)),?_⟩⟩
  have w2:WdB (upd H1 dn (.dK (putK kn (Sum.inr x) v))) wd z Mo c u:=by
   obtain⟨kw,hkw,hr⟩:=w1
   exact⟨kw,by rw[upd_ne (Ne.symm ndw)];exact hkw,hr⟩
  have b2:(upd H1 dn (.dK (putK kn (Sum.inr x) v))) dn=some (.dK (putK kn (Sum.inr x) v)):=upd_same
  have hva2:(upd H1 dn (.dK (putK kn (Sum.inr x) v))) va=some (.tup [.str "val", .str x,vv]):=by rw[upd_ne (ne_of hva1 hdn1 (by intro z;cases z))];exact hva1
  have hdm2:(upd H1 dn (.dK (putK kn (Sum.inr x) v))) dm=some (.dK km):=by rw[upd_ne (Ne.symm nnm)];exact hdm1
  have k2:Kw dn H1 (upd H1 dn (.dK (putK kn (Sum.inr x) v))):=kw_upd
  revert w2 b2 hva2 hdm2 k2
  generalize upd H1 dn (.dK (putK kn (Sum.inr x) v))=H2
  intro w2 b2 hva2 hdm2 k2
  refine⟨_,rfl,ix_t (a:=va) (j:=1) rfl hva2 rfl ⟨dn,v,rfl, .inl ⟨_,Sum.inr x, .inl b2,rfl,by rw[valV_put,if_pos rfl]⟩,_,rfl,ix_t (a:=va) (j:=1) rfl hva2 rfl ⟨dm,_,rfl,DPut.k (k:=Sum.inr x) hdm2 (small' (by omega)),?_⟩⟩⟩
  have w3:WdB (upd H2 dm (.dK (putK km (Sum.inr x) v))) wd z Mo c u:=by
   obtain⟨kw,hkw,hr⟩:=w2
   exact⟨kw,by rw[upd_ne (Ne.symm nmw)];exact hkw,hr⟩
  exact q v _ (hns _ w3 (by rw[upd_ne nnm];exact b2)) hps upd_same fun b o n1 n2 n3 h=>by rw[upd_ne n3];exact k2 _ _ n2 (k1 _ _ n1 h)
 cases ns with
 |ok e c w0 le0 l0=>
  obtain⟨kn,h1,h2,h3,h4⟩:=id le0
  unfold stp at hst
  dsimp only at hst
  cases he:ev most M p e c 0 with
  |none=>rw[he]at hst;cases hst
  |some rc=>
  obtain⟨r,c1⟩:=rc
  rw[he]at hst
  refine⟨_,rfl,ix_t (a:=va) (j:=2) rfl hva rfl ⟨_,rfl, .ok wd vv dn p e most c 0 r c1 rfl w0 hp le0 ndw he ⟨fun i hi h6 H1 w1 k1=>?_,fun o ho v' H1 u1 ni w1 k1=>?_⟩⟩⟩
  ·subst hi
   cases hst
   exact fin (.int i) H1 "" _ _ _ kn w1 k1 h1 (by omega) (fun H2 w2 b2=>.ok _ _ w2 (le_put h2 h3 h4 h6 b2) (by rw[List.length_cons];omega)) fun e' c' z=>by cases z;exact⟨i,e,rfl,rfl,h6⟩
  ·subst ho
   cases hst
   exact fin v' H1 _ _ _ _ kn w1 k1 h1 (by omega) (fun H2 w2 b2=>.no o c1 u1 _ w2 b2 (Nat.le_trans (length_putK _ _ _) (by omega))) fun e' c' z=>by cases z
 |no o c u' kn w0 h1 l0=>
  cases hst
  refine⟨_,rfl,ix_t (a:=va) (j:=2) rfl hva rfl ⟨_,rfl, .no wd vv (.ref dn) _ _ _ _ rfl w0 (ot_no o) ?_⟩⟩
  exact fin .non H _ _ _ _ kn w0 Kw.refl h1 (by omega) (fun H2 w2 b2=>.no o c u' _ w2 b2 (Nat.le_trans (length_putK _ _ _) (by omega))) fun e' c' z=>by cases z
end
abbrev Sta:=(En×Nat) ⊕ (Ot×Nat)
def WS (H:Hp)(wd:Addr)(most:Int):Sta→Prop
 |.inl (_,c)=>WdB H wd "" (mx most) c 0
 |.inr (o,c)=>∃u':Int,WdB H wd (otW o) (mx most) c u'
theorem NS.ws {lz:Nat}{H:Hp}{wd dn:Addr}{most:Int}{st:Sta}(h:NS lz H wd dn most st):WS H wd most st:=by
 cases h with
 |ok e c w _ _=>exact w
 |no o c u' kn w _ _=>exact⟨u',w⟩
theorem NS.there {lz:Nat}{H:Hp}{wd dn:Addr}{most:Int}{st:Sta}(h:NS lz H wd dn most st):∃kn,H dn=some (.dK kn)∧kn.length≤lz:=by
 cases h with
 |ok e c w l m=>obtain⟨kn,h1,h2,_⟩:=l;exact⟨kn,h1,Nat.le_trans h2 m⟩
 |no o c u' kn w h1 l=>exact⟨kn,h1,l⟩
theorem NS.wd {lz:Nat}{H:Hp}{wd dn:Addr}{most:Int}{st:Sta}(h:NS lz H wd dn most st):∃kw,H wd=some (.dK kw):=by
 cases h with
 |ok e c w l m=>obtain⟨kn,h1,_⟩:=w;exact⟨kn,h1⟩
 |no o c u' kn w h1 l=>obtain⟨kn,h1,_⟩:=w;exact⟨kn,h1⟩
theorem NS.copy {lz:Nat}{H H':Hp}{wd dn d':Addr}{most:Int}{st:Sta}{kn:List (Key×V)}(h:NS lz H wd dn most st)(e:H dn=some (.dK kn))(e':H' d'=some (.dK kn))(k:∀kw,H wd=some (.dK kw)→H' wd=some (.dK kw)):NS lz H' wd d' most st:=by
 cases h with
 |ok e0 c w l m=>
  obtain⟨kw,h1,h2⟩:=w
  obtain⟨kn',g1,g2⟩:=l
  rw[e]at g1
  cases g1
  exact .ok e0 c ⟨kw,k _ h1,h2⟩ ⟨kn,e',g2⟩ m
 |no o c u' kn' w h1 l=>
  obtain⟨kw,g1,g2⟩:=w
  rw[e]at h1
  cases h1
  exact .no o c u' kn ⟨kw,k _ g1,g2⟩ e' l
theorem WS.of {H H':Hp}{wd:Addr}{most:Int}{st:Sta}(h:WS H wd most st)(k:∀kw,H wd=some (.dK kw)→H' wd=some (.dK kw)):WS H' wd most st:=by
 cases st with
 |inl ec=>obtain⟨kw,h1,h2⟩:=h;exact⟨kw,k _ h1,h2⟩
 |inr oc=>obtain⟨u',kw,h1,h2⟩:=h;exact⟨u',kw,k _ h1,h2⟩
inductive spVals (M:Nat)(vs:List V)(H:Hp)(Q:VK)(E_:XK):Prop where
 |mk (wd bd pd:Addr) (q:Pa) (most:Int) (st st1 st2:Sta) (lz:Nat):vs=[.ref wd, .ref bd, .ref pd]→NS lz H wd pd most st→pd≠wd→lz≤800→BdL H bd q→q.x1≠q.x2→stp most M q.x1 q.p1 st=some st1→stp most M q.x2 q.p2 st1=some st2→(∀(d:Addr) (v1 v2:V) H',H d=none→H' d=some (.dK [(Sum.inr q.x1,v1),(Sum.inr q.x2,v2)])→WS H' wd most st2→PutS st1 q.x1 v1→PutS st2 q.x2 v2→Kw wd H H'→Q (.ref d) H')→spVals M vs H Q E_
section
variable {P:Program}{w:World}{K:PySem.W.Frag}{mg:Str→Option Value}{base:Heap}{f:Addr}{fd:FuncData}{M k:Nat}
set_option maxHeartbeats 2000000 in
theorem ok_vals (F:Fun K "_law_vals" "_law_vals" s_vals f fd)(mD:mg "dict"=none)(hV:Has P w K mg base (k+1) "_law_value" pVl (spVal M)):FnOk P w K mg base CX0 (k+2) f fd ["_law_world_here","_law_body","_law_paths"] (spVals M):=by
 refine F.ok sc_vals (fun cdv A outer s H vs Q E hr h=>?_)
 obtain⟨wd,bd,pd,q,most,st,st1,st2,lz,rfl,ns,npw,l8,⟨a1,a2,hbd,hv1,hv2⟩,nx,e1,e2,qq⟩:=h
 refine⟨_,pss_cons (pset 3 sc_vals.nd (pe_callTy call_dict_d rfl mD boot_dict' (pa_cons (pv 2) pa_nil))) (pss_cons (pset 4 sc_vals.nd pe_dnewK) (pss_cons (x_for (X:=VsX P w K mg base f cdv A outer s H E) PassesOwn.never rfl (piT K (pv 1)) (pg_name (i:=5) sc_vals.nd rfl (Or.inl rfl)) (ps_vs hr hV)).h (pss_one (ps_ret (pv 4))))),?_⟩
 obtain⟨kn,hkn,_⟩:=ns.there
 obtain⟨kw,hkw⟩:=ns.wd
 refine⟨_,rfl,pd,kn,rfl,hkn,fun dn hdn=>?_⟩
 have s1:=same_new hdn (.dK kn)
 have b1:(upd H dn (.dK kn)) dn=some (.dK kn):=upd_same
 revert s1 b1
 generalize upd H dn (.dK kn)=H1
 intro s1 b1
 refine fun dm hdm=>?_
 have s2:=same_new hdm (.dK [])
 have b2:(upd H1 dm (.dK [])) dm=some (.dK []):=upd_same
 revert s2 b2
 generalize upd H1 dm (.dK [])=H2
 intro s2 b2
 have s02:=s1.trans s2
 have ndw:dn≠wd:=Ne.symm (ne_of_none hkw hdn)
 have nmw:dm≠wd:=Ne.symm (ne_of_none (s1 _ _ hkw) hdm)
 have nnm:dn≠dm:=ne_of_none b1 hdm
 have hdm0:H dm=none:=s1.free hdm
 have tp:∀{H'},Kw wd H H'→Tup5 H H':=fun k b ys h=>k _ _ (ne_of h hkw (by intro z;cases z)) h
 have p1:∀v,putK ([]:List (Key×V)) (Sum.inr q.x1) v=[(Sum.inr q.x1,v)]:=fun v=>by rw[putK_new v rfl];rfl
 have p2:∀v v',putK ([(Sum.inr q.x1,v)]:List (Key×V)) (Sum.inr q.x2) v'=[(Sum.inr q.x1,v),(Sum.inr q.x2,v')]:=fun v v'=>by
  rw[putK_new v' (by show valV [(Sum.inr q.x1,v)] _=none;unfold valV;simp[List.find?_cons,nx])];rfl
 let Pv:Nat→L2.St→Hp→Prop:=fun i σ H'=>∃(o5:Option V),σ=[some (.ref wd),some (.ref bd),some (.ref pd),some (.ref dn),some (.ref dm),o5]∧Kw wd H H'∧((i=0∧NS lz H' wd dn most st∧H' dm=some (.dK []))∨(i=1∧∃v1,NS (lz+1) H' wd dn most st1∧PutS st1 q.x1 v1∧H' dm=some (.dK [(Sum.inr q.x1,v1)]))∨(i=2∧∃v1 v2,NS (lz+1+1) H' wd dn most st2∧PutS st1 q.x1 v1∧PutS st2 q.x2 v2∧H' dm=some (.dK [(Sum.inr q.x1,v1),(Sum.inr q.x2,v2)])))
 refine⟨_,rfl,bd,rfl,⟨_,SqT.of (s02 _ _ hbd)⟩,?_⟩
 refine for_tup (xs:=[.ref a1, .ref a2]) Pv ⟨none,rfl,kw_same s02, .inl ⟨rfl,ns.copy hkn (s2 _ _ b1) (fun _ h=>s02 _ _ h),b2⟩⟩ ?_ ?_ ?_
 ·rintro i σ H' _ ⟨o5,rfl,k,_⟩
  exact SqT.of (tp k _ _ hbd)
 ·rintro i x σ H' hx ⟨o5,rfl,k,h|h|h⟩
  ·obtain⟨rfl,n',d'⟩:=h
   cases hx
   refine⟨wd,dn,dm,a1,_,_,q.x1,q.p1,most,st,st1,[],lz,by omega,rfl,hv1.tps (tp k),n',e1,d',by decide,ndw,nmw,nnm,fun v H3 n3 p3 d3 k3=>?_⟩
   rw[p1]at d3
   exact⟨_,rfl,fun b o nb h=>k3 b o nb (ne_of_none h hdn) (ne_of_none h hdm0) (k _ _ nb h), .inr (.inl ⟨rfl,v,n3,p3,d3⟩)⟩
  ·obtain⟨rfl,v1,n',pp,d'⟩:=h
   cases hx
   refine⟨wd,dn,dm,a2,_,_,q.x2,q.p2,most,st1,st2,_,lz+1,by omega,rfl,hv2.tps (tp k),n',e2,d',by show 1≤10;decide,ndw,nmw,nnm,fun v H3 n3 p3 d3 k3=>?_⟩
   rw[p2]at d3
   exact⟨_,rfl,fun b o nb h=>k3 b o nb (ne_of_none h hdn) (ne_of_none h hdm0) (k _ _ nb h), .inr (.inr ⟨rfl,v1,v,n3,pp,p3,d3⟩)⟩
  ·obtain⟨rfl,_⟩:=h
   cases hx
 ·rintro σ H' ⟨o5,rfl,k,h|h|h⟩
  ·cases h.1
  ·cases h.1
  ·obtain⟨_,v1,v2,n',pp1,pp2,d'⟩:=h
   exact⟨_,rfl,qq dm v1 v2 H' hdm0 d' n'.ws pp1 pp2 k⟩
end
abbrev s_ran:Stmt:=top 79
abbrev nRan:List Str:=["_law_program","_law_most","_law_world_here","_law_paths","_law_makers","_law_declaration","_law_inner","_law_body","_law_giver","_law_part","_law_path","_law_vals_here","_law_name","_law_made"]
theorem sc_ran:FnScope nRan ["_law_program","_law_most"] (defScope s_ran):=⟨rfl,rfl,rfl,by decide+kernel,rfl,by decide+kernel,by decide+kernel⟩
abbrev rani (i:Nat):Stmt:=(defBody s_ran).getD i (.Pass ⟨0,0,0,0⟩)
def forR:List Stmt:=match rani 3 with|.For _ _ b _ _=>b|_=>[]
abbrev fri (i:Nat):Stmt:=forR.getD i (.Pass ⟨0,0,0,0⟩)
def ifR:List Stmt:=match fri 3 with|.If _ b _ _=>b|_=>[]
@[irreducible] def stK1:Stmt:=ifR.getD 1 (.Pass ⟨0,0,0,0⟩)
section
variable {P:Program}{w:World}{K:PySem.W.Frag}{mg:Str→Option Value}{base:Heap}{f:Addr}{fd:FuncData}{cdv:Value}{A:Around}{outer:List Env}{s:Shared}{H0:Hp}{E:XK}{M k:Nat}
abbrev RnX (P:Program)(w:World)(K:PySem.W.Frag)(mg:Str→Option Value)(base:Heap)(f:Addr)(cdv:Value)(A:Around)(outer:List Env)(s:Shared)(H:Hp)(E:XK):Cx:=(cxOf CX0 P w K mg base nRan "_law_ran" (defScope s_ran) f cdv A outer s H E).nox
def tKy:TS:=fun D σ H=>∃(v0 v1' v2' mk inn bd:V) (pd d dv:Addr) (o8 o9 o10 o12 o13:Option V) (g:Str) (xs:List V) (x1 x2:Str) (v1 v2:V) (kp:List (Key×V)),σ=[some v0,some v1',some v2',some (.ref pd),some mk,some (.ref d),some inn,some bd,o8,o9,o10,some (.ref dv),o12,o13]∧H d=some (.tup (.str "part"::.str g::xs))∧H dv=some (.dK [(Sum.inr x1,v1),(Sum.inr x2,v2)])∧x1≠x2∧H pd=some (.dK kp)∧kp.length≤900∧dv≠pd∧g.length≤100∧(g++".").length≤100∧x1.length≤100∧x2.length≤100∧
 ∀(q12:Option V) H',H' pd=some (.dK (putK (putK kp (Sum.inr (pth g x1)) v1) (Sum.inr (pth g x2)) v2))→Kw pd H H'→D.nx [some v0,some v1',some v2',some (.ref pd),some mk,some (.ref d),some inn,some bd,o8,o9,o10,some (.ref dv),q12,o13] H'
set_option maxHeartbeats 2000000 in
theorem ps_ky (hr:Room (k+2) (A.deeper (envOfC "_law_ran" (defScope s_ran) s.heap.objs.size f cdv))):PSx (RnX P w K mg base f cdv A outer s H0 E) stK1 tKy:=by
 have hu:=hu_of hr
 unfold stK1
 refine x_weak ⟨ps_frz (ps_for PassesOwn.never rfl (pi_keys (pv 11)) (pg_name (i:=12) sc_ran.nd rfl (Or.inl rfl)) (pss_one (ps_dput hu (pv 3) (pe_op op_add_str (pe_op op_add_str (pe_ix (ixT K) (pv 5) pe_int) pe_str) (pv 12)) (pe_dget hu (pv 11) (pv 12)) rfl)))⟩ ?_
 rintro D σ H ⟨v0,v1',v2',mk,inn,bd,pd,d,dv,o8,o9,o10,o12,o13,g,xs,x1,x2,v1,v2,kp,rfl,hd,hdv,nx,hpd,lkp,ndp,lg,lgd,lx1,lx2,q⟩
 refine⟨dv,_,hdv,fun o=>⟨_,rfl,dv,o,_,rfl,upd_same,?_⟩⟩
 have nd:d≠dv:=ne_of hd hdv (by intro z;cases z)
 have ndd:d≠pd:=ne_of hd hpd (by intro z;cases z)
 have p1:∀kvs:List (Key×V),kvs.length≤901→kvs.length<sizeLine:=fun kvs h=>small' (by omega)
 let Pv:Nat→L2.St→Hp→Prop:=fun i σ H'=>(∃q12,σ=[some v0,some v1',some v2',some (.ref pd),some mk,some (.ref d),some inn,some bd,o8,o9,o10,some (.ref dv),q12,o13])∧H' dv=some (.frz o (.dK [(Sum.inr x1,v1),(Sum.inr x2,v2)]))∧(∀b u,b≠pd→b≠dv→H b=some u→H' b=some u)∧((i=0∧H' pd=some (.dK kp))∨(i=1∧H' pd=some (.dK (putK kp (Sum.inr (pth g x1)) v1)))∨(i=2∧H' pd=some (.dK (putK (putK kp (Sum.inr (pth g x1)) v1) (Sum.inr (pth g x2)) v2))))
 refine for_keys Pv ⟨⟨_,rfl⟩,upd_same,fun b u _ n h=>by rw[upd_ne n];exact h, .inl ⟨rfl,by rw[upd_ne (Ne.symm ndp)];exact hpd⟩⟩ ?_ ?_ ?_
 ·rintro i σ H' _ ⟨_,h,_⟩
  exact h
 ·rintro i key v σ H' hx ⟨⟨q12,rfl⟩,hf,kk,h|h|h⟩
  ·obtain⟨rfl,hp⟩:=h
   cases hx
   refine⟨_,rfl,_,rfl,dv,v1,rfl, .inl ⟨_,Sum.inr x1, .inr ⟨o,hf⟩,rfl,by unfold valV;simp[List.find?_cons]⟩,_,rfl,ix_t (a:=d) (j:=1) rfl (kk _ _ ndd nd hd) rfl ⟨g,".",rfl,rfl,small (by show g.length+1≤1000000;omega),_,rfl,g++".",x1,rfl,rfl,small (by omega),pd,_,rfl,DPut.k (k:=Sum.inr (pth g x1)) hp (p1 _ (by omega)),?_⟩⟩
   exact⟨⟨_,rfl⟩,by rw[upd_ne ndp];exact hf,fun b u n1 n2 h=>by rw[upd_ne n1];exact kk b u n1 n2 h, .inr (.inl ⟨rfl,upd_same⟩)⟩
  ·obtain⟨rfl,hp⟩:=h
   cases hx
   refine⟨_,rfl,_,rfl,dv,v2,rfl, .inl ⟨_,Sum.inr x2, .inr ⟨o,hf⟩,rfl,by unfold valV;simp[List.find?_cons,nx]⟩,_,rfl,ix_t (a:=d) (j:=1) rfl (kk _ _ ndd nd hd) rfl ⟨g,".",rfl,rfl,small (by show g.length+1≤1000000;omega),_,rfl,g++".",x2,rfl,rfl,small (by omega),pd,_,rfl,DPut.k (k:=Sum.inr (pth g x2)) hp (p1 _ (Nat.le_trans (length_putK _ _ _) (by omega))),?_⟩⟩
   exact⟨⟨_,rfl⟩,by rw[upd_ne ndp];exact hf,fun b u n1 n2 h=>by rw[upd_ne n1];exact kk b u n1 n2 h, .inr (.inr ⟨rfl,upd_same⟩)⟩
  ·obtain⟨rfl,_⟩:=h
   cases hx
 ·rintro σ H' ⟨⟨q12,rfl⟩,hf,kk,h|h|h⟩
  ·cases h.1
  ·cases h.1
  ·refine⟨hf,q q12 _ (by rw[upd_ne (Ne.symm ndp)];exact h.2) fun b u n h'=>?_⟩
   by_cases c:b=dv
   ·subst c;rw[upd_same,←hdv,h']
   ·rw[upd_ne c];exact kk b u n c h'
end
inductive Nxt (most:Int)(M:Nat)(q:Pa):Sta→Sta→Prop where
 |ok (E:En) (c:Nat) (i:Int) (c1:Nat) (j:Int) (c2:Nat):ev most M q.p1 E c 0=some (.val i,c1)→ev most M q.p2 ((q.x1,i)::E) c1 0=some (.val j,c2)→Nxt most M q (.inl (E,c)) (.inl (paE q i j E,c2))
 |no1 (E:En) (c:Nat) (o:Ot) (c1:Nat):ev most M q.p1 E c 0=some (.out o,c1)→Nxt most M q (.inl (E,c)) (.inr (o,c1))
 |no2 (E:En) (c:Nat) (i:Int) (c1:Nat) (o:Ot) (c2:Nat):ev most M q.p1 E c 0=some (.val i,c1)→ev most M q.p2 ((q.x1,i)::E) c1 0=some (.out o,c2)→Nxt most M q (.inl (E,c)) (.inr (o,c2))
 |old (oc:Ot×Nat):Nxt most M q (.inr oc) (.inr oc)
def Rest (most:Int)(M:Nat)(r:List Pa)(R:En ⊕ Ot)(c':Nat):Sta→Prop
 |.inl (E,c)=>evPs most M r E c=(some R,c')
 |.inr (o,c)=>R=.inr o∧c'=c
theorem rest_step {most:Int}{M:Nat}{q:Pa}{r:List Pa}{R:En ⊕ Ot}{c':Nat}{st:Sta}(h:Rest most M (q::r) R c' st):∃st',Nxt most M q st st'∧Rest most M r R c' st':=by
 cases st with
 |inr oc=>exact⟨.inr oc, .old oc,h⟩
 |inl ec=>
  obtain⟨E,c⟩:=ec
  unfold Rest evPs evPa at h
  dsimp only at h
  cases e1:ev most M q.p1 E c 0 with
  |none=>rw[e1]at h;cases h
  |some rc=>
   obtain⟨r1,c1⟩:=rc
   rw[e1]at h
   cases r1 with
   |out o=>cases h;exact⟨_, .no1 E c o _ e1,rfl,rfl⟩
   |val i=>
    dsimp only at h
    cases e2:ev most M q.p2 ((q.x1,i)::E) c1 0 with
    |none=>rw[e2]at h;cases h
    |some rc2=>
     obtain⟨r2,c2⟩:=rc2
     rw[e2]at h
     cases r2 with
     |out o=>cases h;exact⟨_, .no2 E c i c1 o _ e1 e2,rfl,rfl⟩
     |val j=>exact⟨_, .ok E c i c1 j c2 e1 e2,h⟩
theorem nxt_stp {most:Int}{M:Nat}{q:Pa}{st st':Sta}(h:Nxt most M q st st'):∃st1 st2,stp most M q.x1 q.p1 st=some st1∧stp most M q.x2 q.p2 st1=some st2∧((∃E c i j c1 c2,st=.inl (E,c)∧st1=.inl ((q.x1,i)::E,c1)∧st2=.inl ((q.x2,j)::(q.x1,i)::E,c2)∧st'=.inl (paE q i j E,c2))∨∃oc,st2=.inr oc∧st'=.inr oc):=by
 cases h with
 |ok E c i c1 j c2 e1 e2=>exact⟨.inl ((q.x1,i)::E,c1), .inl ((q.x2,j)::(q.x1,i)::E,c2),by unfold stp;dsimp only;rw[e1],by unfold stp;dsimp only;rw[e2], .inl ⟨E,c,i,j,c1,c2,rfl,rfl,rfl,rfl⟩⟩
 |no1 E c o c1 e1=>exact⟨.inr (o,c1), .inr (o,c1),by unfold stp;dsimp only;rw[e1],rfl, .inr ⟨_,rfl,rfl⟩⟩
 |no2 E c i c1 o c2 e1 e2=>exact⟨.inl ((q.x1,i)::E,c1), .inr (o,c2),by unfold stp;dsimp only;rw[e1],by unfold stp;dsimp only;rw[e2], .inr ⟨_,rfl,rfl⟩⟩
 |old oc=>exact⟨.inr oc, .inr oc,rfl,rfl, .inr ⟨_,rfl,rfl⟩⟩
structure PaSh (q:Pa):Prop where
 g:q.g.length≤100
 gd:(q.g++".").length≤100
 ne:q.x1≠q.x2
@[irreducible] def stR33:Stmt:=fri 3
def paW:List Str:=["part","apply"]
theorem pa_in:("part":Str)∈paW∧("face":Str)∉paW:=by decide+kernel
theorem ns_put {lz:Nat}{H H':Hp}{wd pd:Addr}{most:Int}{st st1 st2 st':Sta}{q:Pa}{v1 v2:V}{kp:List (Key×V)}(ns:NS lz H wd pd most st)(hk:H pd=some (.dK kp))(h:(∃E c i j c1 c2,st=.inl (E,c)∧st1=.inl ((q.x1,i)::E,c1)∧st2=.inl ((q.x2,j)::(q.x1,i)::E,c2)∧st'=.inl (paE q i j E,c2))∨∃oc,st2=.inr oc∧st'=.inr oc)(ws:WS H' wd most st2)(p1:PutS st1 q.x1 v1)(p2:PutS st2 q.x2 v2)(hp:H' pd=some (.dK (putK (putK kp (Sum.inr (pth q.g q.x1)) v1) (Sum.inr (pth q.g q.x2)) v2))):NS (lz+2) H' wd pd most st':=by
 rcases h with ⟨E,c,i,j,c1,c2,rfl,rfl,rfl,rfl⟩|⟨oc,rfl,rfl⟩
 ·obtain⟨i',e',h1,rfl,h6⟩:=p1 _ _ rfl
  obtain⟨j',e'',h2,rfl,h6j⟩:=p2 _ _ rfl
  cases h1
  cases h2
  cases ns with
  |ok _ _ w l m=>
   obtain⟨kp',g1,g2,g3,g4⟩:=l
   rw[hk]at g1
   cases g1
   have l1:LE (upd H pd (.dK (putK kp (Sum.inr (pth q.g q.x1)) (.int i)))) pd ((pth q.g q.x1,i)::E):=le_put g2 g3 g4 h6 upd_same
   obtain⟨k1,a1,a2,a3,a4⟩:=l1
   rw[upd_same]at a1
   cases a1
   exact .ok _ _ ws (le_put a2 a3 a4 h6j hp) (by show E.length+1+1≤_;omega)
 ·obtain⟨o,c⟩:=oc
  obtain⟨u',w⟩:=ws
  obtain⟨kn,g1,g2⟩:=ns.there
  rw[hk]at g1
  cases g1
  exact .no o c u' _ w hp (Nat.le_trans (length_putK _ _ _) (Nat.succ_le_succ (Nat.le_trans (length_putK _ _ _) (Nat.succ_le_succ g2))))
section
variable {P:Program}{w:World}{K:PySem.W.Frag}{mg:Str→Option Value}{base:Heap}{f:Addr}{fd:FuncData}{cdv:Value}{A:Around}{outer:List Env}{s:Shared}{H0:Hp}{E:XK}{M k:Nat}
def tR33 (M:Nat):TS:=fun D σ H=>∃(v0 v1' mk:V) (wd pd d inn bd:Addr) (o8 o9 o10 o11 o12 o13:Option V) (most:Int) (st:Sta) (lz:Nat),σ=[some v0,some v1',some (.ref wd),some (.ref pd),some mk,some (.ref d),some (.ref inn),some (.ref bd),o8,o9,o10,o11,o12,o13]∧
 ((∃xs,H d=some (.tup (.str "face"::xs))∧∀H',Same H H'→D.nx σ H')∨
  (∃(q:Pa) (st':Sta) (xs:List V),H d=some (.tup (.str "part"::.str q.g::xs))∧NS lz H wd pd most st∧NS lz H wd inn most st∧pd≠wd∧inn≠wd∧lz≤800∧BdL H bd q∧PaSh q∧Nxt most M q st st'∧∀(q11 q12:Option V) H',NS (lz+2) H' wd pd most st'→(∀b o,b≠wd→b≠pd→H b=some o→H' b=some o)→D.nx [some v0,some v1',some (.ref wd),some (.ref pd),some mk,some (.ref d),some (.ref inn),some (.ref bd),o8,o9,o10,q11,q12,o13] H'))
theorem stR33_is:stR33=.If (match fri 3 with|.If c _ _ _=>c|_=>.Name "" ⟨0,0,0,0⟩) [ifR.getD 0 (.Pass ⟨0,0,0,0⟩),stK1] [] (match fri 3 with|.If _ _ _ p=>p|_=>⟨0,0,0,0⟩):=by
 unfold stR33 stK1
 rfl
set_option maxHeartbeats 2000000 in
theorem ps_R33 (hr:Room (k+2) (A.deeper (envOfC "_law_ran" (defScope s_ran) s.heap.objs.size f cdv)))(hV:Has P w K mg base (k+2) "_law_vals" ["_law_world_here","_law_body","_law_paths"] (spVals M)):PSx (RnX P w K mg base f cdv A outer s H0 E) stR33 (tR33 M):=by
 rw[stR33_is]
 refine x_weak ⟨ps_if (pt_cmpR op_in_seq (pe_ix (ixT K) (pv 5) pe_int) (x_tup (x_str (x_str x_nil))).h (by with_unfolding_all rfl)) (pss_cons (pset 11 sc_ran.nd (pcall hV hr (Nat.le_refl _) rfl (pa_cons (pv 2) (pa_cons (pv 7) (pa_cons (pv 6) pa_nil))))) (pss_one (ps_ky hr).h)) pss_nil⟩ ?_
 rintro D σ H ⟨v0,v1',mk,wd,pd,d,inn,bd,o8,o9,o10,o11,o12,o13,most,st,lz,rfl,alt⟩
 rcases alt with ⟨xs,hd,q⟩|⟨qq,st',xs,hd,ns,ni,npw,niw,l8,hbd,sh,nxt,q⟩
 ·refine ix_t (a:=d) (j:=0) rfl hd rfl ⟨sml 2,fun p hp=>⟨p,paW.map V.str,rfl, .inr (SqT.of upd_same),rfl,flat_strs _,_,rfl,?_⟩⟩
  rw[if_neg Bool.false_ne_true,inV_str,decide_eq_false pa_in.2]
  exact iteF (q _ (same_new hp _))
 ·refine ix_t (a:=d) (j:=0) rfl hd rfl ⟨sml 2,fun p hp=>⟨p,paW.map V.str,rfl, .inr (SqT.of upd_same),rfl,flat_strs _,_,rfl,?_⟩⟩
  rw[if_neg Bool.false_ne_true,inV_str,decide_eq_true pa_in.1]
  have s1:=same_new hp (.tup (paW.map V.str))
  obtain⟨st1,st2,e1,e2,hh⟩:=nxt_stp nxt
  obtain⟨kn,hkn,lkn⟩:=ns.there
  obtain⟨ki,hki,_⟩:=ni.there
  obtain⟨kw,hkw⟩:=ns.wd
  refine iteT ⟨_,rfl,_,rfl,_,rfl, .mk wd bd inn qq most st st1 st2 lz rfl (ni.copy hki (s1 _ _ hki) (fun _ h=>s1 _ _ h)) niw l8 (hbd.tps fun b ys h=>s1 _ _ h) sh.ne e1 e2 fun dv v1 v2 H2 hdv0 hdv ws p1 p2 k2=>?_⟩
  have hdv00:=s1.free hdv0
  have hpd2:H2 pd=some (.dK kn):=k2 _ _ npw (s1 _ _ hkn)
  have hd2:H2 d=some (.tup (.str "part"::.str qq.g::xs)):=k2 _ _ (ne_of hd hkw (by intro z;cases z)) (s1 _ _ hd)
  obtain⟨a1,a2,_,⟨_,_,_,n1⟩,⟨_,_,_,n2⟩⟩:=hbd
  refine⟨_,_,_,_,_,_,pd,d,dv,o8,o9,o10,o12,o13,qq.g,xs,qq.x1,qq.x2,v1,v2,kn,rfl,hd2,hdv,sh.ne,hpd2,by omega,fun z=>?_,sh.g,sh.gd,n1.len,n2.len,fun q12 H3 hp3 k3=>?_⟩
  ·rw[z,hkn]at hdv00;cases hdv00
  ·refine q _ q12 H3 (ns_put ns hkn hh (ws.of fun kw h=>k3 _ _ (Ne.symm npw) h) p1 p2 hp3) fun b o n1 n2 h=>k3 _ _ n2 (k2 _ _ n1 (s1 _ _ h))
end
theorem sIx_last (n:Nat)(d:Nat):HT.sIx (n+1) d (some (-1))=n:=by
 unfold HT.sIx
 dsimp only
 rw[if_pos (by decide)]
 omega
theorem cut_last (xs:List V)(y:V):cutV (xs++[y]) none (some (-1))=xs∧¬(HT.sIx (xs++[y]).length 0 none=0∧HT.sIx (xs++[y]).length (xs++[y]).length (some (-1))=(xs++[y]).length):=by
 have l:(xs++[y]).length=xs.length+1:=by simp
 refine⟨?_,fun h=>?_⟩
 ·unfold cutV
  rw[l,sIx_last,HT.sIx_none]
  simp
 ·have:=h.2
  rw[l,sIx_last]at this
  omega
inductive spRan (M:Nat)(vs:List V)(H:Hp)(Q:VK)(E_:XK):Prop where
 |mk (t fa mn:Addr) (ds:List Addr) (qs:List Pa) (v:V) (p:Ph) (most:Int) (r:Rs) (c':Nat):vs=[.ref t, .int most]→PrL H t fa mn ds qs v p→(∀q∈qs,PaSh q)→evMain most M qs p=(some r,c')→(∀i,r=.val i→In60 i→∀(r:Addr) H',Same H H'→H' r=some (.tup [.str "", .int i, .int c'])→Q (.ref r) H')→(∀o,r=.out o→∀u (r:Addr) H',Same H H'→H' r=some (.tup [.str (otW o),u, .int c'])→Q (.ref r) H')→spRan M vs H Q E_
@[irreducible] def stR3_:Stmt:=rani 3
theorem bodyRan:defBody s_ran=[rani 0,rani 1,rani 2,stR3_,rani 4,rani 5,rani 6]:=by
 unfold stR3_
 rfl
theorem stR3_is:stR3_=.For (match rani 3 with|.For t _ _ _ _=>t|_=>.Name "" ⟨0,0,0,0⟩) (match rani 3 with|.For _ i _ _ _=>i|_=>.Name "" ⟨0,0,0,0⟩) [fri 0,fri 1,fri 2,stR33] [] (match rani 3 with|.For _ _ _ _ p=>p|_=>⟨0,0,0,0⟩):=by
 unfold stR3_ stR33
 rfl
section
variable {P:Program}{w:World}{K:PySem.W.Frag}{mg:Str→Option Value}{base:Heap}{f:Addr}{fd:FuncData}{cdv:Value}{A:Around}{outer:List Env}{s:Shared}{H0:Hp}{E:XK}{M k:Nat}
def tDc (M:Nat):TS:=fun D σ H=>∃(v0 v1' mk:V) (wd pd d:Addr) (o6 o7 o8 o9 o10 o11 o12 o13:Option V) (most:Int) (st:Sta) (lz:Nat),σ=[some v0,some v1',some (.ref wd),some (.ref pd),some mk,some (.ref d),o6,o7,o8,o9,o10,o11,o12,o13]∧NS lz H wd pd most st∧pd≠wd∧lz≤800∧
 ((∃x1 x2 x3,H d=some (.tup [.str "face",x1,x2,x3])∧∀(q6 q7:Option V) H',Same H H'→D.nx [some v0,some v1',some (.ref wd),some (.ref pd),some mk,some (.ref d),q6,q7,o8,o9,o10,o11,o12,o13] H')∨
  (∃(q:Pa) (st':Sta),PaL H d q∧PaSh q∧Nxt most M q st st'∧∀(q6 q7 q11 q12:Option V) H',NS (lz+2) H' wd pd most st'→(∀b o,b≠wd→b≠pd→H b=some o→H' b=some o)→D.nx [some v0,some v1',some (.ref wd),some (.ref pd),some mk,some (.ref d),q6,q7,o8,o9,o10,q11,q12,o13] H'))
set_option maxHeartbeats 2000000 in
theorem ps_dc (hr:Room (k+2) (A.deeper (envOfC "_law_ran" (defScope s_ran) s.heap.objs.size f cdv)))(mD:mg "dict"=none)(hV:Has P w K mg base (k+2) "_law_vals" ["_law_world_here","_law_body","_law_paths"] (spVals M)):PSsx (RnX P w K mg base f cdv A outer s H0 E) [fri 0,fri 1,fri 2,stR33] (tDc M):=by
 refine x_weaks (x_cons ⟨pset 6 sc_ran.nd (pe_callTy call_dict_d rfl mD boot_dict' (pa_cons (pv 3) pa_nil))⟩ (x_cons ⟨pset 7 sc_ran.nd (pe_slice (slT K) (pv 5) (po_some pe_int) po_none)⟩
  (x_cons ⟨ps_if (pt_cmpR op_eq (pe_ix (ixT K) (pv 5) pe_int) pe_str) pss_never pss_nil⟩ (x_one (ps_R33 hr hV))))) ?_
 rintro D σ H ⟨v0,v1',mk,wd,pd,d,o6,o7,o8,o9,o10,o11,o12,o13,most,st,lz,rfl,ns,npw,l8,alt⟩
 obtain⟨kn,hkn,lkn⟩:=ns.there
 obtain⟨kw,hkw⟩:=ns.wd
 refine⟨_,rfl,pd,kn,rfl,hkn,fun inn hinn=>?_⟩
 have s1:=same_new hinn (.dK kn)
 have b1:(upd H inn (.dK kn)) inn=some (.dK kn):=upd_same
 revert s1 b1
 generalize upd H inn (.dK kn)=H1
 intro s1 b1
 obtain⟨⟨f1,f2,f3,f4⟩,⟨p1,p2,p3⟩,m1,m2,m3,m4⟩:=w_sorts
 rcases alt with ⟨x1,x2,x3,hd,q⟩|⟨qq,st',⟨fc,a1,a2,hd,hv1,hv2⟩,sh,nxt,q⟩
 ·refine⟨_,rfl,3,rfl,d,_,rfl,SqT.of (s1 _ _ hd),(by rintro⟨z,_⟩;exact absurd z (by show ¬HT.sIx 4 0 (some 3)=0;decide)),fun bd hbd=>?_⟩
  have s2:=s1.trans (same_new hbd (.tup (cutV ([.str "face",x1,x2,x3]:List V) (some 3) none)))
  revert s2
  generalize upd H1 bd (.tup (cutV ([.str "face",x1,x2,x3]:List V) (some 3) none))=H2
  intro s2
  refine ix_t (a:=d) (j:=0) rfl (s2 _ _ hd) rfl ⟨rfl,_,rfl,?_⟩
  rw[decide_eq_false (fun z=>f3 (V.str.inj z))]
  exact iteF ⟨_,_,_,wd,pd,d,inn,bd,o8,o9,o10,o11,o12,o13,most,st,lz,rfl, .inl ⟨_,s2 _ _ hd,fun H3 s3=>q _ _ H3 (s2.trans s3)⟩⟩
 ·refine⟨_,rfl,3,rfl,d,_,rfl,SqT.of (s1 _ _ hd),(by rintro⟨z,_⟩;exact absurd z (by show ¬HT.sIx 5 0 (some 3)=0;decide)),fun bd hbd=>?_⟩
  rw[show cutV ([.str "part", .str qq.g, .str fc, .ref a1, .ref a2]:List V) (some 3) none=[.ref a1, .ref a2] from rfl]
  have s2':=same_new hbd (.tup [.ref a1, .ref a2])
  have s2:=s1.trans s2'
  have b2:(upd H1 bd (.tup [.ref a1, .ref a2])) bd=some (.tup [.ref a1, .ref a2]):=upd_same
  have i2:=s2' _ _ b1
  revert s2 b2 i2
  generalize upd H1 bd (.tup [.ref a1, .ref a2])=H2
  intro s2 b2 i2
  refine ix_t (a:=d) (j:=0) rfl (s2 _ _ hd) rfl ⟨rfl,_,rfl,?_⟩
  rw[decide_eq_false (fun z=>p3 (V.str.inj z))]
  have tp:Tup5 H H2:=fun b ys h=>s2 _ _ h
  refine iteF ⟨_,_,_,wd,pd,d,inn,bd,o8,o9,o10,o11,o12,o13,most,st,lz,rfl, .inr ⟨qq,st',_,s2 _ _ hd,ns.copy hkn (s2 _ _ hkn) (fun _ h=>s2 _ _ h),ns.copy hkn i2 (fun _ h=>s2 _ _ h),npw,Ne.symm (ne_of_none hkw hinn),l8,⟨a1,a2,b2,hv1.tps tp,hv2.tps tp⟩,sh,nxt,fun q11 q12 H3 n3 k3=>q _ _ q11 q12 H3 n3 fun b o nb np h=>k3 _ _ nb np (s2 _ _ h)⟩⟩
set_option maxHeartbeats 4000000 in
theorem ok_ran (F:Fun K "_law_ran" "_law_ran" s_ran f fd)(mD:mg "dict"=none)(mi:mg "isinstance"=none)(mI:mg "int"=none)(h1:Has P w K mg base 1 "_law_world" ["_law_program","_law_most"] spWorld)(h2:Has P w K mg base 1 "_law_fault" ["_law_world_here","_law_word"] spFault)(hv:Has P w K mg base (k+2) "_law_vals" ["_law_world_here","_law_body","_law_paths"] (spVals M))(hV:Has P w K mg base (k+1) "_law_value" pVl (spVal M)):FnOk P w K mg base CX0 (k+3) f fd ["_law_program","_law_most"] (spRan M):=by
 refine F.ok sc_ran (fun cdv A outer s H vs Q E hr h=>?_)
 have hu:=hu_of hr
 obtain⟨t,fa,mn,ds,qs,v,p,most,r0,c',rfl,pr,sh,hev,q1,q2⟩:=h
 rw[bodyRan,stR3_is]
 refine⟨_,pss_cons (pset 2 sc_ran.nd (pcall h1 hr (Nat.le_add_left _ _) rfl (pa_cons (pv 0) (pa_cons (pv 1) pa_nil))))
  (pss_cons (pset 3 sc_ran.nd pe_dnewK)
  (pss_cons (pset 4 sc_ran.nd (pe_callTy (call_dict_l rfl) rfl mD boot_dict' (pa_cons (pe_lc (te:=fun _ _ _=>False) (defScope s_ran) nRan [] [] (by decide+kernel) (piT K (pe_slice (slT K) (pv 0) po_none (po_some (pe_un un_neg pe_int)))) (fun C s₀ H₀ ex=>pts_one (pt_cmpR op_eq (pe_ix (ixT K) (pv 0) pe_int) pe_str)) (fun C s₀ H₀ ex=>pe_no)) pa_nil)))
  (pss_cons (x_for (X:=RnX P w K mg base f cdv A outer s H E) PassesOwn.never rfl (piT K (pe_slice (slT K) (pv 0) po_none (po_some (pe_un un_neg pe_int)))) (pg_name (i:=5) sc_ran.nd rfl (Or.inl rfl)) (ps_dc hr mD hv)).h
  (pss_cons (pset 13 sc_ran.nd (pcall hV hr (Nat.le_succ _) rfl (pa_cons (pv 2) (pa_cons (pe_ix (ixT K) (pe_ix (ixT K) (pv 0) (pe_un un_neg pe_int)) pe_int) (pa_cons (pv 3) pa_nil)))))
  (pss_cons (ps_if (pt_not (pt_val (pe_callB call_isi rfl mi boot_isinstance (pa_cons (pv 13) (pa_cons (pe_bltn (v:=.ty "int") rfl mI boot_int rfl) pa_nil))))) (pss_one (ps_expr (pcall h2 hr (Nat.le_add_left _ _) rfl (pa_cons (pv 2) (pa_cons pe_str pa_nil))))) pss_nil)
  (pss_one (ps_ret (pe_tup (pa_cons (pe_dget hu (pv 2) pe_str) (pa_cons (pv 13) (pa_cons (pe_dget hu (pv 2) pe_str) pa_nil))))))))))),?_⟩
 refine⟨_,rfl,_,rfl,t,_,most,rfl,pr.ds,fun wd H1 s1 hwd hw=>?_⟩
 refine fun pt hpt=>?_
 have s2:=same_new hpt (.dK [])
 have b2:(upd H1 pt (.dK [])) pt=some (.dK []):=upd_same
 have npw:pt≠wd:=fun z=>hw.there (by rw[←z];exact hpt)
 have hpt0:H pt=none:=s1.free hpt
 revert s2 b2
 generalize upd H1 pt (.dK [])=H2
 intro s2 b2
 have s02:=s1.trans s2
 have pr2:=pr.same s02
 have etp:(fa::(ds++[mn])).map V.ref=(fa::ds).map V.ref++[V.ref mn]:=by simp
 obtain⟨ct1,ct2⟩:=cut_last ((fa::ds).map V.ref) (V.ref mn)
 have htp:∀{H'},Same H H'→H' t=some (.tup ((fa::ds).map V.ref++[V.ref mn])):=fun s'=>by rw[←etp];exact(pr.same s').tp
 refine⟨_,rfl,?_⟩
 refine⟨1,rfl,_,rfl,t,_,rfl,SqT.of (htp s02),ct2,fun c1 hc1=>⟨c1,rfl,⟨_,SqT.of upd_same⟩,?_⟩⟩
 rw[ct1]
 have s3:=same_new hc1 (.tup ((fa::ds).map V.ref))
 have b3:(upd H2 c1 (.tup ((fa::ds).map V.ref))) c1=some (.tup ((fa::ds).map V.ref)):=upd_same
 revert s3 b3
 generalize upd H2 c1 (.tup ((fa::ds).map V.ref))=H3
 intro s3 b3
 have s03:=s02.trans s3
 refine comp_tup (xs:=(fa::ds).map V.ref) (fun i vs H'=>H'=H3∧vs=[]) ⟨rfl,rfl⟩ ?_ ?_ ?_
 ·rintro i vs H' hi ⟨rfl,rfl⟩
  exact⟨SqT.of b3,small' (by decide)⟩
 ·rintro i x vs H' hi hx ⟨rfl,rfl⟩
  rw[List.getElem?_map]at hx
  cases e:(fa::ds)[i]? with
  |none=>rw[e]at hx;cases hx
  |some d=>
  rw[e]at hx
  cases hx
  obtain⟨sw,xs,g1,g2,g3,g4⟩:=(pr.same s03).ds.at_ d (by rw[show fa::(ds++[mn])=(fa::ds)++[mn] from rfl];exact List.mem_append_left _ (List.mem_of_getElem? e))
  refine ix_t (a:=d) (j:=0) rfl g1 rfl ⟨rfl,_,rfl,?_⟩
  rw[decide_eq_false (fun z=>g3 (V.str.inj z))]
  exact iteF (nx hi ⟨rfl,rfl⟩)
 rintro vs H' ⟨rfl,rfl⟩ l hl
 have s4:=same_new hl (.lst [])
 refine⟨l,[],[],rfl,upd_same,rfl,fun j p kv hj=>by simp at hj,fun dm' hdm=>?_⟩
 have s5:=same_new hdm (.dK (mergeK [] []))
 have s25:=s3.trans (s4.trans s5)
 revert s25
 generalize upd (upd H' l (.lst [])) dm' (.dK (mergeK [] []))=H5
 intro s25
 have s05:=s02.trans s25
 refine⟨_,rfl,1,rfl,_,rfl,t,_,rfl,SqT.of (htp s05),ct2,fun c2 hc2=>⟨c2,rfl,⟨_,SqT.of upd_same⟩,?_⟩⟩
 rw[ct1]
 have s6:=same_new hc2 (.tup ((fa::ds).map V.ref))
 have b6:(upd H5 c2 (.tup ((fa::ds).map V.ref))) c2=some (.tup ((fa::ds).map V.ref)):=upd_same
 revert s6 b6
 generalize upd H5 c2 (.tup ((fa::ds).map V.ref))=H6
 intro s6 b6
 have s26:=s25.trans s6
 have s06:=s02.trans s26
 have hw6:=(hw.same s2).same s26
 unfold evMain at hev
 cases hp:evPs most M qs [] 0 with
 |mk oR cR=>
 rw[hp]at hev
 cases oR with
 |none=>cases hev
 |some R=>
 obtain⟨kw6,hkw6,_⟩:=id hw6
 have hpt6:=s26 _ _ b2
 have hwdH:H wd=none:=hwd
 have hptH:H pt=none:=hpt0
 let Pv:Nat→L2.St→Hp→Prop:=fun i σ H'=>(∃o5 o6 o7 o11 o12:Option V,σ=[some (.ref t),some (.int most),some (.ref wd),some (.ref pt),some (.ref dm'),o5,o6,o7,none,none,none,o11,o12,none])∧(∀b o,b≠wd→b≠pt→H6 b=some o→H' b=some o)∧∃(st:Sta) (lz:Nat),NS lz H' wd pt most st∧lz≤2*i∧Rest most M (qs.drop (i-1)) R cR st
 have sameH:∀{H'},(∀b o,b≠wd→b≠pt→H6 b=some o→H' b=some o)→Same H H':=fun k b o h=>k b o (ne_of_none h hwdH) (ne_of_none h hptH) (s06 _ _ h)
 refine for_tup (xs:=(fa::ds).map V.ref) Pv ⟨⟨_,_,_,_,_,rfl⟩,fun _ _ _ _ h=>h, .inl ([],0),0, .ok [] 0 hw6 (le_nil hpt6) (Nat.le_refl _),Nat.le_refl _,hp⟩ ?_ ?_ ?_
 ·rintro i σ H' _ ⟨_,k,_⟩
  exact SqT.of (k _ _ (ne_of b6 hkw6 (by intro z;cases z)) (ne_of b6 hpt6 (by intro z;cases z)) b6)
 ·rintro i x σ H' hx ⟨⟨o5,o6,o7,o11,o12,rfl⟩,k,st,lz,ns,llz,rest⟩
  have pr':=pr.same (sameH k)
  rw[List.getElem?_map]at hx
  have li:i<(fa::ds).length:=by
   cases e:(fa::ds)[i]? with
   |none=>rw[e]at hx;cases hx
   |some d=>exact(List.getElem?_eq_some_iff.mp e).1
  have ld:=pr.len
  have li':i≤10:=by rw[List.length_cons]at li;omega
  cases i with
  |zero=>
   cases hx
   obtain⟨fx,hf,lf⟩:=pr'.fc
   obtain⟨x1,x2,x3,rfl⟩:∃x1 x2 x3,fx=[x1,x2,x3]:=by
    match fx,lf with
    |[x1,x2,x3],_=>exact⟨x1,x2,x3,rfl⟩
   refine⟨_,_,_,wd,pt,fa,o6,o7,none,none,none,o11,o12,none,most,st,lz,rfl,ns,npw,by omega, .inl ⟨x1,x2,x3,hf,fun q6 q7 H7 s7=>?_⟩⟩
   obtain⟨kn,hkn,_⟩:=ns.there
   exact⟨⟨_,_,_,_,_,rfl⟩,fun b o n1 n2 h=>s7 _ _ (k _ _ n1 n2 h),st,lz,ns.copy hkn (s7 _ _ hkn) (fun _ h=>s7 _ _ h),by omega,rest⟩
  |succ i=>
   rw[List.getElem?_cons_succ]at hx
   cases e:ds[i]? with
   |none=>rw[e]at hx;cases hx
   |some d=>
   rw[e]at hx
   cases hx
   obtain⟨qq,hq,hpa⟩:=pr'.pa.get e
   have liq:i<qs.length:=(List.getElem?_eq_some_iff.mp hq).1
   have hdr:qs.drop (i+1-1)=qq::qs.drop (i+1+1-1):=by
    show qs.drop i=qq::qs.drop (i+1)
    rw[List.drop_eq_getElem_cons liq]
    rw[List.getElem?_eq_getElem liq]at hq
    cases hq
    rfl
   rw[hdr]at rest
   obtain⟨st',nxt,rest'⟩:=rest_step rest
   exact⟨_,_,_,wd,pt,d,o6,o7,none,none,none,o11,o12,none,most,st,lz,rfl,ns,npw,by omega, .inr ⟨qq,st',hpa,sh qq (List.mem_of_getElem? hq),nxt,fun q6 q7 q11 q12 H7 n7 k7=>⟨⟨_,_,_,_,_,rfl⟩,fun b o n1 n2 h=>k7 _ _ n1 n2 (k _ _ n1 n2 h),st',lz+2,n7,by omega,rest'⟩⟩⟩
 rintro σ H' ⟨⟨o5,o6,o7,o11,o12,rfl⟩,k,st,lz,ns,llz,rest⟩
 have sH:=sameH k
 have pr':=pr.same sH
 have ld:=pr.pa.1
 rw[List.length_map,List.length_cons,Nat.add_sub_cancel,ld,List.drop_length]at rest
 have lt':atI ((fa::ds).map V.ref++[V.ref mn]) (-1)=some (.ref mn):=atI_last _ _
 cases ns with
 |ok E0 c w0 le0 l0=>
  have he0:evPs most M [] E0 c=(some R,cR):=rest
  unfold evPs at he0
  cases he0
  dsimp only at hev
  cases he:ev most M p E0 cR 0 with
  |none=>rw[he]at hev;cases hev
  |some rc=>
  obtain⟨r1,c1'⟩:=rc
  rw[he]at hev
  cases hev
  refine⟨_,rfl,_,rfl,1,rfl,t,_,_,_,rfl,rfl,SqT.of (htp sH),lt',mn,_,1,v,rfl,rfl,SqT.of pr'.mn,atI_nat (j:=1) rfl,_,rfl, .ok wd v pt p E0 most cR 0 r0 c' rfl w0 pr'.ph le0 npw he ⟨fun i hr0 h6 H7 w7 k7=>?_,fun oo hr0 v7 H7 u7 n7 w7 k7=>?_⟩⟩
  ·have s07:Same H H7:=fun b o h=>k7 b o (ne_of_none h hwdH) (sH b o h)
   obtain⟨kvs,g1,g2,g3,g4,g5⟩:=id w7
   exact⟨_,rfl,_,_,_,_,rfl, .int i,kit_int K,true,rfl,iteF (dg_at rfl g1 g3 ⟨_,rfl,dg_at rfl g1 g4 ⟨sml 3,fun r hr'=>q1 i hr0 h6 r _ (s07.trans (same_new hr' _)) upd_same⟩⟩)⟩
  ·obtain⟨kvs,g1,g2,g3,g4,g5⟩:=id w7
   have s07:Same H H7:=fun b o h=>k7 b o (ne_of_none h hwdH) (sH b o h)
   have fin:tRet (tTup (tCons (tDGet (tVar 2) (tC (.str "word"))) (tCons (tVar 13) (tCons (tDGet (tVar 2) (tC (.str "begun"))) tNil)))) (Ends.of Q) [some (.ref t),some (.int most),some (.ref wd),some (.ref pt),some (.ref dm'),o5,o6,o7,none,none,none,o11,o12,some v7] H7 :=
    dg_at rfl g1 g3 ⟨_,rfl,dg_at rfl g1 g4 ⟨sml 3,fun r hr'=>q2 oo hr0 v7 r _ (s07.trans (same_new hr' _)) upd_same⟩⟩
   rcases n7 with rfl|⟨i,rfl⟩
   ·exact⟨_,rfl,_,_,_,_,rfl, .non,(kit_l K).2.2.2.2,false,rfl,iteT ⟨_,rfl, .old wd "stuck" _ _ _ _ rfl w7 (ot_no oo) fin⟩⟩
   ·exact⟨_,rfl,_,_,_,_,rfl, .int i,kit_int K,true,rfl,iteF fin⟩
 |no oo c u7 kn w7 hkn l0=>
  obtain⟨rfl,rfl⟩:R=.inr oo∧cR=c:=rest
  dsimp only at hev
  cases hev
  obtain⟨kvs,g1,g2,g3,g4,g5⟩:=id w7
  refine⟨_,rfl,_,rfl,1,rfl,t,_,_,_,rfl,rfl,SqT.of (htp sH),lt',mn,_,1,v,rfl,rfl,SqT.of pr'.mn,atI_nat (j:=1) rfl,_,rfl, .no wd v (.ref pt) _ _ _ _ rfl w7 (ot_no oo) ?_⟩
  exact⟨_,rfl,_,_,_,_,rfl, .non,(kit_l K).2.2.2.2,false,rfl,iteT ⟨_,rfl, .old wd "stuck" _ _ _ _ rfl w7 (ot_no oo) (dg_at rfl g1 g3 ⟨_,rfl,dg_at rfl g1 g4 ⟨sml 3,fun r hr'=>q2 oo rfl .non r _ (sH.trans (same_new hr' _)) upd_same⟩⟩)⟩⟩
end
end Fw
namespace L2
open PySem PySem.Spec PyProof.Rows
section
variable {P:Program}{w:World}{K:PySem.W.Frag}{mg:Str→Option Value}{base:Heap}{N:List Str}{qual:Str}{scope:Scope}{f:Addr}{cd:Value}{A:Around}{outer:List Env}{s:Shared}{H:Hp}{E:XK}
end
theorem ints_at:∀{ns:List Int} {us:List Value} {i:Nat} {v:Value},Vals (ns.map V.int) us→us[i]?=some v→∃t,v=.int (ns.getD i 0) t
 |[],_,_,_, .nil,h=>by simp at h
 |n::ns,_,0,_, .cons r q,h=>by
  simp at h
  subst h
  exact r
 |n::ns,_,i+1,_, .cons r q,h=>by
  simp at h
  obtain⟨t,e⟩:=ints_at q h
  exact⟨t,by rw[e];simp⟩
end L2
namespace PySem
theorem entry_unchain:entryFor table "proto.unchain"=some Builtin.«proto.unchain»:=entryFor_of_fast (by kernel_rfl)
section
variable {prog:Program}{w:World}{A:Around}{E:Value→Shared→Prop}{s:Shared}{ea:Addr}{oe:Obj}{ws:Array Value}
theorem unchain_alone {v:Value}{Q:Value→Shared→Prop}(ge:s.heap.get? ea=some oe)(gd:oe.data=.fields ws)(g2:ws[2]?=some .none)(h:∀u,Q u s):
  wpAny (model prog w) A (runValue (.builtin "proto.unchain" ⟨[v, .ref ea, .ref ea, .bool false],[]⟩)) Q E s:=by
 refine wpAny_runValue (codeAny_builtin entry_unchain ?_)
 unfold Builtin.«proto.unchain»
 refine wpAny_bind (wpAny_field ge gd g2 ?_)
 rw[if_pos (by rfl)]
 exact wpAny_pure (h _)
theorem raise_alone {α:Type}{e:Addr}{o:Obj}{vs:Array Value}{Q:α→Shared→Prop}(hh:A.handled=some (.ref ea))(ge:s.heap.get? ea=some oe)(gd:oe.data=.fields ws)(g2:ws[2]?=some .none)(ne:ea≠e)(he:s.heap.get? e=some o)(hd:o.data=.fields vs)(hz:2<vs.size)
  (h:E (.ref e) {s with heap:=s.heap.update e (Obj.mapFields (·.setIfInBounds 2 (.ref ea)))}):wpAny (model prog w) A (raiseNew (α:=α) (.ref e)) Q E s:=by
 unfold raiseNew
 refine wpAny_bind (wpAny_handled ?_)
 rw[hh]
 show wpAny _ _ (if(Value.ref ea !=Value.ref e)=true then _ else _) _ _ s
 rw[if_pos (by simpa using ne)]
 refine wpAny_bind (wpAny_holding (unchain_alone ge gd g2 fun u=>?_))
 show wpAny _ _ (setField (.ref e) 2 (.ref ea)>>=_) _ _ s
 exact wpAny_bind (wpAny_setField he hd hz (wpAny_throw h))
theorem next_alone {it l:Addr}{i:Nat}{items}{Q:Option Value→Shared→Prop}(hh:A.handled=some (.ref ea))(ge:s.heap.get? ea=some oe)(gd:oe.data=.fields ws)(g2:ws[2]?=some .none)(ni:ea≠it)(hit:s.heap.IsListIter it l i)(hl:s.heap.IsList l items)(hx:items[i]?=none)
  (hQ:∀h',Heap.ExtBut it s.heap h'→Q none {s with heap:=h'}):wpAny (model prog w) A (pyNext (.ref it)) Q E s:=by
 obtain⟨oi,gi,ci,di⟩:=id hit
 obtain⟨ol,gl,_,n,dl⟩:=hl
 unfold pyNext
 refine wpAny_bind (wpAny_attempt (wpAny_callSpecial?_slot (name:=Str.ofString "__next__") hit.typeIs slot_listiter_next
  (wpAny_call_entry slot_listiter_next hit.typeIs entry_listiter_next ?_ (args_listiter_next _))))
 show wpAny (model prog w) A.in1 (field (.ref it) 0>>=_) _ _ s
 refine wpAny_bind (wpAny_field (x:=.ref l) gi di rfl ?_)
 show wpAny (model prog w) A.in1 (if(Value.ref l==Value.none)=true then _ else _) _ _ s
 rw[if_neg (show(Value.ref l==Value.none)≠true from Bool.false_ne_true)]
 show wpAny (model prog w) A.in1 (field (.ref it) 1>>=_) _ _ s
 refine wpAny_bind (wpAny_field (x:=.int i 0) gi di rfl ?_)
 show wpAny (model prog w) A.in1 (seqItems? (.ref l)>>=_) _ _ s
 refine wpAny_bind (wpAny_seqItems gl dl ?_)
 simp only[Int.toNat_natCast,hx]
 refine wpAny_bind (wpAny_rule (wpAny_bind (wpAny_setField gi di (by simp) ?_)))
 show wpAny (model prog w) A.in1 (newExc (.type "StopIteration") []>>=_) _ _ _
 refine wpAny_bind ?_
 simp only[newExc,newTuple]
 refine wpAny_bind (wpAny_newObj_type (wpAny_bind (m:=firstArgMember _ _) (wpAny_of_eq (a:=Value.none) (by first|rfl|(simp only[firstArgMember];rfl)) (wpAny_newObj_type ?_ (by size_fits)))) (by size_fits))
 generalize hg:(s.heap.update it _).push _=g
 have kg:∀b o,b≠it→s.heap.get? b=some o→g.get? b=some o:=fun b o n q=>by
  rw[←hg]
  exact Heap.get?_push_of_some _ ((Heap.get?_update_other _ _ (Ne.symm n)).trans q)
 have g1:=kg ea oe ni ge
 refine raise_alone (e:=g.objs.size) (s:={s with heap:=_}) hh (Heap.get?_push_of_some _ g1) gd g2 (Nat.ne_of_lt (Heap.lt_size g1)) (Heap.get?_push_size _ rfl) rfl (by simp;omega) ?_
 refine wpAny_bind (wpAny_isInstance (T:="StopIteration") (b:=true) ⟨_,Heap.get?_update_self _ (Heap.get?_push_size _ rfl) (Obj.isFreed_of_fields (Obj.data_mapFields rfl _)),Obj.cls_mapFields _ _⟩ isSubtype_stop (wpAny_pure (hQ _ fun b o n q=>?_)))
 have q1:=kg b o n q
 exact(Heap.get?_update_other _ _ (Ne.symm (Nat.ne_of_lt (Heap.lt_size q1)))).trans (Heap.get?_push_of_some _ q1)
end
end PySem
namespace L2
open PySem PySem.Spec PyProof.Rows
def Sui (X:Cx):Prop:=∃ea oe,X.A.handled=some (.ref ea)∧(ea,oe)∈X.pn∧Alone oe
theorem turn_listS {P:Program}{w:World}{K:PySem.W.Frag}{tg:Expr}(a it:Addr):TurnQ Sui P w K tg (Itl K a) [it] it (fun i h=>h.IsListIter it a i) where
 mem:=(turn_list (P:=P) (w:=w) (K:=K) (tg:=tg) a it).mem
 obj:=(turn_list (P:=P) (w:=w) (K:=K) (tg:=tg) a it).obj
 keep:=(turn_list (P:=P) (w:=w) (K:=K) (tg:=tg) a it).keep
 item:=by
  intro X hP hw hK hc i pins s σ H E I fp st go
  subst hP hw hK
  obtain⟨xs,x,sq,hx⟩:=go
  obtain⟨us,vu,pl,_⟩:=I.list sq
  obtain⟨u,eu,ru⟩:=vu.get hx
  obtain⟨n0,n1,n2,n3,n4,n5⟩:=fp it List.mem_cons_self
  refine wpAny_pyNext_list_item st pl.isList (x:=u) (by simpa using eu) fun g st1 sb=>?_
  obtain⟨o,ho,hcl,hd⟩:=id st1
  have I1:Inv X pins σ H {s with heap:=g}:=I.turned (t':=s.toks) (fun b o' nb e=>(sb.2 b nb).trans e) n0 n1 n3 n4 n5
  exact⟨u,rfl,go_of (s:={s with heap:=g}) ho hcl hd (by decide) ⟨x,H,I1,ru,⟨rfl,fun ys hy=>by rw[I.list_inj hy sq];exact hx⟩,st1,fun b hb=>(fp b hb).1⟩⟩
 done:=by
  intro X hP hw hK hc i pins s σ H E I fp st stop
  subst hP hw hK
  obtain⟨xs,sq,hx⟩:=stop
  obtain⟨us,vu,pl,_⟩:=I.list sq
  obtain⟨n0,n1,n2,n3,n4,n5⟩:=fp it List.mem_cons_self
  obtain⟨ea,oe,hh,hp,ws,gd,g2⟩:=hc
  have pe:=I.pin (ea,oe) (List.mem_append_left _ hp)
  have hl:=vu.length
  exact next_alone hh pe.1 gd g2 (n5 _ (List.mem_append_left _ hp)) st pl.isList (by simp;exact Nat.le_trans (Nat.le_of_eq hl.symm) hx) fun g eb=>⟨rfl,I.turned (t':=s.toks) (fun b o nb e=>eb b o nb e) n0 n1 n3 n4 n5⟩
 self:=(turn_list (P:=P) (w:=w) (K:=K) (tg:=tg) a it).self
theorem pi_listS {X:Cx}{tg l:Expr}{tl:TE}(hl:PE X l tl):PIQ Sui X tg l (iList X.K tl):=by
 intro pins s σ H R I h
 refine thn (hl pins s σ H _ I h) fun v s1 ⟨x,H1,I1,r1,q1⟩=>?_
 obtain⟨a,e,⟨xs,sq⟩,q⟩:=q1
 subst e
 cases r1
 obtain⟨us,vu,pl,_⟩:=I1.list sq
 refine wpAny_pyIter_list pl.isList ⟨s1.heap.objs.size,[s1.heap.objs.size],_,_,H1,rfl,I1.kept (t':=s1.toks) fun b o e=>Heap.get?_push_of_some _ e,turn_listS a _,⟨_,Heap.get?_push_size _ rfl,rfl,rfl⟩,fun b hb=>?_,q⟩
 obtain rfl:b=s1.heap.objs.size:=by simpa using hb
 exact I1.fpOk (Nat.le_refl _) (I1.hok.fresh (Nat.le_refl _))
theorem pe_lcS {X:Cx}{elt iter:Expr}{x:Str}{px pos:Pos}{ifs:List Expr}{scope:Scope}{wi:TI}{tt:TT}{te:TE}(osc:Scope)(N:List Str)(frees:List Str)(idx:List Nat)
  (hk:compOk osc N x frees idx scope=true) (hc:Sui X) (hi:PIQ Sui X (.Name x px) iter wi)
  (ht:∀C s₀ H₀ ex,PTs (cxComp X (x::frees) scope C s₀ H₀ ex) ifs tt) (he:∀C s₀ H₀ ex,PE (cxComp X (x::frees) scope C s₀ H₀ ex) elt te)
  (ho:X.env.scope=osc:=by rfl) (hN:X.N=N:=by rfl) (hs:∀v,foldedSetIterable iter X.env v=pure v:=by intro _;rfl):PE X (.ListComp elt [⟨.Name x px,iter,ifs,0⟩] scope pos) (tComp idx wi tt te):=by
 obtain⟨S,fl⟩:=compOk_scope (X:=X) hk ho hN
 exact pe_lcomp (qt:=Sui) (fun _ _ _ _=>hc) S fl hi ht he hs
theorem walks_alone {prog:Program}{w:World}{A:Around}{ea:Addr}{oe:Obj}{ws:Array Value}(hh:A.handled=some (.ref ea))(gd:oe.data=.fields ws)(g2:ws[2]?=some .none)(it l:Addr)(n1:l≠it)(n2:ea≠it)(items:Array Value):
  Walks prog w A it [it,l,ea] [it] items.size (fun i v=>items[i]?=some v) (fun i h=>h.IsListIter it l i∧h.IsList l items∧h.get? ea=some oe) where
 sub:=fun b hb=>by rw[List.mem_singleton.mp hb];exact List.mem_cons_self
 frame:=fun _ _ _ st k=>⟨st.1.at fun o e=>k it (by simp) o e,st.2.1.at fun o e=>k l (by simp) o e,k ea (by simp) _ st.2.2⟩
 item:=fun i s Q E hi st hQ=>wpAny_pyNext_list_item st.1 st.2.1 (x:=items[i]) (by simp[hi]) fun g st' sb=>hQ _ g s.toks (by simp[hi]) ⟨st',st.2.1.extBut sb.extBut n1,(sb.2 ea n2).trans st.2.2⟩ fun b o hb e=>sb.extBut b o (fun z=>hb (by simp[z])) e
 done:=fun s Q E st hQ=>next_alone hh st.2.2 gd g2 n2 st.1 st.2.1 (by simp) fun g eb=>hQ g s.toks fun b o hb e=>eb b o (fun z=>hb (by simp[z])) e
 self:=fun _ _ _ _ st q=>wpAny_pyIter_listiter st.1 q
theorem call_sumS {X:Cx}(hc:Sui X):CallR X (.builtin "sum") (fun xs H Q=>∃(p:Addr) (ns:List Int),xs=[.ref p]∧SqL X.K H p (ns.map V.int)∧(∀j,j<ns.length→InLong (ns.getD j 0)∧InLong (preSum (fun i=>ns.getD i 0) (j+1)))∧Q (.int (preSum (fun i=>ns.getD i 0) ns.length)) H):=by
 intro pins s σ H xs us Q I r h
 obtain⟨p,ns,rfl,hq,hf,q⟩:=h
 obtain⟨u,rfl,rx⟩:=vals1 r
 cases rx
 obtain⟨its,r',pl,_⟩:=I.list hq
 have hl:=pl.isList
 have hlen:its.length=ns.length:=by have:=r'.length;rw[List.length_map]at this;exact this.symm
 have hlt:p<s.heap.objs.size:=by obtain⟨_,e,_⟩:=hl;exact Heap.lt_size e
 obtain⟨ea,oe,hh,hp,ws,gd,g2⟩:=hc
 have ge:=(I.pin (ea,oe) (List.mem_append_left _ hp)).1
 have elt:=Heap.lt_size ge
 refine call_sum_walk (wpAny_pyIter_list hl ⟨s.heap.objs.size,[s.heap.objs.size,p,ea],[s.heap.objs.size],its.toArray.size,_,_,fun i=>ns.getD i 0,rfl,walks_alone (A:=X.A.in1) hh gd g2 _ p (Nat.ne_of_lt hlt) (Nat.ne_of_lt elt) its.toArray,
  ⟨⟨_,Heap.get?_push_size _ rfl,rfl,rfl⟩,hl.push _,Heap.get?_push_of_some _ ge⟩,fun b hb=>?_,fun i v hP=>ints_at r' (by simpa using hP),fun j hj=>hf j (by rw[←hlen];simpa using hj),fun h' tk t' hk=>?_⟩)
 ·have hb':b=s.heap.objs.size∨b=p∨b=ea:=by simpa using hb
  rw[Heap.size_push]
  rcases hb' with rfl|rfl|rfl
  ·exact Nat.lt_succ_self _
  ·exact Nat.lt_succ_of_lt hlt
  ·exact Nat.lt_succ_of_lt elt
 ·rw[List.size_toArray,hlen]
  exact⟨.int _,H,I.kept (LSm.kept_iter hk),⟨_,rfl⟩,q⟩
theorem call_isiP {X:Cx}{ea:Addr}{oe:Obj}(hp:(ea,oe)∈X.pn):CallR X (.builtin "isinstance") (fun xs H Q=>∃C D b,xs=[.ref ea, .ref D]∧oe.cls=.ref C∧ExcCls X.K C∧PySem.W.kitOne X.K (.ref C) (.ref D)=some b∧Q (.bl b) H):=by
 intro pins s σ H xs us Q I r h
 obtain⟨C,D,b,rfl,c,S,k,q⟩:=h
 obtain⟨u,u',rfl,rx,ry⟩:=vals2 r
 cases(show u=Value.ref ea from rx)
 cases(show u'=Value.ref D from ry)
 exact PySem.W.kia_one (kitx_exc S) I.kIn ⟨oe,(I.pin (ea,oe) (List.mem_append_left _ hp)).1,c⟩ k (fun z=>nomatch z) fun tk=>⟨.bl b,H,I.tok tk,rfl,q⟩
open PySem PySem.Spec PyProof.Rows PySem.SeqAt
section
variable {X:Cx}
theorem vals_bools:∀{bs:List Bool} {us:List Value},Vals (bs.map V.bl) us→us=bs.map Value.bool
 |[],us,r=>by cases r;rfl
 |b::bs,us,r=>by
  cases r with
  |cons a c=>rw[List.map_cons,←vals_bools c];cases(show _=Value.bool b from a);rfl
theorem eq_bools (k:Bool)(bs:List Bool):∀y,y∈(bs.map Value.bool).toArray→∀(A:Around) (s:Shared),EqAt A s y (.bool k) (isBoolOf k y):=fun y hy A s=>by
 have hy':y∈bs.map Value.bool:=by simpa using hy
 obtain⟨b,_,rfl⟩:=List.mem_map.mp hy'
 exact EqAt.bool_bool b k
def rIndexB:V→List V→Hp→VK→Prop:=fun x vs H Q=>∃(l:Addr) (bs:List Bool) (k:Bool) (j:Nat),x=.ref l∧vs=[.bl k]∧H l=some (.lst (bs.map V.bl))∧bs[j]?=some k∧(∀m,m<j→bs[m]?=some (!k))∧Q (.int (j:Int)) H
theorem mt_indexB:MtM X "list.index" rIndexB:=by
 intro pins s σ H x vs v us Q I rx rv h
 obtain⟨l,bs,k,j,rfl,rfl,hH,hj,hno,q⟩:=h
 cases rx
 obtain⟨u,rfl,ru⟩:=rv.one
 cases(show u=Value.bool k from ru)
 obtain⟨z,its,n,r,hl,e⟩:=I.lstM hH
 have ei:=vals_bools r
 subst ei
 have hlt:j<bs.length:=(List.getElem?_eq_some_iff.mp hj).1
 have h63:=line63
 rw[List.length_map]at z
 refine call_meets PySem.F.slot_list_index ⟨_,e,rfl⟩ PySem.F.entry_list_index (PySem.F.args_list_index_2 _ _)
  (list_indexAt l _ n none #[] (.bool k) (isBoolOf k) j (by simpa using hlt) (by omega) ?_ ?_) ⟨e,fun y hy=>eq_bools k bs y hy _ _,⟨.int _,H,I.tok _,⟨_,rfl⟩,q⟩⟩
 ·have e1:(bs.map Value.bool).toArray[j]'(by simpa using hlt)=.bool k:=by
   simp only[List.getElem_toArray,List.getElem_map]
   rw[(List.getElem?_eq_some_iff.mp hj).2]
  rw[e1]
  show(k==k)=true
  simp
 ·intro m hm hlt'
  have hm':=hno m hlt'
  have e1:(bs.map Value.bool).toArray[m]'hm=.bool (!k):=by
   simp only[List.getElem_toArray,List.getElem_map]
   rw[(List.getElem?_eq_some_iff.mp hm').2]
  rw[e1]
  show((!k)==k)=false
  cases k<;>rfl
end
end L2
namespace Fw
open PySem PySem.Spec PyProof.Rows L2
theorem comp_lst {K:PySem.W.Frag}{H:Hp}{a:Addr}{xs:List V}{tt:TT}{te:TE}{σ':L2.St}{Q:VK}(Pv:Nat→List V→Hp→Prop)(h0:Pv 0 [] H)(hl:∀i vs H,i≤xs.length→Pv i vs H→SqL K H a xs∧vs.length<sizeLine)
  (hs:∀i x vs H2,i<xs.length→xs[i]?=some x→Pv i vs H2→tt (some x::σ') H2 fun b H4=>if b=true then te (some x::σ') H4 fun v H5=>Nx xs.length i (Pv (i+1) (vs++[v]) H5) else Nx xs.length i (Pv (i+1) vs H4))
  (hd:∀vs H2,Pv xs.length vs H2→∀l,H2 l=none→Q (.ref l) (upd H2 l (.lst vs))):CompW (Itl K a) tt te σ' Q H:=by
 refine⟨fun i m vs H=>m=xs.length-i∧i≤xs.length∧Pv i vs H,⟨xs.length,by simp,Nat.zero_le _,h0⟩,?_⟩
 rintro i m vs H2 ⟨rfl,hi,p⟩
 obtain⟨q1,q2⟩:=hl i vs H2 hi p
 refine⟨q2,?_⟩
 by_cases hlt:i<xs.length
 ·refine .inr ⟨⟨xs,xs[i],q1,by simp[hlt]⟩,?_⟩
  rintro x H3 ⟨e,y⟩
  subst e
  exact hs i x vs _ hlt (y xs q1) p
 ·have e:i=xs.length:=by exact Nat.le_antisymm hi (Nat.not_lt.mp hlt)
  subst e
  exact .inl ⟨⟨xs,q1,Nat.le_refl _⟩,hd vs H2 p⟩
theorem pssW {X:Cx}{b:List Stmt}{t t':TS}(h:PSs X b t)(k:∀D σ H,t' D σ H→t D σ H):PSs X b t':=fun pins s σ H D I q=>h pins s σ H D I (k D σ H q)
theorem boot_sum':bootBuiltins "sum"=some (.builtin "sum"):=by decide+kernel
def eqO:Ot→Ot→Bool
 |.stuck, .stuck=>true|.great, .great=>true|.long, .long=>true|.deep, .deep=>true
 |_,_=>false
def bsO (o:Ot):List Bool:=[eqO o .stuck,eqO o .great,eqO o .long,eqO o .deep]
def itO (o:Ot):List Int:=(bsO o).map fun b=>if b=true then 1 else 0
def ixO:Ot→Nat
 |.stuck=>0|.great=>1|.long=>2|.deep=>3
def marks (o:Ot):List V:=(bsO o).map V.bl
structure ClsT (K:PySem.W.Frag)(mg:Str→Option Value)(C:CA)(CX:Addr):Prop where
 iS:mg "Stuck"=some (.ref C.S)
 iT:mg "TooGreat"=some (.ref C.T)
 iL:mg "TooLong"=some (.ref C.L)
 iD:mg "TooDeep"=some (.ref C.D)
 iX:mg "FaceError"=some (.ref CX)
 iI:mg "isinstance"=none
 iN:mg "int"=none
 iM:mg "sum"=none
 ex:∀o,ExcCls K (outA C o)
 k:∀o o',PySem.W.kitOne K (.ref (outA C o)) (.ref (outA C o'))=some (eqO o o')
theorem ClsT.inj {K:PySem.W.Frag}{mg:Str→Option Value}{C:CA}{CX:Addr}(Z:ClsT K mg C CX){o o':Ot}(h:outA C o=outA C o'):o=o':=by
 have h1:=Z.k o o'
 rw[←h,Z.k o o]at h1
 cases o<;>cases o'<;>first|rfl|(exact absurd (Option.some.inj h1) (by decide))
inductive spTold (vs:List V)(H:Hp)(Q:VK)(E_:XK):Prop where
 |mk (t fa mn:Addr) (ds:List Addr) (qs:List Pa) (v:V) (p:Ph) (x1 x2:Str) (m:Nat) (most:Int) (r:Rs) (c':Nat):vs=[.ref t, .int most]→PrL H t fa mn ds qs v p→(∀q∈qs,PaOk x1 x2 q)→evMain most m qs p=(some r,c')→m≤10000→(∀i,r=.val i→In60 i→∀(r:Addr) H',Same H H'→H' r=some (.tup [.str "", .int i])→Q (.ref r) H')→(∀o,r=.out o→∀(r:Addr) H',Same H H'→H' r=some (.tup [.str (otW o), .non])→Q (.ref r) H')→spTold vs H Q E_
abbrev s_told:Stmt:=top 80
abbrev nTold:List Str:=["_law_program","_law_most","_law_word","_law_made","e","_law_some"]
theorem sc_told:FnScope nTold ["_law_program","_law_most"] (defScope s_told):=⟨rfl,rfl,rfl,by decide+kernel,rfl,by decide+kernel,by decide+kernel⟩
def suiteB:List Stmt:=match(defBody s_told).getD 2 (.Pass ⟨0,0,0,0⟩) with|.Try _ [.ExceptHandler _ _ b _] _ _ _=>b|_=>[]
@[irreducible] def stS0:Stmt:=suiteB.getD 0 (.Pass ⟨0,0,0,0⟩)
@[irreducible] def stS2:Stmt:=suiteB.getD 2 (.Pass ⟨0,0,0,0⟩)
theorem suite_is:suiteB=[stS0,suiteB.getD 1 (.Pass ⟨0,0,0,0⟩),stS2]:=by
 unfold stS0 stS2
 rfl
def tS0 (o:Ot)(ea:Addr):TS:=fun D σ H=>∃v0 v1 v2 v3:V,σ=[some v0,some v1,some v2,some v3,some (.ref ea),none]∧∀(l:Addr) H',Same H H'→H' l=some (.lst (marks o))→D.nx [some v0,some v1,some v2,some v3,some (.ref ea),some (.ref l)] H'
def tS2 (o:Ot)(ea:Addr):TS:=fun D σ H=>∃(v0 v1 v2 v3:V) (l:Addr),σ=[some v0,some v1,some v2,some v3,some (.ref ea),some (.ref l)]∧H l=some (.lst (marks o))∧∀H',Same H H'→D.nx [some v0,some v1,some (.str (otW o)),some v3,some (.ref ea),some (.ref l)] H'
section
variable {P:Program}{w:World}{K:PySem.W.Frag}{mg:Str→Option Value}{base:Heap}{f CX:Addr}{C:CA}{fd:FuncData}{cdv:Value}{A:Around}{outer:List Env}{s:Shared}{H0:Hp}{E:XK}{ea:Addr}{oe:Obj}{pins:List (Addr×Obj)}{o:Ot}
abbrev TX5 (P:Program)(w:World)(K:PySem.W.Frag)(mg:Str→Option Value)(base:Heap)(f:Addr)(cdv:Value)(A:Around)(outer:List Env)(s:Shared)(H:Hp)(E:XK):Cx:=(cxOf CX0 P w K mg base nTold "_law_told" (defScope s_told) f cdv A outer s H E).nox
set_option maxHeartbeats 1000000 in
theorem ps_S0 (Z:ClsT K mg C CX)(hp:(ea,oe)∈pins)(hc:oe.cls=.ref (outA C o)):PSx (cxSuite (TX5 P w K mg base f cdv A outer s H0 E) ea pins) stS0 (tS0 o ea):=by
 unfold stS0
 have hp':(ea,oe)∈(cxSuite (TX5 P w K mg base f cdv A outer s H0 E) ea pins).pn:=List.mem_append_right _ hp
 refine x_weak ⟨pset 5 sc_told.nd (pe_lst (pa_cons (pe_callB (call_isiP hp') rfl Z.iI boot_isinstance (pa_cons (pv 4) (pa_cons (pe_glob (v:=.ref C.S) rfl Z.iS rfl) pa_nil)))
   (pa_cons (pe_callB (call_isiP hp') rfl Z.iI boot_isinstance (pa_cons (pv 4) (pa_cons (pe_glob (v:=.ref C.T) rfl Z.iT rfl) pa_nil)))
   (pa_cons (pe_callB (call_isiP hp') rfl Z.iI boot_isinstance (pa_cons (pv 4) (pa_cons (pe_glob (v:=.ref C.L) rfl Z.iL rfl) pa_nil)))
   (pa_cons (pe_callB (call_isiP hp') rfl Z.iI boot_isinstance (pa_cons (pv 4) (pa_cons (pe_glob (v:=.ref C.D) rfl Z.iD rfl) pa_nil))) pa_nil)))))⟩ ?_
 rintro D σ H ⟨v0,v1,v2,v3,rfl,q⟩
 exact⟨_,rfl,outA C o,C.S,_,rfl,hc,Z.ex o,Z.k o .stuck,_,rfl,outA C o,C.T,_,rfl,hc,Z.ex o,Z.k o .great,_,rfl,outA C o,C.L,_,rfl,hc,Z.ex o,Z.k o .long,_,rfl,outA C o,C.D,_,rfl,hc,Z.ex o,Z.k o .deep,sml 4,fun l hl=>q l _ (same_new hl _) upd_same⟩
set_option maxHeartbeats 2000000 in
theorem ps_S2 (Z:ClsT K mg C CX)(hp:(ea,oe)∈pins)(al:Alone oe):PSx (cxSuite (TX5 P w K mg base f cdv A outer s H0 E) ea pins) stS2 (tS2 o ea):=by
 unfold stS2
 have sui:Sui (cxSuite (TX5 P w K mg base f cdv A outer s H0 E) ea pins):=⟨ea,oe,rfl,List.mem_append_right _ hp,al⟩
 refine x_weak ⟨ps_if (pt_cmpR op_eq (pe_callB (call_sumS sui) rfl Z.iM boot_sum' (pa_cons (pe_lcS (defScope s_told) nTold [] [] (by decide+kernel) sui (pi_listS (pv 5)) (fun C s₀ H₀ ex=>pts_nil) (fun C s₀ H₀ ex=>pe_callTy call_int1 rfl Z.iN boot_int (pa_cons (pv 0) pa_nil))) pa_nil)) pe_int)
   (pss_one (pset 2 sc_told.nd (pe_ix (ixL K) (x_lst (x_str (x_str (x_str (x_str x_nil))))).h (pe_bm PySem.F.plainAttrs_list PySem.F.slot_list_index PySem.F.type_list_index mt_indexB (pv 5) (pa_cons pe_bl pa_nil))))) pss_nil⟩ ?_
 rintro D σ H ⟨v0,v1,v2,v3,l,rfl,hl,q⟩
 refine⟨_,rfl,l,rfl,⟨_,SqL.of hl⟩,?_⟩
 have l4:(marks o).length=4:=rfl
 refine comp_lst (xs:=marks o) (fun i vs H'=>H'=H∧vs=((itO o).map V.int).take i) ⟨rfl,rfl⟩ ?_ ?_ ?_
 ·rintro i vs H' hi ⟨rfl,rfl⟩
  refine⟨SqL.of hl,small' ?_⟩
  rw[List.length_take]
  exact Nat.le_trans (Nat.min_le_right _ _) (by show 4≤_;decide)
 ·rintro i x vs H' hi hx ⟨rfl,rfl⟩
  have hi4:i<4:=hi
  have:i=0∨i=1∨i=2∨i=3:=by omega
  rcases this with rfl|rfl|rfl|rfl<;>(cases hx;exact tt1 (iteT ⟨_,rfl, .inr ⟨_,rfl,nx hi ⟨rfl,rfl⟩⟩⟩))
 rintro vs H' ⟨rfl,rfl⟩ l2 hl2
 have s1:=same_new hl2 (.lst ((itO o).map V.int))
 have b1:(upd H' l2 (.lst ((itO o).map V.int))) l2=some (.lst ((itO o).map V.int)):=upd_same
 show(fun H1=>_) (upd H' l2 (.lst ((itO o).map V.int)))
 revert s1 b1
 generalize upd H' l2 (.lst ((itO o).map V.int))=H1
 intro s1 b1
 refine⟨l2,itO o,rfl,SqL.of b1,fun j hj=>?_,rfl,_,rfl,ite2 (fun _=>?_) (fun c=>absurd (by cases o<;>decide) c)⟩
 ·have hj4:j<4:=hj
  have:j=0∨j=1∨j=2∨j=3:=by omega
  cases o<;>rcases this with rfl|rfl|rfl|rfl<;>exact⟨⟨by decide,by decide⟩,⟨by decide,by decide⟩⟩
 ·refine⟨sml 4,fun l3 hl3=>?_⟩
  have s2:=same_new hl3 (.lst [.str "stuck", .str "great", .str "long", .str "deep"])
  have hl':=s2 _ _ (s1 _ _ hl)
  have hno:∀m:Nat,m<ixO o→(bsO o)[m]?=some (!true):=fun m hm=>by
   have hm':m=0∨m=1∨m=2:=by cases o<;>simp only[ixO]at hm<;>omega
   rcases hm' with rfl|rfl|rfl<;>cases o<;>first|rfl|exact absurd hm (by decide)
  exact⟨_,rfl, .inl ⟨rfl,_,SqL.of hl'⟩,l,bsO o,true,ixO o,rfl,rfl,hl',(by cases o<;>rfl),hno,l3,_,(ixO o:Nat), .str (otW o),rfl,rfl,SqL.of upd_same,atI_nat (j:=ixO o) (by cases o<;>rfl),q _ (s1.trans s2)⟩
set_option maxHeartbeats 2000000 in
theorem ok_told {fR:Addr}{gR:FuncData}(F:Fun K "_law_told" "_law_told" s_told f fd)(Z:ClsT K mg C CX)(hcat:∀o,CatchOk base (outA C o) CX)
  (GR:FnOk P w K mg base (CXF P w) 11 fR gR ["program","most"] (spRun C)) (mR:mg "run"=some (.ref fR)) (kR:PySem.W.keepIn K (.ref fR)=true) (bR:Binds K gR ["program","most"] []):FnOk P w K mg base CX0 12 f fd ["_law_program","_law_most"] spTold:=by
 refine F.ok sc_told (fun cdv A outer s H vs Q E hr h=>?_)
 obtain⟨t,fa,mn,ds,qs,v,p,x1,x2,m,most,r0,c',rfl,pr,pok,hev,lm,q1,q2⟩:=h
 refine⟨_,pss_cons (pset 2 sc_told.nd pe_str) (pss_cons (pset 3 sc_told.nd pe_non)
  (pss_cons (ps_tryQ (X:=TX5 P w K mg base f cdv A outer s H E) (i:=4) (D:=CX) (EX:=fun σ Cv _ H'=>∃o,Cv=.ref (outA C o)∧r0=.out o∧σ=[some (.ref t),some (.int most),some (.str ""),some .non,none,none]∧Same H H')
   (ts:=fun ea Cc D σ H1=>∃o,Cc=outA C o∧σ=[some (.ref t),some (.int most),some (.str ""),some .non,some (.ref ea),none]∧∀(l:Addr) H',Same H1 H'→D.nx [some (.ref t),some (.int most),some (.str (otW o)),some .non,some (.ref ea),some (.ref l)] H') rfl rfl rfl sc_told.nd rfl rfl rfl Z.iX
   (fun σ C ea H' hE=>by obtain⟨o,z,_⟩:=hE;cases z;exact hcat o)
   (fun pins=>pss_one (pset 3 sc_told.nd (pe_callTL (X:=TX5 P w K mg base f cdv A outer s H E) rfl rfl rfl GR bR kR mR hr rfl (pa_cons (pv 0) (pa_cons (pv 1) pa_nil)))))
   (fun ea Cc oe pins hp' hoc nb al=>by
    by_cases hC:∃o,Cc=outA C o
    ·obtain⟨o,rfl⟩:=hC
     show PSs _ suiteB _
     rw[suite_is]
     refine pssW (pss_cons (ps_S0 Z hp' hoc).h (pss_cons (pset 2 sc_told.nd pe_str) (pss_one (ps_S2 (o:=o) Z hp' al).h))) ?_
     rintro D σ H1 ⟨o',ho,rfl,q⟩
     cases Z.inj ho
     exact⟨_,_,_,_,rfl,fun l H2 s2 hl=>⟨_,_,_,_,l,rfl,hl,fun H3 s3=>q l H3 (s2.trans s3)⟩⟩
    ·exact pssW pss_never fun D σ H1 h=>absurd (h.elim fun o z=>⟨o,z.1⟩) hC))
  (pss_one (ps_ret (pe_tup (pa_cons (pv 2) (pa_cons (pv 3) pa_nil))))))),?_⟩
 refine⟨⟨_,rfl,_,rfl,t,fa,mn,ds,qs,v,p,x1,x2,m,most,r0,c',rfl,pr,pok,hev,lm,fun i hi h6 H1 s1=>?_,fun o ho ea H1 s1=>⟨o,rfl,ho,rfl,s1⟩⟩,?_⟩
 ·exact⟨_,rfl,_,rfl,sml 2,fun r hr'=>q1 i hi h6 r _ (s1.trans (same_new hr' _)) upd_same⟩
 ·rintro σ' Cc ea H1 ⟨o,hC,ho,rfl,s1⟩ nea
  cases hC
  exact⟨o,rfl,rfl,fun l H2 s2=>⟨_,rfl,_,rfl,sml 2,fun r hr'=>q2 o ho r _ (s1.trans (s2.trans (same_new hr' _))) upd_same⟩⟩
end
def Drw (M:Nat)(qs:List Pa)(p:Ph):Prop:=∀most:Int,∃r c',evMain most M qs p=(some r,c')
inductive spRight (M:Nat)(vs:List V)(H:Hp)(Q:VK)(E_:XK):Prop where
 |mk (t fa mn:Addr) (ds:List Addr) (qs:List Pa) (v:V) (p:Ph) (x1 x2:Str) (most:Int):vs=[.ref t, .int most]→PrL H t fa mn ds qs v p→(∀q∈qs,PaOk x1 x2 q)→(∀q∈qs,PaSh q)→Drw M qs p→(∀H',Same H H'→Q (.bl true) H')→spRight M vs H Q E_
abbrev s_right:Stmt:=top 81
abbrev nRt:List Str:=["_law_program","_law_most","_law_word","_law_due","_law_begun","_law_told_here","_law_made"]
theorem sc_right:FnScope nRt ["_law_program","_law_most"] (defScope s_right):=⟨rfl,rfl,rfl,by decide+kernel,rfl,by decide+kernel,by decide+kernel⟩
section
variable {P:Program}{w:World}{K:PySem.W.Frag}{mg:Str→Option Value}{base:Heap}{f:Addr}{fd:FuncData}
set_option maxHeartbeats 2000000 in
theorem ok_right {M k:Nat}(lM:M≤10000)(F:Fun K "_law_right" "_law_right" s_right f fd)(mi:mg "isinstance"=none)(mI:mg "int"=none)(mB:mg "bool"=none)(h1:Has P w K mg base (k+12) "_law_ran" ["_law_program","_law_most"] (spRan M))(h2:Has P w K mg base 12 "_law_told" ["_law_program","_law_most"] spTold):FnOk P w K mg base CX0 (k+13) f fd ["_law_program","_law_most"] (spRight M):=by
 refine F.ok sc_right (fun cdv A outer s H vs Q E hr h=>?_)
 obtain⟨t,fa,mn,ds,qs,v,p,x1,x2,most,rfl,pr,pok,psh,d,q⟩:=h
 obtain⟨r0,c',hev⟩:=d most
 refine⟨_,pss_cons (ps_asg (pcall h1 hr (Nat.le_refl _) rfl (pa_cons (pv 0) (pa_cons (pv 1) pa_nil))) (pgT K (n:=3) rfl (pgs_cons (pg_name (i:=2) sc_right.nd rfl (Or.inl rfl)) (pgs_cons (pg_name (i:=3) sc_right.nd rfl (Or.inl rfl)) (pgs_cons (pg_name (i:=4) sc_right.nd rfl (Or.inl rfl)) pgs_nil)))))
  (pss_cons (ps_asg (pcall h2 hr (Nat.le_add_left _ _) rfl (pa_cons (pv 0) (pa_cons (pv 1) pa_nil))) (pgT K (n:=2) rfl (pgs_cons (pg_name (i:=5) sc_right.nd rfl (Or.inl rfl)) (pgs_cons (pg_name (i:=6) sc_right.nd rfl (Or.inl rfl)) pgs_nil))))
  (pss_cons (ps_if (pt_cmpR op_ne (pv 5) (pv 2)) (pss_one (ps_ret pe_bl)) pss_nil)
  (pss_cons (ps_if (pt_cmpR op_ne (pv 2) pe_str) (pss_one (ps_ret (pe_cmp (pc_isN (pv 6)) rfl))) pss_nil)
  (pss_one (ps_ret (pe_and (pe_callB call_isi rfl mi boot_isinstance (pa_cons (pv 6) (pa_cons (pe_bltn (v:=.ty "int") rfl mI boot_int rfl) pa_nil))) (pe_and (pe_not (pe_callB call_isi rfl mi boot_isinstance (pa_cons (pv 6) (pa_cons (pe_bltn (v:=.ty "bool") rfl mB boot_bool' rfl) pa_nil)))) (pe_one (pe_cmpR op_eq (pv 6) (pv 3)))))))))),?_⟩
 refine⟨_,rfl,_,rfl,t,fa,mn,ds,qs,v,p,most,r0,c',rfl,pr,psh,hev,fun i hi h6 r H1 s1 hr1=>?_,fun o ho u r H1 s1 hr1=>?_⟩
 ·refine⟨r,_,rfl,SqT.of hr1,rfl,_,_,rfl,_,_,rfl,_,[],rfl,rfl,?_⟩
  refine⟨_,rfl,_,rfl,t,fa,mn,ds,qs,v,p,x1,x2,M,most,r0,c',rfl,pr.same s1,pok,hev,lM,fun j hj h6j r2 H2 s2 hr2=>?_,fun o ho=>by rw[hi]at ho;cases ho⟩
  rw[hi]at hj
  cases hj
  refine⟨r2,_,rfl,SqT.of hr2,rfl,_,_,rfl,_,[],rfl,rfl,?_⟩
  refine⟨_,rfl,_,rfl,rfl,_,rfl,ite2 (fun c=>absurd c (by simp)) (fun _=>?_)⟩
  refine⟨_,rfl,rfl,_,rfl,ite2 (fun c=>absurd c (by simp)) (fun _=>?_)⟩
  refine⟨_,rfl,_,_,_,_,rfl, .int i,kit_int K,_,rfl,iteT ⟨_,rfl,_,_,_,_,rfl, .int i,kit_bool K,_,rfl,_,rfl,iteT ⟨_,rfl,_,rfl,rfl,?_⟩⟩⟩
  rw[decide_eq_true rfl]
  exact q _ (s1.trans s2)
 ·refine⟨r,_,rfl,SqT.of hr1,rfl,_,_,rfl,_,_,rfl,_,[],rfl,rfl,?_⟩
  refine⟨_,rfl,_,rfl,t,fa,mn,ds,qs,v,p,x1,x2,M,most,r0,c',rfl,pr.same s1,pok,hev,lM,fun j hj=>(by rw[ho]at hj;cases hj),fun o' ho' r2 H2 s2 hr2=>?_⟩
  rw[ho]at ho'
  cases ho'
  refine⟨r2,_,rfl,SqT.of hr2,rfl,_,_,rfl,_,[],rfl,rfl,?_⟩
  refine⟨_,rfl,_,rfl,rfl,_,rfl,ite2 (fun c=>absurd c (by simp)) (fun _=>?_)⟩
  refine⟨_,rfl,rfl,_,rfl,ite2 (fun _=>?_) (fun c=>absurd (nw_t (ot_no o)) c)⟩
  exact⟨_,rfl,q _ (s1.trans s2)⟩
end
def letS:Str:="bcdgjkoqvwyz"
def nm1 (s:Str)(n:Nat):Str:=s++⟨#[letS.cps.toList.getD (n%12) 0]⟩
theorem nm1_mod (s:Str)(n:Nat):nm1 s n=nm1 s (n%12):=by
 unfold nm1
 rw[Nat.mod_mod]
theorem let_at {n:Nat}(h:n<12):atI letS.cps.toList (n:Int)=some (letS.cps.toList.getD n 0):=by
 have l:letS.cps.toList.length=12:=by decide+kernel
 refine atI_nat ?_
 rw[List.getD_eq_getElem?_getD,List.getElem?_eq_getElem (by omega)]
 rfl
def stems:List Str:=["x","ab","nu","le","i","zzzzzz"]
def gstems:List Str:=["A","Q","If","Tt","Number"]
def nmC (x:Str):Bool:=nmB x&&(nameB x&&(!decide (46∈x.cps.toList)&&decide (x.length≤10)))
def grC (g:Str):Bool:=greatB g&&(!decide (46∈g.cps.toList)&&(decide (1≤g.length)&&decide (g.length≤10)))
theorem stems_ok:(stems.all fun s=>decide (s.length≤7)&&(List.range 12).all fun n=>nmC (nm1 s n)&&decide (nm1 s n≠nm1 s (n+1)))=true:=by decide+kernel
theorem gstems_ok:(gstems.all fun s=>decide (s.length≤7)&&(List.range 12).all fun n=>grC (nm1 s n))=true:=by decide+kernel
theorem name_ok {s:Str}(n:Nat)(hs:s∈stems):s.length≤7∧nmC (nm1 s n)=true∧nm1 s n≠nm1 s (n+1):=by
 have h:=List.all_eq_true.mp stems_ok s hs
 rw[Bool.and_eq_true]at h
 have h2:=List.all_eq_true.mp h.2 (n%12) (List.mem_range.mpr (Nat.mod_lt _ (by decide)))
 rw[Bool.and_eq_true]at h2
 refine⟨of_decide_eq_true h.1,by rw[nm1_mod];exact h2.1,?_⟩
 have:=of_decide_eq_true h2.2
 rw[nm1_mod s n,nm1_mod s (n+1),show(n+1)%12=(n%12+1)%12 by omega,←nm1_mod s (n%12+1)]
 exact this
theorem great_ok {s:Str}(n:Nat)(hs:s∈gstems):s.length≤7∧grC (nm1 s n)=true:=by
 have h:=List.all_eq_true.mp gstems_ok s hs
 rw[Bool.and_eq_true]at h
 have h2:=List.all_eq_true.mp h.2 (n%12) (List.mem_range.mpr (Nat.mod_lt _ (by decide)))
 exact⟨of_decide_eq_true h.1,by rw[nm1_mod];exact h2⟩
theorem pth_list (g x:Str):(pth g x).cps.toList=g.cps.toList++46::x.cps.toList:=by
 unfold pth
 rw[cps_app,cps_app,dot_eq]
 simp
theorem pt_ok {g x:Str}(hg:grC g=true)(hx:nmC x=true):PtOk (pth g x) g x:=by
 unfold grC at hg
 unfold nmC at hx
 simp only[Bool.and_eq_true,Bool.not_eq_true',decide_eq_false_iff_not,decide_eq_true_eq]at hg hx
 obtain⟨g1,g2,g3,g4⟩:=hg
 obtain⟨_,x1,x2,x3⟩:=hx
 have hl:=pth_list g x
 have hs:Txt.split (pth g x) "."=[g,x]:=by
  have q:=split_eq (pth g x) 46
  rw[hl,splL_app _ g2,splL_free x2]at q
  rw[dot_eq]
  match e:Txt.split (pth g x) ⟨#[46]⟩,q with
  |[a,b],q=>
   simp only[List.map_cons,List.map_nil,List.cons.injEq,and_true]at q
   rw[str_ext q.1,str_ext q.2]
  |[],q=>simp at q
  |[a],q=>simp at q
  |a::b::c::r,q=>simp at q
 have hp:pathB (pth g x)=true:=by rw[pathB_two hs,g1,x1];rfl
 refine⟨?_,?_,hp,?_,hs⟩
 ·unfold pth
  rw[len_app,len_app,show Str.length "."=1 by decide+kernel]
  omega
 ·cases hh:greatB (pth g x) with
  |false=>rfl
  |true=>
   exfalso
   unfold greatB at hh
   simp only[Bool.and_eq_true]at hh
   have ha:=hh.2.2
   unfold allS restS at ha
   have m:46∈(pth g x).cps.toList.drop 1:=by
    rw[hl]
    cases hgl:g.cps.toList with
    |nil=>rw[←len_toList,hgl]at g3;simp at g3
    |cons a r=>simp
   have:=small_range (List.all_eq_true.mp ha 46 (by simpa using m))
   omega
 ·have q:=StrLaws.found_one (pth g x) 46
  rw[hl]at q
  have:decide (46∈g.cps.toList++46::x.cps.toList)=true:=by simp
  rw[this,←dot_eq]at q
  simpa using q
theorem nm_of {x:Str}(h:nmC x=true):NmOk x:=by
 unfold nmC at h
 rw[Bool.and_eq_true]at h
 exact nm_ok h.1
theorem grow_free {st l:Addr}{H H':Hp}(g:Grow st H H')(h:H' l=none):H l=none∧l≠st:=by
 obtain⟨ns,_,_,hx⟩:=g.2
 have n:l≠st:=fun e=>by rw[e,hx]at h;cases h
 refine⟨?_,n⟩
 cases e:H l with
 |none=>rfl
 |some o=>rw[g.1 l o n e]at h;cases h
inductive spNames (vs:List V)(H:Hp)(Q:VK)(E_:XK):Prop where
 |mk (st:Addr) (m:Nat):vs=[.ref st, .int (m:Int)]→m≤20→StOk H st→(∀(l:Addr) (sm:Str) (d:Nat) H',sm∈stems→H l=none→l≠st→H' l=some (.lst (((List.range m).map fun k=>nm1 sm (d+k)).map V.str))→Grow st H H'→Q (.ref l) H')→spNames vs H Q E_
abbrev s_names:Stmt:=top 69
abbrev nNm:List Str:=["_law_state","_law_many","_law_stem","_law_turn"]
theorem sc_names:FnScope nNm ["_law_state","_law_many"] (defScope s_names):=⟨rfl,rfl,rfl,by decide+kernel,rfl,by decide+kernel,by decide+kernel⟩
@[irreducible] def stN0:Stmt:=(defBody s_names).getD 0 (.Pass ⟨0,0,0,0⟩)
theorem bodyN:defBody s_names=stN0::(defBody s_names).drop 1:=by
 unfold stN0
 rfl
def tN0:TS:=fun D σ H=>∃(st:Addr) (v1:V),σ=[some (.ref st),some v1,none,none]∧StOk H st∧∀(s:Str) H',s∈stems→Grow st H H'→D.nx [some (.ref st),some v1,some (.str s),none] H'
section
variable {P:Program}{w:World}{K:PySem.W.Frag}{mg:Str→Option Value}{base:Heap}{f:Addr}{fd:FuncData}
theorem ps_N0 {cdv:Value}{A:Around}{outer:List Env}{s:Shared}{H0:Hp}{E:XK}(hr:Room 1 (A.deeper (envOfC "_law_names" (defScope s_names) s.heap.objs.size f cdv)))(h1:Has P w K mg base 1 "_law_next" ["_law_state","_law_many"] spNext):PSx (cxOf CX0 P w K mg base nNm "_law_names" (defScope s_names) f cdv A outer s H0 E).nox stN0 tN0:=by
 unfold stN0
 refine x_weak ⟨ps_set (i:=2) sc_names.nd rfl (Or.inr rfl) (pe_ix (ixL K) (x_lst (x_str (x_str (x_str (x_str (x_str (x_str x_nil))))))).h (pcall h1 hr (by decide) rfl (pa_cons (pv 0) (pa_cons pe_int pa_nil))))⟩ ?_
 rintro D σ H ⟨st,v1,rfl,ok,q⟩
 refine⟨sml 6,fun l hl=>⟨_,rfl,st,6,rfl,ok.same (same_new hl _),by decide,by decide,fun d H1 d0 d1 g1=>?_⟩⟩
 have nl:l≠st:=fun z=>by obtain⟨_,_,_,e⟩:=ok;rw[z,e]at hl;cases hl
 obtain⟨d,rfl⟩:∃e:Nat,d=(e:Int):=⟨d.toNat,by omega⟩
 have hd:d<stems.length:=by show d<6;omega
 refine⟨l,stems.map V.str,_, .str stems[d],rfl,rfl,SqL.of (g1.1 _ _ nl upd_same),atI_nat (j:=d) (by rw[List.getElem?_map,List.getElem?_eq_getElem hd];rfl),q _ H1 (List.getElem_mem hd) ((grow_new ok hl).trans g1)⟩
set_option maxHeartbeats 2000000 in
theorem ok_names (F:Fun K "_law_names" "_law_names" s_names f fd)(mr:mg "range"=none)(h1:Has P w K mg base 1 "_law_next" ["_law_state","_law_many"] spNext):FnOk P w K mg base CX0 2 f fd ["_law_state","_law_many"] spNames:=by
 refine F.ok sc_names (fun cdv A outer s H vs Q E hr h=>?_)
 obtain⟨st,m,rfl,m20,ok,q⟩:=h
 rw[bodyN]
 refine⟨_,pss_cons (ps_N0 hr h1).h (pss_cons (ps_set (i:=3) sc_names.nd rfl (Or.inr rfl) (pcall h1 hr (by decide) rfl (pa_cons (pv 0) (pa_cons pe_int pa_nil))))
  (pss_one (ps_ret (pe_lc (defScope s_names) nNm ["_law_stem","_law_turn"] [2,3] (by decide+kernel) (pi_range1 rfl mr (pa_cons (pv 1) pa_nil)) (fun C s₀ H₀ ex=>pts_nil) (fun C s₀ H₀ ex=>pe_op op_add_str (pv 1) (pe_ix ix_str pe_str (pe_op op_mod (pe_op op_add (pv 2) (pv 0)) pe_int))))))),?_⟩
 refine⟨st,_,rfl,ok,fun sm H1 hsm g1=>?_⟩
 refine⟨_,rfl,st,12,rfl,g1.ok,by decide,by decide,fun d H2 d0 d1 g2=>?_⟩
 have l7:sm.length≤7:=(name_ok 0 hsm).1
 refine⟨_,rfl,m,rfl,by omega,by omega,?_⟩
 refine comp_range (n:=m) (fun i vs H'=>H'=H2∧vs=((List.range i).map fun k=>nm1 sm (d.toNat+k)).map V.str) ⟨rfl,rfl⟩ ?_ ?_ ?_
 ·rintro i vs H' hi ⟨rfl,rfl⟩
  rw[List.length_map,List.length_map,List.length_range]
  exact small' (by omega)
 ·rintro i vs H' hi ⟨rfl,rfl⟩
  have e1:(d+(0+(i:Int)))%12=(((d.toNat+i)%12:Nat):Int):=by omega
  refine tt1 (iteT ⟨_,rfl,_,rfl,_,rfl,_,_,rfl,rfl,_,_,rfl,rfl,(by show(0:Int)<12;decide),letS,_,letS.cps.toList.getD ((d.toNat+i)%12) 0,rfl,rfl,small (by decide+kernel),?_,sm,_,rfl,rfl,?_,nx hi ⟨rfl,?_⟩⟩)
  ·rw[e1];exact let_at (Nat.mod_lt _ (by decide))
  ·exact small (by show sm.length+1≤1000000;omega)
  ·rw[List.range_succ,List.map_append,List.map_append]
   rfl
 ·rintro vs H' ⟨rfl,rfl⟩ l hl
  have g12:=g1.trans g2
  obtain⟨fl,nl⟩:=grow_free g12 hl
  exact q l sm d.toNat _ hsm fl nl upd_same (g12.trans (grow_new g2.ok hl))
end
inductive spGreats (vs:List V)(H:Hp)(Q:VK)(E_:XK):Prop where
 |mk (st:Addr) (m:Nat):vs=[.ref st, .int (m:Int)]→m≤20→StOk H st→(∀(l:Addr) (sm:Str) (d:Nat) H',sm∈gstems→H l=none→l≠st→H' l=some (.lst (((List.range m).map fun k=>nm1 sm (d+k)).map V.str))→Grow st H H'→Q (.ref l) H')→spGreats vs H Q E_
abbrev s_greats:Stmt:=top 70
abbrev nGr:List Str:=["_law_state","_law_many","_law_stem","_law_turn"]
theorem sc_greats:FnScope nGr ["_law_state","_law_many"] (defScope s_greats):=⟨rfl,rfl,rfl,by decide+kernel,rfl,by decide+kernel,by decide+kernel⟩
@[irreducible] def stGr0:Stmt:=(defBody s_greats).getD 0 (.Pass ⟨0,0,0,0⟩)
theorem bodyGr:defBody s_greats=stGr0::(defBody s_greats).drop 1:=by
 unfold stGr0
 rfl
def tGr0:TS:=fun D σ H=>∃(st:Addr) (v1:V),σ=[some (.ref st),some v1,none,none]∧StOk H st∧∀(s:Str) H',s∈gstems→Grow st H H'→D.nx [some (.ref st),some v1,some (.str s),none] H'
section
variable {P:Program}{w:World}{K:PySem.W.Frag}{mg:Str→Option Value}{base:Heap}{f:Addr}{fd:FuncData}
theorem ps_Gr0 {cdv:Value}{A:Around}{outer:List Env}{s:Shared}{H0:Hp}{E:XK}(hr:Room 1 (A.deeper (envOfC "_law_greats" (defScope s_greats) s.heap.objs.size f cdv)))(h1:Has P w K mg base 1 "_law_next" ["_law_state","_law_many"] spNext):PSx (cxOf CX0 P w K mg base nGr "_law_greats" (defScope s_greats) f cdv A outer s H0 E).nox stGr0 tGr0:=by
 unfold stGr0
 refine x_weak ⟨ps_set (i:=2) sc_greats.nd rfl (Or.inr rfl) (pe_ix (ixL K) (x_lst (x_str (x_str (x_str (x_str (x_str x_nil)))))).h (pcall h1 hr (by decide) rfl (pa_cons (pv 0) (pa_cons pe_int pa_nil))))⟩ ?_
 rintro D σ H ⟨st,v1,rfl,ok,q⟩
 refine⟨sml 5,fun l hl=>⟨_,rfl,st,5,rfl,ok.same (same_new hl _),by decide,by decide,fun d H1 d0 d1 g1=>?_⟩⟩
 have nl:l≠st:=fun z=>by obtain⟨_,_,_,e⟩:=ok;rw[z,e]at hl;cases hl
 obtain⟨d,rfl⟩:∃e:Nat,d=(e:Int):=⟨d.toNat,by omega⟩
 have hd:d<gstems.length:=by show d<5;omega
 refine⟨l,gstems.map V.str,_, .str gstems[d],rfl,rfl,SqL.of (g1.1 _ _ nl upd_same),atI_nat (j:=d) (by rw[List.getElem?_map,List.getElem?_eq_getElem hd];rfl),q _ H1 (List.getElem_mem hd) ((grow_new ok hl).trans g1)⟩
set_option maxHeartbeats 2000000 in
theorem ok_greats (F:Fun K "_law_greats" "_law_greats" s_greats f fd)(mr:mg "range"=none)(h1:Has P w K mg base 1 "_law_next" ["_law_state","_law_many"] spNext):FnOk P w K mg base CX0 2 f fd ["_law_state","_law_many"] spGreats:=by
 refine F.ok sc_greats (fun cdv A outer s H vs Q E hr h=>?_)
 obtain⟨st,m,rfl,m20,ok,q⟩:=h
 rw[bodyGr]
 refine⟨_,pss_cons (ps_Gr0 hr h1).h (pss_cons (ps_set (i:=3) sc_greats.nd rfl (Or.inr rfl) (pcall h1 hr (by decide) rfl (pa_cons (pv 0) (pa_cons pe_int pa_nil))))
  (pss_one (ps_ret (pe_lc (defScope s_greats) nGr ["_law_stem","_law_turn"] [2,3] (by decide+kernel) (pi_range1 rfl mr (pa_cons (pv 1) pa_nil)) (fun C s₀ H₀ ex=>pts_nil) (fun C s₀ H₀ ex=>pe_op op_add_str (pv 1) (pe_ix ix_str pe_str (pe_op op_mod (pe_op op_add (pv 2) (pv 0)) pe_int))))))),?_⟩
 refine⟨st,_,rfl,ok,fun sm H1 hsm g1=>?_⟩
 refine⟨_,rfl,st,12,rfl,g1.ok,by decide,by decide,fun d H2 d0 d1 g2=>?_⟩
 have l7:sm.length≤7:=(great_ok 0 hsm).1
 refine⟨_,rfl,m,rfl,by omega,by omega,?_⟩
 refine comp_range (n:=m) (fun i vs H'=>H'=H2∧vs=((List.range i).map fun k=>nm1 sm (d.toNat+k)).map V.str) ⟨rfl,rfl⟩ ?_ ?_ ?_
 ·rintro i vs H' hi ⟨rfl,rfl⟩
  rw[List.length_map,List.length_map,List.length_range]
  exact small' (by omega)
 ·rintro i vs H' hi ⟨rfl,rfl⟩
  have e1:(d+(0+(i:Int)))%12=(((d.toNat+i)%12:Nat):Int):=by omega
  refine tt1 (iteT ⟨_,rfl,_,rfl,_,rfl,_,_,rfl,rfl,_,_,rfl,rfl,(by show(0:Int)<12;decide),letS,_,letS.cps.toList.getD ((d.toNat+i)%12) 0,rfl,rfl,small (by decide+kernel),?_,sm,_,rfl,rfl,?_,nx hi ⟨rfl,?_⟩⟩)
  ·rw[e1];exact let_at (Nat.mod_lt _ (by decide))
  ·exact small (by show sm.length+1≤1000000;omega)
  ·rw[List.range_succ,List.map_append,List.map_append]
   rfl
 ·rintro vs H' ⟨rfl,rfl⟩ l hl
  have g12:=g1.trans g2
  obtain⟨fl,nl⟩:=grow_free g12 hl
  exact q l sm d.toNat _ hsm fl nl upd_same (g12.trans (grow_new g2.ok hl))
end
theorem in_sm {i:Int}(a: -1000≤i)(b:i≤1000):In60 i:=by unfold In60 G60;constructor<;>omega
def wthP (x:Str):Nat→Ph→Ph
 |0,p=>p
 |n+1,p=>.call (.fn x (.op 0 (.nm x) (wthP x n p))) (.num n)
def behP (x:Str):Nat→Ph→Ph
 |0,p=>p
 |n+1,p=>.call (.fn x (.op 0 (.nm x) (.num 1))) (behP x n p)
theorem cp_wth {x:Str}{g:List Str}{p:Ph}{n0:Nat}(h:∀g':List Str,(∀y∈g,y∈g')→Cp g' n0 p)(l:1≤n0):∀(m:Nat) (g':List Str),(∀y∈g,y∈g')→Cp g' (n0+3*m) (wthP x m p)
 |0,g',s=>h g' s
 |m+1,g',s=>by
  have q:=cp_wth (x:=x) h l m (x::g') fun y hy=>List.mem_cons_of_mem _ (s y hy)
  have e:n0+3*(m+1)=(n0+3*m+1)+2:=by omega
  rw[e]
  obtain⟨k,hk⟩:∃k,n0+3*m=k+1:=⟨n0+3*m-1,by omega⟩
  refine .call (.op ?_ q) .num
  rw[hk]
  exact .nm List.mem_cons_self
theorem cp_beh {x:Str}{g:List Str}{p:Ph}{n0:Nat}(h:Cp g n0 p)(l:3≤n0):∀m:Nat,Cp g (n0+m) (behP x m p)
 |0=>h
 |m+1=>by
  have q:=cp_beh (x:=x) h l m
  obtain⟨k,hk⟩:∃k,n0+m=k+3:=⟨n0+m-3,by omega⟩
  rw[show n0+(m+1)=(k+2)+2 by omega]
  rw[hk]at q
  exact .call (.op (.nm List.mem_cons_self) .num) q
inductive spWth (B:Str→Nat→Ph→Ph)(vs:List V)(H:Hp)(Q:VK)(E_:XK):Prop where
 |mk (x:Str) (m:Nat) (v:V) (p:Ph):vs=[.str x, .int (m:Int),v]→NmOk x→m≤20→PhL H v p→(∀v' H',PhL H' v' (B x m p)→Same H H'→Q v' H')→spWth B vs H Q E_
abbrev s_wth:Stmt:=top 82
abbrev s_beh:Stmt:=top 83
abbrev pWt:List Str:=["_law_name","_law_many","_law_phrase"]
abbrev nWt:List Str:=["_law_name","_law_many","_law_phrase","_law_k"]
theorem sc_wth:FnScope nWt pWt (defScope s_wth):=⟨rfl,rfl,rfl,by decide+kernel,rfl,by decide+kernel,by decide+kernel⟩
theorem sc_beh:FnScope nWt pWt (defScope s_beh):=⟨rfl,rfl,rfl,by decide+kernel,rfl,by decide+kernel,by decide+kernel⟩
section
variable {P:Program}{w:World}{K:PySem.W.Frag}{mg:Str→Option Value}{base:Heap}{f:Addr}{fd:FuncData}
set_option maxHeartbeats 1000000 in
theorem ok_wth (F:Fun K "_law_within" "_law_within" s_wth f fd)(mr:mg "range"=none):FnOk P w K mg base CX0 1 f fd pWt (spWth wthP):=by
 refine F.ok sc_wth (fun cdv A outer s H vs Q E hr h=>?_)
 obtain⟨x,m,v,p,rfl,nx',m20,hp,q⟩:=h
 refine⟨_,pss_cons (ps_for PassesOwn.never rfl (pi_range1 rfl mr (pa_cons (pv 1) pa_nil)) (pg_name (i:=3) sc_wth.nd rfl (Or.inl rfl)) (pss_one (pset 2 sc_wth.nd (x_tup (x_str (x_t (x_tup (x_str (x_n (x_pv 0) (x_t (x_tup (x_str (x_n (x_pv 0) (x_n (x_pv 2) x_nil)))) x_nil)))) (x_n (x_pv 3) x_nil)))).h))) (pss_one (ps_ret (pv 2))),?_⟩
 refine⟨_,rfl,m,rfl,by omega,by omega,?_⟩
 refine for_range (n:=m) (fun i σ H'=>∃v o3,σ=[some (.str x),some (.int (m:Int)),some v,o3]∧PhL H' v (wthP x i p)∧Same H H') ⟨v,none,rfl,hp,Same.refl _⟩ ?_ ?_
 ·rintro i σ H' hi ⟨v,o3,rfl,hp,s'⟩
  refine⟨_,rfl,_,rfl,_,rfl,sml 3,fun t1 ht1=>?_⟩
  have s1:=same_new ht1 (.tup [.str "plus", .str x,v])
  have b1:(upd H' t1 (.tup [.str "plus", .str x,v])) t1=some (.tup [.str "plus", .str x,v]):=upd_same
  revert s1 b1
  generalize upd H' t1 (.tup [.str "plus", .str x,v])=H1
  intro s1 b1
  refine⟨sml 3,fun t2 ht2=>?_⟩
  have s2:=same_new ht2 (.tup [.str "fun", .str x, .ref t1])
  have b2:(upd H1 t2 (.tup [.str "fun", .str x, .ref t1])) t2=some (.tup [.str "fun", .str x, .ref t1]):=upd_same
  revert s2 b2
  generalize upd H1 t2 (.tup [.str "fun", .str x, .ref t1])=H2
  intro s2 b2
  refine⟨_,rfl,sml 3,fun t3 ht3=>?_⟩
  rw[Int.zero_add]
  have s3:=same_new ht3 (.tup [.str "call", .ref t2, .int (i:Int)])
  have s13:=s1.trans (s2.trans s3)
  exact⟨_,_,rfl, .call upd_same (.fn (s3 _ _ b2) nx' (.op (k:=0) (by decide) (s3 _ _ (s2 _ _ b1)) (.nm x nx') (hp.same s13))) (.num _ (in_sm (by omega) (by omega))),s'.trans s13⟩
 ·rintro σ H' ⟨v,o3,rfl,hp,s'⟩
  exact⟨_,rfl,q v H' hp s'⟩
set_option maxHeartbeats 1000000 in
theorem ok_beh (F:Fun K "_law_behind" "_law_behind" s_beh f fd)(mr:mg "range"=none):FnOk P w K mg base CX0 1 f fd pWt (spWth behP):=by
 refine F.ok sc_beh (fun cdv A outer s H vs Q E hr h=>?_)
 obtain⟨x,m,v,p,rfl,nx',m20,hp,q⟩:=h
 refine⟨_,pss_cons (ps_for PassesOwn.never rfl (pi_range1 rfl mr (pa_cons (pv 1) pa_nil)) (pg_name (i:=3) sc_beh.nd rfl (Or.inl rfl)) (pss_one (pset 2 sc_beh.nd (x_tup (x_str (x_t (x_tup (x_str (x_n (x_pv 0) (x_t (x_tup (x_str (x_n (x_pv 0) (x_int x_nil)))) x_nil)))) (x_n (x_pv 2) x_nil)))).h))) (pss_one (ps_ret (pv 2))),?_⟩
 refine⟨_,rfl,m,rfl,by omega,by omega,?_⟩
 refine for_range (n:=m) (fun i σ H'=>∃v o3,σ=[some (.str x),some (.int (m:Int)),some v,o3]∧PhL H' v (behP x i p)∧Same H H') ⟨v,none,rfl,hp,Same.refl _⟩ ?_ ?_
 ·rintro i σ H' hi ⟨v,o3,rfl,hp,s'⟩
  refine⟨_,rfl,_,rfl,sml 3,fun t1 ht1=>?_⟩
  have s1:=same_new ht1 (.tup [.str "plus", .str x, .int 1])
  have b1:(upd H' t1 (.tup [.str "plus", .str x, .int 1])) t1=some (.tup [.str "plus", .str x, .int 1]):=upd_same
  revert s1 b1
  generalize upd H' t1 (.tup [.str "plus", .str x, .int 1])=H1
  intro s1 b1
  refine⟨sml 3,fun t2 ht2=>?_⟩
  have s2:=same_new ht2 (.tup [.str "fun", .str x, .ref t1])
  have b2:(upd H1 t2 (.tup [.str "fun", .str x, .ref t1])) t2=some (.tup [.str "fun", .str x, .ref t1]):=upd_same
  revert s2 b2
  generalize upd H1 t2 (.tup [.str "fun", .str x, .ref t1])=H2
  intro s2 b2
  refine⟨_,rfl,sml 3,fun t3 ht3=>?_⟩
  have s3:=same_new ht3 (.tup [.str "call", .ref t2,v])
  have s13:=s1.trans (s2.trans s3)
  exact⟨_,_,rfl, .call upd_same (.fn (s3 _ _ b2) nx' (.op (k:=0) (by decide) (s3 _ _ (s2 _ _ b1)) (.nm x nx') (.num 1 (in_sm (by decide) (by decide))))) (hp.same s13),s'.trans s13⟩
 ·rintro σ H' ⟨v,o3,rfl,hp,s'⟩
  exact⟨_,rfl,q v H' hp s'⟩
end
end Fw
namespace L2
open PySem PySem.Spec PyProof.Rows
theorem op_neE {X:Cx}(hu:X.A.units<cLine):OpR X (compareOp .NotEq) (fun x y H Q=>∃(a b:Addr) (xs:List V),x=.ref a∧y=.ref b∧H a=some (.lst xs)∧H b=some (.lst [])∧Q (.bl (decide (xs≠[]))) H):=by
 intro pins s σ H x y v u Q I rx ry h
 obtain⟨a,b,xs,rfl,rfl,ha,hb,q⟩:=h
 cases rx
 cases ry
 obtain⟨its,r,pl,hz⟩:=I.list (SqL.of (K:=X.K) ha)
 obtain⟨its2,r2,pl2,hz2⟩:=I.list (SqL.of (K:=X.K) hb)
 have l1:=r.length
 have l2:=r2.length
 cases xs with
 |nil=>
  have e1:its=[]:=List.length_eq_zero_iff.mp l1.symm
  have e2:its2=[]:=List.length_eq_zero_iff.mp l2.symm
  subst e1
  subst e2
  have q':=SeqAt.RcNeAt.lists (A:=X.A) (s:=s) (e:=fun _=>true) pl.isList pl2.isList rfl hu (fun j h1 h2=>by simp at h1) X.prog X.w
  exact q' _ _ ⟨.bl false,H,I,rfl,by simpa using q⟩
 |cons x xs=>
  exact SeqAt.RcNeAt.lists_lengths (A:=X.A) (s:=s) pl.isList pl2.isList (by simp at l1 l2 ⊢;omega) hu X.prog X.w _ _ ⟨.bl true,H,I,rfl,by simpa using q⟩
end L2
namespace Fw
open PySem PySem.Spec PyProof.Rows L2
theorem boot_min':bootBuiltins "min"=some (.builtin "min"):=by decide+kernel
def MF:Nat:=111
def LfOk (x:Str):Prop:=NmOk x∨∃g v,PtOk x g v
theorem LfOk.ph {x:Str}(h:LfOk x)(H:Hp):PhL H (.str x) (.nm x):=by
 rcases h with h|⟨g,v,h⟩
 ·exact .nm x h
 ·exact .pt x g v h
theorem PhL.grow {st:Addr}{H H':Hp}{v:V}{p:Ph}(h:PhL H v p)(ok:StOk H st)(g:Grow st H H'):PhL H' v p:=h.tps fun b ys e=>g.tups ok b ys e
inductive spCll (vs:List V)(H:Hp)(Q:VK)(E_:XK):Prop where
 |mk (st pl kl:Addr) (pool ks:List Str):vs=[.ref st, .ref pl, .ref kl]→StOk H st→H pl=some (.lst (pool.map V.str))→pl≠st→2≤pool.length→(∀x∈pool,NmOk x)→H kl=some (.lst (ks.map V.str))→kl≠st→ks.length≤10→(∀x∈ks,LfOk x)→(∀v p H',PhL H' v p→(∀g:List Str,(∀x∈ks,x∈g)→Cp g MF p)→Grow st H H'→Q v H')→spCll vs H Q E_
abbrev s_cll:Stmt:=top 84
abbrev pCll:List Str:=["_law_state","_law_pool","_law_known"]
abbrev nCll:List Str:=["_law_state","_law_pool","_law_known","_law_phrase","_law_turn","_law_way","_law_many"]
theorem sc_cll:FnScope nCll pCll (defScope s_cll):=⟨rfl,rfl,rfl,by decide+kernel,rfl,by decide+kernel,by decide+kernel⟩
abbrev clli (i:Nat):Stmt:=(defBody s_cll).getD i (.Pass ⟨0,0,0,0⟩)
@[irreducible] def stC2:Stmt:=clli 2
theorem bodyC:defBody s_cll=[clli 0,clli 1,stC2,clli 3]:=by
 unfold stC2
 rfl
def forC:List Stmt:=match clli 2 with|.For _ _ b _ _=>b|_=>[]
abbrev fci (i:Nat):Stmt:=forC.getD i (.Pass ⟨0,0,0,0⟩)
@[irreducible] def stC21:Stmt:=fci 1
@[irreducible] def stC22:Stmt:=fci 2
theorem stC2_is:stC2=.For (match clli 2 with|.For t _ _ _ _=>t|_=>.Name "" ⟨0,0,0,0⟩) (match clli 2 with|.For _ i _ _ _=>i|_=>.Name "" ⟨0,0,0,0⟩) [fci 0,stC21,stC22] [] (match clli 2 with|.For _ _ _ _ p=>p|_=>⟨0,0,0,0⟩):=by
 unfold stC2 stC21 stC22
 rfl
section
variable {P:Program}{w:World}{K:PySem.W.Frag}{mg:Str→Option Value}{base:Heap}{f:Addr}{fd:FuncData}{cdv:Value}{A:Around}{outer:List Env}{s:Shared}{H0:Hp}{E:XK}
abbrev ClX (P:Program)(w:World)(K:PySem.W.Frag)(mg:Str→Option Value)(base:Heap)(f:Addr)(cdv:Value)(A:Around)(outer:List Env)(s:Shared)(H:Hp)(E:XK):Cx:=(cxOf CX0 P w K mg base nCll "_law_calls" (defScope s_cll) f cdv A outer s H E).nox
def tC21:TS:=fun D σ H=>∃(st:Addr) (v1 v2 v3 v4 v5:V) (o6:Option V),σ=[some (.ref st),some v1,some v2,some v3,some v4,some v5,o6]∧StOk H st∧∀(n:Nat) H',n≤12→Grow st H H'→D.nx [some (.ref st),some v1,some v2,some v3,some v4,some v5,some (.int (n:Int))] H'
set_option maxHeartbeats 2000000 in
theorem ps_C21 (hr:Room 2 (A.deeper (envOfC "_law_calls" (defScope s_cll) s.heap.objs.size f cdv)))(h1:Has P w K mg base 1 "_law_next" ["_law_state","_law_many"] spNext):PSx (ClX P w K mg base f cdv A outer s H0 E) stC21 tC21:=by
 unfold stC21
 refine x_weak ⟨pset 6 sc_cll.nd (pe_ix (ixL K) (pe_lst (pa_cons (pcall h1 hr (by decide) rfl (pa_cons (pv 0) (pa_cons pe_int pa_nil))) (pa_cons (pe_op op_add pe_int (pcall h1 hr (by decide) rfl (pa_cons (pv 0) (pa_cons pe_int pa_nil)))) (pa_cons (pcall h1 hr (by decide) rfl (pa_cons (pv 0) (pa_cons pe_int pa_nil))) pa_nil)))) (pe_op op_mod (pe_op op_mod (pcall h1 hr (by decide) rfl (pa_cons (pv 0) (pa_cons pe_int pa_nil))) pe_int) pe_int))⟩ ?_
 rintro D σ H ⟨st,v1,v2,v3,v4,v5,o6,rfl,ok,q⟩
 refine⟨_,rfl,st,5,rfl,ok,by decide,by decide,fun a H1 a0 a1 g1=>?_⟩
 refine⟨_,rfl,st,5,rfl,g1.ok,by decide,by decide,fun b H2 b0 b1 g2=>⟨_,_,rfl,rfl,?_⟩⟩
 refine⟨_,rfl,st,13,rfl,g2.ok,by decide,by decide,fun c H3 c0 c1 g3=>⟨sml 3,fun l hl=>?_⟩⟩
 have s4:=same_new hl (.lst [.int a, .int (8+b), .int c])
 have b4:(upd H3 l (.lst [.int a, .int (8+b), .int c])) l=some (.lst [.int a, .int (8+b), .int c]):=upd_same
 have nl:l≠st:=fun z=>by obtain⟨_,_,_,e⟩:=g3.ok;rw[z,e]at hl;cases hl
 revert s4 b4
 generalize upd H3 l (.lst [.int a, .int (8+b), .int c])=H4
 intro s4 b4
 have g04:Grow st H H4:=g1.trans (g2.trans (g3.trans (grow_same g3.ok s4)))
 refine⟨_,rfl,st,6,rfl,g04.ok,by decide,by decide,fun d H5 d0 d1 g5=>?_⟩
 refine⟨_,_,rfl,rfl,(by show(0:Int)<5;decide),_,_,rfl,rfl,(by show(0:Int)<3;decide),?_⟩
 have hd:d%5%3=0∨d%5%3=1∨d%5%3=2:=by omega
 have hl5:=SqL.of (K:=K) (g5.1 _ _ nl b4)
 rcases hd with e|e|e
 ·rw[e]
  refine⟨l,_,_, .int a,rfl,rfl,hl5,atI_nat (j:=0) rfl,?_⟩
  obtain⟨a,rfl⟩:∃z:Nat,a=(z:Int):=⟨a.toNat,by omega⟩
  exact q a H5 (by omega) (g04.trans g5)
 ·rw[e]
  refine⟨l,_,_, .int (8+b),rfl,rfl,hl5,atI_nat (j:=1) rfl,?_⟩
  obtain⟨b,rfl⟩:∃z:Nat,b=(z:Int):=⟨b.toNat,by omega⟩
  have:=q (8+b) H5 (by omega) (g04.trans g5)
  rw[show((8+b:Nat):Int)=8+(b:Int) by omega]at this
  exact this
 ·rw[e]
  refine⟨l,_,_, .int c,rfl,rfl,hl5,atI_nat (j:=2) rfl,?_⟩
  obtain⟨c,rfl⟩:∃z:Nat,c=(z:Int):=⟨c.toNat,by omega⟩
  exact q c H5 (by omega) (g04.trans g5)
def tC22:TS:=fun D σ H=>∃(st pl:Addr) (v2 v4 v:V) (wy n:Nat) (x0 x1:Str) (pool:List Str) (p:Ph),σ=[some (.ref st),some (.ref pl),some v2,some v,some v4,some (.int (wy:Int)),some (.int (n:Int))]∧n≤12∧H pl=some (.lst (pool.map V.str))∧pool[0]?=some x0∧pool[1]?=some x1∧NmOk x0∧NmOk x1∧PhL H v p∧
 ∀(v':V) (p':Ph) H',PhL H' v' p'→(∀(g:List Str) (n0:Nat),3≤n0→(∀g':List Str,(∀y∈g,y∈g')→Cp g' n0 p)→∀g':List Str,(∀y∈g,y∈g')→Cp g' (n0+36) p')→Same H H'→D.nx [some (.ref st),some (.ref pl),some v2,some v',some v4,some (.int (wy:Int)),some (.int (n:Int))] H'
theorem min9 (n:Nat)(h:n≤12):∃m:Nat,m≤9∧(if(9:Int)<(n:Int) then(9:Int) else(n:Int))=(m:Int):=by
 by_cases c:(9:Int)<(n:Int)
 ·exact⟨9,Nat.le_refl _,by rw[if_pos c];rfl⟩
 ·exact⟨n,by omega,by rw[if_neg c]⟩
set_option maxHeartbeats 2000000 in
theorem ps_C22 (hr:Room 2 (A.deeper (envOfC "_law_calls" (defScope s_cll) s.heap.objs.size f cdv)))(mM:mg "min"=none)(hW:Has P w K mg base 1 "_law_within" pWt (spWth wthP))(hB:Has P w K mg base 1 "_law_behind" pWt (spWth behP)):PSx (ClX P w K mg base f cdv A outer s H0 E) stC22 tC22:=by
 unfold stC22
 refine x_weak ⟨ps_if (pt_cmpR op_eq (pv 5) pe_int) (pss_one (pset 3 sc_cll.nd (pcall hW hr (by decide) rfl (pa_cons (pe_ix (ixL K) (pv 1) pe_int) (pa_cons (pe_callB (call_min2 rfl) rfl mM boot_min' (pa_cons (pv 6) (pa_cons pe_int pa_nil))) (pa_cons (pv 3) pa_nil))))))
  (pss_one (ps_if (pt_cmpR op_eq (pv 5) pe_int) (pss_one (pset 3 sc_cll.nd (pcall hB hr (by decide) rfl (pa_cons (pe_ix (ixL K) (pv 1) pe_int) (pa_cons (pv 6) (pa_cons (pv 3) pa_nil))))))
   (pss_one (pset 3 sc_cll.nd (pe_tup (pa_cons pe_str (pa_cons (pv 3) (pa_cons (pcall hB hr (by decide) rfl (pa_cons (pe_ix (ixL K) (pv 1) pe_int) (pa_cons (pe_op op_mod (pv 6) pe_int) (pa_cons (pcall hW hr (by decide) rfl (pa_cons (pe_ix (ixL K) (pv 1) pe_int) (pa_cons (pe_callB (call_min2 rfl) rfl mM boot_min' (pa_cons (pv 6) (pa_cons pe_int pa_nil))) (pa_cons pe_int pa_nil)))) pa_nil)))) pa_nil))))))))⟩ ?_
 rintro D σ H ⟨st,pl,v2,v4,v,wy,n,x0,x1,pool,p,rfl,n12,hpl,h0,h1,nx0,nx1,hp,q⟩
 obtain⟨m,m9,em⟩:=min9 n n12
 have i0:atI (pool.map V.str) (0:Int)=some (.str x0):=atI_nat (j:=0) (by rw[List.getElem?_map,h0];rfl)
 have i1:atI (pool.map V.str) (1:Int)=some (.str x1):=atI_nat (j:=1) (by rw[List.getElem?_map,h1];rfl)
 refine⟨_,rfl,rfl,_,rfl,ite2 (fun _=>?_) (fun _=>?_)⟩
 ·refine⟨_,rfl,pl,_,_,_,rfl,rfl,SqL.of hpl,i0,_,rfl,_,_,rfl,_,rfl,?_⟩
  rw[em]
  exact .mk x0 m v p rfl nx0 (by omega) hp fun v' H' hp' s'=>q v' _ H' hp' (fun g n0 l3 hc g' hg=>(cp_wth hc (by omega) m g' hg).mono (by omega)) s'
 refine⟨_,rfl,rfl,_,rfl,ite2 (fun _=>?_) (fun _=>?_)⟩
 ·exact⟨_,rfl,pl,_,_,_,rfl,rfl,SqL.of hpl,i1,_,rfl,_,rfl, .mk x1 n v p rfl nx1 (by omega) hp fun v' H' hp' s'=>q v' _ H' hp' (fun g n0 l3 hc g' hg=>(cp_beh (hc g' hg) l3 n).mono (by omega)) s'⟩
 ·refine⟨_,rfl,_,rfl,pl,_,_,_,rfl,rfl,SqL.of hpl,i0,_,rfl,_,_,rfl,rfl,(by show(0:Int)<4;decide),_,rfl,pl,_,_,_,rfl,rfl,SqL.of hpl,i1,_,rfl,_,_,rfl,?_⟩
  rw[em]
  refine .mk x1 m (.int 1) (.num 1) rfl nx1 (by omega) (.num 1 (in_sm (by decide) (by decide))) fun v1 H1 hp1 s1=>?_
  rw[show((n:Int)%4)=((n%4:Nat):Int) by omega]
  refine .mk x0 (n%4) v1 _ rfl nx0 (by omega) hp1 fun v2' H2 hp2 s2=>⟨sml 3,fun r hr'=>?_⟩
  have s3:=same_new hr' (.tup [.str "plus",v,v2'])
  refine q _ (.op 0 p _) _ (.op (by decide) upd_same (hp.same (s1.trans (s2.trans s3))) (hp2.same s3)) (fun g n0 l3 hc g' hg=>?_) (s1.trans (s2.trans s3))
  have c1:Cp g' (3+3*m) (wthP x1 m (.num 1)):=cp_wth (g:=[]) (n0:=3) (fun g'' _=>.num) (by decide) m g' fun y hy=>by cases hy
  have c2:=cp_beh (x:=x0) c1 (by omega) (n%4)
  exact(Cp.op (n:=n0+35) ((hc g' hg).mono (by omega)) (c2.mono (by omega))).mono (by omega)
def tC2r:TS:=fun D σ H=>∃(st pl:Addr) (v2 v:V) (pool ks:List Str) (p:Ph),σ=[some (.ref st),some (.ref pl),some v2,some v,none,none,none]∧StOk H st∧H pl=some (.lst (pool.map V.str))∧pl≠st∧2≤pool.length∧(∀x∈pool,NmOk x)∧PhL H v p∧(∀g:List Str,(∀x∈ks,x∈g)→Cp g 3 p)∧∀v p H',PhL H' v p→(∀g:List Str,(∀x∈ks,x∈g)→Cp g MF p)→Grow st H H'→D.rt v H'
set_option maxHeartbeats 2000000 in
theorem ps_C2r (hr:Room 2 (A.deeper (envOfC "_law_calls" (defScope s_cll) s.heap.objs.size f cdv)))(mr:mg "range"=none)(mM:mg "min"=none)(h1:Has P w K mg base 1 "_law_next" ["_law_state","_law_many"] spNext)(hW:Has P w K mg base 1 "_law_within" pWt (spWth wthP))(hB:Has P w K mg base 1 "_law_behind" pWt (spWth behP)):PSsx (ClX P w K mg base f cdv A outer s H0 E) [stC2,clli 3] tC2r:=by
 rw[stC2_is]
 refine x_weaks (x_cons (x_for (X:=ClX P w K mg base f cdv A outer s H0 E) PassesOwn.never rfl (pi_range1 rfl mr (pa_cons (pe_op op_add pe_int (pcall h1 hr (by decide) rfl (pa_cons (pv 0) (pa_cons pe_int pa_nil)))) pa_nil)) (pg_name (i:=4) sc_cll.nd rfl (Or.inl rfl)) (x_cons ⟨pset 5 sc_cll.nd (pcall h1 hr (by decide) rfl (pa_cons (pv 0) (pa_cons pe_int pa_nil)))⟩ (x_cons (ps_C21 hr h1) (x_one (ps_C22 hr mM hW hB))))) (x_one ⟨ps_ret (pv 3)⟩)) ?_
 rintro D σ H ⟨st,pl,v2,v,pool,ks,p,rfl,ok,hpl,npl,lp,okp,hp,hc,q⟩
 refine⟨_,rfl,st,3,rfl,ok,by decide,by decide,fun d3 H3 e0 e1 g3=>⟨_,_,rfl,rfl,?_⟩⟩
 obtain⟨n3,rfl⟩:∃z:Nat,d3=(z:Int):=⟨d3.toNat,by omega⟩
 refine⟨1+(n3:Int),rfl,by omega,by omega,?_⟩
 have p0:0<pool.length:=by omega
 have p1:1<pool.length:=by omega
 refine for_range (n:=(1+(n3:Int)).toNat) (fun i σ H'=>∃(v:V) (p:Ph) (o4 o5 o6:Option V),σ=[some (.ref st),some (.ref pl),some v2,some v,o4,o5,o6]∧PhL H' v p∧(∀g:List Str,(∀x∈ks,x∈g)→Cp g (3+36*i) p)∧Grow st H H') ⟨v,p,none,none,none,rfl,hp.grow ok g3,hc,g3⟩ ?_ ?_
 ·rintro i σ H' hi ⟨v,p,o4,o5,o6,rfl,hp,hc,g'⟩
  refine⟨_,rfl,st,3,rfl,g'.ok,by decide,by decide,fun wy H4 w0 w1 g4=>?_⟩
  obtain⟨wy,rfl⟩:∃z:Nat,wy=(z:Int):=⟨wy.toNat,by omega⟩
  refine⟨st,_,_,v,_,_,o6,rfl,g4.ok,fun n H5 n12 g5=>?_⟩
  have g05:=g'.trans (g4.trans g5)
  refine⟨st,pl,_,_,v,wy,n,pool[0],pool[1],pool,p,rfl,n12,g05.1 _ _ npl hpl,List.getElem?_eq_getElem p0,List.getElem?_eq_getElem p1,okp _ (List.getElem_mem p0),okp _ (List.getElem_mem p1),(hp.grow g'.ok (g4.trans g5)),fun v' p' H6 hp' hc' s6=>?_⟩
  refine⟨v',p',_,_,_,rfl,hp',fun g hg=>?_,g05.trans (grow_same g05.ok s6)⟩
  have:=hc' ks (3+36*i) (by omega) hc g hg
  rw[show 3+36*(i+1)=3+36*i+36 by omega]
  exact this
 ·rintro σ H' ⟨v,p,o4,o5,o6,rfl,hp,hc,g'⟩
  exact⟨_,rfl,q v p H' hp (fun g hg=>(hc g hg).mono (by show _≤111;omega)) g'⟩
set_option maxHeartbeats 2000000 in
theorem ok_cll (F:Fun K "_law_calls" "_law_calls" s_cll f fd)(ml:mg "len"=none)(mr:mg "range"=none)(mM:mg "min"=none)(h1:Has P w K mg base 1 "_law_next" ["_law_state","_law_many"] spNext)(hW:Has P w K mg base 1 "_law_within" pWt (spWth wthP))(hB:Has P w K mg base 1 "_law_behind" pWt (spWth behP)):FnOk P w K mg base CX0 3 f fd pCll spCll:=by
 refine F.ok sc_cll (fun cdv A outer s H vs Q E hr h=>?_)
 have hu:=hu_of hr
 obtain⟨st,pl,kl,pool,ks,rfl,ok,hpl,npl,lp,okp,hkl,nkl,lk,okk,q⟩:=h
 rw[bodyC]
 refine⟨_,pss_cons (pset 3 sc_cll.nd (pcall h1 hr (by decide) rfl (pa_cons (pv 0) (pa_cons pe_int pa_nil))))
  (pss_cons (ps_if (pt_cmpR (op_neE (Nat.lt_of_succ_lt hu)) (pv 2) (pe_lst pa_nil)) (pss_one (pset 3 sc_cll.nd (pe_ix (ixL K) (pv 2) (pcall h1 hr (by decide) rfl (pa_cons (pv 0) (pa_cons (pe_callB (clen K) rfl ml PySem.boot_len (pa_cons (pv 2) pa_nil)) pa_nil)))))) pss_nil)
  (ps_C2r hr mr mM h1 hW hB).h),?_⟩
 refine⟨_,rfl,st,9,rfl,ok,by decide,by decide,fun d9 H1 d0 d1 g1=>?_⟩
 refine⟨_,rfl,sml 0,fun e he=>?_⟩
 have s2:=same_new he (.lst [])
 have b2:(upd H1 e (.lst [])) e=some (.lst []):=upd_same
 revert s2 b2
 generalize upd H1 e (.lst [])=H2
 intro s2 b2
 have g2:=g1.trans (grow_same g1.ok s2)
 have hk2:=g2.1 _ _ nkl hkl
 refine⟨kl,e,_,rfl,rfl,hk2,b2,_,rfl,ite2 (fun c=>?_) (fun c=>?_)⟩
 ·have ne:ks≠[]:=fun z=>by subst z;simp at c
  have lpos:0<ks.length:=List.length_pos_iff.mpr ne
  refine⟨_,rfl,_,rfl,_,rfl,kl,_,rfl, .inl (SqL.of hk2),st,_,rfl,g2.ok,by rw[List.length_map];omega,by rw[List.length_map];omega,fun d5 H4 e0 e1 g4=>?_⟩
  rw[List.length_map]at e1
  obtain⟨d5,rfl⟩:∃e:Nat,d5=(e:Int):=⟨d5.toNat,by omega⟩
  have hd5:d5<ks.length:=by omega
  have mx':=List.getElem_mem hd5
  have g04:=g2.trans g4
  exact⟨kl,_,_, .str ks[d5],rfl,rfl,SqL.of (g4.1 _ _ nkl hk2),atI_nat (j:=d5) (by rw[List.getElem?_map,List.getElem?_eq_getElem hd5];rfl),st,pl,_,_,pool,ks, .nm ks[d5],rfl,g04.ok,g04.1 _ _ npl hpl,npl,lp,okp,(okk _ mx').ph _,fun g hg=>.nm (hg _ mx'),fun v p H' hp hc g'=>q v p H' hp hc (g04.trans g')⟩
 ·exact⟨st,pl,_,_,pool,ks, .num d9,rfl,g2.ok,g2.1 _ _ npl hpl,npl,lp,okp, .num d9 (in_sm (by omega) (by omega)),fun g _=>.num,fun v p H' hp hc g'=>q v p H' hp hc (g2.trans g')⟩
end
theorem key_lk {E:En}{y:Str}(h:y∈E.map (·.1)):∃j,lkI E y=some j:=by
 induction E with
 |nil=>cases h
 |cons p r ih=>
  obtain⟨x,i⟩:=p
  unfold lkI
  by_cases c:y=x
  ·rw[if_pos c];exact⟨_,rfl⟩
  ·rw[if_neg c]
   refine ih ?_
   cases h with
   |head=>exact absurd rfl c
   |tail _ m=>exact m
def Gq (x1 x2:Str)(qs:List Pa)(k:Nat)(q:Pa):Prop:=q.x1=x1∧(∀G:List Str,(∀(j:Nat) q',j<k→qs[j]?=some q'→pth q'.g x2∈G)→Cp G MF q.p1)∧∀G:List Str,x1∈G→Cp G MF q.p2
theorem evPs_total {x1 x2:Str}{qs:List Pa}(hq:∀(k:Nat) q,qs[k]?=some q→Gq x1 x2 qs k q∧q.x2=x2)(lq:qs.length≤10){most:Int}:∀(n k:Nat) (E:En) (c:Nat),k+n=qs.length→(∀(j:Nat) q',j<k→qs[j]?=some q'→pth q'.g x2∈E.map (·.1))→E.length≤2*k→∃R c',evPs most MF (qs.drop k) E c=(some R,c')∧∀E',R=.inl E'→(∀(j:Nat) q',qs[j]?=some q'→pth q'.g x2∈E'.map (·.1))∧E'.length≤2*qs.length
 |0,k,E,c,hk,hE,lE=>by
  rw[show qs.drop k=[] from List.drop_eq_nil_of_le (by omega)]
  unfold evPs
  refine⟨_,_,rfl,fun E' h=>?_⟩
  cases h
  exact⟨fun j q' e=>hE j q' (by have:=(List.getElem?_eq_some_iff.mp e).1;omega) e,by omega⟩
 |n+1,k,E,c,hk,hE,lE=>by
  have lk:k<qs.length:=by omega
  have eq:qs[k]?=some qs[k]:=List.getElem?_eq_getElem lk
  obtain⟨⟨ex1,hp1,hp2⟩,ex2⟩:=hq k _ eq
  rw[List.drop_eq_getElem_cons lk]
  unfold evPs evPa
  have c1:=hp1 (E.map (·.1)) hE
  obtain⟨r1,d1,e1⟩:=ev_total (most:=most) c1 (e:=E) (c:=c) (u:=0) (fun y hy=>key_lk hy) (by show E.length+111≤900;omega)
  rw[e1]
  cases r1 with
  |out o=>exact⟨_,_,rfl,fun E' h=>by cases h⟩
  |val i=>
   dsimp only
   have c2:=hp2 (((qs[k].x1,i)::E).map (·.1)) (by rw[←ex1];exact List.mem_cons_self)
   obtain⟨r2,d2,e2⟩:=ev_total (most:=most) c2 (e:=(qs[k].x1,i)::E) (c:=d1) (u:=0) (fun y hy=>key_lk hy) (by show E.length+1+111≤900;omega)
   rw[e2]
   cases r2 with
   |out o=>exact⟨_,_,rfl,fun E' h=>by cases h⟩
   |val j=>
    dsimp only
    refine evPs_total hq lq n (k+1) _ d2 (by omega) (fun j' q' lj e=>?_) (by show E.length+1+1≤_;omega)
    unfold paE
    by_cases z:j'=k
    ·subst z
     rw[eq]at e
     cases e
     rw[←ex2]
     exact List.mem_cons_self
    ·exact List.mem_cons_of_mem _ (List.mem_cons_of_mem _ (hE j' q' (by omega) e))
theorem drw_of {x1 x2:Str}{qs:List Pa}{p:Ph}(hq:∀(k:Nat) q,qs[k]?=some q→Gq x1 x2 qs k q∧q.x2=x2)(lq:qs.length≤10)(hp:∀G:List Str,(∀(j:Nat) q',qs[j]?=some q'→pth q'.g x2∈G)→Cp G MF p):Drw MF qs p:=fun most=>by
 obtain⟨R,c',e,h⟩:=evPs_total hq lq (most:=most) qs.length 0 [] 0 (by omega) (fun j q' lj=>by omega) (Nat.le_refl _)
 unfold evMain
 rw[List.drop_zero]at e
 rw[e]
 cases R with
 |inr o=>exact⟨_,_,rfl⟩
 |inl E=>
  obtain⟨h1,h2⟩:=h E rfl
  obtain⟨r,d,e2⟩:=ev_total (most:=most) (hp (E.map (·.1)) h1) (e:=E) (c:=c') (u:=0) (fun y hy=>key_lk hy) (by show E.length+111≤900;omega)
  dsimp only
  rw[e2]
  exact⟨_,_,rfl⟩
theorem gq_snoc {x1 x2:Str}{qs:List Pa}{q:Pa}(hq:∀(k:Nat) q,qs[k]?=some q→Gq x1 x2 qs k q∧q.x2=x2)(e1:q.x1=x1)(e2:q.x2=x2)(h1:∀G:List Str,(∀y∈qs.map (fun q=>pth q.g x2),y∈G)→Cp G MF q.p1)(h2:∀G:List Str,x1∈G→Cp G MF q.p2):∀(k:Nat) q',(qs++[q])[k]?=some q'→Gq x1 x2 (qs++[q]) k q'∧q'.x2=x2:=fun k q' e=>by
 by_cases c:k<qs.length
 ·rw[List.getElem?_append_left c]at e
  obtain⟨⟨a,b,d⟩,f⟩:=hq k q' e
  exact⟨⟨a,fun G h=>b G fun j q'' lj e'=>h j q'' lj (by rw[List.getElem?_append_left (by omega)];exact e'),d⟩,f⟩
 ·rw[List.getElem?_append_right (by omega)]at e
  have hk:k-qs.length=0:=by
   cases z:k-qs.length with
   |zero=>rfl
   |succ n=>rw[z]at e;cases e
  rw[hk]at e
  cases e
  refine⟨⟨e1,fun G h=>h1 G fun y hy=>?_,h2⟩,e2⟩
  obtain⟨q0,m0,rfl⟩:=List.mem_map.mp hy
  obtain⟨j,lj,ej⟩:=List.mem_iff_getElem.mp m0
  exact h j q0 (by omega) (by rw[List.getElem?_append_left lj,List.getElem?_eq_getElem lj,ej])
abbrev s_law:Stmt:=top 85
abbrev nLaw:List Str:=["_law_script","_law_state","_law_pool","_law_greats_here","_law_program","_law_known","_law_k","_law_body","_law_begun","_law_most"]
theorem sc_law:FnScope nLaw ["_law_script"] (defScope s_law):=⟨rfl,rfl,rfl,by decide+kernel,rfl,by decide+kernel,by decide+kernel⟩
abbrev lwi (i:Nat):Stmt:=(defBody s_law).getD i (.Pass ⟨0,0,0,0⟩)
def forL:List Stmt:=match lwi 5 with|.For _ _ b _ _=>b|_=>[]
@[irreducible] def stL3:Stmt:=lwi 3
@[irreducible] def stB0:Stmt:=forL.getD 0 (.Pass ⟨0,0,0,0⟩)
@[irreducible] def stB1:Stmt:=forL.getD 1 (.Pass ⟨0,0,0,0⟩)
@[irreducible] def stB2:Stmt:=forL.getD 2 (.Pass ⟨0,0,0,0⟩)
section
variable {P:Program}{w:World}{K:PySem.W.Frag}{mg:Str→Option Value}{base:Heap}{f:Addr}{fd:FuncData}{cdv:Value}{A:Around}{outer:List Env}{s:Shared}{H0:Hp}{E:XK}
abbrev LwX (P:Program)(w:World)(K:PySem.W.Frag)(mg:Str→Option Value)(base:Heap)(f:Addr)(cdv:Value)(A:Around)(outer:List Env)(s:Shared)(H:Hp)(E:XK):Cx:=(cxOf CX0 P w K mg base nLaw "law" (defScope s_law) f cdv A outer s H E).nox
def tL3:TS:=fun D σ H=>∃(v0 v1:V) (pl gl:Addr) (pool greats:List Str) (x2 g0:Str),σ=[some v0,some v1,some (.ref pl),some (.ref gl),none,none,none,none,none,none]∧H pl=some (.lst (pool.map V.str))∧H gl=some (.lst (greats.map V.str))∧pool[2]?=some x2∧greats[0]?=some g0∧∀(pg fa:Addr) (xs:List V) H',H pg=none→H' pg=some (.lst [.ref fa])→H' fa=some (.tup (.str "face"::xs))→xs.length=3→Same H H'→D.nx [some v0,some v1,some (.ref pl),some (.ref gl),some (.ref pg),none,none,none,none,none] H'
set_option maxHeartbeats 2000000 in
theorem ps_L3:PSx (LwX P w K mg base f cdv A outer s H0 E) stL3 tL3:=by
 unfold stL3
 refine x_weak (x_set (i:=4) (x:="_law_program") sc_law.nd rfl (Or.inl rfl) (x_lst (x_t (x_tup (x_str (x_s (x_ix (ixL K) (x_pv 3) x_ci (by intro _ _;rfl)) (x_t (x_tup x_nil) (x_t (x_tup (x_str (x_s (x_ix (ixL K) (x_pv 2) x_ci (by intro _ _;rfl)) (x_str x_nil)))) x_nil))))) x_nil)) swaps_lst (.inl rfl)) ?_
 rintro D σ H ⟨v0,v1,pl,gl,pool,greats,x2,g0,rfl,hpl,hgl,h2,h0,q⟩
 refine⟨_,rfl,gl,_,_, .str g0,rfl,rfl,SqL.of hgl,atI_nat (j:=0) (by rw[List.getElem?_map,h0];rfl),sml 0,fun e he=>?_⟩
 have s1:=same_new he (.tup [])
 revert s1
 generalize upd H e (.tup [])=H1
 intro s1
 refine⟨_,rfl,pl,_,_, .str x2,rfl,rfl,SqL.of (s1 _ _ hpl),atI_nat (j:=2) (by rw[List.getElem?_map,h2];rfl),sml 3,fun t1 ht1=>?_⟩
 have s2:=s1.trans (same_new ht1 (.tup [.str "val", .str x2, .str "num"]))
 revert s2
 generalize upd H1 t1 (.tup [.str "val", .str x2, .str "num"])=H2
 intro s2
 refine⟨sml 4,fun fa hfa=>?_⟩
 have s3':=same_new hfa (.tup [.str "face", .str g0, .ref e, .ref t1])
 have s3:=s2.trans s3'
 have b3:(upd H2 fa (.tup [.str "face", .str g0, .ref e, .ref t1])) fa=some (.tup [.str "face", .str g0, .ref e, .ref t1]):=upd_same
 revert s3 b3
 generalize upd H2 fa (.tup [.str "face", .str g0, .ref e, .ref t1])=H3
 intro s3 b3
 refine⟨sml 1,fun pg hpg=>?_⟩
 have s4:=same_new hpg (.lst [.ref fa])
 exact q pg fa _ _ (s3.free hpg) upd_same (s4 _ _ b3) rfl (s3.trans s4)
def tB0:TS:=fun D σ H=>∃(v0 v3 v4 v6:V) (st pl kl:Addr) (o7:Option V) (pool ks:List Str) (x1 x2:Str),σ=[some v0,some (.ref st),some (.ref pl),some v3,some v4,some (.ref kl),some v6,o7,none,none]∧StOk H st∧H pl=some (.lst (pool.map V.str))∧pl≠st∧2≤pool.length∧(∀x∈pool,NmOk x)∧pool[3]?=some x1∧pool[2]?=some x2∧H kl=some (.lst (ks.map V.str))∧kl≠st∧ks.length≤10∧(∀x∈ks,LfOk x)∧
 ∀(bl a1 a2:Addr) (p1 p2:Ph) H',H' bl=some (.lst [.ref a1, .ref a2])→VaL H' a1 x1 p1→VaL H' a2 x2 p2→(∀G:List Str,(∀x∈ks,x∈G)→Cp G MF p1)→(∀G:List Str,x1∈G→Cp G MF p2)→Grow st H H'→D.nx [some v0,some (.ref st),some (.ref pl),some v3,some v4,some (.ref kl),some v6,some (.ref bl),none,none] H'
set_option maxHeartbeats 2000000 in
theorem ps_B0 {lr:Nat}(hr:Room (lr+3) (A.deeper (envOfC "law" (defScope s_law) s.heap.objs.size f cdv)))(hC:Has P w K mg base 3 "_law_calls" pCll spCll):PSx (LwX P w K mg base f cdv A outer s H0 E) stB0 tB0:=by
 unfold stB0
 refine x_weak ⟨pset 7 sc_law.nd (pe_lst (pa_cons (pe_tup (pa_cons pe_str (pa_cons (pe_ix (ixL K) (pv 2) pe_int) (pa_cons (pcall hC hr (Nat.le_add_left _ _) rfl (pa_cons (pv 1) (pa_cons (pv 2) (pa_cons (pv 5) pa_nil)))) pa_nil)))) (pa_cons (pe_tup (pa_cons pe_str (pa_cons (pe_ix (ixL K) (pv 2) pe_int) (pa_cons (pcall hC hr (Nat.le_add_left _ _) rfl (pa_cons (pv 1) (pa_cons (pv 2) (pa_cons (pe_lst (pa_cons (pe_ix (ixL K) (pv 2) pe_int) pa_nil)) pa_nil)))) pa_nil)))) pa_nil)))⟩ ?_
 rintro D σ H ⟨v0,v3,v4,v6,st,pl,kl,o7,pool,ks,x1,x2,rfl,ok,hpl,npl,lp,okp,h3,h2,hkl,nkl,lk,okk,q⟩
 have n1:=okp _ (List.mem_of_getElem? h3)
 have n2:=okp _ (List.mem_of_getElem? h2)
 have i3:atI (pool.map V.str) (3:Int)=some (.str x1):=atI_nat (j:=3) (by rw[List.getElem?_map,h3];rfl)
 have i2:atI (pool.map V.str) (2:Int)=some (.str x2):=atI_nat (j:=2) (by rw[List.getElem?_map,h2];rfl)
 refine⟨_,rfl,pl,_,_,_,rfl,rfl,SqL.of hpl,i3,_,rfl,_,rfl,_,rfl, .mk st pl kl pool ks rfl ok hpl npl lp okp hkl nkl lk okk fun w1 p1 H1 hp1 c1 g1=>⟨sml 3,fun a1 ha1=>?_⟩⟩
 have s2:=same_new ha1 (.tup [.str "val", .str x1,w1])
 have b2:(upd H1 a1 (.tup [.str "val", .str x1,w1])) a1=some (.tup [.str "val", .str x1,w1]):=upd_same
 revert s2 b2
 generalize upd H1 a1 (.tup [.str "val", .str x1,w1])=H2
 intro s2 b2
 have g2:=g1.trans (grow_same g1.ok s2)
 have hp2:=hp1.same s2
 have hpl2:=g2.1 _ _ npl hpl
 refine⟨_,rfl,pl,_,_,_,rfl,rfl,SqL.of hpl2,i2,_,rfl,_,rfl,_,rfl,pl,_,_,_,rfl,rfl,SqL.of hpl2,i3,sml 1,fun l hl=>?_⟩
 have s3:=same_new hl (.lst [.str x1])
 have b3:(upd H2 l (.lst [.str x1])) l=some (.lst ([x1].map V.str)):=upd_same
 have nl:l≠st:=fun z=>by obtain⟨_,_,_,e⟩:=g2.ok;rw[z,e]at hl;cases hl
 revert s3 b3
 generalize upd H2 l (.lst [.str x1])=H3
 intro s3 b3
 have g3:=g2.trans (grow_same g2.ok s3)
 refine .mk st pl l pool [x1] rfl g3.ok (s3 _ _ hpl2) npl lp okp b3 nl (by show 1≤10;decide) (fun x hx=>by rw[List.mem_singleton.mp hx];exact .inl n1) fun w2 p2 H4 hp4 c4 g4=>⟨sml 3,fun a2 ha2=>?_⟩
 have s5:=same_new ha2 (.tup [.str "val", .str x2,w2])
 have b5:(upd H4 a2 (.tup [.str "val", .str x2,w2])) a2=some (.tup [.str "val", .str x2,w2]):=upd_same
 revert s5 b5
 generalize upd H4 a2 (.tup [.str "val", .str x2,w2])=H5
 intro s5 b5
 have g5:=g3.trans (g4.trans (grow_same g4.ok s5))
 have g25:Grow st H2 H5:=(grow_same g2.ok s3).trans (g4.trans (grow_same g4.ok s5))
 refine⟨sml 2,fun bl hbl=>?_⟩
 have s6:=same_new hbl (.lst [.ref a1, .ref a2])
 exact q bl a1 a2 p1 p2 _ upd_same ⟨w1,s6 _ _ (g25.tups g2.ok _ _ b2),(hp2.grow g2.ok g25).same s6,n1⟩ ⟨w2,s6 _ _ b5,(hp4.same s5).same s6,n2⟩ c1 (fun G hG=>c4 G fun x hx=>by rw[List.mem_singleton.mp hx];exact hG) (g5.trans (grow_same g5.ok s6))
end
structure G4 (st pg kl:Addr)(H H':Hp):Prop where
 k:∀b o,b≠st→b≠pg→b≠kl→H b=some o→H' b=some o
 ok:StOk H' st
theorem G4.trans {st pg kl:Addr}{H H1 H2:Hp}(a:G4 st pg kl H H1)(b:G4 st pg kl H1 H2):G4 st pg kl H H2:=⟨fun c o n1 n2 n3 h=>b.k c o n1 n2 n3 (a.k c o n1 n2 n3 h),b.ok⟩
theorem Grow.g4 {st pg kl:Addr}{H H':Hp}(g:Grow st H H'):G4 st pg kl H H':=⟨fun b o n _ _ h=>g.1 b o n h,g.2⟩
theorem G4.tup {st pg kl:Addr}{H H':Hp}{xs ys:List V}(g:G4 st pg kl H H')(ok:StOk H st)(h1:H pg=some (.lst xs))(h2:H kl=some (.lst ys)):Tup5 H H':=fun b zs h=>by
 obtain⟨ns,_,_,h3⟩:=ok
 exact g.k b _ (ne_of h h3 (by intro z;cases z)) (ne_of h h1 (by intro z;cases z)) (ne_of h h2 (by intro z;cases z)) h
theorem ok_upd {st a:Addr}{H:Hp}{o:HO}(ok:StOk H st)(n:a≠st):StOk (upd H a o) st:=by
 obtain⟨ns,a1,a2,a3⟩:=ok
 exact⟨ns,a1,a2,by rw[upd_ne (Ne.symm n)];exact a3⟩
section
variable {P:Program}{w:World}{K:PySem.W.Frag}{mg:Str→Option Value}{base:Heap}{f:Addr}{fd:FuncData}{cdv:Value}{A:Around}{outer:List Env}{s:Shared}{H0:Hp}{E:XK}{lr:Nat}
def tTn:TS:=fun D σ H=>∃(v0:V) (st pl gl pg kl:Addr) (i:Nat) (o7:Option V) (pool greats ks:List Str) (x1 x2 g0 g:Str) (xs:List V),σ=[some v0,some (.ref st),some (.ref pl),some (.ref gl),some (.ref pg),some (.ref kl),some (.int (i:Int)),o7,none,none]∧StOk H st∧H pl=some (.lst (pool.map V.str))∧H gl=some (.lst (greats.map V.str))∧H pg=some (.lst xs)∧H kl=some (.lst (ks.map V.str))∧pl≠st∧gl≠st∧pg≠st∧kl≠st∧pg≠kl∧gl≠pg∧pl≠pg∧2≤pool.length∧(∀x∈pool,NmOk x)∧pool[3]?=some x1∧pool[2]?=some x2∧greats[0]?=some g0∧greats[1+i]?=some g∧xs.length≤10∧ks.length≤9∧(∀x∈ks,LfOk x)∧g.length≤100∧(g++".").length≤100∧
 ∀(d:Addr) (p1 p2:Ph) (q7:Option V) H',H' pg=some (.lst (xs++[.ref d]))→H' kl=some (.lst ((ks++[pth g x2]).map V.str))→PaL H' d ⟨g,x1,p1,x2,p2⟩→(∀G:List Str,(∀x∈ks,x∈G)→Cp G MF p1)→(∀G:List Str,x1∈G→Cp G MF p2)→G4 st pg kl H H'→D.nx [some v0,some (.ref st),some (.ref pl),some (.ref gl),some (.ref pg),some (.ref kl),some (.int (i:Int)),q7,none,none] H'
set_option maxHeartbeats 4000000 in
theorem ps_tn (hr:Room (lr+3) (A.deeper (envOfC "law" (defScope s_law) s.heap.objs.size f cdv)))(mt:mg "tuple"=none)(hC:Has P w K mg base 3 "_law_calls" pCll spCll):PSsx (LwX P w K mg base f cdv A outer s H0 E) [stB0,stB1,stB2] tTn:=by
 unfold stB1 stB2
 refine x_weaks (x_cons (ps_B0 hr hC) (x_cons ⟨ps_expr (papp K (pv 4) (pa_cons (pe_op (catT K) (pe_tup (pa_cons pe_str (pa_cons (pe_ix (ixL K) (pv 3) (pe_op op_add pe_int (pv 6))) (pa_cons (pe_ix (ixL K) (pv 3) pe_int) pa_nil)))) (pe_callTy (ctup K) rfl mt boot_tuple (pa_cons (pv 7) pa_nil))) pa_nil))⟩ (x_one ⟨ps_expr (papp K (pv 5) (pa_cons (pe_op op_add_str (pe_op op_add_str (pe_ix (ixL K) (pv 3) (pe_op op_add pe_int (pv 6))) pe_str) (pe_ix (ixL K) (pv 2) pe_int)) pa_nil))⟩))) ?_
 rintro D σ H ⟨v0,st,pl,gl,pg,kl,i,o7,pool,greats,ks,x1,x2,g0,g,xs,rfl,ok,hpl,hgl,hpg,hkl,npl,ngl,npg,nkl,npk,ngp,nlp,lp,okp,h3,h2,h0,hg,lxs,lks,okk,lg,lgd,q⟩
 refine⟨_,_,_,_,st,pl,kl,o7,pool,ks,x1,x2,rfl,ok,hpl,npl,lp,okp,h3,h2,hkl,nkl,by omega,okk,fun bl a1 a2 p1 p2 H1 hbl hv1 hv2 c1 c2 g1=>?_⟩
 have ig:atI (greats.map V.str) (1+(i:Int))=some (.str g):=by
  rw[show(1:Int)+(i:Int)=((1+i:Nat):Int) by omega]
  exact atI_nat (by rw[List.getElem?_map,hg];rfl)
 have i0:atI (greats.map V.str) (0:Int)=some (.str g0):=atI_nat (j:=0) (by rw[List.getElem?_map,h0];rfl)
 have i2:atI (pool.map V.str) (2:Int)=some (.str x2):=atI_nat (j:=2) (by rw[List.getElem?_map,h2];rfl)
 have hpg1:=g1.1 _ _ npg hpg
 have hgl1:=g1.1 _ _ ngl hgl
 have hkl1:=g1.1 _ _ nkl hkl
 have hpl1:=g1.1 _ _ npl hpl
 refine⟨_,rfl, .inl ⟨rfl,_,SqL.of hpg1⟩,?_⟩
 refine⟨_,rfl,_,rfl,_,_,rfl,rfl,gl,_,_,_,rfl,rfl,SqL.of hgl1,ig,_,rfl,gl,_,_,_,rfl,rfl,SqL.of hgl1,i0,sml 3,fun t1 ht1=>?_⟩
 have s2:=same_new ht1 (.tup [.str "part", .str g, .str g0])
 have b2:(upd H1 t1 (.tup [.str "part", .str g, .str g0])) t1=some (.tup [.str "part", .str g, .str g0]):=upd_same
 revert s2 b2
 generalize upd H1 t1 (.tup [.str "part", .str g, .str g0])=H2
 intro s2 b2
 refine⟨_,rfl,bl,_,rfl, .inl ⟨SqL.of (s2 _ _ hbl),fun t2 ht2=>?_⟩⟩
 have s3:=same_new ht2 (.tup [.ref a1, .ref a2])
 have b3:(upd H2 t2 (.tup [.ref a1, .ref a2])) t2=some (.tup [.ref a1, .ref a2]):=upd_same
 revert s3 b3
 generalize upd H2 t2 (.tup [.ref a1, .ref a2])=H3
 intro s3 b3
 refine⟨t1,t2,_,_,rfl,rfl,SqT.of (s3 _ _ b2),SqT.of b3,by simp,sml 5,fun z=>(by cases z),fun _ d hd=>?_⟩
 have s4:=same_new hd (.tup ([.str "part", .str g, .str g0]++[.ref a1, .ref a2]))
 have b4:(upd H3 d (.tup ([.str "part", .str g, .str g0]++[.ref a1, .ref a2]))) d=some (.tup [.str "part", .str g, .str g0, .ref a1, .ref a2]):=upd_same
 revert s4 b4
 generalize upd H3 d (.tup ([.str "part", .str g, .str g0]++[.ref a1, .ref a2]))=H4
 intro s4 b4
 have s14:=s2.trans (s3.trans s4)
 have g4:Grow st H H4:=g1.trans (grow_same g1.ok s14)
 have hpg4:=s14 _ _ hpg1
 refine⟨pg,xs,_,rfl,rfl,hpg4,small' (by omega),?_⟩
 have k5:∀b o,b≠pg→H4 b=some o→(upd H4 pg (.lst (xs++[.ref d]))) b=some o:=fun b o n h=>by rw[upd_ne n];exact h
 have b5:(upd H4 pg (.lst (xs++[.ref d]))) pg=some (.lst (xs++[.ref d])):=upd_same
 have ok5:StOk (upd H4 pg (.lst (xs++[.ref d]))) st:=ok_upd g4.ok npg
 revert k5 b5 ok5
 generalize upd H4 pg (.lst (xs++[.ref d]))=H5
 intro k5 b5 ok5
 have hkl5:=k5 _ _ (Ne.symm npk) (s14 _ _ hkl1)
 have hgl5:=k5 _ _ ngp (s14 _ _ hgl1)
 have hpl5:=k5 _ _ nlp (s14 _ _ hpl1)
 have n2:=okp _ (List.mem_of_getElem? h2)
 have lx2:=n2.len
 refine⟨_,rfl, .inl ⟨rfl,_,SqL.of hkl5⟩,?_⟩
 refine⟨_,rfl,_,rfl,_,_,rfl,rfl,gl,_,_,_,rfl,rfl,SqL.of hgl5,ig,g,".",rfl,rfl,small (by show g.length+1≤1000000;omega),_,rfl,pl,_,_,_,rfl,rfl,SqL.of hpl5,i2,g++".",x2,rfl,rfl,small (by omega),kl,_,_,rfl,rfl,hkl5,small' (by rw[List.length_map];omega),?_⟩
 have t45:Tup5 H4 H5:=fun b ys h=>k5 _ _ (ne_of h hpg4 (by intro z;cases z)) h
 have t56:Tup5 H5 (upd H5 kl (.lst (ks.map V.str++[.str (g++"."++x2)]))):=fun b ys h=>by rw[upd_ne (ne_of h hkl5 (by intro z;cases z))];exact h
 have t14:Tup5 H1 H4:=fun b ys h=>s14 _ _ h
 refine q d p1 p2 _ _ (by rw[upd_ne npk];exact b5) (by rw[List.map_append];exact upd_same) ⟨g0,a1,a2,t56 _ _ (t45 _ _ b4),((hv1.tps t14).tps t45).tps t56,((hv2.tps t14).tps t45).tps t56⟩ c1 c2 ⟨fun b o n1 n2 n3 h=>?_,ok_upd ok5 nkl⟩
 rw[upd_ne n3]
 exact k5 _ _ n2 (g4.1 _ _ n1 h)
end
inductive spLaw (K:PySem.W.Frag)(vs:List V)(H:Hp)(Q:VK)(E_:XK):Prop where
 |mk (a:Addr) (ns:List Int):vs=[.ref a]→SqL K H a (ns.map V.int)→ns.length≤63→(∀H',Q (.bl true) H')→spLaw K vs H Q E_
@[irreducible] def stL5:Stmt:=lwi 5
@[irreducible] def stL6:Stmt:=lwi 6
@[irreducible] def stL8:Stmt:=lwi 8
theorem bodyLw:defBody s_law=[lwi 0,lwi 1,lwi 2,stL3,lwi 4,stL5,stL6,lwi 7,stL8,lwi 9]:=by
 unfold stL3 stL5 stL6 stL8
 rfl
theorem stL5_is:stL5=.For (match lwi 5 with|.For t _ _ _ _=>t|_=>.Name "" ⟨0,0,0,0⟩) (match lwi 5 with|.For _ i _ _ _=>i|_=>.Name "" ⟨0,0,0,0⟩) [stB0,stB1,stB2] [] (match lwi 5 with|.For _ _ _ _ p=>p|_=>⟨0,0,0,0⟩):=by
 unfold stL5 stB0 stB1 stB2
 rfl
section
variable {P:Program}{w:World}{K:PySem.W.Frag}{mg:Str→Option Value}{base:Heap}{f:Addr}{fd:FuncData}{cdv:Value}{A:Around}{outer:List Env}{s:Shared}{H0:Hp}{E:XK}{lr:Nat}
structure Pts (x1 x2:Str)(H:Hp)(pg kl fa:Addr)(ds:List Addr)(qs:List Pa):Prop where
 pg:H pg=some (.lst ((fa::ds).map V.ref))
 kl:H kl=some (.lst ((qs.map fun q=>pth q.g x2).map V.str))
 al:Al (PaL H) ds qs
 gq:∀(k:Nat) q,qs[k]?=some q→Gq x1 x2 qs k q∧q.x2=x2
 ok:∀q∈qs,PaOk x1 x2 q∧PaSh q
def tL5:TS:=fun D σ H=>∃(v0:V) (st pl gl pg kl fa:Addr) (pool greats:List Str) (x1 x2 g0:Str),σ=[some v0,some (.ref st),some (.ref pl),some (.ref gl),some (.ref pg),some (.ref kl),none,none,none,none]∧StOk H st∧H pl=some (.lst (pool.map V.str))∧H gl=some (.lst (greats.map V.str))∧H pg=some (.lst [.ref fa])∧H kl=some (.lst [])∧pl≠st∧gl≠st∧pg≠st∧kl≠st∧pg≠kl∧gl≠pg∧pl≠pg∧gl≠kl∧pl≠kl∧2≤pool.length∧(∀x∈pool,nmC x=true)∧pool[3]?=some x1∧pool[2]?=some x2∧x1≠x2∧greats[0]?=some g0∧greats.length=6∧(∀g∈greats,grC g=true)∧
 ∀(ds:List Addr) (qs:List Pa) (o6 o7:Option V) H',Pts x1 x2 H' pg kl fa ds qs→ds.length≤4→G4 st pg kl H H'→D.nx [some v0,some (.ref st),some (.ref pl),some (.ref gl),some (.ref pg),some (.ref kl),o6,o7,none,none] H'
set_option maxHeartbeats 2000000 in
theorem ps_L5 (hr:Room (lr+3) (A.deeper (envOfC "law" (defScope s_law) s.heap.objs.size f cdv)))(mr:mg "range"=none)(mt:mg "tuple"=none)(h1:Has P w K mg base 1 "_law_next" ["_law_state","_law_many"] spNext)(hC:Has P w K mg base 3 "_law_calls" pCll spCll):PSx (LwX P w K mg base f cdv A outer s H0 E) stL5 tL5:=by
 rw[stL5_is]
 refine x_weak (x_for (X:=LwX P w K mg base f cdv A outer s H0 E) PassesOwn.never rfl (pi_range1 rfl mr (pa_cons (pcall h1 hr (Nat.le_add_left _ _) rfl (pa_cons (pv 1) (pa_cons pe_int pa_nil))) pa_nil)) (pg_name (i:=6) sc_law.nd rfl (Or.inl rfl)) (ps_tn hr mt hC)) ?_
 rintro D σ H ⟨v0,st,pl,gl,pg,kl,fa,pool,greats,x1,x2,g0,rfl,ok,hpl,hgl,hpg,hkl,npl,ngl,npg,nkl,npk,ngp,nlp,ngk,nlk,lp,okp,h3,h2,nx12,h0,lgr,okg,q⟩
 refine⟨_,rfl,st,4,rfl,ok,by decide,by decide,fun d4 H1 d0 d1 g1=>?_⟩
 obtain⟨n4,rfl⟩:∃z:Nat,d4=(z:Int):=⟨d4.toNat,by omega⟩
 refine⟨(n4:Int),rfl,by omega,by omega,?_⟩
 refine for_range (n:=((n4:Int)).toNat) (fun i σ H'=>∃(o6 o7:Option V) (ds:List Addr) (qs:List Pa),σ=[some v0,some (.ref st),some (.ref pl),some (.ref gl),some (.ref pg),some (.ref kl),o6,o7,none,none]∧ds.length=i∧Pts x1 x2 H' pg kl fa ds qs∧G4 st pg kl H H') ⟨none,none,[],[],rfl,rfl,⟨g1.1 _ _ npg hpg,g1.1 _ _ nkl hkl,Al.nil,fun k q h=>by simp at h,fun q h=>by cases h⟩,g1.g4⟩ ?_ ?_
 ·rintro i σ H' hi ⟨o6,o7,ds,qs,rfl,ld,pt,g'⟩
  have lq:qs.length=i:=by rw[←pt.al.1];exact ld
  have hi3:1+i<greats.length:=by omega
  have hgg:=okg _ (List.getElem_mem hi3)
  obtain⟨gg1,gg2,gg3,gg4⟩:greatB greats[1+i]=true∧46∉greats[1+i].cps.toList∧1≤greats[1+i].length∧greats[1+i].length≤10:=by
   have:=hgg
   unfold grC at this
   simp only[Bool.and_eq_true,Bool.not_eq_true',decide_eq_false_iff_not,decide_eq_true_eq]at this
   exact this
  have lgd:(greats[1+i]++(".":Str)).length≤100:=by
   rw[len_app,show Str.length "."=1 by decide+kernel]
   omega
  have hx1:=okp _ (List.mem_of_getElem? h3)
  have hx2:=okp _ (List.mem_of_getElem? h2)
  refine⟨v0,st,pl,gl,pg,kl,i,o7,pool,greats,qs.map fun q=>pth q.g x2,x1,x2,g0,greats[1+i],(fa::ds).map V.ref,?_,g'.ok,g'.k _ _ npl nlp nlk hpl,g'.k _ _ ngl ngp ngk hgl,pt.pg,pt.kl,npl,ngl,npg,nkl,npk,ngp,nlp,lp,fun x hx=>nm_of (okp x hx),h3,h2,h0,List.getElem?_eq_getElem hi3,by simp;omega,by rw[List.length_map];omega,fun x hx=>?_,by omega,lgd,fun d p1 p2 q7 H2 hpg2 hkl2 hpa c1 c2 g2=>?_⟩
  ·rw[Int.zero_add]
   rfl
  ·obtain⟨q',m,rfl⟩:=List.mem_map.mp hx
   exact .inr ⟨_,_,(pt.ok q' m).1.k2⟩
  ·have tp:=g2.tup g'.ok pt.pg pt.kl
   refine⟨_,_,ds++[d],qs++[⟨greats[1+i],x1,p1,x2,p2⟩],rfl,by rw[List.length_append,ld];rfl,⟨?_,?_,(pt.al.mono fun _ _=>PaL.tps tp).snoc hpa,gq_snoc pt.gq rfl rfl c1 c2,fun q hq=>?_⟩,g'.trans g2⟩
   ·rw[hpg2];simp
   ·rw[hkl2];simp
   ·rcases List.mem_append.mp hq with m|m
    ·exact pt.ok q m
    ·rw[List.mem_singleton.mp m]
     exact⟨⟨rfl,rfl,pt_ok hgg hx1,pt_ok hgg hx2⟩,⟨by show greats[1+i].length≤100;omega,lgd,nx12⟩⟩
 ·rintro σ H' ⟨o6,o7,ds,qs,rfl,ld,pt,g'⟩
  exact q ds qs o6 o7 H' pt (by omega) g'
def tL6:TS:=fun D σ H=>∃(v0 v3:V) (st pl pg kl fa:Addr) (o6 o7:Option V) (pool:List Str) (x1 x2:Str) (ds:List Addr) (qs:List Pa) (xs:List V),σ=[some v0,some (.ref st),some (.ref pl),some v3,some (.ref pg),some (.ref kl),o6,o7,none,none]∧StOk H st∧H pl=some (.lst (pool.map V.str))∧pl≠st∧kl≠st∧pg≠st∧2≤pool.length∧(∀x∈pool,nmC x=true)∧H fa=some (.tup (.str "face"::xs))∧xs.length=3∧Pts x1 x2 H pg kl fa ds qs∧ds.length≤4∧
 ∀(t mn:Addr) (v:V) (p:Ph) H',PrL H' t fa mn ds qs v p→Drw MF qs p→StOk H' st→D.nx [some v0,some (.ref st),some (.ref pl),some v3,some (.ref t),some (.ref kl),o6,o7,none,none] H'
set_option maxHeartbeats 2000000 in
theorem ps_L6 (hr:Room (lr+3) (A.deeper (envOfC "law" (defScope s_law) s.heap.objs.size f cdv)))(mt:mg "tuple"=none)(hC:Has P w K mg base 3 "_law_calls" pCll spCll):PSx (LwX P w K mg base f cdv A outer s H0 E) stL6 tL6:=by
 unfold stL6
 refine x_weak ⟨pset 4 sc_law.nd (pe_op (catT K) (pe_callTy (ctup K) rfl mt boot_tuple (pa_cons (pv 4) pa_nil)) (pe_tup (pa_cons (pe_tup (pa_cons pe_str (pa_cons (pcall hC hr (Nat.le_add_left _ _) rfl (pa_cons (pv 1) (pa_cons (pv 2) (pa_cons (pv 5) pa_nil)))) pa_nil))) pa_nil)))⟩ ?_
 rintro D σ H ⟨v0,v3,st,pl,pg,kl,fa,o6,o7,pool,x1,x2,ds,qs,xs,rfl,ok,hpl,npl,nkl,npg,lp,okp,hfa,lxs,pt,ld,q⟩
 have lq:qs.length=ds.length:=pt.al.1.symm
 refine⟨_,rfl,pg,_,rfl, .inl ⟨SqL.of pt.pg,fun t1 ht1=>?_⟩⟩
 have s1:=same_new ht1 (.tup ((fa::ds).map V.ref))
 have b1:(upd H t1 (.tup ((fa::ds).map V.ref))) t1=some (.tup ((fa::ds).map V.ref)):=upd_same
 revert s1 b1
 generalize upd H t1 (.tup ((fa::ds).map V.ref))=H1
 intro s1 b1
 have ok1:=ok.same s1
 refine⟨_,rfl,_,rfl,_,rfl, .mk st pl kl pool _ rfl ok1 (s1 _ _ hpl) npl lp (fun x hx=>nm_of (okp x hx)) (s1 _ _ pt.kl) nkl (by rw[List.length_map];omega) (fun x hx=>?_) fun v p H2 hp c2 g2=>⟨sml 2,fun mn hmn=>?_⟩⟩
 ·obtain⟨q',m,rfl⟩:=List.mem_map.mp hx
  exact .inr ⟨_,_,(pt.ok q' m).1.k2⟩
 have s3:=same_new hmn (.tup [.str "main",v])
 have b3:(upd H2 mn (.tup [.str "main",v])) mn=some (.tup [.str "main",v]):=upd_same
 revert s3 b3
 generalize upd H2 mn (.tup [.str "main",v])=H3
 intro s3 b3
 refine⟨sml 1,fun t2 ht2=>?_⟩
 have s4:=same_new ht2 (.tup [.ref mn])
 have b4:(upd H3 t2 (.tup [.ref mn])) t2=some (.tup [.ref mn]):=upd_same
 revert s4 b4
 generalize upd H3 t2 (.tup [.ref mn])=H4
 intro s4 b4
 have s24:=s3.trans s4
 have g14:Grow st H1 H4:=g2.trans (grow_same g2.ok s24)
 have tp04:Tup5 H H4:=fun b ys h=>g14.tups ok1 _ _ (s1 _ _ h)
 refine⟨t1,t2,_,_,rfl,rfl,SqT.of (g14.tups ok1 _ _ b1),SqT.of b4,by simp,by rw[List.length_map,List.length_cons];exact small (by show ds.length+1+1≤1000000;omega),fun z=>(by cases z),fun _ t ht=>?_⟩
 have s5:=same_new ht (.tup ((fa::ds).map V.ref++[.ref mn]))
 have b5:(upd H4 t (.tup ((fa::ds).map V.ref++[.ref mn]))) t=some (.tup ((fa::ds).map V.ref++[.ref mn])):=upd_same
 have tp:Tup5 H4 (upd H4 t (.tup ((fa::ds).map V.ref++[.ref mn]))):=fun b ys h=>s5 _ _ h
 refine q t mn v p _ ⟨?_,⟨xs,tp _ _ (tp04 _ _ hfa),lxs⟩,pt.al.mono fun _ _ h=>(h.tps tp04).tps tp,tp _ _ (s4 _ _ b3),(hp.same s24).same s5,by omega⟩ (drw_of pt.gq (by omega) fun G hG=>c2 G fun x hx=>?_) ((g14.trans (grow_same g14.ok s5)).ok)
 ·rw[b5];simp
 ·obtain⟨q',m,rfl⟩:=List.mem_map.mp hx
  obtain⟨j,lj,ej⟩:=List.mem_iff_getElem.mp m
  exact hG j q' (by rw[List.getElem?_eq_getElem lj,ej])
end
section
variable {P:Program}{w:World}{K:PySem.W.Frag}{mg:Str→Option Value}{base:Heap}{f:Addr}{fd:FuncData}{cdv:Value}{A:Around}{outer:List Env}{s:Shared}{H0:Hp}{E:XK}{lr:Nat}
def tL8:TS:=fun D σ H=>∃(v0 v1 v2 v3 v5 v:V) (t fa mn:Addr) (o6 o7:Option V) (ds:List Addr) (qs:List Pa) (p:Ph) (x1 x2:Str) (b:Int),σ=[some v0,some v1,some v2,some v3,some (.ref t),some v5,o6,o7,some (.int b),none]∧PrL H t fa mn ds qs v p∧(∀q∈qs,PaOk x1 x2 q)∧(∀q∈qs,PaSh q)∧Drw MF qs p∧∀(o9:Option V) H',D.nx [some v0,some v1,some v2,some v3,some (.ref t),some v5,o6,o7,some (.int b),o9] H'
set_option maxHeartbeats 2000000 in
theorem ps_L8 (hr:Room (lr+117) (A.deeper (envOfC "law" (defScope s_law) s.heap.objs.size f cdv)))(h3:Has P w K mg base 117 "_law_right" ["_law_program","_law_most"] (spRight MF)):PSx (LwX P w K mg base f cdv A outer s H0 E) stL8 tL8:=by
 unfold stL8
 refine x_weak (x_for PassesOwn.never rfl (piL K (pe_lst (pa_cons pe_int (pa_cons (pv 8) (pa_cons (pe_op op_sub (pv 8) pe_int) (pa_cons (pe_op op_add (pv 8) pe_int) (pa_cons pe_int (pa_cons (pe_un un_neg pe_int) pa_nil)))))))) (pg_name (i:=9) sc_law.nd rfl (Or.inl rfl))
  (x_one ⟨ps_if (pt_not (pt_val (pcall h3 hr (Nat.le_add_left _ _) rfl (pa_cons (pv 4) (pa_cons (pv 9) pa_nil))))) (pss_one (ps_ret pe_bl)) pss_nil⟩)) ?_
 rintro D σ H ⟨v0,v1,v2,v3,v5,v,t,fa,mn,o6,o7,ds,qs,p,x1,x2,b,rfl,pr,pok,psh,dr,q⟩
 refine⟨_,rfl,_,rfl,_,_,rfl,rfl,_,rfl,_,_,rfl,rfl,3,rfl,sml 6,fun l hl=>?_⟩
 have s2:=same_new hl (.lst [.int 300, .int b, .int (b-1), .int (b+1), .int 0, .int (-3)])
 have b2:(upd H l (.lst [.int 300, .int b, .int (b-1), .int (b+1), .int 0, .int (-3)])) l=some (.lst [.int 300, .int b, .int (b-1), .int (b+1), .int 0, .int (-3)]):=upd_same
 revert s2 b2
 generalize upd H l (.lst [.int 300, .int b, .int (b-1), .int (b+1), .int 0, .int (-3)])=H2
 intro s2 b2
 refine⟨l,rfl,⟨_,SqL.of b2⟩,?_⟩
 refine for_list (xs:=[.int 300, .int b, .int (b-1), .int (b+1), .int 0, .int (-3)]) (fun i σ H'=>(∃o9,σ=[some v0,some v1,some v2,some v3,some (.ref t),some v5,o6,o7,some (.int b),o9])∧Same H2 H') ⟨⟨none,rfl⟩,Same.refl _⟩ ?_ ?_ ?_
 ·rintro i σ H' _ ⟨_,s'⟩
  exact SqL.of (s' _ _ b2)
 ·rintro i x σ H' hx ⟨⟨o9,rfl⟩,s'⟩
  obtain⟨mo,rfl⟩:∃mo:Int,x=.int mo:=by
   have hi:i<6:=(List.getElem?_eq_some_iff.mp hx).1
   have:i=0∨i=1∨i=2∨i=3∨i=4∨i=5:=by omega
   rcases this with rfl|rfl|rfl|rfl|rfl|rfl<;>(cases hx;exact⟨_,rfl⟩)
  exact⟨_,rfl,_,rfl, .mk t fa mn ds qs v p x1 x2 mo rfl (pr.same (s2.trans s')) pok psh dr fun H3 s3=>⟨_,rfl,iteF ⟨⟨_,rfl⟩,s'.trans s3⟩⟩⟩
 ·rintro σ H' ⟨⟨o9,rfl⟩,s'⟩
  exact q _ H'
end
section
variable {P:Program}{w:World}{K:PySem.W.Frag}{mg:Str→Option Value}{base:Heap}{f:Addr}{fd:FuncData}
set_option maxHeartbeats 2000000 in
theorem ok_law (F:Fun K "law" "law" s_law f fd)(mr:mg "range"=none)(mt:mg "tuple"=none)(h0:Has P w K mg base 1 "_law_drawn" ["_law_script"] (spDrawn K))(h5:Has P w K mg base 2 "_law_names" ["_law_state","_law_many"] spNames)(h6:Has P w K mg base 2 "_law_greats" ["_law_state","_law_many"] spGreats)
  (h1:Has P w K mg base 1 "_law_next" ["_law_state","_law_many"] spNext) (hC:Has P w K mg base 3 "_law_calls" pCll spCll) (h3:Has P w K mg base 117 "_law_right" ["_law_program","_law_most"] (spRight MF)) (h4:Has P w K mg base 116 "_law_ran" ["_law_program","_law_most"] (spRan MF)):FnOk P w K mg base CX0 118 f fd ["_law_script"] (spLaw K):=by
 refine F.ok sc_law (fun cdv A outer s H vs Q E hr h=>?_)
 obtain⟨sc,ns,rfl,hs,h63,q⟩:=h
 rw[bodyLw]
 refine⟨_,pss_cons (pset 1 sc_law.nd (pcall h0 hr (by decide) rfl (pa_cons (pv 0) pa_nil))) (pss_cons (pset 2 sc_law.nd (pcall h5 hr (by decide) rfl (pa_cons (pv 1) (pa_cons pe_int pa_nil))))
  (pss_cons (pset 3 sc_law.nd (pcall h6 hr (by decide) rfl (pa_cons (pv 1) (pa_cons pe_int pa_nil))))
  (pss_cons ps_L3.h
  (pss_cons (pset 5 sc_law.nd (pe_lst pa_nil))
  (pss_cons (ps_L5 (lr:=114) hr mr mt h1 hC).h
  (pss_cons (ps_L6 (lr:=114) hr mt hC).h
  (pss_cons (pset 8 sc_law.nd (pe_ix (ixT K) (pcall h4 hr (by decide) rfl (pa_cons (pv 4) (pa_cons pe_int pa_nil))) pe_int))
  (pss_cons (ps_L8 (lr:=0) hr h3).h
  (pss_one (ps_ret pe_bl)))))))))),?_⟩
 refine⟨_,rfl,sc,ns,rfl,hs,h63,fun st H1 s1 hst ok=>?_⟩
 refine⟨_,rfl, .mk st 8 rfl (by decide) ok fun pl sm d H2 hsm hpl npl hpl2 g2=>?_⟩
 refine⟨_,rfl, .mk st 6 rfl (by decide) g2.ok fun gl gm d' H3 hgm hgl ngl hgl3 g3=>?_⟩
 have hpl3:=g3.1 _ _ npl hpl2
 have lpool:((List.range 8).map fun k=>nm1 sm (d+k)).length=8:=by simp
 have lgr:((List.range 6).map fun k=>nm1 gm (d'+k)).length=6:=by simp
 have okp:∀x∈(List.range 8).map fun k=>nm1 sm (d+k),nmC x=true:=fun x hx=>by
  obtain⟨k,_,rfl⟩:=List.mem_map.mp hx
  exact(name_ok (d+k) hsm).2.1
 have okg:∀x∈(List.range 6).map fun k=>nm1 gm (d'+k),grC x=true:=fun x hx=>by
  obtain⟨k,_,rfl⟩:=List.mem_map.mp hx
  exact(great_ok (d'+k) hgm).2
 have e3:((List.range 8).map fun k=>nm1 sm (d+k))[3]?=some (nm1 sm (d+3)):=by rw[List.getElem?_map];rfl
 have e2:((List.range 8).map fun k=>nm1 sm (d+k))[2]?=some (nm1 sm (d+2)):=by rw[List.getElem?_map];rfl
 have e0:((List.range 6).map fun k=>nm1 gm (d'+k))[0]?=some (nm1 gm (d'+0)):=by rw[List.getElem?_map];rfl
 have n32:nm1 sm (d+3)≠nm1 sm (d+2):=Ne.symm (name_ok (d+2) hsm).2.2
 revert hpl2 hpl3 hgl3 lpool lgr okp okg e3 e2 e0
 generalize (List.range 8).map (fun k=>nm1 sm (d+k))=pool
 generalize (List.range 6).map (fun k=>nm1 gm (d'+k))=greats
 generalize nm1 sm (d+3)=x1 at n32 ⊢
 generalize nm1 sm (d+2)=x2 at n32 ⊢
 generalize nm1 gm (d'+0)=g0
 intro hpl2 hgl3 hpl3 lpool lgr okp okg e3 e2 e0
 refine⟨_,_,pl,gl,pool,greats,x2,g0,rfl,hpl3,hgl3,e2,e0,fun pg fa xs H4 hpg hpg4 hfa lxs s4=>?_⟩
 have ok4:=g3.ok.same s4
 refine⟨sml 0,fun kl hkl=>?_⟩
 have s5:=same_new hkl (.lst [])
 have b5:(upd H4 kl (.lst [])) kl=some (.lst []):=upd_same
 revert s5 b5
 generalize upd H4 kl (.lst [])=H5
 intro s5 b5
 have ok5:=ok4.same s5
 have nst:∀{b:Addr} {H':Hp},StOk H' st→H' b=none→b≠st:=fun o h z=>by obtain⟨_,_,_,e⟩:=o;rw[z,e]at h;cases h
 have npg:pg≠st:=nst g3.ok hpg
 have nkl:kl≠st:=nst ok4 hkl
 have npk:pg≠kl:=ne_of_none hpg4 hkl
 have ngp:gl≠pg:=ne_of_none hgl3 hpg
 have nlp:pl≠pg:=ne_of_none hpl3 hpg
 have ngk:gl≠kl:=ne_of_none (s4 _ _ hgl3) hkl
 have nlk:pl≠kl:=ne_of_none (s4 _ _ hpl3) hkl
 refine⟨_,st,pl,gl,pg,kl,fa,pool,greats,x1,x2,g0,rfl,ok5,s5 _ _ (s4 _ _ hpl3),s5 _ _ (s4 _ _ hgl3),s5 _ _ hpg4,b5,npl,ngl,npg,nkl,npk,ngp,nlp,ngk,nlk,by omega,okp,e3,e2,n32,e0,lgr,okg,fun ds qs o6 o7 H6 pt ld g6=>?_⟩
 have tp56:=g6.tup ok5 (s5 _ _ hpg4) b5
 refine⟨_,_,st,pl,pg,kl,fa,o6,o7,pool,x1,x2,ds,qs,xs,rfl,g6.ok,g6.k _ _ npl nlp nlk (s5 _ _ (s4 _ _ hpl3)),npl,nkl,npg,by omega,okp,tp56 _ _ (s5 _ _ hfa),lxs,pt,ld,fun t mn v p H7 pr dr ok7=>?_⟩
 obtain⟨r0,c',hev⟩:=dr 300
 have pok:∀q∈qs,PaOk x1 x2 q:=fun q hq=>(pt.ok q hq).1
 have psh:∀q∈qs,PaSh q:=fun q hq=>(pt.ok q hq).2
 refine⟨_,rfl, .mk t fa mn ds qs v p 300 r0 c' rfl pr psh hev (fun i hi h6' r H8 s8 hr8=>?_) (fun o ho u r H8 s8 hr8=>?_)⟩
 ·exact⟨r,_,2, .int (c':Int),rfl,rfl,SqT.of hr8,atI_nat (j:=2) rfl,_,_,_,_,_,v,t,fa,mn,o6,o7,ds,qs,p,x1,x2,c',rfl,pr.same s8,pok,psh,dr,fun o9 H9=>q _⟩
 ·exact⟨r,_,2, .int (c':Int),rfl,rfl,SqT.of hr8,atI_nat (j:=2) rfl,_,_,_,_,_,v,t,fa,mn,o6,o7,ds,qs,p,x1,x2,c',rfl,pr.same s8,pok,psh,dr,fun o9 H9=>q _⟩
end
def DefIs (K:PySem.W.Frag)(x:Str)(st:Stmt):Prop:=∃f fd,PySem.W.nsIn K mainGlobals x=some (some (.ref f))∧Fun K x x st f fd
theorem def_mk {K:PySem.W.Frag}{x:Str}{st:Stmt}{f:Addr}{oc:Value}{od an:Option Addr}{osl:Array (Option Value)}{kV doc pm cdv ct:Value}(a:PySem.W.nsIn K mainGlobals x=some (some (.ref f)))
  (l:K.lookup f=some ⟨oc,od, .func (PySem.W.fnOf x x (defArgs st) (defBody st) (defScope st) .none kV doc pm an cdv ct),osl⟩) (c:PySem.W.codeIn K cdv x=true) (k:PySem.W.keepIn K (.ref f)=true):DefIs K x st:=⟨f,_,a,fun_mk l c k⟩
theorem val_str {K:PySem.W.Frag}{x z y:Str}{t:Tok}(a:PySem.W.nsIn K mainGlobals x=some (some (.str z t)))(e:z=y):∃t,PySem.W.nsIn K mainGlobals x=some (some (.str y t)):=⟨t,by rw[←e];exact a⟩
theorem val_int {K:PySem.W.Frag}{x:Str}{i j:Int}{t:Tok}(a:PySem.W.nsIn K mainGlobals x=some (some (.int i t)))(e:i=j):∃t,PySem.W.nsIn K mainGlobals x=some (some (.int j t)):=⟨t,by rw[←e];exact a⟩
theorem abs_rel {x:V}{u:Value}(h:absV u=some x):RelV x u:=by
 cases u<;>simp only[absV,Option.some.injEq,reduceCtorEq]at h
 all_goals first
  |(subst h;exact rfl)
  |(subst h;exact⟨_,rfl⟩)
theorem vals_abs:∀{xs:List V} {us:List Value},us.map absV=xs.map some→Vals xs us
 |[],[],_=>.nil
 |x::xs,u::us,h=>by
  simp only[List.map_cons,List.cons.injEq]at h
  exact .cons (abs_rel h.1) (vals_abs h.2)
 |[],_::_,h=>by simp at h
 |_::_,[],h=>by simp at h
theorem val_tup {K:PySem.W.Frag}{x:Str}{xs:List V}{a:Addr}{oc:Value}{od:Option Addr}{its:Array Value}{n:Nat}{sl:Array (Option Value)}(h1:PySem.W.nsIn K mainGlobals x=some (some (.ref a)))(h2:K.lookup a=some ⟨oc,od, .seq its n,sl⟩)
  (h3:oc=.type "tuple") (h4:its.size≤sizeLine) (h5:its.toList.map absV=xs.map some):∃a,PySem.W.nsIn K mainGlobals x=some (some (.ref a))∧∀H,SqT K H a xs:=⟨a,h1,fun H=>.inr ⟨_,its,n,h2,h3,rfl,h4,vals_abs h5⟩⟩
theorem law_binds {K:PySem.W.Frag}{x:Str}{st:Stmt}{f:Addr}{fd:FuncData}{p:Str}(F:Fun K x x st f fd)(h:∀(kV doc pm:Value) (an:Option Addr) (cdv ct:Value) (s:Shared) (v:Value),BindsTo s (PySem.W.fnOf x x (defArgs st) (defBody st) (defScope st) .none kV doc pm an cdv ct) ⟨[v],[]⟩ [(p,v)]):
  ∀(s:Shared) (v:Value),BindsTo s fd ⟨[v],[]⟩ [(p,v)]:=by
 obtain⟨oc,od,kV,doc,pm,an,cdv,ct,osl,rfl,lk,hcd⟩:=F.ex
 exact h kV doc pm an cdv ct
def MethIs (K:PySem.W.Frag)(C:Addr)(x q:Str)(st:Stmt):Prop:=∃f fd,Meth K C x f∧Fun K x q st f fd
theorem meth_mk {K:PySem.W.Frag}{C:Addr}{x q:Str}{st:Stmt}{f:Addr}{oc:Value}{od an:Option Addr}{osl:Array (Option Value)}{kV doc pm cdv ct:Value}(a:PySem.W.findIn K (.ref C) x=some (some (.ref f)))(i:PySem.W.isFn K (.ref f)=true)
  (l:K.lookup f=some ⟨oc,od, .func (PySem.W.fnOf x q (defArgs st) (defBody st) (defScope st) .none kV doc pm an cdv ct),osl⟩) (c:PySem.W.codeIn K cdv q=true) (k:PySem.W.keepIn K (.ref f)=true):MethIs K C x q st:=⟨f,_,⟨a,i,k⟩,fun_mk l c k⟩
theorem cls_mk {K:PySem.W.Frag}{C:Addr}(pg:PySem.W.plainGet K C Str.empty=true)(hd:PySem.W.hasDictIn K C=true)(po:PySem.W.plainOver K C=true)(sa:PySem.W.findIn K (.ref C) "__setattr__"=some (some (.builtin "object.__setattr__"))):Cls K C:=⟨pg,hd,po,sa⟩
theorem noat_mk {K:PySem.W.Frag}{C:Addr}{x:Str}(n:PySem.W.findIn K (.ref C) x=some none):NoAttr K C x:=n
structure RkIs (K:PySem.W.Frag)(w:World)(dr y0 y1 y2 y3:Addr):Prop where
 nm:PySem.W.nsIn K mainGlobals "RECKONINGS"=some (some (.ref dr))
 n0:PySem.W.nsIn K mainGlobals "sum_of"=some (some (.ref y0))
 n1:PySem.W.nsIn K mainGlobals "difference_of"=some (some (.ref y1))
 n2:PySem.W.nsIn K mainGlobals "product_of"=some (some (.ref y2))
 n3:PySem.W.nsIn K mainGlobals "is_less"=some (some (.ref y3))
 dict:StrDict K w dr [("plus", .ref y0),("minus", .ref y1),("times", .ref y2),("less", .ref y3)]
theorem rkis_mk {K:PySem.W.Frag}{w:World}{dr y0 y1 y2 y3:Addr}{oc:Value}{od:Option Addr}{es:Array DictEntry}{n:Nat}{sl:Array (Option Value)}(nm:PySem.W.nsIn K mainGlobals "RECKONINGS"=some (some (.ref dr)))
  (n0:PySem.W.nsIn K mainGlobals "sum_of"=some (some (.ref y0)))
  (n1:PySem.W.nsIn K mainGlobals "difference_of"=some (some (.ref y1)))
  (n2:PySem.W.nsIn K mainGlobals "product_of"=some (some (.ref y2)))
  (n3:PySem.W.nsIn K mainGlobals "is_less"=some (some (.ref y3)))
  (l:K.lookup dr=some ⟨oc,od, .dict es n,sl⟩) (hs:(dr==sysModules)=false) (hx:Obj.ExactDict ⟨oc,od, .dict es n,sl⟩) (hp:Paired (EntryIs w) [("plus", .ref y0),("minus", .ref y1),("times", .ref y2),("less", .ref y3)] es.toList):
  ∃dr y0 y1 y2 y3,RkIs K w dr y0 y1 y2 y3:=⟨dr,y0,y1,y2,y3,nm,n0,n1,n2,n3,hs,_,es,n,l,hx,rfl,hp⟩
structure FmIs (K:PySem.W.Frag)(w:World)(dr t0 t1 t2 t3 t4 t5 t6 t7 t8 t9 t10 t11 eU eC eN:Addr):Prop where
 nm:PySem.W.nsIn K mainGlobals "FORMS"=some (some (.ref dr))
 n0:PySem.W.nsIn K mainGlobals "end_fun"=some (some (.ref eU))
 n1:PySem.W.nsIn K mainGlobals "end_call"=some (some (.ref eC))
 n2:PySem.W.nsIn K mainGlobals "end_numbers"=some (some (.ref eN))
 dict:StrDict K w dr [("fun", .ref t0),("call", .ref t1),("let", .ref t2),("ring", .ref t3),("case", .ref t4),("make", .ref t5),("pick", .ref t6),("plus", .ref t7),("minus", .ref t8),("times", .ref t9),("less", .ref t10),("if", .ref t11)]
 q0:∀H,SqT K H t0 [.int 2, .int 2, .ref eU]
 q1:∀H,SqT K H t1 [.int 1, .int 3, .ref eC]
 q7:∀H,SqT K H t7 [.int 1, .int 3, .ref eN]
 q8:∀H,SqT K H t8 [.int 1, .int 3, .ref eN]
 q9:∀H,SqT K H t9 [.int 1, .int 3, .ref eN]
 q10:∀H,SqT K H t10 [.int 1, .int 3, .ref eN]
theorem sqt_in {K:PySem.W.Frag}{xs:List V}{a:Addr}{oc:Value}{od:Option Addr}{its:Array Value}{n:Nat}{sl:Array (Option Value)}(h2:K.lookup a=some ⟨oc,od, .seq its n,sl⟩)(h3:oc=.type "tuple")(h4:its.size≤sizeLine)(h5:its.toList.map absV=xs.map some):∀H,SqT K H a xs:=fun H=>.inr ⟨_,its,n,h2,h3,rfl,h4,vals_abs h5⟩
theorem fmis_mk {K:PySem.W.Frag}{w:World}{dr t0 t1 t2 t3 t4 t5 t6 t7 t8 t9 t10 t11 eU eC eN:Addr}{oc:Value}{od:Option Addr}{es:Array DictEntry}{n:Nat}{sl:Array (Option Value)}(nm:PySem.W.nsIn K mainGlobals "FORMS"=some (some (.ref dr)))
  (n0:PySem.W.nsIn K mainGlobals "end_fun"=some (some (.ref eU)))
  (n1:PySem.W.nsIn K mainGlobals "end_call"=some (some (.ref eC)))
  (n2:PySem.W.nsIn K mainGlobals "end_numbers"=some (some (.ref eN)))
  (l:K.lookup dr=some ⟨oc,od, .dict es n,sl⟩) (hs:(dr==sysModules)=false) (hx:Obj.ExactDict ⟨oc,od, .dict es n,sl⟩) (hp:Paired (EntryIs w) [("fun", .ref t0),("call", .ref t1),("let", .ref t2),("ring", .ref t3),("case", .ref t4),("make", .ref t5),("pick", .ref t6),("plus", .ref t7),("minus", .ref t8),("times", .ref t9),("less", .ref t10),("if", .ref t11)] es.toList)
  (q0:∀H,SqT K H t0 [.int 2, .int 2, .ref eU])
  (q1:∀H,SqT K H t1 [.int 1, .int 3, .ref eC])
  (q7:∀H,SqT K H t7 [.int 1, .int 3, .ref eN])
  (q8:∀H,SqT K H t8 [.int 1, .int 3, .ref eN])
  (q9:∀H,SqT K H t9 [.int 1, .int 3, .ref eN])
  (q10:∀H,SqT K H t10 [.int 1, .int 3, .ref eN])
  :∃dr t0 t1 t2 t3 t4 t5 t6 t7 t8 t9 t10 t11 eU eC eN,FmIs K w dr t0 t1 t2 t3 t4 t5 t6 t7 t8 t9 t10 t11 eU eC eN:=⟨dr,t0,t1,t2,t3,t4,t5,t6,t7,t8,t9,t10,t11,eU,eC,eN,nm,n0,n1,n2,⟨hs,_,es,n,l,hx,rfl,hp⟩,q0,q1,q7,q8,q9,q10⟩
abbrev bmV:List Value:=[.type "ValueError", .type "Exception", .type "BaseException", .type "object"]
def ExcIs (K:PySem.W.Frag)(x:Str)(CT CX:Addr):Prop:=∀(base:Heap) (mg:Str→Option Value),K.In base→mg x=some (.ref CT)→OwnCls x CT bmV "ValueError.__new__" mg base∧CatchOk base CT CX
theorem excis_mk {K:PySem.W.Frag}{x:Str}{CT CX N N':Addr}{nm q nm' q':Str}{bs bm bs' bm':List Value}{hd hd':Bool}{sn sn':List Str}{sub sub':List Value}{ab ab':Bool}{col col':Option Bool}{dd dd':Option Addr}{k0 k1 k2 k3 k5 j0 j1 j2 j3 j5:Option Value}{nid:String}
  (l1:K.lookup CT=some ⟨.type "type",dd, .cls ⟨nm,bs, .ref CT::bm,N,q,hd,sn,sub,ab,col,false⟩,#[k0,k1,k2,k3,some (.builtin "ValueError.__new__"),k5]⟩) (n1:PySem.W.nsOkIn K N=true) (n2:PySem.W.nsIn K N "__init__"=some none) (t1:PySem.W.tailIn K bmV bm=true)
  (l2:K.lookup CX=some ⟨.type "type",dd', .cls ⟨nm',bs', .ref CX::bm',N',q',hd',sn',sub',ab',col',false⟩,#[j0,j1,j2,j3,some (.builtin nid),j5]⟩) (b1:bm'.contains (.type "BaseException")=true) (b2:(Value.ref CT::bm).contains (.ref CX)=true):ExcIs K x CT CX:=fun base mg X m=>
 ⟨⟨m,bm,N,nm,q,bs,hd,sn,sub,ab,col,dd,k0,k1,k2,k3,k5,_,X _ _ l1, .of_isNs (PySem.W.isNs_of_in X n1),PySem.W.nsMap_none_of_in X n1 n2,PySem.W.tail_of_in X t1⟩,
  nm,q,nm',q',N,N',bs,bm,bs',bm',hd,hd',sn,sn',sub,sub',ab,ab',col,col',dd,dd',k0,k1,k2,k3,k5,j0,j1,j2,j3,j5,_,nid,X _ _ l1,X _ _ l2,b1,b2⟩
theorem exc_mk {K:PySem.W.Frag}{C:Addr}{c0:Value}{d0:Option Addr}{cd:ClassData}{sl:Array (Option Value)}(g0:PySem.W.findIn K (.ref C) "__getattribute__"=some (some (.builtin "BaseException.__getattribute__")))(g1:PySem.W.findIn K (.ref C) "__getattr__"=some none)(gb:PySem.W.mroIn K C (.type "BaseException")=some true)(g2:PySem.W.findIn K (.ref C) "__class__"=some (some (.builtin "object.__class__")))(g3:PySem.W.specialIn K (.builtin "object.__class__") "__get__"=some (some (.builtin "getset_descriptor.__get__")))
  (g4:PySem.W.takesIn K (.builtin "object.__class__")=some true) (g5:PySem.W.mroIn K C (.type "object")=some true) (lk:K.lookup C=some ⟨c0,d0, .cls cd,sl⟩):ExcCls K C:=⟨g0,g1,gb,g2,g3,g4,g5,_,_,_,_,lk⟩
theorem isc_mk {K:PySem.W.Frag}{C:Addr}(i1:PySem.W.findIn K (.ref C) "__class__"=some (some (.builtin "object.__class__")))(i2:PySem.W.specialIn K (.builtin "object.__class__") "__get__"=some (some (.builtin "getset_descriptor.__get__")))(i3:PySem.W.takesIn K (.builtin "object.__class__")=some true)(i4:PySem.W.mroIn K C (.type "object")=some true)(i5:PySem.W.kitOne K (.ref C) (.ref C)=some true)(i6:PySem.W.kitOne K (.ref C) (.type "int")=some false)(i7:PySem.W.kitOne K (.ref C) (.type "tuple")=some false)(i8:PySem.W.kitOne K (.type "int") (.ref C)=some false)(i9:PySem.W.kitOne K (.type "tuple") (.ref C)=some false):IsC K C:=⟨i1,i2,i3,i4,i5,i6,i7,i8,i9⟩
def DefIsD (K:PySem.W.Frag)(x:Str)(st:Stmt):Prop:=∃f fd T tk,PySem.W.nsIn K mainGlobals x=some (some (.ref f))∧FunD K x x st f fd T #[.int 300 tk]
theorem def_mkD {K:PySem.W.Frag}{x:Str}{st:Stmt}{f T:Addr}{oc oc':Value}{od an od':Option Addr}{osl osl':Array (Option Value)}{kV doc pm cdv ct:Value}{tk:Tok}{n:Nat}(a:PySem.W.nsIn K mainGlobals x=some (some (.ref f)))
  (l:K.lookup f=some ⟨oc,od, .func (PySem.W.fnOf x x (defArgs st) (defBody st) (defScope st) (.ref T) kV doc pm an cdv ct),osl⟩) (c:PySem.W.codeIn K cdv x=true) (k:PySem.W.keepIn K (.ref f)=true) (t:K.lookup T=some ⟨oc',od', .seq #[.int 300 tk] n,osl'⟩):DefIsD K x st:=⟨f,_,T,tk,a,⟨⟨oc,od,kV,doc,pm,an,cdv,ct,osl,rfl,l,c⟩,k,⟨oc',od',n,osl',t⟩⟩⟩
theorem ref_inj {K:PySem.W.Frag}{x:Str}{a b:Addr}(h:PySem.W.nsIn K mainGlobals x=some (some (.ref a)))(q:PySem.W.nsIn K mainGlobals x=some (some (.ref b))):a=b:=by
 rw[h]at q;injection q with z;injection z with z;injection z
theorem forms_ok {K:PySem.W.Frag}{w:World}{aw ab dr t0 t1 t2 t3 t4 t5 t6 t7 t8 t9 t10 t11 eU eC eN:Addr}(Z:FmIs K w dr t0 t1 t2 t3 t4 t5 t6 t7 t8 t9 t10 t11 eU eC eN):FormsOk K [("fun", .ref t0),("call", .ref t1),("let", .ref t2),("ring", .ref t3),("case", .ref t4),("make", .ref t5),("pick", .ref t6),("plus", .ref t7),("minus", .ref t8),("times", .ref t9),("less", .ref t10),("if", .ref t11)] ⟨aw,eU,eC,ab,eN⟩:=⟨⟨t0,by first|rfl|(with_unfolding_all rfl)|kernel_rfl,Z.q0⟩,⟨t1,by first|rfl|(with_unfolding_all rfl)|kernel_rfl,Z.q1⟩,fun k hk=>by
 rcases n4 (Nat.lt_succ_of_le hk) with rfl|rfl|rfl|rfl
 ·exact⟨t7,by first|rfl|(with_unfolding_all rfl)|kernel_rfl,Z.q7⟩
 ·exact⟨t8,by first|rfl|(with_unfolding_all rfl)|kernel_rfl,Z.q8⟩
 ·exact⟨t9,by first|rfl|(with_unfolding_all rfl)|kernel_rfl,Z.q9⟩
 ·exact⟨t10,by first|rfl|(with_unfolding_all rfl)|kernel_rfl,Z.q10⟩⟩
theorem us0 {C:List Value→Prop}(us:List Value)(h:us.length=0)(k:C []):C us:=List.eq_nil_of_length_eq_zero h ▸ k
theorem uss {n:Nat}{C:List Value→Prop}(us:List Value)(h:us.length=n+1)(k:∀a r,r.length=n→C (a::r)):C us:=by
 cases us with
 |nil=>exact absurd h.symm (Nat.succ_ne_zero n)
 |cons a r=>exact k a r (Nat.succ.inj h)
@[elab_as_elim] theorem us1 {C:List Value→Prop} (us:List Value) (h:us.length=1) (k:∀a0,C [a0]):C us:=uss us h fun a r h=>us0 (C:=fun r=>C (a::r)) r h (k a)
@[elab_as_elim] theorem us2 {C:List Value→Prop} (us:List Value) (h:us.length=2) (k:∀a0 a1,C [a0,a1]):C us:=uss us h fun a r h=>us1 (C:=fun r=>C (a::r)) r h (k a)
@[elab_as_elim] theorem us3 {C:List Value→Prop} (us:List Value) (h:us.length=3) (k:∀a0 a1 a2,C [a0,a1,a2]):C us:=uss us h fun a r h=>us2 (C:=fun r=>C (a::r)) r h (k a)
@[elab_as_elim] theorem us4 {C:List Value→Prop} (us:List Value) (h:us.length=4) (k:∀a0 a1 a2 a3,C [a0,a1,a2,a3]):C us:=uss us h fun a r h=>us3 (C:=fun r=>C (a::r)) r h (k a)
@[elab_as_elim] theorem us5 {C:List Value→Prop} (us:List Value) (h:us.length=5) (k:∀a0 a1 a2 a3 a4,C [a0,a1,a2,a3,a4]):C us:=uss us h fun a r h=>us4 (C:=fun r=>C (a::r)) r h (k a)
def AllOk (l:PySem.W.OpenLaw)(w:World)(K:PySem.W.Frag)(mg:Str→Option Value)(fa:Addr):Prop:=∃fd:FuncData,(∀(s:Shared) (v:Value),BindsTo s fd ⟨[v],[]⟩ [("_law_script",v)])∧∀base:Heap,K.In base→base.Ns mainGlobals mg→FnOk l.prog w K mg base CX0 118 fa fd ["_law_script"] (spLaw K)
set_option maxHeartbeats 2000000 in
theorem all_mk {l:PySem.W.OpenLaw}{w:World}{K:PySem.W.Frag}{h:Heap}{mg:Str→Option Value}{fa W C F CT CX CS CL CD TG:Addr}(X:K.In h)(G:h.Ns mainGlobals mg)(hfa:mg "law"=some (.ref fa))
  (z_len:PySem.W.nsIn K mainGlobals "len"=some none)
  (z_all:PySem.W.nsIn K mainGlobals "all"=some none)
  (z_isinstance:PySem.W.nsIn K mainGlobals "isinstance"=some none)
  (z_tuple:PySem.W.nsIn K mainGlobals "tuple"=some none)
  (z_list:PySem.W.nsIn K mainGlobals "list"=some none)
  (z_reversed:PySem.W.nsIn K mainGlobals "reversed"=some none)
  (z_range:PySem.W.nsIn K mainGlobals "range"=some none)
  (z_int:PySem.W.nsIn K mainGlobals "int"=some none)
  (z_bool:PySem.W.nsIn K mainGlobals "bool"=some none)
  (z_abs:PySem.W.nsIn K mainGlobals "abs"=some none)
  (z_max:PySem.W.nsIn K mainGlobals "max"=some none)
  (z_str:PySem.W.nsIn K mainGlobals "str"=some none)
  (z_dict:PySem.W.nsIn K mainGlobals "dict"=some none)
  (z_zip:PySem.W.nsIn K mainGlobals "zip"=some none)
  (z_sum:PySem.W.nsIn K mainGlobals "sum"=some none)
  (z_min:PySem.W.nsIn K mainGlobals "min"=some none)
  (aW:PySem.W.nsIn K mainGlobals "Worker"=some (some (.ref W))) (cW:Cls K W) (mkW:PySem.W.makesIn K W=true) (kcW:PySem.W.keepIn K (.ref W)=true) (nW0:NoAttr K W "calls") (nW1:NoAttr K W "pile") (nW2:NoAttr K W "steps") (nW3:NoAttr K W "record_places") (nW4:NoAttr K W "part_vals")
  (mW0:MethIs K W "__init__" "Worker.__init__" s_work0)
  (mW1:MethIs K W "then" "Worker.then" s_then)
  (aC:PySem.W.nsIn K mainGlobals "Calls"=some (some (.ref C))) (cC:Cls K C) (mkC:PySem.W.makesIn K C=true) (kcC:PySem.W.keepIn K (.ref C)=true) (nC0:NoAttr K C "most") (nC1:NoAttr K C "begun") (nC2:NoAttr K C "under_way")
  (mC0:MethIs K C "__init__" "Calls.__init__" s_calls)
  (mC1:MethIs K C "begin" "Calls.begin" s_begin)
  (mC2:MethIs K C "come_back" "Calls.come_back" s_cmb)
  (aF:PySem.W.nsIn K mainGlobals "Function"=some (some (.ref F))) (cF:Cls K F) (mkF:PySem.W.makesIn K F=true) (kcF:PySem.W.keepIn K (.ref F)=true) (nF0:NoAttr K F "word") (nF1:NoAttr K F "phrase") (nF2:NoAttr K F "names")
  (mF0:MethIs K F "__init__" "Function.__init__" s_fun0)
  (aS:PySem.W.nsIn K mainGlobals "Stuck"=some (some (.ref CS)))
  (aT:PySem.W.nsIn K mainGlobals "TooGreat"=some (some (.ref CT)))
  (aL:PySem.W.nsIn K mainGlobals "TooLong"=some (some (.ref CL)))
  (aD:PySem.W.nsIn K mainGlobals "TooDeep"=some (some (.ref CD)))
  (aX:PySem.W.nsIn K mainGlobals "FaceError"=some (some (.ref CX)))
  (aG:PySem.W.nsIn K mainGlobals "TAG_FORM"=some (some (.ref TG)))
  (kSS:PySem.W.kitOne K (.ref CS) (.ref CS)=some true)
  (kTS:PySem.W.kitOne K (.ref CS) (.ref CT)=some false)
  (kLS:PySem.W.kitOne K (.ref CS) (.ref CL)=some false)
  (kDS:PySem.W.kitOne K (.ref CS) (.ref CD)=some false)
  (xcS:ExcCls K CS)
  (xiS:ExcIs K "Stuck" CS CX)
  (kST:PySem.W.kitOne K (.ref CT) (.ref CS)=some false)
  (kTT:PySem.W.kitOne K (.ref CT) (.ref CT)=some true)
  (kLT:PySem.W.kitOne K (.ref CT) (.ref CL)=some false)
  (kDT:PySem.W.kitOne K (.ref CT) (.ref CD)=some false)
  (xcT:ExcCls K CT)
  (xiT:ExcIs K "TooGreat" CT CX)
  (kSL:PySem.W.kitOne K (.ref CL) (.ref CS)=some false)
  (kTL:PySem.W.kitOne K (.ref CL) (.ref CT)=some false)
  (kLL:PySem.W.kitOne K (.ref CL) (.ref CL)=some true)
  (kDL:PySem.W.kitOne K (.ref CL) (.ref CD)=some false)
  (xcL:ExcCls K CL)
  (xiL:ExcIs K "TooLong" CL CX)
  (kSD:PySem.W.kitOne K (.ref CD) (.ref CS)=some false)
  (kTD:PySem.W.kitOne K (.ref CD) (.ref CT)=some false)
  (kLD:PySem.W.kitOne K (.ref CD) (.ref CL)=some false)
  (kDD:PySem.W.kitOne K (.ref CD) (.ref CD)=some true)
  (xcD:ExcCls K CD)
  (xiD:ExcIs K "TooDeep" CD CX)
  (v1:∃t,PySem.W.nsIn K mainGlobals "SMALL_LETTERS"=some (some (.str smallS t)))
  (v2:∃t,PySem.W.nsIn K mainGlobals "GREAT_LETTERS"=some (some (.str greatS t)))
  (v4:∃t,PySem.W.nsIn K mainGlobals "MOST_LETTERS"=some (some (.int 8 t)))
  (v5:∃a,PySem.W.nsIn K mainGlobals "KEPT"=some (some (.ref a))∧∀H,SqT K H a (keptL.map V.str))
  (vM:∃t,PySem.W.nsIn K mainGlobals "MOST_UNDER_WAY"=some (some (.int 10 t)))
  (nCF:C≠F)
  (nCW:C≠W)
  (ic:IsC K F)
  (hRk:∃dr y0 y1 y2 y3,RkIs K w dr y0 y1 y2 y3)
  (hFm:∃dr t0 t1 t2 t3 t4 t5 t6 t7 t8 t9 t10 t11 eU eC eN,FmIs K w dr t0 t1 t2 t3 t4 t5 t6 t7 t8 t9 t10 t11 eU eC eN)
  (d1:DefIs K "headed" s_headed)
  (d2:DefIs K "items_of" s_items)
  (d3:DefIs K "body_of" s_body)
  (d4:DefIs K "named" s_named)
  (d6:DefIs K "made_parts" s_mp)
  (d7:DefIs K "field_places" s_fp)
  (d19:DefIs K "all_of" s_all_of)
  (d20:DefIs K "is_small" s_is_small)
  (d21:DefIs K "is_name" s_is_name)
  (d22:DefIs K "is_great" s_is_great)
  (d23:DefIs K "is_path" s_is_path)
  (d24:DefIs K "is_whole" s_whole)
  (d26:DefIs K "with_names" s_wn)
  (d29:DefIs K "sum_of" (s_rk 0))
  (d30:DefIs K "difference_of" (s_rk 1))
  (d31:DefIs K "product_of" (s_rk 2))
  (d32:DefIs K "is_less" (s_rk 3))
  (d34:DefIs K "number_of" s_num)
  (d35:DefIs K "reckoned" s_reck)
  (d36:DefIs K "taken_off" s_taken)
  (d42:DefIs K "steps_of" s_st)
  (d43:DefIs K "end_fun" s_endu)
  (d44:DefIs K "come_back" s_cb)
  (d45:DefIs K "begin_call" s_bc)
  (d46:DefIs K "end_call" s_endc)
  (d52:DefIs K "end_numbers" s_endn)
  (d57:DefIs K "value_of_path" s_vp)
  (d58:DefIs K "work_on_word" s_ww)
  (d59:DefIs K "work_on" s_wo)
  (d60:DefIs K "go_on" s_go)
  (d61:DefIs K "worked_out" s_wko)
  (d63:DefIs K "vals_of" s_vo)
  (d64:DefIs K "work_out_parts" s_wp)
  (d65:DefIsD K "run" s_run)
  (d67:DefIs K "_law_next" s_next)
  (d68:DefIs K "_law_drawn" s_drawn)
  (d69:DefIs K "_law_names" s_names)
  (d70:DefIs K "_law_greats" s_greats)
  (d71:DefIs K "_law_world" s_world)
  (d72:DefIs K "_law_fault" s_fault)
  (d73:DefIs K "_law_called" s_cal)
  (d74:DefIs K "_law_reckoned" s_rck)
  (d77:DefIs K "_law_value" s_val)
  (d78:DefIs K "_law_vals" s_vals)
  (d79:DefIs K "_law_ran" s_ran)
  (d80:DefIs K "_law_told" s_told)
  (d81:DefIs K "_law_right" s_right)
  (d82:DefIs K "_law_within" s_wth)
  (d83:DefIs K "_law_behind" s_beh)
  (d84:DefIs K "_law_calls" s_cll)
  (d85:DefIs K "law" s_law):
  AllOk l w K mg fa:=by
 obtain⟨f1,g1,a1,F1⟩:=d1
 obtain⟨f2,g2,a2,F2⟩:=d2
 obtain⟨f3,g3,a3,F3⟩:=d3
 obtain⟨f4,g4,a4,F4⟩:=d4
 obtain⟨f6,g6,a6,F6⟩:=d6
 obtain⟨f7,g7,a7,F7⟩:=d7
 obtain⟨f19,g19,a19,F19⟩:=d19
 obtain⟨f20,g20,a20,F20⟩:=d20
 obtain⟨f21,g21,a21,F21⟩:=d21
 obtain⟨f22,g22,a22,F22⟩:=d22
 obtain⟨f23,g23,a23,F23⟩:=d23
 obtain⟨f24,g24,a24,F24⟩:=d24
 obtain⟨f26,g26,a26,F26⟩:=d26
 obtain⟨f29,g29,a29,F29⟩:=d29
 obtain⟨f30,g30,a30,F30⟩:=d30
 obtain⟨f31,g31,a31,F31⟩:=d31
 obtain⟨f32,g32,a32,F32⟩:=d32
 obtain⟨f34,g34,a34,F34⟩:=d34
 obtain⟨f35,g35,a35,F35⟩:=d35
 obtain⟨f36,g36,a36,F36⟩:=d36
 obtain⟨f42,g42,a42,F42⟩:=d42
 obtain⟨f43,g43,a43,F43⟩:=d43
 obtain⟨f44,g44,a44,F44⟩:=d44
 obtain⟨f45,g45,a45,F45⟩:=d45
 obtain⟨f46,g46,a46,F46⟩:=d46
 obtain⟨f52,g52,a52,F52⟩:=d52
 obtain⟨f57,g57,a57,F57⟩:=d57
 obtain⟨f58,g58,a58,F58⟩:=d58
 obtain⟨f59,g59,a59,F59⟩:=d59
 obtain⟨f60,g60,a60,F60⟩:=d60
 obtain⟨f61,g61,a61,F61⟩:=d61
 obtain⟨f63,g63,a63,F63⟩:=d63
 obtain⟨f64,g64,a64,F64⟩:=d64
 obtain⟨f65,g65,T65,its65,a65,F65⟩:=d65
 obtain⟨f67,g67,a67,F67⟩:=d67
 obtain⟨f68,g68,a68,F68⟩:=d68
 obtain⟨f69,g69,a69,F69⟩:=d69
 obtain⟨f70,g70,a70,F70⟩:=d70
 obtain⟨f71,g71,a71,F71⟩:=d71
 obtain⟨f72,g72,a72,F72⟩:=d72
 obtain⟨f73,g73,a73,F73⟩:=d73
 obtain⟨f74,g74,a74,F74⟩:=d74
 obtain⟨f77,g77,a77,F77⟩:=d77
 obtain⟨f78,g78,a78,F78⟩:=d78
 obtain⟨f79,g79,a79,F79⟩:=d79
 obtain⟨f80,g80,a80,F80⟩:=d80
 obtain⟨f81,g81,a81,F81⟩:=d81
 obtain⟨f82,g82,a82,F82⟩:=d82
 obtain⟨f83,g83,a83,F83⟩:=d83
 obtain⟨f84,g84,a84,F84⟩:=d84
 obtain⟨f85,g85,a85,F85⟩:=d85
 have e:=hfa.symm.trans (PySem.W.mg_of X G a85)
 cases e
 refine⟨g85,law_binds F85 fun _ _ _ _ _ _ _ _=>.of_eq rfl,fun base XB GB=>?_⟩
 have m_len:=PySem.W.mg_none_of X G z_len
 have m_all:=PySem.W.mg_none_of X G z_all
 have m_isinstance:=PySem.W.mg_none_of X G z_isinstance
 have m_tuple:=PySem.W.mg_none_of X G z_tuple
 have m_list:=PySem.W.mg_none_of X G z_list
 have m_reversed:=PySem.W.mg_none_of X G z_reversed
 have m_range:=PySem.W.mg_none_of X G z_range
 have m_int:=PySem.W.mg_none_of X G z_int
 have m_bool:=PySem.W.mg_none_of X G z_bool
 have m_abs:=PySem.W.mg_none_of X G z_abs
 have m_max:=PySem.W.mg_none_of X G z_max
 have m_str:=PySem.W.mg_none_of X G z_str
 have m_dict:=PySem.W.mg_none_of X G z_dict
 have m_zip:=PySem.W.mg_none_of X G z_zip
 have m_sum:=PySem.W.mg_none_of X G z_sum
 have m_min:=PySem.W.mg_none_of X G z_min
 have mgW:=PySem.W.mg_of X G aW
 obtain⟨fW0,gW0,MW0,FW0⟩:=mW0
 have bW0:=FW0.binds (ps:=["self","program","calls"]) fun _ _ _ _ _ _ us hl=>us3 us hl fun _ _ _=>rfl
 obtain⟨fW1,gW1,MW1,FW1⟩:=mW1
 have bW1:=FW1.binds (ps:=["self","steps"]) fun _ _ _ _ _ _ us hl=>us2 us hl fun _ _=>rfl
 have mgC:=PySem.W.mg_of X G aC
 obtain⟨fC0,gC0,MC0,FC0⟩:=mC0
 have bC0:=FC0.binds (ps:=["self","most"]) fun _ _ _ _ _ _ us hl=>us2 us hl fun _ _=>rfl
 obtain⟨fC1,gC1,MC1,FC1⟩:=mC1
 have bC1:=FC1.binds (ps:=["self"]) fun _ _ _ _ _ _ us hl=>us1 us hl fun _=>rfl
 obtain⟨fC2,gC2,MC2,FC2⟩:=mC2
 have bC2:=FC2.binds (ps:=["self"]) fun _ _ _ _ _ _ us hl=>us1 us hl fun _=>rfl
 have mgF:=PySem.W.mg_of X G aF
 obtain⟨fF0,gF0,MF0,FF0⟩:=mF0
 have bF0:=FF0.binds (ps:=["self","word","phrase","names"]) fun _ _ _ _ _ _ us hl=>us4 us hl fun _ _ _ _=>rfl
 have b1:=F1.binds (ps:=["thing"]) fun _ _ _ _ _ _ us hl=>us1 us hl fun _=>rfl
 have b2:=F2.binds (ps:=["items","sort"]) fun _ _ _ _ _ _ us hl=>us2 us hl fun _ _=>rfl
 have b3:=F3.binds (ps:=["declaration"]) fun _ _ _ _ _ _ us hl=>us1 us hl fun _=>rfl
 have b4:=F4.binds (ps:=["program","sort"]) fun _ _ _ _ _ _ us hl=>us2 us hl fun _ _=>rfl
 have b6:=F6.binds (ps:=["program"]) fun _ _ _ _ _ _ us hl=>us1 us hl fun _=>rfl
 have b7:=F7.binds (ps:=["program"]) fun _ _ _ _ _ _ us hl=>us1 us hl fun _=>rfl
 have b19:=F19.binds (ps:=["text","signs"]) fun _ _ _ _ _ _ us hl=>us2 us hl fun _ _=>rfl
 have b20:=F20.binds (ps:=["thing"]) fun _ _ _ _ _ _ us hl=>us1 us hl fun _=>rfl
 have b21:=F21.binds (ps:=["thing"]) fun _ _ _ _ _ _ us hl=>us1 us hl fun _=>rfl
 have b22:=F22.binds (ps:=["thing"]) fun _ _ _ _ _ _ us hl=>us1 us hl fun _=>rfl
 have b23:=F23.binds (ps:=["thing"]) fun _ _ _ _ _ _ us hl=>us1 us hl fun _=>rfl
 have b24:=F24.binds (ps:=["thing"]) fun _ _ _ _ _ _ us hl=>us1 us hl fun _=>rfl
 have b26:=F26.binds (ps:=["names","words","schemes"]) fun _ _ _ _ _ _ us hl=>us3 us hl fun _ _ _=>rfl
 have b29:=F29.binds (ps:=["one","other"]) fun _ _ _ _ _ _ us hl=>us2 us hl fun _ _=>rfl
 have b30:=F30.binds (ps:=["one","other"]) fun _ _ _ _ _ _ us hl=>us2 us hl fun _ _=>rfl
 have b31:=F31.binds (ps:=["one","other"]) fun _ _ _ _ _ _ us hl=>us2 us hl fun _ _=>rfl
 have b32:=F32.binds (ps:=["one","other"]) fun _ _ _ _ _ _ us hl=>us2 us hl fun _ _=>rfl
 have b34:=F34.binds (ps:=["value"]) fun _ _ _ _ _ _ us hl=>us1 us hl fun _=>rfl
 have b35:=F35.binds (ps:=["word","one","other"]) fun _ _ _ _ _ _ us hl=>us3 us hl fun _ _ _=>rfl
 have b36:=F36.binds (ps:=["pile","count"]) fun _ _ _ _ _ _ us hl=>us2 us hl fun _ _=>rfl
 have b42:=F42.binds (ps:=["phrases","names"]) fun _ _ _ _ _ _ us hl=>us2 us hl fun _ _=>rfl
 have b43:=F43.binds (ps:=["worker","phrase","names"]) fun _ _ _ _ _ _ us hl=>us3 us hl fun _ _ _=>rfl
 have b44:=F44.binds (ps:=["worker","phrase","names"]) fun _ _ _ _ _ _ us hl=>us3 us hl fun _ _ _=>rfl
 have b45:=F45.binds (ps:=["worker","function","argument"]) fun _ _ _ _ _ _ us hl=>us3 us hl fun _ _ _=>rfl
 have b46:=F46.binds (ps:=["worker","phrase","names"]) fun _ _ _ _ _ _ us hl=>us3 us hl fun _ _ _=>rfl
 have b52:=F52.binds (ps:=["worker","phrase","names"]) fun _ _ _ _ _ _ us hl=>us3 us hl fun _ _ _=>rfl
 have b57:=F57.binds (ps:=["worker","path","names"]) fun _ _ _ _ _ _ us hl=>us3 us hl fun _ _ _=>rfl
 have b58:=F58.binds (ps:=["worker","word","names"]) fun _ _ _ _ _ _ us hl=>us3 us hl fun _ _ _=>rfl
 have b59:=F59.binds (ps:=["worker","phrase","names"]) fun _ _ _ _ _ _ us hl=>us3 us hl fun _ _ _=>rfl
 have b60:=F60.binds (ps:=["worker"]) fun _ _ _ _ _ _ us hl=>us1 us hl fun _=>rfl
 have b61:=F61.binds (ps:=["worker","phrase","names"]) fun _ _ _ _ _ _ us hl=>us3 us hl fun _ _ _=>rfl
 have b63:=F63.binds (ps:=["worker","body","names"]) fun _ _ _ _ _ _ us hl=>us3 us hl fun _ _ _=>rfl
 have b64:=F64.binds (ps:=["worker","parts"]) fun _ _ _ _ _ _ us hl=>us2 us hl fun _ _=>rfl
 have b65:=F65.binds (ps:=["program","most"]) fun _ _ _ _ _ _ us hl=>match us,hl with|[_,_],_=>⟨_,rfl,rfl⟩
 have b67:=F67.binds (ps:=["_law_state","_law_many"]) fun _ _ _ _ _ _ us hl=>us2 us hl fun _ _=>rfl
 have b68:=F68.binds (ps:=["_law_script"]) fun _ _ _ _ _ _ us hl=>us1 us hl fun _=>rfl
 have b69:=F69.binds (ps:=["_law_state","_law_many"]) fun _ _ _ _ _ _ us hl=>us2 us hl fun _ _=>rfl
 have b70:=F70.binds (ps:=["_law_state","_law_many"]) fun _ _ _ _ _ _ us hl=>us2 us hl fun _ _=>rfl
 have b71:=F71.binds (ps:=["_law_program","_law_most"]) fun _ _ _ _ _ _ us hl=>us2 us hl fun _ _=>rfl
 have b72:=F72.binds (ps:=["_law_world_here","_law_word"]) fun _ _ _ _ _ _ us hl=>us2 us hl fun _ _=>rfl
 have b73:=F73.binds (ps:=["_law_world_here","_law_function","_law_thing"]) fun _ _ _ _ _ _ us hl=>us3 us hl fun _ _ _=>rfl
 have b74:=F74.binds (ps:=["_law_world_here","_law_word","_law_one","_law_other"]) fun _ _ _ _ _ _ us hl=>us4 us hl fun _ _ _ _=>rfl
 have b77:=F77.binds (ps:=["_law_world_here","_law_phrase","_law_names_here"]) fun _ _ _ _ _ _ us hl=>us3 us hl fun _ _ _=>rfl
 have b78:=F78.binds (ps:=["_law_world_here","_law_body","_law_paths"]) fun _ _ _ _ _ _ us hl=>us3 us hl fun _ _ _=>rfl
 have b79:=F79.binds (ps:=["_law_program","_law_most"]) fun _ _ _ _ _ _ us hl=>us2 us hl fun _ _=>rfl
 have b80:=F80.binds (ps:=["_law_program","_law_most"]) fun _ _ _ _ _ _ us hl=>us2 us hl fun _ _=>rfl
 have b81:=F81.binds (ps:=["_law_program","_law_most"]) fun _ _ _ _ _ _ us hl=>us2 us hl fun _ _=>rfl
 have b82:=F82.binds (ps:=["_law_name","_law_many","_law_phrase"]) fun _ _ _ _ _ _ us hl=>us3 us hl fun _ _ _=>rfl
 have b83:=F83.binds (ps:=["_law_name","_law_many","_law_phrase"]) fun _ _ _ _ _ _ us hl=>us3 us hl fun _ _ _=>rfl
 have b84:=F84.binds (ps:=["_law_state","_law_pool","_law_known"]) fun _ _ _ _ _ _ us hl=>us3 us hl fun _ _ _=>rfl
 obtain⟨dk,y0,y1,y2,y3,R⟩:=hRk
 obtain⟨df,t0,t1,t2,t3,t4,t5,t6,t7,t8,t9,t10,t11,eU,eC,eN,Z⟩:=hFm
 obtain rfl:=ref_inj a29 R.n0
 obtain rfl:=ref_inj a30 R.n1
 obtain rfl:=ref_inj a31 R.n2
 obtain rfl:=ref_inj a32 R.n3
 obtain rfl:=ref_inj a43 Z.n0
 obtain rfl:=ref_inj a46 Z.n1
 obtain rfl:=ref_inj a52 Z.n2
 have mS:=(PySem.W.mg_of X G aS)
 have mT:=(PySem.W.mg_of X G aT)
 have mL:=(PySem.W.mg_of X G aL)
 have mD:=(PySem.W.mg_of X G aD)
 have mX:=(PySem.W.mg_of X G aX)
 obtain⟨OS,COS⟩:=xiS base mg XB mS
 obtain⟨OT,COT⟩:=xiT base mg XB mT
 obtain⟨OL,COL⟩:=xiL base mg XB mL
 obtain⟨OD,COD⟩:=xiD base mg XB mD
 obtain⟨tkM,vM⟩:=vM
 obtain⟨tk1,v1⟩:=v1
 obtain⟨tk2,v2⟩:=v2
 obtain⟨tk4,v4⟩:=v4
 obtain⟨ka,v5,v5q⟩:=v5
 have GB:Gb K mg:=⟨m_len,m_all,m_isinstance,m_str,m_tuple,m_list,m_range,⟨_,(PySem.W.mg_of X G v1)⟩,⟨_,(PySem.W.mg_of X G v2)⟩,⟨_,(PySem.W.mg_of X G v4)⟩,⟨_,(PySem.W.mg_of X G v5),v5q⟩⟩
 have Tx:TxW K W:=⟨cW,nW0,nW1,nW2,nW3,nW4⟩
 have Tc:TxC K C:=⟨cC,nC0,nC1,nC2⟩
 have Tf:TxF K F:=⟨cF,nF0,nF1,nF2⟩
 have ZT:ClsT K mg ⟨W,C,F,CS,CT,CL,CD⟩ CX:=⟨mS,mT,mL,mD,mX,m_isinstance,m_int,m_sum,fun o=>match o with|.stuck=>xcS|.great=>xcT|.long=>xcL|.deep=>xcD,fun o o2=>match o,o2 with|.stuck, .stuck=>kSS|.stuck, .great=>kTS|.stuck, .long=>kLS|.stuck, .deep=>kDS|.great, .stuck=>kST|.great, .great=>kTT|.great, .long=>kLT|.great, .deep=>kDT|.long, .stuck=>kSL|.long, .great=>kTL|.long, .long=>kLL|.long, .deep=>kDL|.deep, .stuck=>kSD|.deep, .great=>kTD|.deep, .long=>kLD|.deep, .deep=>kDD⟩
 have H1:Has l.prog w K mg base 1 "headed" ["thing"] spHeaded:=⟨f1,g1,ok_headed F1 m_isinstance m_tuple,b1,F1.kp,PySem.W.mg_of X G a1⟩
 have H4:Has l.prog w K mg base 1 "named" ["program","sort"] spNamed:=⟨f4,g4,ok_named F4 m_dict,b4,F4.kp,PySem.W.mg_of X G a4⟩
 have H2:Has l.prog w K mg base 1 "items_of" ["items","sort"] spItems:=⟨f2,g2,ok_items F2,b2,F2.kp,PySem.W.mg_of X G a2⟩
 have H3:Has l.prog w K mg base 1 "body_of" ["declaration"] spBody:=⟨f3,g3,ok_body F3,b3,F3.kp,PySem.W.mg_of X G a3⟩
 have H6:Has l.prog w K mg base 2 "made_parts" ["program"] spMP:=⟨f6,g6,ok_mp F6 H4 H3,b6,F6.kp,PySem.W.mg_of X G a6⟩
 have H7:Has l.prog w K mg base 2 "field_places" ["program"] spFP:=⟨f7,g7,ok_fp F7 H4,b7,F7.kp,PySem.W.mg_of X G a7⟩
 have H19:Has l.prog w K mg base 1 "all_of" ["text","signs"] spAllOf:=⟨f19,g19,ok_all_of F19 GB,b19,F19.kp,PySem.W.mg_of X G a19⟩
 have H20:Has l.prog w K mg base 2 "is_small" ["thing"] (spT (onStr smallB)):=⟨f20,g20,ok_is_small F20 GB H19,b20,F20.kp,PySem.W.mg_of X G a20⟩
 have H21:Has l.prog w K mg base 3 "is_name" ["thing"] (spT (onStr nameB)):=⟨f21,g21,ok_is_name F21 GB H20,b21,F21.kp,PySem.W.mg_of X G a21⟩
 have H22:Has l.prog w K mg base 2 "is_great" ["thing"] (spT (onStr greatB)):=⟨f22,g22,ok_is_great F22 GB H19,b22,F22.kp,PySem.W.mg_of X G a22⟩
 have H23:Has l.prog w K mg base 4 "is_path" ["thing"] (spT (onStr pathB)):=⟨f23,g23,ok_is_path F23 GB H21 H22,b23,F23.kp,PySem.W.mg_of X G a23⟩
 have H24:Has l.prog w K mg base 1 "is_whole" ["thing"] (spWhole F):=⟨f24,g24,ok_whole F24 ic cF m_isinstance m_int m_bool,b24,F24.kp,PySem.W.mg_of X G a24⟩
 have H26:Has l.prog w K mg base 1 "with_names" ["names","words","schemes"] spWN:=⟨f26,g26,ok_wn F26 m_dict m_zip,b26,F26.kp,PySem.W.mg_of X G a26⟩
 have HX34:HasX l.prog w K mg base 2 "number_of" ["value"] (spNum F CS):=⟨f34,g34,ok_num F34 OS PySem.F.excBase_ValueError H24,b34,F34.kp,(PySem.W.mg_of X G a34)⟩
 have G35:=ok_reck (P:=l.prog) (w:=w) (mg:=mg) (base:=base) (fr:=(fun n=>([f29,f30,f31,f32]:List Addr).getD n 0)) F35 OT PySem.F.excBase_ValueError m_abs (PySem.W.mg_of X G R.nm) R.dict (fun n hn=>by
  rcases n4 (Nat.lt_succ_of_le hn) with rfl|rfl|rfl|rfl
  ·exact⟨_,ok_rk0 F29,F29.kp,b29⟩
  ·exact⟨_,ok_rk1 F30,F30.kp,b30⟩
  ·exact⟨_,ok_rk2 F31,F31.kp,b31⟩
  ·exact⟨_,ok_rk3 F32,F32.kp,b32⟩) HX34
 have H36:Has l.prog w K mg base 1 "taken_off" ["pile","count"] spTaken:=⟨f36,g36,ok_taken F36 m_tuple m_reversed m_range,b36,F36.kp,PySem.W.mg_of X G a36⟩
 have H42:Has l.prog w K mg base 1 "steps_of" ["phrases","names"] (spSt f59):=⟨f42,g42,ok_st F42 (PySem.W.mg_of X G a59),b42,F42.kp,PySem.W.mg_of X G a42⟩
 have GT:=ok_then (P:=l.prog) (w:=w) (mg:=mg) (base:=base) FW1 Tx m_list m_reversed
 have GFn:=ok_fun0 (P:=l.prog) (w:=w) (mg:=mg) (base:=base) FF0 Tf
 have GBg:=ok_begin (P:=l.prog) (w:=w) (mg:=mg) (base:=base) FC1 Tc OL PySem.F.excBase_ValueError OD PySem.F.excBase_ValueError (PySem.W.mg_of X G vM)
 have GCm:=ok_cmb (P:=l.prog) (w:=w) (mg:=mg) (base:=base) FC2 Tc
 have G43:=ok_endu (P:=l.prog) (w:=w) (mg:=mg) (base:=base) F43 Tx ⟨mkF,MF0.at_,MF0.fn,kcF⟩ GFn bF0 mgF
 have G44:=ok_cb (P:=l.prog) (w:=w) (mg:=mg) (base:=base) F44 Tx Tc nCW MC2 GCm bC2
 have HX45:HasX l.prog w K mg base 2 "begin_call" ["worker","function","argument"] (spBC W C F CS CL CD f59 f44):=⟨f45,g45,ok_bc F45 Tx Tc Tf ic nCW m_isinstance mgF OS PySem.F.excBase_ValueError MC1 GBg bC1 MW1 GT bW1 H26 (PySem.W.mg_of X G a59) (PySem.W.mg_of X G a44),b45,F45.kp,(PySem.W.mg_of X G a45)⟩
 have G46:=ok_endc (P:=l.prog) (w:=w) (mg:=mg) (base:=base) (fG:=f45) (gG:=g45) F46 Tx H36 HX45
 have G52:=ok_endn (P:=l.prog) (w:=w) (mg:=mg) (base:=base) F52 Tx H36 G35 (PySem.W.mg_of X G a35) F35.kp b35
 have H57:Has l.prog w K mg base 1 "value_of_path" ["worker","path","names"] (spVP W):=⟨f57,g57,ok_vp F57 Tx,b57,F57.kp,PySem.W.mg_of X G a57⟩
 have H58:Has l.prog w K mg base 5 "work_on_word" ["worker","word","names"] (spWW W):=⟨f58,g58,ok_ww F58 Tx m_isinstance m_str H23 H57,b58,F58.kp,PySem.W.mg_of X G a58⟩
 have G59:=ok_wo (P:=l.prog) (w:=w) (mg:=mg) (base:=base) (tg:=.ref TG) F59 Tx m_isinstance m_tuple MW1 GT bW1 (PySem.W.mg_of X G Z.nm) Z.dict (PySem.W.mg_of X G aG) rfl H22 H58 H1 H42
 have G60:=ok_go (P:=l.prog) (w:=w) (mg:=mg) (base:=base) (C:=⟨W,C,F,CS,CT,CL,CD⟩) (A:=⟨f59,f43,f46,f44,f52⟩) F60 Tx m_len nCF (forms_ok Z) (fun s=>by
  cases s with
  |w p e=>exact⟨6,_,by decide,G59,F59.kp,b59⟩
  |fE x b e=>exact⟨3,_,by decide,G43,F43.kp,b43⟩
  |c=>exact⟨3,_,by decide,G46,F46.kp,b46⟩
  |bk=>exact⟨2,_,by decide,G44,F44.kp,b44⟩
  |n k=>exact⟨4,_,by decide,G52,F52.kp,b52⟩)
 have G61:=ok_wko (P:=l.prog) (w:=w) (mg:=mg) (base:=base) (C:=⟨W,C,F,CS,CT,CL,CD⟩) (A:=⟨f59,f43,f46,f44,f52⟩) F61 Tx nCF MW1 GT bW1 H42 G60 (PySem.W.mg_of X G a60) F60.kp b60
 have G63:=ok_vo (P:=l.prog) (w:=w) (mg:=mg) (base:=base) (C:=⟨W,C,F,CS,CT,CL,CD⟩) F63 nCF H2 H26 G61 (PySem.W.mg_of X G a61) F61.kp b61
 have G64:=ok_wp (P:=l.prog) (w:=w) (mg:=mg) (base:=base) (C:=⟨W,C,F,CS,CT,CL,CD⟩) F64 Tx nCF G63 (PySem.W.mg_of X G a63) F63.kp b63
 have GI:=ok_work0 (P:=l.prog) (w:=w) (mg:=mg) (base:=base) FW0 Tx H7
 have GC:=ok_calls (P:=l.prog) (w:=w) (mg:=mg) (base:=base) FC0 Tc
 have G65:=ok_run (P:=l.prog) (w:=w) (mg:=mg) (base:=base) (C:=⟨W,C,F,CS,CT,CL,CD⟩) F65 Tx nCF ⟨mkW,MW0.at_,MW0.fn,kcW⟩ GI bW0 mgW ⟨mkC,MC0.at_,MC0.fn,kcC⟩ GC bC0 mgC G64 (PySem.W.mg_of X G a64) F64.kp b64 H6 HX34 G61 (PySem.W.mg_of X G a61) F61.kp b61
 have H67:Has l.prog w K mg base 1 "_law_next" ["_law_state","_law_many"] spNext:=⟨f67,g67,ok_next F67 m_len,b67,F67.kp,PySem.W.mg_of X G a67⟩
 have H68:Has l.prog w K mg base 1 "_law_drawn" ["_law_script"] (spDrawn K):=⟨f68,g68,ok_drawn F68 m_len,b68,F68.kp,PySem.W.mg_of X G a68⟩
 have H69:Has l.prog w K mg base 2 "_law_names" ["_law_state","_law_many"] spNames:=⟨f69,g69,ok_names F69 m_range H67,b69,F69.kp,PySem.W.mg_of X G a69⟩
 have H70:Has l.prog w K mg base 2 "_law_greats" ["_law_state","_law_many"] spGreats:=⟨f70,g70,ok_greats F70 m_range H67,b70,F70.kp,PySem.W.mg_of X G a70⟩
 have H71:Has l.prog w K mg base 1 "_law_world" ["_law_program","_law_most"] spWorld:=⟨f71,g71,ok_world F71 m_max,b71,F71.kp,PySem.W.mg_of X G a71⟩
 have H72:Has l.prog w K mg base 1 "_law_fault" ["_law_world_here","_law_word"] spFault:=⟨f72,g72,ok_fault F72,b72,F72.kp,PySem.W.mg_of X G a72⟩
 have H74:Has l.prog w K mg base 2 "_law_reckoned" ["_law_world_here","_law_word","_law_one","_law_other"] spRck:=⟨f74,g74,ok_rck F74 m_isinstance m_int m_abs H72,b74,F74.kp,PySem.W.mg_of X G a74⟩
 have H77:Has l.prog w K mg base 114 "_law_value" ["_law_world_here","_law_phrase","_law_names_here"] (spVal MF):=⟨f77,g77,val_all F77 b77 (PySem.W.mg_of X G a77) F73 b73 (PySem.W.mg_of X G a73) m_dict m_isinstance m_int m_str m_list H72 H74 MF,b77,F77.kp,PySem.W.mg_of X G a77⟩
 have H78:Has l.prog w K mg base 115 "_law_vals" ["_law_world_here","_law_body","_law_paths"] (spVals MF):=⟨f78,g78,ok_vals F78 m_dict H77,b78,F78.kp,PySem.W.mg_of X G a78⟩
 have H79:Has l.prog w K mg base 116 "_law_ran" ["_law_program","_law_most"] (spRan MF):=⟨f79,g79,ok_ran F79 m_dict m_isinstance m_int H71 H72 H78 H77,b79,F79.kp,PySem.W.mg_of X G a79⟩
 have H80:Has l.prog w K mg base 12 "_law_told" ["_law_program","_law_most"] spTold:=⟨f80,g80,ok_told F80 ZT (fun o=>match o with|.stuck=>COS|.great=>COT|.long=>COL|.deep=>COD) G65 (PySem.W.mg_of X G a65) F65.kp b65,b80,F80.kp,PySem.W.mg_of X G a80⟩
 have H81:Has l.prog w K mg base 117 "_law_right" ["_law_program","_law_most"] (spRight MF):=⟨f81,g81,ok_right (M:=MF) (k:=104) (show MF≤10000 by decide) F81 m_isinstance m_int m_bool H79 H80,b81,F81.kp,PySem.W.mg_of X G a81⟩
 have H82:Has l.prog w K mg base 1 "_law_within" ["_law_name","_law_many","_law_phrase"] (spWth wthP):=⟨f82,g82,ok_wth F82 m_range,b82,F82.kp,PySem.W.mg_of X G a82⟩
 have H83:Has l.prog w K mg base 1 "_law_behind" ["_law_name","_law_many","_law_phrase"] (spWth behP):=⟨f83,g83,ok_beh F83 m_range,b83,F83.kp,PySem.W.mg_of X G a83⟩
 have H84:Has l.prog w K mg base 3 "_law_calls" ["_law_state","_law_pool","_law_known"] spCll:=⟨f84,g84,ok_cll F84 m_len m_range m_min H67 H82 H83,b84,F84.kp,PySem.W.mg_of X G a84⟩
 exact ok_law F85 m_range m_tuple H68 H69 H70 H67 H84 H81 H79
theorem walk {l:PySem.W.OpenLaw}{q:Program}{loose:List Str}{XP:(Str→Option Value)→Heap→Prop}{YP:World→Heap→Prop}{d:DefRec}{K:Params→PySem.W.Frag}(hn:l.most=some 63)(hdf:d.params.defaults=[])
  (hY:∀(w:World) (h:Heap),YP w h→(K w.params).In h)
  (F:∀(w:World) (mg:Str→Option Value) (fa:Addr) (h:Heap),(K w.params).In h→h.Ns mainGlobals mg→mg d.name=some (.ref fa)→
   ∃fd:FuncData,(∀(s:Shared) (u:Value),BindsTo s fd ⟨[u],[]⟩ [("_law_script",u)])∧∀base:Heap,(K w.params).In base→base.Ns mainGlobals mg→FnOk l.prog w (K w.params) mg base CX0 118 fa fd ["_law_script"] (spLaw (K w.params))):
  PySem.W.WalkO q loose XP YP l.row.toRowW d [] (fun f vs=>PySem.call f vs) :=
 L2.walk_of (n:=63) (k:=118) (x:="_law_script") (CX:=fun _=>CX0) (sp:=fun w=>spLaw (K w.params)) hn (by decide) hdf ⟨rfl,by decide,by decide⟩ hY F (fun _ _ a ns hl _ hS=>⟨a,ns,rfl,hS,hl,fun _=>rfl⟩) fun _ _ _ _ _ z=>z
end Fw
open PySem PySem.W PyProof.Rows
structure PySem.W.Fast:Prop where(tw4398777528252540596 tw2250205503183488320 tw430064138260623002 tw10065471967240478221 tw18321357501820449375 tw2660205094816600914 tw2355070524175899133 tw13396480936665748586 tw2912508757793262561 tw13560865351887985224 tw5618542190673438643 tw854458876649469422 tw11264228617668782630 tw18369753947490717823 tw277921314569749828 tw18375207681781583469 tw12300995482830171630 tw4542888658794726628 tw3811073152715290302 tw15340239365381449834 tw633370295169532213 tw7696941041090195926 tw7862775443258379991 tw8882110243930847023 tw1583351455028107175 tw10077928386100344232 tw932717070755708358 tw828438655924894148 tw130568652292686604 tw12824674795306744537 tw7248796795854329071 tw5154592355193564816 tw16310724274319893627 tw9819933291856189787 tw157272720667420524 tw15071123433080829947 tw1965217899661568266 tw5083051636525357707 tw5661215301349247228 tw11087348822168028290 tw3368109941707350776 tw15804734460845081619 tw7165985490993195071 tw1659559891891113744 tw11579287958466099731 tw4837080528730633797 tw2552829468722165743 tw15920788179674844942 tw5073833810475171627 tw17560928017702386774 tw6165450048279651067 tw14337344908675559469 tw1174642338567012351 tw2630305020373077411 tw2249052780449463447 tw16625755716300161326 tw12177438029196736751 tw432079931846491617 tw9042085122701797805 tw6140497116985492695 tw17676263623519392237 tw17662673120920716462 tw12376059155568659603 tw10402235718536705236 tw8022127243199045617 tw16691695182966310364 tw1667677140136760100 tw4647045621202364846 tw4022929122321144479 tw3065041920933342759 tw18424592654839848036 tw13263579232257484106 tw495304644028695330 tw10755725813283024782 tw9337690842548652778 tw17610459714845537568 tw1330660260878795826 tw9919604814708798570 tw9859920697367905293 tw9585393280370778430 tw8956146192322900570 tw8632949947378415607 tw8511426231298522545 tw7919978278876174238 tw7575365818093005194 tw7496116589191698042 tw6884141402442975416 tw6789086078803937685 tw6537883563837154169 tw6489156830640944893 tw6481786824175044940 tw590016612085098928 tw5668934284397955600 tw5656590796530992085 tw5543381683221656344 tw540263066121063386 tw5202514570241063306 tw4784763482508928746 tw3716488479307896474 tw3272262276928697686 tw301189460928547573 tw2891419225313072328 tw2609229617901167301 tw2598083680448905873 tw18381427925023140206 tw18177836738408139464 tw1789056808814206583 tw17816318013235429953 tw17465548840606201487 tw17225833028445961560 tw17222414776062708436 tw17024397527526689586 tw16926283791357842781 tw16830368658189077901 tw16572157157310492326 tw16500967920740355191 tw1549749423509231337 tw15125094787636905129 tw14976953770616262855 tw1477382967399666261 tw14750192904395491732 tw14518413539200019296 tw14505833212397298055 tw13488552836132212265 tw13264204592422960933 tw13137146909871487434 tw12469373427020089554 tw12464404568608789770 tw1233598615848527968 tw12321324137115246505 tw12302895515472580 tw12250629025018613887 tw11529607169397476539 tw11397182768289846804 tw10737415576413766430 tw10609755328938194097 tw10414742774716803341 tw10068779693538023092 tw10036493953406604149 tw8671018365908867650 tw495919190638228738 tw11654020607617721365 tw4134775006835647082 tw9128228476654969905 tw7580338144936707206 tw7171614669733050847 tw17583553787765217612 tw16541324967918388954 tw10732994728315248186 tw10565776923892712158 tw461667721269647673 tw2535098639611835044 tw2400946468073934487 tw15362807497643661689 tw14579586293772479320 tw12494897119805852464 tw10298876502962529339 tw8673291433840626585 tw7014365570619432168 tw17955451991304040995 tw12339601395380479100 tw7854749333270853553 tw4876799945229073747 tw2612197041412434827 tw4127272677764201201 tw4113885875365035982 tw16147118461557871553 tw14744322889002106270 tw14487461826873484423 tw13242934497710868473 tw9844597682397219839 tw8097707744420161438 tw4333932920526488085 tw8130035204130404518 tw5073679894937162079 tw2741072920550242010 tw16636318759476667890 tw16255696392534762842 tw16002426455904965524 tw15452049105832341989 tw14084943596254022001 tw12154887822949139743 tw10160030235915017032 tw6714392382262286480 tw9912373947767931689 tw9971222164538262592 tw5740645753997179431 tw2830698850751174614 tw17308711639621334599 tw11202416666865796258 tw9894739234012209625 tw11655976943514726793 tw9972809484541239605 tw9972654752761330695 tw9970785595141483284 tw976054838911016198 tw9285190177968834110 tw9198082018316633913 tw9016525545513764317 tw8941712108515502277 tw8811676180174665959 tw8771655544712061000 tw8769218006092505348 tw8636392580439555152 tw8533808668574076886 tw847125447090474314 tw8421061343856309866 tw8239238958924415539 tw812442691131641854 tw8031049322247286998 tw8021193232307000506 tw7962112021259257048 tw78147056617633612 tw7801510625248230115 tw7753804479915500632 tw7730833888387175124 tw7675779047564378613 tw7644629617557571388 tw7592809077739139797 tw7497694499020761231 tw74628373198750627 tw7402038856917217545 tw7275535418183044252 tw7245267674865454761 tw7214064252691452009 tw7093158132660036734 tw7011636307696517744 tw6974875153590370429 tw694503268212131143 tw6905382812208489332 tw6821612734580104979 tw6590633947787312369 tw651162509450293218 tw6262896542248611024 tw6218917351580057471 tw6143462795388831807 tw6070271711421444345 tw5894227952535909911 tw5842612955750467654 tw5834286828428989503 tw5772051769576963221 tw573845880999052043 tw5571481431784837961 tw550432842173627931 tw5394275791398462203 tw5226892692662183180 tw5190085825521700817 tw5139712200095912636 tw5041827399769079249 tw4953941006294806161 tw4911146203284342810 tw459828842735187170 tw459170580570853709 tw4582278420295359360 tw4425213385101162558 tw4134412769553448535 tw4012499593760991962 tw3959600638204286936 tw3926356374700593636 tw3892472534613739724 tw3743096094951431776 tw3742078425755039825 tw3637504105029041432 tw3531979642050671849 tw3449494435254004643 tw3448815788155059485 tw3356906755367931390 tw3324639011724742067 tw3240411638758243585 tw3031245764963133851 tw3007744539856770176 tw287708326439811012 tw2751942761217104992 tw2694375556453524499 tw2690292367448126120 tw2629132300232260900 tw2606965763821689066 tw257557361382942760 tw2453418767329144933 tw2311386649602780476 tw227372375477631452 tw2150040564607192931 tw2133018999155345097 tw2129808027417901229 tw2100597235072831875 tw2014794236940589537 tw1991414795071902023 tw1980732178179914015 tw18392567875093636221 tw18112246806847482758 tw18095140455786828553 tw18063972462111739370 tw17832944395219725010 tw17826786028933991138 tw17794115655701566110 tw17758131009111153274 tw17709878142598059366 tw17688667742361338559 tw17676768704894954356 tw17637852987801940638 tw17591884619552166274 tw175208505175079168 tw17461297181720603430 tw17413158753803124409 tw17307222232348364882 tw17190431585923858506 tw17120124501247490332 tw16928827014400164747 tw16893472168754310285 tw16850381361005611550 tw16775685386150851440 tw16717086123034103472 tw16690965904281074723 tw16668202232283257846 tw1659833887165607015 tw16565051567088537864 tw16314963942066053400 tw16312292663474644126 tw1627338955549101172 tw16243716681434566322 tw16131379702513375374 tw16004433322353690346 tw15961146455079810158 tw15941136042466352057 tw1578091419565643100 tw15773588242544264033 tw15673769707960946449 tw15643834773412831219 tw1563268902835076120 tw15065904890205646937 tw15009982327407721402 tw14729517048761677786 tw14545763972920787276 tw14538996810146212534 tw1450336863863757908 tw14485262690878197488 tw1447413477745027471 tw14297590737231638260 tw14283971083028363688 tw1424661273570230606 tw14233793437835966789 tw14225322243020551592 tw14222229584343476685 tw14111108055628284120 tw13908599176239787848 tw13855131013851023507 tw13765983941812479974 tw13675508924040488786 tw13641564037217218526 tw13615603867091260886 tw13570293183939283657 tw1347478000828076743 tw1338393932328778529 tw13247352589420252653 tw13221293191726145680 tw13208724846608022906 tw13125249213795917691 tw13118027827798452545 tw13016486748064978632 tw12915392720349621337 tw12896930647225192056 tw12854758781948062195 tw12852819083800783348 tw12837917355199419918 tw12730565439096522451 tw12595258497024320902 tw12491050137083598220 tw1237855627615181640 tw12378522107781807231 tw12348796465447520938 tw12296246142360525114 tw12243992811286440784 tw12217515907173741274 tw12105392623286149023 tw12098299321198998255 tw12075041715986153027 tw12040816446577270388 tw12013561010830087699 tw11690142441104826998 tw11189742395493710764 tw1114740281831293671 tw11130877857731796282 tw11081139007459598664 tw11073842079071665389 tw10981359842355291278 tw10964688758662436993 tw10934834878963301841 tw10790389697535540190 tw10742543617095674111 tw10687174051508851406 tw10638532714252166045 tw10461772541876736370 tw10432258865059674139 tw10374720194225264974 tw10315926096981686921 tw1028602960146494446 tw10263020902637961526 tw10253219832201469450 tw10184499044875841847 tw10108039353180881429 tw7073501681453770931 tw9830265279013107610 tw9689890602449449643 tw9566644890760572213 tw9400577197345598679 tw9188005291882342223 tw9060103577203152919 tw8948216772131324466 tw8896878515223067553 tw8796586607753741811 tw8628735235937793970 tw8601444561289228146 tw8484321544013785386 tw8398821001962371018 tw825843620724344996 tw82574059705208927 tw8242927565673442919 tw7844544220158131688 tw7838338975144335420 tw7810503053913492610 tw7793584369687524127 tw7529850915715966381 tw7404123686626948715 tw7300229905774600452 tw7279690739884400463 tw700975376843344861 tw6779628155276107830 tw664299673339328365 tw6479386479007542490 tw6407090498007089765 tw6390931418595021929 tw6244929946661703444 tw6137695829560019885 tw5928975975069335421 tw5872664283459876473 tw5839076767474937339 tw5433946487598061113 tw5134417465702783454 tw4949904258978792100 tw4361725201396669389 tw4332655435210549804 tw4244375879377616396 tw4196292951457710386 tw4073905842478169246 tw3833577308939559403 tw368258084137064755 tw3408883969611416160 tw3323548374785484740 tw3160443746458813104 tw3097565953608548563 tw2965836348989497409 tw2931342468127657863 tw2897038206040168272 tw2890904443350075295 tw2870567206891386616 tw2811168483438364646 tw2698623187408092921 tw2666586435817334744 tw2604398194533133011 tw2368476639589579525 tw2367481761644548074 tw234835773633392929 tw2181128407366622503 tw2124838324201976333 tw2106347562511239194 tw1989440612441459185 tw1987803845094935380 tw18440865865817402802 tw18184836687685597535 tw1813468652529090295 tw18099414227415898751 tw17788828464130844440 tw1763932703768094118 tw1732546358691343888 tw16979275116625623569 tw16901196455504717497 tw16877484915125523854 tw16817324520484025733 tw16794508297112111803 tw16775889971272811859 tw16695867439536543350 tw16653721915013435509 tw164723189150177904 tw16216738525586483621 tw15966619821726122403 tw15918781690068316423 tw15665264748343465335 tw15651003516419176183 tw15602816532953233920 tw15538879609861787999 tw15502122666174803262 tw15494868161483299947 tw15236584948355321964 tw14971614130422193610 tw14927561453590255481 tw14679674071136220068 tw14651394203306722216 tw14566131948941287442 tw14529870806399160911 tw14410581431700535993 tw14366065461385422845 tw14279970449339692850 tw14165214902160694413 tw14126261520626743722 tw14124740913060791737 tw14042173572440706404 tw14025065500490464194 tw13950373861380405395 tw1352596131837726222 tw13484604183545542703 tw13404201740412934287 tw13394049399049130847 tw13176157876269499529 tw13107685830377093047 tw1306305587015348311 tw12995777482160046468 tw12974006292001811366 tw12870270352365614678 tw12864333569728023548 tw12815516699593388157 tw12812858707792496646 tw12795649512638827426 tw12763771681300511170 tw12717397259914155982 tw12596105070657371841 tw12539452437093352202 tw12476194094566559071 tw12462511290054237124 tw12395812364792257457 tw12221868474333183206 tw12132142096325851025 tw1203111660194603536 tw11887849684190261843 tw11728618535521219272 tw11240392698632802184 tw11216894440637948322 tw11193866419989252578 tw11113524569854942069 tw10976048393684864300 tw10892086863358204087 tw1075046753123614534 tw10568362308003824344 tw10559716063648463284 tw10541911230404273616 tw10521206888702074119 tw10481045269541559927 tw10452724715642826315 tw10379462488549504842 tw10267369551034304681 tw10235154010526418474 tw10220746739015406736 tw10215667538587553202 tw1003015774091980548:True)
set_option maxRecDepth 100000 in
set_option maxHeartbeats 0 in
theorem PySem.Challenge.cw_facework_k61_calls_counted_holds : PySem.Challenge.rw_facework_k61_calls_counted.Holds := by
 w_on;o_law;k_head;(case hw=>w_witness2)
 k_fill
 refine Fw.walk (l:=PySem.Challenge.rw_facework_k61_calls_counted) rfl rfl (fun w h Y=>PySem.W.kIn_of Y) ?F
 case F=>
  intro w mg fa h KX G hmg
  refine' Fw.all_mk KX G hmg ?z_len ?z_all ?z_isinstance ?z_tuple ?z_list ?z_reversed ?z_range ?z_int ?z_bool ?z_abs ?z_max ?z_str ?z_dict ?z_zip ?z_sum ?z_min ?aW ?cW ?mkW ?kcW ?nW0 ?nW1 ?nW2 ?nW3 ?nW4 ?mW0 ?mW1 ?aC ?cC ?mkC ?kcC ?nC0 ?nC1 ?nC2 ?mC0 ?mC1 ?mC2 ?aF ?cF ?mkF ?kcF ?nF0 ?nF1 ?nF2 ?mF0 ?aS ?aT ?aL ?aD ?aX ?aG ?kSS ?kTS ?kLS ?kDS ?xcS ?xiS ?kST ?kTT ?kLT ?kDT ?xcT ?xiT ?kSL ?kTL ?kLL ?kDL ?xcL ?xiL ?kSD ?kTD ?kLD ?kDD ?xcD ?xiD ?v1 ?v2 ?v4 ?v5 ?vM ?nCF ?nCW ?ic ?hRk ?hFm ?d1 ?d2 ?d3 ?d4 ?d6 ?d7 ?d19 ?d20 ?d21 ?d22 ?d23 ?d24 ?d26 ?d29 ?d30 ?d31 ?d32 ?d34 ?d35 ?d36 ?d42 ?d43 ?d44 ?d45 ?d46 ?d52 ?d57 ?d58 ?d59 ?d60 ?d61 ?d63 ?d64 ?d65 ?d67 ?d68 ?d69 ?d70 ?d71 ?d72 ?d73 ?d74 ?d77 ?d78 ?d79 ?d80 ?d81 ?d82 ?d83 ?d84 ?d85
  (case z_len|z_all|z_isinstance|z_tuple|z_list|z_reversed|z_range|z_int|z_bool|z_abs|z_max|z_str|z_dict|z_zip|z_sum|z_min|aW|mkW|kcW|aC|mkC|kcC|aF|mkF|kcF|aS|aT|aL|aD|aX|aG=>k_is)
  (case cW|cC|cF=>refine' Fw.cls_mk ?pg ?hd ?po ?sa;(case pg=>k_is);(case hd=>k_is);(case po=>k_is);(case sa=>k_is))
  (case nW0|nW1|nW2|nW3|nW4|nC0|nC1|nC2|nF0|nF1|nF2=>refine' Fw.noat_mk ?n;(case n=>k_is))
  (case mW0|mW1|mC0|mC1|mC2|mF0=>refine' Fw.meth_mk ?a ?i ?l ?c ?k;(case a=>k_is);(case i=>k_is);(case l=>k_is);(case c=>k_is);(case k=>k_is))
  (case kSS|kTS|kLS|kDS|kST|kTT|kLT|kDT|kSL|kTL|kLL|kDL|kSD|kTD|kLD|kDD=>kernel_rfl)
  (case xcS|xcT|xcL|xcD=>refine' Fw.exc_mk ?xc0 ?xc1 ?xcb ?xc2 ?xc3 ?xc4 ?xc5 ?xcl;(case xc0=>k_is);(case xc1=>k_is);(case xcb=>k_is);(case xc2=>k_is);(case xc3=>k_is);(case xc4=>k_is);(case xc5=>k_is);(case xcl=>k_is))
  (case xiS|xiT|xiL|xiD=>refine' Fw.excis_mk ?l1 ?n1 ?n2 ?t1 ?l2 ?b1 ?b2;(case l1=>k_is);(case n1=>kernel_rfl);(case n2=>k_is);(case t1=>kernel_rfl);(case l2=>k_is);(case b1=>decide+kernel);(case b2=>decide+kernel))
  (case v1|v2=>refine' Fw.val_str ?a ?e;(case a=>k_is);(case e=>decide+kernel))
  (case v4|vM=>refine' Fw.val_int ?a ?e;(case a=>k_is);(case e=>decide+kernel))
  (case v5=>refine' Fw.val_tup ?a ?b ?c ?d ?e;(case a=>k_is);(case b=>k_is);(case c=>rfl);(case d=>decide+kernel);(case e=>decide+kernel))
  (case nCF|nCW=>decide+kernel)
  (case ic=>refine' Fw.isc_mk ?i1 ?i2 ?i3 ?i4 ?i5 ?i6 ?i7 ?i8 ?i9;(case i1=>k_is);(case i2=>k_is);(case i3=>k_is);(case i4=>k_is);(case i5=>kernel_rfl);(case i6=>kernel_rfl);(case i7=>kernel_rfl);(case i8=>kernel_rfl);(case i9=>kernel_rfl))
  (case hRk=>refine' Fw.rkis_mk ?a ?a0 ?a1 ?a2 ?a3 ?dl ?ds ?dx ?dp;(case a=>k_is);(case a0=>k_is);(case a1=>k_is);(case a2=>k_is);(case a3=>k_is);(case dl=>k_is);(case ds=>decide+kernel);(case dx=>exact⟨rfl,rfl,rfl⟩);(case dp=>exact .cons ⟨rfl,⟨_,rfl⟩,rfl⟩ (.cons ⟨rfl,⟨_,rfl⟩,rfl⟩ (.cons ⟨rfl,⟨_,rfl⟩,rfl⟩ (.cons ⟨rfl,⟨_,rfl⟩,rfl⟩ .nil)))))
  (case hFm=>refine' Fw.fmis_mk ?a ?a0 ?a1 ?a2 ?dl ?ds ?dx ?dp ?q0 ?q1 ?q7 ?q8 ?q9 ?q10;(case a=>k_is);(case a0=>k_is);(case a1=>k_is);(case a2=>k_is);(case dl=>k_is);(case ds=>decide+kernel);(case dx=>exact⟨rfl,rfl,rfl⟩);(case dp=>exact .cons ⟨rfl,⟨_,rfl⟩,rfl⟩ (.cons ⟨rfl,⟨_,rfl⟩,rfl⟩ (.cons ⟨rfl,⟨_,rfl⟩,rfl⟩ (.cons ⟨rfl,⟨_,rfl⟩,rfl⟩ (.cons ⟨rfl,⟨_,rfl⟩,rfl⟩ (.cons ⟨rfl,⟨_,rfl⟩,rfl⟩ (.cons ⟨rfl,⟨_,rfl⟩,rfl⟩ (.cons ⟨rfl,⟨_,rfl⟩,rfl⟩ (.cons ⟨rfl,⟨_,rfl⟩,rfl⟩ (.cons ⟨rfl,⟨_,rfl⟩,rfl⟩ (.cons ⟨rfl,⟨_,rfl⟩,rfl⟩ (.cons ⟨rfl,⟨_,rfl⟩,rfl⟩ .nil))))))))))));(case q0=>refine' Fw.sqt_in ?ql ?qc ?qz ?qv;(case ql=>k_is);(case qc=>rfl);(case qz=>decide+kernel);(case qv=>decide+kernel));(case q1=>refine' Fw.sqt_in ?ql ?qc ?qz ?qv;(case ql=>k_is);(case qc=>rfl);(case qz=>decide+kernel);(case qv=>decide+kernel));(case q7=>refine' Fw.sqt_in ?ql ?qc ?qz ?qv;(case ql=>k_is);(case qc=>rfl);(case qz=>decide+kernel);(case qv=>decide+kernel));(case q8=>refine' Fw.sqt_in ?ql ?qc ?qz ?qv;(case ql=>k_is);(case qc=>rfl);(case qz=>decide+kernel);(case qv=>decide+kernel));(case q9=>refine' Fw.sqt_in ?ql ?qc ?qz ?qv;(case ql=>k_is);(case qc=>rfl);(case qz=>decide+kernel);(case qv=>decide+kernel));(case q10=>refine' Fw.sqt_in ?ql ?qc ?qz ?qv;(case ql=>k_is);(case qc=>rfl);(case qz=>decide+kernel);(case qv=>decide+kernel)))
  (case d1|d2|d3|d4|d6|d7|d19|d20|d21|d22|d23|d24|d26|d29|d30|d31|d32|d34|d35|d36|d42|d43|d44|d45|d46|d52|d57|d58|d59|d60|d61|d63|d64|d67|d68|d69|d70|d71|d72|d73|d74|d77|d78|d79|d80|d81|d82|d83|d84|d85=>refine' Fw.def_mk ?a ?l ?c ?k;(case a=>k_is);(case l=>k_is);(case c=>k_is);(case k=>k_is))
  (case d65=>refine' Fw.def_mkD ?a ?l ?c ?k ?t;(case a=>k_is);(case l=>k_is);(case c=>k_is);(case k=>k_is);(case t=>k_is))
