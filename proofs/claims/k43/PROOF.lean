import PyProof.Rows.All
import Wide.All
import OpenK.AllK
import Wide.FinOn
import Lean
import PyProof.EqAt
import PyProof.EqKinds
import PyProof.TupleCall
import KE.KLam
import KE.KNest
import KE.KNestM
import KE.KRevIter
import PyProof.CollectWalk
import PyProof.TupleOfSeq
import KE.KDictList
import KE.KEqDict
import PyProof.ZipIter
import PyProof.EnumFor
import PyProof.Draws
import PyProof.StationsW
import OpenK.KOwn
import PyProof.ExcBaseAll.ValueError
import PyProof.NsDelKeeps
import PyProof.RulesAs
import KE.KIsAll
import PyProof.ExcArgs
import PyProof.AttrMiss
import KE.KDictLaws
import PyProof.CompUse
import PyProof.DictWalks
import KE.KUnpack
import PyProof.DictValues
import PyProof.DictItems
import PySem.Challenge.RW_facework_k43_faces_shown
set_option Elab.async false
set_option linter.all false
set_option maxRecDepth 100000
namespace L2
open PySem PySem.Spec PyProof.Rows
abbrev Key:=Sum Int Str
def keyIs:Key→Value→Bool
 |.inl k,v=>Value.isInt k v
 |.inr x,v=>Value.isStrOf x v
def keyH (w:World):Key→Int
 |.inl k=>hashInt k
 |.inr x=>hashStr w x
theorem keyIs_shape:∀{k:Key} {v:Value},keyIs k v=true→(∃i t,k=Sum.inl i∧v=Value.int i t)∨(∃x t,k=Sum.inr x∧v=Value.str x t)
 |.inl i,v,h=>by
  obtain⟨t,e⟩:=Value.isInt_shape (k:=i) (v:=v) h
  exact .inl ⟨i,t,rfl,e⟩
 |.inr x,v,h=>by
  obtain⟨t,e⟩:=Value.isStrOf_shape (x:=x) (v:=v) h
  exact .inr ⟨x,t,rfl,e⟩
theorem keyIs_int (i:Int)(t:Tok):keyIs (.inl i) (.int i t)=true:=by simp[keyIs,Value.isInt]
theorem keyIs_str (x:Str)(t:Tok):keyIs (.inr x) (.str x t)=true:=by simp[keyIs,Value.isStrOf]
theorem key_ll (a b:Int):decide ((Sum.inl a:Key)=Sum.inl b)=(a==b):=by
 by_cases e:a=b
 ·subst e;simp
 ·have h:¬(Sum.inl a:Key)=Sum.inl b:=fun q=>e (Sum.inl.inj q)
  rw[decide_eq_false h]
  exact(beq_eq_false_iff_ne.mpr e).symm
theorem key_rr (a b:Str):decide ((Sum.inr a:Key)=Sum.inr b)=decide (a=b):=by
 by_cases e:a=b
 ·subst e;simp
 ·have h:¬(Sum.inr a:Key)=Sum.inr b:=fun q=>e (Sum.inr.inj q)
  rw[decide_eq_false h,decide_eq_false e]
theorem key_lr (a:Int)(b:Str):decide ((Sum.inl a:Key)=Sum.inr b)=false:=decide_eq_false (fun q=>nomatch q)
theorem key_rl (a:Str)(b:Int):decide ((Sum.inr a:Key)=Sum.inl b)=false:=decide_eq_false (fun q=>nomatch q)
def mixKind (prog:Program)(w:World):PySem.KeyKind prog w Key where
 is:=keyIs
 hash:=keyH w
 inj:=fun v a b ha hb=>by
  rcases keyIs_shape ha with ⟨i,t,rfl,rfl⟩|⟨x,t,rfl,rfl⟩
  ·rcases keyIs_shape hb with ⟨j,u,rfl,e⟩|⟨y,u,rfl,e⟩
   ·injection e with e1 _;rw[e1]
   ·exact nomatch e
  ·rcases keyIs_shape hb with ⟨j,u,rfl,e⟩|⟨y,u,rfl,e⟩
   ·exact nomatch e
   ·injection e with e1 _;rw[e1]
 byValue:=fun k v h=>by
  rcases keyIs_shape h with ⟨i,t,rfl,rfl⟩|⟨x,t,rfl,rfl⟩<;>rfl
 pyHash:=fun hv h=>by
  rcases keyIs_shape hv with ⟨i,t,rfl,rfl⟩|⟨x,t,rfl,rfl⟩
  ·exact wpAny_pyHash_int h
  ·exact wpAny_pyHash_str h
 eqBool:=fun hu hv h=>by
  rcases keyIs_shape hu with ⟨i,t,rfl,rfl⟩|⟨x,t,rfl,rfl⟩
  ·rcases keyIs_shape hv with ⟨j,u,rfl,rfl⟩|⟨y,u,rfl,rfl⟩
   ·rw[key_ll]at h;exact wpAny_eqBool_int h
   ·rw[key_lr]at h;exact SeqAt.EqAt.int_str i t y u _ _ _ _ h
  ·rcases keyIs_shape hv with ⟨j,u,rfl,rfl⟩|⟨y,u,rfl,rfl⟩
   ·rw[key_rl]at h;exact SeqAt.EqAt.str_int x t j u _ _ _ _ h
   ·rw[key_rr]at h;exact wpAny_eqBool_str h
 «strs»:=fun k x t v h=>by
  rcases keyIs_shape h with ⟨i,u,rfl,e⟩|⟨y,u,rfl,e⟩
  ·exact nomatch e
  ·injection e with e1 _
   subst e1
   cases v<;>rfl
theorem mixKind_int (prog:Program)(w:World)(i:Int)(t:Tok):(mixKind prog w).is (.inl i) (.int i t)=true:=keyIs_int i t
theorem mixKind_str (prog:Program)(w:World)(x:Str)(t:Tok):(mixKind prog w).is (.inr x) (.str x t)=true:=keyIs_str x t
inductive V where
 |non|bl (b:Bool)|int (i:Int)|str (x:Str)|byt (b:Array UInt8)|flt (b:UInt64)|ref (a:Addr)|ty (n:String)
 deriving DecidableEq
def RelV:V→Value→Prop
 |.non,u=>u=Value.none
 |.bl b,u=>u=Value.bool b
 |.int i,u=>∃t,u=Value.int i t
 |.str x,u=>∃t,u=Value.str x t
 |.byt b,u=>∃t,u=Value.bytes b t
 |.flt b,u=>∃t,u=Value.float b t
 |.ref a,u=>u=Value.ref a
 |.ty n,u=>u=Value.type n
abbrev Vals:List V→List Value→Prop:=Paired RelV
theorem Vals.length {xs:List V}{us:List Value}(r:Vals xs us):xs.length=us.length:=Paired.length r
theorem Vals.get {xs:List V}{us:List Value}{i:Nat}{x:V}(h:Vals xs us)(e:xs[i]?=some x):∃u,us[i]?=some u∧RelV x u:=by
 induction h generalizing i with
 |nil=>simp at e
 |cons r _ ih=>cases i with
  |zero=>cases e;exact⟨_,rfl,r⟩
  |succ i=>exact(ih (i:=i) e:)
theorem Vals.set {x:V}{u:Value}(r:RelV x u){xs:List V}{us:List Value}(i:Nat)(h:Vals xs us):Vals (xs.set i x) (us.set i u):=by
 induction h generalizing i with
 |nil=>exact .nil
 |cons q t ih=>cases i with
  |zero=>exact .cons r t
  |succ i=>exact .cons q (ih i)
theorem Vals.append {xs ys:List V}{us ws:List Value}(h:Vals xs us)(s:Vals ys ws):Vals (xs++ys) (us++ws):=by
 induction h with
 |nil=>exact s
 |cons r _ ih=>exact .cons r ih
theorem Vals.take {xs:List V}{us:List Value}(n:Nat)(h:Vals xs us):Vals (xs.take n) (us.take n):=by
 induction h generalizing n with
 |nil=>cases n<;>exact .nil
 |cons r _ ih=>cases n with
  |zero=>exact .nil
  |succ n=>exact .cons r (ih n)
theorem Vals.drop {xs:List V}{us:List Value}(n:Nat)(h:Vals xs us):Vals (xs.drop n) (us.drop n):=by
 induction h generalizing n with
 |nil=>cases n<;>exact .nil
 |cons r t ih=>cases n with
  |zero=>exact .cons r t
  |succ n=>exact ih n
def RelO:Option V→Option Value→Prop
 |some v,some u=>RelV v u
 |none,none=>True
 |_,_=>False
def KV {κ:Type}:List (κ×V)→List (κ×Value)→Prop:=Paired fun(p:κ×V) (q:κ×Value)=>p.1=q.1∧RelV p.2 q.2
def kV:Key→V
 |.inl i=>.int i
 |.inr x=>.str x
inductive HO where
 |lst (xs:List V)
 |tup (xs:List V)
 |dK (kvs:List (Key×V))|dT (kvs:List (List Key×V))
 |set (S:Int→Bool) (n:Nat)
 |ins (C dx:Addr) (fs:List (Str×V))
 |own (x:Addr)
 |xd (fs:List (Str×V))
 |met (f x:Addr)
 |rng (lo hi:Int)
 |frz (o:Obj) (u:HO)
 |tbl (ps:Array Value)
 |ext (φ:Heap→Prop)
abbrev Hp:=Addr→Option HO
def upd (H:Hp)(a:Addr)(o:HO):Hp:=fun b=>if b=a then some o else H b
theorem upd_same {H:Hp}{a:Addr}{o:HO}:upd H a o a=some o:=by unfold upd;rw[if_pos rfl]
theorem upd_ne {H:Hp}{a b:Addr}{o:HO}(h:b≠a):upd H a o b=H b:=by unfold upd;rw[if_neg h]
theorem ne_of {H:Hp}{a b:Addr}{o u:HO}(h:H a=some o)(h':H b=some u)(d:o≠u):a≠b:=by
 intro e;subst e;rw[h]at h';exact d (Option.some.inj h')
theorem ne_of_none {H:Hp}{a b:Addr}{o:HO}(h:H a=some o)(h':H b=none):a≠b:=by
 intro e;subst e;rw[h]at h';cases h'
section
variable (P:Program)(w:World)
def ObjOk (H:Hp)(h:Heap)(a:Addr):HO→Prop
 |.lst xs=>xs.length≤sizeLine∧∃(its:List Value) (n:Nat),Vals xs its∧h.get? a=some {cls:=.type "list",data:=.seq its.toArray n}
 |.tup xs=>xs.length≤sizeLine∧∃its:List Value,Vals xs its∧IsTup h a its.toArray
 |.dK kvs=>kvs.length≤sizeLine∧(a==sysModules)=false∧∃vs,KV kvs vs∧h.DictOf (mixKind P w) a vs
 |.dT kvs=>kvs.length≤sizeLine∧(a==sysModules)=false∧∃xs:List (List Key×Addr×Value),
   Paired (fun(p:List Key×V) (q:List Key×Addr×Value)=>p.1=q.1∧H q.2.1=some (.tup (p.1.map kV))∧RelV p.2 q.2.2) kvs xs∧
   ∃o es ep,h.get? a=some o∧o.ExactDict∧o.data=.dict es ep∧es.toList=xs.map (entryOfKey (tupleKind (mixKind P w)))∧(xs.map (·.1)).Nodup
 |.set S n=>h.SetOf (intKind P w) a S n
 |.ins C dx fs=>H dx=some (.own a)∧fs.length≤1000∧dx≠a∧h.get? a=some (PySem.W.instObj C dx)∧
   ∃mA,h.Ns1 dx mA∧(∀f,RelO (fs.lookup f) (mA f))∧PySem.Within mA (fs.map (·.1))
 |.own _=>∃o,h.get? a=some o
 |.xd fs=>∃mA,h.Ns1 a mA∧∀f,RelO (fs.lookup f) (mA f)
 |.rng lo hi=>∃t u v,h.get? a=some {cls:=.type "range",data:=.fields #[.int lo t, .int hi u, .int 1 v]}
 |.frz o u=>h.get? a=some o∧ObjOk H h a u
 |.tbl ps=>h.get? a=some {cls:=.none,data:=.fields ps}
 |.met f x=>h.get? a=some (PySem.W.methodObj (.ref f) (.ref x))
 |.ext φ=>φ h∧(∃o,h.get? a=some o)∧∀h1 h2:Heap,φ h1→(∀o,h1.get? a=some o→h2.get? a=some o)→φ h2
def HOk (H:Hp)(h:Heap):Prop:=∀a o,H a=some o→ObjOk P w H h a o
end
section
variable {P:Program}{w:World}{H H':Hp}{h h':Heap}{a:Addr}{o:HO}
theorem ObjOk.lt (x:ObjOk P w H h a o):a<h.objs.size:=by
 cases o with
 |lst xs=>obtain⟨_,_,_,_,e⟩:=x;exact Heap.lt_size e
 |tup xs=>obtain⟨_,_,_,p⟩:=x;exact p.lt
 |dK kvs=>obtain⟨_,_,_,_,o,_,_,e,_⟩:=x;exact Heap.lt_size e
 |dT kvs=>obtain⟨_,_,_,_,o,_,_,e,_⟩:=x;exact Heap.lt_size e
 |set S n=>obtain⟨o,_,_,_,e,_⟩:=x;exact Heap.lt_size e
 |ins C dx fs=>obtain⟨_,_,_,e,_⟩:=x;exact Heap.lt_size e
 |own y=>obtain⟨_,e⟩:=x;exact Heap.lt_size e
 |xd fs=>obtain⟨_,⟨_,_,_,e,_⟩,_⟩:=x;exact Heap.lt_size e
 |rng lo hi=>obtain⟨_,_,_,e⟩:=x;exact Heap.lt_size e
 |frz ob u=>obtain⟨e,_⟩:=x;exact Heap.lt_size e
 |tbl ps=>exact Heap.lt_size (show h.get? a=some _ from x)
 |met f y=>exact Heap.lt_size (show h.get? a=some _ from x)
 |ext φ=>obtain⟨_,⟨_,e⟩,_⟩:=x;exact Heap.lt_size e
theorem Paired.mapP {α β:Type}{F G:α→β→Prop}{l₁:List α}{l₂:List β}(h:Paired F l₁ l₂)(f:∀a b,F a b→G a b):Paired G l₁ l₂:=by
 induction h with
 |nil=>exact .nil
 |cons r _ ih=>exact .cons (f _ _ r) ih
theorem ObjOk.stay (x:ObjOk P w H h a o)(k:∀b u,(b=a∨H b=some (.own a))→h.get? b=some u→h'.get? b=some u)
  (ho:∀b,H b=some (.own a)→H' b=some (.own a)) (ht:∀b xs,H b=some (.tup xs)→H' b=some (.tup xs)):ObjOk P w H' h' a o:=by
 induction o with
 |lst xs=>obtain⟨z,its,n,r,e⟩:=x;exact⟨z,its,n,r,k _ _ (.inl rfl) e⟩
 |tup xs=>obtain⟨z,its,r,ob,e,c⟩:=x;exact⟨z,its,r,ob,k _ _ (.inl rfl) e,c⟩
 |dK kvs=>obtain⟨z,y,vs,r,ob,es,ep,e,c⟩:=x;exact⟨z,y,vs,r,ob,es,ep,k _ _ (.inl rfl) e,c⟩
 |dT kvs=>
  obtain⟨z,y,xs,r,ob,es,ep,e,c⟩:=x
  exact⟨z,y,xs,Paired.mapP r fun p q z=>⟨z.1,ht _ _ z.2.1,z.2.2⟩,ob,es,ep,k _ _ (.inl rfl) e,c⟩
 |set S n=>obtain⟨ob,es,ep,t,e,c⟩:=x;exact⟨ob,es,ep,t,k _ _ (.inl rfl) e,c⟩
 |ins C dx fs=>
  obtain⟨d,z,ne,e,mA,⟨od,es,ep,e2,c⟩,r⟩:=x
  exact⟨ho _ d,z,ne,k _ _ (.inl rfl) e,mA,⟨od,es,ep,k _ _ (.inr d) e2,c⟩,r⟩
 |own y=>obtain⟨ob,e⟩:=x;exact⟨ob,k _ _ (.inl rfl) e⟩
 |xd fs=>obtain⟨mA,⟨od,es,ep,e,c⟩,r⟩:=x;exact⟨mA,⟨od,es,ep,k _ _ (.inl rfl) e,c⟩,r⟩
 |rng lo hi=>obtain⟨t,u,v,e⟩:=x;exact⟨t,u,v,k _ _ (.inl rfl) e⟩
 |frz ob u ih=>obtain⟨e,q⟩:=x;exact⟨k _ _ (.inl rfl) e,ih q⟩
 |tbl ps=>
  have e:h.get? a=some {cls:=.none,data:=.fields ps}:=x
  show h'.get? a=some {cls:=.none,data:=.fields ps}
  exact k a _ (.inl rfl) e
 |met f y=>
  have e:h.get? a=some (PySem.W.methodObj (.ref f) (.ref y)):=x
  show h'.get? a=some (PySem.W.methodObj (.ref f) (.ref y))
  exact k a _ (.inl rfl) e
 |ext φ=>obtain⟨p,⟨o,e⟩,st⟩:=x;exact⟨st _ _ p fun o q=>k _ _ (.inl rfl) q,⟨o,k _ _ (.inl rfl) e⟩,st⟩
theorem HOk.lt (x:HOk P w H h)(e:H a=some o):a<h.objs.size:=(x a o e).lt
theorem HOk.fresh (x:HOk P w H h)(e:h.objs.size≤a):H a=none:=by
 cases q:H a with
 |none=>rfl
 |some u=>exact absurd (Nat.lt_of_lt_of_le (x.lt q) e) (Nat.lt_irrefl _)
theorem HOk.kept (x:HOk P w H h)(k:∀b u,h.get? b=some u→h'.get? b=some u):HOk P w H h':=fun a o e=>
 (x a o e).stay (fun b u _ q=>k b u q) (fun _ q=>q) fun _ _ q=>q
theorem HOk.laid (x:HOk P w H h)(k:∀b u,h.get? b=some u→h'.get? b=some u)(hp:h.objs.size≤a)(new:ObjOk P w (upd H a o) h' a o):HOk P w (upd H a o) h':=fun b u e=>by
 have hn:=x.fresh hp
 by_cases hb:b=a
 ·subst hb;rw[upd_same]at e;cases e;exact new
 ·rw[upd_ne hb]at e
  exact(x b u e).stay (fun c v _ q=>k c v q) (fun c q=>by rw[upd_ne (ne_of_none q hn)];exact q) fun c xs q=>by rw[upd_ne (ne_of_none q hn)];exact q
end
def Rd (H:Hp)(a:Addr)(u:HO):Prop:=H a=some u∨∃o,H a=some (.frz o u)
theorem Rd.ok {P:Program}{w:World}{H:Hp}{h:Heap}{a:Addr}{u:HO}(r:Rd H a u)(x:HOk P w H h):ObjOk P w H h a u:=by
 rcases r with r|⟨o,r⟩
 ·exact x a u r
 ·obtain⟨_,q⟩:=x a _ r
  exact q
def Mut:Option HO→Prop
 |some (.lst _)=>True
 |some (.dK _)=>True
 |some (.dT _)=>True
 |some (.set _ _)=>True
 |some (.ins _ _ _)=>True
 |some (.ext _)=>True
 |_=>False
section
variable {P:Program}{w:World}{H:Hp}{h h':Heap}{x e:Addr}{o':HO}
theorem HOk.write (ok:HOk P w H h)(mu:Mut (H x))(he:e=x∨H e=some (.own x))(k:∀b u,b≠e→h.get? b=some u→h'.get? b=some u)(heo:∃u,h'.get? e=some u)
  (new:ObjOk P w (upd H x o') h' x o'):HOk P w (upd H x o') h':=fun b u q=>by
 have nown:∀c y,H c=some (.own y)→c≠x:=fun c y r z=>by subst z;rw[r]at mu;exact mu
 have ntup:∀c xs,H c=some (.tup xs)→c≠x:=fun c xs r z=>by subst z;rw[r]at mu;exact mu
 by_cases hb:b=x
 ·subst hb;rw[upd_same]at q;cases q;exact new
 ·rw[upd_ne hb]at q
  by_cases hbe:b=e
  ·have q':H b=some (.own x):=by
    rcases he with z|z
    ·exact absurd (hbe.trans z) hb
    ·rw[hbe];exact z
   rw[q]at q';cases q'
   obtain⟨v,hv⟩:=heo
   exact⟨v,by rw[hbe];exact hv⟩
  ·refine(ok b u q).stay (fun c v hc r=>k c v ?_ r) (fun c r=>by rw[upd_ne (nown c b r)];exact r) fun c xs r=>by rw[upd_ne (ntup c xs r)];exact r
   rcases hc with rfl|hc
   ·exact hbe
   ·rintro rfl
    rcases he with z|z
    ·exact nown c b hc z
    ·rw[hc]at z;cases z;exact hb rfl
end
structure Un (fs ex:List Addr)(H H':Hp)(h h':Heap):Prop where
 keep:∀b o,h.get? b=some o→H b=none→b∉fs→b∉ex→h'.get? b=some o
 slot:∀b o,h.get? b=some o→H b=none→b∈fs→b∉ex→∃sl,h'.get? b=some {o with slots:=sl}
 free:∀b o,h.get? b=some o→H b=none→b∉ex→H' b=none
 there:∀b o,h.get? b=some o→b∉ex→∃o',h'.get? b=some o'
 tups:∀b xs,H b=some (.tup xs)→H' b=some (.tup xs)
 frzs:∀b o u,H b=some (.frz o u)→H' b=some (.frz o u)
 tbls:∀b ps,H b=some (.tbl ps)→∃more,H' b=some (.tbl (ps++more))
section
variable {fs fs' ex ex':List Addr}{H H1 H2:Hp}{h h1 h2 h':Heap}{a x e:Addr}{o:HO}
theorem Un.any (u:Un fs ex H H1 h h1){b:Addr}{ob:Obj}(q:h.get? b=some ob)(n:H b=none)(hx:b∉ex):∃sl,h1.get? b=some {ob with slots:=sl}:=by
 by_cases hb:b∈fs
 ·exact u.slot b ob q n hb hx
 ·exact⟨ob.slots,u.keep b ob q n hb hx⟩
theorem Un.kept (k:∀b u,h.get? b=some u→h'.get? b=some u):Un fs ex H H h h' :=
 ⟨fun b ob q _ _ _=>k b ob q,fun b ob q _ _ _=>⟨ob.slots,k b ob q⟩,fun _ _ _ n _=>n,fun b ob q _=>⟨ob,k b ob q⟩,fun _ _ q=>q,fun _ _ _ q=>q,fun _ ps q=>⟨#[],by rw[q];simp⟩⟩
theorem Un.refl:Un fs ex H H h h:=Un.kept fun _ _ q=>q
theorem Un.laid (k:∀b u,h.get? b=some u→h'.get? b=some u)(hp:h.objs.size≤a)(hn:H a=none):Un fs ex H (upd H a o) h h' where
 keep:=fun b u q _ _ _=>k b u q
 slot:=fun b u q _ _ _=>⟨u.slots,k b u q⟩
 free:=fun b u q n _=>by rw[upd_ne (Nat.ne_of_lt (Nat.lt_of_lt_of_le (Heap.lt_size q) hp))];exact n
 there:=fun b u q _=>⟨u,k b u q⟩
 tups:=fun b xs q=>by rw[upd_ne (ne_of_none q hn)];exact q
 frzs:=fun b u xs q=>by rw[upd_ne (ne_of_none q hn)];exact q
 tbls:=fun b ps q=>⟨#[],by rw[upd_ne (ne_of_none q hn),q];simp⟩
theorem Un.write (mu:Mut (H x))(he:e=x∨H e=some (.own x))(k:∀b u,b≠e→h.get? b=some u→h'.get? b=some u)(heo:∃u,h'.get? e=some u):Un fs ex H (upd H x o) h h':=by
 have hx:∀b,H b=none→b≠x:=fun b n z=>by subst z;rw[n]at mu;exact mu
 have hb:∀b,H b=none→b≠e:=fun b n z=>by
  subst z
  rcases he with r|r
  ·exact hx b n r
  ·rw[n]at r;cases r
 have hm:∀b u,H b=some u→¬Mut (some u)→b≠x:=fun b u q nm z=>by subst z;rw[q]at mu;exact nm mu
 refine⟨fun b u q n _ _=>k b u (hb b n) q,fun b u q n _ _=>⟨u.slots,k b u (hb b n) q⟩,fun b u q n _=>by rw[upd_ne (hx b n)];exact n,fun b u q _=>?_,
  fun b xs q=>by rw[upd_ne (hm b _ q fun z=>z)];exact q,fun b u xs q=>by rw[upd_ne (hm b _ q fun z=>z)];exact q,fun b ps q=>⟨#[],by rw[upd_ne (hm b _ q fun z=>z),q];simp⟩⟩
 by_cases hbe:b=e
 ·subst hbe;exact heo
 ·exact⟨u,k b u hbe q⟩
end
def trk (h:Heap)(H:Hp):List Addr:=(List.range h.objs.size).filter fun a=>(H a).isSome
def hidT (h:Heap)(H:Hp):Heap:=PySem.W.hideAll h (trk h H)
theorem hidT_size (h:Heap)(H:Hp):(hidT h H).objs.size=h.objs.size:=PySem.W.hideAll_size _ _
theorem hidT_get {h:Heap}{H:Hp}{b:Addr}{o:Obj}(e:h.get? b=some o)(n:H b=none):(hidT h H).get? b=some o :=
 PySem.W.hideAll_get _ e fun hm=>by
  have q:(H b).isSome=true:=(List.mem_filter.mp hm).2
  rw[n]at q;simp at q
theorem of_hidT {h:Heap}{H:Hp}{b:Addr}{o:Obj}(e:(hidT h H).get? b=some o):h.get? b=some o∧H b=none:=by
 have e':h.get? b=some o:=PySem.W.of_hideAll (trk h H) e
 refine⟨e',?_⟩
 cases q:H b with
 |none=>rfl
 |some x=>
  have hm:b∈trk h H:=List.mem_filter.mpr ⟨List.mem_range.mpr (Heap.lt_size e'),by simp[q]⟩
  have z:(hidT h H).get? b=none:=PySem.W.hideAll_none (trk h H) hm
  rw[z]at e;cases e
def allNews (g h:Heap)(L:Addr):List (Addr×Obj):=(List.range h.objs.size).filterMap fun a=>if a=L∨(g.get? a).isSome=true then none else(h.get? a).map fun o=>(a,o)
def rest (g h:Heap)(L d:Addr):List (Addr×Obj):=(allNews g h L).filter fun p=>decide (p.1≠d)
structure Mod (K:PySem.W.Frag)(mg:Str→Option Value)(base:Heap):Prop where
 kin:K.In base
 glob:base.Ns mainGlobals mg
 blt:∃mb,base.Ns builtinsNs mb∧∀x:Str,x≠"__name__"→mb x=bootBuiltins x
 nolimit:base.NoLimit
structure Cx where
 prog:Program
 w:World
 K:PySem.W.Frag
 mg:Str→Option Value
 base:Heap
 A:Around
 N:List Str
 s₀:Shared
 H₀:Hp
 env:Env
 outer:List Env
 stack:List Env
 ex:List Addr
 fn:Str→Bool
 calm:Bool
 pn:List (Addr×Obj)
 xe:Value→Shared→Prop
def frs (l:List Env):List Addr:=l.filterMap (·.frame)
abbrev Cx.fs (X:Cx):List Addr:=frs X.outer
def Vis (sc:Scope)(x:Str):Prop:=sc.names.lookup x=some .local∨sc.names.lookup x=some .cell∨sc.names.lookup x=some .free
def Loc (sc:Scope)(x:Str):Prop:=sc.names.lookup x=some .local∨sc.names.lookup x=some .cell
def Look (env:Env)(h:Heap)(m:Str→Option Value)(x:Str)(u:Value):Prop :=
 (env.kindOf x=some .local∧m x=some u)∨((env.kindOf x=some .cell∨env.kindOf x=some .free)∧∃c,env.cells.lookup x=some c∧h.IsCell c (some u))
structure Cx.Ok (X:Cx):Prop where
 mod:Mod X.K X.mg X.base
 kind:X.env.scope.kind=.function
 glob:X.env.globals=mainGlobals
 blt:X.env.builtins=builtinsNs
 above:X.s₀.heap.objs.size≤X.env.locals
 inj:∀x y c,X.env.cells.lookup x=some c→X.env.cells.lookup y=some c→x=y
 has:∀x,(X.env.kindOf x=some .cell∨X.env.kindOf x=some .free)→∃c,X.env.cells.lookup x=some c
 cab:∀x c,X.fn x=true→X.env.cells.lookup x=some c→X.s₀.heap.objs.size≤c
 hd:X.calm=true→X.A.handled=none
 frames:X.A.frames=some X.stack
 stk:X.stack=X.outer∨(X.stack=X.env::X.outer∧X.env.frame=some X.env.locals)
 exf:∀b∈X.ex,b≠X.env.locals∧∀x c,X.env.cells.lookup x=some c→c≠b
 bs:∀b o,X.base.get? b=some o→X.s₀.heap.get? b=some o∧X.H₀ b=none
 bsz:X.base.objs.size≤X.s₀.heap.objs.size
 noex:∀b o,X.base.get? b=some o→b∉X.ex
 exfs:∀b∈X.ex,b∉X.fs
 funs:X.s₀.heap.FunFrames X.base X.outer
 frf:∀b∈X.fs,X.H₀ b=none
structure Inv (X:Cx)(pins:List (Addr×Obj))(σ:List (Option V))(H:Hp)(s:Shared):Prop where
 ok:X.Ok
 os:s.os=X.s₀.os
 bare:AllBare s.gens
 base:Un X.fs X.ex X.H₀ H X.s₀.heap s.heap
 loc:∃m,s.heap.Ns X.env.locals m∧∀(i:Nat) (x:Str) (v:V),X.N[i]?=some x→σ[i]?=some (some v)→Vis X.env.scope x→∃u,RelV v u∧Look X.env s.heap m x u
 cell:∀x c,X.env.cells.lookup x=some c→∃v,s.heap.IsCell c v
 free:H X.env.locals=none
 freeC:∀x c,X.env.cells.lookup x=some c→H c=none
 pin:∀p∈X.pn++pins,s.heap.get? p.1=some p.2∧H p.1=none∧p.1≠X.env.locals∧p.1∉X.fs∧∀v,p.2.data≠.cell v
 hok:HOk X.prog X.w H s.heap
 len:σ.length=X.N.length
section
variable {X:Cx}{pins:List (Addr×Obj)}{σ:List (Option V)}{H H':Hp}{s:Shared}{h':Heap}
theorem Cx.Ok.nofr (ok:X.Ok){b:Addr}{o:Obj}(e:X.base.get? b=some o):b∉X.fs:=fun hb=>by
 have:=(ok.funs.mem hb).1
 rw[e]at this;cases this
theorem Inv.bs (I:Inv X pins σ H s):∀b o,X.base.get? b=some o→s.heap.get? b=some o∧H b=none:=fun b o e=>
 ⟨I.base.keep b o (I.ok.bs b o e).1 (I.ok.bs b o e).2 (I.ok.nofr e) (I.ok.noex b o e),I.base.free b o (I.ok.bs b o e).1 (I.ok.bs b o e).2 (I.ok.noex b o e)⟩
theorem Inv.bk (I:Inv X pins σ H s):∀b o,X.base.get? b=some o→s.heap.get? b=some o:=fun b o e=>(I.bs b o e).1
theorem Inv.mod (I:Inv X pins σ H s):Mod X.K X.mg X.base:=I.ok.mod
theorem Inv.kIn (I:Inv X pins σ H s):X.K.In s.heap:=I.ok.mod.kin.keeps I.bk
theorem Inv.lt (I:Inv X pins σ H s):X.env.locals<s.heap.objs.size:=let ⟨_,hn,_⟩:=I.loc;hn.lt
theorem Inv.sz (I:Inv X pins σ H s):X.s₀.heap.objs.size≤s.heap.objs.size:=Nat.le_trans I.ok.above (Nat.le_of_lt I.lt)
theorem Inv.nofs (I:Inv X pins σ H s){a:Addr}(h:s.heap.objs.size≤a):a∉X.fs:=fun hb=>by
 obtain⟨_,o,ho,_⟩:=I.ok.funs.mem hb
 exact absurd (Nat.lt_of_lt_of_le (Heap.lt_size ho) (Nat.le_trans I.sz h)) (Nat.lt_irrefl _)
theorem Inv.cne (I:Inv X pins σ H s):∀x c,X.env.cells.lookup x=some c→c≠X.env.locals:=fun x c e z=>by
 obtain⟨v,o,ho,hd⟩:=I.cell x c e
 obtain⟨m,⟨o',es,ep,ho',hd',_⟩,_⟩:=I.loc
 rw[z,ho']at ho;cases ho;rw[hd']at hd;cases hd
theorem Inv.funs (I:Inv X pins σ H s):s.heap.FunFrames X.base X.outer:=by
 have all:∀(l:List Env),(∀b∈frs l,b∈X.fs)→X.s₀.heap.FunFrames X.base l→s.heap.FunFrames X.base l:=by
  intro l
  induction l with
  |nil=>intro _ _;trivial
  |cons env r ih=>
   intro hs hl
   obtain⟨hk,⟨L,o,hf,hn,ho,hd⟩,hr⟩:=hl
   have hL:L∈X.fs:=hs L (by unfold frs;rw[List.filterMap_cons,hf];exact List.mem_cons_self)
   obtain⟨sl,e⟩:=I.base.slot L o ho (I.ok.frf L hL) hL fun z=>I.ok.exfs L z hL
   exact⟨hk,⟨L,_,hf,hn,e,hd⟩,ih (fun b hb=>hs b (by unfold frs;rw[List.filterMap_cons,hf];exact List.mem_cons_of_mem _ hb)) hr⟩
 exact all X.outer (fun _ hb=>hb) I.ok.funs
theorem Inv.stack (I:Inv X pins σ H s):s.heap.FunFrames X.base X.stack:=by
 rcases I.ok.stk with e|⟨e,hf⟩
 ·rw[e];exact I.funs
 ·rw[e]
  obtain⟨m,hn,_⟩:=I.loc
  refine .cons (by rw[I.ok.kind];decide) hf hn ?_ I.funs
  exact Heap.get?_none_of_le (Nat.le_trans I.ok.bsz I.ok.above)
theorem Inv.stkSub (I:Inv X pins σ H s):∀b∈frs X.stack,b∈X.env.locals::X.fs:=fun b hb=>by
 rcases I.ok.stk with e|⟨e,hf⟩
 ·rw[e]at hb;exact List.mem_cons_of_mem _ hb
 ·rw[e]at hb
  unfold frs at hb
  rw[List.filterMap_cons,hf]at hb
  exact hb
theorem Inv.stkFree (I:Inv X pins σ H s):∀b∈frs X.stack,H b=none:=fun b hb=>by
 rcases List.mem_cons.mp (I.stkSub b hb) with e|hb
 ·rw[e];exact I.free
 ·obtain⟨_,o,ho,_⟩:=I.ok.funs.mem hb
  exact I.base.free b o ho (I.ok.frf b hb) fun z=>I.ok.exfs b z hb
theorem Inv.step {g':Array GenState}{t':Nat}{d':Drawn}{ch:List Addr}(I:Inv X pins σ H s)
  (hch:∀b∈ch,(b∈X.ex∨X.s₀.heap.objs.size≤b)∧b≠X.env.locals∧(∀x c,X.env.cells.lookup x=some c→c≠b)∧∀p∈X.pn++pins,p.1≠b)
  (keep:∀b o,b≠X.env.locals→b∉X.fs→b∉ch→s.heap.get? b=some o→H b=none→h'.get? b=some o)
  (slot:∀b o,b≠X.env.locals→b∈X.fs→b∉ch→s.heap.get? b=some o→H b=none→∃sl,h'.get? b=some {o with slots:=sl}) (free:∀b o,b∉ch→s.heap.get? b=some o→H b=none→H' b=none)
  (there:∀b o,b∉ch→s.heap.get? b=some o→∃o',h'.get? b=some o')
  (tups:∀b xs,H b=some (.tup xs)→H' b=some (.tup xs)) (frzs:∀b o u,H b=some (.frz o u)→H' b=some (.frz o u)) (tbls:∀b ps,H b=some (.tbl ps)→∃more,H' b=some (.tbl (ps++more)))
  (ns:∀m,s.heap.Ns X.env.locals m→h'.Ns X.env.locals m) (hok:HOk X.prog X.w H' h') (hg:AllBare g'):
  Inv X pins σ H' {s with heap:=h',gens:=g',drawn:=d',toks:=t'}:=by
 have neL:∀b o,X.s₀.heap.get? b=some o→b≠X.env.locals:=fun b o e=>Nat.ne_of_lt (Nat.lt_of_lt_of_le (Heap.lt_size e) I.ok.above)
 have neC:∀b o,X.s₀.heap.get? b=some o→b∉X.ex→b∉ch:=fun b o e hx hb=>by
  rcases(hch b hb).1 with z|z
  ·exact hx z
  ·exact absurd (Nat.lt_of_lt_of_le (Heap.lt_size e) z) (Nat.lt_irrefl _)
 have cellK:∀x c,X.env.cells.lookup x=some c→∀v,s.heap.IsCell c v→h'.IsCell c v:=fun x c e v ⟨o,ho,hd⟩=>by
  have nch:c∉ch:=fun z=>(hch c z).2.2.1 x c e rfl
  by_cases hc:c∈X.fs
  ·obtain⟨sl,q⟩:=slot c o (I.cne x c e) hc nch ho (I.freeC x c e)
   exact⟨_,q,hd⟩
  ·exact⟨o,keep c o (I.cne x c e) hc nch ho (I.freeC x c e),hd⟩
 refine⟨I.ok,I.os,hg,⟨fun b o e n hb hx=>?_,fun b o e n hb hx=>?_,fun b o e n hx=>?_,fun b o e hx=>?_,fun b xs e=>tups b xs (I.base.tups b xs e),fun b o xs e=>frzs b o xs (I.base.frzs b o xs e),fun b ps e=>?_⟩,?_,fun x c e=>?_,?_,fun x c e=>?_,fun p hp=>?_,hok,I.len⟩
 ·exact keep b o (neL b o e) hb (neC b o e hx) (I.base.keep b o e n hb hx) (I.base.free b o e n hx)
 ·obtain⟨sl,e1⟩:=I.base.slot b o e n hb hx
  obtain⟨sl',e2⟩:=slot b _ (neL b o e) hb (neC b o e hx) e1 (I.base.free b o e n hx)
  exact⟨sl',e2⟩
 ·obtain⟨o',e1⟩:=I.base.there b o e hx
  exact free b o' (neC b o e hx) e1 (I.base.free b o e n hx)
 ·obtain⟨o',e1⟩:=I.base.there b o e hx
  exact there b o' (neC b o e hx) e1
 ·obtain⟨m1,e1⟩:=I.base.tbls b ps e
  obtain⟨m2,e2⟩:=tbls b _ e1
  exact⟨m1++m2,by rw[e2,Array.append_assoc]⟩
 ·obtain⟨m,hn,hl⟩:=I.loc
  refine⟨m,ns m hn,fun i x v e1 e2 e3=>?_⟩
  obtain⟨u,r,l⟩:=hl i x v e1 e2 e3
  refine⟨u,r,?_⟩
  rcases l with l|⟨k,c,e,z⟩
  ·exact .inl l
  ·exact .inr ⟨k,c,e,cellK x c e _ z⟩
 ·obtain⟨v,z⟩:=I.cell x c e
  exact⟨v,cellK x c e v z⟩
 ·obtain⟨m,⟨o,_,_,ho,_⟩,_⟩:=I.loc
  exact free _ o (fun z=>(hch _ z).2.1 rfl) ho I.free
 ·obtain⟨v,o,ho,hd⟩:=I.cell x c e
  exact free c o (fun z=>(hch c z).2.2.1 x c e rfl) ho (I.freeC x c e)
 ·obtain⟨e,n,ne,nf,d⟩:=I.pin p hp
  have nch:p.1∉ch:=fun z=>(hch p.1 z).2.2.2 p hp rfl
  exact⟨keep p.1 p.2 ne nf nch e n,free p.1 p.2 nch e n,ne,nf,d⟩
theorem Inv.un {t':Nat}(I:Inv X pins σ H s)(u:Un X.fs [] H H' s.heap h')(hok:HOk X.prog X.w H' h'):Inv X pins σ H' {s with heap:=h',toks:=t'}:=by
 obtain⟨m,⟨o,es,ep,ho,r⟩,_⟩:=id I.loc
 obtain⟨sl,hL⟩:=u.any ho I.free (by simp)
 exact I.step (g':=s.gens) (d':=s.drawn) (ch:=[]) (fun _ z=>nomatch z) (fun b o _ hb _ e n=>u.keep b o e n hb (by simp)) (fun b o _ hb _ e n=>u.slot b o e n hb (by simp)) (fun b o _ e n=>u.free b o e n (by simp)) (fun b o _ e=>u.there b o e (by simp)) u.tups u.frzs u.tbls (fun m' hm=>by
  obtain⟨o',es',ep',ho',r'⟩:=hm
  rw[ho]at ho';cases ho'
  exact⟨_,es',ep',hL,r'⟩) hok I.bare
theorem Inv.call {g':Array GenState}{t':Nat}{d':Drawn}{ch:List Addr}(I:Inv X pins σ H s)(u:Un (frs X.stack) ch H H' s.heap h')(hok:HOk X.prog X.w H' h')(hg:AllBare g')
  (hch:∀b∈ch,(b∈X.ex∨X.s₀.heap.objs.size≤b)∧b≠X.env.locals∧(∀x c,X.env.cells.lookup x=some c→c≠b)∧∀p∈X.pn++pins,p.1≠b):
  Inv X pins σ H' {s with heap:=h',gens:=g',drawn:=d',toks:=t'}:=by
 obtain⟨m,⟨o,es,ep,ho,r⟩,_⟩:=id I.loc
 obtain⟨sl,hL⟩:=u.any ho I.free fun z=>(hch _ z).2.1 rfl
 exact I.step (ch:=ch) hch (fun b o hL hb hc e n=>u.keep b o e n (fun z=>(List.mem_cons.mp (I.stkSub b z)).elim hL hb) hc) (fun b o _ _ hc e n=>u.any e n hc) (fun b o hc e n=>u.free b o e n hc) (fun b o hc e=>u.there b o e hc) u.tups u.frzs u.tbls (fun m' hm=>by
  obtain⟨o',es',ep',ho',r'⟩:=hm
  rw[ho]at ho';cases ho'
  exact⟨_,es',ep',hL,r'⟩) hok hg
theorem Inv.turned {t':Nat}{it:Addr}(I:Inv X pins σ H s)(k:∀b o,b≠it→s.heap.get? b=some o→h'.get? b=some o)(hn:H it=none)(hL:it≠X.env.locals)
  (h1:it∈X.ex∨X.s₀.heap.objs.size≤it) (h2:∀x c,X.env.cells.lookup x=some c→c≠it) (h3:∀p∈X.pn++pins,p.1≠it):Inv X pins σ H {s with heap:=h',toks:=t'}:=by
 have nit:∀b u,H b=some u→b≠it:=fun b u e z=>by rw[z,hn]at e;cases e
 refine I.step (g':=s.gens) (d':=s.drawn) (ch:=[it]) (fun b hb=>?_) (fun b o _ _ hc e _=>k b o (fun z=>hc (by simp[z])) e) (fun b o _ _ hc e _=>⟨o.slots,k b o (fun z=>hc (by simp[z])) e⟩) (fun _ _ _ _ n=>n)
  (fun b o hc e=>⟨o,k b o (fun z=>hc (by simp[z])) e⟩) (fun _ _ e=>e) (fun _ _ _ e=>e) (fun b ps e=>⟨#[],by rw[e];simp⟩) (fun m hm=>?_) (fun b u e=>?_) I.bare
 ·have e:b=it:=by simpa using hb
  subst e
  exact⟨h1,hL,h2,h3⟩
 ·obtain⟨o,es,ep,ho,r⟩:=hm
  exact⟨o,es,ep,k _ o (Ne.symm hL) ho,r⟩
 ·refine(I.hok b u e).stay (fun c v hc q=>k c v ?_ q) (fun _ q=>q) fun _ _ q=>q
  rcases hc with z|z
  ·rw[z];exact nit b u e
  ·exact nit c _ z
theorem Inv.tok (I:Inv X pins σ H s)(t:Nat):Inv X pins σ H {s with toks:=t}:=I.un (h':=s.heap) (t':=t) Un.refl I.hok
theorem Inv.kept {t':Nat}(I:Inv X pins σ H s)(k:∀b u,s.heap.get? b=some u→h'.get? b=some u):Inv X pins σ H {s with heap:=h',toks:=t'}:=I.un (Un.kept k) (I.hok.kept k)
theorem Inv.laid {a:Addr}{o:HO}{t':Nat}(I:Inv X pins σ H s)(k:∀b u,s.heap.get? b=some u→h'.get? b=some u)(hp:s.heap.objs.size≤a)(new:ObjOk X.prog X.w (upd H a o) h' a o):
  Inv X pins σ (upd H a o) {s with heap:=h',toks:=t'}:=I.un (Un.laid k hp (I.hok.fresh hp)) (I.hok.laid k hp new)
theorem Inv.write {x e:Addr}{o:HO}{t':Nat}(I:Inv X pins σ H s)(mu:Mut (H x))(he:e=x∨H e=some (.own x))(k:∀b u,b≠e→s.heap.get? b=some u→h'.get? b=some u)(heo:∃u,h'.get? e=some u)
  (new:ObjOk X.prog X.w (upd H x o) h' x o):Inv X pins σ (upd H x o) {s with heap:=h',toks:=t'}:=I.un (Un.write mu he k heo) (I.hok.write mu he k heo new)
theorem Inv.pins_of {pins':List (Addr×Obj)}(I:Inv X pins σ H s)(h:∀p∈pins',s.heap.get? p.1=some p.2∧H p.1=none∧p.1≠X.env.locals∧p.1∉X.fs∧∀v,p.2.data≠.cell v):Inv X pins' σ H s :=
 ⟨I.ok,I.os,I.bare,I.base,I.loc,I.cell,I.free,I.freeC,fun p hp=>(List.mem_append.mp hp).elim (fun z=>I.pin p (List.mem_append_left _ z)) (h p),I.hok,I.len⟩
theorem nodup_ix {N:List Str}(hN:N.Nodup){i j:Nat}{x:Str}(a:N[i]?=some x)(b:N[j]?=some x):i=j:=by
 obtain⟨h1,e1⟩:=List.getElem?_eq_some_iff.mp a
 obtain⟨h2,e2⟩:=List.getElem?_eq_some_iff.mp b
 exact(List.getElem_inj hN).mp (e1.trans e2.symm)
theorem store_ok2 {M:Model}{A:Around}{E:Value→Shared→Prop}{i:Nat}{x:Str}{v:V}{u:Value}{Q:Unit→Shared→Prop}(I:Inv X pins σ H s)(hN:X.N.Nodup)(hi:X.N[i]?=some x)(hx:Loc X.env.scope x)(r:RelV v u)
  (h:∀s',Inv X pins (σ.set i (some v)) H s'→(∃a,Heap.SameBut a s.heap s'.heap∧(a=X.env.locals∨X.env.cells.lookup x=some a))→Q () s') (hf:X.fn x=true∨X.env.scope.names.lookup x=some .local:=by first|exact .inl rfl|exact .inr rfl|assumption):wpAny M A (storeName X.env x u) Q E s:=by
 obtain⟨m,hn,hl⟩:=id I.loc
 have hcls:(X.env.scope.kind==.class||(X.env.scope.kind==.module&&X.env.locals !=X.env.globals))=false:=by rw[I.ok.kind];rfl
 have hiσ:i<σ.length:=by rw[I.len];exact(List.getElem?_eq_some_iff.mp hi).1
 have cne:=I.cne
 have tracked:∀{a:Addr} {h':Heap},(∃o,s.heap.get? a=some o∧H a=none)→Heap.SameBut a s.heap h'→HOk X.prog X.w H h':=fun{a h'} ha hs b ob e=>by
  obtain⟨_,_,hfree⟩:=ha
  refine(I.hok b ob e).stay (fun c w' hc q=>(hs.2 c ?_).trans q) (fun _ q=>q) fun _ _ q=>q
  rintro rfl
  rcases hc with rfl|hc
  ·rw[hfree]at e;cases e
  ·rw[hfree]at hc;cases hc
 rcases hx with hk|hk
 ·refine wpAny_storeName_local hk hn (fun h' hn' hs=>?_) hcls
  obtain⟨oL,_,_,hoL,_⟩:=id hn
  refine h _ ⟨I.ok,I.os,I.bare,⟨fun b o e n hb hx=>?_,fun b o e n hb hx=>?_,I.base.free,fun b o e hx=>?_,I.base.tups,I.base.frzs,I.base.tbls⟩,⟨_,hn',fun j y v' e1 e2 e3=>?_⟩,fun y c e=>?_,I.free,I.freeC,fun p hp=>?_,tracked ⟨oL,hoL,I.free⟩ hs,by simpa using I.len⟩ ⟨_,hs, .inl rfl⟩
  ·exact(hs.2 b (Nat.ne_of_lt (Nat.lt_of_lt_of_le (Heap.lt_size e) I.ok.above))).trans (I.base.keep b o e n hb hx)
  ·obtain⟨sl,e1⟩:=I.base.slot b o e n hb hx
   exact⟨sl,(hs.2 b (Nat.ne_of_lt (Nat.lt_of_lt_of_le (Heap.lt_size e) I.ok.above))).trans e1⟩
  ·obtain⟨o',e1⟩:=I.base.there b o e hx
   exact⟨o',(hs.2 b (Nat.ne_of_lt (Nat.lt_of_lt_of_le (Heap.lt_size e) I.ok.above))).trans e1⟩
  ·by_cases hj:j=i
   ·subst hj
    rw[hi]at e1;cases e1
    rw[List.getElem?_set_self hiσ]at e2
    cases e2
    exact⟨u,r, .inl ⟨hk,by simp⟩⟩
   ·rw[List.getElem?_set_ne (Ne.symm hj)]at e2
    obtain⟨u',r',q⟩:=hl j y v' e1 e2 e3
    refine⟨u',r',?_⟩
    rcases q with ⟨k,e⟩|⟨k,c,e,z⟩
    ·refine .inl ⟨k,?_⟩
     have:y≠x:=fun e=>hj (nodup_ix hN e1 (e ▸ hi))
     simp[this,e]
    ·exact .inr ⟨k,c,e,z.sameBut hs (cne y c e)⟩
  ·obtain⟨w',z⟩:=I.cell y c e
   exact⟨w',z.sameBut hs (cne y c e)⟩
  ·obtain⟨e,n,ne,nf,d⟩:=I.pin p hp
   exact⟨(hs.2 p.1 ne).trans e,n,ne,nf,d⟩
 ·have hfn:X.fn x=true:=by
   rcases hf with z|z
   ·exact z
   ·rw[z]at hk;cases hk
  obtain⟨c,hc⟩:=I.ok.has x (.inl hk)
  obtain⟨w',z⟩:=I.cell x c hc
  refine wpAny_storeName_cell I.ok.kind hk hc z (fun h' hc' hs=>?_)
  obtain⟨oc,hoc,hocd⟩:=id z
  refine h {s with heap:=h'} ⟨I.ok,I.os,I.bare,⟨fun b o e n hb hx=>?_,fun b o e n hb hx=>?_,I.base.free,fun b o e hx=>?_,I.base.tups,I.base.frzs,I.base.tbls⟩,⟨m,hn.sameBut hs (Ne.symm (cne x c hc)),fun j y v' e1 e2 e3=>?_⟩,fun y c' e=>?_,I.free,I.freeC,fun p hp=>?_,tracked ⟨oc,hoc,I.freeC x c hc⟩ hs,by simpa using I.len⟩ ⟨c,hs, .inr hc⟩
  ·exact(hs.2 b (Nat.ne_of_lt (Nat.lt_of_lt_of_le (Heap.lt_size e) (I.ok.cab x c hfn hc)))).trans (I.base.keep b o e n hb hx)
  ·obtain⟨sl,e1⟩:=I.base.slot b o e n hb hx
   exact⟨sl,(hs.2 b (Nat.ne_of_lt (Nat.lt_of_lt_of_le (Heap.lt_size e) (I.ok.cab x c hfn hc)))).trans e1⟩
  ·obtain⟨o',e1⟩:=I.base.there b o e hx
   exact⟨o',(hs.2 b (Nat.ne_of_lt (Nat.lt_of_lt_of_le (Heap.lt_size e) (I.ok.cab x c hfn hc)))).trans e1⟩
  ·by_cases hj:j=i
   ·subst hj
    rw[hi]at e1;cases e1
    rw[List.getElem?_set_self hiσ]at e2
    cases e2
    exact⟨u,r, .inr ⟨.inl hk,c,hc,hc'⟩⟩
   ·rw[List.getElem?_set_ne (Ne.symm hj)]at e2
    obtain⟨u',r',q⟩:=hl j y v' e1 e2 e3
    refine⟨u',r',?_⟩
    rcases q with q|⟨k,c',e,z'⟩
    ·exact .inl q
    ·refine .inr ⟨k,c',e,z'.sameBut hs ?_⟩
     rintro rfl
     exact hj (nodup_ix hN e1 (I.ok.inj _ _ _ e hc ▸ hi))
  ·by_cases hcc:c'=c
   ·subst hcc;exact⟨_,hc'⟩
   ·obtain⟨w2,z2⟩:=I.cell y c' e
    exact⟨w2,z2.sameBut hs hcc⟩
  ·obtain⟨e,n,ne,nf,d⟩:=I.pin p hp
   refine⟨(hs.2 p.1 ?_).trans e,n,ne,nf,d⟩
   intro q
   rw[q,hoc]at e
   have q':oc=p.2:=Option.some.inj e
   exact d w' (by rw[←q'];exact hocd)
theorem store_ok {M:Model}{A:Around}{E:Value→Shared→Prop}{i:Nat}{x:Str}{v:V}{u:Value}{Q:Unit→Shared→Prop}(I:Inv X pins σ H s)(hN:X.N.Nodup)(hi:X.N[i]?=some x)(hx:Loc X.env.scope x)(r:RelV v u)
  (h:∀s',Inv X pins (σ.set i (some v)) H s'→Q () s') (hf:X.fn x=true∨X.env.scope.names.lookup x=some .local:=by first|exact .inl rfl|exact .inr rfl|assumption):wpAny M A (storeName X.env x u) Q E s :=
 store_ok2 I hN hi hx r (fun s' I' _=>h s' I') hf
theorem Inv.call' {s':Shared}{ch:List Addr}(I:Inv X pins σ H s)(ho:s'.os=s.os)(u:Un (frs X.stack) ch H H' s.heap s'.heap)(hok:HOk X.prog X.w H' s'.heap)(hg:AllBare s'.gens)
  (hch:∀b∈ch,(b∈X.ex∨X.s₀.heap.objs.size≤b)∧b≠X.env.locals∧(∀x c,X.env.cells.lookup x=some c→c≠b)∧∀p∈X.pn++pins,p.1≠b):Inv X pins σ H' s':=by
 obtain⟨h',g',d',t',o'⟩:=s'
 have e:o'=s.os:=ho
 subst e
 exact I.call (g':=g') (t':=t') (d':=d') u hok hg hch
end
abbrev XK:=Value→Option Addr→Hp→Prop
abbrev St:=List (Option V)
abbrev VK:=V→Hp→Prop
abbrev TE:=St→Hp→VK→Prop
abbrev TT:=St→Hp→(Bool→Hp→Prop)→Prop
abbrev TA:=St→Hp→(List V→Hp→Prop)→Prop
structure Ends where
 nx:St→Hp→Prop
 rt:VK
 bk:St→Hp→Prop:=fun _ _=>False
 ct:St→Hp→Prop:=fun _ _=>False
abbrev TS:=Ends→St→Hp→Prop
def Ends.of (Q:VK):Ends:={nx:=fun _ H'=>Q .non H',rt:=Q}
def Ends.lp (D:Ends)(n:St→Hp→Prop):Ends:={D with nx:=n,ct:=n,bk:=D.nx}
def EP (X:Cx)(pins:List (Addr×Obj))(σ:St)(Q:VK)(u:Value)(s':Shared):Prop:=∃v H',Inv X pins σ H' s'∧RelV v u∧Q v H'
def TP (X:Cx)(pins:List (Addr×Obj))(σ:St)(Q:Bool→Hp→Prop)(b:Bool)(s':Shared):Prop:=∃H',Inv X pins σ H' s'∧Q b H'
def AP (X:Cx)(pins:List (Addr×Obj))(σ:St)(Q:List V→Hp→Prop)(us:List Value)(s':Shared):Prop:=∃vs H',Inv X pins σ H' s'∧Vals vs us∧Q vs H'
def SP (X:Cx)(pins:List (Addr×Obj))(D:Ends)(f:Flow)(s':Shared):Prop :=
 match f with
 |.next=>∃σ' H',Inv X pins σ' H' s'∧D.nx σ' H'
 |.brk=>∃σ' H',Inv X pins σ' H' s'∧D.bk σ' H'
 |.cont=>∃σ' H',Inv X pins σ' H' s'∧D.ct σ' H'
 |.ret u=>∃v σ' H',Inv X pins σ' H' s'∧RelV v u∧D.rt v H'
def PE (X:Cx)(e:Expr)(t:TE):Prop :=
 ∀(pins:List (Addr×Obj)) (s:Shared) (σ:St) (H:Hp) (Q:VK),Inv X pins σ H s→t σ H Q→wpAny (model X.prog X.w) X.A (eval e X.env) (EP X pins σ Q) X.xe s
def PT (X:Cx)(e:Expr)(t:TT):Prop :=
 ∀(pins:List (Addr×Obj)) (s:Shared) (σ:St) (H:Hp) (Q:Bool→Hp→Prop),Inv X pins σ H s→t σ H Q→wpAny (model X.prog X.w) X.A (isTrue e X.env (eval e X.env)) (TP X pins σ Q) X.xe s
def PW (X:Cx)(e:Expr)(t:TT):Prop :=
 ∀(whole:Sem Value) (pins:List (Addr×Obj)) (s:Shared) (σ:St) (H:Hp) (Q:Bool→Hp→Prop),Inv X pins σ H s→t σ H Q→wpAny (model X.prog X.w) X.A (isTrue e X.env whole) (TP X pins σ Q) X.xe s
theorem PW.pt {X:Cx}{e:Expr}{t:TT}(h:PW X e t):PT X e t:=h _
def PA (X:Cx)(es:List Expr)(t:TA):Prop :=
 ∀(pos:Pos) (pins:List (Addr×Obj)) (s:Shared) (σ:St) (H:Hp) (Q:List V→Hp→Prop),Inv X pins σ H s→t σ H Q→wpAny (model X.prog X.w) X.A (spliced (backTo pos (starEach es X.env))) (AP X pins σ Q) X.xe s
def PS (X:Cx)(st:Stmt)(t:TS):Prop :=
 ∀(pins:List (Addr×Obj)) (s:Shared) (σ:St) (H:Hp) (D:Ends),Inv X pins σ H s→t D σ H→wpAny (model X.prog X.w) X.A (exec st X.env) (SP X pins D) X.xe s
def PSs (X:Cx)(st:List Stmt)(t:TS):Prop :=
 ∀(pins:List (Addr×Obj)) (s:Shared) (σ:St) (H:Hp) (D:Ends),Inv X pins σ H s→t D σ H→wpAny (model X.prog X.w) X.A (execs st X.env) (SP X pins D) X.xe s
theorem thn {α:Type}{t:Sem α}{Q Q':α→Shared→Prop}{M:Model}{A:Around}{E:Value→Shared→Prop}{s:Shared}(h:wpAny M A t Q E s)(hQ:∀a s,Q a s→Q' a s):wpAny M A t Q' E s:=wpAny_mono h hQ fun _ _ x=>x
section
variable {X:Cx}
inductive tVar_ (i:Nat)(σ:St)(H:Hp)(Q:VK):Prop where
 |mk (v):(σ[i]?=some (some v))→(Q v H)→tVar_ i σ H Q
def tVar (i:Nat):TE:=tVar_ i
def tC (v:V):TE:=fun _ H Q=>Q v H
theorem pe_var {i:Nat}{x:Str}{pos:Pos}(hN:X.N[i]?=some x)(hv:Vis X.env.scope x)(hd:(x==("__debug__":Str))=false:=by decide)(hcd:(x==("__classdict__":Str))=false:=by decide):PE X (.Name x pos) (tVar i):=by
 intro pins s σ H Q I h
 obtain⟨v,e,h⟩:=h
 obtain⟨m,hn,hl⟩:=I.loc
 obtain⟨u,r,l⟩:=hl i x v hN e hv
 have fin:EP X pins σ Q u s:=⟨v,H,I,r,h⟩
 rcases l with ⟨hk,hm⟩|⟨hk,c,hc,hcell⟩
 ·exact wpAny_Name (wpAny_loadName_local I.ok.kind hk hn hm fin) hd
 ·rcases hk with hk|hk
  ·exact wpAny_Name (wpAny_loadName_cell I.ok.kind hk hc hcell fin) hd
  ·exact wpAny_Name (wpAny_loadName_free I.ok.kind hk hc hcell fin hcd) hd
theorem pe_int {i j pos}:PE X (.Constant (.int i) j pos) (tC (.int i)):=fun _ _ _ H _ I h=>wpAny_Constant_int ⟨.int i,H,I.tok _,⟨_,rfl⟩,h⟩
theorem pe_bl {b j pos}:PE X (.Constant (.bool b) j pos) (tC (.bl b)):=fun _ _ _ H _ I h=>Constant_bool ⟨.bl b,H,I,rfl,h⟩
theorem pe_str {x j pos}:PE X (.Constant (.str x) j pos) (tC (.str x)):=fun _ _ _ H _ I h=>Calls.Constant_str ⟨.str x,H,I.tok _,⟨_,rfl⟩,h⟩
def Gl (X:Cx)(x:Str):Prop:=X.env.kindOf x=some .globalImplicit
theorem ld_glob {E:Value→Shared→Prop}{pins:List (Addr×Obj)}{s:Shared}{σ:St}{H:Hp}{x:Str}{u:Value}{pos:Pos}{Q:Value→Shared→Prop}(I:Inv X pins σ H s)(hg:Gl X x)(hm:X.mg x=some u)(h:Q u s)
  (hd:(x==("__debug__":Str))=false:=by decide):wpAny (model X.prog X.w) X.A (eval (.Name x pos) X.env) Q E s :=
 Calls.Name_function_global I.ok.kind hg (Calls.loadGlobal_global (by rw[I.ok.glob];exact I.mod.glob.keeps I.bk) hm h) hd
theorem ld_blt {E:Value→Shared→Prop}{pins:List (Addr×Obj)}{s:Shared}{σ:St}{H:Hp}{x:Str}{u:Value}{pos:Pos}{Q:Value→Shared→Prop}(I:Inv X pins σ H s)(hg:Gl X x)(hm:X.mg x=none)(hv:bootBuiltins x=some u)(h:Q u s)
  (hn:x≠"__name__":=by decide) (hd:(x==("__debug__":Str))=false:=by decide):wpAny (model X.prog X.w) X.A (eval (.Name x pos) X.env) Q E s:=by
 obtain⟨mb,h1,h2⟩:=I.mod.blt
 exact Calls.Name_function_global I.ok.kind hg (Calls.loadGlobal_builtin (by rw[I.ok.glob];exact I.mod.glob.keeps I.bk) hm (by rw[I.ok.blt];exact h1.keeps I.bk) ((h2 x hn).trans hv) h) hd
theorem pe_glob {x:Str}{v:V}{u:Value}{pos:Pos}(hg:Gl X x)(hm:X.mg x=some u)(r:RelV v u)(hd:(x==("__debug__":Str))=false:=by decide):PE X (.Name x pos) (tC v) :=
 fun _ _ _ H _ I h=>ld_glob I hg hm ⟨v,H,I,r,h⟩ hd
theorem pe_bltn {x:Str}{v:V}{u:Value}{pos:Pos}(hg:Gl X x)(hm:X.mg x=none)(hv:bootBuiltins x=some u)(r:RelV v u)(hn:x≠"__name__":=by decide)(hd:(x==("__debug__":Str))=false:=by decide):PE X (.Name x pos) (tC v) :=
 fun _ _ _ H _ I h=>ld_blt I hg hm hv ⟨v,H,I,r,h⟩ hn hd
variable {a b:Expr}{ta tb:TE}{pos:Pos}
def PC (X:Cx)(op:CmpOp)(a b:Expr)(t:TE):Prop :=
 ∀(pins:List (Addr×Obj)) (s:Shared) (σ:St) (H:Hp) (Q:VK),Inv X pins σ H s→t σ H Q→
  wpAny (model X.prog X.w) X.A (eval a X.env) (fun v s₁=>wpAny (model X.prog X.w) X.A (eval b X.env) (fun u s₂=>wpAny (model X.prog X.w) X.A (compareOp op v u) (EP X pins σ Q) X.xe s₂) X.xe s₁) X.xe s
def tB (t:TE):TT:=fun σ H Q=>t σ H fun x H1=>∃c,x=.bl c∧Q c H1
theorem pt_cmp {op:CmpOp}{t:TE}(h:PC X op a b t)(h1:behindInMarks op b=false):PT X (.Compare a [op] [b] pos) (tB t):=by
 intro pins s σ H Q I hw
 refine wpAny_isTrue_Compare1 (thn (h pins s σ H _ I hw) fun v s1 h1=>thn h1 fun u s2 h2=>thn h2 fun c s3 ⟨x,H1,I1,r1,q1⟩=>?_) h1
 obtain⟨d,rfl,q⟩:=q1
 cases r1
 exact wpAny_truthy_bool ⟨H1,I1,q⟩
theorem pt_val {e:Expr}{t:TE}(h:PE X e t)(he:∀whole,isTrue e X.env whole=(do let v ←whole;standAt e.pos;holding [v] (truthy v)):=by intro _;rfl):PT X e (tB t):=by
 intro pins s σ H Q I hw
 refine isTrue_plain (thn (h pins s σ H _ I hw) fun v s1 ⟨x,H1,I1,r1,q1⟩=>?_) (he _)
 obtain⟨d,rfl,q⟩:=q1
 cases r1
 exact wpAny_truthy_bool ⟨H1,I1,q⟩
variable {tA tB':TT}{rest:List Expr}
def tOr (t u:TT):TT:=fun σ H Q=>t σ H fun c H1=>if c=true then Q true H1 else u σ H1 Q
def tNot (t:TT):TT:=fun σ H Q=>t σ H fun c H1=>Q (!c) H1
theorem pw_or1 (ha:PT X a tA):PW X (.BoolOp .Or [a] pos) tA:=by
 intro wh pins s σ H Q I h
 refine isTrue_or (thn (ha pins s σ H Q I h) fun c s1 e=>?_)
 cases c with
 |false=>exact isTrue_or_nil e
 |true=>exact e
theorem pw_or (ha:PT X a tA)(hb:PW X (.BoolOp .Or (b::rest) pos) tB'):PW X (.BoolOp .Or (a::b::rest) pos) (tOr tA tB'):=by
 intro wh pins s σ H Q I h
 refine isTrue_or (thn (ha pins s σ H _ I h) fun c s1 ⟨H1,I1,q1⟩=>?_)
 cases c with
 |true=>exact⟨H1,I1,q1⟩
 |false=>exact hb wh pins s1 σ H1 Q I1 q1
theorem pt_not (ha:PT X a tA):PT X (.UnaryOp .Not a pos) (tNot tA):=by
 intro pins s σ H Q I h
 exact isTrue_not (ha pins s σ H (fun c H1=>Q (!c) H1) I h)
def tAndV (ta tb:TE):TE:=fun σ H Q=>ta σ H fun x H1=>∃c,x=.bl c∧if c=true then tb σ H1 Q else Q (.bl false) H1
theorem pe_one {op}{t:TE}(h:PE X a t):PE X (.BoolOp op [a] pos) t:=fun pins s σ H Q I hw=>BoolOp_one (h pins s σ H Q I hw)
theorem pe_and (ha:PE X a ta)(hb:PE X (.BoolOp .And (b::rest) pos) tb):PE X (.BoolOp .And (a::b::rest) pos) (tAndV ta tb):=by
 intro pins s σ H Q I h
 refine BoolOp_and (thn (ha pins s σ H _ I h) fun v s1 ⟨x,H1,I1,r1,q1⟩=>?_)
 obtain⟨c,rfl,q1⟩:=q1
 cases r1
 refine wpAny_truthy_bool ?_
 cases c with
 |true=>exact hb pins s1 σ H1 Q I1 q1
 |false=>exact⟨.bl false,H1,I1,rfl,q1⟩
def tIf (t:TT)(ta tb:TE):TE:=fun σ H Q=>t σ H fun c H1=>if c=true then ta σ H1 Q else tb σ H1 Q
theorem pe_ifExp {c:Expr}(hc:PT X c tA)(ha:PE X a ta)(hb:PE X b tb):PE X (.IfExp c a b pos) (tIf tA ta tb):=by
 intro pins s σ H Q I h
 refine wpAny_IfExp (thn (hc pins s σ H _ I h) fun d s1 ⟨H1,I1,q1⟩=>?_)
 cases d with
 |true=>exact ha pins s1 σ H1 Q I1 q1
 |false=>exact hb pins s1 σ H1 Q I1 q1
end
def SqL (K:PySem.W.Frag)(H:Hp)(a:Addr)(xs:List V):Prop :=
 Rd H a (.lst xs)∨
  ∃(o:Obj) (its:Array Value) (n:Nat),K.lookup a=some o∧o.cls=.type "list"∧o.dict=none∧o.data=.seq its n∧its.size≤sizeLine∧Vals xs its.toList
def SqT (K:PySem.W.Frag)(H:Hp)(a:Addr)(xs:List V):Prop :=
 Rd H a (.tup xs)∨
  ∃(o:Obj) (its:Array Value) (n:Nat),K.lookup a=some o∧o.cls=.type "tuple"∧o.data=.seq its n∧its.size≤sizeLine∧Vals xs its.toList
def absV:Value→Option V
 |.none=>some .non
 |.bool b=>some (.bl b)
 |.int i _=>some (.int i)
 |.str x _=>some (.str x)
 |.bytes b _=>some (.byt b)
 |.float b _=>some (.flt b)
 |.ref a=>some (.ref a)
 |.type n=>some (.ty n)
 |_=>none
theorem RelV.abs {x:V}{u:Value}(r:RelV x u):absV u=some x:=by
 cases x with
 |non=>cases r;rfl
 |bl _=>cases r;rfl
 |int _=>obtain⟨t,rfl⟩:=r;rfl
 |str _=>obtain⟨t,rfl⟩:=r;rfl
 |byt _=>obtain⟨t,rfl⟩:=r;rfl
 |flt _=>obtain⟨t,rfl⟩:=r;rfl
 |ref _=>cases r;rfl
 |ty _=>cases r;rfl
theorem RelV.inj {x y:V}{u:Value}(r:RelV x u)(q:RelV y u):x=y:=Option.some.inj (r.abs.symm.trans q.abs)
theorem Vals.inj {xs ys:List V}{us:List Value}(h:Vals xs us)(k:Vals ys us):xs=ys:=by
 induction h generalizing ys with
 |nil=>cases k;rfl
 |cons r _ ih=>cases k with
  |cons q t=>rw[r.inj q,ih t]
section
variable {X:Cx}{pins:List (Addr×Obj)}{σ:St}{H:Hp}{s:Shared}{a:Addr}{xs ys:List V}
theorem SqL.of {K:PySem.W.Frag}(h:H a=some (.lst xs)):SqL K H a xs:=.inl (.inl h)
theorem SqT.of {K:PySem.W.Frag}(h:H a=some (.tup xs)):SqT K H a xs:=.inl (.inl h)
theorem Inv.list (I:Inv X pins σ H s)(h:SqL X.K H a xs):∃its:List Value,Vals xs its∧PlainL s.heap a its.toArray∧xs.length≤sizeLine:=by
 rcases h with h|⟨o,its,n,hk,hc,hd,hs,hz,r⟩
 ·obtain⟨z,its,n,r,e⟩:=h.ok I.hok
  exact⟨its,r,⟨_,n,e,rfl,rfl,rfl⟩,z⟩
 ·refine⟨its.toList,r,⟨o,n,I.kIn a o hk,hc,hd,by simpa using hs⟩,?_⟩
  have e:=r.length
  simp only[Array.length_toList]at e
  omega
theorem Inv.tuple (I:Inv X pins σ H s)(h:SqT X.K H a xs):∃its:List Value,Vals xs its∧IsTup s.heap a its.toArray∧xs.length≤sizeLine:=by
 rcases h with h|⟨o,its,n,hk,hc,hs,hz,r⟩
 ·obtain⟨z,its,r,p⟩:=h.ok I.hok
  exact⟨its,r,p,z⟩
 ·refine⟨its.toList,r,⟨o,I.kIn a o hk,hc,n,by simpa using hs⟩,?_⟩
  have e:=r.length
  simp only[Array.length_toList]at e
  omega
theorem Inv.list_inj (I:Inv X pins σ H s)(h:SqL X.K H a xs)(h':SqL X.K H a ys):xs=ys:=by
 obtain⟨its,r,⟨o,n,e,_,_,d⟩,_⟩:=I.list h
 obtain⟨its',r',⟨o',n',e',_,_,d'⟩,_⟩:=I.list h'
 rw[e]at e';cases e'
 rw[d]at d'
 injection d' with d1 _
 have:its=its':=by simpa using congrArg Array.toList d1
 subst this
 exact r.inj r'
theorem Inv.tuple_inj (I:Inv X pins σ H s)(h:SqT X.K H a xs)(h':SqT X.K H a ys):xs=ys:=by
 obtain⟨its,r,⟨o,e,_,n,d⟩,_⟩:=I.tuple h
 obtain⟨its',r',⟨o',e',_,n',d'⟩,_⟩:=I.tuple h'
 rw[e]at e';cases e'
 rw[d]at d'
 injection d' with d1 _
 have:its=its':=by simpa using congrArg Array.toList d1
 subst this
 exact r.inj r'
end
abbrev Cx.wish (X:Cx)(E:Value→Shared→Prop):Cx:={X with xe:=E}
abbrev Cx.nox (X:Cx):Cx:=X.wish fun _ _=>False
theorem Cx.Ok.wish {X:Cx}(ok:X.Ok)(E:Value→Shared→Prop):(X.wish E).Ok :=
 ⟨ok.mod,ok.kind,ok.glob,ok.blt,ok.above,ok.inj,ok.has,ok.cab,ok.hd,ok.frames,ok.stk,ok.exf,ok.bs,ok.bsz,ok.noex,ok.exfs,ok.funs,ok.frf⟩
theorem Cx.Ok.unwish {X:Cx}{E:Value→Shared→Prop}(ok:(X.wish E).Ok):X.Ok :=
 ⟨ok.mod,ok.kind,ok.glob,ok.blt,ok.above,ok.inj,ok.has,ok.cab,ok.hd,ok.frames,ok.stk,ok.exf,ok.bs,ok.bsz,ok.noex,ok.exfs,ok.funs,ok.frf⟩
section
variable {X:Cx}{pins:List (Addr×Obj)}{σ:St}{H:Hp}{s:Shared}{E:Value→Shared→Prop}
theorem Inv.wish (I:Inv X pins σ H s)(E:Value→Shared→Prop):Inv (X.wish E) pins σ H s:=⟨I.ok.wish E,I.os,I.bare,I.base,I.loc,I.cell,I.free,I.freeC,I.pin,I.hok,I.len⟩
theorem Inv.unwish (I:Inv (X.wish E) pins σ H s):Inv X pins σ H s:=⟨I.ok.unwish,I.os,I.bare,I.base,I.loc,I.cell,I.free,I.freeC,I.pin,I.hok,I.len⟩
theorem SP.unwish {D:Ends}{f:Flow}{s':Shared}(h:SP (X.wish E) pins D f s'):SP X pins D f s':=by
 cases f with
 |next=>obtain⟨σ',H',I,q⟩:=h;exact⟨σ',H',I.unwish,q⟩
 |brk=>obtain⟨σ',H',I,q⟩:=h;exact⟨σ',H',I.unwish,q⟩
 |cont=>obtain⟨σ',H',I,q⟩:=h;exact⟨σ',H',I.unwish,q⟩
 |ret u=>obtain⟨v,σ',H',I,r,q⟩:=h;exact⟨v,σ',H',I.unwish,r,q⟩
theorem PSs.nox {st:List Stmt}{t:TS}(h:PSs X.nox st t):PSs X st t:=fun pins s σ H D I hw=>
 wpAny_mono (h pins s σ H D (I.wish _) hw) (fun _ _ q=>q.unwish) fun _ _ z=>False.elim z
end
section
variable {X:Cx}{st:Stmt}{rest:List Stmt}{t u:TS}{e:Expr}{te:TE}{pos:Pos}
def tNext:TS:=fun D σ H=>D.nx σ H
def Ends.to (D:Ends)(n:St→Hp→Prop):Ends:={D with nx:=n}
def tSeq (t u:TS):TS:=fun D σ H=>t (D.to (u D)) σ H
theorem pss_nil:PSs X [] tNext:=fun _ _ σ H _ I h=>wpAny_execs_nil ⟨σ,H,I,h⟩
theorem pss_cons (h1:PS X st t)(h2:PSs X rest u):PSs X (st::rest) (tSeq t u):=by
 intro pins s σ H D I h
 refine wpAny_execs_cons (thn (h1 pins s σ H {D with nx:=u D} I h) fun f s1 q=>?_)
 cases f with
 |next=>
  obtain⟨σ',H',I',q⟩:=q
  exact h2 pins s1 σ' H' D I' q
 |ret v=>exact q
 |brk=>exact q
 |cont=>exact q
theorem pss_one (h1:PS X st t):PSs X [st] t:=by
 intro pins s σ H D I h
 refine wpAny_execs_cons (thn (h1 pins s σ H D I h) fun f s1 q=>?_)
 cases f with
 |next=>exact wpAny_execs_nil q
 |ret v=>exact q
 |brk=>exact q
 |cont=>exact q
theorem Inv.quiet {pins:List (Addr×Obj)}{σ:St}{H:Hp}{s:Shared}(I:Inv X pins σ H s):interactive X.env=false:=by simp[interactive,I.ok.kind]
def tDrop (te:TE):TS:=fun D σ H=>te σ H fun _ H1=>D.nx σ H1
theorem ps_expr (he:PE X e te)(hs:swapsWith e none pos.line X.env=pure false:=by rfl):PS X (.Expr e pos) (tDrop te):=by
 intro pins s σ H D I h
 exact wpAny_Expr_any (thn (he pins s σ H _ I h) fun v s1 ⟨x,H1,I1,r1,q1⟩=>⟨σ,H1,I1,q1⟩) I.quiet hs
def tRet (te:TE):TS:=fun D σ H=>te σ H D.rt
theorem ps_ret (he:PE X e te):PS X (.Return (some e) pos) (tRet te):=by
 intro pins s σ H D I h
 exact wpAny_Return_some (thn (he pins s σ H _ I h) fun v s1 ⟨x,H1,I1,r1,q1⟩=>⟨x,σ,H1,I1,r1,q1⟩)
def tIfS (c:TT)(t u:TS):TS:=fun D σ H=>c σ H fun b H1=>if b=true then t D σ H1 else u D σ H1
theorem ps_if {c:Expr}{a b:List Stmt}{tc:TT}(hc:PT X c tc)(ha:PSs X a t)(hb:PSs X b u):PS X (.If c a b pos) (tIfS tc t u):=by
 intro pins s σ H D I h
 refine wpAny_If (thn (hc pins s σ H _ I h) fun d s1 ⟨H1,I1,q1⟩=>?_)
 cases d with
 |true=>exact ha pins s1 σ H1 D I1 q1
 |false=>exact hb pins s1 σ H1 D I1 q1
def tNever:TS:=fun _ _ _=>False
theorem pss_never {sts:List Stmt}:PSs X sts tNever:=fun _ _ _ _ _ _ h=>h.elim
end
abbrev TG:=V→St→Hp→(St→Hp→Prop)→Prop
abbrev TGs:=List V→St→Hp→(St→Hp→Prop)→Prop
def PG (X:Cx)(target:Expr)(t:TG):Prop :=
 ∀(pins:List (Addr×Obj)) (s:Shared) (σ:St) (H:Hp) (v:V) (u:Value) (Q:St→Hp→Prop),Inv X pins σ H s→RelV v u→t v σ H Q→
  wpAny (model X.prog X.w) X.A (assign target X.env u) (fun _ s'=>∃σ' H',Inv X pins σ' H' s'∧Q σ' H') X.xe s
def PGs (X:Cx)(ts:List Expr)(t:TGs):Prop :=
 ∀(pins:List (Addr×Obj)) (s:Shared) (σ:St) (H:Hp) (vs:List V) (us:List Value) (Q:St→Hp→Prop),Inv X pins σ H s→Vals vs us→t vs σ H Q→
  wpAny (model X.prog X.w) X.A (assignInOrder ((assignEach ts X.env).map (·.2)) us) (fun _ s'=>∃σ' H',Inv X pins σ' H' s'∧Q σ' H') X.xe s
abbrev TSet:=V→V→V→Hp→(Hp→Prop)→Prop
def PSet (X:Cx)(t:TSet):Prop :=
 ∀(pins:List (Addr×Obj)) (s:Shared) (σ:St) (H:Hp) (o i v:V) (ov iv u:Value) (Q:Hp→Prop),Inv X pins σ H s→RelV o ov→RelV i iv→RelV v u→t o i v H Q→
  wpAny (model X.prog X.w) X.A (setItem ov iv u) (fun _ s'=>∃H',Inv X pins σ H' s'∧Q H') X.xe s
section
variable {X:Cx}{pos:Pos}
def gName (i:Nat):TG:=fun v σ H Q=>Q (σ.set i (some v)) H
theorem pg_name {i:Nat}{x:Str}(hN:X.N.Nodup)(hi:X.N[i]?=some x)(hx:Loc X.env.scope x)(hf:X.fn x=true∨X.env.scope.names.lookup x=some .local:=by first|exact .inl rfl|exact .inr rfl|assumption):PG X (.Name x pos) (gName i):=by
 intro pins s σ H v u Q I r h
 exact wpAny_assign_Name (store_ok I hN hi hx r (fun s' I'=>⟨_,H,I',h⟩) hf)
inductive gNil_ (vs:List V)(σ:St)(H:Hp)(Q:St→Hp→Prop):Prop where
 |mk:(vs=[])→(Q σ H)→gNil_ vs σ H Q
def gNil:TGs:=gNil_
inductive gCons_ (t:TG)(u:TGs)(vs:List V)(σ:St)(H:Hp)(Q:St→Hp→Prop):Prop where
 |mk (v) (r):(vs=v::r)→(t v σ H fun σ' H'=>u r σ' H' Q)→gCons_ t u vs σ H Q
def gCons (t:TG)(u:TGs):TGs:=gCons_ t u
theorem pgs_nil:PGs X [] gNil:=by
 intro pins s σ H vs us Q I r h
 obtain⟨e,h⟩:=h
 subst e
 cases r
 exact assignInOrder_nil ⟨σ,H,I,h⟩
theorem pgs_cons {e:Expr}{es:List Expr}{t:TG}{u:TGs}(h1:PG X e t)(h2:PGs X es u)
  (hs:(assignEach (e::es) X.env).map (·.2)=assign e X.env::(assignEach es X.env).map (·.2):=by rfl):PGs X (e::es) (gCons t u):=by
 intro pins s σ H vs us Q I r h
 obtain⟨v,vr,e1,h⟩:=h
 subst e1
 cases r with
 |cons r rr=>
  rw[hs]
  refine assignInOrder_cons (thn (h1 pins s σ H _ _ _ I r h) fun _ s1 ⟨σ1,H1,I1,q1⟩=>?_)
  exact h2 pins s1 σ1 H1 _ _ Q I1 rr q1
inductive gTup_ (K:PySem.W.Frag)(n:Nat)(t:TGs)(v:V)(σ:St)(H:Hp)(Q:St→Hp→Prop):Prop where
 |mk (a) (xs):(v=.ref a)→(SqT K H a xs)→(xs.length=n)→(t xs σ H Q)→gTup_ K n t v σ H Q
def gTup (K:PySem.W.Frag)(n:Nat)(t:TGs):TG:=gTup_ K n t
theorem pg_tup {es:List Expr}{k:Nat}{t:TGs}{n:Nat}(hc:X.calm=true)(h:PGs X es t)
  (hn:(assignEach es X.env).length=n:=by rfl) (hst:(assignEach es X.env).findIdx? (·.1)=none:=by rfl):PG X (.Tuple es k pos) (gTup X.K n t):=by
 intro pins s σ H v u Q I r hw
 obtain⟨a,xs,e1,hq,hl,hw⟩:=hw
 subst e1
 cases r
 obtain⟨its,rv,ht,hz⟩:=I.tuple hq
 refine assign_Tuple_tuple (I.ok.hd hc) ht (by simp[hn,←hl,rv.length]) hst fun h' hx=>?_
 have I1:Inv X pins σ H {s with heap:=h'}:=I.kept (t':=s.toks) fun b o e=>hx b o (Nat.ne_of_lt (Heap.lt_size e)) e
 exact h pins _ σ H xs _ Q I1 (by simpa using rv) hw
def gSub (to ti:TE)(t:TSet):TG:=fun v σ H Q=>to σ H fun o H1=>ti σ H1 fun i H2=>t o i v H2 fun H3=>Q σ H3
theorem pg_sub {o i:Expr}{to ti:TE}{t:TSet}(ho:PE X o to)(hi:PE X i ti)(hs:PSet X t)
  (ha:∀v,assign (.Subscript o i pos) X.env v=(do
   let ov ←holding [v] (eval o X.env)
   let iv ←holding [v,ov] (eval i X.env)
   standAt pos
   holding [v,ov,iv] (setItem ov iv v)
   release [v,ov,iv] []):=by intro _;rfl):PG X (.Subscript o i pos) (gSub to ti t):=by
 intro pins s σ H v u Q I r h
 rw[ha]
 refine wpAny_bind (wpAny_holding (thn (ho pins s σ H _ I h) fun ov s1 ⟨x,H1,I1,r1,q1⟩=>?_))
 refine wpAny_bind (wpAny_holding (thn (hi pins s1 σ H1 _ I1 q1) fun iv s2 ⟨y,H2,I2,r2,q2⟩=>?_))
 refine wpAny_bind (wpAny_standAt (wpAny_bind (wpAny_holding (thn (hs pins s2 σ H2 x y v ov iv u _ I2 r1 r2 r q2) fun _ s3 ⟨H3,I3,q3⟩=>?_))))
 exact wpAny_release ⟨σ,H3,I3,q3⟩
def tAsg (te:TE)(g:TG):TS:=fun D σ H=>te σ H fun x H1=>g x σ H1 D.nx
theorem ps_asg {tg e:Expr}{te:TE}{g:TG}(he:PE X e te)(hg:PG X tg g)(hs:swapsWithSole [tg] e pos.line X.env=pure false:=by rfl)(hw:swappedStores [tg] e X.env=pure none:=by rfl)
  (h1:(assignEach [tg] X.env).map (·.2)=[assign tg X.env]:=by rfl):PS X (.Assign [tg] e pos) (tAsg te g):=by
 intro pins s σ H D I h
 refine wpAny_Assign_stores (thn (he pins s σ H _ I h) fun v s1 ⟨x,H1,I1,r1,q1⟩=>?_) hs hw
 rw[h1]
 exact thn (hg pins s1 σ H1 x v _ I1 r1 q1) fun _ s2 q=>q
theorem ps_set {i:Nat}{x:Str}{e:Expr}{te:TE}{pos':Pos}(hN:X.N.Nodup)(hi:X.N[i]?=some x)(hx:Loc X.env.scope x)(he:PE X e te)(hs:swapsWith e (some (.Name x pos')) pos.line X.env=pure false:=by rfl)(hf:X.fn x=true∨X.env.scope.names.lookup x=some .local:=by first|exact .inl rfl|exact .inr rfl|assumption):
  PS X (.Assign [.Name x pos'] e pos) (tAsg te (gName i)):=by
 intro pins s σ H D I h
 refine wpAny_Assign_Name (thn (he pins s σ H _ I h) fun v s1 ⟨y,H1,I1,r1,q1⟩=>?_) hs
 exact store_ok I1 hN hi hx r1 (fun s2 I2=>⟨_,H1,I2,q1⟩) hf
inductive tPar_ (i:Nat)(j:Nat)(D:Ends)(σ:St)(vs:List V)(H1:Hp):Prop where
 |mk (v) (w):(vs=[v,w])→(D.nx ((σ.set i (some v)).set j (some w)) H1)→tPar_ i j D σ vs H1
end
section
variable {X:Cx}{pos:Pos}
def tWhile (c:TT)(tb:TS):TS:=fun D σ H=>∃W:Nat→St→Hp→Prop,(∃m,W m σ H)∧∀m σ H,W m σ H→
 c σ H fun b H1=>if b=true then ∃N:St→Hp→Prop,(∀σ' H',N σ' H'→∃m',m'<m∧W m' σ' H')∧tb (D.lp N) σ H1 else D.nx σ H1
theorem ps_while {c:Expr}{body:List Stmt}{tc:TT}{tb:TS}(hp:PassesOwn (model X.prog X.w) X.A X.env X.xe)(hc:PT X c tc)(hb:PSs X body tb):PS X (.While c body [] pos) (tWhile tc tb):=by
 intro pins s σ H D I h
 obtain⟨W,⟨m0,w0⟩,turn⟩:=h
 refine wpAny_While (codeAny_whileLoop (fun n s'=>∃σ' H',Inv X pins σ' H' s'∧W n σ' H') ?_ m0 ⟨σ,H,I,w0⟩)
 rintro n s1 ⟨σ1,H1,I1,w1⟩
 refine wpAny_passesOwn hp (thn (hc pins s1 σ1 H1 _ I1 (turn n σ1 H1 w1)) fun b s2 ⟨H2,I2,q2⟩=>?_)
 cases b with
 |true=>
  obtain⟨N,hN,q2⟩:=q2
  rw[if_pos rfl]
  refine wpAny_passesOwn hp (thn (hb pins s2 σ1 H2 _ I2 q2) fun f s3 q3=>?_)
  cases f with
  |next=>
   obtain⟨σ3,H3,I3,n3⟩:=q3
   obtain⟨m',hm,w3⟩:=hN σ3 H3 n3
   exact⟨m',hm,σ3,H3,I3,w3⟩
  |cont=>
   obtain⟨σ3,H3,I3,n3⟩:=q3
   obtain⟨m',hm,w3⟩:=hN σ3 H3 n3
   exact⟨m',hm,σ3,H3,I3,w3⟩
  |brk=>exact q3
  |ret v=>exact q3
 |false=>
  rw[if_neg Bool.false_ne_true]
  exact wpAny_execs_nil ⟨σ1,H2,I2,q2⟩
end
structure It where
 go:Nat→Hp→Prop
 yld:Nat→Hp→V→Hp→Prop
 stop:Nat→Hp→Prop
def FpOk (X:Cx)(pins:List (Addr×Obj))(H:Hp)(b:Addr):Prop :=
 H b=none∧b≠X.env.locals∧b∉X.fs∧(b∈X.ex∨X.s₀.heap.objs.size≤b)∧(∀x c,X.env.cells.lookup x=some c→c≠b)∧∀p∈X.pn++pins,p.1≠b
theorem Inv.fpOk {X:Cx}{pins:List (Addr×Obj)}{σ:St}{H H':Hp}{s:Shared}{b:Addr}(I:Inv X pins σ H s)(hb:s.heap.objs.size≤b)(hn:H' b=none):FpOk X pins H' b:=by
 refine⟨hn,Nat.ne_of_gt (Nat.lt_of_lt_of_le I.lt hb),I.nofs hb, .inr (Nat.le_trans I.sz hb),fun x c e z=>?_,fun p hp z=>?_⟩
 ·obtain⟨v,q⟩:=I.cell x c e
  exact absurd (Nat.lt_of_lt_of_le q.lt (by rw[z];exact hb)) (Nat.lt_irrefl _)
 ·exact absurd (Nat.lt_of_lt_of_le (Heap.lt_size (I.pin p hp).1) (by rw[z];exact hb)) (Nat.lt_irrefl _)
abbrev Calm:Cx→Prop:=fun X=>X.calm=true
structure TurnQ (qt:Cx→Prop)(P:Program)(w:World)(K:PySem.W.Frag)(tg:Expr)(J:It)(fp:List Addr)(it:Addr)(tn:Nat→Heap→Prop):Prop where
 mem:it∈fp
 obj:∀i h,tn i h→∀b∈fp,∃o,h.get? b=some o∧∀v,o.data≠.cell v
 keep:∀i h h',tn i h→(∀b∈fp,∀o,h.get? b=some o→h'.get? b=some o)→tn i h'
 item:∀(X:Cx),X.prog=P→X.w=w→X.K=K→qt X→∀(i:Nat) (pins:List (Addr×Obj)) (s:Shared) (σ:St) (H:Hp) (E:Value→Shared→Prop),Inv X pins σ H s→(∀b∈fp,FpOk X pins H b)→tn i s.heap→J.go i H→
  wpAny (model P w) X.A (pyNext (.ref it)) (fun r s1=>∃u,r=some u∧
   wpAny (model P w) X.A (letOwnedTupleGo tg (.ref it) u) (fun _ s2=>∃x H',Inv X pins σ H' s2∧RelV x u∧J.yld i H x H'∧tn (i+1) s2.heap∧∀b∈fp,H' b=none) E s1) E s
 done:∀(X:Cx),X.prog=P→X.w=w→X.K=K→qt X→∀(i:Nat) (pins:List (Addr×Obj)) (s:Shared) (σ:St) (H:Hp) (E:Value→Shared→Prop),Inv X pins σ H s→(∀b∈fp,FpOk X pins H b)→tn i s.heap→J.stop i H→
  wpAny (model P w) X.A (pyNext (.ref it)) (fun r s1=>r=none∧Inv X pins σ H s1) E s
 self:∀(A:Around) (i:Nat) (s:Shared) (Q:Value→Shared→Prop) (E:Value→Shared→Prop),tn i s.heap→Q (.ref it) s→wpAny (model P w) A (pyIter (.ref it)) Q E s
abbrev Turn:=TurnQ Calm
abbrev TI:=St→Hp→(It→Hp→Prop)→Prop
def PIEQ (qt:Cx→Prop)(X:Cx)(pins:List (Addr×Obj))(σ:St)(tg:Expr)(R:It→Hp→Prop)(itv:Value)(s2:Shared):Prop :=
 ∃(it:Addr) (fp:List Addr) (tn:Nat→Heap→Prop) (J:It) (H':Hp),itv=.ref it∧Inv X pins σ H' s2∧TurnQ qt X.prog X.w X.K tg J fp it tn∧tn 0 s2.heap∧(∀b∈fp,FpOk X pins H' b)∧R J H'
abbrev PIE:=PIEQ Calm
def PIQ (qt:Cx→Prop)(X:Cx)(tg iter:Expr)(wi:TI):Prop :=
 ∀(pins:List (Addr×Obj)) (s:Shared) (σ:St) (H:Hp) (R:It→Hp→Prop),Inv X pins σ H s→wi σ H R→
  wpAny (model X.prog X.w) X.A (eval iter X.env) (fun v s1=>wpAny (model X.prog X.w) X.A (pyIter v) (PIEQ qt X pins σ tg R) X.xe s1) X.xe s
abbrev PI:=PIQ Calm
theorem go_of {M:Model}{A:Around}{E:Value→Shared→Prop}{s:Shared}{tg:Expr}{it:Addr}{u:Value}{o:Obj}{n:String}{vs:Array Value}{Q:Unit→Shared→Prop}(ho:s.heap.get? it=some o)(hc:o.cls=.type n)(hd:o.data=.fields vs)
  (hn:["enumerate","zip","dict_itemiterator","dict_reverseitemiterator","odict_iterator","itertools.zip_longest","itertools.pairwise"].contains n=false) (hQ:Q () s):wpAny M A (letOwnedTupleGo tg (.ref it) u) Q E s:=by
 unfold letOwnedTupleGo
 cases tg<;>first
  |exact wpAny_pure hQ
  |(cases u<;>first
    |exact wpAny_pure hQ
    |(refine wpAny_bind (wpAny_load ho ?_)
      rw[hc,hd]
      show wpAny M A (if(["enumerate","zip","dict_itemiterator","dict_reverseitemiterator","odict_iterator","itertools.zip_longest","itertools.pairwise"].contains n&&vs[0]?==some (rawInt _))=true then _ else _) Q E s
      rw[if_neg (by intro h;rw[hn,Bool.false_and]at h;cases h)]
      exact wpAny_pure hQ))
def Itl (K:PySem.W.Frag)(a:Addr):It :=
 ⟨fun i H=>∃xs x,SqL K H a xs∧xs[i]?=some x,fun i H x H'=>H'=H∧∀xs,SqL K H a xs→xs[i]?=some x,fun i H=>∃xs,SqL K H a xs∧xs.length≤i⟩
def Itt (K:PySem.W.Frag)(a:Addr):It :=
 ⟨fun i H=>∃xs x,SqT K H a xs∧xs[i]?=some x,fun i H x H'=>H'=H∧∀xs,SqT K H a xs→xs[i]?=some x,fun i H=>∃xs,SqT K H a xs∧xs.length≤i⟩
def Itr (lo:Int)(n:Nat):It:=⟨fun i _=>i<n,fun i H x H'=>H'=H∧x=.int (lo+i),fun i _=>n≤i⟩
theorem turn_list {P:Program}{w:World}{K:PySem.W.Frag}{tg:Expr}(a it:Addr):Turn P w K tg (Itl K a) [it] it (fun i h=>h.IsListIter it a i) where
 mem:=by simp
 obj:=fun i h st b hb=>by
  have e:b=it:=by simpa using hb
  subst e
  obtain⟨o,e,c,d⟩:=st
  exact⟨o,e,fun v z=>by rw[d]at z;cases z⟩
 keep:=fun i h h' st k=>st.at fun o e=>k it (by simp) o e
 item:=by
  intro X hP hw hK hc i pins s σ H E I hf st hg
  subst hP hw hK
  obtain⟨xs,x,hq,hx⟩:=hg
  obtain⟨its,rv,p,hz⟩:=I.list hq
  obtain⟨u,hu,ru⟩:=rv.get hx
  obtain⟨f0,f1,f2,f3,f4,f5⟩:=hf it (by simp)
  refine wpAny_pyNext_list_item st p.isList (x:=u) (by simpa using hu) fun h' st' sb=>?_
  have I1:Inv X pins σ H {s with heap:=h'}:=I.turned (t':=s.toks) (fun b o hb e=>(sb.2 b hb).trans e) f0 f1 f3 f4 f5
  obtain⟨o,e,c,d⟩:=id st'
  exact⟨u,rfl,go_of (s:={s with heap:=h'}) e c d (by decide) ⟨x,H,I1,ru,⟨rfl,fun ys hy=>by rw[I.list_inj hy hq];exact hx⟩,st',fun b hb=>(hf b hb).1⟩⟩
 done:=by
  intro X hP hw hK hc i pins s σ H E I hf st hg
  subst hP hw hK
  obtain⟨xs,hq,hx⟩:=hg
  obtain⟨its,rv,p,hz⟩:=I.list hq
  obtain⟨f0,f1,f2,f3,f4,f5⟩:=hf it (by simp)
  have hl:=rv.length
  exact wpAny_pyNext_list_end (I.ok.hd hc) st p.isList (by simp;exact Nat.le_trans (Nat.le_of_eq hl.symm) hx) fun h' eb=>⟨rfl,I.turned (t':=s.toks) (fun b o hb e=>eb b o hb e) f0 f1 f3 f4 f5⟩
 self:=fun _ _ _ _ _ st h=>wpAny_pyIter_listiter st h
theorem turn_tuple {P:Program}{w:World}{K:PySem.W.Frag}{tg:Expr}(a it:Addr):Turn P w K tg (Itt K a) [it] it (fun i h=>h.IsTupleIter it a i) where
 mem:=by simp
 obj:=fun i h st b hb=>by
  have e:b=it:=by simpa using hb
  subst e
  obtain⟨o,e,c,d⟩:=st
  exact⟨o,e,fun v z=>by rw[d]at z;cases z⟩
 keep:=fun i h h' st k=>st.at fun o e=>k it (by simp) o e
 item:=by
  intro X hP hw hK hc i pins s σ H E I hf st hg
  subst hP hw hK
  obtain⟨xs,x,hq,hx⟩:=hg
  obtain⟨its,rv,p,hz⟩:=I.tuple hq
  obtain⟨u,hu,ru⟩:=rv.get hx
  obtain⟨f0,f1,f2,f3,f4,f5⟩:=hf it (by simp)
  refine wpAny_pyNext_tuple_item st (show s.heap.IsTuple a its.toArray from p) (x:=u) (by simpa using hu) fun h' st' sb=>?_
  have I1:Inv X pins σ H {s with heap:=h'}:=I.turned (t':=s.toks) (fun b o hb e=>(sb.2 b hb).trans e) f0 f1 f3 f4 f5
  obtain⟨o,e,c,d⟩:=id st'
  exact⟨u,rfl,go_of (s:={s with heap:=h'}) e c d (by decide) ⟨x,H,I1,ru,⟨rfl,fun ys hy=>by rw[I.tuple_inj hy hq];exact hx⟩,st',fun b hb=>(hf b hb).1⟩⟩
 done:=by
  intro X hP hw hK hc i pins s σ H E I hf st hg
  subst hP hw hK
  obtain⟨xs,hq,hx⟩:=hg
  obtain⟨its,rv,p,hz⟩:=I.tuple hq
  obtain⟨f0,f1,f2,f3,f4,f5⟩:=hf it (by simp)
  have hl:=rv.length
  exact wpAny_pyNext_tuple_end (I.ok.hd hc) st (show s.heap.IsTuple a its.toArray from p) (by simp;exact Nat.le_trans (Nat.le_of_eq hl.symm) hx) fun h' eb=>⟨rfl,I.turned (t':=s.toks) (fun b o hb e=>eb b o hb e) f0 f1 f3 f4 f5⟩
 self:=fun _ _ _ _ _ st h=>wpAny_pyIter_tupleiter st h
theorem turn_range {P:Program}{w:World}{K:PySem.W.Frag}{tg:Expr}(it:Addr)(lo:Int)(n:Nat):Turn P w K tg (Itr lo n) [it] it (fun i h=>IsRangeIter h it (lo+(i:Nat)*1) ((n:Int)-(i:Nat)) 1) where
 mem:=by simp
 obj:=fun i h st b hb=>by
  have e:b=it:=by simpa using hb
  subst e
  exact⟨_,st,fun v z=>by
   have z':Data.fields _=Data.cell v:=z
   cases z'⟩
 keep:=fun i h h' st k=>k it (by simp) _ st
 item:=by
  intro X hP hw hK hc i pins s σ H E I hf st hg
  subst hP hw hK
  obtain⟨f0,f1,f2,f3,f4,f5⟩:=hf it (by simp)
  have W:=Walks.range (prog:=X.prog) (w:=X.w) (I.ok.hd hc) it lo 1 n
  refine W.item i s _ _ hg st fun v h' tk hv st' kk=>?_
  obtain⟨t,rfl⟩:=hv
  have I1:Inv X pins σ H {s with heap:=h',toks:=tk}:=I.turned (fun b o hb e=>kk b o (by simpa using hb) e) f0 f1 f3 f4 f5
  refine⟨_,rfl,go_of (s:={s with heap:=h',toks:=tk}) (n:="range_iterator") st' rfl rfl (by decide) ⟨.int (lo+i),H,I1,⟨t,?_⟩,⟨rfl,rfl⟩,st',fun b hb=>(hf b hb).1⟩⟩
  rw[Int.mul_one]
 done:=by
  intro X hP hw hK hc i pins s σ H E I hf st hg
  subst hP hw hK
  obtain⟨f0,f1,f2,f3,f4,f5⟩:=hf it (by simp)
  exact wpAny_pyNext_range_end (I.ok.hd hc) st (by have:n≤i:=hg;omega) fun h' eb=>⟨rfl,I.turned (t':=s.toks) (fun b o hb e=>eb b o hb e) f0 f1 f3 f4 f5⟩
 self:=fun _ _ _ _ _ st h=>wpAny_pyIter_rangeiter st h
section
variable {X:Cx}{tg:Expr}
inductive iList_ (K:PySem.W.Frag)(R:It→Hp→Prop)(x:V)(H1:Hp):Prop where
 |mk (a):(x=.ref a)→((∃xs,SqL K H1 a xs))→(R (Itl K a) H1)→iList_ K R x H1
def iList (K:PySem.W.Frag)(tl:TE):TI:=fun σ H R=>tl σ H (iList_ K R)
inductive iTup_ (K:PySem.W.Frag)(R:It→Hp→Prop)(x:V)(H1:Hp):Prop where
 |mk (a):(x=.ref a)→((∃xs,SqT K H1 a xs))→(R (Itt K a) H1)→iTup_ K R x H1
def iTup (K:PySem.W.Frag)(tl:TE):TI:=fun σ H R=>tl σ H (iTup_ K R)
theorem pi_list {l:Expr}{tl:TE}(hl:PE X l tl):PI X tg l (iList X.K tl):=by
 intro pins s σ H R I h
 refine thn (hl pins s σ H _ I h) fun v s1 ⟨x,H1,I1,r1,q1⟩=>?_
 obtain⟨a,e,⟨xs,hq⟩,q⟩:=q1
 subst e
 cases r1
 obtain⟨its,rv,p,hz⟩:=I1.list hq
 refine wpAny_pyIter_list p.isList ?_
 refine⟨s1.heap.objs.size,[s1.heap.objs.size],_,_,H1,rfl,I1.kept (t':=s1.toks) fun b o e=>Heap.get?_push_of_some _ e,turn_list a _,⟨_,Heap.get?_push_size _ rfl,rfl,rfl⟩,fun b hb=>?_,q⟩
 have e:b=s1.heap.objs.size:=by simpa using hb
 subst e
 exact I1.fpOk (Nat.le_refl _) (I1.hok.fresh (Nat.le_refl _))
theorem pi_tup {l:Expr}{tl:TE}(hl:PE X l tl):PI X tg l (iTup X.K tl):=by
 intro pins s σ H R I h
 refine thn (hl pins s σ H _ I h) fun v s1 ⟨x,H1,I1,r1,q1⟩=>?_
 obtain⟨a,e,⟨xs,hq⟩,q⟩:=q1
 subst e
 cases r1
 obtain⟨its,rv,p,hz⟩:=I1.tuple hq
 refine wpAny_pyIter_tuple (show s1.heap.IsTuple a its.toArray from p) ?_
 refine⟨s1.heap.objs.size,[s1.heap.objs.size],_,_,H1,rfl,I1.kept (t':=s1.toks) fun b o e=>Heap.get?_push_of_some _ e,turn_tuple a _,⟨_,Heap.get?_push_size _ rfl,rfl,rfl⟩,fun b hb=>?_,q⟩
 have e:b=s1.heap.objs.size:=by simpa using hb
 subst e
 exact I1.fpOk (Nat.le_refl _) (I1.hok.fresh (Nat.le_refl _))
theorem range_it {pins:List (Addr×Obj)}{σ:St}{H:Hp}{s:Shared}{R:It→Hp→Prop}{E:Value→Shared→Prop}{lo hi:Int}{t u v:Tok}{tk:Nat}(I:Inv X pins σ H s)(h1: -(2^62)≤lo)(h2:lo<2^62)(h3: -(2^62)≤hi)(h4:hi<2^62)
  (q:R (Itr lo (hi-lo).toNat) H):wpAny (model X.prog X.w) X.A (pyIter (.ref s.heap.objs.size)) (PIE X pins σ tg R) E {s with heap:=s.heap.push {cls:=.type "range",data:=.fields #[.int lo t, .int hi u, .int 1 v]},toks:=tk}:=by
 refine wpAny_pyIter_range (IsRange.new ..) (small_one h1 h2 h3 h4) ?_
 have I1:Inv X pins σ H {s with heap:=s.heap.push {cls:=.type "range",data:=.fields #[.int lo t, .int hi u, .int 1 v]},toks:=tk}:=I.kept fun b o e=>Heap.get?_push_of_some _ e
 refine⟨(s.heap.push {cls:=.type "range",data:=.fields #[.int lo t, .int hi u, .int 1 v]}).objs.size,[(s.heap.push {cls:=.type "range",data:=.fields #[.int lo t, .int hi u, .int 1 v]}).objs.size],_,_,H,rfl,
  I1.kept (t':=tk) fun b o e=>Heap.get?_push_of_some _ e,turn_range _ lo (hi-lo).toNat,?_,fun b hb=>?_,q⟩
 ·have e1:lo+((0:Nat):Int)*1=lo:=by simp
  have e2:(((hi-lo).toNat:Nat):Int)-((0:Nat):Int)=Builtin.Range.rangeSize lo hi 1:=by rw[rangeSize_one];split<;>omega
  show IsRangeIter _ _ (lo+((0:Nat):Int)*1) ((((hi-lo).toNat:Nat):Int)-((0:Nat):Int)) 1
  rw[e1,e2]
  exact Heap.get?_push_size _ rfl
 ·have e:b=(s.heap.push {cls:=.type "range",data:=.fields #[.int lo t, .int hi u, .int 1 v]}).objs.size:=by simpa using hb
  subst e
  exact I1.fpOk (Nat.le_refl _) (I1.hok.fresh (Nat.le_refl _))
inductive iRng1_ (R:It→Hp→Prop)(vs:List V)(H1:Hp):Prop where
 |mk (j:Int):(vs=[.int j])→(-(2^62)≤j)→(j<2^62)→(R (Itr 0 j.toNat) H1)→iRng1_ R vs H1
def iRng1 (ta:TA):TI:=fun σ H R=>ta σ H (iRng1_ R)
def iRng2 (ta:TA):TI:=fun σ H R=>ta σ H fun vs H1=>∃i j:Int,vs=[.int i, .int j]∧(-(2^62)≤i∧i<2^62∧-(2^62)≤j∧j<2^62)∧R (Itr i (j-i).toNat) H1
theorem pi_range1 {a:Expr}{ta:TA}{p pos:Pos}(hg:Gl X "range")(hm:X.mg "range"=none)(ha:PA X [a] ta)(hs:starEach [a] X.env=[(false,eval a X.env)]:=by rfl):PI X tg (.Call (.Name "range" p) [a] [] pos) (iRng1 ta):=by
 intro pins s σ H R I h
 refine Call_ (ld_blt I hg hm boot_range (PyProof.Rows.callWith_type1 (thn (ha pos pins s σ H _ I h) fun us s1 ⟨vs,H1,I1,r1,q1⟩=>?_) hs rfl))
 obtain⟨j,e,q1,q2,q⟩:=q1
 subst e
 cases r1 with
 |cons r rr=>
  cases rr
  obtain⟨t,rfl⟩:=r
  exact call_range_1 (range_it I1 (by omega) (by omega) q1 q2 (by simpa using q))
theorem pi_range2 {a b:Expr}{ta:TA}{p pos:Pos}(hg:Gl X "range")(hm:X.mg "range"=none)(ha:PA X [a,b] ta)(hs:starEach [a,b] X.env=[(false,eval a X.env),(false,eval b X.env)]:=by rfl)(hs2:starEach [b] X.env=[(false,eval b X.env)]:=by rfl):
  PI X tg (.Call (.Name "range" p) [a,b] [] pos) (iRng2 ta):=by
 intro pins s σ H R I h
 refine Call_ (ld_blt I hg hm boot_range (PyProof.Rows.callWith_type1 (thn (ha pos pins s σ H _ I h) fun us s1 ⟨vs,H1,I1,r1,q1⟩=>?_) (by rw[hs,hs2]) (by rw[hs2];rfl)))
 obtain⟨i,j,e,⟨q1,q2,q3,q4⟩,q⟩:=q1
 subst e
 cases r1 with
 |cons r rr=>
  cases rr with
  |cons r' rr=>
   cases rr
   obtain⟨t,rfl⟩:=r
   obtain⟨t',rfl⟩:=r'
   exact call_range_2 (range_it I1 q1 q2 q3 q4 q)
def tFor (wi:TI)(g:TG)(tb:TS):TS:=fun D σ H=>wi σ H fun J H1=>∃W:Nat→Nat→St→Hp→Prop,(∃m,W 0 m σ H1)∧∀i m σ H,W i m σ H→
 (J.stop i H∧D.nx σ H)∨(J.go i H∧∃N:St→Hp→Prop,(∀σ' H',N σ' H'→∃m',m'<m∧W (i+1) m' σ' H')∧∀x H',J.yld i H x H'→g x σ H' fun σ2 H2=>tb (D.lp N) σ2 H2)
def pinsAt (fp:List Addr)(h:Heap):List (Addr×Obj):=fp.filterMap fun b=>(h.get? b).map fun o=>(b,o)
theorem mem_pinsAt {fp:List Addr}{h:Heap}{b:Addr}{o:Obj}(hb:b∈fp)(e:h.get? b=some o):(b,o)∈pinsAt fp h:=List.mem_filterMap.mpr ⟨b,hb,by rw[e];rfl⟩
theorem of_pinsAt {fp:List Addr}{h:Heap}{p:Addr×Obj}(hp:p∈pinsAt fp h):p.1∈fp∧h.get? p.1=some p.2:=by
 obtain⟨b,hb,e⟩:=List.mem_filterMap.mp hp
 cases q:h.get? b with
 |none=>rw[q]at e;cases e
 |some o=>
  rw[q]at e
  have e':(b,o)=p:=Option.some.inj e
  subst e'
  exact⟨hb,q⟩
theorem Inv.pinned {pins:List (Addr×Obj)}{σ:St}{H:Hp}{s:Shared}{fp:List Addr}(I:Inv X pins σ H s)(hf:∀b∈fp,FpOk X pins H b)(ho:∀b∈fp,∃o,s.heap.get? b=some o∧∀v,o.data≠.cell v):Inv X (pins++pinsAt fp s.heap) σ H s :=
 I.pins_of fun p hp=>(List.mem_append.mp hp).elim (fun z=>I.pin p (List.mem_append_right _ z)) fun z=>by
  obtain⟨hb,e⟩:=of_pinsAt z
  obtain⟨f0,f1,f2,_⟩:=hf p.1 hb
  obtain⟨o,e',d⟩:=ho p.1 hb
  rw[e]at e';cases e'
  exact⟨e,f0,f1,f2,d⟩
theorem Inv.unpinned {pins pl:List (Addr×Obj)}{σ:St}{H:Hp}{s:Shared}(I:Inv X (pins++pl) σ H s):Inv X pins σ H s:=I.pins_of fun p hp=>I.pin p (List.mem_append_right _ (List.mem_append_left _ hp))
theorem ps_for {iter:Expr}{body:List Stmt}{wi:TI}{g:TG}{tb:TS}{pos:Pos}(hp:PassesOwn (model X.prog X.w) X.A X.env X.xe)(hc:X.calm=true)(hi:PI X tg iter wi)(hg:PG X tg g)(hb:PSs X body tb)
  (hs:∀x,foldedSetIterable iter X.env x=pure x:=by intro _;rfl):PS X (.For tg iter body [] pos) (tFor wi g tb):=by
 intro pins s σ H D I h
 refine wpAny_For (thn (hi pins s σ H _ I h) fun v s1 h1=>thn h1 fun itv s2 h2=>?_) hs
 obtain⟨it,fp,tn,J,H2,e,I2,T,st2,f2,W,⟨m0,w0⟩,turn⟩:=h2
 subst e
 have stat:∀{H':Hp},(∀b∈fp,H' b=none)→∀b∈fp,FpOk X pins H' b:=fun hn b hb=>⟨hn b hb,(f2 b hb).2⟩
 refine codeAny_forLoop_any (fun n s'=>∃i σ' H',Inv X pins σ' H' s'∧tn i s'.heap∧(∀b∈fp,H' b=none)∧W i n σ' H') ?_ m0 ⟨0,σ,H2,I2,st2,fun b hb=>(f2 b hb).1,w0⟩
 rintro n s3 ⟨i,σ3,H3,I3,st3,fr3,w3⟩
 rcases turn i n σ3 H3 w3 with ⟨stop,qn⟩|⟨go,N,hN,step⟩
 ·refine wpAny_passesOwn hp (thn (T.done X rfl rfl rfl hc i pins s3 σ3 H3 X.xe I3 (stat fr3) st3 stop) fun r s4 ⟨hr,I4⟩=>?_)
  subst hr
  exact wpAny_execs_nil ⟨σ3,H3,I4,qn⟩
 ·refine wpAny_passesOwn hp (thn (T.item X rfl rfl rfl hc i pins s3 σ3 H3 X.xe I3 (stat fr3) st3 go) fun r s4 ⟨u,hr,h4⟩=>?_)
  subst hr
  refine wpAny_passesOwn hp (thn h4 fun _ s5 ⟨x,H5,I5,r5,y5,st5,fr5⟩=>?_)
  have I5':=I5.pinned (stat fr5) (T.obj _ _ st5)
  refine wpAny_passesOwn hp (thn (hg _ s5 σ3 H5 x u _ I5' r5 (step x H5 y5)) fun _ s6 ⟨σ6,H6,I6,q6⟩=>?_)
  refine wpAny_passesOwn hp (thn (hb _ s6 σ6 H6 _ I6 q6) fun f s7 q7=>?_)
  have again:∀{σ7:St} {H7:Hp},Inv X (pins++pinsAt fp s5.heap) σ7 H7 s7→N σ7 H7→∃m,m<n∧∃i σ' H',Inv X pins σ' H' s7∧tn i s7.heap∧(∀b∈fp,H' b=none)∧W i m σ' H':=fun{σ7 H7} I7 n7=>by
   obtain⟨m',hm,w7⟩:=hN σ7 H7 n7
   refine⟨m',hm,i+1,σ7,H7,I7.unpinned,T.keep _ _ _ st5 fun b hb o e=>(I7.pin (b,o) (List.mem_append_right _ (List.mem_append_right _ (mem_pinsAt hb e)))).1,fun b hb=>?_,w7⟩
   obtain⟨o,e,d⟩:=T.obj _ _ st5 b hb
   exact(I7.pin (b,o) (List.mem_append_right _ (List.mem_append_right _ (mem_pinsAt hb e)))).2.1
  cases f with
  |next=>obtain⟨σ7,H7,I7,n7⟩:=q7;exact again I7 n7
  |cont=>obtain⟨σ7,H7,I7,n7⟩:=q7;exact again I7 n7
  |brk=>obtain⟨σ7,H7,I7,q7⟩:=q7;exact⟨σ7,H7,I7.unpinned,q7⟩
  |ret v=>obtain⟨x7,σ7,H7,I7,r7,q7⟩:=q7;exact⟨x7,σ7,H7,I7.unpinned,r7,q7⟩
end
theorem for_list {K:PySem.W.Frag}{a:Addr}{xs:List V}{g:TG}{tb:TS}{D:Ends}{σ:St}{H:Hp}(Pv:Nat→St→Hp→Prop)(h0:Pv 0 σ H)(hl:∀i σ H,i≤xs.length→Pv i σ H→SqL K H a xs)
  (hs:∀i x σ H,xs[i]?=some x→Pv i σ H→g x σ H fun σ2 H2=>tb (D.lp (Pv (i+1))) σ2 H2) (hd:∀σ H,Pv xs.length σ H→D.nx σ H):
  ∃W:Nat→Nat→St→Hp→Prop,(∃m,W 0 m σ H)∧∀i m σ H,W i m σ H→
   ((Itl K a).stop i H∧D.nx σ H)∨((Itl K a).go i H∧∃N:St→Hp→Prop,(∀σ' H',N σ' H'→∃m',m'<m∧W (i+1) m' σ' H')∧∀x H',(Itl K a).yld i H x H'→g x σ H' fun σ2 H2=>tb (D.lp N) σ2 H2):=by
 refine⟨fun i m σ H=>m=xs.length-i∧i≤xs.length∧Pv i σ H,⟨xs.length,by simp,Nat.zero_le _,h0⟩,?_⟩
 rintro i m σ H ⟨rfl,hi,p⟩
 have q:=hl i σ H hi p
 by_cases hlt:i<xs.length
 ·refine .inr ⟨⟨xs,xs[i],q,by simp[hlt]⟩,Pv (i+1),fun σ' H' p'=>⟨xs.length-(i+1),by omega,rfl,hlt,p'⟩,fun x H' y=>?_⟩
  obtain⟨e,y⟩:=y
  subst e
  exact hs i x σ _ (y xs q) p
 ·have e:i=xs.length:=by exact Nat.le_antisymm hi (Nat.not_lt.mp hlt)
  subst e
  exact .inl ⟨⟨xs,q,Nat.le_refl _⟩,hd σ H p⟩
theorem for_tup {K:PySem.W.Frag}{a:Addr}{xs:List V}{g:TG}{tb:TS}{D:Ends}{σ:St}{H:Hp}(Pv:Nat→St→Hp→Prop)(h0:Pv 0 σ H)(hl:∀i σ H,i≤xs.length→Pv i σ H→SqT K H a xs)
  (hs:∀i x σ H,xs[i]?=some x→Pv i σ H→g x σ H fun σ2 H2=>tb (D.lp (Pv (i+1))) σ2 H2) (hd:∀σ H,Pv xs.length σ H→D.nx σ H):
  ∃W:Nat→Nat→St→Hp→Prop,(∃m,W 0 m σ H)∧∀i m σ H,W i m σ H→
   ((Itt K a).stop i H∧D.nx σ H)∨((Itt K a).go i H∧∃N:St→Hp→Prop,(∀σ' H',N σ' H'→∃m',m'<m∧W (i+1) m' σ' H')∧∀x H',(Itt K a).yld i H x H'→g x σ H' fun σ2 H2=>tb (D.lp N) σ2 H2):=by
 refine⟨fun i m σ H=>m=xs.length-i∧i≤xs.length∧Pv i σ H,⟨xs.length,by simp,Nat.zero_le _,h0⟩,?_⟩
 rintro i m σ H ⟨rfl,hi,p⟩
 have q:=hl i σ H hi p
 by_cases hlt:i<xs.length
 ·refine .inr ⟨⟨xs,xs[i],q,by simp[hlt]⟩,Pv (i+1),fun σ' H' p'=>⟨xs.length-(i+1),by omega,rfl,hlt,p'⟩,fun x H' y=>?_⟩
  obtain⟨e,y⟩:=y
  subst e
  exact hs i x σ _ (y xs q) p
 ·have e:i=xs.length:=by exact Nat.le_antisymm hi (Nat.not_lt.mp hlt)
  subst e
  exact .inl ⟨⟨xs,q,Nat.le_refl _⟩,hd σ H p⟩
theorem for_range {lo:Int}{n:Nat}{g:TG}{tb:TS}{D:Ends}{σ:St}{H:Hp}(Pv:Nat→St→Hp→Prop)(h0:Pv 0 σ H)
  (hs:∀i σ H,i<n→Pv i σ H→g (.int (lo+i)) σ H fun σ2 H2=>tb (D.lp (Pv (i+1))) σ2 H2) (hd:∀σ H,Pv n σ H→D.nx σ H):
  ∃W:Nat→Nat→St→Hp→Prop,(∃m,W 0 m σ H)∧∀i m σ H,W i m σ H→
   ((Itr lo n).stop i H∧D.nx σ H)∨((Itr lo n).go i H∧∃N:St→Hp→Prop,(∀σ' H',N σ' H'→∃m',m'<m∧W (i+1) m' σ' H')∧∀x H',(Itr lo n).yld i H x H'→g x σ H' fun σ2 H2=>tb (D.lp N) σ2 H2):=by
 refine⟨fun i m σ H=>m=n-i∧i≤n∧Pv i σ H,⟨n,by simp,Nat.zero_le _,h0⟩,?_⟩
 rintro i m σ H ⟨rfl,hi,p⟩
 by_cases hlt:i<n
 ·refine .inr ⟨hlt,Pv (i+1),fun σ' H' p'=>⟨n-(i+1),by omega,rfl,hlt,p'⟩,fun x H' y=>?_⟩
  obtain⟨e,y⟩:=y
  subst e y
  exact hs i σ _ hlt p
 ·have e:i=n:=by exact Nat.le_antisymm hi (Nat.not_lt.mp hlt)
  subst e
  exact .inl ⟨Nat.le_refl _,hd σ H p⟩
abbrev R2:=V→V→Hp→VK→Prop
def OpR (X:Cx)(f:Value→Value→Sem Value)(r:R2):Prop :=
 ∀(pins:List (Addr×Obj)) (s:Shared) (σ:St) (H:Hp) (x y:V) (v u:Value) (Q:VK),Inv X pins σ H s→RelV x v→RelV y u→r x y H Q→
  wpAny (model X.prog X.w) X.A (f v u) (EP X pins σ Q) X.xe s
def UnR (X:Cx)(f:Value→Sem Value)(r:V→Hp→VK→Prop):Prop :=
 ∀(pins:List (Addr×Obj)) (s:Shared) (σ:St) (H:Hp) (x:V) (v:Value) (Q:VK),Inv X pins σ H s→RelV x v→r x H Q→
  wpAny (model X.prog X.w) X.A (f v) (EP X pins σ Q) X.xe s
def CallR (X:Cx)(f:Value)(r:List V→Hp→VK→Prop):Prop :=
 ∀(pins:List (Addr×Obj)) (s:Shared) (σ:St) (H:Hp) (xs:List V) (us:List Value) (Q:VK),Inv X pins σ H s→Vals xs us→r xs H Q→
  wpAny (model X.prog X.w) X.A (call f us) (EP X pins σ Q) X.xe s
def tOp (r:R2)(ta tb:TE):TE:=fun σ H Q=>ta σ H fun x H1=>tb σ H1 fun y H2=>r x y H2 Q
def tUn (r:V→Hp→VK→Prop)(ta:TE):TE:=fun σ H Q=>ta σ H fun x H1=>r x H1 Q
inductive rI_ (C:Int→Int→Prop)(g:Int→Int→V)(x:V)(y:V)(H:Hp)(Q:VK):Prop where
 |mk (i) (j):(x=.int i)→(y=.int j)→(C i j)→(Q (g i j) H)→rI_ C g x y H Q
def rI (C:Int→Int→Prop)(g:Int→Int→V):R2:=rI_ C g
inductive rI0_ (g:Int→Int→V)(x:V)(y:V)(H:Hp)(Q:VK):Prop where
 |mk (i) (j):(x=.int i)→(y=.int j)→(Q (g i j) H)→rI0_ g x y H Q
def rI0 (g:Int→Int→V):R2:=rI0_ g
def rU (g:Int→V):V→Hp→VK→Prop:=fun x H Q=>∃i,x=.int i∧Q (g i) H
section
variable {X:Cx}{a b c:Expr}{ta tb tc:TE}{pos:Pos}
theorem binT (ha:PE X a ta)(hb:PE X b tb){pins:List (Addr×Obj)}{s:Shared}{σ:St}{H:Hp}{R:V→V→Hp→Prop}(I:Inv X pins σ H s)
  (h:ta σ H fun x H1=>tb σ H1 fun y H2=>R x y H2) {Q:Value→Shared→Prop} {f:Value→Value→Sem Value}
  (hf:∀v u s2 x y H2,Inv X pins σ H2 s2→RelV x v→RelV y u→R x y H2→wpAny (model X.prog X.w) X.A (f v u) Q X.xe s2):
  wpAny (model X.prog X.w) X.A (eval a X.env) (fun v s₁=>wpAny (model X.prog X.w) X.A (eval b X.env) (fun u s₂=>wpAny (model X.prog X.w) X.A (f v u) Q X.xe s₂) X.xe s₁) X.xe s:=by
 refine thn (ha pins s σ H _ I h) fun v s1 ⟨x,H1,I1,r1,q1⟩=>?_
 refine thn (hb pins s1 σ H1 _ I1 q1) fun u s2 ⟨y,H2,I2,r2,q2⟩=>?_
 exact hf v u s2 x y H2 I2 r1 r2 q2
theorem pe_op {op:Operator}{r:R2}(ho:OpR X (binaryOp op) r)(ha:PE X a ta)(hb:PE X b tb):PE X (.BinOp a op b pos) (tOp r ta tb):=by
 intro pins s σ H Q I h
 exact wpAny_BinOp (binT ha hb I h fun v u s2 x y H2 I2 rx ry q=>ho pins s2 σ H2 x y v u Q I2 rx ry q)
theorem pe_un {op:UnaryOp}{r:V→Hp→VK→Prop}(ho:UnR X (unaryOp op) r)(ha:PE X a ta):PE X (.UnaryOp op a pos) (tUn r ta):=by
 intro pins s σ H Q I h
 exact UnaryOp_ (thn (ha pins s σ H _ I h) fun v s1 ⟨x,H1,I1,r1,q1⟩=>ho pins s1 σ H1 x v Q I1 r1 q1)
theorem opI {f:Value→Value→Sem Value}{C:Int→Int→Prop}{g:Int→Int→Int}
  (rule:∀(i j:Int) (t u:Tok) (s:Shared) (Q:Value→Shared→Prop) (E:Value→Shared→Prop),C i j→Q (.int (g i j) s.toks) {s with toks:=s.toks+1}→wpAny (model X.prog X.w) X.A (f (.int i t) (.int j u)) Q E s):
  OpR X f (rI C fun i j=>.int (g i j)):=by
 intro pins s σ H x y v u Q I rx ry h
 obtain⟨i,j,rfl,rfl,hc,q⟩:=h
 obtain⟨t,rfl⟩:=rx
 obtain⟨t',rfl⟩:=ry
 exact rule i j t t' s _ _ hc ⟨.int (g i j),H,I.tok _,⟨_,rfl⟩,q⟩
theorem opI0 {f:Value→Value→Sem Value}{g:Int→Int→Int}
  (rule:∀(i j:Int) (t u:Tok) (s:Shared) (Q:Value→Shared→Prop) (E:Value→Shared→Prop),Q (.int (g i j) s.toks) {s with toks:=s.toks+1}→wpAny (model X.prog X.w) X.A (f (.int i t) (.int j u)) Q E s):
  OpR X f (rI0 fun i j=>.int (g i j)):=by
 intro pins s σ H x y v u Q I rx ry h
 obtain⟨i,j,rfl,rfl,q⟩:=h
 obtain⟨t,rfl⟩:=rx
 obtain⟨t',rfl⟩:=ry
 exact rule i j t t' s _ _ ⟨.int (g i j),H,I.tok _,⟨_,rfl⟩,q⟩
theorem opB0 {f:Value→Value→Sem Value}{g:Int→Int→Bool}
  (rule:∀(i j:Int) (t u:Tok) (s:Shared) (Q:Value→Shared→Prop) (E:Value→Shared→Prop),Q (.bool (g i j)) s→wpAny (model X.prog X.w) X.A (f (.int i t) (.int j u)) Q E s):
  OpR X f (rI0 fun i j=>.bl (g i j)):=by
 intro pins s σ H x y v u Q I rx ry h
 obtain⟨i,j,rfl,rfl,q⟩:=h
 obtain⟨t,rfl⟩:=rx
 obtain⟨t',rfl⟩:=ry
 exact rule i j t t' s _ _ ⟨.bl (g i j),H,I,rfl,q⟩
def CDiv (i j:Int):Prop:=0<j∧j<1073741824
def CPow (i j:Int):Prop:=0≤j∧j≤1000000∧i.natAbs<2^64
def CMul (i j:Int):Prop:=(-(2^64)<i∧i<2^64)∨(-(2^64)<j∧j<2^64)
theorem CMul.ok {i j:Int}(h:CMul i j):IntMulOk i j:=by
 rcases h with ⟨h1,h2⟩|⟨h1,h2⟩
 ·exact .of_left (intBits_le_64 h1 h2)
 ·exact .of_right (intBits_le_64 h1 h2)
theorem op_add:OpR X (binaryOp .Add) (rI0 fun i j=>.int (i+j)):=opI0 fun _ _ _ _ _ _ _ q=>add_int q
theorem op_sub:OpR X (binaryOp .Sub) (rI0 fun i j=>.int (i-j)):=opI0 fun _ _ _ _ _ _ _ q=>sub_int q
theorem op_mul:OpR X (binaryOp .Mult) (rI CMul fun i j=>.int (i*j)):=opI fun _ _ _ _ _ _ _ hc q=>mul_int q hc.ok
theorem op_fdiv:OpR X (binaryOp .FloorDiv) (rI CDiv fun i j=>.int (i / j)):=opI fun i j _ _ _ _ _ hc q=>by
 have h1:(0:Int)<j:=hc.1
 have h2:j<1073741824:=hc.2
 exact floordiv_int (by omega) (by rw[Int.fdiv_eq_ediv_of_nonneg i (by omega)];exact q) (.inl (PyProof.noPylong_small (by omega)))
theorem op_mod:OpR X (binaryOp .Mod) (rI (fun _ j=>0<j) fun i j=>.int (i%j)):=opI fun i j _ _ _ _ _ hc q=>by
 have h1:(0:Int)<j:=hc
 exact mod_int' (by omega) (by rw[Int.fmod_eq_emod_of_nonneg i (by omega)];exact q)
theorem op_pow:OpR X (binaryOp .Pow) (rI CPow fun i j=>.int (i^j.toNat)):=opI fun _ _ _ _ _ _ _ hc q=>pow_int_small hc.1 hc.2.1 hc.2.2 q
theorem unI {f:Value→Sem Value}{g:Int→Int}
  (rule:∀(i:Int) (t:Tok) (s:Shared) (Q:Value→Shared→Prop) (E:Value→Shared→Prop),Q (.int (g i) s.toks) {s with toks:=s.toks+1}→wpAny (model X.prog X.w) X.A (f (.int i t)) Q E s):
  UnR X f (rU fun i=>.int (g i)):=by
 intro pins s σ H x v Q I rx h
 obtain⟨i,rfl,q⟩:=h
 obtain⟨t,rfl⟩:=rx
 exact rule i t s _ _ ⟨.int (g i),H,I.tok _,⟨_,rfl⟩,q⟩
theorem un_neg:UnR X (unaryOp .USub) (rU fun i=>.int (-i)):=unI fun _ _ _ _ _ q=>neg_int q
end
def scal:V→V→Bool
 |.non, .non=>true|.non, .int _=>true|.int _, .non=>true|.non, .bl _=>true|.bl _, .non=>true|.non, .str _=>true|.str _, .non=>true
 |.int _, .int _=>true|.bl _, .bl _=>true|.str _, .str _=>true|.byt _, .byt _=>true
 |.int _, .str _=>true|.str _, .int _=>true|.bl _, .str _=>true|.str _, .bl _=>true
 |_,_=>false
inductive rEq_ (x:V)(y:V)(H:Hp)(Q:VK):Prop where
 |mk:(scal x y=true)→(Q (.bl (decide (x=y))) H)→rEq_ x y H Q
def rEq:R2:=rEq_
inductive rNe_ (x:V)(y:V)(H:Hp)(Q:VK):Prop where
 |mk:(scal x y=true)→(Q (.bl (!decide (x=y))) H)→rNe_ x y H Q
theorem dec_int {i j:Int}:decide (V.int i=V.int j)=(i==j):=by
 rw[Bool.eq_iff_iff]
 simp
theorem dec_bl {i j:Bool}:decide (V.bl i=V.bl j)=(i==j):=by
 rw[Bool.eq_iff_iff]
 simp
theorem dec_str {i j:Str}:decide (V.str i=V.str j)=(i==j):=by
 rw[Bool.eq_iff_iff]
 simp
theorem dec_byt {i j:Array UInt8}:decide (V.byt i=V.byt j)=(i.toList==j.toList):=by
 rw[Bool.eq_iff_iff]
 cases i
 cases j
 simp
section
variable {X:Cx}{a b c:Expr}{ta tb tc:TE}{pos:Pos}
theorem fin_bl {pins:List (Addr×Obj)}{σ:St}{H:Hp}{s:Shared}{Q:VK}{k k':Bool}(I:Inv X pins σ H s)(q:Q (.bl k) H)(e:k=k'):EP X pins σ Q (.bool k') s:=by
 subst e
 exact⟨.bl k,H,I,rfl,q⟩
theorem op_eq:OpR X (compareOp .Eq) rEq:=by
 intro pins s σ H x y v u Q I rx ry h
 obtain⟨hs,q⟩:=h
 cases x with
 |non=>
  cases rx
  cases y with
  |non=>cases ry;exact PySem.EqNone.eq_none_none (fin_bl I q (by simp))
  |bl j=>cases ry;exact PySem.EqNone.eq_none_bool (fin_bl I q (by simp))
  |int j=>obtain⟨t',rfl⟩:=ry;exact PySem.EqNone.eq_none_int (fin_bl I q (by simp))
  |str j=>obtain⟨t',rfl⟩:=ry;exact PySem.EqNone.eq_none_str (fin_bl I q (by simp))
  |_=>exact absurd (show false=true from hs) Bool.false_ne_true
 |bl i=>
  cases rx
  cases y with
  |non=>cases ry;exact PySem.EqNone.eq_bool_none (fin_bl I q (by simp))
  |bl j=>cases ry;exact eq_bool (fin_bl I q dec_bl)
  |str j=>obtain⟨t',rfl⟩:=ry;exact PySem.EqMixed.eq_bool_str (fin_bl I q (by simp))
  |_=>exact absurd (show false=true from hs) Bool.false_ne_true
 |int i=>
  obtain⟨t,rfl⟩:=rx
  cases y with
  |non=>cases ry;exact PySem.EqNone.eq_int_none (fin_bl I q (by simp))
  |int j=>obtain⟨t',rfl⟩:=ry;exact eq_int (fin_bl I q dec_int)
  |str j=>obtain⟨t',rfl⟩:=ry;exact PySem.EqMixed.eq_int_str (fin_bl I q (by simp))
  |_=>exact absurd (show false=true from hs) Bool.false_ne_true
 |str i=>
  obtain⟨t,rfl⟩:=rx
  cases y with
  |non=>cases ry;exact PySem.EqNone.eq_str_none (fin_bl I q (by simp))
  |bl j=>cases ry;exact PySem.EqMixed.eq_str_bool (fin_bl I q (by simp))
  |int j=>obtain⟨t',rfl⟩:=ry;exact PySem.EqMixed.eq_str_int (fin_bl I q (by simp))
  |str j=>obtain⟨t',rfl⟩:=ry;exact eq_str (fin_bl I q dec_str)
  |_=>exact absurd (show false=true from hs) Bool.false_ne_true
 |byt i=>
  obtain⟨t,rfl⟩:=rx
  cases y with
  |byt j=>obtain⟨t',rfl⟩:=ry;exact PySem.W.eq_bytes (fin_bl I q dec_byt)
  |_=>exact absurd (show false=true from hs) Bool.false_ne_true
 |_=>cases y<;>exact absurd (show false=true from hs) Bool.false_ne_true
theorem op_lt:OpR X (compareOp .Lt) (rI0 fun i j=>.bl (decide (i<j))):=opB0 fun _ _ _ _ _ _ _ q=>lt_int q
theorem op_le:OpR X (compareOp .LtE) (rI0 fun i j=>.bl (decide (i≤j))):=opB0 fun _ _ _ _ _ _ _ q=>le_int q
theorem op_gt:OpR X (compareOp .Gt) (rI0 fun i j=>.bl (decide (j<i))):=opB0 fun _ _ _ _ _ _ _ q=>gt_int q
theorem op_ge:OpR X (compareOp .GtE) (rI0 fun i j=>.bl (decide (j≤i))):=opB0 fun _ _ _ _ _ _ _ q=>ge_int q
theorem op_in_str:OpR X (compareOp .In) (fun x y H Q=>∃i j,x=.str i∧y=.str j∧Q (.bl (!(Builtin.Str.occurrences j i 0 j.length 1).isEmpty)) H):=by
 intro pins s σ H x y v u Q I rx ry h
 obtain⟨i,j,rfl,rfl,q⟩:=h
 obtain⟨t,rfl⟩:=rx
 obtain⟨t',rfl⟩:=ry
 exact in_str (fin_bl I q rfl)
theorem nomark (b:Expr){op:CmpOp}(h:op≠.In:=by decide)(h2:op≠.NotIn:=by decide):behindInMarks op b=false:=by
 have e1:(op==CmpOp.In)=false:=by cases op<;>first|rfl|exact absurd rfl h
 have e2:(op==CmpOp.NotIn)=false:=by cases op<;>first|rfl|exact absurd rfl h2
 cases b<;>simp[behindInMarks,e1,e2]
theorem pe_cmpR {op:CmpOp}{r:R2}(ho:OpR X (compareOp op) r)(ha:PE X a ta)(hb:PE X b tb)(hm:behindInMarks op b=false:=by exact nomark _):PE X (.Compare a [op] [b] pos) (tOp r ta tb):=by
 intro pins s σ H Q I h
 exact wpAny_Compare1 (binT ha hb I h fun v u s2 x y H2 I2 rx ry q=>ho pins s2 σ H2 x y v u Q I2 rx ry q) hm
inductive tTest_ (Q:Bool→Hp→Prop)(x:V)(H':Hp):Prop where
 |mk (k):(x=.bl k)→(Q k H')→tTest_ Q x H'
def tTest (t:TE):TT:=fun σ H Q=>t σ H (tTest_ Q)
theorem pt_cmpR {op:CmpOp}{r:R2}(ho:OpR X (compareOp op) r)(ha:PE X a ta)(hb:PE X b tb)(hm:behindInMarks op b=false:=by exact nomark _):PT X (.Compare a [op] [b] pos) (tTest (tOp r ta tb)):=by
 intro pins s σ H Q I h
 refine wpAny_isTrue_Compare1 (thn (ha pins s σ H _ I h) fun v s1 ⟨x,H1,I1,r1,q1⟩=>thn (hb pins s1 σ H1 _ I1 q1) fun u s2 ⟨y,H2,I2,r2,q2⟩=>
  thn (ho pins s2 σ H2 x y v u _ I2 r1 r2 q2) fun c s3 ⟨z,H3,I3,r3,k,e,q3⟩=>?_) hm
 subst e
 cases r3
 exact wpAny_truthy_bool ⟨H3,I3,q3⟩
def tChain (r r':R2)(ta tb tc:TE):TE:=fun σ H Q=>ta σ H fun x H1=>tb σ H1 fun y H2=>r x y H2 fun z H3=>∃k,z=.bl k∧
 (if k=true then tc σ H3 fun w' H4=>r' y w' H4 Q else Q (.bl false) H3)
theorem pe_chain {op op':CmpOp}{r r':R2}(ho:OpR X (compareOp op) r)(ho':OpR X (compareOp op') r')(ha:PE X a ta)(hb:PE X b tb)(hc:PE X c tc)
  (hm:lastMarks [op,op'] [b,c]=false:=by with_unfolding_all rfl):PE X (.Compare a [op,op'] [b,c] pos) (tChain r r' ta tb tc):=by
 intro pins s σ H Q I h
 refine Compare_chain (thn (ha pins s σ H _ I h) fun v s1 ⟨x,H1,I1,r1,q1⟩=>chain_link (thn (hb pins s1 σ H1 _ I1 q1) fun u s2 ⟨y,H2,I2,r2,q2⟩=>
  thn (ho pins s2 σ H2 x y v u _ I2 r1 r2 q2) fun d s3 ⟨z,H3,I3,r3,k,e,q3⟩=>?_)) hm
 subst e
 cases r3
 refine wpAny_truthy_bool ?_
 cases k with
 |false=>exact ite_ff ⟨.bl false,H3,I3,rfl,q3⟩
 |true=>exact ite_tt (chain_last (thn (hc pins s3 σ H3 _ I3 q3) fun w' s4 ⟨z',H4,I4,r4,q4⟩=>ho' pins s4 σ H4 y z' u w' Q I4 r2 r4 q4))
theorem pt_chain {op op':CmpOp}{r r':R2}(ho:OpR X (compareOp op) r)(ho':OpR X (compareOp op') r')(ha:PE X a ta)(hb:PE X b tb)(hc:PE X c tc)
  (hm:lastMarks [op,op'] [b,c]=false:=by with_unfolding_all rfl):PT X (.Compare a [op,op'] [b,c] pos) (tTest (tChain r r' ta tb tc)):=by
 intro pins s σ H Q I h
 refine isTrue_chain (thn (ha pins s σ H _ I h) fun v s1 ⟨x,H1,I1,r1,q1⟩=>test_link (thn (hb pins s1 σ H1 _ I1 q1) fun u s2 ⟨y,H2,I2,r2,q2⟩=>
  thn (ho pins s2 σ H2 x y v u _ I2 r1 r2 q2) fun d s3 ⟨z,H3,I3,r3,k,e,q3⟩=>?_)) hm
 subst e
 cases r3
 refine wpAny_truthy_bool ?_
 cases k with
 |false=>
  obtain⟨k',e',q'⟩:=q3
  cases e'
  exact ite_ff ⟨H3,I3,q'⟩
 |true=>
  refine ite_tt (test_last (thn (hc pins s3 σ H3 _ I3 q3) fun w' s4 ⟨z',H4,I4,r4,q4⟩=>thn (ho' pins s4 σ H4 y z' u w' _ I4 r2 r4 q4) fun d' s5 ⟨z2,H5,I5,r5,k2,e2,q5⟩=>?_))
  subst e2
  cases r5
  exact wpAny_truthy_bool ⟨H5,I5,q5⟩
theorem line63:(sizeLine:Nat)<2^63:=by rw[sizeLine_eq];decide
inductive r_op_add_str (x:V)(y:V)(H:Hp)(Q:VK):Prop where
 |mk (i) (j):(x=.str i)→(y=.str j)→(i.length+j.length≤sizeLine)→(Q (.str (i++j)) H)→r_op_add_str x y H Q
theorem op_add_str:OpR X (binaryOp .Add) r_op_add_str:=by
 intro pins s σ H x y v u Q I rx ry h
 obtain⟨i,j,rfl,rfl,hz,q⟩:=h
 obtain⟨t,rfl⟩:=rx
 obtain⟨t',rfl⟩:=ry
 exact add_str (fun t' tk=>⟨.str (i++j),H,I.tok _,⟨_,rfl⟩,q⟩) hz
theorem vals1 {x:V}{us:List Value}(r:Vals [x] us):∃u,us=[u]∧RelV x u:=by
 cases r with
 |cons r1 r2=>cases r2;exact⟨_,rfl,r1⟩
theorem vals2 {x y:V}{us:List Value}(r:Vals [x,y] us):∃u w',us=[u,w']∧RelV x u∧RelV y w':=by
 cases r with
 |cons r1 r2=>
  cases r2 with
  |cons r3 r4=>cases r4;exact⟨_,_,rfl,r1,r3⟩
theorem call_int1:CallR X (.type "int") (fun xs H Q=>(∃i,xs=[.int i]∧Q (.int i) H)∨∃k,xs=[.bl k]∧Q (.int (if k then 1 else 0)) H):=by
 intro pins s σ H xs us Q I r h
 rcases h with ⟨i,rfl,q⟩|⟨k,rfl,q⟩
 ·obtain⟨u,rfl,t,rfl⟩:=vals1 r
  exact call_int_int ⟨.int i,H,I,⟨_,rfl⟩,q⟩
 ·obtain⟨u,rfl,r1⟩:=vals1 r
  cases r1
  exact call_int_bool ⟨.int (if k then 1 else 0),H,I.tok _,⟨_,rfl⟩,q⟩
inductive r_call_str_int (xs:List V)(H:Hp)(Q:VK):Prop where
 |mk (i):(xs=[.int i])→(i.natAbs.log2<1920)→(Q (.str (toString i)) H)→r_call_str_int xs H Q
end
structure ObjM (h:Heap)(x dx C:Addr)(mA:Str→Option Value):Prop where
 obj:h.get? x=some (PySem.W.instObj C dx)
 ns:h.Ns1 dx mA
 ne:dx≠x
theorem lookIn_ns {h:Heap}{dx:Addr}{mA:Str→Option Value}(n:h.Ns1 dx mA):∃od,h.get? dx=some od∧∀name,PySem.W.lookIn name od=some (mA name):=by
 obtain⟨o,es,ep,ho,hd,hk,_,hm⟩:=n
 refine⟨o,ho,fun name=>?_⟩
 have e:=hm name
 unfold nsFind findBy at e
 rw[←Array.find?_toList]at e
 unfold PySem.W.lookIn
 rw[hd]
 dsimp only
 split
 ·rename_i y q
  rw[q]at e
  exact congrArg some e
 ·rename_i q
  rw[q]at e
  have a:es.toList.any (·.refKey)=false:=by
   rw[List.any_eq_false]
   intro y hy
   obtain⟨z,t,hkey⟩:=hk y (Array.mem_toList_iff.mp hy)
   simp[DictEntry.refKey,hkey]
  have a':¬es.toList.any (·.refKey)=true:=by rw[a];exact Bool.false_ne_true
  rw[if_neg a']
  exact congrArg some e
theorem ObjM.look {h:Heap}{x dx C:Addr}{mA:Str→Option Value}(I:ObjM h x dx C mA):∃od,PySem.W.InstAt h x (PySem.W.instObj C dx) C (some od)∧∀name,PySem.W.lookIn name od=some (mA name) :=
 let ⟨od,ho,hl⟩:=lookIn_ns I.ns
 ⟨od,⟨I.obj,rfl,rfl,ho⟩,hl⟩
section
variable {prog:Program}{w:World}{A:Around}{E:Value→Shared→Prop}{s:Shared}{K:PySem.W.Frag}{x dx C f:Addr}{mA:Str→Option Value}{name:Str}{v:Value}
theorem get_map {expr:Bool}{Q:Value→Shared→Prop}(X:K.In s.heap)(I:ObjM s.heap x dx C mA)(hg:PySem.W.plainGet K C name=true)(hh:PySem.W.hasDictIn K C=true)
  (ha:PySem.W.findIn K (.ref C) name=some none) (hv:mA name=some v) (hv':PySem.W.handedIn v=true) (h:Q v {s with toks:=s.toks+1}):
  wpAny (model prog w) A (getAttr (.ref x) name expr) Q E s:=by
 obtain⟨od,J,hl⟩:=I.look
 exact PySem.W.get_value X J (PySem.W.plainGet_of hg).1 (PySem.W.findObj_own hh ha rfl (by rw[hl,hv])) hv' h
theorem get_meth {pl:Sem Bool}{Q:Value×List Value→Shared→Prop}(X:K.In s.heap)(I:ObjM s.heap x dx C mA)(hg:PySem.W.plainGet K C name=true)
  (hf:PySem.W.findIn K (.ref C) name=some (some (.ref f))) (ht:PySem.W.isFn K (.ref f)=true) (hv:mA name=none) (h:Q (.ref f,[.ref x]) s):
  wpAny (model prog w) A (getMethod (.ref x) name pl) Q E s:=by
 obtain⟨od,J,hl⟩:=I.look
 exact PySem.W.method_fn X J (PySem.W.plainGet_of hg).1 (PySem.W.plainGet_of hg).2 hf (beq_iff_eq.mp ht) (by show(PySem.W.lookIn name od).map (·.isSome)=some false;rw[hl,hv];rfl) h
theorem set_map {ns:List Str}{Q:Unit→Shared→Prop}(X:K.In s.heap)(I:ObjM s.heap x dx C mA)
  (hs:PySem.W.findIn K (.ref C) "__setattr__"=some (some (.builtin "object.__setattr__"))) (hp:PySem.W.plainOver K C=true) (ht:PySem.W.takerIn K C name=some none) (hh:PySem.W.hasDictIn K C=true)
  (hw:PySem.Within mA ns) (hsz:ns.length≤sizeLine)
  (h:∀h',ObjM h' x dx C (fun y=>if y=name then some v else mA y)→Heap.SameBut dx s.heap h'→Q () {s with heap:=h',toks:=s.toks+2}):
  wpAny (model prog w) A (setAttr (.ref x) name v) Q E s:=by
 obtain⟨od,J,hl⟩:=I.look
 refine PySem.W.set_plain X J hs (PySem.W.osa_open (s:={s with toks:=s.toks+1}) (r:=none) X J hp ht fun b=>?_)
 obtain⟨cd,hc,hd'⟩:=PySem.W.any_some hh
 have hx:s.heap.get? x=some ⟨.ref C,some dx, .plain,#[]⟩:=I.obj
 refine wpAny_bind (wpAny_pure (wpAny_bind (wpAny_bind (wpAny_loadPart hx (wpAny_bind (PySem.W.Looks.here (s:={s with toks:=s.toks+1}) (PySem.W.looks_clsIn X hc) ?_))))))
 rw[hd']
 refine wpAny_pure (a:=some dx) (wpAny_bind (wpAny_pure (wpAny_bind ?_)))
 refine wpAny_nsSet1 (s:={s with toks:=s.toks+1}) I.ns fun h' hn2 hs2=>?_
 obtain⟨oD,esD,epD,hoD,hdD,hcD⟩:=hn2.count (PySem.Within.cons name v hw)
 refine wpAny_bind (wpAny_lookBehind hoD (by rw[hdD];exact pastItsLine_dict (Nat.le_trans hcD (by rw[List.length_cons];exact Nat.succ_le_succ hsz))) ?_)
 exact wpAny_pure (h _ ⟨(hs2.2 _ (Ne.symm I.ne)).trans I.obj,hn2,I.ne⟩ hs2)
theorem make_map {R:Result→Shared→Prop}{vs:List Value}{kw:List (Str×Value)}(X:K.In s.heap)(hm:PySem.W.makesIn K C=true)
  (hi:PySem.W.findIn K (.ref C) "__init__"=some (some (.ref f))) (hf:PySem.W.typeIn K (.ref f)=some (.type "function"))
  (h:codeAny (model prog w) (A.under (.builtin "type.__call__" ⟨.ref C::vs,kw⟩)) (.call (.ref f) ⟨.ref (s.heap.objs.size+1)::vs,kw⟩) (PySem.W.InitBack (s.heap.objs.size+1) R)
   {s with heap:=(s.heap.push PySem.W.emptyDict).push (PySem.W.instObj C s.heap.objs.size)}):
  codeAny (model prog w) A (.call (.ref C) ⟨vs,kw⟩) R s:=by
 obtain⟨hh,g,d,t,os⟩:=s
 exact PySem.W.make_core (PySem.W.makes_of X hm) (PySem.W.looks_findIn X hi) (fun self=>PySem.W.bind_fn X self hf) (.inl rfl) h
end
def putF (f:Str)(v:V):List (Str×V)→List (Str×V)
 |[]=>[(f,v)]
 |(g,x)::r=>if g=f then(g,v)::r else(g,x)::putF f v r
theorem lookup_putF (f g:Str)(v:V):∀fs:List (Str×V),(putF f v fs).lookup g=if g=f then some v else fs.lookup g
 |[]=>by
  show List.lookup g [(f,v)]=_
  by_cases h:g=f
  ·have hb:(g==f)=true:=beq_iff_eq.mpr h
   simp only[List.lookup,hb,if_pos h]
  ·have hb:(g==f)=false:=beq_eq_false_iff_ne.mpr h
   simp only[List.lookup,hb,if_neg h]
 |(k,x)::r=>by
  have ih:=lookup_putF f g v r
  rw[show putF f v ((k,x)::r)=(if k=f then(k,v)::r else(k,x)::putF f v r) from rfl]
  by_cases hk:k=f
  ·rw[if_pos hk]
   by_cases h:g=k
   ·have hb:(g==k)=true:=beq_iff_eq.mpr h
    simp only[List.lookup,hb,if_pos (h.trans hk)]
   ·have hb:(g==k)=false:=beq_eq_false_iff_ne.mpr h
    simp only[List.lookup,hb,if_neg (fun e:g=f=>h (e.trans hk.symm))]
  ·rw[if_neg hk]
   by_cases h:g=k
   ·have hb:(g==k)=true:=beq_iff_eq.mpr h
    simp only[List.lookup,hb,if_neg (fun e:g=f=>hk (h.symm.trans e))]
   ·have hb:(g==k)=false:=beq_eq_false_iff_ne.mpr h
    simp only[List.lookup,hb]
    exact ih
theorem keys_putF (f:Str)(v:V):∀fs:List (Str×V),f∈(putF f v fs).map (·.1)∧∀g,g∈fs.map (·.1)→g∈(putF f v fs).map (·.1)
 |[]=>⟨by simp[putF],fun g h=>by simp at h⟩
 |(k,x)::r=>by
  obtain⟨i1,i2⟩:=keys_putF f v r
  rw[show putF f v ((k,x)::r)=(if k=f then(k,v)::r else(k,x)::putF f v r) from rfl]
  by_cases hk:k=f
  ·rw[if_pos hk]
   subst hk
   exact⟨by simp,fun g h=>by simpa using h⟩
  ·rw[if_neg hk]
   refine⟨?_,fun g h=>?_⟩
   ·rw[List.map_cons]
    exact List.mem_cons_of_mem _ i1
   ·rw[List.map_cons]at h ⊢
    rcases List.mem_cons.mp h with e|e
    ·exact List.mem_cons.mpr (.inl e)
    ·exact List.mem_cons_of_mem _ (i2 g e)
theorem length_putF (f:Str)(v:V):∀fs:List (Str×V),(putF f v fs).length≤fs.length+1
 |[]=>by simp[putF]
 |(k,x)::r=>by
  have ih:=length_putF f v r
  rw[show putF f v ((k,x)::r)=(if k=f then(k,v)::r else(k,x)::putF f v r) from rfl]
  by_cases hk:k=f
  ·rw[if_pos hk,List.length_cons,List.length_cons];exact Nat.le_succ _
  ·rw[if_neg hk,List.length_cons,List.length_cons];exact Nat.succ_le_succ ih
theorem RelO.some_of {v:V}{o:Option Value}(r:RelO (some v) o):∃u,o=some u∧RelV v u:=by
 cases o with
 |none=>exact(show False from r).elim
 |some u=>exact⟨u,rfl,r⟩
theorem RelO.none_of {o:Option Value}(r:RelO none o):o=none:=by
 cases o with
 |none=>rfl
 |some u=>exact(show False from r).elim
theorem handed_of {v:V}{u:Value}(r:RelV v u):PySem.W.handedIn u=true:=by
 cases v with
 |non=>cases(show u=Value.none from r);rfl
 |bl b=>cases(show u=Value.bool b from r);rfl
 |int i=>obtain⟨t,e⟩:=(show ∃t,u=Value.int i t from r);cases e;rfl
 |str x=>obtain⟨t,e⟩:=(show ∃t,u=Value.str x t from r);cases e;rfl
 |byt b=>obtain⟨t,e⟩:=(show ∃t,u=Value.bytes b t from r);cases e;rfl
 |flt b=>obtain⟨t,e⟩:=(show ∃t,u=Value.float b t from r);cases e;rfl
 |ref a=>cases(show u=Value.ref a from r);rfl
 |ty n=>cases(show u=Value.type n from r);rfl
section
variable {P:Program}{w:World}{H H':Hp}{h h':Heap}{a C dx:Addr}{fs fs':List (Str×V)}
theorem ins_get (hok:HOk P w H h)(e:H a=some (.ins C dx fs)):∃mA,ObjM h a dx C mA∧(∀f,RelO (fs.lookup f) (mA f))∧PySem.Within mA (fs.map (·.1))∧fs.length≤1000∧H dx=some (.own a):=by
 obtain⟨d,z,ne,ob,mA,n,r,q⟩:=(show ObjOk P w H h a (.ins C dx fs) from hok a _ e)
 exact⟨mA,⟨ob,n,ne⟩,r,q,z,d⟩
end
structure Cls (K:PySem.W.Frag)(C:Addr):Prop where
 pg:PySem.W.plainGet K C Str.empty=true
 hd:PySem.W.hasDictIn K C=true
 po:PySem.W.plainOver K C=true
 sa:PySem.W.findIn K (.ref C) "__setattr__"=some (some (.builtin "object.__setattr__"))
theorem Cls.get {K:PySem.W.Frag}{C:Addr}(c:Cls K C)(f:Str):PySem.W.plainGet K C f=true:=c.pg
def NoAttr (K:PySem.W.Frag)(C:Addr)(f:Str):Prop:=PySem.W.findIn K (.ref C) f=some none
theorem NoAttr.taker {K:PySem.W.Frag}{C:Addr}{f:Str}(n:NoAttr K C f):PySem.W.takerIn K C f=some none:=by
 unfold PySem.W.takerIn
 rw[show PySem.W.findIn K (.ref C) f=some none from n]
 rfl
structure Meth (K:PySem.W.Frag)(C:Addr)(m:Str)(f:Addr):Prop where
 at_:PySem.W.findIn K (.ref C) m=some (some (.ref f))
 fn:PySem.W.isFn K (.ref f)=true
 kp:PySem.W.keepIn K (.ref f)=true
section
variable {X:Cx}{pins:List (Addr×Obj)}{σ:St}{H:Hp}{s:Shared}{a C dx:Addr}{fs:List (Str×V)}{f:Str}{v:V}{A:Around}{E:Value→Shared→Prop}
theorem getattr_ok {b:Bool}{Q:Value→Shared→Prop}(I:Inv X pins σ H s)(e:H a=some (.ins C dx fs))(c:Cls X.K C)(n:NoAttr X.K C f)(l:fs.lookup f=some v)
  (h:∀u s',Inv X pins σ H s'→RelV v u→Q u s'):wpAny (model X.prog X.w) A (getAttr (.ref a) f b) Q E s:=by
 obtain⟨mA,O,r,_,_,_⟩:=ins_get I.hok e
 obtain⟨u,hu,ru⟩:=RelO.some_of (v:=v) (o:=mA f) (by rw[←l];exact r f)
 exact get_map I.kIn O (c.get f) c.hd n hu (handed_of ru) (h u _ (I.tok _) ru)
theorem getmeth_ok {m:Str}{g:Addr}{pl:Sem Bool}{Q:Value×List Value→Shared→Prop}(I:Inv X pins σ H s)(e:H a=some (.ins C dx fs))(c:Cls X.K C)(k:Meth X.K C m g)(l:fs.lookup m=none)
  (h:Q (.ref g,[.ref a]) s):wpAny (model X.prog X.w) A (getMethod (.ref a) m pl) Q E s:=by
 obtain⟨mA,O,r,_,_,_⟩:=ins_get I.hok e
 have hn:mA m=none:=RelO.none_of (by rw[←l];exact r m)
 exact get_meth I.kIn O (c.get m) k.at_ k.fn hn h
theorem setattr_ok {y:V}{u:Value}{Q:Unit→Shared→Prop}(I:Inv X pins σ H s)(e:H a=some (.ins C dx fs))(c:Cls X.K C)(n:NoAttr X.K C f)(hl:fs.length<1000)(ry:RelV y u)
  (h:∀s',Inv X pins σ (upd H a (.ins C dx (putF f y fs))) s'→Q () s'):wpAny (model X.prog X.w) A (setAttr (.ref a) f u) Q E s:=by
 obtain⟨mA,O,r,wi,_,ho⟩:=ins_get I.hok e
 have hz:(fs.map (·.1)).length≤sizeLine:=by rw[List.length_map,sizeLine_eq];omega
 refine set_map I.kIn O c.sa c.po n.taker c.hd wi hz fun h' O' sb=>h _ ?_
 have hd:∃o,h'.get? dx=some o:=let ⟨o,_,_,e',_⟩:=O'.ns;⟨o,e'⟩
 refine I.write (x:=a) (e:=dx) (by rw[e];exact True.intro) (.inr ho) (fun b q hb z=>(sb.2 b hb).trans z) hd ?_
 refine⟨by rw[upd_ne O.ne];exact ho,?_,O.ne,O'.obj,_,O'.ns,fun g=>?_,fun g hg=>?_⟩
 ·have:=length_putF f y fs;exact Nat.le_trans this hl
 ·show RelO ((putF f y fs).lookup g) (if g=f then some u else mA g)
  rw[lookup_putF]
  by_cases q:g=f
  ·rw[if_pos q,if_pos q];exact ry
  ·rw[if_neg q,if_neg q];exact r g
 ·by_cases q:g=f
  ·rw[q];exact(keys_putF f y fs).1
  ·refine(keys_putF f y fs).2 g (wi g fun z=>hg ?_)
   show(if g=f then some u else mA g)=none
   rw[if_neg q];exact z
theorem Inv.made (I:Inv X pins σ H s):Inv X pins σ (upd (upd H s.heap.objs.size (.own (s.heap.objs.size+1))) (s.heap.objs.size+1) (.ins C s.heap.objs.size []))
  {s with heap:=(s.heap.push PySem.W.emptyDict).push (PySem.W.instObj C s.heap.objs.size)}:=by
 have e1:(s.heap.push PySem.W.emptyDict).get? s.heap.objs.size=some PySem.W.emptyDict:=Heap.get?_push_size s.heap rfl
 have e2:((s.heap.push PySem.W.emptyDict).push (PySem.W.instObj C s.heap.objs.size)).get? (s.heap.objs.size+1)=some (PySem.W.instObj C s.heap.objs.size):=by
  have:=Heap.get?_push_size (s.heap.push PySem.W.emptyDict) (o:=PySem.W.instObj C s.heap.objs.size) rfl
  rwa [Heap.size_push]at this
 have e3:(s.heap.push PySem.W.emptyDict).Ns s.heap.objs.size (fun _=>none):=⟨PySem.W.emptyDict,#[],_,e1,rfl,(fun e he=>absurd he (by simp)),fun _=>rfl⟩
 have I1:=I.laid (a:=s.heap.objs.size) (o:=.own (s.heap.objs.size+1)) (h':=s.heap.push PySem.W.emptyDict) (t':=s.toks) (fun b u q=>Heap.get?_push_of_some _ q) (Nat.le_refl _) ⟨_,e1⟩
 refine I1.laid (a:=s.heap.objs.size+1) (o:=.ins C s.heap.objs.size []) (t':=s.toks) (fun b u q=>Heap.get?_push_of_some _ q) (Nat.le_of_eq (Heap.size_push _ _)) ?_
 have ne:s.heap.objs.size≠s.heap.objs.size+1:=Nat.ne_of_lt (Nat.lt_succ_self _)
 refine⟨by rw[upd_ne ne,upd_same],Nat.zero_le _,ne,e2,fun _=>none,(Heap.Ns1.of_empty e3).at fun o q=>Heap.get?_push_of_some _ q,fun _=>True.intro,fun y hy=>absurd rfl hy⟩
theorem attr_of {prog:Program}{w:World}{env:Env}{e:Expr}{f:Str}{pos:Pos}{s:Shared}{Q:Value→Shared→Prop}(hb:attributeBase e f env (eval e env)=eval e env)
  (h:wpAny (model prog w) A (eval e env) (fun o s₁=>wpAny (model prog w) A (getAttr o f true) Q E s₁) E s):wpAny (model prog w) A (eval (.Attribute e f pos) env) Q E s :=
 Attribute_any_ h (by rw[arm_eval_Attribute,hb])
end
inductive tFld_ (K:PySem.W.Frag)(f:Str)(Q:VK)(x:V)(H1:Hp):Prop where
 |mk (a) (C) (dx) (fs) (v):(x=.ref a)→(H1 a=some (.ins C dx fs))→(Cls K C)→(NoAttr K C f)→(fs.lookup f=some v)→(Q v H1)→tFld_ K f Q x H1
def tFld (K:PySem.W.Frag)(ta:TE)(f:Str):TE:=fun σ H Q=>ta σ H (tFld_ K f Q)
inductive sFld_ (K:PySem.W.Frag)(f:Str)(D:Ends)(σ:St)(y:V)(x:V)(H2:Hp):Prop where
 |mk (a) (C) (dx) (fs):(x=.ref a)→(H2 a=some (.ins C dx fs))→(Cls K C)→(NoAttr K C f)→(fs.length<1000)→(D.nx σ (upd H2 a (.ins C dx (putF f y fs))))→sFld_ K f D σ y x H2
def sFld (K:PySem.W.Frag)(ta tv:TE)(f:Str):TS:=fun D σ H=>tv σ H fun y H1=>ta σ H1 (sFld_ K f D σ y)
section
variable {X:Cx}{o e value:Expr}{f:Str}{pos pos' tpos:Pos}{ta tv:TE}
theorem pe_fld (he:PE X e ta)(hb:attributeBase e f X.env (eval e X.env)=eval e X.env):PE X (.Attribute e f pos) (tFld X.K ta f):=by
 intro pins s σ H Q I h
 refine attr_of hb (thn (he pins s σ H _ I h) fun u s1 ⟨x,H1,I1,rx,a,C,dx,fs,v,ex,ea,c,n,l,q⟩=>?_)
 subst ex
 obtain rfl:u=Value.ref a:=rx
 exact getattr_ok I1 ea c n l fun u' s2 I2 ru=>⟨v,H1,I2,ru,q⟩
theorem ps_fld (ha:PE X o ta)(hv:PE X value tv)(hs:swapsWith value (some (.Attribute o f pos')) pos.line X.env=pure false):PS X (.Assign [.Attribute o f pos'] value pos) (sFld X.K ta tv f):=by
 intro pins s σ H D I h
 refine plainObj_wpAny_Assign_Attribute (thn (hv pins s σ H _ I h) fun u s1 ⟨y,H1,I1,ry,q⟩=>thn (ha pins s1 σ H1 _ I1 q) fun ov s2 ⟨x,H2,I2,rx,a,C,dx,fs,ex,ea,c,n,l,q2⟩=>?_) hs
 subst ex
 obtain rfl:ov=Value.ref a:=rx
 exact setattr_ok I2 ea c n l ry fun s3 I3=>⟨σ,_,I3,q2⟩
end
section
variable {X:Cx}{pins:List (Addr×Obj)}{σ:St}{H:Hp}{s:Shared}{A:Around}{E:Value→Shared→Prop}{Q:Value→Shared→Prop}{c:Value}{b:Bool}
inductive TyOf (K:PySem.W.Frag)(H:Hp):V→Value→Prop where
 |non:TyOf K H .non (.type "NoneType")
 |bl (x:Bool):TyOf K H (.bl x) (.type "bool")
 |int (i:Int):TyOf K H (.int i) (.type "int")
 |str (x:Str):TyOf K H (.str x) (.type "str")
 |flt (x:UInt64):TyOf K H (.flt x) (.type "float")
 |lst {a:Addr} {xs:List V} (e:H a=some (.lst xs)):TyOf K H (.ref a) (.type "list")
 |frz {a:Addr} {o:Obj} {xs:List V} (e:H a=some (.frz o (.lst xs))):TyOf K H (.ref a) (.type "list")
 |tup {a:Addr} {xs:List V} (e:H a=some (.tup xs)):TyOf K H (.ref a) (.type "tuple")
 |dK {a:Addr} {kvs:List (Key×V)} (e:H a=some (.dK kvs)):TyOf K H (.ref a) (.type "dict")
 |dT {a:Addr} {kvs:List (List Key×V)} (e:H a=some (.dT kvs)):TyOf K H (.ref a) (.type "dict")
 |ins {a C dx:Addr} {fs:List (Str×V)} (e:H a=some (.ins C dx fs)) (cl:Cls K C) (ha:PySem.W.findIn K (.ref C) "__class__"=some (some (.builtin "object.__class__")))
   (hn:PySem.W.specialIn K (.builtin "object.__class__") "__get__"=some (some (.builtin "getset_descriptor.__get__"))) (htk:PySem.W.takesIn K (.builtin "object.__class__")=some true)
   (hm:PySem.W.mroIn K C (.type "object")=some true):TyOf K H (.ref a) (.ref C)
theorem isinst_ok {x:V}{u t:Value}(I:Inv X pins σ H s)(rx:RelV x u)(ty:TyOf X.K H x t)(e:PySem.W.kitOne X.K t c=some b)(h:∀tk,Q (.bool b) {s with toks:=tk}):
  wpAny (model X.prog X.w) A (call (.builtin "isinstance") [u,c]) Q E s:=by
 cases ty with
 |non=>cases(show u=Value.none from rx);exact PySem.W.kia_one PySem.W.kitx_none I.kIn True.intro e (fun z=>nomatch z) h
 |bl y=>cases(show u=Value.bool y from rx);exact PySem.W.kia_one PySem.W.kitx_bool I.kIn True.intro e (fun z=>nomatch z) h
 |int i=>obtain⟨t,q⟩:=(show ∃t,u=Value.int i t from rx);cases q;exact PySem.W.kia_one PySem.W.kitx_int I.kIn True.intro e (fun z=>nomatch z) h
 |str y=>obtain⟨t,q⟩:=(show ∃t,u=Value.str y t from rx);cases q;exact PySem.W.kia_one PySem.W.kitx_str I.kIn True.intro e (fun z=>nomatch z) h
 |flt y=>obtain⟨t,q⟩:=(show ∃t,u=Value.float y t from rx);cases q;exact PySem.W.kia_one PySem.W.kitx_float I.kIn True.intro e (fun z=>nomatch z) h
 |@lst a xs ea=>
  cases(show u=Value.ref a from rx)
  obtain⟨_,_,n,_,h1⟩:=(show ObjOk X.prog X.w H s.heap a (.lst xs) from I.hok a _ ea)
  exact PySem.W.kia_one PySem.W.kitx_list I.kIn ⟨_,h1,rfl⟩ e (fun z=>nomatch z) h
 |@frz a ob xs ea=>
  cases(show u=Value.ref a from rx)
  obtain⟨_,_,_,n,_,h1⟩:=(show ObjOk X.prog X.w H s.heap a (.frz ob (.lst xs)) from I.hok a _ ea)
  exact PySem.W.kia_one PySem.W.kitx_list I.kIn ⟨_,h1,rfl⟩ e (fun z=>nomatch z) h
 |@tup a xs ea=>
  cases(show u=Value.ref a from rx)
  obtain⟨_,_,_,p⟩:=(show ObjOk X.prog X.w H s.heap a (.tup xs) from I.hok a _ ea)
  obtain⟨o,h1,h2,_⟩:=p
  exact PySem.W.kia_one PySem.W.kitx_tuple I.kIn ⟨o,h1,h2⟩ e (fun z=>nomatch z) h
 |@dK a kvs ea=>
  cases(show u=Value.ref a from rx)
  obtain⟨_,_,vs,_,p⟩:=(show ObjOk X.prog X.w H s.heap a (.dK kvs) from I.hok a _ ea)
  obtain⟨o,es,ep,h1,h2,_⟩:=p
  exact PySem.W.kia_one PySem.W.kitx_dict I.kIn ⟨o,h1,h2.1⟩ e (fun z=>nomatch z) h
 |@dT a kvs ea=>
  cases(show u=Value.ref a from rx)
  obtain⟨_,_,xs,_,o,es,ep,h1,h2,_⟩:=(show ObjOk X.prog X.w H s.heap a (.dT kvs) from I.hok a _ ea)
  exact PySem.W.kia_one PySem.W.kitx_dict I.kIn ⟨o,h1,h2.1⟩ e (fun z=>nomatch z) h
 |@ins a C dx fs ea cl ha hn htk hm=>
  cases(show u=Value.ref a from rx)
  obtain⟨mA,O,_⟩:=ins_get I.hok ea
  obtain⟨od,J,_⟩:=O.look
  exact PySem.W.kia_one (PySem.W.kitx_own (cl.get _) cl.hd ha hn htk hm) I.kIn J e (fun z=>nomatch z) h
end
structure Room (k:Nat)(A:Around):Prop where
 hd:A.handled=none
 dp:A.depth+3*k+5<recursionLimit
 un:A.units+16*k+200<cLine
theorem Room.mono {j k:Nat}{A:Around}(r:Room k A)(h:j≤k):Room j A:=⟨r.hd,by have:=r.dp;omega,by have:=r.un;omega⟩
theorem Room.deeper {k:Nat}{A:Around}(r:Room (k+1) A)(env:Env):Room k (A.deeper env) :=
 ⟨r.hd,by have:=r.dp;show A.depth+1+3*k+5<_;omega,by have:=r.un;show A.units+3+16*k+200<_;omega⟩
theorem make_depth {A:Around}{C:Addr}{us:List Value}{kw:List (Str×Value)}:(A.under (.builtin "type.__call__" ⟨.ref C::us,kw⟩)).depth=A.depth+1:=by
 first|rfl|simp[Around.under,Code.weight,Code.isCreation,Code.isGuard,Code.isCaller,Code.frames,Code.isFrame,guardIds]
theorem make_units {A:Around}{C:Addr}{us:List Value}{kw:List (Str×Value)}:(A.under (.builtin "type.__call__" ⟨.ref C::us,kw⟩)).units=A.units+1:=by
 first|rfl|simp[Around.under,Code.cUnits,Code.frames,Code.isFrame]
theorem Room.make {k:Nat}{A:Around}(r:Room (k+1) A)(C:Addr)(us:List Value)(kw:List (Str×Value)):Room k (A.under (.builtin "type.__call__" ⟨.ref C::us,kw⟩)) :=
 ⟨r.hd,by have:=r.dp;rw[make_depth];omega,by have:=r.un;rw[make_units];omega⟩
theorem Room.depth {k:Nat}{A:Around}(r:Room k A):A.depth<recursionLimit:=by have:=r.dp;omega
theorem Room.units {k:Nat}{A:Around}(r:Room k A):A.units+64<cLine:=by have:=r.un;omega
def tNil:TA:=fun _ H Q=>Q [] H
def tCons (ta:TE)(tr:TA):TA:=fun σ H Q=>ta σ H fun x H1=>tr σ H1 fun xs H2=>Q (x::xs) H2
section
variable {X:Cx}{e:Expr}{es:List Expr}{te:TE}{t:TA}{pos:Pos}
theorem pa_nil:PA X [] tNil:=fun _ _ _ _ H Q I h=>Calls.spliced_nil ⟨[],H,I, .nil,h⟩
theorem pa_cons (ha:PE X e te)(hr:PA X es t)(hs:starEach (e::es) X.env=(false,eval e X.env)::starEach es X.env:=by rfl):PA X (e::es) (tCons te t):=by
 intro pos pins s σ H Q I h
 rw[hs]
 show wpAny _ _ (spliced ((false,eval e X.env)::backTo pos (starEach es X.env))) _ _ s
 refine Calls.spliced_cons (thn (ha pins s σ H _ I h) fun u s1 ⟨x,H1,I1,r1,q1⟩=>?_)
 exact thn (hr pos pins s1 σ H1 _ I1 q1) fun us s2 ⟨xs,H2,I2,r2,q2⟩=>⟨x::xs,H2,I2, .cons r1 r2,q2⟩
inductive tTup_ (Q:VK)(xs:List V)(H1:Hp):Prop where
 |mk:(xs.length≤sizeLine)→(∀p,H1 p=none→Q (.ref p) (upd H1 p (.tup xs)))→tTup_ Q xs H1
def tTup (t:TA):TE:=fun σ H Q=>t σ H (tTup_ Q)
inductive tLst_ (Q:VK)(xs:List V)(H1:Hp):Prop where
 |mk:(xs.length≤sizeLine)→(∀p,H1 p=none→Q (.ref p) (upd H1 p (.lst xs)))→tLst_ Q xs H1
def tLst (t:TA):TE:=fun σ H Q=>t σ H (tLst_ Q)
theorem pe_tup {x1}(h:PA X es t):PE X (.Tuple es x1 pos) (tTup t):=by
 intro pins s σ H Q I hq
 refine wpAny_Tuple_spliced (thn (h pos pins s σ H _ I hq) fun us s1 ⟨xs,H1,I1,r,z,q⟩=>⟨by rw[←r.length];exact z,?_⟩)
 have hf:H1 s1.heap.objs.size=none:=I1.hok.fresh (Nat.le_refl _)
 refine⟨.ref s1.heap.objs.size,upd H1 s1.heap.objs.size (.tup xs),I1.laid (t':=s1.toks) (fun b u e=>Heap.get?_push_of_some _ e) (Nat.le_refl _) ?_,rfl,q _ hf⟩
 exact⟨z,us,r,⟨_,Heap.get?_push_size _ rfl,rfl,_,rfl⟩⟩
theorem pe_lst (h:PA X es t):PE X (.List es pos) (tLst t):=by
 intro pins s σ H Q I hq
 refine wpAny_List_spliced (thn (h pos pins s σ H _ I hq) fun us s1 ⟨xs,H1,I1,r,z,q⟩=>⟨by rw[←r.length];exact z,?_⟩)
 have hf:H1 s1.heap.objs.size=none:=I1.hok.fresh (Nat.le_refl _)
 refine⟨.ref s1.heap.objs.size,upd H1 s1.heap.objs.size (.lst xs),I1.laid (t':=s1.toks) (fun b u e=>Heap.get?_push_of_some _ e) (Nat.le_refl _) ?_,rfl,q _ hf⟩
 exact⟨z,us,0,r,Heap.get?_push_size _ rfl⟩
end
abbrev Sp:=List V→Hp→VK→XK→Prop
abbrev CXT:=List Env→Hp→Shared→XK→Value→Shared→Prop
structure Env0 (P:Program)(w:World)(K:PySem.W.Frag)(mg:Str→Option Value)(base:Heap)(A:Around)(outer:List Env)(s:Shared)(H:Hp):Prop where
 frames:A.frames=some outer
 mod:Mod K mg base
 bs:∀b o,base.get? b=some o→s.heap.get? b=some o∧H b=none
 bsz:base.objs.size≤s.heap.objs.size
 funs:s.heap.FunFrames base outer
 frf:∀b∈frs outer,H b=none
 hok:HOk P w H s.heap
 bare:AllBare s.gens
def CE (outer:List Env)(P:Program)(w:World)(H:Hp)(s:Shared)(Q:VK)(u:Value)(s':Shared):Prop :=
 ∃v H',s'.os=s.os∧AllBare s'.gens∧Un (frs outer) [] H H' s.heap s'.heap∧HOk P w H' s'.heap∧RelV v u∧Q v H'
def CR (CX:CXT)(outer:List Env)(P:Program)(w:World)(H:Hp)(s:Shared)(Q:VK)(E:XK)(r:Result)(s':Shared):Prop :=
 match r with
 |.ok (.ret u)=>CE outer P w H s Q u s'
 |.ok _=>False
 |.error e=>CX outer H s E e s'
structure FnOk (P:Program)(w:World)(K:PySem.W.Frag)(mg:Str→Option Value)(base:Heap)(CX:CXT)(k:Nat)(f:Addr)(fd:FuncData)(ps:List Str)(sp:Sp):Prop where
 len:∀vs H Q E,sp vs H Q E→vs.length=ps.length
 run:∀(A:Around) (outer:List Env) (s:Shared) (H:Hp) (args:Args) (us:List Value) (vs:List V) (Q:VK) (E:XK),Room k A→Env0 P w K mg base A outer s H→BindsTo s fd args (ps.zip us)→Vals vs us→sp vs H Q E→
  codeAny (model P w) A (.call (.ref f) args) (CR CX outer P w H s Q E) s
theorem FnOk.mono {P:Program}{w:World}{K:PySem.W.Frag}{mg:Str→Option Value}{base:Heap}{CX:CXT}{j k:Nat}{f:Addr}{fd:FuncData}{ps:List Str}{sp:Sp}(F:FnOk P w K mg base CX j f fd ps sp)(h:j≤k):
  FnOk P w K mg base CX k f fd ps sp:=⟨F.len,fun A outer s H args us vs Q E hr=>F.run A outer s H args us vs Q E (hr.mono h)⟩
theorem Env0.make {P:Program}{w:World}{K:PySem.W.Frag}{mg:Str→Option Value}{base:Heap}{A:Around}{outer:List Env}{s:Shared}{H:Hp}(e:Env0 P w K mg base A outer s H)(C:Addr)(us:List Value)(kw:List (Str×Value)):
  Env0 P w K mg base (A.under (.builtin "type.__call__" ⟨.ref C::us,kw⟩)) outer s H:=⟨by first|exact e.frames|(simpa[Around.under,Code.envs,Code.isFrame,pushEnvs] using e.frames),e.mod,e.bs,e.bsz,e.funs,e.frf,e.hok,e.bare⟩
section
variable {X:Cx}{pins:List (Addr×Obj)}{σ:St}{H:Hp}{s s':Shared}
theorem Inv.env0 (I:Inv X pins σ H s):Env0 X.prog X.w X.K X.mg X.base X.A X.stack s H :=
 ⟨I.ok.frames,I.ok.mod,I.bs,Nat.le_trans I.ok.bsz I.sz,I.stack,I.stkFree,I.hok,I.bare⟩
theorem Inv.after {Q:VK}{u:Value}(I:Inv X pins σ H s)(h:CE X.stack X.prog X.w H s Q u s'):EP X pins σ Q u s':=by
 obtain⟨v,H',os,bare,un,hok,r,q⟩:=h
 obtain⟨hh,g,d,t,os'⟩:=s'
 obtain rfl:os'=s.os:=os
 exact⟨v,H',I.call (h':=hh) (g':=g) (d':=d) (t':=t) (ch:=[]) un hok bare (fun b z=>absurd z (by simp)),r,q⟩
end
def tCall (sp:Sp)(dvs:List V)(E:XK)(t:TA):TE:=fun σ H Q=>t σ H fun vs H1=>sp (vs++dvs) H1 Q E
inductive tMeth_ (C:Addr)(m:Str)(sp:Sp)(dvs:List V)(E:XK)(t:TA)(σ:St)(Q:VK)(x:V)(H1:Hp):Prop where
 |mk (a) (dx) (fs):(x=.ref a)→(H1 a=some (.ins C dx fs))→(fs.lookup m=none)→(t σ H1 fun vs H2=>sp (x::(vs++dvs)) H2 Q E)→tMeth_ C m sp dvs E t σ Q x H1
def tMeth (C:Addr)(m:Str)(sp:Sp)(dvs:List V)(E:XK)(ta:TE)(t:TA):TE:=fun σ H Q=>ta σ H (tMeth_ C m sp dvs E t σ Q)
def tMake (C:Addr)(sp:Sp)(dvs:List V)(E:XK)(t:TA):TE:=fun σ H Q=>t σ H fun vs H1=>∀x dx,H1 x=none→H1 dx=none→dx≠x→
 sp (.ref x::(vs++dvs)) (upd (upd H1 dx (.own x)) x (.ins C dx [])) (fun v H2=>v=.non∧Q (.ref x) H2) E
def Binds (K:PySem.W.Frag)(fd:FuncData)(ps:List Str)(ds:List Value):Prop :=
 ∀(s:Shared) (us:List Value),K.In s.heap→(us++ds).length=ps.length→BindsTo s fd ⟨us,[]⟩ (ps.zip (us++ds))
theorem Binds.all {K:PySem.W.Frag}{fd:FuncData}{ps:List Str}(h:∀us:List Value,us.length=ps.length→bindArgs fd ⟨us,[]⟩=pure (ps.zip us)):Binds K fd ps []:=fun s us _ hl=>by
 rw[List.append_nil]at hl ⊢
 exact .of_eq (h us hl)
def Passes (CX:CXT)(X:Cx)(E:XK):Prop:=∀(pins:List (Addr×Obj)) (σ:St) (H:Hp) (s:Shared) (e:Value) (s':Shared),Inv X pins σ H s→CX X.stack H s E e s'→X.xe e s'
section
variable {X:Cx}{CX:CXT}{k:Nat}{f C:Addr}{fd:FuncData}{ps:List Str}{sp:Sp}{dvs:List V}{ds:List Value}{E:XK}{x m:Str}{p pos apos:Pos}{e o:Expr}{es:List Expr}{ta:TE}{t:TA}
theorem run_fn {pins:List (Addr×Obj)}{σ:St}{H:Hp}{s:Shared}{Q:VK}{us:List Value}{vs:List V}(F:FnOk X.prog X.w X.K X.mg X.base CX k f fd ps sp)(hr:Room k X.A)(hb:Binds X.K fd ps ds)(hd:Vals dvs ds)(hx:Passes CX X E)
  (I:Inv X pins σ H s) (r:Vals vs us) (h:sp (vs++dvs) H Q E):wpAny (model X.prog X.w) X.A (call (.ref f) us) (EP X pins σ Q) X.xe s:=by
 have r2:Vals (vs++dvs) (us++ds):=r.append hd
 have hl:(us++ds).length=ps.length:=by rw[←r2.length];exact F.len _ _ _ _ h
 refine wpAny_call (codeAny_mono (F.run X.A X.stack s H ⟨us,[]⟩ (us++ds) (vs++dvs) Q E hr I.env0 (hb s us I.kIn hl) r2 h) fun r s' hq=>?_)
 cases r with
 |error e=>exact hx pins σ H s e s' I hq
 |ok fl=>
  cases fl with
  |ret u=>exact I.after hq
  |next=>exact False.elim hq
  |brk=>exact False.elim hq
  |cont=>exact False.elim hq
theorem pe_call (F:FnOk X.prog X.w X.K X.mg X.base CX k f fd ps sp)(hr:Room k X.A)(hg:Gl X x)(hm:X.mg x=some (.ref f))(hk:PySem.W.keepIn X.K (.ref f)=true)(hb:Binds X.K fd ps ds)(hd:Vals dvs ds)(hx:Passes CX X E)
  (ha:PA X (e::es) t) (hdb:(x==("__debug__":Str))=false:=by decide) (he:starEach (e::es) X.env=(false,eval e X.env)::starEach es X.env:=by rfl) (hpl:(backTo pos (starEach es X.env)).any (·.1)=false:=by rfl):
  PE X (.Call (.Name x p) (e::es) [] pos) (tCall sp dvs E t):=by
 intro pins s σ H Q I h
 refine wpAny_Call_Name_kw (ld_glob I hg hm ?_ hdb)
 refine PySem.W.callWith_K (h₀:=X.base) I.ok.mod.kin hk (thn (ha pos pins s σ H _ I h) fun us s1 ⟨vs,H1,I1,r,q⟩=>⟨I1.kIn,?_⟩) he hpl
 exact run_fn F hr hb hd hx I1 r q
theorem pe_call0 (F:FnOk X.prog X.w X.K X.mg X.base CX k f fd ps sp)(hr:Room k X.A)(hg:Gl X x)(hm:X.mg x=some (.ref f))(hk:PySem.W.keepIn X.K (.ref f)=true)(hb:Binds X.K fd ps ds)(hd:Vals dvs ds)(hx:Passes CX X E)
  (hdb:(x==("__debug__":Str))=false:=by decide):PE X (.Call (.Name x p) [] [] pos) (tCall sp dvs E tNil):=by
 intro pins s σ H Q I h
 refine wpAny_Call_Name_kw (ld_glob I hg hm ?_ hdb)
 exact PySem.W.callWith_K0 I.kIn hk (run_fn (us:=[]) F hr hb hd hx I .nil h)
theorem pe_meth {pl:Sem Bool}(he:PE X o ta)(c:Cls X.K C)(hm:Meth X.K C m f)(F:FnOk X.prog X.w X.K X.mg X.base CX k f fd ps sp)(hr:Room k X.A)(hb:Binds X.K fd ps ds)(hd:Vals dvs ds)(hx:Passes CX X E)(ha:PA X (e::es) t)
  (hst:starEach (e::es) X.env=(false,eval e X.env)::starEach es X.env:=by rfl) (hpl:(backTo pos (starEach es X.env)).any (·.1)=false:=by rfl)
  (ht:eval (.Call (.Attribute o m apos) (e::es) [] pos) X.env=(do
   let ov ←eval o X.env
   standAt apos.atName
   let (f,first) ←holding [ov] (getMethod ov m pl)
   callWith pos f first (backTo pos (starEach (e::es) X.env)) (backToKw pos (keywordEach [] X.env))):=by rfl):
  PE X (.Call (.Attribute o m apos) (e::es) [] pos) (tMeth C m sp dvs E ta t):=by
 intro pins s σ H Q I h
 refine PySem.W.methodCall_KW (pl:=pl) (thn (he pins s σ H _ I h) fun u s1 ⟨x,H1,I1,rx,a,dx,fs,ex,ea,l,q⟩=>?_) ht
 subst ex
 obtain rfl:u=Value.ref a:=rx
 refine getmeth_ok I1 ea c hm l ?_
 refine PySem.W.callWith_K (first:=[.ref a]) (h₀:=X.base) I.ok.mod.kin hm.kp (thn (ha pos pins s1 σ H1 _ I1 q) fun us s2 ⟨vs,H2,I2,r,q2⟩=>⟨I2.kIn,?_⟩) hst hpl
 exact run_fn (us:=.ref a::us) (vs:=.ref a::vs) F hr hb hd hx I2 (.cons rfl r) q2
structure Mk (K:PySem.W.Frag)(C f:Addr):Prop where
 makes:PySem.W.makesIn K C=true
 init:PySem.W.findIn K (.ref C) "__init__"=some (some (.ref f))
 fn:PySem.W.isFn K (.ref f)=true
 kp:PySem.W.keepIn K (.ref C)=true
theorem run_make {pins:List (Addr×Obj)}{σ:St}{H:Hp}{s:Shared}{Q:VK}{us:List Value}{vs:List V}(M:Mk X.K C f)(F:FnOk X.prog X.w X.K X.mg X.base CX k f fd ps sp)(hr:Room (k+1) X.A)(hb:Binds X.K fd ps ds)(hd:Vals dvs ds)
  (hx:Passes CX X E) (I:Inv X pins σ H s) (r:Vals vs us)
  (h:∀x dx,H x=none→H dx=none→dx≠x→sp (.ref x::(vs++dvs)) (upd (upd H dx (.own x)) x (.ins C dx [])) (fun v H2=>v=.non∧Q (.ref x) H2) E):
  wpAny (model X.prog X.w) X.A (call (.ref C) us) (EP X pins σ Q) X.xe s:=by
 have hq:=h (s.heap.objs.size+1) s.heap.objs.size (I.hok.fresh (Nat.le_succ _)) (I.hok.fresh (Nat.le_refl _)) (Nat.ne_of_lt (Nat.lt_succ_self _))
 have I2:=Inv.made (C:=C) I
 have r2:Vals (V.ref (s.heap.objs.size+1)::(vs++dvs)) (Value.ref (s.heap.objs.size+1)::(us++ds)):=.cons rfl (r.append hd)
 have hl:(Value.ref (s.heap.objs.size+1)::us++ds).length=ps.length:=by
  have e:=r2.length
  rw[F.len _ _ _ _ hq]at e
  exact e.symm
 refine wpAny_call (make_map (f:=f) I.kIn M.makes M.init (beq_iff_eq.mp M.fn) (codeAny_mono (F.run _ X.stack _ _ ⟨Value.ref (s.heap.objs.size+1)::us,[]⟩ (Value.ref (s.heap.objs.size+1)::(us++ds)) _ _ E (hr.make C us [])
  (I2.env0.make C us []) (hb _ (Value.ref (s.heap.objs.size+1)::us) I2.kIn hl) r2 hq) fun r s' hq'=>?_))
 cases r with
 |error e=>exact hx pins σ _ _ e s' I2 hq'
 |ok fl=>
  cases fl with
  |ret u=>
   obtain⟨v,H',I3,rv,ev,q3⟩:=I2.after hq'
   subst ev
   exact⟨rv,⟨V.ref (s.heap.objs.size+1),H',I3,rfl,q3⟩⟩
  |next=>exact False.elim hq'
  |brk=>exact False.elim hq'
  |cont=>exact False.elim hq'
theorem pe_make (M:Mk X.K C f)(F:FnOk X.prog X.w X.K X.mg X.base CX k f fd ps sp)(hr:Room (k+1) X.A)(hg:Gl X x)(hm:X.mg x=some (.ref C))(hb:Binds X.K fd ps ds)(hd:Vals dvs ds)(hx:Passes CX X E)
  (ha:PA X (e::es) t) (hdb:(x==("__debug__":Str))=false:=by decide) (he:starEach (e::es) X.env=(false,eval e X.env)::starEach es X.env:=by rfl) (hpl:(backTo pos (starEach es X.env)).any (·.1)=false:=by rfl):
  PE X (.Call (.Name x p) (e::es) [] pos) (tMake C sp dvs E t):=by
 intro pins s σ H Q I h
 refine wpAny_Call_Name_kw (ld_glob I hg hm ?_ hdb)
 refine PySem.W.callWith_K (h₀:=X.base) I.ok.mod.kin M.kp (thn (ha pos pins s σ H _ I h) fun us s1 ⟨vs,H1,I1,r,q⟩=>⟨I1.kIn,?_⟩) he hpl
 exact run_make M F hr hb hd hx I1 r q
end
section
variable {X:Cx}{CX:CXT}{k:Nat}{f C:Addr}{fd:FuncData}{ps ks:List Str}{sp:Sp}{E:XK}{x m:Str}{p pos apos kpos:Pos}{e o:Expr}{es:List Expr}{kws:List Keyword}{te ta:TE}{t tk:TA}{nm:Option Str}
variable {g:List Value→List Value→List Value}{gV:List V→List V→List V}
end
structure FnScope (N P:List Str)(sc:Scope):Prop where
 kind:sc.kind=.function
 co:sc.isCoroutine=false
 gen:sc.isGenerator=false
 nd:N.Nodup
 pre:N.take P.length=P
 par:∀x∈P,sc.names.lookup x=some .local∨sc.names.lookup x=some .cell
 nofree:∀y∈sc.names,y.2≠.free
theorem bindL_out {kindOf:Str→Option NameKind}{x:Str}:∀{binds:List (Str×Value)} {m:Str→Option Value},(∀v,(x,v)∉binds)→bindL kindOf binds m x=m x
 |[],_,_=>rfl
 |(n,v)::r,m,h=>by
  unfold bindL
  rw[bindL_out fun w hw=>h w (List.mem_cons_of_mem _ hw)]
  split
  ·have:x≠n:=by rintro rfl;exact h v List.mem_cons_self
   simp[this]
  ·rfl
theorem bindC_out {kindOf:Str→Option NameKind}{x:Str}:∀{binds:List (Str×Value)} {m:Str→Option Value},(∀v,(x,v)∉binds)→bindC kindOf binds m x=m x
 |[],_,_=>rfl
 |(n,v)::r,m,h=>by
  unfold bindC
  rw[bindC_out fun w hw=>h w (List.mem_cons_of_mem _ hw)]
  split
  ·rfl
  ·have:x≠n:=by rintro rfl;exact h v List.mem_cons_self
   simp[this]
theorem bindL_get {kindOf:Str→Option NameKind}{x:Str}{v:Value}{P:List Str}{vs:List Value}{i:Nat}{m:Str→Option Value}(nd:P.Nodup)(h1:P[i]?=some x)(h2:vs[i]?=some v)(hk:kindOf x=some .local):
  bindL kindOf (P.zip vs) m x=some v:=by
 induction P generalizing vs i m with
 |nil=>simp at h1
 |cons p P ih=>cases vs with
  |nil=>simp at h2
  |cons w vs=>
   show bindL kindOf ((p,w)::P.zip vs) m x=_
   unfold bindL
   cases i with
   |zero=>
    cases h1
    cases h2
    rw[bindL_out fun v hv=>(List.nodup_cons.mp nd).1 (List.of_mem_zip hv).1,if_pos hk]
    simp
   |succ i=>exact ih (i:=i) (List.nodup_cons.mp nd).2 h1 h2
theorem bindC_get {kindOf:Str→Option NameKind}{x:Str}{v:Value}{P:List Str}{vs:List Value}{i:Nat}{m:Str→Option Value}(nd:P.Nodup)(h1:P[i]?=some x)(h2:vs[i]?=some v)(hk:kindOf x≠some .local):
  bindC kindOf (P.zip vs) m x=some v:=by
 induction P generalizing vs i m with
 |nil=>simp at h1
 |cons p P ih=>cases vs with
  |nil=>simp at h2
  |cons w vs=>
   show bindC kindOf ((p,w)::P.zip vs) m x=_
   unfold bindC
   cases i with
   |zero=>
    cases h1
    cases h2
    rw[bindC_out fun v hv=>(List.nodup_cons.mp nd).1 (List.of_mem_zip hv).1,if_neg hk]
    simp
   |succ i=>exact ih (i:=i) (List.nodup_cons.mp nd).2 h1 h2
def start (N:List Str)(vs:List V):St:=vs.map some++List.replicate (N.length-vs.length) none
def cxOf (CX:CXT)(P:Program)(w:World)(K:PySem.W.Frag)(mg:Str→Option Value)(base:Heap)(N:List Str)(qual:Str)(scope:Scope)(f:Addr)(cd:Value)(A:Around)(outer:List Env)(s:Shared)(H:Hp)(E:XK):Cx where
 prog:=P
 w:=w
 K:=K
 mg:=mg
 base:=base
 A:=A.deeper (envOfC qual scope s.heap.objs.size f cd)
 N:=N
 s₀:=s
 H₀:=H
 env:=envOfC qual scope s.heap.objs.size f cd
 outer:=outer
 stack:=envOfC qual scope s.heap.objs.size f cd::outer
 ex:=[]
 calm:=true
 fn:=fun _=>true
 pn:=[]
 xe:=fun e s'=>wpAny (model P w) (A.deeper (envOfC qual scope s.heap.objs.size f cd)) (leaving (envOfC qual scope s.heap.objs.size f cd) e) (fun _ s''=>CX outer H s E e s'') (fun e' s''=>CX outer H s E e' s'') s'
theorem cell_has {sc:Scope}{n:Nat}{x:Str}(h:sc.names.lookup x=some .cell):∃c,(cellsFrom n sc.names []).lookup x=some c:=by
 have q:=PySem.W.cellsFrom_some sc.names n [] (.inl h)
 exact Option.isSome_iff_exists.mp q
theorem inv_start {CX:CXT}{P:Program}{w:World}{K:PySem.W.Frag}{mg:Str→Option Value}{base:Heap}{N ps:List Str}{qual:Str}{scope:Scope}{f:Addr}{cd:Value}{A:Around}{outer:List Env}{s s1:Shared}{H:Hp}{E:XK}{us:List Value}{vs:List V}
  (S:FnScope N ps scope) (hd:A.handled=none) (e0:Env0 P w K mg base A outer s H) (hl:vs.length=ps.length) (r:Vals vs us)
  (x:InCallC s s.heap.objs.size (bindL (envOfC qual scope s.heap.objs.size f cd).kindOf (ps.zip us) fun _=>none) (cellsFrom (s.heap.objs.size+1) scope.names []) (bindC (envOfC qual scope s.heap.objs.size f cd).kindOf (ps.zip us) fun _=>none) s1):
  Inv (cxOf CX P w K mg base N qual scope f cd A outer s H E) [] (start N vs) H s1:=by
 have hpl:ps.length≤N.length:=by have:=congrArg List.length S.pre;rw[List.length_take]at this;omega
 obtain⟨h1,tk,rfl,hk⟩:=x.done
 have noA:∀b:Addr,b∉(cxOf CX P w K mg base N qual scope f cd A outer s H E).ex:=fun b z=>absurd (show b∈([]:List Addr) from z) (by simp)
 refine⟨⟨e0.mod,S.kind,rfl,rfl,Nat.le_refl _,fun y z c h1 h2=>?_,fun y hy=>?_,fun y c _ h=>?_,fun _=>hd,Around.frames_deeper e0.frames, .inr ⟨rfl,rfl⟩,fun b z=>absurd z (noA b),e0.bs,e0.bsz,fun b _ _=>noA b,fun b z=>absurd z (noA b),e0.funs,e0.frf⟩,
  rfl,e0.bare,Un.kept hk,⟨_,x.toInCall.ns,fun i y v h1 h2 h3=>?_⟩,fun y c h=>⟨_,x.cell y c h⟩,e0.hok.fresh (Nat.le_refl _),fun y c h=>?_,fun p hp=>absurd (show p∈([]:List (Addr×Obj)) from hp) (by simp),e0.hok.kept hk,?_⟩
 ·exact name_of_addr x.apart (PySem.mem_of_lookup h1) (PySem.mem_of_lookup h2)
 ·have hy:scope.names.lookup y=some .cell∨scope.names.lookup y=some .free:=hy
  rcases hy with hy|hy
  ·exact cell_has hy
  ·exact absurd rfl (S.nofree _ (PySem.mem_of_lookup hy))
 ·exact Nat.le_of_lt (x.above y c (PySem.mem_of_lookup h))
 ·have hi:i<vs.length:=by
   unfold start at h2
   by_cases hi:i<vs.length
   ·exact hi
   ·rw[List.getElem?_append_right (by simpa using hi)]at h2
    rw[List.getElem?_replicate]at h2
    split at h2<;>cases h2
  have ha:vs[i]?=some v:=by
   unfold start at h2
   rw[List.getElem?_append_left (by simpa using hi),List.getElem?_map]at h2
   cases e:vs[i]? with
   |none=>rw[e]at h2;cases h2
   |some a=>rw[e]at h2;cases h2;rfl
  obtain⟨u,hu,rv⟩:=r.get ha
  have hp:ps[i]?=some y:=by
   rw[←S.pre,List.getElem?_take_of_lt (by exact Nat.lt_of_lt_of_eq hi hl)];exact h1
  have ndP:ps.Nodup:=by rw[←S.pre];exact S.nd.sublist (List.take_sublist _ _)
  refine⟨u,rv,?_⟩
  rcases S.par y (List.mem_of_getElem? hp) with k|k
  ·exact .inl ⟨k,bindL_get ndP hp hu k⟩
  ·obtain⟨c,e⟩:=cell_has (n:=s.heap.objs.size+1) k
   refine .inr ⟨.inl k,c,e,?_⟩
   have q:=x.cell y c e
   rw[bindC_get ndP hp hu (by show scope.names.lookup y≠_;rw[k];decide)]at q
   exact q
 ·exact e0.hok.fresh (Nat.le_of_lt (x.above y c (PySem.mem_of_lookup h)))
 ·unfold start
  show _=N.length
  rw[List.length_append,List.length_map,List.length_replicate]
  omega
theorem fn_of {CX:CXT}{P:Program}{w:World}{K:PySem.W.Frag}{mg:Str→Option Value}{base:Heap}{k:Nat}{f:Addr}{name qual:Str}{params:Arguments}{body:List Stmt}{scope:Scope}{dV kV doc pm cdv ct oc:Value}{an od:Option Addr}
  {osl:Array (Option Value)} {N ps:List Str} {sp:Sp} (lk:K.lookup f=some ⟨oc,od, .func (PySem.W.fnOf name qual params body scope dV kV doc pm an cdv ct),osl⟩) (hcd:PySem.W.codeIn K cdv qual=true) (S:FnScope N ps scope)
  (len:∀vs H Q E,sp vs H Q E→vs.length=ps.length)
  (hbody:∀(A:Around) (outer:List Env) (s:Shared) (H:Hp) (vs:List V) (Q:VK) (E:XK),Room k (A.deeper (envOfC qual scope s.heap.objs.size f cdv))→sp vs H Q E→
   ∃t,PSs (cxOf CX P w K mg base N qual scope f cdv A outer s H E) body t∧t (Ends.of Q) (start N vs) H):
  FnOk P w K mg base CX (k+1) f (PySem.W.fnOf name qual params body scope dV kV doc pm an cdv ct) ps sp:=by
 refine⟨len,fun A outer s H args us vs Q E hr e0 hb r hsp=>?_⟩
 have hl:=len _ _ _ _ hsp
 have KX:K.In s.heap:=e0.mod.kin.keeps fun b o e=>(e0.bs b o e).1
 have lim:s.heap.NoLimit:=e0.mod.nolimit.keeps fun b o e=>(e0.bs b o e).1
 have hkind:∀y∈ps.zip us,scope.names.lookup y.1=some .local∨(scope.names.lookup y.1=some .cell∧((cellsFrom (s.heap.objs.size+1) scope.names []).lookup y.1).isSome=true):=fun⟨n,v⟩ hy=>by
  rcases S.par n (List.of_mem_zip hy).1 with q|q
  ·exact .inl q
  ·exact .inr ⟨q,PySem.W.cellsFrom_some _ _ _ (.inl q)⟩
 refine codeAny_call_function hr.depth (KX _ _ lk) rfl S.co S.gen rfl (PySem.W.codeRec_of KX hcd) (hb _ _ _ _ ?_)
 refine wpAny_newFunctionEnv_cells S.kind hkind fun env he s1 x=>?_
 subst he
 refine⟨lim.keeps x.toInCall.keep,codeAny_func ?_⟩
 obtain⟨t,ht,hq⟩:=hbody A outer s H vs Q E (hr.deeper _) hsp
 have I:Inv (cxOf CX P w K mg base N qual scope f cdv A outer s H E) [] (start N vs) H s1:=inv_start S hr.hd e0 hl r x
 refine wpAny_mono (ht [] s1 (start N vs) H _ I hq) (fun fl s' hs=>?_) fun e s' hs=>hs
 have fin:∀{σ':St} {H':Hp} {v:V} {u:Value},Inv (cxOf CX P w K mg base N qual scope f cdv A outer s H E) [] σ' H' s'→RelV v u→Q v H'→CE outer P w H s Q u s' :=
  fun{σ' H' v u} J rv q=>⟨v,H',J.os,J.bare,J.base,J.hok,rv,q⟩
 cases fl with
 |ret u=>
  obtain⟨v,σ',H',J,rv,q⟩:=hs
  exact fin J rv q
 |next=>
  obtain⟨σ',H',J,q⟩:=hs
  exact fin (v:=V.non) (u:=Value.none) J rfl q
 |brk=>
  obtain⟨_,_,_,q⟩:=hs
  exact False.elim q
 |cont=>
  obtain⟨_,_,_,q⟩:=hs
  exact False.elim q
section
variable {X:Cx}{x:Str}{p pos:Pos}{e:Expr}{es:List Expr}{t:TA}{id T:String}{r:List V→Hp→VK→Prop}
def tCB (r:List V→Hp→VK→Prop)(t:TA):TE:=fun σ H Q=>t σ H fun vs H1=>r vs H1 Q
theorem pe_callB (hc:CallR X (.builtin id) r)(hg:Gl X x)(hm:X.mg x=none)(hv:bootBuiltins x=some (.builtin id))(ha:PA X (e::es) t)(hn:x≠"__name__":=by decide)(hdb:(x==("__debug__":Str))=false:=by decide)
  (he:starEach (e::es) X.env=(false,eval e X.env)::starEach es X.env:=by rfl) (hpl:(backTo pos (starEach es X.env)).any (·.1)=false:=by rfl):PE X (.Call (.Name x p) (e::es) [] pos) (tCB r t):=by
 intro pins s σ H Q I h
 refine wpAny_Call_Name_kw (ld_blt I hg hm hv ?_ hn hdb)
 exact PyProof.Rows.callWith_builtin1 (thn (ha pos pins s σ H _ I h) fun us s1 ⟨vs,H1,I1,r1,q1⟩=>hc pins s1 σ H1 vs us Q I1 r1 q1) he hpl
theorem pe_callTy (hc:CallR X (.type T) r)(hg:Gl X x)(hm:X.mg x=none)(hv:bootBuiltins x=some (.type T))(ha:PA X (e::es) t)(hn:x≠"__name__":=by decide)(hdb:(x==("__debug__":Str))=false:=by decide)
  (he:starEach (e::es) X.env=(false,eval e X.env)::starEach es X.env:=by rfl) (hpl:(backTo pos (starEach es X.env)).any (·.1)=false:=by rfl):PE X (.Call (.Name x p) (e::es) [] pos) (tCB r t):=by
 intro pins s σ H Q I h
 refine wpAny_Call_Name_kw (ld_blt I hg hm hv ?_ hn hdb)
 exact PyProof.Rows.callWith_type1 (thn (ha pos pins s σ H _ I h) fun us s1 ⟨vs,H1,I1,r1,q1⟩=>hc pins s1 σ H1 vs us Q I1 r1 q1) he hpl
end
end L2
namespace HT
open PySem PyProof.Rows
section
open PySem.SeqAt
open PySem.AutoSeq1 (wpAny_loadPart')
open PySem.MeetsSeq PySem.MeetsSeq2 PySem.MeetsSeq3
end
section
variable {prog:Program}{w:World}{A:Around}{E:Value→Shared→Prop}{s:Shared}
theorem cat_tup {t b:Addr}{vs ws:List Value}{Q:Value→Shared→Prop}(ht:IsTup s.heap t vs.toArray)(hb:IsTup s.heap b ws.toArray)(hv:vs≠[])
  (h1:ws=[]→Q (.ref t) s) (h2:ws≠[]→Q (.ref s.heap.objs.size) {s with heap:=s.heap.push {cls:=.type "tuple",data:=.seq (vs++ws).toArray}})
  (hsz:vs.length+ws.length≤sizeLine):wpAny (model prog w) A (binaryOp .Add (.ref t) (.ref b)) Q E s:=by
 obtain⟨⟨cls,dd,data,sl⟩,ho,hc,n,hd⟩:=id ht
 obtain⟨⟨cls2,dd2,data2,sl2⟩,ho2,hc2,n2,hd2⟩:=id hb
 simp only at hc hd hc2 hd2
 subst hc hd hc2 hd2
 have e:vs.toArray++ws.toArray=(vs++ws).toArray:=by simp
 by_cases hw:ws=[]
 ·exact concat_meets ⟨_,ho,rfl⟩ ⟨_,ho2,rfl⟩ noFill_tuple_add seq_tuple_add PySem.F.slot_tuple_add PySem.F.entry_tuple_add (PySem.F.args_tuple_add_2 _ _)
   (tuple_addW1 t b vs.toArray ws.toArray n n2 dd dd2 sl sl2 (by simpa using hv) (by simp[hw])) ⟨ho,ho2,h1 hw⟩
 ·refine concat_meets ⟨_,ho,rfl⟩ ⟨_,ho2,rfl⟩ noFill_tuple_add seq_tuple_add PySem.F.slot_tuple_add PySem.F.entry_tuple_add (PySem.F.args_tuple_add_2 _ _)
   (tuple_addW2 t b vs.toArray ws.toArray n n2 dd dd2 sl sl2 (by simpa using hv) (by simpa using hw) (by rw[List.size_toArray,List.size_toArray];exact hsz)) ⟨ho,ho2,?_⟩
  rw[e]
  exact h2 hw
def sIx (n d:Nat):Option Int→Nat
 |none=>d
 |some v=>if v<0 then(v+(n:Int)).toNat else min v.toNat n
theorem sIx_none (n d:Nat):sIx n d none=d:=rfl
theorem sIx_nat (n d k:Nat):sIx n d (some (k:Int))=min k n:=by
 show(if(k:Int)<0 then((k:Int)+(n:Int)).toNat else min (k:Int).toNat n)=min k n
 rw[if_neg (by omega),Int.toNat_natCast]
theorem sIx_le (n d:Nat)(hd:d≤n)(o:Option Int):sIx n d o≤n:=by
 cases o with
 |none=>exact hd
 |some v=>
  show(if v<0 then(v+(n:Int)).toNat else min v.toNat n)≤n
  by_cases hv:v<0
  ·rw[if_pos hv];omega
  ·rw[if_neg hv];exact Nat.min_le_right _ _
theorem clip_eq (v:Int)(n d:Nat):(if v<0 then max (v+(n:Int)) 0 else min v (n:Int))=((sIx n d (some v):Nat):Int):=by
 show(if v<0 then max (v+(n:Int)) 0 else min v (n:Int))=(((if v<0 then(v+(n:Int)).toNat else min v.toNat n):Nat):Int)
 by_cases hv:v<0
 ·simp only[if_pos hv];omega
 ·simp only[if_neg hv];omega
theorem adjust_gen (lo hi:Option Int)(n:Nat):Builtin.Slice.sliceAdjust lo hi 1 (n:Int)=(((sIx n 0 lo:Nat):Int),((sIx n n hi:Nat):Int)):=by
 have h1:¬((1:Int)<0):=by omega
 unfold Builtin.Slice.sliceAdjust
 simp only[h1,if_false]
 refine Prod.ext ?_ ?_
 ·cases lo with
  |none=>rfl
  |some v=>exact clip_eq v n 0
 ·cases hi with
  |none=>rfl
  |some v=>exact clip_eq v n n
theorem places_gen (i j:Nat):Builtin.Slice.slicePlaces (i:Int) (j:Int) 1=j-i:=by
 unfold Builtin.Slice.slicePlaces
 have h1:(1:Int)>0:=by omega
 simp only[h1,if_true,Int.ediv_one]
 split<;>omega
theorem slicePart_ {v:Value}{o:Option Int}{Q:Option Int→Shared→Prop}(p:IsPart v o)(h:Q o s):wpAny (model prog w) A (Builtin.Slice.slicePartIndex v) Q E s:=by
 cases p with
 |none=>exact slicePart_none h
 |int i t=>exact slicePart_int h
theorem sliceApplied_gen {sl:Addr}{vl vu:Value}{lo hi:Option Int}{n:Nat}{Q:Int×Int×Nat→Shared→Prop}(hs:s.heap.IsSliceOf sl vl vu .none)(pl:IsPart vl lo)(pu:IsPart vu hi)
  (h:Q (((sIx n 0 lo:Nat):Int),1,sIx n n hi-sIx n 0 lo) s):wpAny (model prog w) A (Builtin.Slice.sliceApplied (.ref sl) (pure (n:Int))) Q E s:=by
 obtain⟨os,hos,hcs,hds⟩:=id hs
 unfold Builtin.Slice.sliceApplied Builtin.Slice.sliceFields
 refine wpAny_bind (wpAny_bind (wpAny_field hos hds (x:=vl) rfl (wpAny_bind (wpAny_field hos hds (x:=vu) rfl (wpAny_bind (wpAny_field hos hds (x:=.none) rfl (wpAny_pure ?_)))))))
 refine wpAny_bind (slicePart_none ?_)
 show wpAny _ _ (if((1:Int)==0)=true then _ else _) _ _ s
 rw[if_neg (by decide)]
 refine wpAny_bind (slicePart_ pl (wpAny_bind (slicePart_ pu (wpAny_bind (wpAny_pure ?_)))))
 show wpAny _ _ (match Builtin.Slice.sliceAdjust lo hi 1 (n:Int) with|(lo,hi)=>pure (lo,(1:Int),Builtin.Slice.slicePlaces lo hi 1)) _ _ s
 rw[adjust_gen lo hi n]
 show wpAny _ _ (pure (((sIx n 0 lo:Nat):Int),(1:Int),Builtin.Slice.slicePlaces ((sIx n 0 lo:Nat):Int) ((sIx n n hi:Nat):Int) 1)) _ _ s
 rw[places_gen]
 exact wpAny_pure h
theorem pick_gen (xs:Array Value)(i k:Nat):((List.range k).filterMap fun(m:Nat)=>xs[((i:Int)+(m:Int)*1).toNat]?).toArray=((xs.toList.drop i).take k).toArray:=by
 have e:(fun(m:Nat)=>xs[((i:Int)+(m:Int)*1).toNat]?)=fun m=>xs[i+m]?:=by
  funext m
  have:((i:Int)+(m:Int)*1).toNat=i+m:=by omega
  rw[this]
 rw[e]
 have:=pick_run xs i k
 rw[List.filterMap_map]at this
 have e2:((fun x=>xs[x]?)∘fun x=>i+x)=fun m=>xs[i+m]?:=rfl
 rw[e2]at this
 rw[this]
theorem getItem_tuple_cut {t sl:Addr}{items:Array Value}{vl vu:Value}{lo hi:Option Int}{Q:Value→Shared→Prop}(ht:IsTup s.heap t items)(hs:s.heap.IsSliceOf sl vl vu .none)(pl:IsPart vl lo)(pu:IsPart vu hi)
  (hw:¬(sIx items.size 0 lo=0∧sIx items.size items.size hi=items.size))
  (h:Q (.ref s.heap.objs.size) {s with heap:=s.heap.push {cls:=.type "tuple",data:=.seq ((items.toList.drop (sIx items.size 0 lo)).take (sIx items.size items.size hi-sIx items.size 0 lo)).toArray}})
  (hsz:items.size≤sizeLine):wpAny (model prog w) A (getItem (.ref t) (.ref sl)) Q E s:=by
 have htake:sizeOk (.seq ((items.toList.drop (sIx items.size 0 lo)).take (sIx items.size items.size hi-sIx items.size 0 lo)).toArray):=by
  show((items.toList.drop (sIx items.size 0 lo)).take (sIx items.size items.size hi-sIx items.size 0 lo)).toArray.size≤sizeLine
  rw[List.size_toArray,List.length_take,List.length_drop,Array.length_toList]
  omega
 have hj:sIx items.size items.size hi≤items.size:=sIx_le _ _ (Nat.le_refl _) hi
 obtain⟨os,hos,hcs,hds⟩:=id hs
 have hTs:s.TypeIs (.ref sl) "slice":=⟨os,hos,hcs⟩
 unfold getItem
 try with_reducible refine wpAny_holding ?_
 first|refine wpAny_bind (wpAny_pure ?_)|skip
 refine wpAny_bind (wpAny_sequenceKey ht.typeIs (by decide) ?_)
 refine wpAny_bind (wpAny_callSpecial?_slot (name:=Str.ofString "__getitem__") ht.typeIs PyProof.Rows.slot_tuple_getitem
  (wpAny_call_entry PyProof.Rows.slot_tuple_getitem ht.typeIs entry_tuple_getitem ?_ (args_tuple_getitem _ _)))
 show wpAny _ _ (Builtin.Tuple.tupleItemsOf (.ref t)>>=_) _ _ s
 refine wpAny_bind (tupleItemsOf_ ht ?_)
 refine wpAny_bind (wpAny_typeOf hTs ?_)
 rw[if_pos (by decide)]
 refine wpAny_bind (sliceApplied_gen hs pl pu ?_)
 have hno:¬((((sIx items.size 0 lo:Nat):Int)==0&&(1:Int)==1&&(sIx items.size items.size hi-sIx items.size 0 lo)==items.size)=true):=by
  intro q
  rw[Bool.and_eq_true,Bool.and_eq_true]at q
  have q1:((sIx items.size 0 lo:Nat):Int)=0:=eq_of_beq q.1.1
  have q2:sIx items.size items.size hi-sIx items.size 0 lo=items.size:=eq_of_beq q.2
  exact hw ⟨by omega,by omega⟩
 show wpAny _ _ (if(((sIx items.size 0 lo:Nat):Int)==0&&(1:Int)==1&&(sIx items.size items.size hi-sIx items.size 0 lo)==items.size)=true then _ else _) _ _ s
 rw[if_neg hno,pick_gen]
 first
  |exact wpAny_bind (m:=Builtin.Tuple.tupleExact _) (wpAny_newObj_type (wpAny_pure ⟨_,rfl,wpAny_pure h⟩) htake)
  |exact wpAny_bind (m:=Builtin.Tuple.tupleExact _) (wpAny_newObj_type (wpAny_bind (wpAny_pure (wpAny_pure ⟨_,rfl,wpAny_pure h⟩))) htake)
  |exact wpAny_bind (wpAny_bind (m:=Builtin.Tuple.tupleExact _) (wpAny_newObj_type (wpAny_pure (wpAny_pure ⟨_,rfl,wpAny_pure h⟩)) htake))
  |exact wpAny_bind (wpAny_bind (m:=Builtin.Tuple.tupleExact _) (wpAny_newObj_type (wpAny_pure ⟨_,rfl,wpAny_pure h⟩) htake))
end
end HT
namespace L2
open PySem PySem.Spec PyProof.Rows
abbrev TO:=St→Hp→(Option Int→Hp→Prop)→Prop
def PO (X:Cx)(e:Option Expr)(t:TO):Prop :=
 ∀(pins:List (Addr×Obj)) (s:Shared) (σ:St) (H:Hp) (Q:Option Int→Hp→Prop),Inv X pins σ H s→t σ H Q→
  wpAny (model X.prog X.w) X.A (evalPart e X.env) (fun u s'=>∃o H',Inv X pins σ H' s'∧IsPart u o∧Q o H') X.xe s
def tNoPart:TO:=fun _ H Q=>Q none H
inductive tPart_ (Q:Option Int→Hp→Prop)(x:V)(H1:Hp):Prop where
 |mk (i):(x=.int i)→(Q (some i) H1)→tPart_ Q x H1
def tPart (t:TE):TO:=fun σ H Q=>t σ H (tPart_ Q)
section
variable {X:Cx}{e:Expr}{te:TE}{lo hi:Option Expr}{tl th:TO}{pos p2:Pos}
theorem po_none:PO X none tNoPart:=by
 intro pins s σ H Q I h
 rw[evalPart_none]
 exact wpAny_pure ⟨none,H,I, .none,h⟩
theorem po_some (h:PE X e te):PO X (some e) (tPart te):=by
 intro pins s σ H Q I hw
 rw[evalPart_some]
 refine thn (h pins s σ H _ I hw) fun u s1 ⟨x,H1,I1,r1,q1⟩=>?_
 obtain⟨i,rfl,q⟩:=q1
 obtain⟨t,rfl⟩:=r1
 exact⟨some i,H1,I1, .int i t,q⟩
def SlR (X:Cx)(r:V→Option Int→Option Int→Hp→VK→Prop):Prop :=
 ∀(pins:List (Addr×Obj)) (s:Shared) (σ:St) (H:Hp) (x:V) (v vl vu:Value) (lo hi:Option Int) (sl:Addr) (Q:VK),Inv X pins σ H s→RelV x v→s.heap.IsSliceOf sl vl vu .none→IsPart vl lo→IsPart vu hi→r x lo hi H Q→
  ∃T id,typeLookup (.type T) "__getitem__"=pure (some (.builtin id))∧s.TypeIs v T∧wpAny (model X.prog X.w) X.A (getItem v (.ref sl)) (EP X pins σ Q) X.xe s
theorem SlR.or {r r':V→Option Int→Option Int→Hp→VK→Prop}(h:SlR X r)(h':SlR X r'):SlR X (fun x lo hi H Q=>r x lo hi H Q∨r' x lo hi H Q):=by
 intro pins s σ H x v vl vu lo hi sl Q I rx hs pl pu q
 rcases q with q|q
 ·exact h pins s σ H x v vl vu lo hi sl Q I rx hs pl pu q
 ·exact h' pins s σ H x v vl vu lo hi sl Q I rx hs pl pu q
def tSl (r:V→Option Int→Option Int→Hp→VK→Prop)(te:TE)(tl th:TO):TE:=fun σ H Q=>te σ H fun x H1=>tl σ H1 fun l H2=>th σ H2 fun u H3=>r x l u H3 Q
theorem pe_slice {r:V→Option Int→Option Int→Hp→VK→Prop}(hr:SlR X r)(he:PE X e te)(hl:PO X lo tl)(hu:PO X hi th):PE X (.Subscript e (.Slice lo hi none p2) pos) (tSl r te tl th):=by
 intro pins s σ H Q I h
 refine Subscript_ (thn (he pins s σ H _ I h) fun v s1 ⟨x,H1,I1,r1,q1⟩=>?_)
 refine wpAny_Slice (thn (hl pins s1 σ H1 _ I1 q1) fun vl s2 ⟨l,H2,I2,pl,q2⟩=>thn (hu pins s2 σ H2 _ I2 q2) fun vu s3 ⟨u,H3,I3,pu,q3⟩=>?_)
 rw[evalPart_none]
 refine wpAny_pure ?_
 have I4:Inv X pins σ H3 {s3 with heap:=s3.heap.push {cls:=.type "slice",data:=.fields #[vl,vu, .none]}}:=I3.kept (t':=s3.toks) fun b ob q=>Heap.get?_push_of_some _ q
 obtain⟨T,id,hT,ht,hg⟩:=hr pins {s3 with heap:=s3.heap.push {cls:=.type "slice",data:=.fields #[vl,vu, .none]}} σ H3 x v vl vu l u s3.heap.objs.size Q I4 r1 (Heap.IsSliceOf.new ..) pl pu q3
 show wpAny (model X.prog X.w) X.A (subscriptTail e (.Slice lo hi none p2) v (.ref s3.heap.objs.size)) (EP X pins σ Q) X.xe {s3 with heap:=s3.heap.push {cls:=.type "slice",data:=.fields #[vl,vu, .none]}}
 exact tail_any (ops:=[.ref s3.heap.objs.size,v]) ht hT hg (by with_unfolding_all rfl)
def cutV (xs:List V)(lo hi:Option Int):List V:=(xs.drop (HT.sIx xs.length 0 lo)).take (HT.sIx xs.length xs.length hi-HT.sIx xs.length 0 lo)
theorem cutV_length (xs:List V)(lo hi:Option Int):(cutV xs lo hi).length≤xs.length:=by
 unfold cutV
 rw[List.length_take,List.length_drop]
 omega
inductive rSlT_ (K:PySem.W.Frag)(x:V)(lo:Option Int)(hi:Option Int)(H:Hp)(Q:VK):Prop where
 |mk (a) (xs):(x=.ref a)→(SqT K H a xs)→(¬(HT.sIx xs.length 0 lo=0∧HT.sIx xs.length xs.length hi=xs.length))→(∀p,H p=none→Q (.ref p) (upd H p (.tup (cutV xs lo hi))))→rSlT_ K x lo hi H Q
def rSlT (K:PySem.W.Frag):V→Option Int→Option Int→Hp→VK→Prop:=rSlT_ K
theorem sl_tup:SlR X (rSlT X.K):=by
 intro pins s σ H x v vl vu lo hi sl Q I rx hs pl pu h
 obtain⟨a,xs,rfl,hx,hw,q⟩:=h
 cases rx
 obtain⟨its,r,ht,hz⟩:=I.tuple hx
 have hlen:its.toArray.size=xs.length:=by rw[List.size_toArray];exact r.length.symm
 refine⟨"tuple",_,PyProof.Rows.slot_tuple_getitem.lookup,ht.typeIs,?_⟩
 refine HT.getItem_tuple_cut ht hs pl pu (by rw[hlen];exact hw) ?_ (by rw[hlen];exact hz)
 rw[hlen]
 refine⟨.ref s.heap.objs.size,_,I.laid (t':=s.toks) (o:=.tup (cutV xs lo hi)) (fun b ob q=>Heap.get?_push_of_some _ q) (Nat.le_refl _) ?_,rfl,q _ (I.hok.fresh (Nat.le_refl _))⟩
 exact⟨Nat.le_trans (cutV_length xs lo hi) hz,_,(r.drop (HT.sIx xs.length 0 lo)).take (HT.sIx xs.length xs.length hi-HT.sIx xs.length 0 lo),IsTup.new _ _⟩
inductive rCatT_ (K:PySem.W.Frag)(x:V)(y:V)(H:Hp)(Q:VK):Prop where
 |mk (a) (b) (xs) (ys):(x=.ref a)→(y=.ref b)→(SqT K H a xs)→(SqT K H b ys)→(xs≠[])→(xs.length+ys.length≤sizeLine)→((ys=[]→Q (.ref a) H))→((ys≠[]→∀p,H p=none→Q (.ref p) (upd H p (.tup (xs++ys)))))→rCatT_ K x y H Q
def rCatT (K:PySem.W.Frag):R2:=rCatT_ K
theorem Vals.nil_iff {xs:List V}{us:List Value}(r:Vals xs us):us=[]↔xs=[]:=by
 cases r with
 |nil=>simp
 |cons _ _=>simp
theorem op_catT:OpR X (binaryOp .Add) (rCatT X.K):=by
 intro pins s σ H x y v u Q I rx ry h
 obtain⟨a,b,xs,ys,rfl,rfl,ha,hb,hx,hz,q1,q2⟩:=h
 cases rx
 cases ry
 obtain⟨its,r1,p1,_⟩:=I.tuple ha
 obtain⟨its2,r2,p2,_⟩:=I.tuple hb
 refine HT.cat_tup p1 p2 (fun z=>hx (r1.nil_iff.mp z)) (fun z=>⟨.ref a,H,I,rfl,q1 (r2.nil_iff.mp z)⟩) (fun z=>?_) (by rw[←r1.length,←r2.length];exact hz)
 refine⟨.ref s.heap.objs.size,_,I.laid (t':=s.toks) (o:=.tup (xs++ys)) (fun b ob q=>Heap.get?_push_of_some _ q) (Nat.le_refl _) ?_,rfl,q2 (fun w=>z (r2.nil_iff.mpr w)) _ (I.hok.fresh (Nat.le_refl _))⟩
 exact⟨by rw[List.length_append];exact hz,_,r1.append r2,IsTup.new _ _⟩
end
def ixN (n:Nat)(i:Int):Option Nat:=if 0≤i then(if i<n then some i.toNat else none) else if -(n:Int)≤i then some (i+n).toNat else none
def atI {α:Type}(xs:List α)(i:Int):Option α:=(ixN xs.length i).bind fun j=>xs[j]?
theorem ixN_seq {n:Nat}{i:Int}{j:Nat}(h:ixN n i=some j):seqIndex? i n=some j∧j<n∧-(n:Int)≤i∧i<n:=by
 unfold ixN at h
 by_cases h0:0≤i
 ·rw[if_pos h0]at h
  by_cases h1:i<n
  ·rw[if_pos h1]at h
   have e:i.toNat=j:=Option.some.inj h
   exact⟨by rw[seqIndex_of h0 h1,e],by omega,by omega,h1⟩
  ·rw[if_neg h1]at h;cases h
 ·rw[if_neg h0]at h
  by_cases h1: -(n:Int)≤i
  ·rw[if_pos h1]at h
   have e:(i+n).toNat=j:=Option.some.inj h
   exact⟨by rw[seqIndex_neg (by omega) h1,e],by omega,h1,by omega⟩
  ·rw[if_neg h1]at h;cases h
theorem atI_get {α:Type}{xs:List α}{i:Int}{v:α}(h:atI xs i=some v):∃j,seqIndex? i xs.length=some j∧xs[j]?=some v∧j<xs.length∧-(xs.length:Int)≤i∧i<xs.length:=by
 unfold atI at h
 cases e:ixN xs.length i with
 |none=>rw[e]at h;cases h
 |some j=>
  rw[e]at h
  obtain⟨h1,h2,h3,h4⟩:=ixN_seq e
  exact⟨j,h1,h,h2,h3,h4⟩
theorem atI_nat {α:Type}{xs:List α}{j:Nat}{v:α}(h:xs[j]?=some v):atI xs (j:Int)=some v:=by
 have hj:j<xs.length:=(List.getElem?_eq_some_iff.mp h).1
 have e:ixN xs.length (j:Int)=some j:=by
  unfold ixN
  rw[if_pos (by omega),if_pos (by omega)];simp
 unfold atI;rw[e];exact h
def PlainIx (b:Expr):Prop:=∀o i,subscripted b false o i=operate [o,i] (getItem o i)
def IxR (X:Cx)(r:R2):Prop :=
 ∀(value slice:Expr) (pins:List (Addr×Obj)) (s:Shared) (σ:St) (H:Hp) (x y:V) (v u:Value) (Q:VK),Inv X pins σ H s→RelV x v→RelV y u→r x y H Q→
  subscripted slice false v u=operate [v,u] (getItem v u)→wpAny (model X.prog X.w) X.A (subscriptTail value slice v u) (EP X pins σ Q) X.xe s
def MtR (X:Cx)(id:String)(r:V→List V→Hp→VK→Prop):Prop :=
 ∀(pins:List (Addr×Obj)) (s:Shared) (σ:St) (H:Hp) (x:V) (xs:List V) (v:Value) (us:List Value) (Q:VK),Inv X pins σ H s→RelV x v→Vals xs us→r x xs H Q→
  wpAny (model X.prog X.w) X.A (call (.builtin id) (v::us)) (EP X pins σ Q) X.xe s
section
variable {X:Cx}{a b:Expr}{ta tb:TE}{pos:Pos}
theorem pe_ix {r:R2}(hr:IxR X r)(ha:PE X a ta)(hb:PE X b tb)(hs:PlainIx b:=by intro _ _;rfl):PE X (.Subscript a b pos) (tOp r ta tb):=by
 intro pins s σ H Q I h
 exact Subscript_ (binT ha hb I h fun v u s2 x y H2 I2 rx ry q=>hr a b pins s2 σ H2 x y v u Q I2 rx ry q (hs _ _))
inductive rIxL_ (K:PySem.W.Frag)(x:V)(y:V)(H:Hp)(Q:VK):Prop where
 |mk (p) (xs) (i) (v):(x=.ref p)→(y=.int i)→(SqL K H p xs)→(atI xs i=some v)→(Q v H)→rIxL_ K x y H Q
def rIxL (K:PySem.W.Frag):R2:=rIxL_ K
inductive rIxT_ (K:PySem.W.Frag)(x:V)(y:V)(H:Hp)(Q:VK):Prop where
 |mk (p) (xs) (i) (v):(x=.ref p)→(y=.int i)→(SqT K H p xs)→(atI xs i=some v)→(Q v H)→rIxT_ K x y H Q
def rIxT (K:PySem.W.Frag):R2:=rIxT_ K
def rIxS:R2:=fun x y H Q=>∃z i c,x=.str z∧y=.int i∧z.length≤sizeLine∧atI z.cps.toList i=some c∧Q (.str ⟨#[c]⟩) H
theorem ix_list:IxR X (rIxL X.K):=by
 intro value slice pins s σ H x y v u Q I rx ry h hs
 obtain⟨p,xs,i,z,rfl,rfl,hq,he,q⟩:=h
 cases rx
 obtain⟨t,rfl⟩:=ry
 obtain⟨its,r,pl,hz⟩:=I.list hq
 obtain⟨j,h1,h2,h3,h4,h5⟩:=atI_get he
 obtain⟨w,ew,rw'⟩:=r.get h2
 have hl:=r.length
 have hn:=line63
 have fin:EP X pins σ Q w s:=⟨z,H,I,rw',q⟩
 by_cases h0:0≤i
 ·have hj:i.toNat=j:=by
   rw[seqIndex_of h0 h5]at h1
   exact Option.some.inj h1
  exact item_listR pl.isList h0 (by omega) (by rw[hj];simpa using ew) fin hs
 ·have hj:(i+(its.toArray.size:Int)).toNat=j:=by
   rw[seqIndex_neg (by omega) h4]at h1
   rw[List.size_toArray,←hl]
   exact Option.some.inj h1
  exact subscriptTail_builtinR (x:=w) pl.isList.typeIs slot_list_getitem.lookup
   (wpAny_getItem_list_neg (Q:=fun r s'=>r=w∧EP X pins σ Q r s') pl.isList (by omega) (by rw[List.size_toArray]<;>omega) (by omega) (by rw[hj];simpa using ew) ⟨rfl,fin⟩) hs
theorem ix_tup:IxR X (rIxT X.K):=by
 intro value slice pins s σ H x y v u Q I rx ry h hs
 obtain⟨p,xs,i,z,rfl,rfl,hq,he,q⟩:=h
 cases rx
 obtain⟨t,rfl⟩:=ry
 obtain⟨its,r,pl,hz⟩:=I.tuple hq
 obtain⟨j,h1,h2,h3,h4,h5⟩:=atI_get he
 obtain⟨w,ew,rw'⟩:=r.get h2
 have hl:=r.length
 have hn:=line63
 have fin:EP X pins σ Q w s:=⟨z,H,I,rw',q⟩
 exact subscriptTail_builtinR (x:=w) pl.typeIs slot_tuple_getitem.lookup
  (getItem_tuple (j:=j) (Q:=fun r s'=>r=w∧EP X pins σ Q r s') pl (by omega) (by omega) (by rw[List.size_toArray,←hl];exact h1) (by simpa using ew) ⟨rfl,fin⟩) hs
theorem ix_str:IxR X rIxS:=by
 intro value slice pins s σ H x y v u Q I rx ry h hs
 obtain⟨z,i,c,rfl,rfl,hz,he,q⟩:=h
 obtain⟨t,rfl⟩:=rx
 obtain⟨t',rfl⟩:=ry
 obtain⟨j,h1,h2,h3,h4,h5⟩:=atI_get he
 have hl:z.cps.toList.length=z.length:=by simp[Str.length]
 rw[hl]at h1 h4 h5
 have hn:=line63
 exact tail_any (typeIs_str s z t) slot_str_getitem.lookup (getItem_str (c:=c) (by
  have e1:decide (i< -(2^63:Int))=false:=decide_eq_false (by omega)
  have e2:decide (i≥2^63)=false:=decide_eq_false (by omega)
  rw[e1,e2,Bool.or_false]) (by rw[h1];simpa using h2) ⟨.str ⟨#[c]⟩,H,I.tok _,⟨_,rfl⟩,q⟩) hs
theorem mapSeq_set (its:List Value)(n j:Nat)(u:Value):Obj.mapSeq (·.setIfInBounds j u) {cls:=.type "list",data:=.seq its.toArray n}={cls:=.type "list",data:=.seq (its.set j u).toArray n}:=by
 simp[Obj.mapSeq]
theorem Inv.lst {pins:List (Addr×Obj)}{σ:St}{H:Hp}{s:Shared}{p:Addr}{xs:List V}(I:Inv X pins σ H s)(h:H p=some (.lst xs)):
  ∃(its:List Value) (n:Nat),Vals xs its∧s.heap.get? p=some {cls:=.type "list",data:=.seq its.toArray n}∧xs.length≤sizeLine:=by
 obtain⟨z,its,n,r,e⟩:=I.hok p _ h
 exact⟨its,n,r,e,z⟩
theorem Inv.lstUpd {pins:List (Addr×Obj)}{σ:St}{H:Hp}{s:Shared}{p:Addr}{xs ys:List V}{its its':List Value}{n n':Nat}{f:Obj→Obj}(I:Inv X pins σ H s)(h:H p=some (.lst xs))
  (ho:s.heap.get? p=some {cls:=.type "list",data:=.seq its.toArray n}) (hf:f {cls:=.type "list",data:=.seq its.toArray n}={cls:=.type "list",data:=.seq its'.toArray n'}) (r:Vals ys its') (hz:ys.length≤sizeLine) (t:Nat):
  Inv X pins σ (upd H p (.lst ys)) {s with heap:=s.heap.update p f,toks:=t}:=by
 have e:(s.heap.update p f).get? p=some {cls:=.type "list",data:=.seq its'.toArray n'}:=by
  rw[Heap.get?_update_self f ho (by rw[hf]<;>rfl),hf]
 refine I.write (x:=p) (e:=p) (by rw[h];trivial) (.inl rfl) (fun b u hb q=>(Heap.get?_update_other _ _ (Ne.symm hb)).trans q) ⟨_,e⟩ ?_
 exact⟨hz,its',n',r,e⟩
inductive rSetL_ (o:V)(i:V)(v:V)(H:Hp)(Q:Hp→Prop):Prop where
 |mk (p) (xs) (k) (j):(o=.ref p)→(i=.int k)→(H p=some (.lst xs))→(ixN xs.length k=some j)→(Q (upd H p (.lst (xs.set j v))))→rSetL_ o i v H Q
def rSetL:V→V→V→Hp→(Hp→Prop)→Prop:=rSetL_
theorem set_list:PSet X rSetL:=by
 intro pins s σ H o i v ov iv u Q I ro ri rv h
 obtain⟨p,xs,k,j,rfl,rfl,hp,hj,q⟩:=h
 cases ro
 obtain⟨t,rfl⟩:=ri
 obtain⟨its,n,r,ho,hz⟩:=I.lst hp
 obtain⟨h1,h2,h3,h4⟩:=ixN_seq hj
 have hl:=r.length
 have hn:=line63
 have I':Inv X pins σ (upd H p (.lst (xs.set j v))) {s with heap:=s.heap.update p (Obj.mapSeq (·.setIfInBounds j u))} :=
  I.lstUpd hp ho (mapSeq_set its n j u) (r.set rv j) (by rw[List.length_set];exact hz) s.toks
 by_cases h0:0≤k
 ·have hk:k.toNat=j:=by
   rw[seqIndex_of h0 h4]at h1
   exact Option.some.inj h1
  exact PySem.W.ki_setAt ho h0 (by omega) (by rw[List.size_toArray,←hl];exact h4) (by rw[hk];exact⟨_,I',q⟩)
 ·have hk:(k+(its.toArray.size:Int)).toNat=j:=by
   rw[seqIndex_neg (by omega) h3]at h1
   rw[List.size_toArray,←hl]
   exact Option.some.inj h1
  exact PySem.W.ki_setBack ho (by omega) (by rw[List.size_toArray,←hl];exact h3) (by omega) (by rw[hk];exact⟨_,I',q⟩)
theorem slice_bounds (lo hi:Option Int)(n:Nat):(sliceBounds lo hi none n).1=((HT.sIx n 0 lo:Nat):Int)∧(sliceBounds lo hi none n).2.1=((HT.sIx n n hi:Nat):Int)∧(sliceBounds lo hi none n).2.2=1:=by
 refine⟨?_,?_,rfl⟩
 ·cases lo with
  |none=>simp[sliceBounds,HT.sIx]
  |some i=>
   simp only[sliceBounds,HT.sIx,Option.getD_none,show(1:Int)>0 by decide,if_true]
   by_cases h:i<0
   ·simp only[h,if_true]<;>omega
   ·simp only[h,if_false]<;>omega
 ·cases hi with
  |none=>simp[sliceBounds,HT.sIx]
  |some i=>
   simp only[sliceBounds,HT.sIx,Option.getD_none,show(1:Int)>0 by decide,if_true]
   by_cases h:i<0
   ·simp only[h,if_true]<;>omega
   ·simp only[h,if_false]<;>omega
theorem slicePick_cut (its:List Value)(lo hi:Option Int):slicePick its.toArray lo hi none=((its.drop (HT.sIx its.length 0 lo)).take (HT.sIx its.length its.length hi-HT.sIx its.length 0 lo)).toArray:=by
 obtain⟨h1,h2,h3⟩:=slice_bounds lo hi its.toArray.size
 unfold slicePick
 rw[h1,h2,h3]
 simp only[sliceRange_one,pick_run,List.size_toArray]<;>rfl
def rSlL (K:PySem.W.Frag):V→Option Int→Option Int→Hp→VK→Prop:=fun x lo hi H Q=>∃a xs,x=.ref a∧SqL K H a xs∧∀p,H p=none→Q (.ref p) (upd H p (.lst (cutV xs lo hi)))
theorem sl_list:SlR X (rSlL X.K):=by
 intro pins s σ H x v vl vu lo hi sl Q I rx hs pl pu h
 obtain⟨a,xs,rfl,hx,q⟩:=h
 cases rx
 obtain⟨its,r,ht,hz⟩:=I.list hx
 have hlen:=r.length
 refine⟨"list",_,slot_list_getitem.lookup,ht.isList.typeIs,?_⟩
 refine wpAny_getItem_list_slice ht.isList hs pl pu .none (by simp) ?_ (by rw[List.size_toArray]<;>omega)
 rw[slicePick_cut,←hlen]
 refine⟨.ref s.heap.objs.size,_,I.laid (t':=s.toks) (o:=.lst (cutV xs lo hi)) (fun b ob q=>Heap.get?_push_of_some _ q) (Nat.le_refl _) ?_,rfl,q _ (I.hok.fresh (Nat.le_refl _))⟩
 exact⟨Nat.le_trans (cutV_length xs lo hi) hz,_,0,(r.drop (HT.sIx xs.length 0 lo)).take (HT.sIx xs.length xs.length hi-HT.sIx xs.length 0 lo),Heap.get?_push_size _ rfl⟩
def flatV:V→Bool
 |.non=>true
 |.bl _=>true
 |.int _=>true
 |.str _=>true
 |_=>false
def eqV:V→V→Bool
 |.non, .non=>true
 |.bl a, .bl b=>a==b
 |.bl a, .int b=>(if a then 1 else 0)==b
 |.int a, .bl b=>a==(if b then 1 else 0)
 |.int a, .int b=>a==b
 |.str a, .str b=>a==b
 |_,_=>false
theorem eqAt_V {A:Around}{s:Shared}{y x:V}{u v:Value}(ry:RelV y u)(rx:RelV x v)(fy:flatV y=true)(fx:flatV x=true):SeqAt.EqAt A s u v (eqV y x):=by
 cases y with
 |non=>
  cases ry
  cases x with
  |non=>cases rx;exact SeqAt.EqAt.same _
  |bl b=>cases rx;exact SeqAt.EqAt.none_bool b
  |int b=>obtain⟨t,rfl⟩:=rx;exact SeqAt.EqAt.none_int b t
  |str b=>obtain⟨t,rfl⟩:=rx;exact SeqAt.EqAt.none_str b t
  |_=>exact absurd (show false=true from fx) Bool.false_ne_true
 |bl a=>
  cases ry
  cases x with
  |non=>cases rx;exact SeqAt.EqAt.bool_none a
  |bl b=>cases rx;exact SeqAt.EqAt.bool_bool a b
  |int b=>obtain⟨t,rfl⟩:=rx;exact SeqAt.EqAt.bool_int a b t
  |str b=>obtain⟨t,rfl⟩:=rx;exact SeqAt.EqAt.bool_str a b t
  |_=>exact absurd (show false=true from fx) Bool.false_ne_true
 |int a=>
  obtain⟨t',rfl⟩:=ry
  cases x with
  |non=>cases rx;exact SeqAt.EqAt.int_none a t'
  |bl b=>cases rx;exact SeqAt.EqAt.int_bool a t' b
  |int b=>obtain⟨t,rfl⟩:=rx;exact SeqAt.EqAt.int_int a t' b t
  |str b=>obtain⟨t,rfl⟩:=rx;exact SeqAt.EqAt.int_str a t' b t
  |_=>exact absurd (show false=true from fx) Bool.false_ne_true
 |str a=>
  obtain⟨t',rfl⟩:=ry
  cases x with
  |non=>cases rx;exact SeqAt.EqAt.str_none a t'
  |bl b=>cases rx;exact SeqAt.EqAt.str_bool a t' b
  |int b=>obtain⟨t,rfl⟩:=rx;exact SeqAt.EqAt.str_int a t' b t
  |str b=>obtain⟨t,rfl⟩:=rx;exact SeqAt.EqAt.str_str a t' b t
  |_=>exact absurd (show false=true from fx) Bool.false_ne_true
 |_=>exact absurd (show false=true from fy) Bool.false_ne_true
def eqU (x:V)(u:Value):Bool:=match u with
 |.none=>eqV .non x
 |.bool b=>eqV (.bl b) x
 |.int i _=>eqV (.int i) x
 |.str z _=>eqV (.str z) x
 |_=>false
theorem eqU_of {x y:V}{u:Value}(r:RelV y u)(f:flatV y=true):eqU x u=eqV y x:=by
 cases y with
 |non=>cases r;rfl
 |bl b=>cases r;rfl
 |int i=>obtain⟨t,rfl⟩:=r;rfl
 |str z=>obtain⟨t,rfl⟩:=r;rfl
 |_=>exact absurd (show false=true from f) Bool.false_ne_true
theorem any_eqU {x:V}{xs:List V}{us:List Value}(h:Vals xs us)(f:xs.all flatV=true):us.any (eqU x)=xs.any fun y=>eqV y x:=by
 induction h with
 |nil=>rfl
 |cons r _ ih=>
  rw[List.all_cons,Bool.and_eq_true]at f
  rw[List.any_cons,List.any_cons,eqU_of r f.1,ih f.2]
theorem mem_eqAt {A:Around}{s:Shared}{x:V}{v:Value}(rx:RelV x v)(fx:flatV x=true){xs:List V}{us:List Value}(h:Vals xs us)(f:xs.all flatV=true):∀u∈us,SeqAt.EqAt A s u v (eqU x u):=by
 induction h with
 |nil=>exact fun u hu=>by cases hu
 |cons r _ ih=>
  intro u' hu
  rw[List.all_cons,Bool.and_eq_true]at f
  rcases List.mem_cons.mp hu with rfl|hu
  ·rw[eqU_of r f.1];exact eqAt_V r rx f.1 fx
  ·exact ih f.2 u' hu
def inV (x:V)(xs:List V):Bool:=xs.any fun y=>eqV y x
inductive rIn_ (K:PySem.W.Frag)(neg:Bool)(x:V)(y:V)(H:Hp)(Q:VK):Prop where
 |mk (p) (xs):(y=.ref p)→((SqL K H p xs∨SqT K H p xs))→(flatV x=true)→(xs.all flatV=true)→(Q (.bl (if neg then !inV x xs else inV x xs)) H)→rIn_ K neg x y H Q
def rIn (K:PySem.W.Frag)(neg:Bool):R2:=rIn_ K neg
theorem op_notIn_seq:OpR X (compareOp .NotIn) (rIn X.K true):=by
 intro pins s σ H x y v u Q I rx ry h
 obtain⟨p,xs,rfl,hq,fx,fs,q⟩:=h
 cases ry
 rcases hq with hq|hq
 ·obtain⟨its,r,pl,hz⟩:=I.list hq
  refine SeqAt.notIn_listAt (eqU x) pl.isList (fun w hw=>mem_eqAt rx fx r fs w (by simpa using hw)) ⟨.bl _,H,I,rfl,?_⟩
  rw[show its.toArray.any (eqU x)=its.any (eqU x) by simp,any_eqU r fs]
  exact q
 ·obtain⟨its,r,pl,hz⟩:=I.tuple hq
  refine SeqAt.notIn_tupleAt (eqU x) pl (fun w hw=>mem_eqAt rx fx r fs w (by simpa using hw)) ⟨.bl _,H,I,rfl,?_⟩
  rw[show its.toArray.any (eqU x)=its.any (eqU x) by simp,any_eqU r fs]
  exact q
theorem op_notIn_str:OpR X (compareOp .NotIn) (fun x y H Q=>∃i j,x=.str i∧y=.str j∧Q (.bl (!(!(Builtin.Str.occurrences j i 0 j.length 1).isEmpty))) H):=by
 intro pins s σ H x y v u Q I rx ry h
 obtain⟨i,j,rfl,rfl,q⟩:=h
 obtain⟨t,rfl⟩:=rx
 obtain⟨t',rfl⟩:=ry
 exact notIn_str ⟨.bl _,H,I,rfl,q⟩
inductive r_call_len_seq (K:PySem.W.Frag)(xs:List V)(H:Hp)(Q:VK):Prop where
 |mk (p) (ys):(xs=[.ref p])→((SqL K H p ys∨SqT K H p ys))→(Q (.int ys.length) H)→r_call_len_seq K xs H Q
theorem call_len_seq:CallR X (.builtin "len") (r_call_len_seq X.K):=by
 intro pins s σ H xs us Q I r h
 obtain⟨p,ys,rfl,hq,q⟩:=h
 obtain⟨u,rfl,rx⟩:=vals1 r
 cases rx
 have hn:=line63
 rcases hq with hq|hq
 ·obtain⟨its,r',pl,hz⟩:=I.list hq
  have hlen:=r'.length
  exact Calls.call_len_list pl.isList (by simp only[List.size_toArray]<;>omega) ⟨.int ys.length,H,I.tok _,⟨s.toks+1,by rw[List.size_toArray,hlen]⟩,q⟩
 ·obtain⟨its,r',pl,hz⟩:=I.tuple hq
  have hlen:=r'.length
  exact len_tuple pl (by simp only[List.size_toArray]<;>omega) ⟨.int ys.length,H,I.tok _,⟨s.toks+1,by rw[List.size_toArray,hlen]⟩,q⟩
theorem call_len_str:CallR X (.builtin "len") (fun xs H Q=>∃z,xs=[.str z]∧z.length≤sizeLine∧Q (.int z.length) H):=by
 intro pins s σ H xs us Q I r h
 obtain⟨z,rfl,hz,q⟩:=h
 obtain⟨u,rfl,t,rfl⟩:=vals1 r
 have hn:=line63
 exact len_str (by omega) ⟨.int z.length,H,I.tok _,⟨_,rfl⟩,q⟩
inductive r_call_list_of (K:PySem.W.Frag)(xs:List V)(H:Hp)(Q:VK):Prop where
 |mk (p) (ys):(xs=[.ref p])→((SqL K H p ys∨SqT K H p ys))→(∀l,H l=none→Q (.ref l) (upd H l (.lst ys)))→r_call_list_of K xs H Q
inductive r_call_tuple_of (K:PySem.W.Frag)(xs:List V)(H:Hp)(Q:VK):Prop where
 |mk (p) (ys):(xs=[.ref p])→(((SqL K H p ys∧∀l,H l=none→Q (.ref l) (upd H l (.tup ys)))∨(SqT K H p ys∧Q (.ref p) H)))→r_call_tuple_of K xs H Q
theorem call_tuple_of:CallR X (.type "tuple") (r_call_tuple_of X.K):=by
 intro pins s σ H xs us Q I r h
 obtain⟨p,ys,rfl,h⟩:=h
 obtain⟨u,rfl,rx⟩:=vals1 r
 cases rx
 rcases h with ⟨hq,q⟩|⟨hq,q⟩
 ·obtain⟨its,r',pl,hz⟩:=I.list hq
  have hlen:=r'.length
  refine call_tuple_list pl.isList (fun h' kp=>?_) (by simp only[List.size_toArray]<;>omega)
  have I1:Inv X pins σ H {s with heap:=h'}:=I.kept (t':=s.toks) kp
  have I2:Inv X pins σ (upd H h'.objs.size (.tup ys)) {s with heap:=h'.push {cls:=.type "tuple",data:=.seq its.toArray}} :=
   I1.laid (t':=s.toks) (fun b o e=>Heap.get?_push_of_some _ e) (Nat.le_refl _) (show ObjOk X.prog X.w _ _ _ (.tup ys) from⟨hz,its,r',IsTup.new _ _⟩)
  exact⟨.ref h'.objs.size,_,I2,rfl,q _ (I1.hok.fresh (Nat.le_refl _))⟩
 ·obtain⟨its,r',pl,hz⟩:=I.tuple hq
  exact call_tuple_same pl ⟨.ref p,H,I,rfl,q⟩
def tyV (K:PySem.W.Frag)(T:String)(x:V)(H:Hp):Prop:=match x with
 |.str _=>T="str"
 |.int _=>T="int"
 |.ref p=>(T="list"∧∃xs,SqL K H p xs)∨(T="tuple"∧∃o,K.lookup p=some o∧o.cls=.type "tuple"∧o.dict=none)∨
   (T="dict"∧((∃kvs,H p=some (.dK kvs))∨∃kvs,H p=some (.dT kvs)))∨(T="set"∧∃S n,H p=some (.set S n))
 |_=>False
theorem tyV_is {pins:List (Addr×Obj)}{σ:St}{H:Hp}{s:Shared}{T:String}{x:V}{v:Value}(I:Inv X pins σ H s)(r:RelV x v)(ty:tyV X.K T x H):
  s.TypeIs v T∧∀a,v=.ref a→∃ob,s.heap.get? a=some ob∧ob.dict=none:=by
 cases x with
 |str z=>
  obtain⟨t,rfl⟩:=r
  cases(show T="str" from ty)
  exact⟨typeIs_str s z t,fun _ e=>nomatch e⟩
 |int i=>
  obtain⟨t,rfl⟩:=r
  cases(show T="int" from ty)
  exact⟨typeIs_int s i t,fun _ e=>nomatch e⟩
 |ref p=>
  cases r
  rcases ty with ⟨rfl,xs,hq⟩|⟨rfl,o,hk,hc,hd⟩|⟨rfl,hk⟩|⟨rfl,S,n,hk⟩
  ·obtain⟨its,_,pl,_⟩:=I.list hq
   refine⟨pl.isList.typeIs,fun a e=>?_⟩
   cases e
   obtain⟨o,n,e,c,hd,_⟩:=pl
   exact⟨o,e,hd⟩
  ·refine⟨⟨o,I.kIn p o hk,hc⟩,fun a e=>?_⟩
   cases e
   exact⟨o,I.kIn _ o hk,hd⟩
  ·have z:∃o,s.heap.get? p=some o∧o.ExactDict:=by
    rcases hk with ⟨kvs,hk⟩|⟨kvs,hk⟩
    ·obtain⟨_,_,_,_,o,_,_,e,ex,_⟩:=I.hok p _ hk
     exact⟨o,e,ex⟩
    ·obtain⟨_,_,_,_,o,_,_,e,ex,_⟩:=I.hok p _ hk
     exact⟨o,e,ex⟩
   obtain⟨o,e,ex⟩:=z
   refine⟨⟨o,e,ex.1⟩,fun a e2=>?_⟩
   cases e2
   exact⟨o,e,ex.2.1⟩
  ·obtain⟨o,_,_,_,e,ex,_⟩:=I.hok p _ hk
   refine⟨⟨o,e,ex.1⟩,fun a e2=>?_⟩
   cases e2
   exact⟨o,e,ex.2.1⟩
 |_=>exact False.elim ty
inductive tBM0_ (K:PySem.W.Frag)(T:String)(r:V→List V→Hp→VK→Prop)(Q:VK)(x:V)(H1:Hp):Prop where
 |mk:(tyV K T x H1)→(r x [] H1 Q)→tBM0_ K T r Q x H1
def tBM0 (K:PySem.W.Frag)(T:String)(r:V→List V→Hp→VK→Prop)(to:TE):TE:=fun σ H Q=>to σ H (tBM0_ K T r Q)
inductive tBM_ (K:PySem.W.Frag)(T:String)(r:V→List V→Hp→VK→Prop)(t:TA)(σ:St)(Q:VK)(x:V)(H1:Hp):Prop where
 |mk:(tyV K T x H1)→(t σ H1 fun xs H2=>r x xs H2 Q)→tBM_ K T r t σ Q x H1
def tBM (K:PySem.W.Frag)(T:String)(r:V→List V→Hp→VK→Prop)(to:TE)(t:TA):TE:=fun σ H Q=>to σ H (tBM_ K T r t σ Q)
variable {o e:Expr}{es:List Expr}{to:TE}{t:TA}{name:Str}{apos cpos:Pos}{T id:String}{r:V→List V→Hp→VK→Prop}
theorem pe_bm0 (pa:PlainAttrs T)(slot:Slot T name id)(hty:typeOf (.builtin id)=pure (.type "method_descriptor"))(hm:MtR X id r)(ho:PE X o to)
  (hbase:attributeBase o name X.env (eval o X.env)=eval o X.env:=by rfl) (hline:(apos.endLine==cpos.line)=true:=by rfl):PE X (.Call (.Attribute o name apos) [] [] cpos) (tBM0 X.K T r to):=by
 intro pins s σ H Q I h
 refine wpAny_Call_method0_late hbase hline (thn (ho pins s σ H _ I h) fun v s1 ⟨x,H1,I1,r1,ty,q1⟩=>?_)
 obtain⟨h1,h2⟩:=tyV_is I1 r1 ty
 exact⟨T,id,pa,slot,hty,h1,h2,Calls.callWith_builtin rfl (PySem.evalArgs_none (hm pins s1 σ H1 x [] v [] Q I1 r1 .nil q1))⟩
theorem pe_bm (pa:PlainAttrs T)(slot:Slot T name id)(hty:typeOf (.builtin id)=pure (.type "method_descriptor"))(hm:MtR X id r)(ho:PE X o to)(ha:PA X (e::es) t)
  (hbase:attributeBase o name X.env (eval o X.env)=eval o X.env:=by rfl)
  (hfew:((backTo cpos (starEach (e::es) X.env)).all (fun x=>!x.1)&&(backToKw cpos (keywordEach [] X.env)).all (fun x=>x.1.isSome)
   &&decide ((e::es).length+([]:List Keyword).length+(if([]:List Keyword).isEmpty then 0 else 1)<30))=true:=by rfl)
  (hline:(apos.endLine==cpos.line)=true:=by rfl) (hs:starEach (e::es) X.env=(false,eval e X.env)::starEach es X.env:=by rfl) (hplain:(backTo cpos (starEach es X.env)).any (·.1)=false:=by rfl):
  PE X (.Call (.Attribute o name apos) (e::es) [] cpos) (tBM X.K T r to t):=by
 intro pins s σ H Q I h
 refine wpAny_Call_method_late hbase hfew hline rfl (thn (ho pins s σ H _ I h) fun v s1 ⟨x,H1,I1,r1,ty,q1⟩=>?_)
 obtain⟨h1,h2⟩:=tyV_is I1 r1 ty
 refine⟨T,id,pa,slot,hty,h1,h2,?_⟩
 have hA:=ha cpos pins s1 σ H1 _ I1 q1
 rw[hs]at hA ⊢
 refine Calls.callWith_builtin (by show(false||(backTo cpos (starEach es X.env)).any (·.1))=false;rw[hplain]<;>rfl) (Calls.evalArgs_plain ?_)
 exact thn hA fun us s2 ⟨vs,H2,I2,r2,q2⟩=>hm pins s2 σ H2 x vs v us Q I2 r1 r2 q2
end
def MtM (X:Cx)(id:String)(r:V→List V→Hp→VK→Prop):Prop :=
 ∀(pins:List (Addr×Obj)) (s:Shared) (σ:St) (H:Hp) (x:V) (xs:List V) (v:Value) (us:List Value) (Q:VK),Inv X pins σ H s→RelV x v→Vals xs us→r x xs H Q→
  wpAny (model X.prog X.w) X.A (call (.builtin id) (v::us)) (EP X pins σ Q) X.xe s
theorem Vals.one {x:V}{us:List Value}(h:Vals [x] us):∃u,us=[u]∧RelV x u:=by
 cases h with
 |cons r t=>cases t;exact⟨_,rfl,r⟩
theorem Vals.zero:∀{us:List Value},Vals [] us→us=[]
 |_, .nil=>rfl
theorem Vals.dropLast {xs:List V}{us:List Value}(h:Vals xs us):Vals xs.dropLast us.dropLast:=by
 induction h with
 |nil=>exact .nil
 |cons r t ih=>
  cases t with
  |nil=>exact .nil
  |cons q t'=>exact .cons r ih
theorem Vals.rep {xs:List V}{us:List Value}(h:Vals xs us):∀k:Nat,Vals (List.replicate k xs).flatten (List.replicate k us).flatten
 |0=>.nil
 |k+1=>by
  rw[List.replicate_succ,List.replicate_succ,List.flatten_cons,List.flatten_cons]
  exact Vals.append h (Vals.rep h k)
theorem erase_last {α:Type}(l:List α):l.eraseIdx (l.length-1)=l.dropLast:=by
 induction l with
 |nil=>rfl
 |cons a r ih=>
  cases r with
  |nil=>rfl
  |cons b r=>
   have e:(a::b::r).length-1=((b::r).length-1)+1:=by
    have h1:(a::b::r).length=r.length+2:=rfl
    have h2:(b::r).length=r.length+1:=rfl
    exact rfl
   rw[e,List.eraseIdx_cons_succ,ih]
   all_goals rfl
theorem foldl_rep (its:List Value):∀(k:Nat) (acc:List Value),
  List.foldl (fun x1 x2=>x1++x2) acc.toArray (List.replicate k its.toArray)=(acc++(List.replicate k its).flatten).toArray
 |0,acc=>by simp
 |k+1,acc=>by
  have e:acc.toArray++its.toArray=(acc++its).toArray:=by simp
  have e2:(acc++its)++(List.replicate k its).flatten=acc++(List.replicate (k+1) its).flatten:=by
   rw[List.replicate_succ,List.flatten_cons,List.append_assoc]
  rw[←e2,←foldl_rep its k (acc++its),←e,List.replicate_succ,List.foldl_cons]
section
variable {X:Cx}{pins:List (Addr×Obj)}{σ:St}{H:Hp}{s:Shared}{l b:Addr}{xs ys zs:List V}
theorem Inv.lset {its its':List Value}{n:Nat}{f:Array Value→Array Value}{t':Nat}(I:Inv X pins σ H s)(hH:H l=some (.lst xs))
  (e:s.heap.get? l=some {cls:=.type "list",data:=.seq its.toArray n}) (hf:f its.toArray=its'.toArray) (hv:Vals ys its') (hz:ys.length≤sizeLine):
  Inv X pins σ (upd H l (.lst ys)) {s with heap:=s.heap.update l (Obj.mapSeq f),toks:=t'}:=by
 have q:=PySem.IsL.update e f
 rw[hf]at q
 refine I.write (x:=l) (e:=l) (by rw[hH];exact trivial) (.inl rfl) (fun b' u hb hu=>(Heap.get?_update_other s.heap (Obj.mapSeq f) (Ne.symm hb)).trans hu) ⟨_,q⟩ ?_
 exact⟨hz,its',_,hv,q⟩
theorem Inv.lnew {its:List Value}{t':Nat}(I:Inv X pins σ H s)(hv:Vals ys its)(hz:ys.length≤sizeLine):
  Inv X pins σ (upd H s.heap.objs.size (.lst ys)) {s with heap:=s.heap.push {cls:=.type "list",data:=.seq its.toArray},toks:=t'} :=
 I.laid (fun _ _ q=>Heap.get?_push_of_some _ q) (Nat.le_refl _) ⟨hz,its,0,hv,Heap.get?_push_size _ rfl⟩
theorem Inv.fresh (I:Inv X pins σ H s):H s.heap.objs.size=none:=I.hok.fresh (Nat.le_refl _)
theorem Inv.lstM (I:Inv X pins σ H s)(hH:H l=some (.lst xs)):xs.length≤sizeLine∧∃(its:List Value) (n:Nat),Vals xs its∧xs.length=its.length∧s.heap.get? l=some {cls:=.type "list",data:=.seq its.toArray n}:=by
 obtain⟨z,its,n,r,e⟩:=I.hok l _ hH
 exact⟨z,its,n,r,r.length,e⟩
theorem notLongL {n:Nat}(h:n≤sizeLine):Builtin.List.listTooLong n=false:=by
 unfold Builtin.List.listTooLong
 exact decide_eq_false (by exact Nat.not_lt.mpr h)
end
section
variable {X:Cx}
inductive rAppend_ (x:V)(vs:List V)(H:Hp)(Q:VK):Prop where
 |mk (l) (xs) (y):(x=.ref l)→(vs=[y])→(H l=some (.lst xs))→(xs.length<sizeLine)→(Q .non (upd H l (.lst (xs++[y]))))→rAppend_ x vs H Q
def rAppend:V→List V→Hp→VK→Prop:=rAppend_
theorem mt_append:MtM X "list.append" rAppend:=by
 intro pins s σ H x vs v us Q I rx rv h
 obtain⟨l,xs,y,rfl,rfl,hH,hz,q⟩:=h
 cases rx
 obtain⟨u,rfl,ru⟩:=rv.one
 obtain⟨z,its,n,r,hl,e⟩:=I.lstM hH
 refine call_meets F.slot_list_append ⟨_,e,rfl⟩ F.entry_list_append (F.args_list_append_2 _ _) (PySem.list_append l its.toArray n u (by rw[List.size_toArray];omega)) ⟨e,?_⟩
 refine⟨.non,_,I.lset (its':=its++[u]) hH e (by simp) (r.append (.cons ru .nil)) ?_,rfl,q⟩
 rw[List.length_append,List.length_singleton]
 exact hz
inductive rExtend_ (x:V)(vs:List V)(H:Hp)(Q:VK):Prop where
 |mk (l) (b) (xs) (zs):(x=.ref l)→(vs=[.ref b])→(H l=some (.lst xs))→(H b=some (.lst zs))→(xs.length+zs.length≤sizeLine)→(Q .non (upd H l (.lst (xs++zs))))→rExtend_ x vs H Q
def rExtend:V→List V→Hp→VK→Prop:=rExtend_
theorem mt_extend:MtM X "list.extend" rExtend:=by
 intro pins s σ H x vs v us Q I rx rv h
 obtain⟨l,b,xs,zs,rfl,rfl,hH,hB,hz,q⟩:=h
 cases rx
 obtain⟨u,rfl,ru⟩:=rv.one
 cases ru
 obtain⟨z,its,n,r,hl,e⟩:=I.lstM hH
 obtain⟨z2,its2,n2,r2,hl2,e2⟩:=I.lstM hB
 have hsz:its.toArray.size+its2.toArray.size≤sizeLine:=by rw[List.size_toArray,List.size_toArray];omega
 have hlong:¬(!its.toArray.isEmpty&&Builtin.List.listTooLong (its.toArray.size+its2.toArray.size))=true:=by
  rw[notLongL hsz,Bool.and_false]
  exact Bool.false_ne_true
 refine call_meets F.slot_list_extend ⟨_,e,rfl⟩ F.entry_list_extend (F.args_list_extend_2 _ _)
  (AutoSeq1.list_extend_list_list_0 l its.toArray n b its2.toArray n2 hlong (by rw[List.size_toArray];exact Nat.le_trans (Nat.le_add_right _ _) hsz) (by exact Nat.le_succ_of_le hsz)) ⟨e,e2,?_⟩
 refine⟨.non,_,I.lset (its':=its++its2) hH e (by simp) (r.append r2) ?_,rfl,q⟩
 rw[List.length_append]
 exact hz
inductive rPop_ (x:V)(vs:List V)(H:Hp)(Q:VK):Prop where
 |mk (l) (xs) (y):(x=.ref l)→(vs=[])→(H l=some (.lst xs))→(xs[xs.length-1]?=some y)→(Q y (upd H l (.lst xs.dropLast)))→rPop_ x vs H Q
def rPop:V→List V→Hp→VK→Prop:=rPop_
theorem mt_pop:MtM X "list.pop" rPop:=by
 intro pins s σ H x vs v us Q I rx rv h
 obtain⟨l,xs,y,rfl,rfl,hH,hy,q⟩:=h
 cases rx
 have hus:=rv.zero
 subst hus
 obtain⟨z,its,n,r,hl,e⟩:=I.lstM hH
 obtain⟨u,hu,ru⟩:=r.get hy
 have hy':its.toArray[its.toArray.size-1]?=some u:=by
  show its.toArray[its.length-1]?=some u
  rw[←Array.getElem?_toList,←hl]
  exact hu
 refine call_meets F.slot_list_pop ⟨_,e,rfl⟩ F.entry_list_pop (F.args_list_pop_1 _) (MeetsSeq.list_pop_last l its.toArray n u hy' (by rw[List.size_toArray];omega)) ⟨e,?_⟩
 refine⟨y,_,I.lset (its':=its.dropLast) hH e ?_ r.dropLast ?_,ru,q⟩
 ·show its.toArray.eraseIdxIfInBounds (its.toArray.size-1)=its.dropLast.toArray
  rw[List.size_toArray,List.eraseIdxIfInBounds_toArray,erase_last]
 ·rw[List.length_dropLast]
  omega
inductive rReverse_ (x:V)(vs:List V)(H:Hp)(Q:VK):Prop where
 |mk (l) (xs):(x=.ref l)→(vs=[])→(H l=some (.lst xs))→(Q .non (upd H l (.lst xs.reverse)))→rReverse_ x vs H Q
inductive rCat_ (x:V)(y:V)(H:Hp)(Q:VK):Prop where
 |mk (l) (b) (xs) (zs):(x=.ref l)→(y=.ref b)→(H l=some (.lst xs))→(H b=some (.lst zs))→(xs.length+zs.length≤sizeLine)→(∀p,H p=none→Q (.ref p) (upd H p (.lst (xs++zs))))→rCat_ x y H Q
def rCat:R2:=rCat_
theorem op_cat:OpR X (binaryOp .Add) rCat:=by
 intro pins s σ H x y v u Q I rx ry h
 obtain⟨l,b,xs,zs,rfl,rfl,hH,hB,hz,q⟩:=h
 cases rx
 cases ry
 obtain⟨z,its,n,r,hl,e⟩:=I.lstM hH
 obtain⟨z2,its2,n2,r2,hl2,e2⟩:=I.lstM hB
 refine PySem.P.add_list e e2 ?_ (by rw[List.size_toArray,List.size_toArray];omega)
 have ea:its.toArray++its2.toArray=(its++its2).toArray:=by simp
 rw[ea]
 exact⟨.ref _,_,I.lnew (t':=s.toks) (r.append r2) (by rw[List.length_append];exact hz),rfl,q _ I.fresh⟩
inductive rRep_ (x:V)(y:V)(H:Hp)(Q:VK):Prop where
 |mk (l) (k) (xs):(x=.ref l)→(y=.int k)→(H l=some (.lst xs))→(-(2^63)≤k)→(k<2^63)→(xs.length*k.toNat≤sizeLine)→(∀p,H p=none→Q (.ref p) (upd H p (.lst (List.replicate k.toNat xs).flatten)))→rRep_ x y H Q
theorem len_rep {α:Type}(xs:List α)(k:Nat):(List.replicate k xs).flatten.length=k*xs.length:=by
 induction k with
 |zero=>simp
 |succ k ih=>rw[List.replicate_succ,List.flatten_cons,List.length_append,ih,Nat.succ_mul,Nat.add_comm]
end
section
variable {prog:Program}{w:World}{A:Around}{E:Value→Shared→Prop}{s:Shared}
end
section
variable {X:Cx}
end
end L2
namespace Att
open PySem PySem.W PySem.Calls PyProof.Rows
theorem ints_of_wellAll {P:Params}{h:Heap}:∀(ns:List Int) (vs:List Value),WellAll P h vs (ns.map WData.int)→IntsAre vs ns:=by
 intro ns
 induction ns with
 |nil=>
  intro vs w
  rw[List.map_nil]at w
  cases w
  exact .nil
 |cons n ns ih=>
  intro vs w
  rw[List.map_cons]at w
  cases w with
  |cons a b=>
   cases a
   exact .cons _ _ (ih _ b)
theorem script_of {l:OpenLaw}{n:Nat}(hn:l.most=some n){P:Params}{h:Heap}{args:List WData}{vals:List Value}
  (hpre:l.row.toRowW.claim.pre args=true) (hwl:WellAll P h vals args):
  ∃a vs ns,vals=[Value.ref a]∧args=[WData.list (ns.map WData.int)]∧h.get? a=some {cls:=.type "list",data:=.seq vs.toArray}∧IntsAre vs ns∧ns.length≤n:=by
 have hsh:WShape.hasAll [] args [.list .int]=true:=(pre_splitW hpre).1
 have hc:l.pre.holds [] {args:=args}=true:=(pre_splitW hpre).2
 obtain⟨d,r,rfl,h1,h2⟩:=hasAllW_cons hsh
 obtain rfl:=hasAllW_nil h2
 obtain⟨xs,rfl,h3⟩:=hasW_list h1
 obtain⟨ns,rfl⟩:=items_int h3
 have hlen:ns.length≤n:=by
  unfold OpenLaw.pre at hc
  have h4:(WTm.not (.lt (.lit (.int (n:Int))) (.len (.arg 0)))).holds [] {args:=[.list (ns.map .int)]}=true:=by
   have h4:=(holds_andW hc).1
   rw[hn]at h4
   exact h4
  have h5:=condW_of h4 (w_not (w_lt w_lit (w_len_list (w_arg rfl))))
  rw[List.length_map]at h5
  refine Nat.le_of_not_lt fun q=>?_
  have q':(n:Int)<((ns.length:Nat):Int):=by omega
  first
   |(rw[decide_eq_true q']at h5;exact absurd h5 (by decide))
   |(simp at h5;omega)
 cases hwl with
 |cons w1 w2=>
  cases w2
  cases w1 with
  |list ho hall=>exact⟨_,_,ns,rfl,rfl,ho,ints_of_wellAll ns _ hall,hlen⟩
theorem post_true (l:OpenLaw)(args:List WData):l.row.toRowW.claim.post args (.bool true) args=true :=
 postW_of (r:=l.row.toRowW) (X:=(true==true))
  (show WShape.has [] (.bool true) .bool=true by first|rfl|decide|simp[WShape.has,WShape.arms,WShape.armsAll])
  (show(WTm.eq .res (.lit (.bool true))).value [] {args:=args,res:=some (.bool true),after:=args}=some (.bool (true==true)) from w_eq_bool (w_res rfl) w_lit) rfl
theorem attach_call {l:OpenLaw}{n:Nat}{q:Program}{loose:List Str}{XP:(Str→Option Value)→Heap→Prop}{YP:World→Heap→Prop}{d:DefRec}
  (hn:l.most=some n) (hdf:d.params.defaults=[])
  (call:∀(w:World) (s₀ s₁:Shared) (mg mb:Str→Option Value) (fa:Addr) (o:Obj) (pm cd doc:Value) (a:Addr) (vs:List Value) (ns:List Int),
   Ground q loose [] XP w s₀ mg mb s₁.heap→YP w s₁.heap→
   s₁.heap.get? fa=some o→o.data=.func (docDef d.name d.params d.body d.scope pm cd doc)→s₁.heap.CodeRec cd d.name→mg d.name=some (.ref fa)→
   s₁.heap.get? a=some {cls:=.type "list",data:=.seq vs.toArray}→IntsAre vs ns→ns.length≤n→s₁.gens=#[]→
   codeAny (model l.prog w) callerA (.call (.ref fa) ⟨[.ref a],[]⟩) (fun r s'=>r=.ok (.ret (.bool true))∧OldK s₁.heap s'.heap∧s'.os=s₁.os∧AllBare s'.gens) s₁):
  WalkO q loose XP YP l.row.toRowW d [] (fun f vs=>PySem.call f vs):=by
 intro w s₀ s₁ mg mb G Y fa o pm cd doc dV kV ho hd hcd hD hmg hg args vals as hpre hlay hrd hwl hlo
 obtain rfl:dV=.none:=Dflts.none hD hdf
 obtain rfl:kV=.none:=Dflts.noKw hD
 obtain⟨a,vs,ns,rfl,rfl,hobj,hints,hlen⟩:=script_of hn hpre hwl
 refine enter_call (codeAny_mono (call w s₀ s₁ mg mb fa o pm cd doc a vs ns G Y ho (fd_plain hd) hcd hmg hobj hints hlen hg) fun r s' hq=>?_)
 obtain⟨rfl,h2,h3,h4⟩:=hq
 exact⟨.inl ⟨.bool true, .bool true,[],rfl,fun _=>rfl, .bool true,post_true l _,fun _=>⟨List.Pairwise.nil,fun _ hm=>(nomatch hm)⟩⟩,h2,h3,h4⟩
section
variable {prog:Program}{w:World}{A:Around}{E:Value→Shared→Prop}{s:Shared}{K:Frag}
end
end Att
namespace L2
open PySem PySem.Spec PyProof.Rows
theorem vals_ints:∀{vs:List Value} {ns:List Int},IntsAre vs ns→Vals (ns.map V.int) vs
 |_,_, .nil=>.nil
 |_,_, .cons n t h=>.cons ⟨t,rfl⟩ (vals_ints h)
def inClass (s:Stmt)(j:Nat):Stmt:=match s with
 |.ClassDef _ _ _ body _ _ _ _ _ _ _=>body.getD j (.Pass ⟨0,0,0,0⟩)
 |_=>.Pass ⟨0,0,0,0⟩
def defArgs (s:Stmt):Arguments:=match s with
 |.FunctionDef _ a _ _ _ _ _ _ _ _=>a
 |_=>{posonlyargs:=[],args:=[],vararg:=none,kwonlyargs:=[],kw_defaults:=[],kwarg:=none,defaults:=[]}
def defBody (s:Stmt):List Stmt:=match s with
 |.FunctionDef _ _ b _ _ _ _ _ _ _=>b
 |_=>[]
def defScope (s:Stmt):Scope:=match s with
 |.FunctionDef _ _ _ _ _ _ sc _ _ _=>sc
 |_=>{kind:=.function,names:=[],isGenerator:=false,isCoroutine:=false}
abbrev CX0:CXT:=fun _ _ _ _ _ _=>False
abbrev E0:XK:=fun _ _ _=>False
theorem pass0 {X:Cx}:Passes CX0 X E0:=fun _ _ _ _ _ _ _ h=>h.elim
structure Fun (K:PySem.W.Frag)(x qual:Str)(st:Stmt)(f:Addr)(fd:FuncData):Prop where
 ex:∃(oc:Value) (od:Option Addr) (kV doc pm:Value) (an:Option Addr) (cdv ct:Value) (osl:Array (Option Value)),
  fd=PySem.W.fnOf x qual (defArgs st) (defBody st) (defScope st) .none kV doc pm an cdv ct∧K.lookup f=some ⟨oc,od, .func fd,osl⟩∧PySem.W.codeIn K cdv qual=true
 kp:PySem.W.keepIn K (.ref f)=true
section
variable {P:Program}{w:World}{K:PySem.W.Frag}{mg:Str→Option Value}{base:Heap}
theorem Fun.ok {x qual:Str}{st:Stmt}{f:Addr}{fd:FuncData}{N ps:List Str}{k:Nat}{sp:Sp}(F:Fun K x qual st f fd)(S:FnScope N ps (defScope st))
  (hbody:∀(cdv:Value) (A:Around) (outer:List Env) (s:Shared) (H:Hp) (vs:List V) (Q:VK) (E:XK),Room k (A.deeper (envOfC qual (defScope st) s.heap.objs.size f cdv))→sp vs H Q E→
   ∃t,PSs (cxOf CX0 P w K mg base N qual (defScope st) f cdv A outer s H E).nox (defBody st) t∧t (Ends.of Q) (start N vs) H) (len:∀vs H Q E,sp vs H Q E→vs.length=ps.length:=by rintro _ _ _ _ ⟨⟩;subst_vars;rfl):FnOk P w K mg base CX0 (k+1) f fd ps sp:=by
 obtain⟨oc,od,kV,doc,pm,an,cdv,ct,osl,rfl,lk,hcd⟩:=F.ex
 refine fn_of lk hcd S len fun A outer s H vs Q E hr hsp=>?_
 obtain⟨t,h,q⟩:=hbody cdv A outer s H vs Q E hr hsp
 exact⟨t,h.nox,q⟩
theorem Fun.binds {x qual:Str}{st:Stmt}{f:Addr}{fd:FuncData}{ps:List Str}(F:Fun K x qual st f fd)
  (h:∀(kV doc pm:Value) (an:Option Addr) (cdv ct:Value) (us:List Value),us.length=ps.length→bindArgs (PySem.W.fnOf x qual (defArgs st) (defBody st) (defScope st) .none kV doc pm an cdv ct) ⟨us,[]⟩=pure (ps.zip us)):Binds K fd ps []:=by
 obtain⟨oc,od,kV,doc,pm,an,cdv,ct,osl,rfl,lk,hcd⟩:=F.ex
 exact .all (h kV doc pm an cdv ct)
theorem fun_mk {x qual:Str}{st:Stmt}{f:Addr}{oc:Value}{od an:Option Addr}{osl:Array (Option Value)}{kV doc pm cdv ct:Value}(l:K.lookup f=some ⟨oc,od, .func (PySem.W.fnOf x qual (defArgs st) (defBody st) (defScope st) .none kV doc pm an cdv ct),osl⟩)
  (c:PySem.W.codeIn K cdv qual=true) (k:PySem.W.keepIn K (.ref f)=true):Fun K x qual st f (PySem.W.fnOf x qual (defArgs st) (defBody st) (defScope st) .none kV doc pm an cdv ct):=⟨⟨oc,od,kV,doc,pm,an,cdv,ct,osl,rfl,l,c⟩,k⟩
end
theorem hu_of {A:Around}{k:Nat}(hr:Room k A):A.units+1<cLine:=Nat.lt_of_le_of_lt (Nat.add_le_add_left (by decide:1≤64) _) hr.units
section
variable {X:Cx}
theorem pv (i:Nat){x:Str}{pos:Pos}(hN:X.N[i]?=some x:=by rfl)(hv:Vis X.env.scope x:=by first|exact Or.inl rfl|exact Or.inr (Or.inl rfl)|exact Or.inr (Or.inr rfl))(hd:(x==("__debug__":Str))=false:=by decide)
  (hcd:(x==("__classdict__":Str))=false:=by decide):PE X (.Name x pos) (tVar i):=pe_var hN hv hd hcd
end
theorem iteF {A B:Prop}(h:B):if false=true then A else B:=by
 rw[if_neg Bool.false_ne_true]
 exact h
theorem iteT {A B:Prop}(h:A):if true=true then A else B:=by
 rw[if_pos rfl]
 exact h
theorem ite2 {c A B:Prop}[Decidable c](h1:c→A)(h2:¬c→B):if c then A else B:=by
 by_cases h:c
 ·rw[if_pos h]
  exact h1 h
 ·rw[if_neg h]
  exact h2 h
def Same (H H':Hp):Prop:=∀b o,H b=some o→H' b=some o
theorem Same.refl (H:Hp):Same H H:=fun _ _ h=>h
theorem Same.trans {H H1 H2:Hp}(a:Same H H1)(b:Same H1 H2):Same H H2:=fun c o h=>b c o (a c o h)
theorem Same.free {H H':Hp}(e:Same H H'){l:Addr}(h:H' l=Option.none):H l=Option.none:=by
 cases q:H l with
 |none=>rfl
 |some o=>
  rw[e l o q]at h
  cases h
def closL (cells:List (Str×Addr)):List (Str×NameKind)→List (Str×Addr)→List (Str×Addr)
 |[],acc=>acc
 |(n,k)::r,acc=>if k==.free then(match cells.lookup n with|some c=>closL cells r ((n,c)::acc)|none=>closL cells r acc) else closL cells r acc
theorem closL_forIn {env:Env}:∀(names:List (Str×NameKind)) (acc:List (Str×Addr)),(∀p∈names,p.2=.free→∃c,env.cells.lookup p.1=some c)→
  (forIn names acc fun(x:Str×NameKind) (r:List (Str×Addr))=>(if(x.2==NameKind.free)=true then(do let a ←cellOf env x.1;pure (ForInStep.yield ((x.1,a)::r))) else pure (ForInStep.yield r):Sem (ForInStep (List (Str×Addr)))))=pure (closL env.cells names acc):=by
 intro names
 induction names with
 |nil=>intro acc _;rfl
 |cons p r ih=>
  intro acc h
  obtain⟨n,k⟩:=p
  rw[List.forIn_cons]
  cases hk:k==NameKind.free with
  |false=>
   simp only[hk,Bool.false_eq_true,if_false,pure_bind,closL]
   exact ih acc fun q hq=>h q (List.mem_cons_of_mem _ hq)
  |true=>
   have e:k=.free:=by simpa using hk
   obtain⟨c,hc⟩:=h (n,k) List.mem_cons_self e
   simp only[hk,if_true,closL,cellOf,hc,pure_bind]
   exact ih _ fun q hq=>h q (List.mem_cons_of_mem _ hq)
theorem closL_eq {scope:Scope}{env:Env}(h:∀p∈scope.names,p.2=.free→∃c,env.cells.lookup p.1=some c):closureFor scope env=pure (closL env.cells scope.names []):=by
 have q:=closL_forIn (env:=env) scope.names [] h
 simp only[closureFor]
 first
  |exact q
  |(rw[←q];simp)
  |simpa using q
theorem closL_look {cells:List (Str×Addr)}:∀(names:List (Str×NameKind)) (acc:List (Str×Addr)) (y:Str) (c:Addr),(closL cells names acc).lookup y=some c→cells.lookup y=some c∨acc.lookup y=some c:=by
 intro names
 induction names with
 |nil=>intro acc y c h;exact .inr h
 |cons p r ih=>
  intro acc y c h
  obtain⟨n,k⟩:=p
  unfold closL at h
  split at h
  ·split at h
   ·rename_i c' hc
    rcases ih _ y c h with q|q
    ·exact .inl q
    ·rw[List.lookup_cons]at q
     cases e:y==n with
     |true=>
      rw[e]at q
      have e':y=n:=by simpa using e
      subst e'
      have q':some c'=some c:=q
      rw[←q'];exact .inl hc
     |false=>rw[e]at q;exact .inr q
   ·exact ih _ y c h
  ·exact ih _ y c h
theorem closL_acc {cells:List (Str×Addr)}:∀(names:List (Str×NameKind)) (acc:List (Str×Addr)) (y:Str),(∃c,acc.lookup y=some c)→∃c,(closL cells names acc).lookup y=some c:=by
 intro names
 induction names with
 |nil=>intro acc y h;exact h
 |cons p r ih=>
  intro acc y h
  obtain⟨n,k⟩:=p
  unfold closL
  split
  ·split
   ·refine ih _ y ?_
    rw[List.lookup_cons]
    cases e:y==n with
    |true=>exact⟨_,rfl⟩
    |false=>exact h
   ·exact ih _ y h
  ·exact ih _ y h
theorem closL_has {cells:List (Str×Addr)}:∀(names:List (Str×NameKind)) (acc:List (Str×Addr)) (y:Str),(y,NameKind.free)∈names→(∃c,cells.lookup y=some c)→∃c,(closL cells names acc).lookup y=some c:=by
 intro names
 induction names with
 |nil=>intro acc y h _;cases h
 |cons p r ih=>
  intro acc y h hc
  obtain⟨n,k⟩:=p
  unfold closL
  rcases List.mem_cons.mp h with e|h
  ·cases e
   obtain⟨c,hc⟩:=hc
   simp only[beq_self_eq_true,if_true,hc]
   exact closL_acc _ _ _ ⟨c,by rw[List.lookup_cons,beq_self_eq_true]⟩
  ·split
   ·split
    ·exact ih _ y h hc
    ·exact ih _ y h hc
   ·exact ih _ y h hc
def cxComp (X:Cx)(N':List Str)(scope:Scope)(C:Addr)(s₀:Shared)(H₀:Hp)(ex:List Addr):Cx :=
 {X with N:=N',s₀:=s₀,H₀:=H₀,env:=compEnvC scope (closL X.env.cells scope.names []) C X.env,outer:=X.stack,stack:=X.stack,ex:=ex,fn:=fun _=>false,xe:=fun _ _=>False}
def cxCompE (X:Cx)(N':List Str)(scope:Scope)(C:Addr)(s₀:Shared)(H₀:Hp)(ex:List Addr)(XE:Addr→Shared→Hp→List Addr→Value→Shared→Prop):Cx:={cxComp X N' scope C s₀ H₀ ex with xe:=XE C s₀ H₀ ex}
def noX:Addr→Shared→Hp→List Addr→Value→Shared→Prop:=fun _ _ _ _ _ _=>False
theorem cxE_no (X:Cx)(N':List Str)(scope:Scope)(C:Addr)(s₀:Shared)(H₀:Hp)(ex:List Addr):cxCompE X N' scope C s₀ H₀ ex noX=cxComp X N' scope C s₀ H₀ ex:=rfl
def PTs (X:Cx)(ifs:List Expr)(t:TT):Prop :=
 ∀(pins:List (Addr×Obj)) (s:Shared) (σ:St) (H:Hp) (Q:Bool→Hp→Prop),Inv X pins σ H s→t σ H Q→
  wpAny (model X.prog X.w) X.A (forIn ifs true fun c r=>if r=true then do let ok ←isTrue c X.env (eval c X.env);pure (ForInStep.yield ok) else pure (ForInStep.yield r)) (TP X pins σ Q) X.xe s
def tTrue:TT:=fun _ H Q=>Q true H
theorem pts_nil {X:Cx}:PTs X [] tTrue:=fun _ _ _ H _ I h=>wpAny_tests_nil ⟨H,I,h⟩
theorem pts_one {X:Cx}{c:Expr}{t:TT}(h:PT X c t):PTs X [c] t:=fun pins s σ H Q I q=>wpAny_tests_one (h pins s σ H Q I q)
section
variable {prog:Program}{w:World}{A:Around}{R:Result→Shared→Prop}{s:Shared}
theorem compLoop_go {elt target iter:Expr}{ifs:List Expr}{scope:Scope}{pos:Pos}{it acc:Value}{env:Env}(I:Nat→Shared→Prop)(E':Value→Shared→Prop)(hE:∀e s,E' e s→notedBy (model prog w) A env (fun x s'=>R (.error x) s') e s)
  (turn:∀n s,I n s→wpAny (model prog w) A (pyNext it) (fun r s₁=>match r with
   |none=>R (.ok .next) s₁
   |some v=>wpAny (model prog w) A (letOwnedTupleGo target it v) (fun _ s₀=>wpAny (model prog w) A (assign target env v) (fun _ s₂=>
     wpAny (model prog w) A (forIn ifs true fun c r=>if r=true then do let ok ←isTrue c env (eval c env);pure (ForInStep.yield ok) else pure (ForInStep.yield r)) (fun ok s₃=>
      if ok=true then wpAny (model prog w) A (eval elt env) (fun x s₄=>
       wpAny (model prog w) A (call (.builtin "list.append") [acc,x]) (fun _ s₅=>∃m,m<n∧I m s₅) E' s₄) E' s₃
      else ∃m,m<n∧I m s₃) E' s₂) E' s₀) E' s₁) E' s)
  (n:Nat) (h:I n s):
  codeAny (model prog w) A (.compLoop (.ListComp elt [⟨target,iter,ifs,0⟩] scope pos) 0 it acc env) R s:=by
 refine codeAny_loop rfl I (fun n s hI=>?_) n h
 show wpAny _ A ((compTurn (.ListComp elt [⟨target,iter,ifs,0⟩] scope pos) 0 it acc env).onRaise (fun x=>do noteFrame x env;theTreesLotGoes x)) _ _ s
 refine wpAny_noted ?_
 rw[compTurn_list]
 refine wpAny_bind (wpAny_standAt (wpAny_bind (wpAny_mono (turn n s hI) (fun r s₁ h₁=>?_) hE)))
 cases r with
 |none=>exact wpAny_pure h₁
 |some v=>
  refine wpAny_bind (wpAny_mono h₁ (fun _ s₀ h₀=>?_) hE)
  refine wpAny_bind (wpAny_mono h₀ (fun _ s₂ h₂=>wpAny_bind (wpAny_mono h₂ (fun ok s₃ h₃=>?_) hE)) hE)
  cases ok with
  |false=>exact wpAny_pure ⟨rfl,h₃⟩
  |true=>
   exact wpAny_bind (wpAny_bind (wpAny_mono h₃ (fun x s₄ h₄=>wpAny_bind (wpAny_mono h₄ (fun _ s₅ h₅=>wpAny_pure (wpAny_pure ⟨rfl,h₅⟩)) hE)) hE))
end
structure CompScope (X:Cx)(x:Str)(frees:List Str)(idx:List Nat)(scope:Scope):Prop where
 kind:scope.kind=.function
 nocell:∀y∈scope.names,y.2≠.cell
 loc:∀y∈scope.names,y.2=.local→scope.names.lookup y.1=some .local
 tgt:scope.names.lookup x=some .local
 nd:(x::frees).Nodup
 fr:∀y∈scope.names,y.2=.free→X.env.kindOf y.1=some .cell∨X.env.kindOf y.1=some .free
 ix:∀(j:Nat) (y:Str),frees[j]?=some y→∃k,idx[j]?=some k∧X.N[k]?=some y
 len:idx.length=frees.length
 cl:∀y∈frees,(y,NameKind.free)∈scope.names
def outs (σ:St)(idx:List Nat):St:=idx.map fun k=>(σ[k]?).join
def CompW (J:It)(tt:TT)(te:TE)(σ':St)(Q:VK)(H1:Hp):Prop:=∃W:Nat→Nat→List V→Hp→Prop,(∃m,W 0 m [] H1)∧∀i m vs H2,W i m vs H2→
 vs.length<sizeLine∧((J.stop i H2∧∀l,H2 l=none→Q (.ref l) (upd H2 l (.lst vs)))∨
  (J.go i H2∧∀x H3,J.yld i H2 x H3→tt (some x::σ') H3 fun b H4=>if b=true then te (some x::σ') H4 fun v H5=>∃m',m'<m∧W (i+1) m' (vs++[v]) H5 else ∃m',m'<m∧W (i+1) m' vs H4))
def tComp (idx:List Nat)(wi:TI)(tt:TT)(te:TE):TE:=fun σ H Q=>wi σ H fun J H1=>CompW J tt te (outs σ idx) Q H1
theorem Vals.snoc {xs:List V}{us:List Value}{x:V}{u:Value}(h:Vals xs us)(r:RelV x u):Vals (xs++[x]) (us++[u]):=Vals.append h (.cons r .nil)
theorem mem_of_lookup' {α β:Type}[BEq α][LawfulBEq α]{l:List (α×β)}{x:α}{b:β}(h:l.lookup x=some b):(x,b)∈l:=by
 induction l with
 |nil=>simp at h
 |cons p r ih=>
  obtain⟨n,k⟩:=p
  rw[List.lookup_cons]at h
  cases e:x==n with
  |true=>
   rw[e]at h
   have e':x=n:=by simpa using e
   have h':k=b:=Option.some.inj h
   subst e' h'
   exact List.mem_cons_self
  |false=>rw[e]at h;exact List.mem_cons_of_mem _ (ih h)
theorem relabel_free {scope:Scope}{env:Env}{y:Str}(h:(relabel scope env).names.lookup y=some .cell∨(relabel scope env).names.lookup y=some .free)(hc:∀y∈scope.names,y.2≠.cell):(y,NameKind.free)∈scope.names:=by
 have q:∃k,(y,k)∈(relabel scope env).names∧(k=.cell∨k=.free):=by
  rcases h with h|h
  ·exact⟨_,mem_of_lookup' h, .inl rfl⟩
  ·exact⟨_,mem_of_lookup' h, .inr rfl⟩
 obtain⟨k,hm,hk⟩:=q
 obtain⟨⟨n,k'⟩,hm',e⟩:=List.mem_map.mp hm
 dsimp only at e
 split at e
 ·rename_i hf
  cases e
  have:k'=.free:=by
   simp only[Bool.and_eq_true,beq_iff_eq]at hf
   exact hf.1.1
  subst this
  exact hm'
 ·cases e
  rcases hk with rfl|rfl
  ·exact absurd rfl (hc _ hm')
  ·exact hm'
theorem lookup_relabel_free {env:Env}:∀{names:List (Str×NameKind)} {x:Str},names.lookup x=some .free→
  ((names.map fun(n,k)=>if(k==NameKind.free&&env.scope.kind==.function&&env.kindOf n==some .cell) then(n,NameKind.cell) else(n,k)).lookup x=some .cell∨
   (names.map fun(n,k)=>if(k==NameKind.free&&env.scope.kind==.function&&env.kindOf n==some .cell) then(n,NameKind.cell) else(n,k)).lookup x=some .free)
 |[],_,h=>by simp at h
 |(n,k)::r,x,h=>by
  have ih:=@lookup_relabel_free env r x
  rw[List.map_cons]
  cases hx:x==n with
  |true=>
   simp only[List.lookup_cons,hx]at h
   have hk:k=.free:=Option.some.inj h
   subst hk
   by_cases hc:(NameKind.free==NameKind.free&&env.scope.kind==.function&&env.kindOf n==some .cell)=true
   ·left
    simp only[hc,if_true,List.lookup_cons,hx]
   ·right
    simp only[hc,if_false,List.lookup_cons,hx,Bool.false_eq_true]
  |false=>
   simp only[List.lookup_cons,hx]at h
   by_cases hc:(k==NameKind.free&&env.scope.kind==.function&&env.kindOf n==some .cell)=true
   ·simp only[hc,if_true,List.lookup_cons,hx];exact ih h
   ·simp only[hc,if_false,List.lookup_cons,hx,Bool.false_eq_true];exact ih h
theorem Inv.track {X:Cx}{pins:List (Addr×Obj)}{σ:St}{H:Hp}{s:Shared}{D:Addr}{vs:List V}{its:List Value}{k:Nat}(I:Inv X pins σ H s)(hD:H D=none)(hz:vs.length≤sizeLine)(hv:Vals vs its)
  (e:s.heap.get? D=some {cls:=.type "list",data:=.seq its.toArray k}) (h1:D∈X.ex∨X.s₀.heap.objs.size≤D) (h2:D≠X.env.locals) (h3:∀x c,X.env.cells.lookup x=some c→c≠D) (h4:∀p∈X.pn++pins,p.1≠D):
  Inv X pins σ (upd H D (.lst vs)) s:=by
 obtain⟨hh,g,d,t,o⟩:=s
 have nD:∀b u,H b=some u→b≠D:=fun b u q z=>by rw[z,hD]at q;cases q
 refine I.step (g':=g) (d':=d) (t':=t) (h':=hh) (ch:=[D]) (fun b hb=>?_) (fun b o _ _ _ q _=>q) (fun b o _ _ _ q _=>⟨o.slots,q⟩) (fun b o hb q n=>?_) (fun b o _ q=>⟨o,q⟩)
  (fun b xs q=>by rw[upd_ne (nD b _ q)];exact q) (fun b o u q=>by rw[upd_ne (nD b _ q)];exact q) (fun b ps q=>⟨#[],by rw[upd_ne (nD b _ q),q];simp⟩) (fun m q=>q) (fun b u q=>?_) I.bare
 ·have z:b=D:=by simpa using hb
  subst z
  exact⟨h1,h2,h3,h4⟩
 ·rw[upd_ne (by simpa using hb)];exact n
 ·by_cases z:b=D
  ·subst z
   rw[upd_same]at q;cases q
   exact⟨hz,its,k,hv,e⟩
  ·rw[upd_ne z]at q
   exact(I.hok b u q).stay (fun _ _ _ q=>q) (fun c q=>by rw[upd_ne (nD c _ q)];exact q) fun c xs q=>by rw[upd_ne (nD c _ q)];exact q
structure CompScopeM (X:Cx)(frees:List Str)(idx:List Nat)(scope:Scope):Prop where
 kind:scope.kind=.function
 nocell:∀y∈scope.names,y.2≠.cell
 loc:∀y∈scope.names,y.2=.local→scope.names.lookup y.1=some .local
 fr:∀y∈scope.names,y.2=.free→X.env.kindOf y.1=some .cell∨X.env.kindOf y.1=some .free
 ix:∀(j:Nat) (y:Str),frees[j]?=some y→∃k,idx[j]?=some k∧X.N[k]?=some y
 len:idx.length=frees.length
 cl:∀y∈frees,(y,NameKind.free)∈scope.names
def CompWM (n:Nat)(J:It)(g:TG)(tt:TT)(te:TE)(σ':St)(Q:VK)(H1:Hp):Prop:=∃W:Nat→Nat→List V→Hp→Prop,(∃m,W 0 m [] H1)∧∀i m vs H2,W i m vs H2→
 vs.length<sizeLine∧((J.stop i H2∧∀l,H2 l=none→Q (.ref l) (upd H2 l (.lst vs)))∨
  (J.go i H2∧∀(τ:St) x H3,τ.length=n→J.yld i H2 x H3→g x (τ++σ') H3 fun σ1 H4=>(∃τ':St,σ1=τ'++σ'∧τ'.length=n)∧
   tt σ1 H4 fun b H5=>if b=true then te σ1 H5 fun v H6=>∃m',m'<m∧W (i+1) m' (vs++[v]) H6 else ∃m',m'<m∧W (i+1) m' vs H5))
def tCompM (n:Nat)(idx:List Nat)(wi:TI)(g:TG)(tt:TT)(te:TE):TE:=fun σ H Q=>wi σ H fun J H1=>CompWM n J g tt te (outs σ idx) Q H1
theorem comp_core {X:Cx}{elt iter tg:Expr}{M:List Str}{g:TG}{pos p1:Pos}{ifs:List Expr}{scope:Scope}{frees:List Str}{idx:List Nat}{wi:TI}{tt:TT}{te:TE}{XE:Addr→Shared→Hp→List Addr→Value→Shared→Prop}
  {qt:Cx→Prop} (hc:∀C s₀ H₀ ex,qt (cxCompE X (M++frees) scope C s₀ H₀ ex XE)) (S:CompScopeM X frees idx scope) (hfl:∀y∈frees,scope.names.lookup y=some .free) (hi:PIQ qt X tg iter wi) (hg:∀C s₀ H₀ ex,PG (cxCompE X (M++frees) scope C s₀ H₀ ex XE) tg g)
  (ht:∀C s₀ H₀ ex,PTs (cxCompE X (M++frees) scope C s₀ H₀ ex XE) ifs tt) {pins:List (Addr×Obj)} {s:Shared} {σ:St} {H:Hp} {Q:VK} (he:∀C s₀ H₀ ex,Inv X pins σ H₀ s₀→(∀b∈ex,∀y c,X.env.cells.lookup y=some c→c≠b)→PE (cxCompE X (M++frees) scope C s₀ H₀ ex XE) elt te)
  (hs:∀v,foldedSetIterable iter X.env v=pure v) {use:Option (Value→Sem Unit)} {Q':Value→Shared→Prop} (I:Inv X pins σ H s) (h:tCompM M.length idx wi g tt te σ H Q)
  (hxe:∀C s2 H2 ex D,Inv X pins σ H2 s2→(∀b∈ex,FpOk X pins H2 b)→s2.heap.objs.size≤C→D≠C→∀e s',XE C s2 H2 ex e s'→notedBy (model X.prog X.w) X.A (compEnvC scope (closL X.env.cells scope.names []) C X.env) (fun x s''=>compPost (model X.prog X.w) X.A X.xe use Q' (.ref D) C (.error x) s'') e s')
  (hpost:∀(D C:Addr) (H':Hp) m4 (s4:Shared),s4.heap.Ns C m4→(∀h',Heap.SameBut C s4.heap h'→Inv X pins σ H' {s4 with heap:=h'})→H' C=none→C≠X.env.locals→C∉X.fs→X.s₀.heap.objs.size≤C→(∀z c,X.env.cells.lookup z=some c→c≠C)→(∀p∈X.pn++pins,p.1≠C)→Q (.ref D) H'→
   compPost (model X.prog X.w) X.A X.xe use Q' (.ref D) C (.ok .next) s4):
  wpAny (model X.prog X.w) X.A (comprehension (.ListComp elt [⟨tg,iter,ifs,0⟩] scope pos) scope X.env p1 (newList []) (firstAsync [⟨tg,iter,ifs,0⟩]) (firstIter [⟨tg,iter,ifs,0⟩] X.env) use) Q' X.xe s:=by
 have hclos:=closL_eq (scope:=scope) (env:=X.env) fun p hp hf=>I.ok.has p.1 (S.fr p hp hf)
 refine wpAny_comprehension_free (use:=use) rfl hs hclos S.kind S.loc (thn (hi pins s σ H _ I h) fun v s1 h1=>thn h1 fun itv s2 h2=>?_)
 obtain⟨it,fp,tn,J,H2,rfl,I2,T,st2,f2,W,⟨m0,w0⟩,turn⟩:=h2
 refine wpAny_newObj_type (wpAny_newFunctionEnv S.nocell (by intro y hy;simp at hy) (fun h₁ hns₁ hsb₁=>?_) S.kind)
 dsimp only at hns₁ hsb₁ ⊢
 generalize hH2:s2.heap.push {cls:=.type "list",dict:=none,data:=.seq ([]:List Value).toArray}=G2 at hns₁ hsb₁ ⊢
 have hCe:G2.objs.size=s2.heap.objs.size+1:=by rw[←hH2,Heap.size_push]
 generalize hC:G2.objs.size=C at hns₁ hsb₁ hCe ⊢
 have hCle:s2.heap.objs.size≤C:=by omega
 have hDC:s2.heap.objs.size≠C:=by omega
 have below:∀b,b<s2.heap.objs.size→b≠C:=fun b hb=>by omega
 have old:∀b o,s2.heap.get? b=some o→h₁.get? b=some o:=fun b o e=>hsb₁.extBut b o (below b (Heap.lt_size e)) (Heap.get?_push_of_some _ (hH2 ▸ Heap.get?_push_of_some _ e))
 have hacc:∃k,h₁.get? s2.heap.objs.size=some {cls:=.type "list",data:=.seq ([]:List Value).toArray k}:=⟨_,hsb₁.extBut _ _ hDC (Heap.get?_push_of_some _ (hH2 ▸ Heap.get?_push_size _ rfl))⟩
 have look:∀y c,(closL X.env.cells scope.names []).lookup y=some c→X.env.cells.lookup y=some c:=fun y c e=>by
  rcases closL_look _ _ y c e with q|q
  ·exact q
  ·cases q
 have fpD:∀b∈fp,b<s2.heap.objs.size:=fun b hb=>by
  obtain⟨o,e,_⟩:=T.obj _ _ st2 b hb
  exact Heap.lt_size e
 have ok':(cxCompE X (M++frees) scope C s2 H2 fp XE).Ok:={
  mod:=I2.ok.mod
  kind:=S.kind
  glob:=I2.ok.glob
  blt:=I2.ok.blt
  above:=hCle
  inj:=fun y z c e1 e2=>I2.ok.inj y z c (look y c e1) (look z c e2)
  has:=fun y hy=>by
   have q:=relabel_free (scope:=scope) (env:=X.env) hy S.nocell
   exact closL_has _ _ y q (I2.ok.has y (S.fr _ q rfl))
  cab:=fun y c hf=>by cases hf
  hd:=I2.ok.hd
  frames:=I2.ok.frames
  stk:=.inl rfl
  exf:=fun b hb=>⟨below b (fpD b hb),fun y c e=>(f2 b hb).2.2.2.2.1 y c (look y c e)⟩
  bs:=I2.bs
  bsz:=Nat.le_trans I2.ok.bsz I2.sz
  noex:=fun b o e hb=>by
   rcases(f2 b hb).2.2.2.1 with z|z
   ·exact I2.ok.noex b o e z
   ·exact absurd (Nat.lt_of_lt_of_le (Heap.lt_size e) (Nat.le_trans I2.ok.bsz z)) (Nat.lt_irrefl _)
  exfs:=fun b hb hf=>by
   rcases List.mem_cons.mp (I2.stkSub b hf) with z|z
   ·exact(f2 b hb).2.1 z
   ·exact(f2 b hb).2.2.1 z
  funs:=I2.stack
  frf:=I2.stkFree}
 have Dfs:s2.heap.objs.size∉frs X.stack:=fun hb=>by
  rcases List.mem_cons.mp (I2.stkSub _ hb) with z|z
  ·have q:=I2.lt
   rw[←z]at q
   exact Nat.lt_irrefl _ q
  ·exact I2.nofs (Nat.le_refl _) z
 have Dcell:∀y c,X.env.cells.lookup y=some c→c≠s2.heap.objs.size:=fun y c e z=>by
  obtain⟨v,q⟩:=I2.cell y c e
  have q':=q.lt
  rw[z]at q'
  exact Nat.lt_irrefl _ q'
 have Dpin:∀p∈X.pn++pins,p.1≠s2.heap.objs.size:=fun p hp z=>by
  have q':=Heap.lt_size (I2.pin p hp).1
  rw[z]at q'
  exact Nat.lt_irrefl _ q'
 have I3:Inv (cxCompE X (M++frees) scope C s2 H2 fp XE) pins (List.replicate M.length none++outs σ idx) H2 {s2 with heap:=h₁,toks:=s2.toks+([]:List (Str×Value)).length}:={
  ok:=ok'
  os:=rfl
  bare:=I2.bare
  base:=Un.kept old
  loc:=by
   refine⟨_,hns₁,fun i y v e1 e2 e3=>?_⟩
   by_cases hi':i<M.length
   ·rw[List.getElem?_append_left (by rw[List.length_replicate];exact hi'),List.getElem?_replicate,if_pos hi']at e2
    cases e2
   ·obtain⟨j,rfl⟩:∃j,i=M.length+j:=⟨i-M.length,by omega⟩
    have e1':frees[j]?=some y:=by
     have e1'':(M++frees)[M.length+j]?=some y:=e1
     rw[List.getElem?_append_right (Nat.le_add_right _ _),Nat.add_sub_cancel_left]at e1''
     exact e1''
    have e2':(outs σ idx)[j]?=some (some v):=by
     rw[List.getElem?_append_right (by rw[List.length_replicate];exact Nat.le_add_right _ _),List.length_replicate,Nat.add_sub_cancel_left]at e2
     exact e2
    obtain⟨k,hk,hN⟩:=S.ix j y e1'
    have hy:y∈frees:=List.mem_of_getElem? e1'
    have e4:σ[k]?=some (some v):=by
     unfold outs at e2'
     rw[List.getElem?_map,hk]at e2'
     have e5:(σ[k]?).join=some v:=Option.some.inj e2'
     cases q:σ[k]? with
     |none=>rw[q]at e5;cases e5
     |some o=>rw[q]at e5;exact congrArg some e5
    obtain⟨m,hn,hl⟩:=I2.loc
    have kin:=S.fr _ (S.cl y hy) rfl
    have vis:Vis X.env.scope y:=by
     rcases kin with z|z
     ·exact .inr (.inl z)
     ·exact .inr (.inr z)
    obtain⟨u,r,l⟩:=hl k y v hN e4 vis
    refine⟨u,r, .inr ⟨lookup_relabel_free (env:=X.env) (hfl y hy),?_⟩⟩
    rcases l with ⟨z,_⟩|⟨_,c,ec,ic⟩
    ·rcases kin with z'|z'
     ·have z'':X.env.kindOf y=some .cell:=z'
      rw[z]at z'';cases z''
     ·have z'':X.env.kindOf y=some .free:=z'
      rw[z]at z'';cases z''
    ·obtain⟨c',ec'⟩:=closL_has (cells:=X.env.cells) scope.names [] y (S.cl y hy) ⟨c,ec⟩
     have:c'=c:=Option.some.inj ((look y c' ec').symm.trans ec)
     subst this
     obtain⟨o,ho,hd⟩:=ic
     exact⟨c',ec',o,old _ _ ho,hd⟩
  cell:=fun y c e=>by
   obtain⟨v,o,ho,hd⟩:=I2.cell y c (look y c e)
   exact⟨v,o,old _ _ ho,hd⟩
  free:=I2.hok.fresh hCle
  freeC:=fun y c e=>I2.freeC y c (look y c e)
  pin:=fun p hp=>by
   obtain⟨e,n,ne,nf,d⟩:=I2.pin p hp
   refine⟨old _ _ e,n,below _ (Heap.lt_size e),fun hb=>?_,d⟩
   rcases List.mem_cons.mp (I2.stkSub _ hb) with z|z
   ·exact ne z
   ·exact nf z
  hok:=I2.hok.kept old
  len:=by simp[cxCompE,cxComp,outs,S.len]}
 have fok:∀{pp:List (Addr×Obj)} {H':Hp},(∀b∈fp,H' b=none)→(∀p∈pp,p.1=s2.heap.objs.size)→∀b∈fp,FpOk (cxCompE X (M++frees) scope C s2 H2 fp XE) (pins++pp) H' b:=fun{pp H'} hn hp b hb=>by
  obtain⟨_,f1,f2',f3,f4,f5⟩:=f2 b hb
  refine⟨hn b hb,below b (fpD b hb),fun hf=>?_, .inl hb,fun y c e=>f4 y c (look y c e),fun p hpp z=>?_⟩
  ·rcases List.mem_cons.mp (I2.stkSub b hf) with z|z
   ·exact f1 z
   ·exact f2' z
  ·have hpp':p∈X.pn++(pins++pp):=hpp
   rw[←List.append_assoc]at hpp'
   rcases List.mem_append.mp hpp' with q|q
   ·exact f5 p q z
   ·have q':=fpD b hb
    rw[←z,hp p q]at q'
    exact Nat.lt_irrefl _ q'
 have loop:∀s3:Shared,s3={s2 with heap:=h₁,toks:=s2.toks+([]:List (Str×Value)).length}→
   codeAny (model X.prog X.w) X.A (.compLoop (.ListComp elt [⟨tg,iter,ifs,0⟩] scope pos) 0 (.ref it) (.ref s2.heap.objs.size) (compEnvC scope (closL X.env.cells scope.names []) C X.env))
    (compPost (model X.prog X.w) X.A X.xe use Q' (.ref s2.heap.objs.size) C) s3:=by
  rintro s3 rfl
  obtain⟨k0,hacc⟩:=hacc
  refine compLoop_go (fun n s'=>∃i τ vs H' its k,(τ:St).length=M.length∧Inv (cxCompE X (M++frees) scope C s2 H2 fp XE) pins (τ++outs σ idx) H' s'∧tn i s'.heap∧(∀b∈fp,H' b=none)∧H' s2.heap.objs.size=none∧
   s'.heap.get? s2.heap.objs.size=some {cls:=.type "list",data:=.seq its.toArray k}∧Vals vs its∧W i n vs H') (XE C s2 H2 fp) (hxe C s2 H2 fp s2.heap.objs.size I2 f2 hCle hDC) ?_ m0
   ⟨0,List.replicate M.length none,[],H2,[],k0,by simp,I3,T.keep _ _ _ st2 fun b _ o e=>old b o e,fun b hb=>(f2 b hb).1,I2.hok.fresh (Nat.le_refl _),hacc, .nil,w0⟩
  rintro n s' ⟨i,τ,vs,H',its,k,lτ,I',st',fr',hD',hg',hv',w'⟩
  obtain⟨hlen,alt⟩:=turn i n vs H' w'
  have IP:Inv (cxCompE X (M++frees) scope C s2 H2 fp XE) (pins++[(s2.heap.objs.size,{cls:=.type "list",data:=.seq its.toArray k})]) (τ++outs σ idx) H' s' :=
   I'.pins_of fun p hp=>(List.mem_append.mp hp).elim (fun z=>I'.pin p (List.mem_append_right _ z)) fun z=>by
    have z':p=(s2.heap.objs.size,{cls:=.type "list",data:=.seq its.toArray k}):=by simpa using z
    subst z'
    exact⟨hg',hD',hDC,Dfs,fun v q=>by cases q⟩
  have FP:=fok (pp:=[(s2.heap.objs.size,{cls:=.type "list",data:=.seq its.toArray k})]) fr' (fun p hp=>by
   have z':p=(s2.heap.objs.size,{cls:=.type "list",data:=.seq its.toArray k}):=by simpa using hp
   rw[z'])
  rcases alt with ⟨stop,qn⟩|⟨go,step⟩
  ·refine thn (T.done (cxCompE X (M++frees) scope C s2 H2 fp XE) rfl rfl rfl (hc C s2 H2 fp) i _ s' _ H' (XE C s2 H2 fp) IP FP st' stop) fun r s4 ⟨hr,I4⟩=>?_
   subst hr
   obtain⟨m4,hn4,_⟩:=id I4.loc
   refine hpost s2.heap.objs.size C (upd H' s2.heap.objs.size (.lst vs)) m4 s4 hn4 (fun h' hsb=>?_) (by rw[upd_ne (Ne.symm hDC)];exact I4.free) (fun z=>by have q:=I2.lt;rw[←z]at q;exact Nat.lt_irrefl _ (Nat.lt_of_lt_of_le q hCle)) (I2.nofs hCle) (Nat.le_trans I2.sz hCle) (fun z c e zz=>by
    obtain⟨v,q⟩:=I2.cell z c e
    have q':=q.lt
    rw[zz]at q'
    exact Nat.lt_irrefl _ (Nat.lt_of_lt_of_le q' hCle)) (fun p hp zz=>by
    have q':=Heap.lt_size (I2.pin p hp).1
    rw[zz]at q'
    exact Nat.lt_irrefl _ (Nat.lt_of_lt_of_le q' hCle)) (qn _ hD')
   have gD:s4.heap.get? s2.heap.objs.size=some {cls:=.type "list",data:=.seq its.toArray k}:=(I4.pin (s2.heap.objs.size,_) (List.mem_append_right _ (List.mem_append_right _ (List.mem_singleton.mpr rfl)))).1
   have hx:∀b o,b≠C→s4.heap.get? b=some o→h'.get? b=some o:=fun b o hb e=>(hsb.2 b hb).trans e
   have J1:Inv X pins σ H' {s4 with heap:=h'}:=by
    refine I2.call' (ch:=fp) I4.os ⟨fun b o e n hb hx'=>?_,fun b o e n hb hx'=>?_,I4.base.free,fun b o e hx'=>?_,I4.base.tups,I4.base.frzs,I4.base.tbls⟩ (fun b u e=>?_) I4.bare fun b hb=>?_
    ·exact hx b o (below b (Heap.lt_size e)) (I4.base.keep b o e n hb hx')
    ·obtain⟨sl,q⟩:=I4.base.slot b o e n hb hx'
     exact⟨sl,hx b _ (below b (Heap.lt_size e)) q⟩
    ·obtain⟨o',q⟩:=I4.base.there b o e hx'
     exact⟨o',hx b _ (below b (Heap.lt_size e)) q⟩
    ·refine(I4.hok b u e).stay (fun c v hcc q=>hx c v ?_ q) (fun _ q=>q) fun _ _ q=>q
     rintro rfl
     rcases hcc with z|z
     ·rw[←z]at e
      have:=I4.free
      rw[show H' c=none from this]at e;cases e
     ·have:=I4.free
      rw[show H' c=none from this]at z;cases z
    ·obtain⟨_,f1,f2',f3,f4,f5⟩:=f2 b hb
     exact⟨f3,f1,f4,f5⟩
   exact J1.track hD' (Nat.le_of_lt hlen) hv' (hx _ _ hDC gD) (.inr I2.sz) (fun z=>by have q:=I2.lt;rw[←z]at q;exact Nat.lt_irrefl _ q) Dcell Dpin
  ·refine thn (T.item (cxCompE X (M++frees) scope C s2 H2 fp XE) rfl rfl rfl (hc C s2 H2 fp) i _ s' _ H' (XE C s2 H2 fp) IP FP st' go) fun r s4 ⟨u,hr,h4⟩=>?_
   subst hr
   refine thn h4 fun _ s5 ⟨xv,H5,I5,r5,y5,st5,fr5⟩=>?_
   have I5':=I5.pinned (fok (pp:=[(s2.heap.objs.size,{cls:=.type "list",data:=.seq its.toArray k})]) fr5 (fun p hp=>by
    have z':p=(s2.heap.objs.size,{cls:=.type "list",data:=.seq its.toArray k}):=by simpa using hp
    rw[z'])) (T.obj _ _ st5)
   have q6:=step τ xv H5 lτ y5
   refine thn (hg C s2 H2 fp _ s5 _ H5 xv _ _ I5' r5 q6) fun _ s6 ⟨σ6,H6,I6,⟨τ6,e6,l6⟩,q6'⟩=>?_
   subst e6
   refine thn (ht C s2 H2 fp _ s6 _ H6 _ I6 q6') fun b s7 ⟨H7,I7,q7⟩=>?_
   have keepT:∀{s8:Shared} {σ8:St} {H8:Hp},Inv (cxCompE X (M++frees) scope C s2 H2 fp XE) ((pins++[(s2.heap.objs.size,{cls:=.type "list",data:=.seq its.toArray k})])++pinsAt fp s5.heap) σ8 H8 s8→
     tn (i+1) s8.heap∧(∀b∈fp,H8 b=none)∧H8 s2.heap.objs.size=none∧s8.heap.get? s2.heap.objs.size=some {cls:=.type "list",data:=.seq its.toArray k}:=fun{s8 σ8 H8} I8=>by
    refine⟨T.keep _ _ _ st5 fun b hb o e=>(I8.pin (b,o) (List.mem_append_right _ (List.mem_append_right _ (mem_pinsAt hb e)))).1,fun b hb=>?_,?_,?_⟩
    ·obtain⟨o,e,d⟩:=T.obj _ _ st5 b hb
     exact(I8.pin (b,o) (List.mem_append_right _ (List.mem_append_right _ (mem_pinsAt hb e)))).2.1
    ·exact(I8.pin (s2.heap.objs.size,_) (List.mem_append_right _ (List.mem_append_left _ (List.mem_append_right _ (List.mem_singleton.mpr rfl))))).2.1
    ·exact(I8.pin (s2.heap.objs.size,_) (List.mem_append_right _ (List.mem_append_left _ (List.mem_append_right _ (List.mem_singleton.mpr rfl))))).1
   cases b with
   |false=>
    rw[if_neg Bool.false_ne_true]at q7 ⊢
    obtain⟨m',hm,w7⟩:=q7
    obtain⟨a1,a2,a3,a4⟩:=keepT I7
    exact⟨m',hm,i+1,τ6,vs,H7,its,k,l6,I7.unpinned.unpinned,a1,a2,a3,a4,hv',w7⟩
   |true=>
    rw[if_pos rfl]at q7 ⊢
    refine thn (he C s2 H2 fp I2 (fun b hb=>(f2 b hb).2.2.2.2.1) _ s7 _ H7 _ I7 q7) fun u8 s8 ⟨v8,H8,I8,r8,m',hm,w8⟩=>?_
    obtain⟨a1,a2,a3,a4⟩:=keepT I8
    refine wpAny_list_append_plain (items:=its.toArray) ⟨k,a4⟩ (fun h9 pl sb=>?_) (by rw[List.size_toArray,←hv'.length];exact Nat.le_of_lt hlen)
    obtain⟨k9,e9⟩:=pl
    have ne:∀b∈fp,b≠s2.heap.objs.size:=fun b hb=>Nat.ne_of_lt (fpD b hb)
    have I9:Inv (cxCompE X (M++frees) scope C s2 H2 fp XE) pins (τ6++outs σ idx) H8 {s8 with heap:=h9} :=
     I8.unpinned.unpinned.turned (t':=s8.toks) (fun b o hb e=>(sb.2 b hb).trans e) a3 hDC (.inr (Nat.le_refl _)) (fun y c e=>Dcell y c (look y c e)) Dpin
    refine⟨m',hm,i+1,τ6,vs++[v8],H8,its++[u8],k9,l6,I9,T.keep _ _ _ a1 fun b hb o e=>(sb.2 b (ne b hb)).trans e,a2,a3,?_,hv'.snoc r8,w8⟩
    rw[List.push_toArray]at e9
    exact e9
 exact codeAny_compStart_list (loop _ rfl) (T.self _ 0 _ _ _ (T.keep _ _ _ st2 fun b _ o e=>old b o e) (loop _ rfl))
theorem pe_lcompM {X:Cx}{elt iter tg:Expr}{M:List Str}{g:TG}{pos:Pos}{ifs:List Expr}{scope:Scope}{frees:List Str}{idx:List Nat}{wi:TI}{tt:TT}{te:TE}
  {qt:Cx→Prop} (hc:∀C s₀ H₀ ex,qt (cxComp X (M++frees) scope C s₀ H₀ ex)) (S:CompScopeM X frees idx scope) (hfl:∀y∈frees,scope.names.lookup y=some .free) (hi:PIQ qt X tg iter wi) (hg:∀C s₀ H₀ ex,PG (cxComp X (M++frees) scope C s₀ H₀ ex) tg g)
  (ht:∀C s₀ H₀ ex,PTs (cxComp X (M++frees) scope C s₀ H₀ ex) ifs tt) (he:∀C s₀ H₀ ex,PE (cxComp X (M++frees) scope C s₀ H₀ ex) elt te)
  (hs:∀v,foldedSetIterable iter X.env v=pure v:=by intro _;rfl):PE X (.ListComp elt [⟨tg,iter,ifs,0⟩] scope pos) (tCompM M.length idx wi g tt te):=by
 intro pins s σ H Q I h
 rw[eval_ListComp]
 exact comp_core (M:=M) (g:=g) (XE:=noX) (use:=none) (Q':=EP X pins σ Q) (fun C s₀ H₀ ex=>by rw[cxE_no];exact hc C s₀ H₀ ex) S hfl hi (fun C s₀ H₀ ex=>by rw[cxE_no];exact hg C s₀ H₀ ex) (fun C s₀ H₀ ex=>by rw[cxE_no];exact ht C s₀ H₀ ex) (fun C s₀ H₀ ex _ _=>by rw[cxE_no];exact he C s₀ H₀ ex) hs I h (fun _ _ _ _ _ _ _ _ _ _ _ (z:False)=>z.elim) fun D C H' m4 s4 hn hJ _ _ _ _ _ _ q=>by
  show ∃m,s4.heap.Ns C m∧∀h',Heap.SameBut C s4.heap h'→EP X pins σ Q (.ref D) {s4 with heap:=h'}
  exact⟨m4,hn,fun h' hsb=>⟨.ref D,H',hJ h' hsb,rfl,q⟩⟩
theorem compW_M {J:It}{tt:TT}{te:TE}{σ':St}{Q:VK}{H1:Hp}:CompWM 1 J (gName 0) tt te σ' Q H1=CompW J tt te σ' Q H1:=by
 refine propext ⟨fun⟨W,h0,h⟩=>⟨W,h0,fun i m vs H2 w=>?_⟩,fun⟨W,h0,h⟩=>⟨W,h0,fun i m vs H2 w=>?_⟩⟩
 ·obtain⟨l,h⟩:=h i m vs H2 w
  exact⟨l,h.imp id fun⟨go,st⟩=>⟨go,fun x H3 y=>(st [none] x H3 rfl y).2⟩⟩
 ·obtain⟨l,h⟩:=h i m vs H2 w
  refine⟨l,h.imp id fun⟨go,st⟩=>⟨go,fun τ x H3 lτ y=>?_⟩⟩
  match τ,lτ with
  |[o],_=>exact⟨⟨[some x],rfl,rfl⟩,st x H3 y⟩
theorem tComp_M {idx:List Nat}{wi:TI}{tt:TT}{te:TE}:tCompM 1 idx wi (gName 0) tt te=tComp idx wi tt te:=by
 funext σ H Q
 unfold tCompM tComp
 exact congrArg (wi σ H) (funext fun J=>funext fun H1=>compW_M)
theorem pe_lcomp {X:Cx}{elt iter:Expr}{x:Str}{px pos:Pos}{ifs:List Expr}{scope:Scope}{frees:List Str}{idx:List Nat}{wi:TI}{tt:TT}{te:TE}
  {qt:Cx→Prop} (hc:∀C s₀ H₀ ex,qt (cxComp X (x::frees) scope C s₀ H₀ ex)) (S:CompScope X x frees idx scope) (hfl:∀y∈frees,scope.names.lookup y=some .free) (hi:PIQ qt X (.Name x px) iter wi)
  (ht:∀C s₀ H₀ ex,PTs (cxComp X (x::frees) scope C s₀ H₀ ex) ifs tt) (he:∀C s₀ H₀ ex,PE (cxComp X (x::frees) scope C s₀ H₀ ex) elt te)
  (hs:∀v,foldedSetIterable iter X.env v=pure v:=by intro _;rfl):PE X (.ListComp elt [⟨.Name x px,iter,ifs,0⟩] scope pos) (tComp idx wi tt te):=by
 have h:=pe_lcompM (M:=[x]) (g:=gName 0) (pos:=pos) hc ⟨S.kind,S.nocell,S.loc,S.fr,S.ix,S.len,S.cl⟩ hfl hi (fun C s₀ H₀ ex=>pg_name (i:=0) S.nd rfl (.inl (lookup_relabel_local S.tgt)) (.inr (lookup_relabel_local S.tgt))) ht he hs
 exact tComp_M ▸ h
section
variable {X:Cx}
theorem call_isi:CallR X (.builtin "isinstance") (fun xs H Q=>∃x t T b,xs=[x, .ty T]∧TyOf X.K H x t∧PySem.W.kitOne X.K t (.type T)=some b∧Q (.bl b) H):=by
 intro pins s σ H xs us Q I r h
 obtain⟨x,t,T,b,rfl,ty,e,q⟩:=h
 obtain⟨u,w',rfl,rx,ry⟩:=vals2 r
 cases(show w'=Value.type T from ry)
 exact isinst_ok I rx ty e fun tk=>⟨.bl b,H,I.tok tk,rfl,q⟩
theorem sl_str:SlR X (fun x lo hi H Q=>∃z,x=.str z∧z.length≤sizeLine∧Q (.str (Txt.slice z lo hi)) H):=by
 intro pins s σ H x v vl vu lo hi sl Q I rx hs pl pu h
 obtain⟨z,rfl,hz,q⟩:=h
 obtain⟨t,rfl⟩:=rx
 refine⟨"str",_,F.slot_str_getitem.lookup,typeIs_str _ _ _,?_⟩
 have fin:∀l u:Option (Int×Tok),vl=partValue l→vu=partValue u→l.map (·.1)=lo→u.map (·.1)=hi→wpAny (model X.prog X.w) X.A (getItem (.str z t) (.ref sl)) (EP X pins σ Q) X.xe s:=fun l u e1 e2 e3 e4=>by
  subst e1 e2 e3 e4
  refine wpAny_getItem_str_slice (l:=l) (u:=u) (st:=none) hs rfl (post_val_or_str ⟨Nat.le_trans (Txt.slice_le z _ _) hz,fun t' k=>⟨.str _,H,I.tok k,⟨t',rfl⟩,q⟩⟩)
 cases pl<;>cases pu<;>first
  |exact fin none none rfl rfl rfl rfl
  |exact fin none (some (_,_)) rfl rfl rfl rfl
  |exact fin (some (_,_)) none rfl rfl rfl rfl
  |exact fin (some (_,_)) (some (_,_)) rfl rfl rfl rfl
theorem mt_startswith:MtR X "str.startswith" (fun x xs H Q=>∃z y,x=.str z∧xs=[.str y]∧Q (.bl (Txt.startswith z y)) H):=by
 intro pins s σ H x xs v us Q I rx rs h
 obtain⟨z,y,rfl,rfl,q⟩:=h
 obtain⟨t,rfl⟩:=rx
 obtain⟨u,rfl,t',rfl⟩:=vals1 rs
 exact SC.startswith ⟨.bl _,H,I,rfl,q⟩
theorem vals_strValues:∀l:List (Str×Tok),Vals ((l.map (·.1)).map V.str) (strValues l)
 |[]=>.nil
 |(x,t)::r=>.cons ⟨t,rfl⟩ (vals_strValues r)
theorem mt_split:MtR X "str.split" (fun x xs H Q=>∃z y,x=.str z∧xs=[.str y]∧z.length≤sizeLine∧1≤y.length∧(Txt.split z y).length≤sizeLine∧∀l,H l=none→Q (.ref l) (upd H l (.lst ((Txt.split z y).map V.str)))):=by
 intro pins s σ H x xs v us Q I rx rs h
 obtain⟨z,y,rfl,rfl,hz,hy,hn,q⟩:=h
 obtain⟨t,rfl⟩:=rx
 obtain⟨u,rfl,t',rfl⟩:=vals1 rs
 have hy':(y.length==0)=false:=by simp;exact Nat.ne_of_gt hy
 have fin:∀(l:List (Str×Tok)) (k:Nat),l.map (·.1)=Txt.split z y→EP X pins σ Q (.ref s.heap.objs.size) {s with toks:=k,heap:=s.heap.push {cls:=.type "list",data:=.seq (strValues l).toArray}}:=fun l k e=>by
  have hv:=vals_strValues l
  rw[e]at hv
  refine⟨.ref s.heap.objs.size,_,I.lnew (t':=k) hv (by rw[List.length_map];exact hn),rfl,q _ I.fresh⟩
 cases h1:(decide (z.length<y.length)||decide (Builtin.Str.strKind z<Builtin.Str.strKind y))
 ·cases hf:(Builtin.Str.occurrences z y 0 z.length (z.length+1)).isEmpty
  ·have e:Txt.split z y=Builtin.Str.partsBetween z (Builtin.Str.occurrences z y 0 z.length (z.length+1)) y.length:=(if_neg (ne_true_of_eq_false h1)).trans (if_neg (ne_true_of_eq_false hf))
   refine call_meets F.slot_str_split (typeIs_str _ _ _) F.entry_str_split (F.args_str_split_2 _ _) (meets_str_split_sep z y t t' h1 hy' hf hz (by rw[←e];exact hn)) ?_
   show EP X pins σ Q _ {s with toks:=_,heap:=s.heap.push {cls:=.type "list",data:=.seq (strsFrom s.toks (Builtin.Str.partsBetween z (Builtin.Str.occurrences z y 0 z.length (z.length+1)) y.length)).toArray}}
   rw[strsFrom_eq]
   exact fin (numbered s.toks _) _ ((numbered_texts _ _).trans e.symm)
  ·exact call_meets F.slot_str_split (typeIs_str _ _ _) F.entry_str_split (F.args_str_split_2 _ _) (meets_str_split_not_found z y t t' h1 hy' hf) (fin [(z,t)] s.toks ((if_neg (ne_true_of_eq_false h1)).trans (if_pos hf)).symm)
 ·exact call_meets F.slot_str_split (typeIs_str _ _ _) F.entry_str_split (F.args_str_split_2 _ _) (meets_str_split_cannot_occur z y t t' h1) (fin [(z,t)] s.toks (if_pos h1).symm)
end
def compOk (osc:Scope)(N:List Str)(x:Str)(frees:List Str)(idx:List Nat)(scope:Scope):Bool :=
 scope.kind==.function&&(scope.names.all (fun y=>y.2 !=.cell)&&(scope.names.all (fun y=>y.2 !=.local||scope.names.lookup y.1==some .local)&&(scope.names.all (fun y=>y.2 !=.free||(osc.names.lookup y.1==some .cell||osc.names.lookup y.1==some .free))&&
 (scope.names.lookup x==some .local&&(decide (x::frees).Nodup&&(idx.length==frees.length&&((idx.zip frees).all (fun p=>N[p.1]?==some p.2)&&frees.all (fun y=>scope.names.lookup y==some .free))))))))
theorem zip_get {α β:Type}{l:List α}{r:List β}{j:Nat}{y:β}(e:l.length=r.length)(h:r[j]?=some y):∃k,l[j]?=some k∧(k,y)∈l.zip r:=by
 induction l generalizing r j with
 |nil=>cases r with
  |nil=>simp at h
  |cons=>cases e
 |cons a l ih=>cases r with
  |nil=>cases e
  |cons b r=>cases j with
   |zero=>cases h;exact⟨a,rfl,by simp⟩
   |succ j=>
    obtain⟨k,h1,h2⟩:=ih (j:=j) (Nat.succ.inj e) h
    exact⟨k,h1,List.mem_cons_of_mem _ h2⟩
theorem compOk_scope {X:Cx}{osc:Scope}{N:List Str}{x:Str}{frees:List Str}{idx:List Nat}{scope:Scope}(h:compOk osc N x frees idx scope=true)(ho:X.env.scope=osc)(hN:X.N=N):
  CompScope X x frees idx scope∧∀y∈frees,scope.names.lookup y=some .free:=by
 unfold compOk at h
 simp only[Bool.and_eq_true,List.all_eq_true,Bool.or_eq_true,bne_iff_ne,beq_iff_eq,decide_eq_true_eq]at h
 obtain⟨h1,h2,h3,h4,h5,h6,h7,h8,h9⟩:=h
 have fl:∀y∈frees,scope.names.lookup y=some .free:=fun y hy=>h9 y hy
 refine⟨⟨h1,h2,fun y hy e=>?_,h5,h6,fun y hy e=>?_,fun j y hj=>?_,h7,fun y hy=>mem_of_lookup' (fl y hy)⟩,fl⟩
 ·rcases h3 y hy with q|q
  ·exact absurd e q
  ·exact q
 ·have q:osc.names.lookup y.1=some .cell∨osc.names.lookup y.1=some .free:=by
   rcases h4 y hy with q|q
   ·exact absurd e q
   ·exact q
  rw[←ho]at q
  exact q
 ·obtain⟨k,e1,e2⟩:=zip_get h7 hj
  exact⟨k,e1,by rw[hN];exact h8 (k,y) e2⟩
theorem pe_lc {X:Cx}{elt iter:Expr}{x:Str}{px pos:Pos}{ifs:List Expr}{scope:Scope}{wi:TI}{tt:TT}{te:TE}(osc:Scope)(N:List Str)(frees:List Str)(idx:List Nat)
  (hk:compOk osc N x frees idx scope=true) (hi:PI X (.Name x px) iter wi)
  (ht:∀C s₀ H₀ ex,PTs (cxComp X (x::frees) scope C s₀ H₀ ex) ifs tt) (he:∀C s₀ H₀ ex,PE (cxComp X (x::frees) scope C s₀ H₀ ex) elt te)
  (ho:X.env.scope=osc:=by rfl) (hN:X.N=N:=by rfl) (hc:X.calm=true:=by rfl) (hs:∀v,foldedSetIterable iter X.env v=pure v:=by intro _;rfl):PE X (.ListComp elt [⟨.Name x px,iter,ifs,0⟩] scope pos) (tComp idx wi tt te):=by
 obtain⟨S,fl⟩:=compOk_scope (X:=X) hk ho hN
 exact pe_lcomp (qt:=Calm) (fun _ _ _ _=>hc) S fl hi ht he hs
def Nx (n i:Nat)(p:Prop):Prop:=∃m',m'<n-i∧m'=n-(i+1)∧i+1≤n∧p
theorem nx {n i:Nat}{p:Prop}(h:i<n)(q:p):Nx n i p:=⟨n-(i+1),by omega,rfl,h,q⟩
theorem comp_range {lo:Int}{n:Nat}{tt:TT}{te:TE}{σ':St}{Q:VK}{H:Hp}(Pv:Nat→List V→Hp→Prop)(h0:Pv 0 [] H)(hlen:∀i vs H2,i≤n→Pv i vs H2→vs.length<sizeLine)
  (hs:∀i vs H2,i<n→Pv i vs H2→tt (some (.int (lo+i))::σ') H2 fun b H4=>if b=true then te (some (.int (lo+i))::σ') H4 fun v H5=>Nx n i (Pv (i+1) (vs++[v]) H5) else Nx n i (Pv (i+1) vs H4))
  (hd:∀vs H2,Pv n vs H2→∀l,H2 l=none→Q (.ref l) (upd H2 l (.lst vs))):CompW (Itr lo n) tt te σ' Q H:=by
 refine⟨fun i m vs H=>m=n-i∧i≤n∧Pv i vs H,⟨n,by simp,Nat.zero_le _,h0⟩,?_⟩
 rintro i m vs H2 ⟨rfl,hi,p⟩
 refine⟨hlen i vs H2 hi p,?_⟩
 by_cases hlt:i<n
 ·refine .inr ⟨hlt,?_⟩
  rintro v H3 ⟨rfl,rfl⟩
  exact hs i vs H3 hlt p
 ·have e:i=n:=by exact Nat.le_antisymm hi (Nat.not_lt.mp hlt)
  subst e
  exact .inl ⟨Nat.le_refl _,hd vs H2 p⟩
section
variable {X:Cx}{pins:List (Addr×Obj)}{σ:St}{H:Hp}{s:Shared}
end
theorem noFill_tuple_mul:fillsNumberSlot (.type "tuple") "mul"=pure false :=
 PySem.fillsNumberSlot_seq (id:="tuple.__mul__") (r:=some (.builtin "tuple.__rmul__")) PySem.F.slot_tuple_mul.lookup (by decide+kernel) PySem.F.slot_tuple_rmul.lookup (by decide+kernel)
theorem repeat_tuple:seqRepeat? (.type "tuple")=pure (some (.builtin "tuple.__mul__")):=by
 unfold seqRepeat?
 rw[PySem.seqSlot_of (T:="tuple") (name:="__mul__") (id:="tuple.__mul__") PySem.F.slot_tuple_mul.lookup (by decide+kernel),PySem.seqSlot_of (T:="tuple") (name:="__rmul__") (id:="tuple.__rmul__") PySem.F.slot_tuple_rmul.lookup (by decide+kernel)]
 rfl
theorem int_rmul_tuple (a:Int)(t:Tok)(l:Addr)(items:Array Value)(n:Nat)(dd:Option Addr)(sl:Array (Option Value)):
  Meets (Builtin.«int.__rmul__» ⟨[.int a t, .ref l],[]⟩) (fun _ R s=>s.heap.get? l=some {cls:=.type "tuple",dict:=dd,data:=.seq items n,slots:=sl}∧R (.ok (.ret Value.notImplemented)) s) :=
 .of_wp fun prog w A R s h=>by obtain⟨hp,g,d,tk,os⟩:=s;obtain⟨hl,h⟩:=h;have f1:=PySem.F.sub_int_tuple;wp_walk using wpAny_loadPart' hl;exact⟨_,rfl,h⟩
theorem tuple_mul (l:Addr)(items:Array Value)(n:Nat)(dd:Option Addr)(sl:Array (Option Value))(k:Nat)(u:Tok)(hk:2≤k)(hk2:k≤1000)(he:items.isEmpty=false)(hz:items.size*k≤100000):
  Meets (Builtin.«tuple.__mul__» ⟨[.ref l, .int (k:Int) u],[]⟩) (fun _ R s=>s.heap.get? l=some {cls:=.type "tuple",dict:=dd,data:=.seq items n,slots:=sl}∧
   R (.ok (.ret (Value.ref s.heap.objs.size))) {s with heap:=s.heap.push {cls:=Value.type "tuple",data:=Data.seq (List.foldl (fun x1 x2=>x1++x2) #[] (List.replicate (k:Int).toNat items))},toks:=s.toks}) :=
 .of_wp fun prog w A R s h=>by
  obtain⟨hp,g,d,tk,os⟩:=s;obtain⟨hl,h⟩:=h
  have f1:=AutoSeq1.idx_int
  have f2:=AutoSeq1.sub_tuple_tuple
  have hs:((items.size:Int)*(k:Int))≤100000:=by
   have q:((items.size*k:Nat):Int)≤((100000:Nat):Int):=Int.ofNat_le.mpr hz
   rw[Int.natCast_mul]at q
   exact q
  have c1:(decide ((k:Int)< -2^63)||decide ((k:Int)≥2^63))=false:=by
   rw[decide_eq_false (by omega),decide_eq_false (by omega)];rfl
  have c2:(items.isEmpty||(k:Int)==1)=false:=by
   rw[he,Bool.false_or]
   exact beq_false_of_ne (by omega)
  have c3:(decide ((k:Int)≤0)||items.isEmpty)=false:=by
   rw[he,decide_eq_false (by omega)];rfl
  have c4:decide ((items.size:Int)*(k:Int)>(2^63-1) / 8)=false:=decide_eq_false (by omega)
  have c5:Builtin.Tuple.tupleTooMany ((items.size:Int)*(k:Int))=false:=by
   unfold Builtin.Tuple.tupleTooMany
   have:(100000:Int)≤((sizeLine:Nat):Int):=by decide
   exact decide_eq_false (by omega)
  wp_walk using wpAny_loadPart' hl
  refine wpAny_ite_false (decide_eq_false (by rw[c1];exact Bool.false_ne_true)) ?_
  wp_walk using wpAny_loadPart' hl
  refine wpAny_ite_false (decide_eq_false (by rw[c2];exact Bool.false_ne_true)) ?_
  refine wpAny_ite_false (decide_eq_false (by rw[c3];exact Bool.false_ne_true)) ?_
  refine wpAny_ite_false c4 ?_
  refine wpAny_ite_false (decide_eq_false (by rw[c5];exact Bool.false_ne_true)) ?_
  have hsz:(List.foldl (fun x1 x2=>x1++x2) #[] (List.replicate (k:Int).toNat items)).size≤sizeLine:=by
   have q:=foldl_rep items.toList (k:Int).toNat []
   have e:(List.foldl (fun x1 x2=>x1++x2) #[] (List.replicate (k:Int).toNat items))=(List.replicate k items.toList).flatten.toArray:=by simpa using q
   rw[e,List.size_toArray,len_rep,Array.length_toList]
   have:(100000:Nat)≤sizeLine:=by decide
   have z:=Nat.mul_comm k items.size
   omega
  wp_walk
  refine wpAny_ite_false (decide_eq_false (Nat.not_lt.mpr hsz)) ?_
  wp_walk
  exact⟨_,rfl,h⟩
section
variable {X:Cx}
theorem op_repT:OpR X (binaryOp .Mult) (fun x y H Q=>∃(a:Addr) (xs:List V) (k:Nat),x=.ref a∧y=.int k∧SqT X.K H a xs∧xs≠[]∧2≤k∧k≤1000∧xs.length*k≤100000∧∀p,H p=none→Q (.ref p) (upd H p (.tup (List.replicate k xs).flatten))):=by
 intro pins s σ H x y v u Q I rx ry h
 obtain⟨a,xs,k,rfl,rfl,hq,hne,hk,hk2,hz,q⟩:=h
 cases rx
 obtain⟨t,rfl⟩:=ry
 obtain⟨its,r,ht,hzz⟩:=I.tuple hq
 obtain⟨⟨cls,dd,data,sl⟩,ho,hc,n,hd⟩:=id ht
 simp only at hc hd
 subst hc hd
 have hl:=r.length
 have he:its.toArray.isEmpty=false:=by
  cases its with
  |nil=>rw[List.length_nil]at hl;exact absurd (List.length_eq_zero_iff.mp hl) hne
  |cons b c=>rfl
 refine wpAny_binaryOp_repeat_ref (T:="tuple") (U:="int") (by decide) ⟨_,ho,rfl⟩ (fun s'=>typeIs_int s' k t) noFill_tuple_mul PySem.F.fills_int_mul PySem.F.slot_int_rmul repeat_tuple PySem.F.slot_int_index.lookup
  (call_meets PySem.F.slot_int_rmul (typeIs_int s k t) PySem.F.entry_int_rmul (PySem.F.args_int_rmul_2 _ _) (int_rmul_tuple k t a its.toArray n dd sl)
   ⟨ho,rfl,⟨_,ho,rfl⟩,call_meets PySem.F.slot_tuple_mul ⟨_,ho,rfl⟩ PySem.F.entry_tuple_mul (PySem.F.args_tuple_mul_2 _ _) (tuple_mul a its.toArray n dd sl k t hk hk2 he (by rw[List.size_toArray,←hl];exact hz)) ⟨ho,?_⟩⟩)
 have e:(List.foldl (fun x1 x2=>x1++x2) #[] (List.replicate (k:Int).toNat its.toArray))=(List.replicate k its).flatten.toArray:=by
  have q:=foldl_rep its (k:Int).toNat []
  simpa using q
 rw[e]
 have hlen:(List.replicate k xs).flatten.length≤sizeLine:=by
  rw[len_rep]
  have:(100000:Nat)≤sizeLine:=by decide
  have z:=Nat.mul_comm k xs.length
  exact Nat.le_trans (Nat.le_of_eq z) (Nat.le_trans hz (by decide))
 have I2:Inv X pins σ (upd H s.heap.objs.size (.tup (List.replicate k xs).flatten)) {s with heap:=s.heap.push {cls:=.type "tuple",data:=.seq (List.replicate k its).flatten.toArray}} :=
  I.laid (t':=s.toks) (fun b o e=>Heap.get?_push_of_some _ e) (Nat.le_refl _) (show ObjOk X.prog X.w _ _ _ (.tup (List.replicate k xs).flatten) from⟨hlen,_,r.rep k,IsTup.new _ _⟩)
 exact⟨.ref s.heap.objs.size,_,I2,rfl,q _ I.fresh⟩
end
section
variable {X:Cx}
end
def objO (a:Addr)(o:Obj):HO:=.ext fun h=>h.get? a=some o
section
variable {P:Program}{w:World}{H H':Hp}{h h':Heap}{a b c:Addr}{o:Obj}
theorem objO_ok (e:h.get? a=some o):ObjOk P w H h a (objO a o):=⟨e,⟨o,e⟩,fun h1 h2 q k=>k o q⟩
theorem objO_at (ok:HOk P w H h)(q:H a=some (objO a o)):h.get? a=some o:=(ok a _ q).1
end
def tCallV (X:Cx)(i:Nat)(t:TA):TE:=fun σ H Q=>∃(f:Addr) (o:Obj) (fd fd':FuncData) (ps:List Str) (sp:Sp) (k:Nat),σ[i]?=some (some (.ref f))∧H f=some (objO f o)∧o.data=.func fd'∧Room k X.A∧
 FnOk X.prog X.w X.K X.mg X.base CX0 k f fd ps sp∧Binds X.K fd ps []∧t σ H fun vs H1=>H1 f=some (objO f o)∧sp vs H1 Q E0
theorem pe_callF {X:Cx}{i:Nat}{x:Str}{p pos:Pos}{e:Expr}{es:List Expr}{t:TA}(hv:PE X (.Name x p) (tVar i))(ha:PA X (e::es) t)
  (he:starEach (e::es) X.env=(false,eval e X.env)::starEach es X.env:=by rfl) (hpl:(backTo pos (starEach es X.env)).any (·.1)=false:=by rfl):PE X (.Call (.Name x p) (e::es) [] pos) (tCallV X i t):=by
 intro pins s σ H Q I h
 obtain⟨f,o,fd,fd',ps,sp,k,e1,e2,e3,hr,F,hb,h⟩:=h
 refine wpAny_Call_Name_kw (thn (hv pins s σ H (fun v H1=>v=.ref f∧H1=H) I ⟨_,e1,rfl,rfl⟩) fun u s1 ⟨v,H1,I1,r1,q1,q2⟩=>?_)
 subst q1 q2
 obtain rfl:u=Value.ref f:=r1
 have at_:∀{H:Hp} {s:Shared},Inv X pins σ H s→H f=some (objO f o)→PySem.W.FnAt f s.heap:=fun I q=>by
  have e:=objO_at I.hok q
  obtain⟨oc,od,dt,sl⟩:=o
  have e3':dt=.func fd':=e3
  subst e3'
  exact⟨oc,od,fd',sl,e⟩
 refine PySem.W.callWith_F (at_ I1 e2) (thn (ha pos pins s1 σ H1 _ I1 h) fun us s2 ⟨vs,H2,I2,r,q,q2⟩=>⟨at_ I2 q,?_⟩) he hpl
 exact run_fn (dvs:=[]) F hr hb .nil pass0 I2 r (by rw[List.append_nil];exact q2)
theorem lookup_ndV:∀{l:List (Str×Value)} {x:Str} {u:Value},(l.map (·.1)).Nodup→(x,u)∈l→l.lookup x=some u
 |[],_,_,_,h=>by cases h
 |(n,v)::r,x,u,nd,h=>by
  rw[List.map_cons,List.nodup_cons]at nd
  rw[List.lookup_cons]
  rcases List.mem_cons.mp h with e|e
  ·cases e;simp
  ·have ne:¬x=n:=fun z=>nd.1 (z ▸ List.mem_map_of_mem (f:=(·.1)) e)
   have:(x==n)=false:=by simpa using ne
   rw[this]
   exact lookup_ndV nd.2 e
def BMain (mg:Str→Option Value)(h:Heap):Prop:=∃bm ob,mg "__builtins__"=some (.ref bm)∧bm≠builtinsNs∧h.get? bm=some ob∧ob.cls=.type "module"∧ob.dict=some builtinsNs∧ob.data=.plain
def CodeO (o:Obj)(qual:Str):Prop:=∃vs t,o.data=.fields vs∧vs[1]?=some (.str qual t)
def lamO (X:Cx)(params:Arguments)(body:Expr)(scope:Scope)(clos:List (Str×Addr))(c':Addr)(ctv:Value):Obj:=PySem.W.kla_obj "<lambda>" (X.env.qual++"<lambda>") params body scope clos ((X.mg "__name__").getD .none) c' ctv
def tLam (X:Cx)(P:Addr)(params:Arguments)(body:Expr)(scope:Scope)(clos:List (Str×Addr))(pos:Pos):TE:=fun σ H Q=>∃ps,H P=some (.tbl ps)∧TriplesOk ps.toList∧
 ((codeAmong pos ps.toList=none∧∀(f c':Addr) (oc:Obj) (ctv:Value),H c'=none→H f=none→c'≠f→CodeO oc (X.env.qual++"<lambda>")→
   Q (.ref f) (upd (upd (upd H P (.tbl (ps++#[rawInt pos.line,rawInt pos.col, .ref c']))) c' (objO c' oc)) f (objO f (lamO X params body scope clos c' ctv))))∨
  ∃c',codeAmong pos ps.toList=some (.ref c')∧∀(f:Addr) (ctv:Value),H f=none→Q (.ref f) (upd H f (objO f (lamO X params body scope clos c' ctv))))
section
variable {X:Cx}{P cp:Addr}{params:Arguments}{body:Expr}{scope:Scope}{clos:List (Str×Addr)}{pos:Pos}
theorem pe_lam (hcl:closureFor scope X.env=pure clos)(hcode:X.env.code=.ref cp)(C:PySem.W.CodeHd X.base cp P)(B:BMain X.mg X.base)(hdef:defaultsOf params X.env=([],[]):=by rfl):PE X (.Lambda params body scope pos) (tLam X P params body scope clos pos):=by
 intro pins s σ H Q I h
 obtain⟨ps,hH,ht,h⟩:=h
 have hP:s.heap.get? P=some (PySem.W.tabObj ps):=I.hok P _ hH
 have hgs:s.heap.Ns mainGlobals X.mg:=I.mod.glob.keeps I.bk
 have hgP:mainGlobals≠P:=fun q=>by
  obtain⟨o,es,ep,e,hd,_⟩:=hgs
  rw[q,hP]at e;cases e;cases hd
 obtain⟨bm,ob,b1,b2,b3,b4,b5,b6⟩:=B
 have hbo:=I.bk _ _ b3
 have hbP:bm≠P:=fun q=>by rw[q,hP]at hbo;cases hbo;cases b4
 have hbG:bm≠mainGlobals:=fun q=>by
  obtain⟨o,es,ep,e,hd,_⟩:=hgs
  rw[q,e]at hbo;cases hbo;rw[hd]at b6;cases b6
 have hLP:X.env.locals≠P:=fun q=>by have:=I.free;rw[q,hH]at this;cases this
 refine PySem.W.kla_eval hdef ?_
 rcases h with ⟨hnf,h⟩|⟨c',hf,h⟩
 ·refine PySem.W.kla_makeFunction (mg:=X.mg) hcl I.ok.glob hgs hcode (C.keeps I.bk) hP ht hnf hgP ⟨bm,ob,b1,b2,hbG,hbP,hbo,b4,b5,b6⟩ fun c' ctv h' tk hx hge hlt hrec htb=>?_
  obtain⟨c₂,oc,vs,t,e2,hoc,hd,hv⟩:=hrec
  cases e2
  have kp:∀b o,b≠P→s.heap.get? b=some o→(h'.push (lamO X params body scope clos c' ctv)).get? b=some o:=fun b o n e=>Heap.get?_push_of_some _ (hx b o n e)
  have nc:H c'=none:=I.hok.fresh hge
  have hsz:s.heap.objs.size≤h'.objs.size:=Nat.le_of_lt (Nat.lt_of_le_of_lt hge hlt)
  have nf:H h'.objs.size=none:=I.hok.fresh hsz
  have cf:c'≠h'.objs.size:=Nat.ne_of_lt hlt
  have cP:c'≠P:=fun q=>by rw[q,hH]at nc;cases nc
  have fP:h'.objs.size≠P:=fun q=>by rw[q,hH]at nf;cases nf
  have old:∀b o,s.heap.get? b=some o→b≠c'∧b≠h'.objs.size:=fun b o e=>⟨Nat.ne_of_lt (Nat.lt_of_lt_of_le (Heap.lt_size e) hge),Nat.ne_of_lt (Nat.lt_of_lt_of_le (Heap.lt_size e) hsz)⟩
  have trk:∀{b u},H b=some u→b≠c'∧b≠h'.objs.size:=fun e=>⟨ne_of_none e nc,ne_of_none e nf⟩
  have up:∀{b u},H b=some u→b≠P→(upd (upd (upd H P (.tbl (ps++#[rawInt pos.line,rawInt pos.col, .ref c']))) c' (objO c' oc)) h'.objs.size (objO h'.objs.size (lamO X params body scope clos c' ctv))) b=some u:=fun e n=>by
   rw[upd_ne (trk e).2,upd_ne (trk e).1,upd_ne n];exact e
  have atP:(upd (upd (upd H P (.tbl (ps++#[rawInt pos.line,rawInt pos.col, .ref c']))) c' (objO c' oc)) h'.objs.size (objO h'.objs.size (lamO X params body scope clos c' ctv))) P=some (.tbl (ps++#[rawInt pos.line,rawInt pos.col, .ref c'])):=by
   rw[upd_ne (Ne.symm fP),upd_ne (Ne.symm cP),upd_same]
  have un:Un X.fs [] H (upd (upd (upd H P (.tbl (ps++#[rawInt pos.line,rawInt pos.col, .ref c']))) c' (objO c' oc)) h'.objs.size (objO h'.objs.size (lamO X params body scope clos c' ctv))) s.heap (h'.push (lamO X params body scope clos c' ctv)):={
   keep:=fun b o e n _ _=>kp b o (fun q=>by rw[q,hH]at n;cases n) e
   slot:=fun b o e n _ _=>⟨o.slots,kp b o (fun q=>by rw[q,hH]at n;cases n) e⟩
   free:=fun b o e n _=>by
    rw[upd_ne (old b o e).2,upd_ne (old b o e).1,upd_ne (fun q=>by rw[q,hH]at n;cases n)];exact n
   there:=fun b o e _=>by
    by_cases z:b=P
    ·rw[z];exact⟨_,Heap.get?_push_of_some _ htb⟩
    ·exact⟨o,kp b o z e⟩
   tups:=fun b xs e=>up e (fun q=>by rw[q,hH]at e;cases e)
   frzs:=fun b o u e=>up e (fun q=>by rw[q,hH]at e;cases e)
   tbls:=fun b qs e=>by
    by_cases z:b=P
    ·rw[z,hH]at e;cases e;rw[z];exact⟨_,atP⟩
    ·exact⟨#[],by rw[up e z];simp⟩}
  refine⟨.ref h'.objs.size,_,I.un (t':=tk) un (fun b u e=>?_),rfl,h _ c' oc ctv nc nf cf ⟨vs,t,hd,hv⟩⟩
  by_cases z1:b=h'.objs.size
  ·subst z1
   rw[upd_same]at e;cases e
   exact objO_ok (Heap.get?_push_size _ rfl)
  ·rw[upd_ne z1]at e
   by_cases z2:b=c'
   ·subst z2
    rw[upd_same]at e;cases e
    exact objO_ok (Heap.get?_push_of_some _ hoc)
   ·rw[upd_ne z2]at e
    by_cases z3:b=P
    ·subst z3
     rw[upd_same]at e;cases e
     exact Heap.get?_push_of_some _ htb
    ·rw[upd_ne z3]at e
     refine(I.hok b u e).stay (fun d o hd' q=>kp d o ?_ q) (fun d r=>up r (fun q=>by rw[q,hH]at r;cases r)) fun d xs r=>up r (fun q=>by rw[q,hH]at r;cases r)
     rcases hd' with z|z
     ·rw[z];exact z3
     ·intro q;rw[q,hH]at z;cases z
 ·refine PySem.W.kla_makeFunctionHit (mg:=X.mg) hcl I.ok.glob hgs hcode (C.keeps I.bk) hP ht hf ⟨bm,ob,b1,b2,hbG,hbP,hbo,b4,b5,b6⟩ fun ctv h' tk hk hsz=>?_
  exact⟨.ref h'.objs.size,_,I.laid (a:=h'.objs.size) (t':=tk) (fun b u e=>Heap.get?_push_of_some _ (hk b u e)) hsz (objO_ok (Heap.get?_push_size _ rfl)),rfl,h _ ctv (I.hok.fresh hsz)⟩
end
structure Grown (K:PySem.W.Frag)(mg:Str→Option Value)(base base':Heap):Prop where
 ext:∀b o,base.get? b=some o→base'.get? b=some o
 mod:Mod K mg base'
theorem Grown.trans {K:PySem.W.Frag}{mg:Str→Option Value}{b0 b1 b2:Heap}(a:Grown K mg b0 b1)(b:Grown K mg b1 b2):Grown K mg b0 b2:=⟨fun x o e=>b.ext x o (a.ext x o e),b.mod⟩
theorem Mod.ext {K:PySem.W.Frag}{mg:Str→Option Value}{base base':Heap}(m:Mod K mg base)(k:∀b o,base.get? b=some o→base'.get? b=some o):Mod K mg base' :=
 let ⟨mb,h1,h2⟩:=m.blt
 ⟨m.kin.keeps k,m.glob.keeps k,⟨mb,h1.keeps k,h2⟩,m.nolimit.keeps k⟩
def CellsAt (h:Heap)(l:List (Addr×V)):Prop:=(∀p∈l,∃o u,h.get? p.1=some o∧o.data=.cell (some u)∧RelV p.2 u)∧(l.map (·.1)).Nodup
theorem funFrames_ext {h base base':Heap}:∀{l:List Env},h.FunFrames base l→(∀b∈frs l,base'.get? b=none)→h.FunFrames base' l
 |[],_,_=>trivial
 |e::l,⟨a,⟨L,o,hf,hn,ho,hd⟩,r⟩,k=>by
  have m:∀b,b∈frs l→b∈frs (e::l):=fun b hb=>by
   unfold frs at hb ⊢
   rw[List.filterMap_cons,hf]
   exact List.mem_cons_of_mem _ hb
  refine⟨a,⟨L,o,hf,k L ?_,ho,hd⟩,funFrames_ext r fun b hb=>k b (m b hb)⟩
  unfold frs
  rw[List.filterMap_cons,hf]
  exact List.mem_cons_self
theorem Env0.grow {P:Program}{w:World}{K:PySem.W.Frag}{mg:Str→Option Value}{base:Heap}{A:Around}{outer:List Env}{s:Shared}{H:Hp}(e:Env0 P w K mg base A outer s H)(cs:List Addr)
  (hc:∀c∈cs,(∃o,s.heap.get? c=some o)∧H c=none∧c∉frs outer):∃base',Grown K mg base base'∧Env0 P w K mg base' A outer s H∧∀c∈cs,base'.get? c=s.heap.get? c:=by
 let M:Hp:=fun b=>if(base.get? b).isSome=true∨b∈cs then none else some (.tbl #[])
 have hM:∀{b},M b=none→(∃o,base.get? b=some o)∨b∈cs:=fun{b} h=>by
  by_cases z:(base.get? b).isSome=true∨b∈cs
  ·exact z.imp (fun q=>Option.isSome_iff_exists.mp q) id
  ·rw[show M b=some (.tbl #[]) from if_neg z]at h;cases h
 have ext:∀b o,base.get? b=some o→(hidT s.heap M).get? b=some o:=fun b o q=>hidT_get (e.bs b o q).1 (if_pos (.inl (by rw[q];rfl)))
 have bs:∀b o,(hidT s.heap M).get? b=some o→s.heap.get? b=some o∧H b=none:=fun b o q=>by
  obtain⟨q1,q2⟩:=of_hidT q
  rcases hM q2 with ⟨o2,z⟩|z
  ·exact⟨q1,(e.bs b o2 z).2⟩
  ·exact⟨q1,(hc b z).2.1⟩
 refine⟨hidT s.heap M,⟨ext,e.mod.ext ext⟩,⟨e.frames,e.mod.ext ext,bs,Nat.le_of_eq (hidT_size _ _),funFrames_ext e.funs fun b hb=>?_,e.frf,e.hok,e.bare⟩,fun c h=>?_⟩
 ·cases q:(hidT s.heap M).get? b with
  |none=>rfl
  |some o=>
   rcases hM (of_hidT q).2 with ⟨o2,z⟩|z
   ·have:=(e.funs.mem hb).1
    rw[this]at z;cases z
   ·exact absurd hb (hc b z).2.2
 ·obtain⟨o,ho⟩:=(hc c h).1
  rw[ho]
  exact hidT_get ho (if_pos (.inr h))
section
variable {X:Cx}{σ:St}{H:Hp}{s:Shared}{pins:List (Addr×Obj)}
theorem run_fnZ {base':Heap}{k:Nat}{f:Addr}{fd:FuncData}{ps:List Str}{sp:Sp}{us:List Value}{vs:List V}{Q:VK}(F:FnOk X.prog X.w X.K X.mg base' CX0 k f fd ps sp)(hr:Room k X.A)(hb:Binds X.K fd ps [])(I:Inv X pins σ H s)
  (e0:Env0 X.prog X.w X.K X.mg base' X.A X.stack s H) (r:Vals vs us) (h:sp vs H Q E0):wpAny (model X.prog X.w) X.A (call (.ref f) us) (EP X pins σ Q) X.xe s:=by
 have hl:us.length=ps.length:=by rw[←r.length];exact F.len _ _ _ _ h
 have bt:BindsTo s fd ⟨us,[]⟩ (ps.zip us):=by
  have:=hb s us I.kIn (by rw[List.append_nil];exact hl)
  rw[List.append_nil]at this
  exact this
 refine wpAny_call (codeAny_mono (F.run X.A X.stack s H ⟨us,[]⟩ us vs Q E0 hr e0 bt r h) fun r s' hq=>?_)
 cases r with
 |error e=>exact pass0 pins σ H s e s' I hq
 |ok fl=>
  cases fl with
  |ret u=>exact I.after hq
  |next=>exact False.elim hq
  |brk=>exact False.elim hq
  |cont=>exact False.elim hq
def tCallZ (X:Cx)(cs:St→List (Addr×V))(sp:Heap→Sp)(t:TA):TE:=fun σ H Q=>t σ H fun vs H1=>∀base',Grown X.K X.mg X.base base'→CellsAt base' (cs σ)→sp base' vs H1 Q E0
def Lends (X:Cx)(cs:St→List (Addr×V)):Prop:=∀pins s σ H,Inv X pins σ H s→CellsAt s.heap (cs σ)∧∀p∈cs σ,H p.1=none∧p.1∉frs X.stack
theorem Lends.base {cs:St→List (Addr×V)}(L:Lends X cs)(I:Inv X pins σ H s):∃base',Grown X.K X.mg X.base base'∧Env0 X.prog X.w X.K X.mg base' X.A X.stack s H∧CellsAt base' (cs σ):=by
 obtain⟨c1,c2⟩:=L pins s σ H I
 obtain⟨base',g,e0,hc⟩:=I.env0.grow ((cs σ).map (·.1)) fun c h=>by
  obtain⟨p,hp,rfl⟩:=List.mem_map.mp h
  obtain⟨o,u,ho,_⟩:=c1.1 p hp
  exact⟨⟨o,ho⟩,c2 p hp⟩
 refine⟨base',g,e0,fun p hp=>?_,c1.2⟩
 rw[hc p.1 (List.mem_map_of_mem hp)]
 exact c1.1 p hp
theorem pe_callZ {k:Nat}{x:Str}{ps:List Str}{cs:St→List (Addr×V)}{sp:Heap→Sp}{p pos:Pos}{e:Expr}{es:List Expr}{t:TA}{f:Addr}{fd:FuncData}(L:Lends X cs)(F:∀base',Grown X.K X.mg X.base base'→FnOk X.prog X.w X.K X.mg base' CX0 k f fd ps (sp base'))
  (hb:Binds X.K fd ps []) (hk:PySem.W.keepIn X.K (.ref f)=true) (hm:X.mg x=some (.ref f)) (hr:Room k X.A) (hg:Gl X x) (ha:PA X (e::es) t)
  (hdb:(x==("__debug__":Str))=false:=by decide) (he:starEach (e::es) X.env=(false,eval e X.env)::starEach es X.env:=by rfl) (hpl:(backTo pos (starEach es X.env)).any (·.1)=false:=by rfl):
  PE X (.Call (.Name x p) (e::es) [] pos) (tCallZ X cs sp t):=by
 intro pins s σ H Q I h
 refine wpAny_Call_Name_kw (ld_glob I hg hm ?_ hdb)
 refine PySem.W.callWith_K (h₀:=X.base) I.ok.mod.kin hk (thn (ha pos pins s σ H _ I h) fun us s1 ⟨vs,H1,I1,r,q⟩=>⟨I1.kIn,?_⟩) he hpl
 obtain⟨base',g,e0,hc⟩:=L.base I1
 exact run_fnZ (F base' g) hr hb I1 e0 r (q base' g hc)
inductive tMethZ_ (X:Cx)(C:Addr)(m:Str)(cs:St→List (Addr×V))(sp:Heap→Sp)(t:TA)(σ:St)(Q:VK)(x:V)(H1:Hp):Prop where
 |mk (a dx:Addr) (fs:List (Str×V)):x=.ref a→H1 a=some (.ins C dx fs)→fs.lookup m=none→t σ H1 (fun vs H2=>∀base',Grown X.K X.mg X.base base'→CellsAt base' (cs σ)→sp base' (.ref a::vs) H2 Q E0)→tMethZ_ X C m cs sp t σ Q x H1
def tMethZ (X:Cx)(C:Addr)(m:Str)(cs:St→List (Addr×V))(sp:Heap→Sp)(ta:TE)(t:TA):TE:=fun σ H Q=>ta σ H (tMethZ_ X C m cs sp t σ Q)
theorem pe_methZ {k:Nat}{f C:Addr}{fd:FuncData}{m:Str}{ps:List Str}{cs:St→List (Addr×V)}{sp:Heap→Sp}{apos pos:Pos}{o e:Expr}{es:List Expr}{ta:TE}{t:TA}{pl:Sem Bool}(L:Lends X cs)(he:PE X o ta)(c:Cls X.K C)(hm:Meth X.K C m f)
  (F:∀base',Grown X.K X.mg X.base base'→FnOk X.prog X.w X.K X.mg base' CX0 k f fd ps (sp base')) (hr:Room k X.A) (hb:Binds X.K fd ps []) (ha:PA X (e::es) t)
  (hst:starEach (e::es) X.env=(false,eval e X.env)::starEach es X.env:=by rfl) (hpl:(backTo pos (starEach es X.env)).any (·.1)=false:=by rfl)
  (ht:eval (.Call (.Attribute o m apos) (e::es) [] pos) X.env=(do
   let ov ←eval o X.env
   standAt apos.atName
   let (f,first) ←holding [ov] (getMethod ov m pl)
   callWith pos f first (backTo pos (starEach (e::es) X.env)) (backToKw pos (keywordEach [] X.env))):=by rfl):
  PE X (.Call (.Attribute o m apos) (e::es) [] pos) (tMethZ X C m cs sp ta t):=by
 intro pins s σ H Q I h
 refine PySem.W.methodCall_KW (pl:=pl) (thn (he pins s σ H _ I h) fun u s1 ⟨x,H1,I1,rx,a,dx,fs,ex,ea,l,q⟩=>?_) ht
 subst ex
 obtain rfl:u=Value.ref a:=rx
 refine getmeth_ok I1 ea c hm l ?_
 refine PySem.W.callWith_K (first:=[.ref a]) (h₀:=X.base) I.ok.mod.kin hm.kp (thn (ha pos pins s1 σ H1 _ I1 q) fun us s2 ⟨vs,H2,I2,r,q2⟩=>⟨I2.kIn,?_⟩) hst hpl
 obtain⟨base',g,e0,hc⟩:=L.base I2
 exact run_fnZ (us:=.ref a::us) (vs:=.ref a::vs) (F base' g) hr hb I2 e0 (.cons rfl r) (q2 base' g hc)
theorem own_cell {pins:List (Addr×Obj)}{i:Nat}{y:Str}{c:Addr}{v:V}(I:Inv X pins σ H s)(hN:X.N[i]?=some y)(hy:X.env.scope.names.lookup y=some .cell)(hc:X.env.cells.lookup y=some c)(hfn:X.fn y=true)(e:σ[i]?=some (some v)):
  (∃o u,s.heap.get? c=some o∧o.data=.cell (some u)∧RelV v u)∧H c=none∧c∉frs X.stack:=by
 obtain⟨m,hn,hl⟩:=I.loc
 obtain⟨u,rv,l⟩:=hl i y v hN e (.inr (.inl hy))
 refine⟨?_,I.freeC y c hc,fun hb=>?_⟩
 ·rcases l with ⟨l1,_⟩|⟨_,c2,l2,o,ho,hd⟩
  ·have l1':X.env.scope.names.lookup y=some .local:=l1
   rw[hy]at l1';cases l1'
  ·rw[hc]at l2;cases l2;exact⟨o,u,ho,hd,rv⟩
 ·rcases List.mem_cons.mp (I.stkSub c hb) with z|z
  ·exact I.cne y c hc z
  ·obtain⟨_,o,ho',_⟩:=I.ok.funs.mem z
   exact Nat.lt_irrefl _ (Nat.lt_of_lt_of_le (Heap.lt_size ho') (I.ok.cab y c hfn hc))
def cellOf (i:Nat)(c:Addr):St→List (Addr×V):=fun σ=>match σ[i]? with
 |some (some v)=>[(c,v)]
 |_=>[]
theorem lends_one {i:Nat}{y:Str}{c:Addr}(hN:X.N[i]?=some y)(hy:X.env.scope.names.lookup y=some .cell)(hc:X.env.cells.lookup y=some c)(hfn:X.fn y=true):Lends X (cellOf i c):=by
 intro pins s σ H I
 unfold cellOf
 split
 ·next v e=>
  obtain⟨h1,h2⟩:=own_cell I hN hy hc hfn e
  exact⟨⟨fun p hp=>by rw[List.mem_singleton.mp hp];exact h1,by simp⟩,fun p hp=>by rw[List.mem_singleton.mp hp];exact h2⟩
 ·exact⟨⟨fun p hp=>(by cases hp),List.nodup_nil⟩,fun p hp=>(by cases hp)⟩
theorem lends_comp {N':List Str}{scope:Scope}{C:Addr}{s₀:Shared}{H₀:Hp}{ex:List Addr}{pins₀:List (Addr×Obj)}{σ₀:St}(fv:List (Str×Addr×V))(nd:(fv.map (·.1)).Nodup)(J:Inv X pins₀ σ₀ H₀ s₀)(nx:∀b∈ex,∀y c,X.env.cells.lookup y=some c→c≠b)
  (hl:∀q∈fv,∃(i:Nat),X.N[i]?=some q.1∧X.env.scope.names.lookup q.1=some .cell∧X.env.cells.lookup q.1=some q.2.1∧X.fn q.1=true∧σ₀[i]?=some (some q.2.2)):Lends (cxComp X N' scope C s₀ H₀ ex) fun _=>fv.map (·.2):=by
 intro pins s σ H I
 have key:∀p∈fv.map (·.2),(∃o u,s.heap.get? p.1=some o∧o.data=.cell (some u)∧RelV p.2 u)∧H p.1=none∧p.1∉frs X.stack:=fun p hp=>by
  obtain⟨q,hq,rfl⟩:=List.mem_map.mp hp
  obtain⟨i,h1,h2,h3,h4,h5⟩:=hl q hq
  obtain⟨⟨o,u,ho,hd,rv⟩,hn,hf⟩:=own_cell J h1 h2 h3 h4 h5
  have nex:q.2.1∉ex:=fun hb=>nx _ hb q.1 q.2.1 h3 rfl
  exact⟨⟨o,u,I.base.keep q.2.1 o ho hn hf nex,hd,rv⟩,I.base.free q.2.1 o ho hn nex,hf⟩
 refine⟨⟨fun p hp=>(key p hp).1,?_⟩,fun p hp=>(key p hp).2⟩
 rw[List.map_map]
 have nd':fv.Pairwise fun a b=>a.1≠b.1:=List.pairwise_map.mp nd
 refine List.pairwise_map.mpr (nd'.imp_of_mem fun{a b} ha hb ne z=>ne ?_)
 obtain⟨_,_,_,h3,_⟩:=hl a ha
 obtain⟨_,_,_,h3',_⟩:=hl b hb
 have z':a.2.1=b.2.1:=z
 exact J.ok.inj a.1 b.1 a.2.1 h3 (by rw[z'];exact h3')
end
structure ClosScope (N ps fr:List Str)(sc:Scope):Prop where
 kind:sc.kind=.function
 co:sc.isCoroutine=false
 gen:sc.isGenerator=false
 nd:(ps++fr).Nodup
 eq:N=ps++fr
 par:∀x∈ps,sc.names.lookup x=some .local
 frs:∀y∈fr,sc.names.lookup y=some .free
 nocell:∀z∈sc.names,z.2≠.cell
 only:∀z∈sc.names,z.2=.free→z.1∈fr
def cxClos (P:Program)(w:World)(K:PySem.W.Frag)(mg:Str→Option Value)(base:Heap)(N:List Str)(qual:Str)(scope:Scope)(f:Addr)(cd:Value)(cl:List (Str×Addr))(A:Around)(outer:List Env)(s:Shared)(H:Hp):Cx where
 prog:=P
 w:=w
 K:=K
 mg:=mg
 base:=base
 A:=A.deeper (PySem.W.envX qual scope s.heap.objs.size f cd cl)
 N:=N
 s₀:=s
 H₀:=H
 env:=PySem.W.envX qual scope s.heap.objs.size f cd cl
 outer:=outer
 stack:=PySem.W.envX qual scope s.heap.objs.size f cd cl::outer
 ex:=[]
 calm:=true
 fn:=fun _=>false
 pn:=[]
 xe:=fun _ _=>False
structure ClCells (base:Heap)(fr:List Str)(cl:List (Str×Addr))(vs:List V):Prop where
 len:vs.length=fr.length
 at_:∀(j:Nat) y v,fr[j]?=some y→vs[j]?=some v→∃c o u,cl.lookup y=some c∧base.get? c=some o∧o.data=.cell (some u)∧RelV v u
 look:∀y c,cl.lookup y=some c→y∈fr
 inj:∀y z c,cl.lookup y=some c→cl.lookup z=some c→y=z
theorem ClCells.get {base:Heap}{fr:List Str}{cl:List (Str×Addr)}{vs:List V}(h:ClCells base fr cl vs){y:Str}{c:Addr}(e:cl.lookup y=some c):∃o u,base.get? c=some o∧o.data=.cell (some u):=by
 obtain⟨j,hj,ej⟩:=List.mem_iff_getElem.mp (h.look y c e)
 have hv:vs[j]?=some (vs[j]'(by rw[h.len];exact hj)):=List.getElem?_eq_getElem _
 obtain⟨c',o,u,e1,e2,e3,_⟩:=h.at_ j y _ (by rw[List.getElem?_eq_getElem hj,ej]) hv
 rw[e]at e1
 cases e1
 exact⟨o,u,e2,e3⟩
theorem clos_start {P:Program}{w:World}{K:PySem.W.Frag}{mg:Str→Option Value}{base:Heap}{f:Addr}{cd:Value}{qual:Str}{scope:Scope}{N ps fr:List Str}{cl:List (Str×Addr)}{fvs vs:List V}{us:List Value}{A:Around}{outer:List Env}{s:Shared}{H:Hp}{h₁:Heap}{k t:Nat}
  (S:ClosScope N ps fr scope) (hc:ClCells base fr cl fvs) (hr:Room k A) (e0:Env0 P w K mg base A outer s H) (r:Vals vs us) (hl:vs.length=ps.length)
  (hns:h₁.Ns s.heap.objs.size (fun y=>(ps.zip us).reverse.lookup y)) (hk₁:∀b o,s.heap.get? b=some o→h₁.get? b=some o):
  Inv (cxClos P w K mg base N qual scope f cd cl A outer s H) [] (vs.map some++fvs.map some) H {s with heap:=h₁,toks:=t}:=by
 have hlu:us.length=ps.length:=by rw[←r.length];exact hl
 have hz:(ps.zip us).map (·.1)=ps:=List.map_fst_zip (by exact Nat.le_of_eq hlu.symm)
 have ndp:ps.Nodup:=(List.nodup_append.mp S.nd).1
 have noA:∀b:Addr,b∉([]:List Addr):=fun b z=>by cases z
 have cellK:∀{c:Addr} {o:Obj},base.get? c=some o→h₁.get? c=some o:=fun e=>hk₁ _ _ (e0.bs _ _ e).1
 refine⟨⟨e0.mod,S.kind,rfl,rfl,Nat.le_refl _,fun z1 z2 d q1 q2=>hc.inj z1 z2 d q1 q2,fun z hz'=>?_,(fun z d q=>(by cases q)),fun _=>hr.hd,Around.frames_deeper e0.frames, .inr ⟨rfl,rfl⟩,fun b z=>absurd z (noA b),e0.bs,e0.bsz,fun b _ _=>noA b,fun b z=>absurd z (noA b),e0.funs,e0.frf⟩,
  rfl,e0.bare,Un.kept hk₁,⟨_,hns,fun i x v' q1 q2 q3=>?_⟩,fun z d q=>?_,e0.hok.fresh (Nat.le_refl _),fun z d q=>?_,fun p hp=>absurd (show p∈([]:List (Addr×Obj)) from hp) (by simp),e0.hok.kept hk₁,?_⟩
 ·have hz'':scope.names.lookup z=some .cell∨scope.names.lookup z=some .free:=hz'
  rcases hz'' with q|q
  ·exact absurd rfl (S.nocell _ (PySem.mem_of_lookup q))
  ·have m:z∈fr:=S.only _ (PySem.mem_of_lookup q) rfl
   obtain⟨j,hj,ej⟩:=List.mem_iff_getElem.mp m
   obtain⟨c,_,_,e1,_⟩:=hc.at_ j z _ (by rw[List.getElem?_eq_getElem hj,ej]) (List.getElem?_eq_getElem (by rw[hc.len];exact hj))
   exact⟨c,e1⟩
 ·have q1':(ps++fr)[i]?=some x:=by rw[←S.eq];exact q1
  by_cases hi:i<ps.length
  ·rw[List.getElem?_append_left hi]at q1'
   rw[List.getElem?_append_left (by rw[List.length_map];exact Nat.lt_of_lt_of_eq hi hl.symm),List.getElem?_map]at q2
   cases ev:vs[i]? with
   |none=>rw[ev]at q2;cases q2
   |some v0=>
    rw[ev]at q2
    cases q2
    obtain⟨u',hu',rv'⟩:=r.get ev
    refine⟨u',rv', .inl ⟨S.par _ (List.mem_of_getElem? q1'),?_⟩⟩
    have hm:(x,u')∈ps.zip us:=List.mem_of_getElem? (i:=i) (by rw[List.getElem?_zip_eq_some];exact⟨q1',hu'⟩)
    exact lookup_ndV (by rw[List.map_reverse,hz];exact List.pairwise_reverse.mpr (ndp.imp fun h=>Ne.symm h)) (List.mem_reverse.mpr hm)
  ·rw[List.getElem?_append_right (by exact Nat.not_lt.mp hi)]at q1'
   rw[List.getElem?_append_right (by rw[List.length_map];omega),List.length_map,hl,List.getElem?_map]at q2
   cases ev:fvs[i-ps.length]? with
   |none=>rw[ev]at q2;cases q2
   |some v0=>
    rw[ev]at q2
    cases q2
    obtain⟨c,o,u,e1,e2,e3,rv⟩:=hc.at_ _ x v' q1' ev
    exact⟨u,rv, .inr ⟨.inr (S.frs _ (List.mem_of_getElem? q1')),c,e1,o,cellK e2,e3⟩⟩
 ·obtain⟨o,u,e1,e2⟩:=hc.get (y:=z) q
  exact⟨some u,o,cellK e1,e2⟩
 ·obtain⟨o,u,e1,_⟩:=hc.get (y:=z) q
  exact(e0.bs _ _ e1).2
 ·show _=N.length
  rw[S.eq,List.length_append,List.length_append,List.length_map,List.length_map,hl,hc.len]
theorem clos_expr {P:Program}{w:World}{K:PySem.W.Frag}{mg:Str→Option Value}{base:Heap}{k:Nat}{f c':Addr}{name qual:Str}{params:Arguments}{body:Expr}{scope:Scope}{pm ctv:Value}{oc:Obj}{N ps fr:List Str}{cl:List (Str×Addr)}{fvs:List V}{sp:Sp}{vs0:Array Value}{tq:Tok}
  (S:ClosScope N ps fr scope) (hoc:oc.data=.fields vs0) (hvs:vs0[1]?=some (.str qual tq)) (hc:ClCells base fr cl fvs) (len:∀vs H Q E,sp vs H Q E→vs.length=ps.length)
  (hbody:∀(A:Around) (outer:List Env) (s:Shared) (H:Hp) (vs:List V) (Q:VK) (E:XK),Room k (A.deeper (PySem.W.envX qual scope s.heap.objs.size f (.ref c') cl))→sp vs H Q E→
   H f=some (objO f (PySem.W.kla_obj name qual params body scope cl pm c' ctv))∧H c'=some (objO c' oc)∧
   ∃t,PE (cxClos P w K mg base N qual scope f (.ref c') cl A outer s H) body t∧t (vs.map some++fvs.map some) H Q):
  FnOk P w K mg base CX0 (k+1) f (PySem.W.kla_fn name qual params body scope cl pm (.ref c') ctv) ps sp:=by
 refine⟨len,fun A outer s H args us vs Q E hr e0 hb r hsp=>?_⟩
 have hl:=len _ _ _ _ hsp
 obtain⟨e1,e2,t,ht,hq⟩:=hbody A outer s H vs Q E (hr.deeper _) hsp
 have lim:s.heap.NoLimit:=e0.mod.nolimit.keeps fun b o e=>(e0.bs b o e).1
 have a1:=objO_at e0.hok e1
 have a2:=objO_at e0.hok e2
 refine PySem.W.kla_callFunE hr.depth a1 rfl S.co S.gen rfl ⟨c',oc,vs0,tq,rfl,a2,hoc,hvs⟩ (hb _ _ _ _ ?_)
 refine wpAny_newFunctionEnv S.nocell (fun x hx=>S.par _ (List.of_mem_zip (show(x.1,x.2)∈ps.zip us from hx)).1) (fun h₁ hns hsb=>?_) S.kind
 have hk₁:∀b o,s.heap.get? b=some o→h₁.get? b=some o:=fun b o e=>hsb.extBut b o (Nat.ne_of_lt (Heap.lt_size e)) (Heap.get?_push_of_some _ e)
 refine⟨lim.keeps hk₁,?_⟩
 have I:Inv (cxClos P w K mg base N qual scope f (.ref c') cl A outer s H) [] (vs.map some++fvs.map some) H {s with heap:=h₁,toks:=s.toks+(ps.zip us).length}:=clos_start S hc hr e0 r hl hns hk₁
 show codeAny _ _ (.expr body (PySem.W.envX qual scope s.heap.objs.size f (.ref c') cl)) _ _
 refine PySem.W.kla_codeExpr (wpAny_mono (ht [] _ _ _ _ I hq) (fun vr s' hs=>?_) fun _ _ z=>False.elim z)
 obtain⟨x,H',J,rx,q⟩:=hs
 exact⟨x,H',J.os,J.bare,J.base,J.hok,rx,q⟩
theorem clos_def {P:Program}{w:World}{K:PySem.W.Frag}{mg:Str→Option Value}{base:Heap}{k:Nat}{f c':Addr}{name qual:Str}{params:Arguments}{body:List Stmt}{scope:Scope}{doc pm ctv:Value}{oc:Obj}{N ps fr:List Str}{cl:List (Str×Addr)}{fvs:List V}{sp:Sp}{vs0:Array Value}{tq:Tok}
  (S:ClosScope N ps fr scope) (hoc:oc.data=.fields vs0) (hvs:vs0[1]?=some (.str qual tq)) (hc:ClCells base fr cl fvs) (len:∀vs H Q E,sp vs H Q E→vs.length=ps.length)
  (hbody:∀(A:Around) (outer:List Env) (s:Shared) (H:Hp) (vs:List V) (Q:VK) (E:XK),Room k (A.deeper (PySem.W.envX qual scope s.heap.objs.size f (.ref c') cl))→sp vs H Q E→
   H f=some (objO f (PySem.W.fnMade name qual params body scope cl doc pm c' ctv))∧H c'=some (objO c' oc)∧
   ∃t,PSs (cxClos P w K mg base N qual scope f (.ref c') cl A outer s H) body t∧t (Ends.of Q) (vs.map some++fvs.map some) H):
  FnOk P w K mg base CX0 (k+1) f (PySem.W.fnX name qual params body scope cl .none .none doc pm none (.ref c') ctv) ps sp:=by
 refine⟨len,fun A outer s H args us vs Q E hr e0 hb r hsp=>?_⟩
 have hl:=len _ _ _ _ hsp
 obtain⟨e1,e2,t,ht,hq⟩:=hbody A outer s H vs Q E (hr.deeper _) hsp
 have lim:s.heap.NoLimit:=e0.mod.nolimit.keeps fun b o e=>(e0.bs b o e).1
 have a1:=objO_at e0.hok e1
 have a2:=objO_at e0.hok e2
 refine codeAny_call_function hr.depth a1 rfl S.co S.gen rfl ⟨c',oc,vs0,tq,rfl,a2,hoc,hvs⟩ (hb _ _ _ _ ?_)
 refine wpAny_newFunctionEnv S.nocell (fun x hx=>S.par _ (List.of_mem_zip (show(x.1,x.2)∈ps.zip us from hx)).1) (fun h₁ hns hsb=>?_) S.kind
 have hk₁:∀b o,s.heap.get? b=some o→h₁.get? b=some o:=fun b o e=>hsb.extBut b o (Nat.ne_of_lt (Heap.lt_size e)) (Heap.get?_push_of_some _ e)
 refine⟨lim.keeps hk₁,codeAny_func ?_⟩
 have I:Inv (cxClos P w K mg base N qual scope f (.ref c') cl A outer s H) [] (vs.map some++fvs.map some) H {s with heap:=h₁,toks:=s.toks+(ps.zip us).length}:=clos_start S hc hr e0 r hl hns hk₁
 refine wpAny_mono (ht [] _ _ _ _ I hq) (fun fl s' hs=>?_) fun e s' hs=>False.elim hs
 have fin:∀{σ':St} {H':Hp} {v:V} {u:Value},Inv (cxClos P w K mg base N qual scope f (.ref c') cl A outer s H) [] σ' H' s'→RelV v u→Q v H'→CE outer P w H s Q u s' :=
  fun{σ' H' v u} J rv q=>⟨v,H',J.os,J.bare,J.base,J.hok,rv,q⟩
 cases fl with
 |ret u=>
  obtain⟨v,σ',H',J,rv,q⟩:=hs
  exact fin J rv q
 |next=>
  obtain⟨σ',H',J,q⟩:=hs
  exact fin (v:=V.non) (u:=Value.none) J rfl q
 |brk=>
  obtain⟨_,_,_,q⟩:=hs
  exact False.elim q
 |cont=>
  obtain⟨_,_,_,q⟩:=hs
  exact False.elim q
def defO (X:Cx)(name qual:Str)(params:Arguments)(body:List Stmt)(scope:Scope)(clos:List (Str×Addr))(doc:Value)(c':Addr)(ctv:Value):Obj:=PySem.W.fnMade name qual params body scope clos doc ((X.mg "__name__").getD .none) c' ctv
def tDef (X:Cx)(i:Nat)(P:Addr)(name qual:Str)(params:Arguments)(body:List Stmt)(scope:Scope)(clos:List (Str×Addr))(pos:Pos):TS:=fun D σ H=>∃ps,H P=some (.tbl ps)∧TriplesOk ps.toList∧
 ((codeAmong pos ps.toList=none∧∀(f c':Addr) (oc:Obj) (ctv doc:Value),H c'=none→H f=none→c'≠f→CodeO oc qual→
   D.nx (σ.set i (some (.ref f))) (upd (upd (upd H P (.tbl (ps++#[rawInt pos.line,rawInt pos.col, .ref c']))) c' (objO c' oc)) f (objO f (defO X name qual params body scope clos doc c' ctv))))∨
  ∃c',codeAmong pos ps.toList=some (.ref c')∧∀(f:Addr) (ctv doc:Value),H f=none→D.nx (σ.set i (some (.ref f))) (upd H f (objO f (defO X name qual params body scope clos doc c' ctv))))
section
variable {X:Cx}{P cp:Addr}{name qual:Str}{params:Arguments}{body:List Stmt}{scope:Scope}{clos:List (Str×Addr)}{pos:Pos}{i:Nat}
theorem ps_def (hN:X.N.Nodup)(hi:X.N[i]?=some name)(hx:Loc X.env.scope name)(hq:qualnameIn X.env name name=qual)(hcl:closureFor scope X.env=pure clos)(hcode:X.env.code=.ref cp)(C:PySem.W.CodeHd X.base cp P)(B:BMain X.mg X.base)
  (hd0:params.defaults=[]:=by rfl) (hk0:params.kw_defaults=[]:=by rfl) (ha:annTrees params none X.env=[]:=by rfl) (hf:X.fn name=true∨X.env.scope.names.lookup name=some .local:=by first|exact .inl rfl|exact .inr rfl|assumption):
  PS X (.FunctionDef name params body [] none [] scope none name pos) (tDef X i P name qual params body scope clos pos):=by
 intro pins s σ H D I h
 obtain⟨ps,hH,ht,h⟩:=h
 have hP:s.heap.get? P=some (PySem.W.tabObj ps):=I.hok P _ hH
 have hgs:s.heap.Ns mainGlobals X.mg:=I.mod.glob.keeps I.bk
 have hgP:mainGlobals≠P:=fun q=>by
  obtain⟨o,es,ep,e,hd,_⟩:=hgs
  rw[q,hP]at e;cases e;cases hd
 obtain⟨bm,ob,b1,b2,b3,b4,b5,b6⟩:=B
 have hbo:=I.bk _ _ b3
 have hbP:bm≠P:=fun q=>by rw[q,hP]at hbo;cases hbo;cases b4
 have hbG:bm≠mainGlobals:=fun q=>by
  obtain⟨o,es,ep,e,hd,_⟩:=hgs
  rw[q,e]at hbo;cases hbo;rw[hd]at b6;cases b6
 refine PySem.W.nestDef_K hd0 hk0 ha ?_
 rw[hq]
 rcases h with ⟨hnf,h⟩|⟨c',hfd,h⟩
 ·refine PySem.W.makeFunction_K (mg:=X.mg) hcl I.ok.glob hgs hcode (C.keeps I.bk) hP ht hnf hgP ⟨bm,ob,b1,b2,hbG,hbP,hbo,b4,b5,b6⟩ fun c' ctv doc h' tk hx' hge hlt hrec htb=>?_
  obtain⟨c₂,oc,vs,t,e2,hoc,hd,hv⟩:=hrec
  cases e2
  have kp:∀b o,b≠P→s.heap.get? b=some o→(h'.push (defO X name qual params body scope clos doc c' ctv)).get? b=some o:=fun b o n e=>Heap.get?_push_of_some _ (hx' b o n e)
  have nc:H c'=none:=I.hok.fresh hge
  have hsz:s.heap.objs.size≤h'.objs.size:=Nat.le_of_lt (Nat.lt_of_le_of_lt hge hlt)
  have nf:H h'.objs.size=none:=I.hok.fresh hsz
  have cf:c'≠h'.objs.size:=Nat.ne_of_lt hlt
  have cP:c'≠P:=fun q=>by rw[q,hH]at nc;cases nc
  have fP:h'.objs.size≠P:=fun q=>by rw[q,hH]at nf;cases nf
  have old:∀b o,s.heap.get? b=some o→b≠c'∧b≠h'.objs.size:=fun b o e=>⟨Nat.ne_of_lt (Nat.lt_of_lt_of_le (Heap.lt_size e) hge),Nat.ne_of_lt (Nat.lt_of_lt_of_le (Heap.lt_size e) hsz)⟩
  have trk:∀{b u},H b=some u→b≠c'∧b≠h'.objs.size:=fun e=>⟨ne_of_none e nc,ne_of_none e nf⟩
  have up:∀{b u},H b=some u→b≠P→(upd (upd (upd H P (.tbl (ps++#[rawInt pos.line,rawInt pos.col, .ref c']))) c' (objO c' oc)) h'.objs.size (objO h'.objs.size (defO X name qual params body scope clos doc c' ctv))) b=some u:=fun e n=>by
   rw[upd_ne (trk e).2,upd_ne (trk e).1,upd_ne n];exact e
  have atP:(upd (upd (upd H P (.tbl (ps++#[rawInt pos.line,rawInt pos.col, .ref c']))) c' (objO c' oc)) h'.objs.size (objO h'.objs.size (defO X name qual params body scope clos doc c' ctv))) P=some (.tbl (ps++#[rawInt pos.line,rawInt pos.col, .ref c'])):=by
   rw[upd_ne (Ne.symm fP),upd_ne (Ne.symm cP),upd_same]
  have un:Un X.fs [] H (upd (upd (upd H P (.tbl (ps++#[rawInt pos.line,rawInt pos.col, .ref c']))) c' (objO c' oc)) h'.objs.size (objO h'.objs.size (defO X name qual params body scope clos doc c' ctv))) s.heap (h'.push (defO X name qual params body scope clos doc c' ctv)):={
   keep:=fun b o e n _ _=>kp b o (fun q=>by rw[q,hH]at n;cases n) e
   slot:=fun b o e n _ _=>⟨o.slots,kp b o (fun q=>by rw[q,hH]at n;cases n) e⟩
   free:=fun b o e n _=>by
    rw[upd_ne (old b o e).2,upd_ne (old b o e).1,upd_ne (fun q=>by rw[q,hH]at n;cases n)];exact n
   there:=fun b o e _=>by
    by_cases z:b=P
    ·rw[z];exact⟨_,Heap.get?_push_of_some _ htb⟩
    ·exact⟨o,kp b o z e⟩
   tups:=fun b xs e=>up e (fun q=>by rw[q,hH]at e;cases e)
   frzs:=fun b o u e=>up e (fun q=>by rw[q,hH]at e;cases e)
   tbls:=fun b qs e=>by
    by_cases z:b=P
    ·rw[z,hH]at e;cases e;rw[z];exact⟨_,atP⟩
    ·exact⟨#[],by rw[up e z];simp⟩}
  have J:=I.un (t':=tk) un (fun b u e=>by
   by_cases z1:b=h'.objs.size
   ·subst z1
    rw[upd_same]at e;cases e
    exact objO_ok (Heap.get?_push_size _ rfl)
   ·rw[upd_ne z1]at e
    by_cases z2:b=c'
    ·subst z2
     rw[upd_same]at e;cases e
     exact objO_ok (Heap.get?_push_of_some _ hoc)
    ·rw[upd_ne z2]at e
     by_cases z3:b=P
     ·subst z3
      rw[upd_same]at e;cases e
      exact Heap.get?_push_of_some _ htb
     ·rw[upd_ne z3]at e
      refine(I.hok b u e).stay (fun d o hd' q=>kp d o ?_ q) (fun d r=>up r (fun q=>by rw[q,hH]at r;cases r)) fun d xs r=>up r (fun q=>by rw[q,hH]at r;cases r)
      rcases hd' with z|z
      ·rw[z];exact z3
      ·intro q;rw[q,hH]at z;cases z)
  exact store_ok J hN hi hx (v:=.ref h'.objs.size) rfl (fun s2 I2=>⟨_,_,I2,h _ c' oc ctv doc nc nf cf ⟨vs,t,hd,hv⟩⟩) hf
 ·refine PySem.W.makeFunction_hit (mg:=X.mg) hcl I.ok.glob hgs hcode (C.keeps I.bk) hP ht hfd ⟨bm,ob,b1,b2,hbG,hbP,hbo,b4,b5,b6⟩ fun ctv doc h' tk hk hsz=>?_
  have J:=I.laid (a:=h'.objs.size) (t':=tk) (o:=objO h'.objs.size (defO X name qual params body scope clos doc c' ctv)) (h':=h'.push (defO X name qual params body scope clos doc c' ctv)) (fun b u e=>Heap.get?_push_of_some _ (hk b u e)) hsz (objO_ok (Heap.get?_push_size _ rfl))
  exact store_ok J hN hi hx (v:=.ref h'.objs.size) rfl (fun s2 I2=>⟨_,_,I2,h _ ctv doc (I.hok.fresh hsz)⟩) hf
end
theorem law_callTs {P:Program}{w:World}{K:PySem.W.Frag}{mg mb:Str→Option Value}{k:Nat}{fa a:Addr}{T:List Addr}{fd:FuncData}{x:Str}{sp:Sp}{s₁:Shared}{vs:List Value}{ns:List Int}
  (KX:K.In s₁.heap) (hns:s₁.heap.Ns mainGlobals mg) (hb:s₁.heap.Ns builtinsNs mb) (hbb:∀x:Str,x≠"__name__"→mb x=bootBuiltins x) (hlim:s₁.heap.NoLimit) (hg:s₁.gens=#[])
  (ha:s₁.heap.get? a=some {cls:=.type "list",data:=.seq vs.toArray}) (hi:IntsAre vs ns) (hl:ns.length≤sizeLine) (hr:Room k callerA) (nT:PySem.W.noTabs K=true) (hC:∀Pt∈T,∃cp,PySem.W.CodeHd s₁.heap cp Pt) (hP:∀Pt∈T,s₁.heap.get? Pt=some (PySem.W.tabObj #[])) (hB:BMain mg s₁.heap)
  (F:∀base:Heap,K.In base→base.Ns mainGlobals mg→BMain mg base→Mod K mg base→FnOk P w K mg base CX0 k fa fd [x] sp) (hbind:∀(s:Shared) (u:Value),BindsTo s fd ⟨[u],[]⟩ [(x,u)])
  (hsp:∀H:Hp,SqL K H a (ns.map V.int)→(∀Pt∈T,H Pt=some (.tbl #[]))→sp [.ref a] H (fun v _=>v=.bl true) fun _ _ _=>False):
  codeAny (model P w) callerA (.call (.ref fa) ⟨[.ref a],[]⟩) (fun r s'=>r=.ok (.ret (.bool true))∧OldK s₁.heap s'.heap∧s'.os=s₁.os∧AllBare s'.gens) s₁:=by
 have rv:=vals_ints hi
 have lenV:=hi.length
 have naP:a∉T:=fun q=>by have:=hP a q;rw[ha]at this;cases this
 have KP:∀Pt∈T,K.lookup Pt=none:=fun Pt hp=>by
  cases q:K.lookup Pt with
  |none=>rfl
  |some o=>
   have e:=KX _ _ q
   rw[hP Pt hp]at e
   cases e
   have h2:=List.all_eq_true.mp nT (Pt,PySem.W.tabObj #[]) (PySem.W.mem_of_lookupK q)
   exact absurd (show false=true from h2) Bool.false_ne_true
 have core:∀H:Hp,SqL K H a (ns.map V.int)→(∀Pt∈T,H Pt=some (.tbl #[]))→HOk P w H s₁.heap→(∀b,b∉T→H b≠none→b=a)→(∀u,H a=some u→∃ob xs,u=.frz ob (.lst xs))→(H a≠none→K.lookup a=none)→
   codeAny (model P w) callerA (.call (.ref fa) ⟨[.ref a],[]⟩) (fun r s'=>r=.ok (.ret (.bool true))∧OldK s₁.heap s'.heap∧s'.os=s₁.os∧AllBare s'.gens) s₁:=by
  intro H hS hT hok hA hF hK
  have base_of:∀{b:Addr} {o:Obj},s₁.heap.get? b=some o→H b=none→(hidT s₁.heap H).get? b=some o:=fun e n=>hidT_get e n
  have untr:∀{b:Addr},b≠a→b∉T→H b=none:=fun{b} n1 n2=>by
   cases q:H b with
   |none=>rfl
   |some u=>exact absurd (hA b n2 (by rw[q];simp)) n1
  have noA:∀{b:Addr} {o:Obj} {es:Array DictEntry} {ep:Nat},s₁.heap.get? b=some o→o.data=.dict es ep→H b=none:=fun{b o es ep} e d=>by
   refine untr (fun q=>?_) (fun q=>?_)
   ·rw[q,ha]at e;cases e;cases d
   ·rw[hP b q]at e;cases e;cases d
  have nsK:∀{b:Addr} {m:Str→Option Value},s₁.heap.Ns b m→(hidT s₁.heap H).Ns b m:=fun{b m} ⟨o,es,ep,e,d,r⟩=>⟨o,es,ep,base_of e (noA e d),d,r⟩
  have hKb:K.In (hidT s₁.heap H):=fun b o e=>base_of (KX b o e) (by
   by_cases n2:b∈T
   ·rw[KP b n2]at e;cases e
   ·by_cases n1:b=a
    ·subst n1
     cases q:H b with
     |none=>rfl
     |some u=>rw[hK (by rw[q];simp)]at e;cases e
    ·exact untr n1 n2)
  have hBb:BMain mg (hidT s₁.heap H):=by
   obtain⟨bm,ob,b1,b2,b3,b4,b5,b6⟩:=hB
   refine⟨bm,ob,b1,b2,base_of b3 (untr (fun q=>?_) fun q=>?_),b4,b5,b6⟩
   ·rw[q,ha]at b3;cases b3;cases b6
   ·rw[hP bm q]at b3;cases b3;cases b4
  have hM:Mod K mg (hidT s₁.heap H):=⟨hKb,nsK hns,⟨mb,nsK hb,hbb⟩,let ⟨mc,h1,h2⟩:=hlim;⟨mc,nsK h1,h2⟩⟩
  have e0:Env0 P w K mg (hidT s₁.heap H) callerA [] s₁ H:=⟨rfl,hM,fun b o e=>of_hidT e,Nat.le_of_eq (hidT_size _ _),trivial,fun b hb=>absurd (show b∈([]:List Addr) from hb) (by simp),hok, .of_eq hg⟩
  refine codeAny_mono ((F _ hKb (nsK hns) hBb hM).run callerA [] s₁ H ⟨[.ref a],[]⟩ [.ref a] [.ref a] _ _ hr e0 (hbind s₁ (.ref a)) (.cons rfl .nil) (hsp H hS hT)) fun r s' h=>?_
  cases r with
  |error e=>exact False.elim h
  |ok fl=>
   cases fl with
   |next=>exact False.elim h
   |brk=>exact False.elim h
   |cont=>exact False.elim h
   |ret u=>
    obtain⟨v,H',os,bare,un,hok',r',q⟩:=h
    have q':v=.bl true:=q
    subst q'
    obtain rfl:u=Value.bool true:=r'
    have keepN:∀{b o},s₁.heap.get? b=some o→H b=none→s'.heap.get? b=some o:=fun{b o} e q=>un.keep b o e q (by intro z;exact absurd (show b∈([]:List Addr) from z) (by simp)) (by simp)
    refine⟨rfl,⟨fun b o e=>?_,fun b o e=>?_⟩,os,bare⟩
    ·by_cases n2:b∈T
     ·obtain⟨more,hT'⟩:=un.tbls b _ (hT b n2)
      have eT:s'.heap.get? b=some {cls:=.none,data:=.fields (#[]++more)}:=hok' b _ hT'
      obtain⟨cp,hc⟩:=hC b n2
      have hp:=hP b n2
      rw[hp]at e;cases e
      exact .inr (.inl ⟨(hc.tab hp).isCodeTable,rfl,#[],more,rfl,eT⟩)
     ·refine .inl ?_
      cases q:H b with
      |none=>exact keepN e q
      |some u=>
       have e1:=hA b n2 (by rw[q];simp)
       subst e1
       obtain⟨ob,xs,rfl⟩:=hF u q
       have z2:=un.frzs b ob _ q
       obtain⟨e1,_⟩:=hok b _ q
       obtain⟨e2,_⟩:=hok' b _ z2
       rw[e]at e1;cases e1
       exact e2
    ·exact un.there b o e (by simp)
 cases hk:K.lookup a with
 |some o=>
  have e:=KX a o hk
  rw[ha]at e
  cases e
  refine core (fun b=>if b∈T then some (.tbl #[]) else none) (.inr ⟨_,vs.toArray,_,hk,rfl,rfl,rfl,by rw[List.size_toArray,lenV];exact hl,by simpa using rv⟩) (fun Pt hp=>if_pos hp) (fun b u z=>?_) (fun b n z=>absurd (if_neg n) z) (fun u z=>?_) fun z=>absurd (if_neg naP) z
  ·by_cases n:b∈T
   ·have z':=(if_pos n).symm.trans z
    cases z'
    exact hP b n
   ·have z':=(if_neg n).symm.trans z
    cases z'
  ·have z':=(if_neg naP).symm.trans z
   cases z'
 |none=>
  have hH:∀b,b∉T→(fun b=>if b∈T then some (HO.tbl #[]) else if b=a then some (.frz {cls:=.type "list",data:=.seq vs.toArray} (.lst (ns.map V.int))) else none:Hp) b=(if b=a then some (.frz {cls:=.type "list",data:=.seq vs.toArray} (.lst (ns.map V.int))) else none):=fun b n=>if_neg n
  have hHa:(fun b=>if b∈T then some (HO.tbl #[]) else if b=a then some (.frz {cls:=.type "list",data:=.seq vs.toArray} (.lst (ns.map V.int))) else none:Hp) a=some (.frz {cls:=.type "list",data:=.seq vs.toArray} (.lst (ns.map V.int))):=(hH a naP).trans (if_pos rfl)
  refine core (fun b=>if b∈T then some (HO.tbl #[]) else if b=a then some (.frz {cls:=.type "list",data:=.seq vs.toArray} (.lst (ns.map V.int))) else none) (.inl (.inr ⟨{cls:=.type "list",data:=.seq vs.toArray},hHa⟩)) (fun Pt hp=>if_pos hp) (fun b u z=>?_) (fun b n z=>?_) (fun u z=>?_) fun _=>hk
  ·by_cases n:b∈T
   ·have z':=(if_pos n).symm.trans z
    cases z'
    exact hP b n
   ·have z1:=(hH b n).symm.trans z
    by_cases hb:b=a
    ·have z':=(if_pos hb).symm.trans z1
     cases z'
     subst hb
     exact⟨ha,by rw[List.length_map];exact hl,vs,_,rv,ha⟩
    ·have z':=(if_neg hb).symm.trans z1
     cases z'
  ·by_cases hb:b=a
   ·exact hb
   ·exact absurd ((hH b n).trans (if_neg hb)) z
  ·have z':=hHa.symm.trans z
   cases z'
   exact⟨_,_,rfl⟩
theorem walk_ofTs {l:PySem.W.OpenLaw}{n k:Nat}{q:Program}{loose:List Str}{XP:(Str→Option Value)→Heap→Prop}{YP:World→Heap→Prop}{d:DefRec}{K:Params→PySem.W.Frag}{sp:PySem.W.Frag→Sp}{x:Str}{ct:List (Addr×Addr)}
  (hn:l.most=some n) (hn2:n≤sizeLine) (hdf:d.params.defaults=[]) (hr:Room k callerA)
  (hY:∀(w:World) (h:Heap),YP w h→(K w.params).In h) (nT:∀w:World,PySem.W.noTabs (K w.params)=true) (hcd:∀w:World,∀p∈ct,PySem.W.codeHdIn (K w.params) p.1 p.2=true) (hT:∀(w:World) (h:Heap),YP w h→∀p∈ct,h.get? p.2=some (PySem.W.tabObj #[]))
  (F:∀(w:World) (mg:Str→Option Value) (fa:Addr) (h:Heap),(K w.params).In h→h.Ns mainGlobals mg→mg d.name=some (.ref fa)→
   ∃fd:FuncData,(∀(s:Shared) (u:Value),BindsTo s fd ⟨[u],[]⟩ [(x,u)])∧
    ∀base:Heap,(K w.params).In base→base.Ns mainGlobals mg→BMain mg base→Mod (K w.params) mg base→(∀p∈ct,PySem.W.CodeHd base p.1 p.2)→FnOk l.prog w (K w.params) mg base CX0 k fa fd [x] (sp (K w.params)))
  (hsp:∀(K:PySem.W.Frag) (H:Hp) (a:Addr) (ns:List Int),ns.length≤n→SqL K H a (ns.map V.int)→(∀p∈ct,H p.2=some (.tbl #[]))→sp K [.ref a] H (fun v _=>v=.bl true) fun _ _ _=>False):
  PySem.W.WalkO q loose XP YP l.row.toRowW d [] (fun f vs=>PySem.call f vs):=by
 refine Att.attach_call hn hdf fun w s₀ s₁ mg mb fa o pm cd doc a vs ns G Y ho hd hcd' hmg hobj hints hlen hg=>?_
 have KX:=hY w _ Y
 obtain⟨fd,hb,hF⟩:=F w mg fa _ KX G.T.g hmg
 refine law_callTs (T:=ct.map (·.2)) KX G.T.g G.T.b G.T.builtins G.T.nolimit hg hobj hints (Nat.le_trans hlen hn2) hr (nT w) (fun Pt hp=>?_) (fun Pt hp=>?_) G.T.bmain (fun base h1 h2 h3 h4=>hF base h1 h2 h3 h4 fun p hp=>PySem.W.codeHd_of_K h1 (hcd w p hp)) hb (fun H hS hP=>hsp _ H a ns hlen hS fun p hp=>hP p.2 (List.mem_map_of_mem hp))
 ·obtain⟨p,hm,rfl⟩:=List.mem_map.mp hp
  exact⟨p.1,PySem.W.codeHd_of_K KX (hcd w p hm)⟩
 ·obtain⟨p,hm,rfl⟩:=List.mem_map.mp hp
  exact hT w _ Y p hm
end L2
namespace PySem
open PyProof.Rows
namespace F
theorem owner_rvt:Manifest.owners.lookup (String.ofList ['d','e','s','r','e','v','e','r'].reverse)=some Manifest.sig_reversed:=by kernel_rfl
theorem slot_rvt_next:Slot "reversed" "__next__" "reversed.__next__" :=
 .of (owner:="reversed") (n:="__next__") (by rw[typeLookup_type,builtinLookup_eq_fast];kernel_rfl) (by decide+kernel) (by decide+kernel) (by decide+kernel)
  (by first|exact .inl (by decide+kernel)|exact .inr (by decide+kernel)) (by rw[isSubtype_type];kernel_rfl)
theorem entry_rvt_next:entryFor table "reversed.__next__"=some Builtin.«reversed.__next__»:=entryFor_of_tree (by kernel_rfl)
theorem args_rvt_next (a:Value):argsOk "reversed.__next__" ⟨[a],[]⟩:=by
 unfold argsOk;rw[signature?_of (id:="reversed.__next__") (n:=['_','_','t','x','e','n','_','_']) (o:=['d','e','s','r','e','v','e','r']) (by kernel_rfl) owner_rvt];kernel_rfl
theorem slot_rvt_iter:Slot "reversed" "__iter__" "reversed.__iter__" :=
 .of (owner:="reversed") (n:="__iter__") (by rw[typeLookup_type,builtinLookup_eq_fast];kernel_rfl) (by decide+kernel) (by decide+kernel) (by decide+kernel)
  (by first|exact .inl (by decide+kernel)|exact .inr (by decide+kernel)) (by rw[isSubtype_type];kernel_rfl)
theorem args_rvt_iter (a:Value):argsOk "reversed.__iter__" ⟨[a],[]⟩:=by
 unfold argsOk;rw[signature?_of (id:="reversed.__iter__") (n:=['_','_','r','e','t','i','_','_']) (o:=['d','e','s','r','e','v','e','r']) (by kernel_rfl) owner_rvt];kernel_rfl
theorem entry_rvt_iter:entryFor table "reversed.__iter__"=some Builtin.«dict_keyiterator.__iter__» :=
 entryFor_alias (id':="dict_keyiterator.__iter__") (by kernel_rfl) (by first|rfl|decide+kernel|(unfold String.splitOn;simp+decide [String.splitOnAux])) (by decide+kernel) (by kernel_rfl)
theorem slot_rvt_hint:Slot "reversed" "__length_hint__" "reversed.__length_hint__" :=
 .of (owner:="reversed") (n:="__length_hint__") (by rw[typeLookup_type,builtinLookup_eq_fast];kernel_rfl) (by decide+kernel) (by decide+kernel) (by decide+kernel)
  (by first|exact .inl (by decide+kernel)|exact .inr (by decide+kernel)) (by rw[isSubtype_type];kernel_rfl)
theorem entry_rvt_hint:entryFor table "reversed.__length_hint__"=some Builtin.«reversed.__length_hint__»:=entryFor_of_tree (by kernel_rfl)
theorem args_rvt_hint (a:Value):argsOk "reversed.__length_hint__" ⟨[a],[]⟩:=by
 unfold argsOk;rw[signature?_of (id:="reversed.__length_hint__") (n:=['_','_','t','n','i','h','_','h','t','g','n','e','l','_','_']) (o:=['d','e','s','r','e','v','e','r']) (by kernel_rfl) owner_rvt];kernel_rfl
theorem nolen_rvt:typeLookup (.type "reversed") "__len__"=pure none:=by rw[typeLookup_type,builtinLookup_eq_fast];kernel_rfl
theorem tup_norev:typeLookup (.type "tuple") "__reversed__"=pure none:=by rw[typeLookup_type,builtinLookup_eq_fast];kernel_rfl
theorem slot_rvt_init:Slot "reversed" "__init__" "object.__init__" :=
 .of (owner:="object") (n:="__init__") (by rw[typeLookup_type,builtinLookup_eq_fast];kernel_rfl) (by decide+kernel) (by decide+kernel) (by decide+kernel)
  (by first|exact .inl (by decide+kernel)|exact .inr (by decide+kernel)) (by rw[isSubtype_type];kernel_rfl)
theorem called_reversed:TypeCalled "reversed" "reversed.__new__" "object.__init__" :=
 ⟨by decide+kernel,by decide+kernel,⟨_,_,mro_reversed⟩,made_reversed,by decide+kernel,by rw[isSubtype_type];kernel_rfl,slot_rvt_init⟩
end F
def rvtObj (l:Addr)(i:Int):Obj:={cls:=.type "reversed",data:=.fields #[.ref l,rawInt i]}
def Heap.IsRvt (h:Heap)(a l:Addr)(i:Int):Prop:=h.get? a=some (rvtObj l i)
theorem Heap.IsRvt.typeIs {s:Shared}{a l:Addr}{i:Int}(x:s.heap.IsRvt a l i):s.TypeIs (.ref a) "reversed":=⟨_,x,rfl⟩
section
variable {prog:Program}{w:World}{A:Around}{E:Value→Shared→Prop}{s:Shared}
theorem meets_rvt_new (l:Addr)(xs:Array Value)(hz:(xs.size:Int)<2^63):
  Meets (Builtin.«reversed.__new__» ⟨[.type "reversed", .ref l],[]⟩) (fun _ R s=>IsTup s.heap l xs∧
   R (.ok (.ret (.ref s.heap.objs.size))) {s with heap:=s.heap.push (rvtObj l ((xs.size:Int)-1)),toks:=s.toks+1+1}) :=
 .of_wp fun prog w A R s h=>by
  obtain⟨hl,h⟩:=h
  unfold Builtin.«reversed.__new__»
  refine wpAny_bind (wpAny_of_eq (newClass_reversed _) ?_)
  try dsimp only
  refine wpAny_bind (wpAny_of_eq (a:=()) (by first|rfl|kernel_rfl) ?_)
  refine wpAny_bind (wpAny_of_eq (a:=()) (by first|rfl|kernel_rfl) ?_)
  try dsimp only
  refine wpAny_bind (wpAny_specialOf hl.typeIs F.tup_norev ?_)
  try dsimp only
  refine wpAny_bind ?_
  show wpAny _ _ (isInstance (.ref l) (.type "dict")>>=_) _ _ _
  refine wpAny_bind (wpAny_isInstance (b:=false) hl.typeIs F.sub_tuple_dict ?_)
  rw[if_neg Bool.false_ne_true]
  show wpAny _ _ (specialOf (Value.ref l) (Str.ofString "__getitem__")>>=_) _ _ _
  refine wpAny_bind (wpAny_specialOf hl.typeIs F.slot_tuple_getitem.lookup ?_)
  dsimp only
  rw[if_pos (by decide)]
  refine wpAny_pure ?_
  rw[if_neg (by decide)]
  refine wpAny_bind (len_tuple hl hz ?_)
  refine wpAny_bind (m:=asInt? (.int _ _)) (wpAny_pure ?_)
  dsimp only
  refine wpAny_bind ?_
  show wpAny _ _ (newObj (.type "reversed") (.fields #[Value.ref l,rawInt ((xs.size:Int)-1)])) _ _ _
  refine wpAny_newObj_type ?_
  exact wpAny_pure ⟨_,rfl,h⟩
theorem call_reversed_tuple {l:Addr}{xs:Array Value}{Q:Value→Shared→Prop}(hl:IsTup s.heap l xs)(hz:(xs.size:Int)<2^63)
  (h:Q (.ref s.heap.objs.size) {s with heap:=s.heap.push (rvtObj l ((xs.size:Int)-1)),toks:=s.toks+1+1}):wpAny (model prog w) A (call (.type "reversed") [.ref l]) Q E s :=
 callType_new F.called_reversed (by decide) (F.typeCall_reversed_1 _) (F.newCall_reversed_1 _) (fun obj=>F.args_object_init_2 obj _) F.entry_reversed_new (meets_rvt_new l xs hz)
  ⟨hl,⟨_,Heap.get?_push_size _ rfl,rfl⟩,h⟩
theorem wpAny_pyNext_rvt_item {it l:Addr}{i:Nat}{xs:Array Value}{x:Value}{Q:Option Value→Shared→Prop}(hit:s.heap.IsRvt it l (i:Int))(hl:IsTup s.heap l xs)(hz:(xs.size:Int)<2^63)(hx:xs[i]?=some x)
  (hQ:∀h' tk,s.toks≤tk→h'.IsRvt it l ((i:Int)-1)→Heap.SameBut it s.heap h'→Q (some x) {s with heap:=h',toks:=tk}):wpAny (model prog w) A (pyNext (.ref it)) Q E s:=by
 have hlt:i<xs.size:=(Array.getElem?_eq_some_iff.mp hx).1
 unfold pyNext
 refine wpAny_bind (wpAny_attempt (wpAny_callSpecial?_slot (name:=Str.ofString "__next__") hit.typeIs F.slot_rvt_next
  (wpAny_call_entry F.slot_rvt_next hit.typeIs F.entry_rvt_next ?_ (F.args_rvt_next _))))
 unfold Builtin.«reversed.__next__»
 refine wpAny_bind (wpAny_of_eq (a:=(Value.ref it,[])) rfl ?_)
 try dsimp only
 refine wpAny_bind (wpAny_field hit rfl (x:=.ref l) rfl ?_)
 show wpAny _ _ (field (.ref it) 1>>=_) _ _ s
 refine wpAny_bind (wpAny_field hit rfl (x:=rawInt (i:Int)) rfl ?_)
 show wpAny _ _ (if(i:Int)<0 then _ else _) _ _ s
 rw[if_neg (by omega)]
 refine wpAny_bind (wpAny_specialOf hl.typeIs F.slot_tuple_getitem.lookup ?_)
 rw[if_neg (by simp)]
 refine wpAny_bind (wpAny_mkInt ?_)
 refine wpAny_bind (wpAny_attempt ?_)
 refine getItem_tuple (j:=i) (x:=x) hl (by omega) (by omega) (by unfold seqIndex?;simp;omega) hx ?_
 dsimp only
 refine wpAny_bind (wpAny_field (s:={s with toks:=_}) hit rfl (x:=rawInt (i:Int)) rfl ?_)
 show wpAny _ _ (setField (Value.ref it) 1 (rawInt ((i:Int)-1))>>=fun _=>ret x) _ _ _
 refine wpAny_bind (wpAny_setField_rec (s:={s with toks:=s.toks+1}) hit (by simp) fun h' e1 e2=>?_)
 exact wpAny_pure ⟨x,rfl,wpAny_pure (hQ h' (s.toks+1) (Nat.le_succ _) e1 e2)⟩
theorem wpAny_pyNext_rvt_end {it l:Addr}{Q:Option Value→Shared→Prop}(hh:A.handled=none)(hit:s.heap.IsRvt it l (-1))
  (hQ:∀h',Heap.ExtBut it s.heap h'→Q none {s with heap:=h'}):wpAny (model prog w) A (pyNext (.ref it)) Q E s:=by
 unfold pyNext
 refine wpAny_bind (wpAny_attempt (wpAny_callSpecial?_slot (name:=Str.ofString "__next__") hit.typeIs F.slot_rvt_next
  (wpAny_call_entry F.slot_rvt_next hit.typeIs F.entry_rvt_next ?_ (F.args_rvt_next _))))
 unfold Builtin.«reversed.__next__»
 refine wpAny_bind (wpAny_of_eq (a:=(Value.ref it,[])) rfl ?_)
 try dsimp only
 refine wpAny_bind (wpAny_field hit rfl (x:=.ref l) rfl ?_)
 show wpAny _ _ (field (.ref it) 1>>=_) _ _ s
 refine wpAny_bind (wpAny_field hit rfl (x:=rawInt (-1)) rfl ?_)
 show wpAny _ _ (if(-1:Int)<0 then _ else _) _ _ s
 rw[if_pos (by decide)]
 refine wpAny_bind (wpAny_rule ?_)
 refine wpAny_bind ?_
 show wpAny _ _ (setField (.ref it) 1 (rawInt (-1))>>=fun _=>setField (.ref it) 0 .none) _ _ _
 refine wpAny_bind (wpAny_setField_rec hit (by simp) fun h1 e1 f1=>?_)
 refine wpAny_setField_rec (s:={s with heap:=h1}) e1 (by simp) fun h2 e2 f2=>?_
 first
 |show wpAny _ _ (newExc (.type "StopIteration") []>>=_) _ _ _
 |(refine wpAny_bind ?_;show wpAny _ _ (newExc (.type "StopIteration") []>>=_) _ _ _)
 refine wpAny_bind ?_
 simp only[newExc,newTuple]
 refine wpAny_bind (wpAny_newObj_type ?_ (by size_fits))
 refine wpAny_bind (m:=firstArgMember _ _) (wpAny_of_eq (a:=Value.none) (by first|rfl|(simp only[firstArgMember];rfl)) ?_)
 refine wpAny_newObj_type ?_ (by size_fits)
 simp only[raiseNew]
 refine wpAny_bind (wpAny_handled ?_)
 first|rw[show A.in1.handled=none from hh]|rw[hh]
 refine wpAny_bind (wpAny_pure (wpAny_throw ?_))
 refine wpAny_bind (wpAny_isInstance (T:="StopIteration") (b:=true) ⟨_,Heap.get?_push_size _ rfl,rfl⟩ isSubtype_stop ?_)
 exact wpAny_pure (hQ _ (fun b o hb e=>Heap.get?_push_of_some _ (Heap.get?_push_of_some _ (f2.extBut b o hb (f1.extBut b o hb e)))))
theorem wpAny_pyIter_rvt {it l:Addr}{i:Int}{Q:Value→Shared→Prop}(hit:s.heap.IsRvt it l i)(h:Q (.ref it) s):wpAny (model prog w) A (pyIter (.ref it)) Q E s:=by
 refine wpAny_pyIter_slot hit.typeIs F.slot_rvt_iter (wpAny_call_entry F.slot_rvt_iter hit.typeIs F.entry_rvt_iter ?_ (F.args_rvt_iter _))
 show wpAny _ _ (ret (.ref it)) _ _ s
 exact wpAny_pure ⟨_,rfl,"reversed",_,hit.typeIs,F.slot_rvt_next.lookup,h⟩
theorem WalksS.rvt (hh:A.handled=none)(I l:Addr)(hne:l≠I)(xs:Array Value)(hz:(xs.size:Int)<2^63):
  WalksS prog w A I [I,l] [I] (fun a b=>a=b) xs.size (fun i v=>xs[xs.size-1-i]?=some v) (fun i s=>s.heap.IsRvt I l ((xs.size:Int)-1-(i:Int))∧IsTup s.heap l xs) where
 sub:=fun b hb=>by simp at hb;simp[hb]
 grefl:=fun _=>rfl
 gtrans:=fun _ _ _ a b=>a.trans b
 frame:=fun i s h' tk x _ hk=>⟨hk I (by simp) _ x.1,by obtain⟨o,ho,r⟩:=x.2;exact⟨o,hk l (by simp) _ ho,r⟩⟩
 item:=fun i s Q E hi x hQ=>by
  have e:(xs.size:Int)-1-(i:Int)=((xs.size-1-i:Nat):Int):=by omega
  have hit:=x.1
  rw[e]at hit
  have hx:xs[xs.size-1-i]?=some (xs[xs.size-1-i]'(by omega)):=Array.getElem?_eq_getElem (by omega)
  refine wpAny_pyNext_rvt_item hit x.2 hz hx fun h' tk ht hit' hs'=>?_
  have e2:((xs.size-1-i:Nat):Int)-1=(xs.size:Int)-1-((i+1:Nat):Int):=by omega
  rw[e2]at hit'
  refine hQ _ {s with heap:=h',toks:=tk} hx ⟨hit',x.2.extBut hs'.extBut hne⟩ ⟨fun b o hb eo=>hs'.extBut b o (fun h=>hb (by simp[h])) eo,rfl,rfl,rfl,ht⟩
 done:=fun s Q E x hQ=>by
  have e:(xs.size:Int)-1-(xs.size:Int)= -1:=by omega
  have hit:=x.1
  rw[e]at hit
  exact wpAny_pyNext_rvt_end hh hit fun h' he'=>hQ {s with heap:=h'} ⟨fun b o hb eo=>he' b o (fun h=>hb (by simp[h])) eo,rfl,rfl,rfl,Nat.le_refl _⟩
 self:=fun _ _ _ _ x hQ=>wpAny_pyIter_rvt x.1 hQ
end
end PySem
namespace PySem
open PyProof.Rows
section
variable {prog:Program}{w:World}{A:Around}{E:Value→Shared→Prop}{s:Shared}
theorem call_rvt_hint {it l:Addr}{i:Int}{xs:Array Value}{Q:Value→Shared→Prop}(hit:s.heap.IsRvt it l i)(hl:IsTup s.heap l xs)(hz:(xs.size:Int)<2^63)(hi:i+1≤xs.size)
  (hQ:∀u tk,s.toks≤tk→Q (.int (i+1) u) {s with toks:=tk}):wpAny (model prog w) A (call (.builtin "reversed.__length_hint__") [.ref it]) Q E s:=by
 refine wpAny_call_entry F.slot_rvt_hint hit.typeIs F.entry_rvt_hint ?_ (F.args_rvt_hint _)
 unfold Builtin.«reversed.__length_hint__»
 refine wpAny_bind (wpAny_of_eq (a:=Value.ref it) rfl ?_)
 refine wpAny_bind (wpAny_field hit rfl (x:=.ref l) rfl ?_)
 rw[if_neg (show ¬((Value.ref l==Value.none)=true) from Bool.false_ne_true)]
 refine wpAny_bind (len_tuple hl hz ?_)
 refine wpAny_bind (m:=asInt? (.int _ _)) (wpAny_pure ?_)
 dsimp only
 refine wpAny_bind (wpAny_field (s:={s with toks:=_}) hit rfl (x:=rawInt i) rfl ?_)
 show wpAny _ _ (if((xs.size:Nat):Int)<i+1 then _ else retInt (i+1)) _ _ _
 rw[if_neg (by omega)]
 refine wpAny_bind (wpAny_mkInt (wpAny_pure ⟨_,rfl,?_⟩))
 exact hQ _ _ (by show s.toks≤s.toks+1+1+1;omega)
end
section
variable {prog:Program}{w:World}{A:Around}{s:Shared}{R:Result→Shared→Prop}
theorem wpAny_extend_rvt (hh:A.handled=none)(S I l:Addr)(res:Value)(c₀:Nat){xs:Array Value}(hn:xs.size≤sizeLine)(hlI:l≠I)(hSI:S≠I)(hSl:S≠l)(hit:s.heap.IsRvt I l ((xs.size:Int)-1))(hl:IsTup s.heap l xs)
  (hS:s.heap.get? S=some {cls:=.type "list",data:=.seq #[] c₀})
  (hR:∀s' acc' c',Moved [S,I] (fun a b=>a=b) s s'→s'.heap.get? S=some {cls:=.type "list",dict:=none,data:=.seq acc' c',slots:=#[]}→ItemsOf (fun i v=>xs[xs.size-1-i]?=some v) acc' xs.size→R (.ok (.ret res)) s'):
  wpAny (model prog w) A.in1 (Builtin.List.listExtendWith (.ref S) (.ref I) res)
   (fun fin s'=>match fin with|.done f=>R (.ok f) s'|.again c'=>c'.quiet=true∧codeAny (model prog w) A c' R s') (fun e s'=>R (.error e) s') s:=by
 have l63:=L2.line63
 have hz:(xs.size:Int)<2^63:=by omega
 have W:=WalksS.rvt (prog:=prog) (w:=w) (A:=A.in1) hh I l hlI xs hz
 have hSf:S∉[I,l]:=by simp[hSI,hSl]
 unfold Builtin.List.listExtendWith
 refine wpAny_bind (wpAny_typeOf hit.typeIs ?_)
 have h1:Builtin.List.listSameRef (.ref S) (.ref I)=false:=by simp[Builtin.List.listSameRef,hSI]
 have h2:(Value.type "reversed"==Value.type "list")=false:=by decide
 have h3:(Value.type "reversed"==Value.type "tuple")=false:=by decide
 simp only[h1,h2,h3,Bool.or_false,Bool.false_eq_true,if_false]
 refine wpAny_bind (wpAny_pyIter_rvt hit ?_)
 refine wpAny_bind (wpAny_holding ?_)
 unfold Builtin.List.listLengthHint
 refine wpAny_bind (wpAny_specialOf hit.typeIs F.nolen_rvt ?_)
 show wpAny _ A.in1 (specialOf (Value.ref I) (Str.ofString "__length_hint__")>>=_) _ _ _
 refine wpAny_bind (wpAny_specialOf hit.typeIs F.slot_rvt_hint.lookup ?_)
 (generalize hid:("reversed.__length_hint__":String)=id0;(fail_if_success (clear hid id0));wp_delta;rw[show splitId id0=some ("reversed","__length_hint__") from by subst hid;decide+kernel];subst hid)
 refine wpAny_bind (wpAny_isInstance (b:=true) hit.typeIs (by rw[isSubtype_type];kernel_rfl) ?_)
 rw[if_neg (by decide)]
 dsimp only
 rw[if_neg (by decide+kernel)]
 refine wpAny_bind (wpAny_rule ?_)
 refine wpAny_bind (wpAny_of_eq (F.slot_rvt_hint.bind _) ?_)
 dsimp only
 refine wpAny_bind (wpAny_attempt (call_rvt_hint hit hl hz (by omega) fun u tk htk=>?_))
 dsimp only
 refine wpAny_bind (m:=asInt? (.int _ _)) (wpAny_pure ?_)
 dsimp only
 have ei:((xs.size:Int)-1+1)=xs.size:=by omega
 rw[ei]
 have f1:Builtin.List.listFitsIndex (xs.size:Int)=true:=by unfold Builtin.List.listFitsIndex;simp;exact hz
 have f2:Builtin.List.listTooLong (xs.size:Int).toNat=false:=by unfold Builtin.List.listTooLong;simp;exact hn
 rw[if_neg (by rw[f1];decide),if_neg (by omega),if_neg (by rw[f2];decide)]
 refine wpAny_pure ?_
 have hit':Heap.IsRvt ({s with toks:=tk}:Shared).heap I l ((xs.size:Int)-1):=hit
 have key:∀(h':Heap) (c₁:Nat),h'.get? S=some {cls:=.type "list",data:=.seq #[] c₁}→(∀b o,b≠S→s.heap.get? b=some o→h'.get? b=some o)→
   codeAny (model prog w) A (.builtin "list.extend.loop" ⟨[.ref S, .ref I,res],[]⟩) R {s with heap:=h',toks:=tk}:=fun h' c₁ hS' kp=>by
  have st:(fun(i:Nat) (s:Shared)=>s.heap.IsRvt I l ((xs.size:Int)-1-(i:Int))∧IsTup s.heap l xs) 0 {s with heap:=h',toks:=tk}:=by
   refine⟨?_,?_⟩
   ·have e:(xs.size:Int)-1-((0:Nat):Int)=(xs.size:Int)-1:=by omega
    show Heap.IsRvt h' I l ((xs.size:Int)-1-((0:Nat):Int))
    rw[e]
    exact kp I _ (Ne.symm hSI) hit
   ·obtain⟨o,ho,r⟩:=hl
    exact⟨o,kp l _ (Ne.symm hSl) ho,r⟩
  refine codeAny_extend_loopS W hn S hSf res xs.size 0 _ #[] c₁ rfl (Nat.zero_le _) st hS' (ItemsOf.nil _) fun s' acc' c' hm hS'' hacc=>?_
  exact hR s' acc' c' ⟨fun b o hb e=>hm.heap b o hb (kp b o (fun z=>hb (by simp[z])) e),hm.gens,hm.drawn,hm.os,Nat.le_trans htk hm.toks⟩ hS'' hacc
 split
 ·refine wpAny_bind (wpAny_rule ?_)
  refine wpAny_bind ?_
  show wpAny _ A.in1 (updateSeq S (·.push .none)>>=fun _=>updateSeq S (·.pop)) _ _ _
  clear l63 hz f1 f2 ei hn
  refine wpAny_bind (wpAny_updateSeq (s:={s with toks:=tk}) hS rfl ?_)
  have hS₂:=Heap.get?_update_self (Obj.mapSeq (·.push Value.none)) hS rfl
  refine wpAny_updateSeq (hz:=by seq_fits) hS₂ rfl ?_
  have hS₃:=Heap.get?_update_self (Obj.mapSeq (·.pop)) hS₂ rfl
  exact wpAny_pure ⟨plainId_quiet F.plain_extend_loop _,key _ _ hS₃ fun b o hb e=>(Heap.get?_update_other _ _ (Ne.symm hb)).trans ((Heap.get?_update_other _ _ (Ne.symm hb)).trans e)⟩
 ·exact wpAny_pure ⟨plainId_quiet F.plain_extend_loop _,key _ _ hS fun b o _ e=>e⟩
theorem wpAny_list_init_rvt (hh:A.handled=none)(S I l:Addr){xs:Array Value}(hn:xs.size≤sizeLine)(hlI:l≠I)(hSI:S≠I)(hSl:S≠l)(hit:s.heap.IsRvt I l ((xs.size:Int)-1))(hl:IsTup s.heap l xs)
  (hS:s.heap.get? S=some {cls:=.type "list",data:=.seq #[]})
  (hR:∀s' acc' c',Moved [S,I] (fun a b=>a=b) s s'→s'.heap.get? S=some {cls:=.type "list",dict:=none,data:=.seq acc' c',slots:=#[]}→ItemsOf (fun i v=>xs[xs.size-1-i]?=some v) acc' xs.size→R (.ok (.ret .none)) s'):
  wpAny (model prog w) A.in1 (Builtin.«list.__init__» ⟨[.ref S, .ref I],[]⟩)
   (fun fin s'=>match fin with|.done f=>R (.ok f) s'|.again c'=>c'.quiet=true∧codeAny (model prog w) A c' R s') (fun e s'=>R (.error e) s') s:=by
 show wpAny _ A.in1 (do let old ←Builtin.List.listItems (.ref S);Builtin.List.listUpdate (.ref S) (fun _=>#[]);letGo old.toList.reverse;Builtin.List.listExtendWith (.ref S) (.ref I) .none) _ _ s
 refine wpAny_bind ?_
 unfold Builtin.List.listItems
 refine wpAny_bind (wpAny_seqItems hS rfl (wpAny_pure ?_))
 show wpAny _ A.in1 (updateSeq S (fun _=>#[])>>=fun _=>letGo (#[]:Array Value).toList.reverse>>=fun _=>Builtin.List.listExtendWith (.ref S) (.ref I) .none) _ _ s
 refine wpAny_bind (wpAny_updateSeq hS rfl ?_)
 have hS₂:=Heap.get?_update_self (Obj.mapSeq (fun _=>(#[]:Array Value))) hS rfl
 have oth:∀b o,b≠S→s.heap.get? b=some o→(s.heap.update S (Obj.mapSeq (fun _=>(#[]:Array Value)))).get? b=some o :=
  fun b o hb e=>(Heap.get?_update_other _ _ (Ne.symm hb)).trans e
 refine wpAny_bind (wpAny_letGo ?_)
 refine wpAny_extend_rvt hh S I l .none _ hn hlI hSI hSl (oth _ _ (Ne.symm hSI) hit) (by obtain⟨o,ho,r⟩:=hl;exact⟨o,oth _ _ (Ne.symm hSl) ho,r⟩) hS₂ fun s' acc' c' hm hS' hacc=>?_
 exact hR s' acc' c' ⟨fun b o hb e=>hm.heap b o hb (oth b o (fun z=>hb (by simp[z])) e),hm.gens,hm.drawn,hm.os,hm.toks⟩ hS' hacc
end
section
variable {prog:Program}{w:World}{A:Around}{E:Value→Shared→Prop}{s:Shared}
theorem call_list_rvt {Q:Value→Shared→Prop}(hh:A.handled=none)(I l:Addr){xs:Array Value}(hn:xs.size≤sizeLine)(hlI:l≠I)(hit:s.heap.IsRvt I l ((xs.size:Int)-1))(hl:IsTup s.heap l xs)
  (hQ:∀s' acc' c',Moved [s.heap.objs.size,I] (fun a b=>a=b) s s'→s'.heap.get? s.heap.objs.size=some {cls:=.type "list",dict:=none,data:=.seq acc' c',slots:=#[]}→ItemsOf (fun i v=>xs[xs.size-1-i]?=some v) acc' xs.size→Q (.ref s.heap.objs.size) s'):
  wpAny (model prog w) A (call (.type "list") [.ref I]) Q E s:=by
 refine callType_codes (Q₁:=fun obj s₁=>obj=.ref s.heap.objs.size∧s₁={s with heap:=s.heap.push {cls:=.type "list",data:=.seq #[]}}) F.called_list (F.typeCall_list_1 _) F.entry_list_init
  (code_list_new _ ⟨rfl,rfl⟩) fun obj s₁ h₁=>?_
 obtain⟨rfl,rfl⟩:=h₁
 have hS:(s.heap.push {cls:=.type "list",data:=.seq #[]}).get? s.heap.objs.size=some {cls:=.type "list",data:=.seq #[]}:=Heap.get?_push_size _ rfl
 have hSI:s.heap.objs.size≠I:=fun e=>Nat.lt_irrefl _ (by have:=Heap.lt_size hit;rw[←e]at this;exact this)
 have hSl:s.heap.objs.size≠l:=fun e=>by
  obtain⟨o,ho,_⟩:=hl
  have:=Heap.lt_size ho
  rw[←e]at this
  exact Nat.lt_irrefl _ this
 refine⟨⟨_,hS,rfl⟩,F.args_list_init_2 _ _,wpAny_list_init_rvt (A:=A.in1) (s:={s with heap:=s.heap.push {cls:=.type "list",data:=.seq #[]}}) hh _ I l hn hlI hSI hSl (Heap.get?_push_of_some _ hit) (hl.push _) hS fun s' acc' c' hm hS' hacc=>?_⟩
 exact⟨rfl,hQ s' acc' c' ⟨fun b o hb e=>hm.heap b o hb (Heap.get?_push_of_some _ e),hm.gens,hm.drawn,hm.os,hm.toks⟩ hS' hacc⟩
end
end PySem
namespace L2
open PySem PySem.Spec PyProof.Rows
section
variable {X:Cx}
theorem boot_rev:bootBuiltins "reversed"=some (.type "reversed"):=PyProof.Rows.boot_reversed
def tListRev (K:PySem.W.Frag)(te:TE):TE:=fun σ H Q=>te σ H fun x H1=>∃a xs,x=.ref a∧SqT K H1 a xs∧∀l,H1 l=none→Q (.ref l) (upd H1 l (.lst xs.reverse))
theorem Vals.of_get:∀{xs:List V} {us:List Value},xs.length=us.length→(∀(i:Nat) (x:V) (u:Value),xs[i]?=some x→us[i]?=some u→RelV x u)→Vals xs us
 |[],[],_,_=>.nil
 |[],_::_,h,_=>by simp at h
 |_::_,[],h,_=>by simp at h
 |x::xs,u::us,h,g=>.cons (g 0 x u rfl rfl) (Vals.of_get (by simpa using h) fun i a b e f=>g (i+1) a b (by simpa using e) (by simpa using f))
theorem pe_listRev {e:Expr}{te:TE}{p pos p2 pos2:Pos}(hc:X.calm=true)(hgl:Gl X "list")(hml:X.mg "list"=none)(hgr:Gl X "reversed")(hmr:X.mg "reversed"=none)(he:PE X e te)
  (hs1:starEach [Expr.Call (.Name "reversed" p2) [e] [] pos2] X.env=[(false,eval (Expr.Call (.Name "reversed" p2) [e] [] pos2) X.env)]:=by rfl) (hs2:starEach [e] X.env=[(false,eval e X.env)]:=by rfl):
  PE X (.Call (.Name "list" p) [.Call (.Name "reversed" p2) [e] [] pos2] [] pos) (tListRev X.K te):=by
 intro pins s σ H Q I h
 refine wpAny_Call_Name_kw (ld_blt I hgl hml boot_list ?_ (by decide) (by decide))
 refine PyProof.Rows.callWith_type1 ?_ hs1 rfl
 rw[hs1]
 refine Calls.spliced_cons ?_
 refine wpAny_Call_Name_kw (ld_blt I hgr hmr boot_rev ?_ (by decide) (by decide))
 refine PyProof.Rows.callWith_type1 ?_ hs2 rfl
 rw[hs2]
 refine Calls.spliced_cons (thn (he pins s σ H _ I h) fun u s1 ⟨x,H1,I1,r1,q1⟩=>?_)
 refine Calls.spliced_nil ?_
 obtain⟨a,xs,rfl,hq,q⟩:=q1
 cases r1
 obtain⟨its,rv,pt,hz⟩:=I1.tuple hq
 have hlen:=rv.length
 have h63:=line63
 refine call_reversed_tuple pt (by simp;omega) ?_
 refine Calls.spliced_nil ?_
 have ha:a<s1.heap.objs.size:=by obtain⟨o,ho,_⟩:=pt;exact Heap.lt_size ho
 refine call_list_rvt (I1.ok.hd hc) s1.heap.objs.size a (xs:=its.toArray) (by simp;omega) (Nat.ne_of_lt ha) (Heap.get?_push_size _ rfl) (pt.push _) fun s' acc c hm hS hacc=>?_
 obtain⟨h',g',d',t',o'⟩:=s'
 have eg:s1.gens=g':=hm.gens
 have ed:d'=s1.drawn:=hm.drawn
 have eo:o'=s1.os:=hm.os
 subst eg ed eo
 have sz:(s1.heap.push (rvtObj a (((its.toArray).size:Int)-1))).objs.size=s1.heap.objs.size+1:=Heap.size_push ..
 have kp:∀b o,s1.heap.get? b=some o→h'.get? b=some o:=fun b o e=>by
  have hb:=Heap.lt_size e
  refine hm.heap b o ?_ (Heap.get?_push_of_some _ e)
  simp only[List.mem_cons,List.not_mem_nil,or_false,not_or]
  exact⟨Nat.ne_of_lt (Nat.lt_of_lt_of_le hb (Nat.le_of_lt (by rw[sz];exact Nat.lt_succ_self _))),Nat.ne_of_lt hb⟩
 have va:Vals xs.reverse acc.toList:=by
  refine Vals.of_get (by rw[List.length_reverse,hlen];have:=hacc.1;simp at this;simp[this]) fun i x u e f=>?_
  have hi:i<xs.length:=by have:=(List.getElem?_eq_some_iff.mp e).1;simpa using this
  rw[List.getElem?_reverse hi]at e
  have f':acc[i]?=some u:=by simpa using f
  have g:=hacc.2 i u f'
  have g':its[xs.length-1-i]?=some u:=by
   have:its.toArray[its.toArray.size-1-i]?=some u:=g
   simp only[List.size_toArray,List.getElem?_toArray]at this
   rw[hlen];exact this
  obtain⟨u',hu',ru⟩:=rv.get e
  rw[g']at hu'
  cases hu'
  exact ru
 have ea:acc.toList.toArray=acc:=by simp
 refine⟨.ref _,_,I1.laid (t':=t') kp (a:=(s1.heap.push (rvtObj a (((its.toArray).size:Int)-1))).objs.size) (by rw[sz];exact Nat.le_succ _) (show ObjOk X.prog X.w _ h' _ (.lst xs.reverse) from⟨by simpa using hz,acc.toList,c,va,by rw[ea];exact hS⟩),rfl,q _ (I1.hok.fresh (by rw[sz];exact Nat.le_succ _))⟩
def Itv (K:PySem.W.Frag)(a:Addr)(n:Nat):It :=
 ⟨fun i H=>∃xs,SqL K H a xs∧xs.length=n∧i<n,fun i H x H'=>H'=H∧∀xs,SqL K H a xs→xs[n-1-i]?=some x,fun i H=>i=n⟩
theorem turn_rev {P:Program}{w:World}{K:PySem.W.Frag}{tg:Expr}(a it:Addr)(n:Nat):Turn P w K tg (Itv K a n) [it] it (fun i h=>h.IsRevIter it a ((n:Int)-1-(i:Int))) where
 mem:=by simp
 obj:=fun i h st b hb=>by
  have e:b=it:=by simpa using hb
  subst e
  obtain⟨o,e,c,d⟩:=st
  exact⟨o,e,fun v z=>by rw[d]at z;cases z⟩
 keep:=fun i h h' st k=>st.at fun o e=>k it (by simp) o e
 item:=by
  intro X hP hw hK hc i pins s σ H E I hf st hg
  subst hP hw hK
  obtain⟨xs,hq,hn,hi⟩:=hg
  obtain⟨its,rv,p,hz⟩:=I.list hq
  have hx:xs[n-1-i]?=some (xs[n-1-i]'(by omega)):=List.getElem?_eq_getElem (by omega)
  obtain⟨u,hu,ru⟩:=rv.get hx
  obtain⟨f0,f1,f2,f3,f4,f5⟩:=hf it (by simp)
  have e:(n:Int)-1-(i:Int)=((n-1-i:Nat):Int):=by omega
  have st2:s.heap.IsRevIter it a ((n-1-i:Nat):Int):=by rw[←e];exact st
  refine wpAny_pyNext_rev_item st2 p.isList (x:=u) (by simpa using hu) fun h' st' sb=>?_
  have I1:Inv X pins σ H {s with heap:=h'}:=I.turned (t':=s.toks) (fun b o hb e=>(sb.2 b hb).trans e) f0 f1 f3 f4 f5
  have st3:h'.IsRevIter it a ((n:Int)-1-((i+1:Nat):Int)):=by
   have e2:((n-1-i:Nat):Int)-1=(n:Int)-1-((i+1:Nat):Int):=by omega
   rw[←e2];exact st'
  obtain⟨o,e,c,d⟩:=id st'
  exact⟨u,rfl,go_of (s:={s with heap:=h'}) e c d (by decide) ⟨_,H,I1,ru,⟨rfl,fun ys hy=>by rw[I.list_inj hy hq];exact hx⟩,st3,fun b hb=>(hf b hb).1⟩⟩
 done:=by
  intro X hP hw hK hc i pins s σ H E I hf st hg
  subst hP hw hK
  have hg:i=n:=hg
  subst hg
  obtain⟨f0,f1,f2,f3,f4,f5⟩:=hf it (by simp)
  have e:(i:Int)-1-(i:Int)= -1:=by omega
  have st2:s.heap.IsRevIter it a (-1):=by rw[←e];exact st
  exact wpAny_pyNext_rev_end (I.ok.hd hc) st2 fun h' eb=>⟨rfl,I.turned (t':=s.toks) (fun b o hb e=>eb b o hb e) f0 f1 f3 f4 f5⟩
 self:=fun _ _ _ _ _ st h=>wpAny_pyIter_revIter st h
def iRev (K:PySem.W.Frag)(tl:TE):TI:=fun σ H R=>tl σ H fun x H1=>∃a xs,x=.ref a∧SqL K H1 a xs∧R (Itv K a xs.length) H1
theorem pi_rev {l tg:Expr}{tl:TE}{p pos:Pos}(hg:Gl X "reversed")(hm:X.mg "reversed"=none)(hl:PE X l tl)(hs:starEach [l] X.env=[(false,eval l X.env)]:=by rfl):PI X tg (.Call (.Name "reversed" p) [l] [] pos) (iRev X.K tl):=by
 intro pins s σ H R I h
 refine wpAny_Call_Name_kw (ld_blt I hg hm boot_rev ?_ (by decide) (by decide))
 refine PyProof.Rows.callWith_type1 ?_ hs rfl
 rw[hs]
 refine Calls.spliced_cons (thn (hl pins s σ H _ I h) fun v s1 ⟨x,H1,I1,r1,q1⟩=>?_)
 refine Calls.spliced_nil ?_
 obtain⟨a,xs,rfl,hq,q⟩:=q1
 cases r1
 obtain⟨its,rv,p,hz⟩:=I1.list hq
 have hlen:=rv.length
 refine call_reversed_list p.isList ?_
 have st:Heap.IsRevIter (s1.heap.push (revObj a ((its.toArray.size:Int)-1))) s1.heap.objs.size a ((xs.length:Int)-1-((0:Nat):Int)):=by
  refine⟨_,Heap.get?_push_size _ rfl,rfl,?_⟩
  show Data.fields _=_
  simp[hlen]
 refine wpAny_pyIter_revIter (s:={s1 with heap:=_}) st ?_
 refine⟨s1.heap.objs.size,[s1.heap.objs.size],_,_,H1,rfl,I1.kept (t':=s1.toks) fun b o e=>Heap.get?_push_of_some _ e,turn_rev a _ xs.length,st,fun b hb=>?_,q⟩
 have e:b=s1.heap.objs.size:=by simpa using hb
 subst e
 exact I1.fpOk (Nat.le_refl _) (I1.hok.fresh (Nat.le_refl _))
theorem for_rev {K:PySem.W.Frag}{a:Addr}{xs:List V}{g:TG}{tb:TS}{D:Ends}{σ:St}{H:Hp}(Pv:Nat→St→Hp→Prop)(h0:Pv 0 σ H)(hl:∀i σ H,i≤xs.length→Pv i σ H→SqL K H a xs)
  (hs:∀i x σ H,i<xs.length→xs[xs.length-1-i]?=some x→Pv i σ H→g x σ H fun σ2 H2=>tb (D.lp (Pv (i+1))) σ2 H2) (hd:∀σ H,Pv xs.length σ H→D.nx σ H):
  ∃W:Nat→Nat→St→Hp→Prop,(∃m,W 0 m σ H)∧∀i m σ H,W i m σ H→
   ((Itv K a xs.length).stop i H∧D.nx σ H)∨((Itv K a xs.length).go i H∧∃N:St→Hp→Prop,(∀σ' H',N σ' H'→∃m',m'<m∧W (i+1) m' σ' H')∧∀x H',(Itv K a xs.length).yld i H x H'→g x σ H' fun σ2 H2=>tb (D.lp N) σ2 H2):=by
 refine⟨fun i m σ H=>m=xs.length-i∧i≤xs.length∧Pv i σ H,⟨xs.length,by simp,Nat.zero_le _,h0⟩,?_⟩
 rintro i m σ H ⟨rfl,hi,p⟩
 have q:=hl i σ H hi p
 by_cases hlt:i<xs.length
 ·refine .inr ⟨⟨xs,q,rfl,hlt⟩,Pv (i+1),fun σ' H' p'=>⟨xs.length-(i+1),by omega,rfl,hlt,p'⟩,fun x H' y=>?_⟩
  obtain⟨e,y⟩:=y
  subst e
  exact hs i x σ _ hlt (y xs q) p
 ·have e:i=xs.length:=by exact Nat.le_antisymm hi (Nat.not_lt.mp hlt)
  subst e
  exact .inl ⟨rfl,hd σ H p⟩
end
section
variable {κ:Type}[DecidableEq κ]
def valV (kvs:List (κ×V))(k:κ):Option V:=(kvs.find? fun kv=>decide (kv.1=k)).map (·.2)
def putK (kvs:List (κ×V))(k:κ)(v:V):List (κ×V) :=
 if(kvs.any fun kv=>decide (kv.1=k))=true then kvs.map (fun kv=>if kv.1=k then(kv.1,v) else kv) else kvs++[(k,v)]
theorem valV_pos {p:κ×V}{r:List (κ×V)}{k:κ}(e:p.1=k):valV (p::r) k=some p.2:=by simp[valV,List.find?_cons,e]
theorem valV_neg {p:κ×V}{r:List (κ×V)}{k:κ}(e:¬p.1=k):valV (p::r) k=valV r k:=by simp[valV,List.find?_cons,e]
theorem valV_any (k:κ):∀kvs:List (κ×V),(kvs.any fun kv=>decide (kv.1=k))=(valV kvs k).isSome
 |[]=>rfl
 |p::r=>by
  rw[List.any_cons]
  by_cases e:p.1=k
  ·simp only[valV_pos e,decide_eq_true e,Bool.true_or,Option.isSome_some]
  ·rw[valV_neg e,decide_eq_false e,Bool.false_or];exact valV_any k r
theorem valV_map (k j:κ)(y:V):∀kvs:List (κ×V),valV (kvs.map fun kv=>if kv.1=k then(kv.1,y) else kv) j=(valV kvs j).map fun x=>if j=k then y else x
 |[]=>rfl
 |p::r=>by
  have ih:=valV_map k j y r
  rw[List.map_cons]
  by_cases h:p.1=k
  ·rw[if_pos h]
   by_cases e:p.1=j
   ·rw[valV_pos (p:=(p.1,y)) e,valV_pos e,Option.map_some,if_pos (e.symm.trans h)]
   ·rw[valV_neg (p:=(p.1,y)) e,valV_neg e,ih]
  ·rw[if_neg h]
   by_cases e:p.1=j
   ·rw[valV_pos (p:=p) e,valV_pos e,Option.map_some,if_neg (fun z=>h (e.trans z))]
   ·rw[valV_neg (p:=p) e,valV_neg e,ih]
theorem valV_snoc (k j:κ)(y:V):∀kvs:List (κ×V),valV kvs k=none→valV (kvs++[(k,y)]) j=if j=k then some y else valV kvs j
 |[],_=>by
  by_cases e:k=j
  ·rw[if_pos e.symm];exact valV_pos (p:=(k,y)) e
  ·rw[if_neg (fun z=>e z.symm)];exact valV_neg (p:=(k,y)) e
 |p::r,hn=>by
  rw[List.cons_append]
  have hk:¬p.1=k:=fun z=>by rw[valV_pos z]at hn;cases hn
  rw[valV_neg hk]at hn
  have ih:=valV_snoc k j y r hn
  by_cases e:p.1=j
  ·rw[valV_pos e,valV_pos e,if_neg (fun z=>hk (e.trans z))]
  ·rw[valV_neg e,valV_neg e,ih]
theorem valV_put (kvs:List (κ×V))(k j:κ)(y:V):valV (putK kvs k y) j=if j=k then some y else valV kvs j:=by
 unfold putK
 by_cases a:(kvs.any fun kv=>decide (kv.1=k))=true
 ·rw[if_pos a,valV_map]
  rw[valV_any]at a
  by_cases e:j=k
  ·obtain⟨x,hx⟩:=Option.isSome_iff_exists.mp a
   rw[if_pos e,e,hx,Option.map_some,if_pos rfl]
  ·rw[if_neg e]
   cases valV kvs j with
   |none=>rfl
   |some x=>rw[Option.map_some,if_neg e]
 ·rw[if_neg a]
  refine valV_snoc k j y kvs ?_
  rw[valV_any]at a
  cases q:valV kvs k with
  |none=>rfl
  |some x=>rw[q]at a;exact(a rfl).elim
theorem length_putK (kvs:List (κ×V))(k:κ)(v:V):(putK kvs k v).length≤kvs.length+1:=by
 unfold putK
 split
 ·rw[List.length_map];exact Nat.le_succ _
 ·rw[List.length_append,List.length_cons,List.length_nil];exact Nat.le_refl _
theorem putK_new {kvs:List (κ×V)}{k:κ}(v:V)(h:valV kvs k=none):putK kvs k v=kvs++[(k,v)]:=by
 unfold putK
 rw[valV_any,h]
 exact if_neg (by decide)
theorem RelO.isSome_eq {o:Option V}{u:Option Value}(r:RelO o u):o.isSome=u.isSome:=by
 cases o with
 |none=>cases u with
  |none=>rfl
  |some _=>exact(show False from r).elim
 |some _=>cases u with
  |none=>exact(show False from r).elim
  |some _=>rfl
theorem RelO.getD {o:Option V}{u:Option Value}{d:V}{d':Value}(r:RelO o u)(rd:RelV d d'):RelV (o.getD d) (u.getD d'):=by
 cases o with
 |none=>cases u with
  |none=>exact rd
  |some _=>exact(show False from r).elim
 |some _=>cases u with
  |none=>exact(show False from r).elim
  |some _=>exact r
theorem KV.val {kvs:List (κ×V)}{vs:List (κ×Value)}(r:KV kvs vs)(k:κ):RelO (valV kvs k) (valueAt vs k):=by
 unfold KV at r
 induction r with
 |nil=>exact True.intro
 |@cons p q ps qs h t ih=>
  obtain⟨h1,h2⟩:=h
  by_cases e:p.1=k
  ·have e':q.1=k:=h1.symm.trans e
   have b:valueAt (q::qs) k=some q.2:=by simp[valueAt,List.find?_cons,e']
   rw[valV_pos e,b];exact h2
  ·have e':¬q.1=k:=fun z=>e (h1.trans z)
   have b:valueAt (q::qs) k=valueAt qs k:=by simp[valueAt,List.find?_cons,e']
   rw[valV_neg e,b];exact ih
theorem KV.any {kvs:List (κ×V)}{vs:List (κ×Value)}(r:KV kvs vs)(k:κ):(kvs.any fun kv=>decide (kv.1=k))=vs.any fun kv=>decide (kv.1=k):=by
 unfold KV at r
 induction r with
 |nil=>rfl
 |cons h t ih=>rw[List.any_cons,List.any_cons,ih,h.1]
theorem KV.repl {kvs:List (κ×V)}{vs:List (κ×Value)}(r:KV kvs vs)(k:κ){y:V}{u:Value}(ry:RelV y u):
  KV (kvs.map fun kv=>if kv.1=k then(kv.1,y) else kv) (vs.map fun kv=>if kv.1=k then(kv.1,u) else kv):=by
 unfold KV at r ⊢
 induction r with
 |nil=>exact .nil
 |@cons p q ps qs h t ih=>
  rw[List.map_cons,List.map_cons]
  refine .cons ?_ ih
  obtain⟨h1,h2⟩:=h
  by_cases e:p.1=k
  ·rw[if_pos e,if_pos (h1.symm.trans e)];exact⟨h1,ry⟩
  ·rw[if_neg e,if_neg (fun z=>e (h1.trans z))];exact⟨h1,h2⟩
theorem KV.put {kvs:List (κ×V)}{vs:List (κ×Value)}(r:KV kvs vs)(k:κ){y:V}{u:Value}(ry:RelV y u):KV (putK kvs k y) (stored vs k u):=by
 unfold putK stored
 rw[r.any k]
 by_cases e:(vs.any fun kv=>decide (kv.1=k))=true
 ·rw[if_pos e,if_pos e];exact r.repl k ry
 ·rw[if_neg e,if_neg e];exact Paired.snoc r ⟨rfl,ry⟩
theorem KV.keys {kvs:List (κ×V)}{vs:List (κ×Value)}(r:KV kvs vs):kvs.map (·.1)=vs.map (·.1):=by
 unfold KV at r
 induction r with
 |nil=>rfl
 |cons h t ih=>rw[List.map_cons,List.map_cons,ih,h.1]
theorem KV.length {kvs:List (κ×V)}{vs:List (κ×Value)}(r:KV kvs vs):kvs.length=vs.length:=Paired.length r
end
theorem kV_is {P:Program}{w:World}{k:Key}{u:Value}(r:RelV (kV k) u):(mixKind P w).is k u=true:=by
 cases k with
 |inl i=>obtain⟨t,e⟩:=(show ∃t,u=Value.int i t from r);subst e;exact mixKind_int P w i t
 |inr x=>obtain⟨t,e⟩:=(show ∃t,u=Value.str x t from r);subst e;exact mixKind_str P w x t
theorem items_are {P:Program}{w:World}:∀{ks:List Key} {us:List Value},Vals (ks.map kV) us→ItemsAre (mixKind P w) ks us
 |[],_,r=>by rw[List.map_nil]at r;cases r;exact .nil
 |k::ks,_,r=>by
  rw[List.map_cons]at r
  cases r with
  |cons h t=>exact .cons (kV_is h) (items_are t)
abbrev KT (H:Hp):List (List Key×V)→List (List Key×Addr×Value)→Prop:=Paired fun p q=>p.1=q.1∧H q.2.1=some (.tup (p.1.map kV))∧RelV p.2 q.2.2
theorem KT.val {H:Hp}{kvs:List (List Key×V)}{xs:List (List Key×Addr×Value)}(r:KT H kvs xs)(k:List Key):RelO (valV kvs k) ((atKey xs k).map (·.2)):=by
 induction r with
 |nil=>exact True.intro
 |@cons p q ps qs h t ih=>
  obtain⟨h1,_,h2⟩:=h
  by_cases e:p.1=k
  ·have e':q.1=k:=h1.symm.trans e
   have b:atKey (q::qs) k=some q.2:=by simp[atKey,List.find?_cons,e']
   rw[valV_pos e,b];exact h2
  ·have e':¬q.1=k:=fun z=>e (h1.trans z)
   have b:atKey (q::qs) k=atKey qs k:=by simp[atKey,List.find?_cons,e']
   rw[valV_neg e,b];exact ih
theorem KT.repl {H:Hp}{kvs:List (List Key×V)}{xs:List (List Key×Addr×Value)}(r:KT H kvs xs)(k:List Key){y:V}{u:Value}(ry:RelV y u):
  KT H (kvs.map fun kv=>if kv.1=k then(kv.1,y) else kv) (xs.map (putAt k u)):=by
 induction r with
 |nil=>exact .nil
 |@cons p q ps qs h t ih=>
  rw[List.map_cons,List.map_cons]
  refine .cons ?_ ih
  obtain⟨h1,h2,h3⟩:=h
  unfold putAt
  by_cases e:p.1=k
  ·rw[if_pos e,if_pos (h1.symm.trans e)];exact⟨h1,h2,ry⟩
  ·rw[if_neg e,if_neg (fun z=>e (h1.trans z))];exact⟨h1,h2,h3⟩
theorem KT.put {H:Hp}{kvs:List (List Key×V)}{xs:List (List Key×Addr×Value)}(r:KT H kvs xs)(k:List Key){b:Addr}{y:V}{u:Value}(hb:H b=some (.tup (k.map kV)))(ry:RelV y u):
  KT H (putK kvs k y) (storedH xs k b u):=by
 have e:(kvs.any fun kv=>decide (kv.1=k))=(atKey xs k).isSome:=by
  rw[valV_any,(r.val k).isSome_eq,Option.isSome_map]
 unfold putK storedH
 rw[e]
 by_cases q:(atKey xs k).isSome=true
 ·rw[if_pos q,if_pos q];exact r.repl k ry
 ·rw[if_neg q,if_neg q];exact Paired.snoc r ⟨rfl,hb,ry⟩
theorem KT.keeps {H H':Hp}{kvs:List (List Key×V)}{xs:List (List Key×Addr×Value)}(r:KT H kvs xs)(ht:∀b ys,H b=some (.tup ys)→H' b=some (.tup ys)):KT H' kvs xs :=
 Paired.mapP r fun _ _ z=>⟨z.1,ht _ _ z.2.1,z.2.2⟩
section
variable {P:Program}{w:World}{H:Hp}{h:Heap}{a:Addr}
theorem rd_of {u:HO}(ok:HOk P w H h)(e:Rd H a u):ObjOk P w H h a u:=e.ok ok
theorem dk_rd {kvs:List (Key×V)}(ok:HOk P w H h)(e:Rd H a (.dK kvs)):kvs.length≤sizeLine∧(a==sysModules)=false∧∃vs,KV kvs vs∧h.DictOf (mixKind P w) a vs :=
 show ObjOk P w H h a (.dK kvs) from rd_of ok e
theorem dk_of {kvs:List (Key×V)}(ok:HOk P w H h)(e:H a=some (.dK kvs)):kvs.length≤sizeLine∧(a==sysModules)=false∧∃vs,KV kvs vs∧h.DictOf (mixKind P w) a vs:=dk_rd ok (.inl e)
theorem key_of {ks:List Key}(ok:HOk P w H h)(e:H a=some (.tup (ks.map kV))):(tupleKind (mixKind P w)).is h ks a:=by
 obtain⟨_,its,r,o,h1,h2,n,h3⟩:=(show ObjOk P w H h a (.tup (ks.map kV)) from ok a _ e)
 exact⟨o,its.toArray,n,h1,h2,h3,by simpa using items_are r⟩
theorem dt_rd {kvs:List (List Key×V)}(ok:HOk P w H h)(e:Rd H a (.dT kvs)):kvs.length≤sizeLine∧(a==sysModules)=false∧
  ∃xs,KT H kvs xs∧h.DictOfH (tupleKind (mixKind P w)) a xs:=by
 obtain⟨z,y,xs,r,o,es,ep,h1,h2,h3,h4,h5⟩:=(show ObjOk P w H h a (.dT kvs) from rd_of ok e)
 refine⟨z,y,xs,r,o,es,ep,h1,h2,h3,h4,fun x hx=>?_,h5⟩
 have all:∀{l:List (List Key×V)} {m:List (List Key×Addr×Value)},KT H l m→∀x∈m,(tupleKind (mixKind P w)).is h x.1 x.2.1:=by
  intro l m q
  induction q with
  |nil=>intro x hx;exact nomatch hx
  |@cons p q ps qs hq t ih=>
   intro x hx
   rcases List.mem_cons.mp hx with e|hx
   ·subst e
    exact key_of ok (by rw[←hq.1];exact hq.2.1)
   ·exact ih x hx
 exact all r x hx
theorem dt_of {kvs:List (List Key×V)}(ok:HOk P w H h)(e:H a=some (.dT kvs)):kvs.length≤sizeLine∧(a==sysModules)=false∧
  ∃xs,KT H kvs xs∧h.DictOfH (tupleKind (mixKind P w)) a xs:=dt_rd ok (.inl e)
end
def DGet (H:Hp)(a:Addr)(y:V)(r:Option V):Prop :=
 (∃kvs k,Rd H a (.dK kvs)∧y=kV k∧r=valV kvs k)∨∃kvs k b,Rd H a (.dT kvs)∧y=.ref b∧H b=some (.tup (k.map kV))∧r=valV kvs k
def DPut (H:Hp)(a:Addr)(y v:V)(H':Hp):Prop :=
 (∃kvs k,H a=some (.dK kvs)∧y=kV k∧kvs.length<sizeLine∧H'=upd H a (.dK (putK kvs k v)))∨
 ∃kvs k b,H a=some (.dT kvs)∧y=.ref b∧H b=some (.tup (k.map kV))∧kvs.length<sizeLine∧H'=upd H a (.dT (putK kvs k v))
theorem DGet.k {H:Hp}{a:Addr}{kvs:List (Key×V)}{k:Key}(e:H a=some (.dK kvs)):DGet H a (kV k) (valV kvs k):=.inl ⟨kvs,k, .inl e,rfl,rfl⟩
theorem DPut.k {H:Hp}{a:Addr}{kvs:List (Key×V)}{k:Key}{v:V}(e:H a=some (.dK kvs))(hl:kvs.length<sizeLine):DPut H a (kV k) v (upd H a (.dK (putK kvs k v))):=.inl ⟨kvs,k,e,rfl,hl,rfl⟩
section
variable {X:Cx}{pins:List (Addr×Obj)}{σ:St}{H:Hp}{s:Shared}{a:Addr}{y v:V}{u r:Value}{o:Option V}{A:Around}{E:Value→Shared→Prop}
theorem Inv.big (I:Inv X pins σ H s):sysModules<s.heap.objs.size:=by
 have h:mainGlobals<s.heap.objs.size:=(I.mod.glob.keeps I.bk).lt
 exact Nat.lt_trans (by decide) h
theorem d_getItem {Q:Value→Shared→Prop}(hu:A.units+1<cLine)(I:Inv X pins σ H s)(g:DGet H a y (some v))(ry:RelV y u)(h:∀w' s',Inv X pins σ H s'→RelV v w'→Q w' s'):
  wpAny (model X.prog X.w) A (getItem (.ref a) u) Q E s:=by
 rcases g with ⟨kvs,k,e,ey,l⟩|⟨kvs,k,b,e,ey,eb,l⟩
 ·subst ey
  obtain⟨z,hd,vs,rel,dd⟩:=dk_rd I.hok e
  obtain⟨w',hw,rw'⟩:=RelO.some_of (v:=v) (o:=valueAt vs k) (by rw[l];exact rel.val k)
  exact wpAny_getItem_of (kV_is ry) dd.mapOf hw (h w' _ (I.tok _) rw')
 ·subst ey
  cases(show u=Value.ref b from ry)
  obtain⟨z,hd,xs,rel,dd⟩:=dt_rd I.hok e
  obtain⟨w',hw,rw'⟩:=RelO.some_of (v:=v) (o:=(atKey xs k).map (·.2)) (by rw[l];exact rel.val k)
  obtain⟨p,hp,hp2⟩:=Option.map_eq_some_iff.mp hw
  refine wpAny_getItem_heap (tupleKind_room_in1 hu) (key_of I.hok eb) dd hp ?_
  rw[hp2]
  exact h w' _ (I.tok _) rw'
theorem d_in {Q:Value→Shared→Prop}(hu:A.units+1<cLine)(I:Inv X pins σ H s)(g:DGet H a y o)(ry:RelV y u)(h:∀s',Inv X pins σ H s'→Q (.bool o.isSome) s'):
  wpAny (model X.prog X.w) A (compareOp .In u (.ref a)) Q E s:=by
 rcases g with ⟨kvs,k,e,ey,l⟩|⟨kvs,k,b,e,ey,eb,l⟩
 ·subst ey
  obtain⟨z,hd,vs,rel,dd⟩:=dk_rd I.hok e
  refine wpAny_in_of (kV_is ry) hd dd.mapOf ?_
  rw[←(rel.val k).isSome_eq,←l]
  exact h _ (I.tok _)
 ·subst ey
  cases(show u=Value.ref b from ry)
  obtain⟨z,hd,xs,rel,dd⟩:=dt_rd I.hok e
  refine wpAny_in_heap (tupleKind_room_in1 hu) (key_of I.hok eb) hd dd ?_
  have q:=(rel.val k).isSome_eq
  rw[Option.isSome_map]at q
  rw[←q,←l]
  exact h _ (I.tok _)
theorem d_write {h':Heap}{t':Nat}{ob:HO}(I:Inv X pins σ H s)(mu:Mut (H a))(hs:Heap.SameBut a s.heap h')(he:∃q,h'.get? a=some q)(new:ObjOk X.prog X.w (upd H a ob) h' a ob):
  Inv X pins σ (upd H a ob) {s with heap:=h',toks:=t'} :=
 I.write (x:=a) (e:=a) mu (.inl rfl) (fun b q hb z=>(hs.2 b hb).trans z) he new
theorem dk_new {P:Program}{w:World}{H':Hp}{h':Heap}{kvs:List (Key×V)}{vs:List (Key×Value)}(z:kvs.length≤sizeLine)(hd:(a==sysModules)=false)(rel:KV kvs vs)(dd:h'.DictOf (mixKind P w) a vs):
  ObjOk P w H' h' a (.dK kvs):=⟨z,hd,vs,rel,dd⟩
theorem d_setItem {H':Hp}{Q:Unit→Shared→Prop}(hu:A.units+1<cLine)(I:Inv X pins σ H s)(g:DPut H a y v H')(ry:RelV y u)(rv:RelV v r)(h:∀s',Inv X pins σ H' s'→Q () s'):
  wpAny (model X.prog X.w) A (setItem (.ref a) u r) Q E s:=by
 rcases g with ⟨kvs,k,e,ey,l,eH⟩|⟨kvs,k,b,e,ey,eb,l,eH⟩
 ·subst ey eH
  obtain⟨z,hd,vs,rel,dd⟩:=dk_of I.hok e
  have hz:vs.length≤sizeLine:=by rw[←rel.length];exact z
  have hl:(putK kvs k v).length≤sizeLine:=by have:=length_putK kvs k v;exact Nat.le_trans this l
  refine wpAny_setItem_pairs (hsz:=hz) (kV_is ry) dd fun h' dd' hs=>h _ ?_
  have he:∃q,h'.get? a=some q:=let ⟨q,_,_,hq,_⟩:=dd';⟨q,hq⟩
  exact d_write I (by rw[e];exact True.intro) hs he (dk_new hl hd (rel.put k rv) dd')
 ·subst ey eH
  cases(show u=Value.ref b from ry)
  obtain⟨z,hd,xs,rel,dd⟩:=dt_of I.hok e
  have hz:xs.length≤sizeLine:=by rw[←Paired.length rel];exact z
  have hl:(putK kvs k v).length≤sizeLine:=by have:=length_putK kvs k v;exact Nat.le_trans this l
  refine wpAny_setItem_heap (hsz:=hz) (tupleKind_room_in1 hu) (key_of I.hok eb) dd fun h' dd' hs=>h _ ?_
  obtain⟨q,es,ep,hq,h2,h3,h4,_,h5⟩:=dd'
  refine d_write I (by rw[e];exact True.intro) hs ⟨q,hq⟩ ⟨hl,hd,_,(rel.put k eb rv).keeps fun c ys ec=>?_,q,es,ep,hq,h2,h3,h4,h5⟩
  rw[upd_ne (ne_of ec e (fun z=>nomatch z))]
  exact ec
end
section
variable {X:Cx}{pins:List (Addr×Obj)}{σ:St}{H:Hp}{s:Shared}{a:Addr}{kvs:List (Key×V)}{k:Key}{u:Value}{A:Around}{E:Value→Shared→Prop}
end
def NoSl (i:Expr):Prop:=∀ov iv,subscripted i false ov iv=operate [ov,iv] (getItem ov iv)
theorem subD_of {prog:Program}{w:World}{A:Around}{E:Value→Shared→Prop}{s:Shared}{env:Env}{value slice:Expr}{pos:Pos}{T id:String}{Q:Value→Shared→Prop}
  (hl:typeLookup (.type T) "__getitem__"=pure (some (.builtin id))) (hs:NoSl slice)
  (h:wpAny (model prog w) A (eval value env) (fun o s₁=>wpAny (model prog w) A (eval slice env) (fun i s₂=>s₂.TypeIs o T∧wpAny (model prog w) A (getItem o i) Q E s₂) E s₁) E s):
  wpAny (model prog w) A (eval (.Subscript value slice pos) env) Q E s:=by
 refine Subscript_ (wpAny_mono h (fun o s₁ h₁=>wpAny_mono h₁ (fun i s₂ h₂=>?_) fun _ _ x=>x) fun _ _ x=>x)
 obtain⟨hT,h₂⟩:=h₂
 unfold subscriptTail
 refine wpAny_bind ?_
 rw[getitemInPython_of_ne hT.not_modules]
 refine wpAny_bind (wpAny_specialOf hT hl ?_)
 have fin:wpAny (model prog w) A (subscripted slice false o i) (fun r s₃=>wpAny (model prog w) A (letTemporaryGo value o r>>=fun _=>pure r) Q E s₃) E s₂:=by
  rw[hs o i]
  exact wpAny_operating (wpAny_mono h₂ (fun r s₃ h₃=>wpAny_bind (wpAny_letTemporaryGo (wpAny_pure h₃))) fun _ _ x=>x)
 first
  |exact wpAny_pure (wpAny_bind fin)
  |exact wpAny_bind (wpAny_pure (wpAny_bind fin))
  |exact wpAny_bind fin
theorem dict_typeIs {X:Cx}{pins:List (Addr×Obj)}{σ:St}{H:Hp}{s:Shared}{a:Addr}{y:V}{o:Option V}(I:Inv X pins σ H s)(g:DGet H a y o):s.TypeIs (.ref a) "dict":=by
 rcases g with ⟨kvs,k,e,_,_⟩|⟨kvs,k,b,e,_,_,_⟩
 ·obtain⟨_,_,vs,_,dd⟩:=dk_rd I.hok e
  exact dd.typeIs
 ·obtain⟨_,_,xs,_,dd⟩:=dt_rd I.hok e
  exact dd.typeIs
inductive tDGet_ (Q:VK)(x:V)(y:V)(H2:Hp):Prop where
 |mk (a) (v):(x=.ref a)→(DGet H2 a y (some v))→(Q v H2)→tDGet_ Q x y H2
def tDGet (td ty:TE):TE:=fun σ H Q=>td σ H fun x H1=>ty σ H1 (tDGet_ Q x)
def tDIn (ty td:TE):TE:=fun σ H Q=>ty σ H fun y H1=>td σ H1 fun x H2=>∃a o,x=.ref a∧DGet H2 a y o∧Q (.bl o.isSome) H2
inductive sDPut_ (D:Ends)(σ:St)(v:V)(x:V)(y:V)(H3:Hp):Prop where
 |mk (a) (H4):(x=.ref a)→(DPut H3 a y v H4)→(D.nx σ H4)→sDPut_ D σ v x y H3
def sDPut (td ty tv:TE):TS:=fun D σ H=>tv σ H fun v H1=>td σ H1 fun x H2=>ty σ H2 (sDPut_ D σ v x)
section
variable {X:Cx}{o i e value:Expr}{pos pos' tpos:Pos}{td ty tv:TE}
theorem pe_dget (hu:X.A.units+1<cLine)(ho:PE X o td)(hi:PE X i ty)(hs:NoSl i:=by intro _ _;rfl):PE X (.Subscript o i pos) (tDGet td ty):=by
 intro pins s σ H Q I h
 refine subD_of PySem.F.slot_dict_getitem.lookup hs (thn (ho pins s σ H _ I h) fun u s1 ⟨x,H1,I1,rx,q1⟩=>thn (hi pins s1 σ H1 _ I1 q1) fun iv s2 ⟨y,H2,I2,ry,a,v,ex,g,q2⟩=>?_)
 subst ex
 obtain rfl:u=Value.ref a:=rx
 exact⟨dict_typeIs I2 g,d_getItem hu I2 g ry fun w' s3 I3 rw'=>⟨v,H2,I3,rw',q2⟩⟩
theorem pc_din (hu:X.A.units+1<cLine)(hi:PE X i ty)(ho:PE X o td):PC X .In i o (tDIn ty td):=by
 intro pins s σ H Q I h
 refine thn (hi pins s σ H _ I h) fun iv s1 ⟨y,H1,I1,ry,q1⟩=>thn (ho pins s1 σ H1 _ I1 q1) fun u s2 ⟨x,H2,I2,rx,a,ov,ex,g,q2⟩=>?_
 subst ex
 obtain rfl:u=Value.ref a:=rx
 exact d_in hu I2 g ry fun s3 I3=>⟨.bl ov.isSome,H2,I3,rfl,q2⟩
theorem ps_dput (hu:X.A.units+1<cLine)(ho:PE X o td)(hi:PE X i ty)(hv:PE X value tv)(hs:swapsWith value (some (.Subscript o i pos')) pos.line X.env=pure false):
  PS X (.Assign [.Subscript o i pos'] value pos) (sDPut td ty tv):=by
 intro pins s σ H D I h
 refine wpAny_Assign_Subscript (thn (hv pins s σ H _ I h) fun r s1 ⟨v,H1,I1,rv,q1⟩=>thn (ho pins s1 σ H1 _ I1 q1) fun u s2 ⟨x,H2,I2,rx,q2⟩=>thn (hi pins s2 σ H2 _ I2 q2) fun iv s3 ⟨y,H3,I3,ry,a,H4,ex,g,q3⟩=>?_) hs
 subst ex
 obtain rfl:u=Value.ref a:=rx
 exact d_setItem hu I3 g ry rv fun s4 I4=>⟨σ,H4,I4,q3⟩
end
theorem dk_empty {P:Program}{w:World}{H:Hp}(h:Heap)(hb:sysModules<h.objs.size):ObjOk P w H (h.push {cls:=.type "dict",data:=.dict #[]}) h.objs.size (.dK []) :=
 ⟨Nat.zero_le _,beq_eq_false_iff_ne.mpr (Ne.symm (Nat.ne_of_lt hb)),[], .nil,Heap.DictOf.new h⟩
def tDNewK:TE:=fun _ H Q=>∀p,H p=none→Q (.ref p) (upd H p (.dK []))
section
variable {X:Cx}{pos:Pos}
theorem pe_dnewK:PE X (.Dict [] [] pos) tDNewK:=fun pins s σ H Q I h=>
 wpAny_Dict_empty ⟨.ref s.heap.objs.size,_,I.laid (a:=s.heap.objs.size) (o:=.dK []) (t':=s.toks) (fun _ _ q=>Heap.get?_push_of_some _ q) (Nat.le_refl _) (dk_empty s.heap I.big),rfl,h _ (I.hok.fresh (Nat.le_refl _))⟩
end
def mergeK (kvs more:List (Key×V)):List (Key×V):=more.foldl (fun acc kv=>putK acc kv.1 kv.2) kvs
theorem KV.merge:∀{more:List (Key×V)} {rs:List (Key×Value)} {kvs:List (Key×V)} {vs:List (Key×Value)},KV more rs→KV kvs vs→KV (mergeK kvs more) (merged vs rs):=by
 intro more rs kvs vs r
 unfold KV at r
 induction r generalizing kvs vs with
 |nil=>intro q;exact q
 |@cons p q ps qs h t ih=>
  intro r0
  have e:KV (putK kvs p.1 p.2) (stored vs q.1 q.2):=by
   have:=r0.put p.1 h.2
   rw[←h.1];exact this
  exact ih e
structure M2 (X:Cx)(o:Expr)(m:Str)(apos:Pos)(e f:Expr)(cpos:Pos):Prop where
 base:attributeBase o m X.env (eval o X.env)=eval o X.env
 few:((backTo cpos (starEach [e,f] X.env)).all (fun x=>!x.1)&&(backToKw cpos (keywordEach [] X.env)).all (fun x=>x.1.isSome)
  &&decide (([e,f]:List Expr).length+([]:List Keyword).length+(if([]:List Keyword).isEmpty then 0 else 1)<30))=true
 line:(apos.endLine==cpos.line)=true
 trees:backTo cpos (starEach [e,f] X.env)=[(false,eval e X.env),(false,eval f X.env)]
def IsD (H:Hp)(a:Addr):Prop:=(∃kvs,Rd H a (.dK kvs))∨∃kvs,Rd H a (.dT kvs)
theorem isD_at {X:Cx}{pins:List (Addr×Obj)}{σ:St}{H:Hp}{s:Shared}{a:Addr}(I:Inv X pins σ H s)(d:IsD H a):
  s.TypeIs (.ref a) "dict"∧(∀b,Value.ref a=.ref b→∃ob,s.heap.get? b=some ob∧ob.dict=none)∧(a==sysModules)=false:=by
 rcases d with ⟨kvs,e⟩|⟨kvs,e⟩
 ·obtain⟨_,hd,vs,_,dd⟩:=dk_rd I.hok e
  refine⟨dd.typeIs,fun b q=>?_,hd⟩
  cases q
  obtain⟨ob,_,_,h1,h2,_⟩:=dd
  exact⟨ob,h1,h2.2.1⟩
 ·obtain⟨_,hd,xs,_,dd⟩:=dt_rd I.hok e
  refine⟨dd.typeIs,fun b q=>?_,hd⟩
  cases q
  obtain⟨ob,_,_,h1,h2,_⟩:=dd
  exact⟨ob,h1,h2.2.1⟩
section
variable {X:Cx}{pins:List (Addr×Obj)}{σ:St}{H:Hp}{s:Shared}{a:Addr}{y d:V}{u r:Value}{o:Option V}{A:Around}{E:Value→Shared→Prop}
theorem d_get2 {Q:Value→Shared→Prop}(hu:A.units+1<cLine)(I:Inv X pins σ H s)(g:DGet H a y o)(ry:RelV y u)(rd:RelV d r)(h:∀w' s',Inv X pins σ H s'→RelV (o.getD d) w'→Q w' s'):
  wpAny (model X.prog X.w) A (call (.builtin "dict.get") [.ref a,u,r]) Q E s:=by
 rcases g with ⟨kvs,k,e,ey,l⟩|⟨kvs,k,b,e,ey,eb,l⟩
 ·subst ey
  obtain⟨z,hd,vs,rel,dd⟩:=dk_rd I.hok e
  refine call_meetsIn PySem.F.slot_dict_get dd.typeIs PySem.F.entry_dict_get (PySem.F.args_dict_get_3 _ _ _) (meets_dict_get_default (mixKind X.prog X.w) a (kV_is ry) hd r) ⟨_,dd.mapOf,h _ _ (I.tok _) ?_⟩
  rw[l]
  exact(rel.val k).getD rd
 ·subst ey
  cases(show u=Value.ref b from ry)
  obtain⟨z,hd,xs,rel,dd⟩:=dt_rd I.hok e
  refine call_meetsIn PySem.F.slot_dict_get dd.typeIs PySem.F.entry_dict_get (PySem.F.args_dict_get_3 _ _ _) (meetsH_dict_get_default (tupleKind (mixKind X.prog X.w)) a b hd r) ⟨tupleKind_room_in1 hu,k,xs,key_of I.hok eb,dd,h _ _ (I.tok _) ?_⟩
  rw[l]
  exact(rel.val k).getD rd
end
def tDGet2 (td ty tx:TE):TE:=fun σ H Q=>td σ H fun x H1=>∃a,x=.ref a∧IsD H1 a∧ty σ H1 fun y H2=>tx σ H2 fun z H3=>∃o,DGet H3 a y o∧Q (o.getD z) H3
section
variable {X:Cx}{o e f:Expr}{apos cpos:Pos}{td ty tx:TE}
theorem pe_dget2 (hu:X.A.units+1<cLine)(ho:PE X o td)(he:PE X e ty)(hf:PE X f tx)(m:M2 X o "get" apos e f cpos):PE X (.Call (.Attribute o "get" apos) [e,f] [] cpos) (tDGet2 td ty tx):=by
 intro pins s σ H Q I h
 refine wpAny_Call_method m.base m.few m.line PySem.F.plainAttrs_dict PySem.F.slot_dict_get PySem.F.type_dict_get (thn (ho pins s σ H _ I h) fun u s1 ⟨x,H1,I1,rx,a,ex,d,q1⟩=>?_)
 subst ex
 obtain rfl:u=Value.ref a:=rx
 obtain⟨t1,t2,_⟩:=isD_at I1 d
 refine⟨t1,t2,?_⟩
 rw[m.trees]
 refine Calls.callWith_builtin rfl (Calls.evalArgs_plain (Calls.spliced_cons (thn (he pins s1 σ H1 _ I1 q1) fun iv s2 ⟨y,H2,I2,ry,q2⟩=>
  Calls.spliced_cons (thn (hf pins s2 σ H2 _ I2 q2) fun fv s3 ⟨z,H3,I3,rz,ov,g,q3⟩=>Calls.spliced_nil ?_))))
 exact d_get2 hu I3 g ry rz fun w' s4 I4 rw'=>⟨_,H3,I4,rw',q3⟩
end
section
variable {X:Cx}{pins:List (Addr×Obj)}{σ:St}{H:Hp}{s:Shared}{a:Addr}{kvs:List (Key×V)}{A:Around}{E:Value→Shared→Prop}
end
section
variable {X:Cx}{pins:List (Addr×Obj)}{σ:St}{H:Hp}{s:Shared}{a:Addr}{y:V}{u:Value}{A:Around}{E:Value→Shared→Prop}
end
section
variable {X:Cx}
end
section
variable {κ:Type}[DecidableEq κ]
end
open PySem PySem.Spec PyProof.Rows PySem.W
theorem mix_rel {P:Program}{w:World}{k:Key}{v:Value}(h:(mixKind P w).is k v=true):RelV (kV k) v:=by
 cases k with
 |inl i=>exact⟨_,(Value.isInt_shape h).choose_spec⟩
 |inr z=>exact⟨_,(Value.isStrOf_shape h).choose_spec⟩
inductive r_call_list_d (xs:List V)(H:Hp)(Q:VK):Prop where
 |mk (a) (kvs):(xs=[V.ref a])→(H a=some (.dK kvs))→(∀l,H l=none→Q (.ref l) (upd H l (.lst (kvs.map fun kv=>kV kv.1))))→r_call_list_d xs H Q
theorem call_list_d {X:Cx}(hc:X.calm=true):CallR X (.type "list") r_call_list_d:=by
 intro pins s σ H xs us Q I r h
 obtain⟨a,kvs,rfl,e,q⟩:=h
 obtain⟨u,rfl,rx⟩:=vals1 r
 cases rx
 obtain⟨hz,hs,vs,kv,dd⟩:=dk_of I.hok e
 obtain⟨ep,hat⟩:=dd.dictAt
 have hl:=kv.length
 refine kdl_call (kdl_dict (knd:=mixKind X.prog X.w) (kvs:=vs) (ep:=ep) hs) (I.ok.hd hc) hat (by rw[←hl];exact hz) fun h' tk acc c kp hS hacc=>?_
 have hk:=kv.keys
 have va:Vals (kvs.map fun kv=>kV kv.1) acc.toList:=by
  refine Vals.of_get (by rw[List.length_map,hl,←hacc.1];simp) fun i x u ex eu=>?_
  have eu':acc[i]?=some u:=by simpa using eu
  obtain⟨k,y,hk1,hk2⟩:=hacc.2 i u eu'
  have q1:(kvs.map (·.1))[i]?=some k:=by rw[hk,List.getElem?_map,hk1];rfl
  have q2:(kvs.map fun kv=>kV kv.1)[i]?=some (kV k):=by
   rw[show(kvs.map fun kv=>kV kv.1)=(kvs.map (·.1)).map kV by rw[List.map_map];rfl,List.getElem?_map,q1];rfl
  rw[q2]at ex
  cases ex
  exact mix_rel hk2
 have ea:acc.toList.toArray=acc:=by simp
 exact⟨.ref s.heap.objs.size,_,I.laid (t':=tk) kp (Nat.le_refl _) (show ObjOk X.prog X.w _ h' _ (.lst (kvs.map fun kv=>kV kv.1)) from⟨by rw[List.length_map];exact hz,acc.toList,c,va,by rw[ea];exact hS⟩),rfl,q _ (I.hok.fresh (Nat.le_refl _))⟩
theorem valV_self {κ:Type}[DecidableEq κ]:∀{kvs:List (κ×V)},(kvs.map (·.1)).Nodup→∀kv∈kvs,valV kvs kv.1=some kv.2
 |[],_,_,h=>by cases h
 |p::r,nd,kv,h=>by
  rw[List.map_cons,List.nodup_cons]at nd
  rcases List.mem_cons.mp h with e|h
  ·subst e
   exact valV_pos rfl
  ·rw[valV_neg fun e=>nd.1 (by rw[e];exact List.mem_map_of_mem h)]
   exact valV_self nd.2 kv h
end L2
namespace PySem
open PyProof.Rows
section
variable {prog:Program}{w:World}{A:Around}{E:Value→Shared→Prop}{s:Shared}
theorem nextOfT_item {it t:Addr}{i:Nat}{xs:Array Value}{x:Value}{Q:Value→Shared→Prop}(hit:s.heap.IsTupleIter it t i)(ht:s.heap.IsTuple t xs)(hx:xs[i]?=some x)
  (hQ:∀h',h'.IsTupleIter it t (i+1)→Heap.SameBut it s.heap h'→Q x {s with heap:=h'}):wpAny (model prog w) A (Builtin.SmallTypes.nextOf (.ref it)) Q E s:=by
 obtain⟨o,ho,hc,hd⟩:=id hit
 obtain⟨u,hu,_,n,hn⟩:=ht
 unfold Builtin.SmallTypes.nextOf
 refine wpAny_bind (wpAny_callSpecial?_slot (name:=Str.ofString "__next__") hit.typeIs F.slot_tuple_iterator_next (wpAny_call_entry F.slot_tuple_iterator_next hit.typeIs F.entry_tuple_iterator_next ?_ (F.args_tuple_iterator_next_1 _)))
 show wpAny _ _ (field (.ref it) 0>>=_) _ _ s
 refine wpAny_bind (wpAny_field ho hd (x:=.ref t) rfl ?_)
 rw[if_neg (show ¬((Value.ref t==Value.none)=true) from Bool.false_ne_true)]
 show wpAny _ _ (field (.ref it) 1>>=_) _ _ s
 refine wpAny_bind (wpAny_field ho hd (x:=.int i 0) rfl ?_)
 show wpAny _ _ (seqItems? (.ref t)>>=_) _ _ s
 refine wpAny_bind (wpAny_seqItems hu hn ?_)
 simp only[Int.toNat_natCast,hx]
 refine wpAny_bind (wpAny_setField ho hd (by simp) (wpAny_pure ⟨x,rfl,wpAny_pure (hQ _ ⟨_,Heap.get?_update_self _ ho (Obj.isFreed_of_fields (Obj.data_mapFields hd _)),(Obj.cls_mapFields ..).trans hc,by rw[Obj.data_mapFields hd];simp[rawInt]⟩ (Heap.SameBut.update ..))⟩))
theorem nextOfT_end {it t:Addr}{i:Nat}{xs:Array Value}{Q:Value→Shared→Prop}(hh:A.handled=none)(hit:s.heap.IsTupleIter it t i)(ht:s.heap.IsTuple t xs)(hx:xs[i]?=none)
  (hE:∀h' e,Heap.ExtBut it s.heap h'→(∃o,h'.get? e=some o∧o.cls=.type "StopIteration")→E (.ref e) {s with heap:=h'}):wpAny (model prog w) A (Builtin.SmallTypes.nextOf (.ref it)) Q E s:=by
 obtain⟨o,ho,hc,hd⟩:=id hit
 obtain⟨u,hu,_,n,hn⟩:=ht
 unfold Builtin.SmallTypes.nextOf
 refine wpAny_bind (wpAny_callSpecial?_slot (name:=Str.ofString "__next__") hit.typeIs F.slot_tuple_iterator_next (wpAny_call_entry F.slot_tuple_iterator_next hit.typeIs F.entry_tuple_iterator_next ?_ (F.args_tuple_iterator_next_1 _)))
 show wpAny _ _ (field (.ref it) 0>>=_) _ _ s
 refine wpAny_bind (wpAny_field ho hd (x:=.ref t) rfl ?_)
 rw[if_neg (show ¬((Value.ref t==Value.none)=true) from Bool.false_ne_true)]
 show wpAny _ _ (field (.ref it) 1>>=_) _ _ s
 refine wpAny_bind (wpAny_field ho hd (x:=.int i 0) rfl ?_)
 show wpAny _ _ (seqItems? (.ref t)>>=_) _ _ s
 refine wpAny_bind (wpAny_seqItems hu hn ?_)
 simp only[Int.toNat_natCast,hx]
 refine wpAny_bind (wpAny_rule (wpAny_bind (wpAny_setField ho hd (by simp) ?_)))
 show wpAny _ _ (newExc (.type "StopIteration") []>>=_) _ _ _
 refine wpAny_bind ?_
 simp only[newExc,newTuple]
 refine wpAny_bind (wpAny_newObj_type ?_ (by size_fits))
 refine wpAny_bind (m:=firstArgMember _ _) (wpAny_of_eq (a:=Value.none) (by first|rfl|(simp only[firstArgMember];rfl)) ?_)
 refine wpAny_newObj_type ?_ (by size_fits)
 simp only[raiseNew]
 refine wpAny_bind (wpAny_handled ?_)
 first|rw[show A.in1.handled=none from hh]|rw[hh]
 exact wpAny_bind (wpAny_pure (wpAny_throw (hE _ _ (((Heap.SameBut.update ..).extBut.push _).push _) ⟨_,Heap.get?_push_size _ rfl,rfl⟩)))
structure ZipT (h:Heap)(z TI TO i1 i2 t1 t2:Addr)(k:Nat):Prop where
 nd:[z,TI,TO,i1,i2].Nodup
 zz:IsZip h z TI TO .none
 ti:IsPair h TI (.ref i1) (.ref i2)
 tO:∃a b,IsPair h TO a b
 j1:h.IsTupleIter i1 t1 k
 j2:h.IsTupleIter i2 t2 k
theorem zipT_item {z TI TO i1 i2 t1 t2:Addr}{k:Nat}{xs ys:Array Value}{x y:Value}{Q:Option Value→Shared→Prop}(Z:ZipT s.heap z TI TO i1 i2 t1 t2 k)(n1:t1∉[z,TO,i1,i2])(n2:t2∉[z,TO,i1,i2])
  (h1:s.heap.IsTuple t1 xs) (h2:s.heap.IsTuple t2 ys) (hx:xs[k]?=some x) (hy:ys[k]?=some y)
  (hQ:∀h',IsZip h' z TI TO (rawInt s.heap.objs.size)→IsPair h' TI (.ref i1) (.ref i2)→IsPair h' TO x y→h'.IsTupleIter i1 t1 (k+1)→h'.IsTupleIter i2 t2 (k+1)→IsPair h' s.heap.objs.size x y→h'.objs.size=s.heap.objs.size+1→
   (∀c o,c∉[z,TO,i1,i2]→s.heap.get? c=some o→h'.get? c=some o)→Q (some (.ref s.heap.objs.size)) {s with heap:=h'}):wpAny (model prog w) A (pyNext (.ref z)) Q E s:=by
 obtain⟨nd,zz,ti,⟨a,b,tO⟩,j1,j2⟩:=Z
 simp only[List.nodup_cons,List.mem_cons,List.not_mem_nil,or_false,not_or,List.nodup_nil,and_true,not_false_eq_true]at nd n1 n2
 obtain⟨⟨zTI,zTO,z1,z2⟩,⟨TITO,TI1,TI2⟩,⟨TO1,TO2⟩,i12⟩:=nd
 obtain⟨a1,a2,a3,a4⟩:=n1
 obtain⟨b1,b2,b3,b4⟩:=n2
 have hT:s.TypeIs (.ref z) "zip":=⟨_,zz,rfl⟩
 unfold pyNext
 refine wpAny_bind (wpAny_attempt (wpAny_callSpecial?_slot (name:=Str.ofString "__next__") hT F.slot_zip_next (wpAny_call_entry F.slot_zip_next hT F.entry_zip_next ?_ (F.args_zip_next_1 _))))
 show wpAny _ _ (field (.ref z) 2>>=_) _ _ _
 refine wpAny_bind (wpAny_field zz rfl (x:=.bool false) rfl ?_)
 show wpAny _ _ (field (.ref z) 3>>=_) _ _ _
 refine wpAny_bind (wpAny_field zz rfl (x:=.ref TI) rfl (wpAny_bind (wpAny_seqItems ti rfl ?_)))
 show wpAny _ _ (Builtin.SmallTypes.ownedTupleIsFree (.ref z)>>=_) _ _ _
 refine wpAny_bind ?_
 unfold Builtin.SmallTypes.ownedTupleIsFree
 refine wpAny_bind (wpAny_field zz rfl (x:=.none) rfl (wpAny_pure ?_))
 simp only[if_true]
 refine wpAny_bind (wpAny_rule (wpAny_bind (wpAny_field zz rfl (x:=.ref TO) rfl (wpAny_bind (wpAny_setField_rec zz (by simp) fun g1 q1 r1=>?_)))))
 replace q1:IsZip g1 z TI TO .ellipsis:=q1
 refine wpAny_bind ?_
 simp only[List.zipIdx_cons,List.zipIdx_nil,List.forIn_cons,List.forIn_nil]
 refine wpAny_bind (wpAny_bind (wpAny_onRaise ?_))
 show wpAny _ _ (Builtin.SmallTypes.nextOf (.ref i1)>>=_) _ _ _
 refine wpAny_bind (nextOfT_item (j1.extBut r1.extBut (Ne.symm z1)) (h1.extBut r1.extBut a1) hx fun g2 q2 r2=>wpAny_pure ?_)
 have tO2:IsPair g2 TO a b:=r2.extBut _ _ TO1 (r1.extBut _ _ (Ne.symm zTO) tO)
 refine wpAny_bind (wpAny_seqItems tO2 rfl (wpAny_bind (wpAny_updateSeq_pair tO2 fun g3 q3 r3=>?_)))
 replace q3:IsPair g3 TO x b:=q3
 refine wpAny_bind (wpAny_letGo (wpAny_pure ?_))
 refine wpAny_bind (wpAny_bind (wpAny_onRaise ?_))
 show wpAny _ _ (Builtin.SmallTypes.nextOf (.ref i2)>>=_) _ _ _
 refine wpAny_bind (nextOfT_item (((j2.extBut r1.extBut (Ne.symm z2)).extBut r2.extBut (Ne.symm i12)).extBut r3.extBut (Ne.symm TO2)) (((h2.extBut r1.extBut b1).extBut r2.extBut b3).extBut r3.extBut b2) hy fun g4 q4 r4=>wpAny_pure ?_)
 have tO4:IsPair g4 TO x b:=r4.extBut _ _ TO2 q3
 refine wpAny_bind (wpAny_seqItems tO4 rfl (wpAny_bind (wpAny_updateSeq_pair tO4 fun g5 q5 r5=>?_)))
 replace q5:IsPair g5 TO x y:=q5
 refine wpAny_bind (wpAny_letGo (wpAny_pure (wpAny_pure ?_)))
 refine wpAny_bind (wpAny_seqItems q5 rfl (wpAny_bind (wpAny_newTuple ?_)))
 have sz:g5.objs.size=s.heap.objs.size:=by rw[r5.1,r4.1,r3.1,r2.1,r1.1]
 have kp5:∀c o,c≠z→c≠TO→c≠i1→c≠i2→s.heap.get? c=some o→g5.get? c=some o:=fun c o c1 c2 c3 c4 e=>r5.extBut _ _ c2 (r4.extBut _ _ c4 (r3.extBut _ _ c2 (r2.extBut _ _ c3 (r1.extBut _ _ c1 e))))
 have zz5:IsZip g5 z TI TO .ellipsis:=r5.extBut _ _ zTO (r4.extBut _ _ z2 (r3.extBut _ _ zTO (r2.extBut _ _ z1 q1)))
 have k15:g5.IsTupleIter i1 t1 (k+1):=((q2.extBut r3.extBut (Ne.symm TO1)).extBut r4.extBut i12).extBut r5.extBut (Ne.symm TO1)
 have k25:g5.IsTupleIter i2 t2 (k+1):=q4.extBut r5.extBut (Ne.symm TO2)
 have ti5:IsPair g5 TI (.ref i1) (.ref i2):=kp5 _ _ (Ne.symm zTI) TITO TI1 TI2 ti
 show wpAny _ _ (Builtin.SmallTypes.ownedTupleHandOut (.ref z) (.ref g5.objs.size)>>=_) _ _ _
 refine wpAny_bind ?_
 unfold Builtin.SmallTypes.ownedTupleHandOut
 refine wpAny_bind (wpAny_setField_rec (Heap.get?_push_of_some _ zz5) (by simp) fun g7 q7 r7=>?_)
 replace q7:IsZip g7 z TI TO (rawInt g5.objs.size):=q7
 refine wpAny_setField_rec q7 (by simp) fun g8 q8 r8=>?_
 replace q8:IsZip g8 z TI TO (rawInt g5.objs.size):=q8
 have up:∀c o,c≠z→g5.get? c=some o→g8.get? c=some o:=fun c o c1 e=>r8.extBut _ _ c1 (r7.extBut _ _ c1 (Heap.get?_push_of_some _ e))
 have new:IsPair g8 g5.objs.size x y:=r8.extBut _ _ (Nat.ne_of_gt (Heap.lt_size zz5)) (r7.extBut _ _ (Nat.ne_of_gt (Heap.lt_size zz5)) (Heap.get?_push_size _ rfl))
 have sz8:g8.objs.size=s.heap.objs.size+1:=by rw[r8.1,r7.1,Heap.size_push,sz]
 rw[sz]at q8 new
 refine wpAny_pure ⟨_,rfl,?_⟩
 refine wpAny_pure ?_
 show Q (some (.ref g5.objs.size)) _
 rw[sz]
 exact hQ g8 q8 (up _ _ (Ne.symm zTI) ti5) (up _ _ (Ne.symm zTO) q5) (let ⟨o,e,r⟩:=k15;⟨o,up _ o (Ne.symm z1) e,r⟩) (let ⟨o,e,r⟩:=k25;⟨o,up _ o (Ne.symm z2) e,r⟩) new sz8 fun c o hc e=>by
  simp only[List.mem_cons,List.not_mem_nil,or_false,not_or]at hc
  exact up c o hc.1 (kp5 c o hc.1 hc.2.1 hc.2.2.1 hc.2.2.2 e)
theorem zipT_end {z TI TO i1 i2 t1 t2:Addr}{k:Nat}{xs:Array Value}{Q:Option Value→Shared→Prop}(hh:A.handled=none)(Z:ZipT s.heap z TI TO i1 i2 t1 t2 k)(n1:t1∉[z,TO,i1,i2])
  (h1:s.heap.IsTuple t1 xs) (hx:xs[k]?=none) (hQ:∀h',(∀c o,c∉[z,TO,i1,i2]→s.heap.get? c=some o→h'.get? c=some o)→Q none {s with heap:=h'}):wpAny (model prog w) A (pyNext (.ref z)) Q E s:=by
 obtain⟨nd,zz,ti,⟨a,b,tO⟩,j1,j2⟩:=Z
 simp only[List.nodup_cons,List.mem_cons,List.not_mem_nil,or_false,not_or,List.nodup_nil,and_true,not_false_eq_true]at nd n1
 obtain⟨⟨zTI,zTO,z1,z2⟩,⟨TITO,TI1,TI2⟩,⟨TO1,TO2⟩,i12⟩:=nd
 obtain⟨a1,a2,a3,a4⟩:=n1
 have hT:s.TypeIs (.ref z) "zip":=⟨_,zz,rfl⟩
 unfold pyNext
 refine wpAny_bind (wpAny_attempt (wpAny_callSpecial?_slot (name:=Str.ofString "__next__") hT F.slot_zip_next (wpAny_call_entry F.slot_zip_next hT F.entry_zip_next ?_ (F.args_zip_next_1 _))))
 show wpAny _ _ (field (.ref z) 2>>=_) _ _ _
 refine wpAny_bind (wpAny_field zz rfl (x:=.bool false) rfl ?_)
 show wpAny _ _ (field (.ref z) 3>>=_) _ _ _
 refine wpAny_bind (wpAny_field zz rfl (x:=.ref TI) rfl (wpAny_bind (wpAny_seqItems ti rfl ?_)))
 show wpAny _ _ (Builtin.SmallTypes.ownedTupleIsFree (.ref z)>>=_) _ _ _
 refine wpAny_bind ?_
 unfold Builtin.SmallTypes.ownedTupleIsFree
 refine wpAny_bind (wpAny_field zz rfl (x:=.none) rfl (wpAny_pure ?_))
 simp only[if_true]
 refine wpAny_bind (wpAny_rule (wpAny_bind (wpAny_field zz rfl (x:=.ref TO) rfl (wpAny_bind (wpAny_setField_rec zz (by simp) fun g1 q1 r1=>?_)))))
 replace q1:IsZip g1 z TI TO .ellipsis:=q1
 refine wpAny_bind ?_
 simp only[List.zipIdx_cons,List.zipIdx_nil,List.forIn_cons,List.forIn_nil]
 refine wpAny_bind (wpAny_bind (wpAny_onRaise ?_))
 show wpAny _ _ (Builtin.SmallTypes.nextOf (.ref i1)>>=_) _ _ _
 refine wpAny_bind (nextOfT_end hh (j1.extBut r1.extBut (Ne.symm z1)) (h1.extBut r1.extBut a1) hx fun g2 e r2 he=>?_)
 obtain⟨oe,ho,hc⟩:=he
 have zz2:IsZip g2 z TI TO .ellipsis:=r2 _ _ z1 q1
 have ez:e≠z:=fun q=>by subst q;rw[zz2]at ho;cases ho;simp at hc
 refine wpAny_setField_rec (s:={s with heap:=g2}) zz2 (by simp) fun g3 q3 r3=>?_
 refine wpAny_bind (wpAny_isInstance (T:="StopIteration") (b:=true) ⟨oe,r3.extBut _ _ ez ho,hc⟩ isSubtype_stop ?_)
 exact wpAny_pure (hQ _ fun c o hcc e=>by
  simp only[List.mem_cons,List.not_mem_nil,or_false,not_or]at hcc
  exact r3.extBut _ _ hcc.1 (r2 _ _ hcc.2.2.1 (r1.extBut _ _ hcc.1 e)))
abbrev zt1 (h:Heap)(t1:Addr):Heap:=h.push {cls:=.type "tuple_iterator",data:=.fields #[.ref t1, .int 0 0]}
abbrev zt2 (h:Heap)(t1 t2:Addr):Heap:=(zt1 h t1).push {cls:=.type "tuple_iterator",data:=.fields #[.ref t2, .int 0 0]}
abbrev zt3 (h:Heap)(t1 t2:Addr):Heap:=(zt2 h t1 t2).push {cls:=.type "tuple",data:=.seq #[.ref h.objs.size, .ref (zt1 h t1).objs.size]}
abbrev zt4 (h:Heap)(t1 t2:Addr):Heap:=(zt3 h t1 t2).push {cls:=.type "tuple",data:=.seq #[.none, .none]}
abbrev zt5 (h:Heap)(t1 t2:Addr):Heap:=(zt4 h t1 t2).push {cls:=.type "zip",data:=.fields #[.none, .bool false, .bool false, .ref (zt2 h t1 t2).objs.size, .ref (zt3 h t1 t2).objs.size]}
theorem meets_zipT (t1 t2:Addr)(xs ys:Array Value):
  Meets (Builtin.«zip.__new__» ⟨[.type "zip", .ref t1, .ref t2],[]⟩) (fun _ R s=>s.heap.IsTuple t1 xs∧s.heap.IsTuple t2 ys∧R (.ok (.ret (.ref (zt4 s.heap t1 t2).objs.size))) {s with heap:=zt5 s.heap t1 t2}) :=
 .of_wp fun prog w A R s h=>by
  obtain⟨hp,g,d,tk,os⟩:=s
  obtain⟨h1,h2,h⟩:=h
  have hsub:=sub_zip
  have q1:Heap.IsTuple (Shared.heap ⟨hp,g,d,tk,os⟩) t1 xs:=h1
  have q2:Heap.IsTuple (Shared.heap ⟨hp.push {cls:=.type "tuple_iterator",data:=.fields #[.ref t1, .int 0 0]},g,d,tk,os⟩) t2 ys:=Heap.IsTuple.push h2 _
  wp_walk using wpAny_pyIter_tuple q1,wpAny_pyIter_tuple q2
  exact⟨_,rfl,h⟩
theorem call_zipT {t1 t2:Addr}{xs ys:Array Value}{Q:Value→Shared→Prop}(h1:s.heap.IsTuple t1 xs)(h2:s.heap.IsTuple t2 ys)
  (h:∀h' z TI TO i1 i2,s.heap.objs.size≤z→s.heap.objs.size≤TI→s.heap.objs.size≤TO→s.heap.objs.size≤i1→s.heap.objs.size≤i2→ZipT h' z TI TO i1 i2 t1 t2 0→(∀c o,s.heap.get? c=some o→h'.get? c=some o)→Q (.ref z) {s with heap:=h'}):
  wpAny (model prog w) A (call (.type "zip") [.ref t1, .ref t2]) Q E s:=by
 refine callType_new F.called_zip (by decide) (F.typeCall_zip_2 _ _) (F.newCall_zip_2 _ _) (fun obj=>F.args_object_init_3 obj _ _) F.entry_zip_new (meets_zipT t1 t2 xs ys) ⟨h1,h2,?_⟩
 have z1:(zt1 s.heap t1).objs.size=s.heap.objs.size+1:=Heap.size_push ..
 have z2:(zt2 s.heap t1 t2).objs.size=s.heap.objs.size+2:=by rw[Heap.size_push,z1]
 have z3:(zt3 s.heap t1 t2).objs.size=s.heap.objs.size+3:=by rw[Heap.size_push,z2]
 have z4:(zt4 s.heap t1 t2).objs.size=s.heap.objs.size+4:=by rw[Heap.size_push,z3]
 have p5:(zt5 s.heap t1 t2).get? (zt4 s.heap t1 t2).objs.size=some _:=Heap.get?_push_size _ rfl
 have p4:(zt5 s.heap t1 t2).get? (zt3 s.heap t1 t2).objs.size=some _:=Heap.get?_push_of_some _ (Heap.get?_push_size _ rfl)
 have p3:(zt5 s.heap t1 t2).get? (zt2 s.heap t1 t2).objs.size=some _:=Heap.get?_push_of_some _ (Heap.get?_push_of_some _ (Heap.get?_push_size _ rfl))
 have p2:(zt5 s.heap t1 t2).get? (zt1 s.heap t1).objs.size=some _:=Heap.get?_push_of_some _ (Heap.get?_push_of_some _ (Heap.get?_push_of_some _ (Heap.get?_push_size _ rfl)))
 have p1:(zt5 s.heap t1 t2).get? s.heap.objs.size=some _:=Heap.get?_push_of_some _ (Heap.get?_push_of_some _ (Heap.get?_push_of_some _ (Heap.get?_push_of_some _ (Heap.get?_push_size _ rfl))))
 refine⟨⟨_,p5,rfl⟩,h _ _ _ _ _ _ ?_ ?_ ?_ (Nat.le_refl _) ?_ ⟨?_,p5,p3,⟨_,_,p4⟩,⟨_,p1,rfl,rfl⟩,⟨_,p2,rfl,rfl⟩⟩ fun c o e=>Heap.get?_push_of_some _ (Heap.get?_push_of_some _ (Heap.get?_push_of_some _ (Heap.get?_push_of_some _ (Heap.get?_push_of_some _ e))))⟩
 ·rw[z4];exact Nat.le_add_right _ _
 ·rw[z2];exact Nat.le_add_right _ _
 ·rw[z3];exact Nat.le_add_right _ _
 ·rw[z1];exact Nat.le_add_right _ _
 ·rw[z1,z2,z3,z4]
  generalize s.heap.objs.size=n
  simp only[List.nodup_cons,List.mem_cons,List.not_mem_nil,or_false,not_or,List.nodup_nil,and_true,not_false_eq_true]
  refine⟨⟨?_,?_,?_,?_⟩,⟨?_,?_,?_⟩,⟨?_,?_⟩,?_⟩<;>(intro q;simp at q)
end
end PySem
namespace L2
open PySem PySem.Spec PyProof.Rows
def compOkM (osc:Scope)(N:List Str)(frees:List Str)(idx:List Nat)(scope:Scope):Bool :=
 scope.kind==.function&&(scope.names.all (fun y=>y.2 !=.cell)&&(scope.names.all (fun y=>y.2 !=.local||scope.names.lookup y.1==some .local)&&(scope.names.all (fun y=>y.2 !=.free||(osc.names.lookup y.1==some .cell||osc.names.lookup y.1==some .free))&&
 (idx.length==frees.length&&((idx.zip frees).all (fun p=>N[p.1]?==some p.2)&&frees.all (fun y=>scope.names.lookup y==some .free))))))
theorem compOkM_scope {X:Cx}{osc:Scope}{N:List Str}{frees:List Str}{idx:List Nat}{scope:Scope}(h:compOkM osc N frees idx scope=true)(ho:X.env.scope=osc)(hN:X.N=N):
  CompScopeM X frees idx scope∧∀y∈frees,scope.names.lookup y=some .free:=by
 unfold compOkM at h
 simp only[Bool.and_eq_true,List.all_eq_true,Bool.or_eq_true,bne_iff_ne,beq_iff_eq,decide_eq_true_eq]at h
 obtain⟨h1,h2,h3,h4,h7,h8,h9⟩:=h
 have fl:∀y∈frees,scope.names.lookup y=some .free:=fun y hy=>h9 y hy
 refine⟨⟨h1,h2,fun y hy e=>?_,fun y hy e=>?_,fun j y hj=>?_,h7,fun y hy=>mem_of_lookup' (fl y hy)⟩,fl⟩
 ·rcases h3 y hy with q|q
  ·exact absurd e q
  ·exact q
 ·have q:osc.names.lookup y.1=some .cell∨osc.names.lookup y.1=some .free:=by
   rcases h4 y hy with q|q
   ·exact absurd e q
   ·exact q
  rw[←ho]at q
  exact q
 ·obtain⟨k,e1,e2⟩:=zip_get h7 hj
  exact⟨k,e1,by rw[hN];exact h8 (k,y) e2⟩
theorem pe_lcM {X:Cx}{elt iter tg:Expr}{pos:Pos}{ifs:List Expr}{scope:Scope}{wi:TI}{g:TG}{tt:TT}{te:TE}(osc:Scope)(N:List Str)(M frees:List Str)(idx:List Nat)
  (hk:compOkM osc N frees idx scope=true) (hi:PI X tg iter wi) (hg:∀C s₀ H₀ ex,PG (cxComp X (M++frees) scope C s₀ H₀ ex) tg g)
  (ht:∀C s₀ H₀ ex,PTs (cxComp X (M++frees) scope C s₀ H₀ ex) ifs tt) (he:∀C s₀ H₀ ex,PE (cxComp X (M++frees) scope C s₀ H₀ ex) elt te)
  (ho:X.env.scope=osc:=by rfl) (hN:X.N=N:=by rfl) (hc:X.calm=true:=by rfl) (hs:∀v,foldedSetIterable iter X.env v=pure v:=by intro _;rfl):PE X (.ListComp elt [⟨tg,iter,ifs,0⟩] scope pos) (tCompM M.length idx wi g tt te):=by
 obtain⟨S,fl⟩:=compOkM_scope (X:=X) hk ho hN
 exact pe_lcompM (qt:=Calm) (fun _ _ _ _=>hc) S fl hi hg ht he hs
section
variable {X:Cx}{pins:List (Addr×Obj)}{σ:St}{H:Hp}{s:Shared}{h':Heap}
theorem Inv.turnedL {t':Nat}{ch:List Addr}(I:Inv X pins σ H s)(k:∀b o,b∉ch→s.heap.get? b=some o→h'.get? b=some o)(hf:∀b∈ch,FpOk X pins H b):Inv X pins σ H {s with heap:=h',toks:=t'}:=by
 have nit:∀b u,H b=some u→b∉ch:=fun b u e z=>by rw[(hf b z).1]at e;cases e
 refine I.step (g':=s.gens) (d':=s.drawn) (ch:=ch) (fun b hb=>?_) (fun b o _ _ hc e _=>k b o hc e) (fun b o _ _ hc e _=>⟨o.slots,k b o hc e⟩) (fun _ _ _ _ n=>n)
  (fun b o hc e=>⟨o,k b o hc e⟩) (fun _ _ e=>e) (fun _ _ _ e=>e) (fun b ps e=>⟨#[],by rw[e];simp⟩) (fun m hm=>?_) (fun b u e=>?_) I.bare
 ·obtain⟨f0,f1,f2,f3,f4,f5⟩:=hf b hb
  exact⟨f3,f1,f4,f5⟩
 ·obtain⟨o,es,ep,ho,r⟩:=hm
  exact⟨o,es,ep,k _ o (fun z=>(hf _ z).2.1 rfl) ho,r⟩
 ·refine(I.hok b u e).stay (fun c v hc q=>k c v ?_ q) (fun _ q=>q) fun _ _ q=>q
  rcases hc with z|z
  ·rw[z];exact nit b u e
  ·exact nit c _ z
theorem Inv.trackT {D:Addr}{vs:List V}{its:List Value}(I:Inv X pins σ H s)(hf:FpOk X pins H D)(hz:vs.length≤sizeLine)(hv:Vals vs its)(e:IsTup s.heap D its.toArray):Inv X pins σ (upd H D (.tup vs)) s:=by
 obtain⟨hD,h2,_,h1,h3,h4⟩:=hf
 obtain⟨hh,g,d,t,o⟩:=s
 have nD:∀b u,H b=some u→b≠D:=fun b u q z=>by rw[z,hD]at q;cases q
 refine I.step (g':=g) (d':=d) (t':=t) (h':=hh) (ch:=[D]) (fun b hb=>?_) (fun b o _ _ _ q _=>q) (fun b o _ _ _ q _=>⟨o.slots,q⟩) (fun b o hb q n=>?_) (fun b o _ q=>⟨o,q⟩)
  (fun b xs q=>by rw[upd_ne (nD b _ q)];exact q) (fun b o u q=>by rw[upd_ne (nD b _ q)];exact q) (fun b ps q=>⟨#[],by rw[upd_ne (nD b _ q),q];simp⟩) (fun m q=>q) (fun b u q=>?_) I.bare
 ·have z:b=D:=by simpa using hb
  subst z
  exact⟨h1,h2,h3,h4⟩
 ·rw[upd_ne (by simpa using hb)];exact n
 ·by_cases z:b=D
  ·subst z
   rw[upd_same]at q;cases q
   exact⟨hz,its,hv,e⟩
  ·rw[upd_ne z]at q
   exact(I.hok b u q).stay (fun _ _ _ q=>q) (fun c q=>by rw[upd_ne (nD c _ q)];exact q) fun c xs q=>by rw[upd_ne (nD c _ q)];exact q
end
def Itz (a b:Addr):It :=
 ⟨fun i H=>∃xs ys x y,H a=some (.tup xs)∧H b=some (.tup ys)∧xs[i]?=some x∧ys[i]?=some y,
  fun i H v H'=>∃(T:Addr) (xs ys:List V) (x y:V),H a=some (.tup xs)∧H b=some (.tup ys)∧xs[i]?=some x∧ys[i]?=some y∧H T=none∧v=.ref T∧H'=upd H T (.tup [x,y]),
  fun i H=>∃xs,H a=some (.tup xs)∧xs.length≤i⟩
theorem turn_zip {P:Program}{w:World}{K:PySem.W.Frag}{elts:List Expr}{x1}{pos:Pos}(a b z TI TO i1 i2:Addr):Turn P w K (.Tuple elts x1 pos) (Itz a b) [z,TI,TO,i1,i2] z (fun i h=>ZipT h z TI TO i1 i2 a b i) where
 mem:=by simp
 obj:=fun i h st c hc=>by
  simp only[List.mem_cons,List.not_mem_nil,or_false]at hc
  obtain⟨nd,zz,ti,⟨u,v,tO⟩,⟨o1,j1,c1,d1⟩,⟨o2,j2,c2,d2⟩⟩:=st
  rcases hc with rfl|rfl|rfl|rfl|rfl
  ·exact⟨_,zz,fun v q=>by cases q⟩
  ·exact⟨_,ti,fun v q=>by cases q⟩
  ·exact⟨_,tO,fun v q=>by cases q⟩
  ·exact⟨o1,j1,fun v q=>by rw[d1]at q;cases q⟩
  ·exact⟨o2,j2,fun v q=>by rw[d2]at q;cases q⟩
 keep:=fun i h h' st k=>by
  obtain⟨nd,zz,ti,⟨u,v,tO⟩,⟨o1,j1,r1⟩,⟨o2,j2,r2⟩⟩:=st
  exact⟨nd,k _ (by simp) _ zz,k _ (by simp) _ ti,⟨u,v,k _ (by simp) _ tO⟩,⟨o1,k _ (by simp) _ j1,r1⟩,⟨o2,k _ (by simp) _ j2,r2⟩⟩
 item:=by
  intro X hP hw hK hc i pins s σ H E I hf st hg
  subst hP hw hK
  obtain⟨xs,ys,x,y,ha,hb,hx,hy⟩:=hg
  obtain⟨its1,rv1,p1,z1⟩:=I.tuple (SqT.of ha)
  obtain⟨its2,rv2,p2,z2⟩:=I.tuple (SqT.of hb)
  obtain⟨u1,hu1,ru1⟩:=rv1.get hx
  obtain⟨u2,hu2,ru2⟩:=rv2.get hy
  have sub:∀c∈[z,TO,i1,i2],c∈[z,TI,TO,i1,i2]:=fun c hc=>by
   simp only[List.mem_cons,List.not_mem_nil,or_false]at hc ⊢
   rcases hc with h|h|h|h
   ·exact .inl h
   ·exact .inr (.inr (.inl h))
   ·exact .inr (.inr (.inr (.inl h)))
   ·exact .inr (.inr (.inr (.inr h)))
  have no:∀c u,H c=some u→c∉[z,TO,i1,i2]:=fun c u e q=>by rw[(hf c (sub c q)).1]at e;cases e
  have lt:∀c∈[z,TI,TO,i1,i2],c<s.heap.objs.size:=fun c hc=>by
   simp only[List.mem_cons,List.not_mem_nil,or_false]at hc
   obtain⟨nd,zz,ti,⟨u,v,tO⟩,⟨o1,j1,c1,d1⟩,⟨o2,j2,c2,d2⟩⟩:=st
   rcases hc with rfl|rfl|rfl|rfl|rfl
   ·exact Heap.lt_size zz
   ·exact Heap.lt_size ti
   ·exact Heap.lt_size tO
   ·exact Heap.lt_size j1
   ·exact Heap.lt_size j2
  refine zipT_item st (no a _ ha) (no b _ hb) (show s.heap.IsTuple a its1.toArray from p1) (show s.heap.IsTuple b its2.toArray from p2) (x:=u1) (y:=u2) (by simpa using hu1) (by simpa using hu2) fun h' q1 q2 q3 q4 q5 q6 _ kp=>⟨_,rfl,?_⟩
  refine wpAny_letOwnedTupleGo_zip (s:={s with heap:=h'}) q1 fun h2 q7 r7=>?_
  have nd:=st.nd
  have I1:Inv X pins σ H {s with heap:=h2}:=I.turnedL (t':=s.toks) (ch:=[z,TO,i1,i2]) (fun c o hc e=>r7.extBut c o (fun q=>hc (by simp[q])) (kp c o hc e)) fun c hc=>hf c (sub c hc)
  have fr:H s.heap.objs.size=none:=I.hok.fresh (Nat.le_refl _)
  have ne:∀c∈[z,TI,TO,i1,i2],c≠s.heap.objs.size:=fun c hc q=>by have:=lt c hc;rw[q]at this;exact Nat.lt_irrefl _ this
  have I2:=I1.trackT (D:=s.heap.objs.size) (vs:=[x,y]) (its:=[u1,u2]) (I.fpOk (Nat.le_refl _) fr) (by show 2≤sizeLine;rw[sizeLine_eq];decide) (.cons ru1 (.cons ru2 .nil)) ⟨_,r7.extBut _ _ (Ne.symm (ne z (by simp))) q6,rfl,_,rfl⟩
  simp only[List.nodup_cons,List.mem_cons,List.not_mem_nil,or_false,not_or,List.nodup_nil,and_true,not_false_eq_true]at nd
  obtain⟨⟨zTI,zTO,z1',z2'⟩,_⟩:=nd
  refine⟨.ref s.heap.objs.size,_,I2,rfl,⟨_,xs,ys,x,y,ha,hb,hx,hy,fr,rfl,rfl⟩,⟨st.nd,q7,r7.extBut _ _ (Ne.symm zTI) q2,⟨_,_,r7.extBut _ _ (Ne.symm zTO) q3⟩,q4.extBut r7.extBut (Ne.symm z1'),q5.extBut r7.extBut (Ne.symm z2')⟩,fun c hc=>?_⟩
  rw[upd_ne (ne c hc)]
  exact(hf c hc).1
 done:=by
  intro X hP hw hK hc i pins s σ H E I hf st hg
  subst hP hw hK
  obtain⟨xs,ha,hx⟩:=hg
  obtain⟨its1,rv1,p1,z1⟩:=I.tuple (SqT.of ha)
  have hl:=rv1.length
  have sub:∀c∈[z,TO,i1,i2],c∈[z,TI,TO,i1,i2]:=fun c hc=>by
   simp only[List.mem_cons,List.not_mem_nil,or_false]at hc ⊢
   rcases hc with h|h|h|h
   ·exact .inl h
   ·exact .inr (.inr (.inl h))
   ·exact .inr (.inr (.inr (.inl h)))
   ·exact .inr (.inr (.inr (.inr h)))
  have no:∀c u,H c=some u→c∉[z,TO,i1,i2]:=fun c u e q=>by rw[(hf c (sub c q)).1]at e;cases e
  exact zipT_end (I.ok.hd hc) st (no a _ ha) (show s.heap.IsTuple a its1.toArray from p1) (by simp;exact Nat.le_trans (Nat.le_of_eq hl.symm) hx) fun h' kp=>⟨rfl,I.turnedL (t':=s.toks) (ch:=[z,TO,i1,i2]) kp fun c hc=>hf c (sub c hc)⟩
 self:=fun _ _ _ _ _ st h=>wpAny_pyIter_zip st.zz h
theorem boot_zip':bootBuiltins "zip"=some (.type "zip"):=by decide+kernel
def iZip (ta:TA):TI:=fun σ H R=>ta σ H fun vs H1=>∃a b xs ys,vs=[.ref a, .ref b]∧H1 a=some (.tup xs)∧H1 b=some (.tup ys)∧R (Itz a b) H1
theorem pi_zip {X:Cx}{e1 e2:Expr}{ta:TA}{p pos pt:Pos}{elts:List Expr}{x1}(hg:Gl X "zip")(hm:X.mg "zip"=none)(ha:PA X [e1,e2] ta)
  (hs:starEach [e1,e2] X.env=[(false,eval e1 X.env),(false,eval e2 X.env)]:=by rfl) (hs2:starEach [e2] X.env=[(false,eval e2 X.env)]:=by rfl):PI X (.Tuple elts x1 pt) (.Call (.Name "zip" p) [e1,e2] [] pos) (iZip ta):=by
 intro pins s σ H R I h
 refine Call_ (ld_blt I hg hm boot_zip' (PyProof.Rows.callWith_type1 (thn (ha pos pins s σ H _ I h) fun us s1 ⟨vs,H1,I1,r1,q1⟩=>?_) (by rw[hs,hs2]) (by rw[hs2];rfl)))
 obtain⟨a,b,xs,ys,rfl,h1,h2,q⟩:=q1
 cases r1 with
 |cons r rr=>
  cases rr with
  |cons r' rr=>
   cases rr
   cases r
   cases r'
   obtain⟨its1,rv1,p1,z1⟩:=I1.tuple (SqT.of h1)
   obtain⟨its2,rv2,p2,z2⟩:=I1.tuple (SqT.of h2)
   refine call_zipT (show s1.heap.IsTuple a its1.toArray from p1) (show s1.heap.IsTuple b its2.toArray from p2) fun h' z TI TO i1 i2 l1 l2 l3 l4 l5 Z kp=>?_
   refine wpAny_pyIter_zip (s:={s1 with heap:=h'}) Z.zz ?_
   refine⟨z,[z,TI,TO,i1,i2],_,_,H1,rfl,I1.kept (t':=s1.toks) kp,turn_zip a b z TI TO i1 i2,Z,fun c hc=>?_,q⟩
   simp only[List.mem_cons,List.not_mem_nil,or_false]at hc
   rcases hc with rfl|rfl|rfl|rfl|rfl
   ·exact I1.fpOk l1 (I1.hok.fresh l1)
   ·exact I1.fpOk l2 (I1.hok.fresh l2)
   ·exact I1.fpOk l3 (I1.hok.fresh l3)
   ·exact I1.fpOk l4 (I1.hok.fresh l4)
   ·exact I1.fpOk l5 (I1.hok.fresh l5)
end L2
namespace PySem
open PyProof.Rows
def kit:Bool→String
 |true=>"list_iterator"
 |false=>"tuple_iterator"
def kin:Bool→String
 |true=>"list"
 |false=>"tuple"
def SIt (b:Bool)(h:Heap)(a t:Addr)(i:Nat):Prop:=∃o,h.get? a=some o∧o.cls=.type (kit b)∧o.data=.fields #[.ref t, .int i 0]
def SSq (b:Bool)(h:Heap)(a:Addr)(xs:Array Value):Prop:=∃o,h.get? a=some o∧o.cls=.type (kin b)∧∃n,o.data=.seq xs n
theorem SIt.extBut {b:Bool}{h h':Heap}{a c t:Addr}{i:Nat}(x:SIt b h a t i)(hs:Heap.ExtBut c h h')(n:a≠c):SIt b h' a t i:=let ⟨o,e,r⟩:=x;⟨o,hs _ _ n e,r⟩
theorem SSq.extBut {b:Bool}{h h':Heap}{a c:Addr}{xs:Array Value}(x:SSq b h a xs)(hs:Heap.ExtBut c h h')(n:a≠c):SSq b h' a xs:=let ⟨o,e,r⟩:=x;⟨o,hs _ _ n e,r⟩
section
variable {prog:Program}{w:World}{A:Around}{E:Value→Shared→Prop}{s:Shared}
theorem nextOfL_item {it t:Addr}{i:Nat}{xs:Array Value}{x:Value}{Q:Value→Shared→Prop}(hit:s.heap.IsListIter it t i)(ht:s.heap.IsList t xs)(hx:xs[i]?=some x)
  (hQ:∀h',h'.IsListIter it t (i+1)→Heap.SameBut it s.heap h'→Q x {s with heap:=h'}):wpAny (model prog w) A (Builtin.SmallTypes.nextOf (.ref it)) Q E s:=by
 obtain⟨o,ho,hc,hd⟩:=id hit
 obtain⟨u,hu,_,n,hn⟩:=ht
 unfold Builtin.SmallTypes.nextOf
 refine wpAny_bind (wpAny_callSpecial?_slot (name:=Str.ofString "__next__") hit.typeIs slot_listiter_next (wpAny_call_entry slot_listiter_next hit.typeIs entry_listiter_next ?_ (args_listiter_next _)))
 show wpAny _ _ (field (.ref it) 0>>=_) _ _ s
 refine wpAny_bind (wpAny_field ho hd (x:=.ref t) rfl ?_)
 rw[if_neg (show ¬((Value.ref t==Value.none)=true) from Bool.false_ne_true)]
 show wpAny _ _ (field (.ref it) 1>>=_) _ _ s
 refine wpAny_bind (wpAny_field ho hd (x:=.int i 0) rfl ?_)
 show wpAny _ _ (seqItems? (.ref t)>>=_) _ _ s
 refine wpAny_bind (wpAny_seqItems hu hn ?_)
 simp only[Int.toNat_natCast,hx]
 refine wpAny_bind (wpAny_setField ho hd (by simp) (wpAny_pure ⟨x,rfl,wpAny_pure (hQ _ ⟨_,Heap.get?_update_self _ ho (Obj.isFreed_of_fields (Obj.data_mapFields hd _)),(Obj.cls_mapFields ..).trans hc,by rw[Obj.data_mapFields hd];simp[rawInt]⟩ (Heap.SameBut.update ..))⟩))
theorem nextOfL_end {it t:Addr}{i:Nat}{xs:Array Value}{Q:Value→Shared→Prop}(hh:A.handled=none)(hit:s.heap.IsListIter it t i)(ht:s.heap.IsList t xs)(hx:xs[i]?=none)
  (hE:∀h' e,Heap.ExtBut it s.heap h'→(∃o,h'.get? e=some o∧o.cls=.type "StopIteration")→E (.ref e) {s with heap:=h'}):wpAny (model prog w) A (Builtin.SmallTypes.nextOf (.ref it)) Q E s:=by
 obtain⟨o,ho,hc,hd⟩:=id hit
 obtain⟨u,hu,_,n,hn⟩:=ht
 unfold Builtin.SmallTypes.nextOf
 refine wpAny_bind (wpAny_callSpecial?_slot (name:=Str.ofString "__next__") hit.typeIs slot_listiter_next (wpAny_call_entry slot_listiter_next hit.typeIs entry_listiter_next ?_ (args_listiter_next _)))
 show wpAny _ _ (field (.ref it) 0>>=_) _ _ s
 refine wpAny_bind (wpAny_field ho hd (x:=.ref t) rfl ?_)
 rw[if_neg (show ¬((Value.ref t==Value.none)=true) from Bool.false_ne_true)]
 show wpAny _ _ (field (.ref it) 1>>=_) _ _ s
 refine wpAny_bind (wpAny_field ho hd (x:=.int i 0) rfl ?_)
 show wpAny _ _ (seqItems? (.ref t)>>=_) _ _ s
 refine wpAny_bind (wpAny_seqItems hu hn ?_)
 simp only[Int.toNat_natCast,hx]
 refine wpAny_bind (wpAny_rule (wpAny_bind (wpAny_setField ho hd (by simp) ?_)))
 show wpAny _ _ (newExc (.type "StopIteration") []>>=_) _ _ _
 refine wpAny_bind ?_
 simp only[newExc,newTuple]
 refine wpAny_bind (wpAny_newObj_type ?_ (by size_fits))
 refine wpAny_bind (m:=firstArgMember _ _) (wpAny_of_eq (a:=Value.none) (by first|rfl|(simp only[firstArgMember];rfl)) ?_)
 refine wpAny_newObj_type ?_ (by size_fits)
 simp only[raiseNew]
 refine wpAny_bind (wpAny_handled ?_)
 first|rw[show A.in1.handled=none from hh]|rw[hh]
 exact wpAny_bind (wpAny_pure (wpAny_throw (hE _ _ (((Heap.SameBut.update ..).extBut.push _).push _) ⟨_,Heap.get?_push_size _ rfl,rfl⟩)))
theorem nextOfG_item {b:Bool}{it t:Addr}{i:Nat}{xs:Array Value}{x:Value}{Q:Value→Shared→Prop}(hit:SIt b s.heap it t i)(ht:SSq b s.heap t xs)(hx:xs[i]?=some x)
  (hQ:∀h',SIt b h' it t (i+1)→Heap.SameBut it s.heap h'→Q x {s with heap:=h'}):wpAny (model prog w) A (Builtin.SmallTypes.nextOf (.ref it)) Q E s:=by
 cases b with
 |true=>exact nextOfL_item hit ht hx hQ
 |false=>exact nextOfT_item hit ht hx hQ
theorem nextOfG_end {b:Bool}{it t:Addr}{i:Nat}{xs:Array Value}{Q:Value→Shared→Prop}(hh:A.handled=none)(hit:SIt b s.heap it t i)(ht:SSq b s.heap t xs)(hx:xs[i]?=none)
  (hE:∀h' e,Heap.ExtBut it s.heap h'→(∃o,h'.get? e=some o∧o.cls=.type "StopIteration")→E (.ref e) {s with heap:=h'}):wpAny (model prog w) A (Builtin.SmallTypes.nextOf (.ref it)) Q E s:=by
 cases b with
 |true=>exact nextOfL_end hh hit ht hx hE
 |false=>exact nextOfT_end hh hit ht hx hE
theorem SSq.up {b:Bool}{h h':Heap}{a:Addr}{xs:Array Value}(x:SSq b h a xs)(k:∀o,h.get? a=some o→h'.get? a=some o):SSq b h' a xs:=x.elim fun o e=>⟨o,k o e.1,e.2⟩
theorem SIt.up {b:Bool}{h h':Heap}{a t:Addr}{i:Nat}(x:SIt b h a t i)(k:∀o,h.get? a=some o→h'.get? a=some o):SIt b h' a t i:=x.elim fun o e=>⟨o,k o e.1,e.2⟩
end
end PySem
namespace L2
open PySem PySem.Spec PyProof.Rows
end L2
namespace PySem
open PyProof.Rows
section
variable {prog:Program}{w:World}{A:Around}{E:Value→Shared→Prop}{s:Shared}
structure ZipG (K1 K2:Bool)(h:Heap)(z TI TO i1 i2 t1 t2:Addr)(k:Nat):Prop where
 nd:[z,TI,TO,i1,i2].Nodup
 zz:IsZip h z TI TO .none
 ti:IsPair h TI (.ref i1) (.ref i2)
 tO:∃a b,IsPair h TO a b
 j1:SIt K1 h i1 t1 k
 j2:SIt K2 h i2 t2 k
theorem zipG_item {K1 K2:Bool}{z TI TO i1 i2 t1 t2:Addr}{k:Nat}{xs ys:Array Value}{x y:Value}{Q:Option Value→Shared→Prop}(Z:ZipG K1 K2 s.heap z TI TO i1 i2 t1 t2 k)(n1:t1∉[z,TO,i1,i2])(n2:t2∉[z,TO,i1,i2])
  (h1:SSq K1 s.heap t1 xs) (h2:SSq K2 s.heap t2 ys) (hx:xs[k]?=some x) (hy:ys[k]?=some y)
  (hQ:∀h',IsZip h' z TI TO (rawInt s.heap.objs.size)→IsPair h' TI (.ref i1) (.ref i2)→IsPair h' TO x y→SIt K1 h' i1 t1 (k+1)→SIt K2 h' i2 t2 (k+1)→IsPair h' s.heap.objs.size x y→h'.objs.size=s.heap.objs.size+1→
   (∀c o,c∉[z,TO,i1,i2]→s.heap.get? c=some o→h'.get? c=some o)→Q (some (.ref s.heap.objs.size)) {s with heap:=h'}):wpAny (model prog w) A (pyNext (.ref z)) Q E s:=by
 obtain⟨nd,zz,ti,⟨a,b,tO⟩,j1,j2⟩:=Z
 simp only[List.nodup_cons,List.mem_cons,List.not_mem_nil,or_false,not_or,List.nodup_nil,and_true,not_false_eq_true]at nd n1 n2
 obtain⟨⟨zTI,zTO,z1,z2⟩,⟨TITO,TI1,TI2⟩,⟨TO1,TO2⟩,i12⟩:=nd
 obtain⟨a1,a2,a3,a4⟩:=n1
 obtain⟨b1,b2,b3,b4⟩:=n2
 have hT:s.TypeIs (.ref z) "zip":=⟨_,zz,rfl⟩
 unfold pyNext
 refine wpAny_bind (wpAny_attempt (wpAny_callSpecial?_slot (name:=Str.ofString "__next__") hT F.slot_zip_next (wpAny_call_entry F.slot_zip_next hT F.entry_zip_next ?_ (F.args_zip_next_1 _))))
 show wpAny _ _ (field (.ref z) 2>>=_) _ _ _
 refine wpAny_bind (wpAny_field zz rfl (x:=.bool false) rfl ?_)
 show wpAny _ _ (field (.ref z) 3>>=_) _ _ _
 refine wpAny_bind (wpAny_field zz rfl (x:=.ref TI) rfl (wpAny_bind (wpAny_seqItems ti rfl ?_)))
 show wpAny _ _ (Builtin.SmallTypes.ownedTupleIsFree (.ref z)>>=_) _ _ _
 refine wpAny_bind ?_
 unfold Builtin.SmallTypes.ownedTupleIsFree
 refine wpAny_bind (wpAny_field zz rfl (x:=.none) rfl (wpAny_pure ?_))
 simp only[if_true]
 refine wpAny_bind (wpAny_rule (wpAny_bind (wpAny_field zz rfl (x:=.ref TO) rfl (wpAny_bind (wpAny_setField_rec zz (by simp) fun g1 q1 r1=>?_)))))
 replace q1:IsZip g1 z TI TO .ellipsis:=q1
 refine wpAny_bind ?_
 simp only[List.zipIdx_cons,List.zipIdx_nil,List.forIn_cons,List.forIn_nil]
 refine wpAny_bind (wpAny_bind (wpAny_onRaise ?_))
 show wpAny _ _ (Builtin.SmallTypes.nextOf (.ref i1)>>=_) _ _ _
 refine wpAny_bind (nextOfG_item (j1.extBut r1.extBut (Ne.symm z1)) (h1.extBut r1.extBut a1) hx fun g2 q2 r2=>wpAny_pure ?_)
 have tO2:IsPair g2 TO a b:=r2.extBut _ _ TO1 (r1.extBut _ _ (Ne.symm zTO) tO)
 refine wpAny_bind (wpAny_seqItems tO2 rfl (wpAny_bind (wpAny_updateSeq_pair tO2 fun g3 q3 r3=>?_)))
 replace q3:IsPair g3 TO x b:=q3
 refine wpAny_bind (wpAny_letGo (wpAny_pure ?_))
 refine wpAny_bind (wpAny_bind (wpAny_onRaise ?_))
 show wpAny _ _ (Builtin.SmallTypes.nextOf (.ref i2)>>=_) _ _ _
 refine wpAny_bind (nextOfG_item (((j2.extBut r1.extBut (Ne.symm z2)).extBut r2.extBut (Ne.symm i12)).extBut r3.extBut (Ne.symm TO2)) (((h2.extBut r1.extBut b1).extBut r2.extBut b3).extBut r3.extBut b2) hy fun g4 q4 r4=>wpAny_pure ?_)
 have tO4:IsPair g4 TO x b:=r4.extBut _ _ TO2 q3
 refine wpAny_bind (wpAny_seqItems tO4 rfl (wpAny_bind (wpAny_updateSeq_pair tO4 fun g5 q5 r5=>?_)))
 replace q5:IsPair g5 TO x y:=q5
 refine wpAny_bind (wpAny_letGo (wpAny_pure (wpAny_pure ?_)))
 refine wpAny_bind (wpAny_seqItems q5 rfl (wpAny_bind (wpAny_newTuple ?_)))
 have sz:g5.objs.size=s.heap.objs.size:=by rw[r5.1,r4.1,r3.1,r2.1,r1.1]
 have kp5:∀c o,c≠z→c≠TO→c≠i1→c≠i2→s.heap.get? c=some o→g5.get? c=some o:=fun c o c1 c2 c3 c4 e=>r5.extBut _ _ c2 (r4.extBut _ _ c4 (r3.extBut _ _ c2 (r2.extBut _ _ c3 (r1.extBut _ _ c1 e))))
 have zz5:IsZip g5 z TI TO .ellipsis:=r5.extBut _ _ zTO (r4.extBut _ _ z2 (r3.extBut _ _ zTO (r2.extBut _ _ z1 q1)))
 have k15:SIt K1 g5 i1 t1 (k+1):=((q2.extBut r3.extBut (Ne.symm TO1)).extBut r4.extBut i12).extBut r5.extBut (Ne.symm TO1)
 have k25:SIt K2 g5 i2 t2 (k+1):=q4.extBut r5.extBut (Ne.symm TO2)
 have ti5:IsPair g5 TI (.ref i1) (.ref i2):=kp5 _ _ (Ne.symm zTI) TITO TI1 TI2 ti
 show wpAny _ _ (Builtin.SmallTypes.ownedTupleHandOut (.ref z) (.ref g5.objs.size)>>=_) _ _ _
 refine wpAny_bind ?_
 unfold Builtin.SmallTypes.ownedTupleHandOut
 refine wpAny_bind (wpAny_setField_rec (Heap.get?_push_of_some _ zz5) (by simp) fun g7 q7 r7=>?_)
 replace q7:IsZip g7 z TI TO (rawInt g5.objs.size):=q7
 refine wpAny_setField_rec q7 (by simp) fun g8 q8 r8=>?_
 replace q8:IsZip g8 z TI TO (rawInt g5.objs.size):=q8
 have up:∀c o,c≠z→g5.get? c=some o→g8.get? c=some o:=fun c o c1 e=>r8.extBut _ _ c1 (r7.extBut _ _ c1 (Heap.get?_push_of_some _ e))
 have new:IsPair g8 g5.objs.size x y:=r8.extBut _ _ (Nat.ne_of_gt (Heap.lt_size zz5)) (r7.extBut _ _ (Nat.ne_of_gt (Heap.lt_size zz5)) (Heap.get?_push_size _ rfl))
 have sz8:g8.objs.size=s.heap.objs.size+1:=by rw[r8.1,r7.1,Heap.size_push,sz]
 rw[sz]at q8 new
 refine wpAny_pure ⟨_,rfl,?_⟩
 refine wpAny_pure ?_
 show Q (some (.ref g5.objs.size)) _
 rw[sz]
 exact hQ g8 q8 (up _ _ (Ne.symm zTI) ti5) (up _ _ (Ne.symm zTO) q5) (let ⟨o,e,r⟩:=k15;⟨o,up _ o (Ne.symm z1) e,r⟩) (let ⟨o,e,r⟩:=k25;⟨o,up _ o (Ne.symm z2) e,r⟩) new sz8 fun c o hc e=>by
  simp only[List.mem_cons,List.not_mem_nil,or_false,not_or]at hc
  exact up c o hc.1 (kp5 c o hc.1 hc.2.1 hc.2.2.1 hc.2.2.2 e)
theorem zipG_end {K1 K2:Bool}{z TI TO i1 i2 t1 t2:Addr}{k:Nat}{xs:Array Value}{Q:Option Value→Shared→Prop}(hh:A.handled=none)(Z:ZipG K1 K2 s.heap z TI TO i1 i2 t1 t2 k)(n1:t1∉[z,TO,i1,i2])
  (h1:SSq K1 s.heap t1 xs) (hx:xs[k]?=none) (hQ:∀h',(∀c o,c∉[z,TO,i1,i2]→s.heap.get? c=some o→h'.get? c=some o)→Q none {s with heap:=h'}):wpAny (model prog w) A (pyNext (.ref z)) Q E s:=by
 obtain⟨nd,zz,ti,⟨a,b,tO⟩,j1,j2⟩:=Z
 simp only[List.nodup_cons,List.mem_cons,List.not_mem_nil,or_false,not_or,List.nodup_nil,and_true,not_false_eq_true]at nd n1
 obtain⟨⟨zTI,zTO,z1,z2⟩,⟨TITO,TI1,TI2⟩,⟨TO1,TO2⟩,i12⟩:=nd
 obtain⟨a1,a2,a3,a4⟩:=n1
 have hT:s.TypeIs (.ref z) "zip":=⟨_,zz,rfl⟩
 unfold pyNext
 refine wpAny_bind (wpAny_attempt (wpAny_callSpecial?_slot (name:=Str.ofString "__next__") hT F.slot_zip_next (wpAny_call_entry F.slot_zip_next hT F.entry_zip_next ?_ (F.args_zip_next_1 _))))
 show wpAny _ _ (field (.ref z) 2>>=_) _ _ _
 refine wpAny_bind (wpAny_field zz rfl (x:=.bool false) rfl ?_)
 show wpAny _ _ (field (.ref z) 3>>=_) _ _ _
 refine wpAny_bind (wpAny_field zz rfl (x:=.ref TI) rfl (wpAny_bind (wpAny_seqItems ti rfl ?_)))
 show wpAny _ _ (Builtin.SmallTypes.ownedTupleIsFree (.ref z)>>=_) _ _ _
 refine wpAny_bind ?_
 unfold Builtin.SmallTypes.ownedTupleIsFree
 refine wpAny_bind (wpAny_field zz rfl (x:=.none) rfl (wpAny_pure ?_))
 simp only[if_true]
 refine wpAny_bind (wpAny_rule (wpAny_bind (wpAny_field zz rfl (x:=.ref TO) rfl (wpAny_bind (wpAny_setField_rec zz (by simp) fun g1 q1 r1=>?_)))))
 replace q1:IsZip g1 z TI TO .ellipsis:=q1
 refine wpAny_bind ?_
 simp only[List.zipIdx_cons,List.zipIdx_nil,List.forIn_cons,List.forIn_nil]
 refine wpAny_bind (wpAny_bind (wpAny_onRaise ?_))
 show wpAny _ _ (Builtin.SmallTypes.nextOf (.ref i1)>>=_) _ _ _
 refine wpAny_bind (nextOfG_end hh (j1.extBut r1.extBut (Ne.symm z1)) (h1.extBut r1.extBut a1) hx fun g2 e r2 he=>?_)
 obtain⟨oe,ho,hc⟩:=he
 have zz2:IsZip g2 z TI TO .ellipsis:=r2 _ _ z1 q1
 have ez:e≠z:=fun q=>by subst q;rw[zz2]at ho;cases ho;simp at hc
 refine wpAny_setField_rec (s:={s with heap:=g2}) zz2 (by simp) fun g3 q3 r3=>?_
 refine wpAny_bind (wpAny_isInstance (T:="StopIteration") (b:=true) ⟨oe,r3.extBut _ _ ez ho,hc⟩ isSubtype_stop ?_)
 exact wpAny_pure (hQ _ fun c o hcc e=>by
  simp only[List.mem_cons,List.not_mem_nil,or_false,not_or]at hcc
  exact r3.extBut _ _ hcc.1 (r2 _ _ hcc.2.2.1 (r1.extBut _ _ hcc.1 e)))
abbrev zg1 (K1:String)(h:Heap)(t1:Addr):Heap:=h.push {cls:=.type K1,data:=.fields #[.ref t1, .int 0 0]}
abbrev zg2 (K1 K2:String)(h:Heap)(t1 t2:Addr):Heap:=(zg1 K1 h t1).push {cls:=.type K2,data:=.fields #[.ref t2, .int 0 0]}
abbrev zg3 (K1 K2:String)(h:Heap)(t1 t2:Addr):Heap:=(zg2 K1 K2 h t1 t2).push {cls:=.type "tuple",data:=.seq #[.ref h.objs.size, .ref (zg1 K1 h t1).objs.size]}
abbrev zg4 (K1 K2:String)(h:Heap)(t1 t2:Addr):Heap:=(zg3 K1 K2 h t1 t2).push {cls:=.type "tuple",data:=.seq #[.none, .none]}
abbrev zg5 (K1 K2:String)(h:Heap)(t1 t2:Addr):Heap:=(zg4 K1 K2 h t1 t2).push {cls:=.type "zip",data:=.fields #[.none, .bool false, .bool false, .ref (zg2 K1 K2 h t1 t2).objs.size, .ref (zg3 K1 K2 h t1 t2).objs.size]}
theorem meets_zipLT (t1 t2:Addr)(xs ys:Array Value):
  Meets (Builtin.«zip.__new__» ⟨[.type "zip", .ref t1, .ref t2],[]⟩) (fun _ R s=>s.heap.IsList t1 xs∧s.heap.IsTuple t2 ys∧R (.ok (.ret (.ref (zg4 "list_iterator" "tuple_iterator" s.heap t1 t2).objs.size))) {s with heap:=zg5 "list_iterator" "tuple_iterator" s.heap t1 t2}) :=
 .of_wp fun prog w A R s h=>by
  obtain⟨hp,g,d,tk,os⟩:=s
  obtain⟨h1,h2,h⟩:=h
  have hsub:=sub_zip
  have q1:Heap.IsList (Shared.heap ⟨hp,g,d,tk,os⟩) t1 xs:=h1
  have q2:Heap.IsTuple (Shared.heap ⟨hp.push {cls:=.type "list_iterator",data:=.fields #[.ref t1, .int 0 0]},g,d,tk,os⟩) t2 ys:=Heap.IsTuple.push h2 _
  wp_walk using wpAny_pyIter_list q1,wpAny_pyIter_tuple q2
  exact⟨_,rfl,h⟩
theorem meets_zipTL (t1 t2:Addr)(xs ys:Array Value):
  Meets (Builtin.«zip.__new__» ⟨[.type "zip", .ref t1, .ref t2],[]⟩) (fun _ R s=>s.heap.IsTuple t1 xs∧s.heap.IsList t2 ys∧R (.ok (.ret (.ref (zg4 "tuple_iterator" "list_iterator" s.heap t1 t2).objs.size))) {s with heap:=zg5 "tuple_iterator" "list_iterator" s.heap t1 t2}) :=
 .of_wp fun prog w A R s h=>by
  obtain⟨hp,g,d,tk,os⟩:=s
  obtain⟨h1,h2,h⟩:=h
  have hsub:=sub_zip
  have q1:Heap.IsTuple (Shared.heap ⟨hp,g,d,tk,os⟩) t1 xs:=h1
  have q2:Heap.IsList (Shared.heap ⟨hp.push {cls:=.type "tuple_iterator",data:=.fields #[.ref t1, .int 0 0]},g,d,tk,os⟩) t2 ys:=Heap.IsList.push h2 _
  wp_walk using wpAny_pyIter_tuple q1,wpAny_pyIter_list q2
  exact⟨_,rfl,h⟩
theorem meets_zipLL (t1 t2:Addr)(xs ys:Array Value):
  Meets (Builtin.«zip.__new__» ⟨[.type "zip", .ref t1, .ref t2],[]⟩) (fun _ R s=>s.heap.IsList t1 xs∧s.heap.IsList t2 ys∧R (.ok (.ret (.ref (zg4 "list_iterator" "list_iterator" s.heap t1 t2).objs.size))) {s with heap:=zg5 "list_iterator" "list_iterator" s.heap t1 t2}) :=
 .of_wp fun prog w A R s h=>by
  obtain⟨hp,g,d,tk,os⟩:=s
  obtain⟨h1,h2,h⟩:=h
  have hsub:=sub_zip
  have q1:Heap.IsList (Shared.heap ⟨hp,g,d,tk,os⟩) t1 xs:=h1
  have q2:Heap.IsList (Shared.heap ⟨hp.push {cls:=.type "list_iterator",data:=.fields #[.ref t1, .int 0 0]},g,d,tk,os⟩) t2 ys:=Heap.IsList.push h2 _
  wp_walk using wpAny_pyIter_list q1,wpAny_pyIter_list q2
  exact⟨_,rfl,h⟩
theorem meets_zipTT (t1 t2:Addr)(xs ys:Array Value):
  Meets (Builtin.«zip.__new__» ⟨[.type "zip", .ref t1, .ref t2],[]⟩) (fun _ R s=>s.heap.IsTuple t1 xs∧s.heap.IsTuple t2 ys∧R (.ok (.ret (.ref (zg4 "tuple_iterator" "tuple_iterator" s.heap t1 t2).objs.size))) {s with heap:=zg5 "tuple_iterator" "tuple_iterator" s.heap t1 t2}) :=
 .of_wp fun prog w A R s h=>by
  obtain⟨hp,g,d,tk,os⟩:=s
  obtain⟨h1,h2,h⟩:=h
  have hsub:=sub_zip
  have q1:Heap.IsTuple (Shared.heap ⟨hp,g,d,tk,os⟩) t1 xs:=h1
  have q2:Heap.IsTuple (Shared.heap ⟨hp.push {cls:=.type "tuple_iterator",data:=.fields #[.ref t1, .int 0 0]},g,d,tk,os⟩) t2 ys:=Heap.IsTuple.push h2 _
  wp_walk using wpAny_pyIter_tuple q1,wpAny_pyIter_tuple q2
  exact⟨_,rfl,h⟩
theorem meets_zipGG (K1 K2:Bool)(t1 t2:Addr)(xs ys:Array Value):
  Meets (Builtin.«zip.__new__» ⟨[.type "zip", .ref t1, .ref t2],[]⟩) (fun _ R s=>SSq K1 s.heap t1 xs∧SSq K2 s.heap t2 ys∧R (.ok (.ret (.ref (zg4 (kit K1) (kit K2) s.heap t1 t2).objs.size))) {s with heap:=zg5 (kit K1) (kit K2) s.heap t1 t2}):=by
 cases K1 with
 |true=>cases K2 with
  |false=>exact meets_zipLT t1 t2 xs ys
  |true=>exact meets_zipLL t1 t2 xs ys
 |false=>cases K2 with
  |false=>exact meets_zipTT t1 t2 xs ys
  |true=>exact meets_zipTL t1 t2 xs ys
theorem call_zipGG {K1 K2:Bool}{t1 t2:Addr}{xs ys:Array Value}{Q:Value→Shared→Prop}(h1:SSq K1 s.heap t1 xs)(h2:SSq K2 s.heap t2 ys)
  (h:∀h' z TI TO i1 i2,s.heap.objs.size≤z→s.heap.objs.size≤TI→s.heap.objs.size≤TO→s.heap.objs.size≤i1→s.heap.objs.size≤i2→ZipG K1 K2 h' z TI TO i1 i2 t1 t2 0→(∀c o,s.heap.get? c=some o→h'.get? c=some o)→Q (.ref z) {s with heap:=h'}):
  wpAny (model prog w) A (call (.type "zip") [.ref t1, .ref t2]) Q E s:=by
 refine callType_new F.called_zip (by decide) (F.typeCall_zip_2 _ _) (F.newCall_zip_2 _ _) (fun obj=>F.args_object_init_3 obj _ _) F.entry_zip_new (meets_zipGG K1 K2 t1 t2 xs ys) ⟨h1,h2,?_⟩
 have z1:(zg1 (kit K1) s.heap t1).objs.size=s.heap.objs.size+1:=Heap.size_push ..
 have z2:(zg2 (kit K1) (kit K2) s.heap t1 t2).objs.size=s.heap.objs.size+2:=by rw[Heap.size_push,z1]
 have z3:(zg3 (kit K1) (kit K2) s.heap t1 t2).objs.size=s.heap.objs.size+3:=by rw[Heap.size_push,z2]
 have z4:(zg4 (kit K1) (kit K2) s.heap t1 t2).objs.size=s.heap.objs.size+4:=by rw[Heap.size_push,z3]
 have p5:(zg5 (kit K1) (kit K2) s.heap t1 t2).get? (zg4 (kit K1) (kit K2) s.heap t1 t2).objs.size=some _:=Heap.get?_push_size _ rfl
 have p4:(zg5 (kit K1) (kit K2) s.heap t1 t2).get? (zg3 (kit K1) (kit K2) s.heap t1 t2).objs.size=some _:=Heap.get?_push_of_some _ (Heap.get?_push_size _ rfl)
 have p3:(zg5 (kit K1) (kit K2) s.heap t1 t2).get? (zg2 (kit K1) (kit K2) s.heap t1 t2).objs.size=some _:=Heap.get?_push_of_some _ (Heap.get?_push_of_some _ (Heap.get?_push_size _ rfl))
 have p2:(zg5 (kit K1) (kit K2) s.heap t1 t2).get? (zg1 (kit K1) s.heap t1).objs.size=some _:=Heap.get?_push_of_some _ (Heap.get?_push_of_some _ (Heap.get?_push_of_some _ (Heap.get?_push_size _ rfl)))
 have p1:(zg5 (kit K1) (kit K2) s.heap t1 t2).get? s.heap.objs.size=some _:=Heap.get?_push_of_some _ (Heap.get?_push_of_some _ (Heap.get?_push_of_some _ (Heap.get?_push_of_some _ (Heap.get?_push_size _ rfl))))
 refine⟨⟨_,p5,rfl⟩,h _ _ _ _ _ _ ?_ ?_ ?_ (Nat.le_refl _) ?_ ⟨?_,p5,p3,⟨_,_,p4⟩,⟨_,p1,rfl,rfl⟩,⟨_,p2,rfl,rfl⟩⟩ fun c o e=>Heap.get?_push_of_some _ (Heap.get?_push_of_some _ (Heap.get?_push_of_some _ (Heap.get?_push_of_some _ (Heap.get?_push_of_some _ e))))⟩
 ·rw[z4];exact Nat.le_add_right _ _
 ·rw[z2];exact Nat.le_add_right _ _
 ·rw[z3];exact Nat.le_add_right _ _
 ·rw[z1];exact Nat.le_add_right _ _
 ·rw[z1,z2,z3,z4]
  generalize s.heap.objs.size=n
  simp only[List.nodup_cons,List.mem_cons,List.not_mem_nil,or_false,not_or,List.nodup_nil,and_true,not_false_eq_true]
  refine⟨⟨?_,?_,?_,?_⟩,⟨?_,?_,?_⟩,⟨?_,?_⟩,?_⟩<;>(intro q;simp at q)
end
end PySem
namespace L2
open PySem PySem.Spec PyProof.Rows
end L2
namespace PySem
open PyProof.Rows
section
variable {prog:Program}{w:World}{A:Around}{E:Value→Shared→Prop}{s:Shared}
theorem wpAny_loadIfAlive {M:Model}{a:Addr}{Q:Option Obj→Shared→Prop}(h:Q (s.heap.get? a) s):wpAny M A (loadIfAlive a) Q E s:=fun Γ p hΓ=>by
 unfold loadIfAlive
 rw[Sem.wp_loadIfAlive]
 exact(wpAny_pure h:wpAny M A (pure (s.heap.get? a)) Q E s) Γ p hΓ
abbrev IsZipL (h:Heap)(z TI TO T0:Addr)(fl:Bool):Prop:=h.get? z=some {cls:=.type "zip",dict:=none,data:=.fields #[rawInt T0, .bool fl, .bool false, .ref TI, .ref TO],slots:=#[]}
theorem zip_busy {z TI TO T0:Addr}{fl:Bool}{o0:Obj}{Q:Bool→Shared→Prop}(zz:IsZipL s.heap z TI TO T0 fl)(h0:s.heap.get? T0=some o0)(h:∀g,IsZipL g z TI TO T0 true→Heap.ExtBut z s.heap g→g.objs.size=s.heap.objs.size→Q false {s with heap:=g}):
  wpAny (model prog w) A (Builtin.SmallTypes.ownedTupleIsFree (.ref z)) Q E s:=by
 unfold Builtin.SmallTypes.ownedTupleIsFree
 refine wpAny_bind (wpAny_field zz rfl (x:=rawInt T0) rfl ?_)
 show wpAny _ _ (loadIfAlive (T0:Int).toNat>>=_) _ _ _
 refine wpAny_bind (wpAny_loadIfAlive ?_)
 rw[Int.toNat_natCast,h0]
 rw[if_neg (by simp)]
 refine wpAny_bind (wpAny_field zz rfl (x:=.bool fl) rfl ?_)
 cases fl with
 |true=>exact wpAny_pure (h _ zz (fun _ _ _ e=>e) rfl)
 |false=>exact wpAny_bind (wpAny_setField_rec zz (by simp) fun g1 q1 r1=>wpAny_pure (h _ q1 r1.extBut r1.1))
theorem zipK_item {ka kb:Bool}{z TI TO i1 i2 t1 t2 T0:Addr}{fl:Bool}{k:Nat}{xs ys:Array Value}{x y:Value}{o0:Obj}{Q:Option Value→Shared→Prop}(nd:[z,TI,i1,i2].Nodup)(zz:IsZipL s.heap z TI TO T0 fl)(ti:IsPair s.heap TI (.ref i1) (.ref i2))
  (h0:s.heap.get? T0=some o0) (j1:SIt ka s.heap i1 t1 k) (j2:SIt kb s.heap i2 t2 k) (n1:t1∉[z,i1,i2]) (n2:t2∉[z,i1,i2])
  (h1:SSq ka s.heap t1 xs) (h2:SSq kb s.heap t2 ys) (hx:xs[k]?=some x) (hy:ys[k]?=some y)
  (hQ:∀h',IsZipL h' z TI TO T0 true→SIt ka h' i1 t1 (k+1)→SIt kb h' i2 t2 (k+1)→IsPair h' s.heap.objs.size x y→h'.objs.size=s.heap.objs.size+1→
   (∀c o,c∉[z,i1,i2]→s.heap.get? c=some o→h'.get? c=some o)→Q (some (.ref s.heap.objs.size)) {s with heap:=h'}):wpAny (model prog w) A (pyNext (.ref z)) Q E s:=by
 simp only[List.nodup_cons,List.mem_cons,List.not_mem_nil,or_false,not_or,List.nodup_nil,and_true,not_false_eq_true]at nd n1 n2
 obtain⟨⟨zTI,z1,z2⟩,⟨TI1,TI2⟩,i12⟩:=nd
 obtain⟨a1,a3,a4⟩:=n1
 obtain⟨b1,b3,b4⟩:=n2
 have hT:s.TypeIs (.ref z) "zip":=⟨_,zz,rfl⟩
 unfold pyNext
 refine wpAny_bind (wpAny_attempt (wpAny_callSpecial?_slot (name:=Str.ofString "__next__") hT F.slot_zip_next (wpAny_call_entry F.slot_zip_next hT F.entry_zip_next ?_ (F.args_zip_next_1 _))))
 show wpAny _ _ (field (.ref z) 2>>=_) _ _ _
 refine wpAny_bind (wpAny_field zz rfl (x:=.bool false) rfl ?_)
 show wpAny _ _ (field (.ref z) 3>>=_) _ _ _
 refine wpAny_bind (wpAny_field zz rfl (x:=.ref TI) rfl (wpAny_bind (wpAny_seqItems ti rfl ?_)))
 show wpAny _ _ (Builtin.SmallTypes.ownedTupleIsFree (.ref z)>>=_) _ _ _
 refine wpAny_bind (zip_busy zz h0 fun g1 q1 r1 rs=>?_)
 rw[if_neg Bool.false_ne_true]
 dsimp only
 refine wpAny_bind ?_
 rw[←Array.forIn_toList]
 simp only[List.forIn_cons,List.forIn_nil]
 refine wpAny_bind (wpAny_bind (wpAny_holding ?_))
 show wpAny _ _ (Builtin.SmallTypes.nextOf (.ref i1)>>=_) _ _ _
 refine wpAny_bind (nextOfG_item (j1.extBut r1 (Ne.symm z1)) (h1.extBut r1 a1) hx fun g2 q2 r2=>wpAny_pure ?_)
 dsimp only
 refine wpAny_pure ?_
 dsimp only
 refine wpAny_bind (wpAny_bind (wpAny_holding ?_))
 show wpAny _ _ (Builtin.SmallTypes.nextOf (.ref i2)>>=_) _ _ _
 refine wpAny_bind (nextOfG_item ((j2.extBut r1 (Ne.symm z2)).extBut r2.extBut (Ne.symm i12)) ((h2.extBut r1 b1).extBut r2.extBut b3) hy fun g3 q3 r3=>wpAny_pure ?_)
 dsimp only
 refine wpAny_pure ?_
 dsimp only
 refine wpAny_pure ?_
 dsimp only
 refine wpAny_bind (wpAny_newTuple ?_ (by show 2≤sizeLine;rw[sizeLine_eq];decide))
 have sz:g3.objs.size=s.heap.objs.size:=by rw[r3.1,r2.1,rs]
 refine wpAny_pure ⟨_,rfl,wpAny_pure ?_⟩
 show Q (some (.ref g3.objs.size)) _
 rw[sz]
 have zz3:IsZipL g3 z TI TO T0 true:=r3.extBut _ _ z2 (r2.extBut _ _ z1 q1)
 have e1:SIt ka g3 i1 t1 (k+1):=q2.extBut r3.extBut i12
 refine hQ _ (Heap.get?_push_of_some _ zz3) (let ⟨o,e,r⟩:=e1;⟨o,Heap.get?_push_of_some _ e,r⟩) (let ⟨o,e,r⟩:=q3;⟨o,Heap.get?_push_of_some _ e,r⟩) (by rw[←sz];exact Heap.get?_push_size _ rfl) (by rw[Heap.size_push,sz]) fun c o hc e=>?_
 simp only[List.mem_cons,List.not_mem_nil,or_false,not_or]at hc
 exact Heap.get?_push_of_some _ (r3.extBut _ _ hc.2.2 (r2.extBut _ _ hc.2.1 (r1 _ _ hc.1 e)))
theorem zipK_end {ka:Bool}{z TI TO i1 i2 t1 T0:Addr}{fl:Bool}{k:Nat}{xs:Array Value}{o0:Obj}{Q:Option Value→Shared→Prop}(hh:A.handled=none)(nd:[z,TI,i1,i2].Nodup)(zz:IsZipL s.heap z TI TO T0 fl)(ti:IsPair s.heap TI (.ref i1) (.ref i2))
  (h0:s.heap.get? T0=some o0) (j1:SIt ka s.heap i1 t1 k) (n1:t1∉[z,i1,i2]) (h1:SSq ka s.heap t1 xs) (hx:xs[k]?=none)
  (hQ:∀h',(∀c o,c∉[z,i1,i2]→s.heap.get? c=some o→h'.get? c=some o)→Q none {s with heap:=h'}):wpAny (model prog w) A (pyNext (.ref z)) Q E s:=by
 simp only[List.nodup_cons,List.mem_cons,List.not_mem_nil,or_false,not_or,List.nodup_nil,and_true,not_false_eq_true]at nd n1
 obtain⟨⟨zTI,z1,z2⟩,⟨TI1,TI2⟩,i12⟩:=nd
 obtain⟨a1,a3,a4⟩:=n1
 have hT:s.TypeIs (.ref z) "zip":=⟨_,zz,rfl⟩
 unfold pyNext
 refine wpAny_bind (wpAny_attempt (wpAny_callSpecial?_slot (name:=Str.ofString "__next__") hT F.slot_zip_next (wpAny_call_entry F.slot_zip_next hT F.entry_zip_next ?_ (F.args_zip_next_1 _))))
 show wpAny _ _ (field (.ref z) 2>>=_) _ _ _
 refine wpAny_bind (wpAny_field zz rfl (x:=.bool false) rfl ?_)
 show wpAny _ _ (field (.ref z) 3>>=_) _ _ _
 refine wpAny_bind (wpAny_field zz rfl (x:=.ref TI) rfl (wpAny_bind (wpAny_seqItems ti rfl ?_)))
 show wpAny _ _ (Builtin.SmallTypes.ownedTupleIsFree (.ref z)>>=_) _ _ _
 refine wpAny_bind (zip_busy zz h0 fun g1 q1 r1 rs=>?_)
 rw[if_neg Bool.false_ne_true]
 dsimp only
 refine wpAny_bind ?_
 rw[←Array.forIn_toList]
 simp only[List.forIn_cons,List.forIn_nil]
 refine wpAny_bind (wpAny_bind (wpAny_holding ?_))
 show wpAny _ _ (Builtin.SmallTypes.nextOf (.ref i1)>>=_) _ _ _
 refine wpAny_bind (nextOfG_end hh (j1.extBut r1 (Ne.symm z1)) (h1.extBut r1 a1) hx fun g2 e r2 he=>?_)
 obtain⟨oe,ho,hc⟩:=he
 refine wpAny_bind (wpAny_isInstance (T:="StopIteration") (b:=true) ⟨oe,ho,hc⟩ isSubtype_stop ?_)
 exact wpAny_pure (hQ _ fun c o hcc e=>by
  simp only[List.mem_cons,List.not_mem_nil,or_false,not_or]at hcc
  exact r2 _ _ hcc.2.1 (r1 _ _ hcc.1 e))
theorem in4 {a b c d e x:Addr}(h:x∈[a,c,d,e]):x∈[a,b,c,d,e]:=(List.Sublist.cons_cons a (List.sublist_cons_self b _)).subset h
theorem in3 {a b c d e x:Addr}(h:x∈[a,d,e]):x∈[a,b,c,d,e]:=in4 ((List.Sublist.cons_cons a (List.sublist_cons_self c _)).subset h)
structure ZW (ka kb:Bool)(h:Heap)(z TI TO i1 i2 t1 t2 N:Addr)(xs ys:Array Value)(k:Nat):Prop where
 zz:ZipG ka kb h z TI TO i1 i2 t1 t2 k∧h.objs.size=N∨∃fl o,IsZipL h z TI TO N fl∧h.get? N=some o∧IsPair h TI (.ref i1) (.ref i2)∧SIt ka h i1 t1 k∧SIt kb h i2 t2 k
 h1:SSq ka h t1 xs
 h2:SSq kb h t2 ys
section
variable {z TI TO i1 i2 t1 t2 N S:Addr}{xs ys:Array Value}{k:Nat}{ka kb:Bool}
theorem ZipG.up {K1 K2:Bool}{h h':Heap}(Z:ZipG K1 K2 h z TI TO i1 i2 t1 t2 k)(kp:∀b o,b∈[z,TI,TO,i1,i2]→h.get? b=some o→h'.get? b=some o):ZipG K1 K2 h' z TI TO i1 i2 t1 t2 k:=by
 obtain⟨nd,zz,ti,⟨u,v,tO⟩,j1,j2⟩:=Z
 exact⟨nd,kp _ _ (by simp) zz,kp _ _ (by simp) ti,⟨u,v,kp _ _ (by simp) tO⟩,j1.up fun o=>kp _ o (by simp),j2.up fun o=>kp _ o (by simp)⟩
theorem ZW.up {h h':Heap}(W:ZW ka kb h z TI TO i1 i2 t1 t2 N xs ys k)(kp:∀b o,b≠S→h.get? b=some o→h'.get? b=some o)(hs:h'.objs.size=h.objs.size)(sS:S∉[z,TI,TO,i1,i2])(sN:N≠S)(m1:t1≠S)(m2:t2≠S):ZW ka kb h' z TI TO i1 i2 t1 t2 N xs ys k:=by
 have kq:∀b o,b∈[z,TI,TO,i1,i2]→h.get? b=some o→h'.get? b=some o:=fun b o hb=>kp b o fun q=>sS (q ▸ hb)
 refine⟨?_,W.h1.up fun o=>kp _ o m1,W.h2.up fun o=>kp _ o m2⟩
 rcases W.zz with ⟨Z,e⟩|⟨fl,o,zz,h0,ti,j1,j2⟩
 ·exact .inl ⟨Z.up kq,hs.trans e⟩
 ·exact .inr ⟨fl,o,kq _ _ (by simp) zz,kp _ _ sN h0,kq _ _ (by simp) ti,j1.up fun o=>kq _ o (by simp),j2.up fun o=>kq _ o (by simp)⟩
theorem zw_item {x y:Value}{Q:Option Value→Shared→Prop}(W:ZW ka kb s.heap z TI TO i1 i2 t1 t2 N xs ys k)(nd:[z,TI,TO,i1,i2].Nodup)(n1:t1∉[z,TI,TO,i1,i2])(n2:t2∉[z,TI,TO,i1,i2])(nN:N∉[z,TI,TO,i1,i2])(hx:xs[k]?=some x)(hy:ys[k]?=some y)
  (hQ:∀h',ZW ka kb h' z TI TO i1 i2 t1 t2 N xs ys (k+1)→IsPair h' s.heap.objs.size x y→h'.objs.size=s.heap.objs.size+1→(∀c o,c∉[z,TI,TO,i1,i2]→s.heap.get? c=some o→h'.get? c=some o)→Q (some (.ref s.heap.objs.size)) {s with heap:=h'}):
  wpAny (model prog w) A (pyNext (.ref z)) Q E s:=by
 obtain⟨Z,h1,h2⟩:=W
 rcases Z with ⟨Z,rfl⟩|⟨fl,o,zz,h0,ti,j1,j2⟩
 ·refine zipG_item Z (fun q=>n1 (in4 q)) (fun q=>n2 (in4 q)) h1 h2 hx hy fun h' q1 q2 q3 q4 q5 q6 q7 kp=>?_
  have kq:∀c o,c∉[z,TI,TO,i1,i2]→s.heap.get? c=some o→h'.get? c=some o:=fun c o hc=>kp c o fun q=>hc (in4 q)
  exact hQ h' ⟨.inr ⟨false,_,q1,q6,q2,q4,q5⟩,h1.up fun o=>kq _ o n1,h2.up fun o=>kq _ o n2⟩ q6 q7 kq
 ·refine zipK_item (nd.sublist (by simp)) zz ti h0 j1 j2 (fun q=>n1 (in3 q)) (fun q=>n2 (in3 q)) h1 h2 hx hy fun h' q1 q4 q5 q6 q7 kp=>?_
  have kq:∀c o,c∉[z,TI,TO,i1,i2]→s.heap.get? c=some o→h'.get? c=some o:=fun c o hc=>kp c o fun q=>hc (in3 q)
  refine hQ h' ⟨.inr ⟨true,_,q1,kq _ _ nN h0,kp TI _ (fun q=>?_) ti,q4,q5⟩,h1.up fun o=>kq _ o n1,h2.up fun o=>kq _ o n2⟩ q6 q7 kq
  simp only[List.nodup_cons,List.mem_cons,List.not_mem_nil,or_false,not_or]at nd q
  exact q.elim (fun h=>nd.1.1 h.symm) fun h=>h.elim nd.2.1.2.1 nd.2.1.2.2
theorem zw_end {Q:Option Value→Shared→Prop}(hh:A.handled=none)(W:ZW ka kb s.heap z TI TO i1 i2 t1 t2 N xs ys k)(nd:[z,TI,TO,i1,i2].Nodup)(n1:t1∉[z,TI,TO,i1,i2])(hx:xs[k]?=none)
  (hQ:∀h',(∀c o,c∉[z,TI,TO,i1,i2]→s.heap.get? c=some o→h'.get? c=some o)→Q none {s with heap:=h'}):wpAny (model prog w) A (pyNext (.ref z)) Q E s:=by
 obtain⟨Z,h1,h2⟩:=W
 rcases Z with ⟨Z,_⟩|⟨fl,o,zz,h0,ti,j1,j2⟩
 ·exact zipG_end hh Z (fun q=>n1 (in4 q)) h1 hx fun h' kp=>hQ h' fun c o hc=>kp c o fun q=>hc (in4 q)
 ·exact zipK_end hh (nd.sublist (by simp)) zz ti h0 j1 (fun q=>n1 (in3 q)) h1 hx fun h' kp=>hQ h' fun c o hc=>kp c o fun q=>hc (in3 q)
end
end
section
variable {prog:Program}{w:World}{A:Around}{R:Result→Shared→Prop}
end
namespace F
end F
section
variable {prog:Program}{w:World}{A:Around}{E:Value→Shared→Prop}{s:Shared}
end
end PySem
namespace L2
open PySem PySem.Spec PyProof.Rows
section
variable {X:Cx}{pins:List (Addr×Obj)}{σ:St}{s:Shared}
end
end L2
namespace PySem
namespace Heap
def TracedAtX (g bse:Heap)(e:Addr)(cls a0 fl:Value):Prop :=
 ∃ob ws T oT ts,g.get? e=some ob∧(ob.cls=cls∧ws[0]?=some a0∧ws[2]?=some .none)∧ob.data=.fields ws∧ws[1]?=some (.ref T)∧bse.get? T=none∧T≠e∧g.get? T=some oT∧oT.data=.fields ts∧ts[3]?=some fl
def HeldX (bse:Heap)(l:List Env)(e:Addr)(cls a0:Value)(L:Addr)(g:Heap):Prop:=bse.StaysIn g∧bse.get? e=none∧g.FunFrames bse l∧g.TracedAtX bse e cls a0 (rawInt L)
end Heap
section
variable {M:Model}{A:Around}{E:Value→Shared→Prop}{s:Shared}{bse:Heap}{env:Env}{outer:List Env}{L e:Addr}{cls a0 fl:Value}{Q:Unit→Shared→Prop}
end
end PySem
namespace L2
open PySem PySem.Spec PyProof.Rows
section
variable {P:Program}{w:World}{K:PySem.W.Frag}{mg:Str→Option Value}{base:Heap}{N:List Str}{qual:Str}{scope:Scope}{f:Addr}{cd:Value}{A:Around}{outer:List Env}{s:Shared}{H:Hp}{E:XK}{CX:CXT}
end
section
variable {P:Program}{w:World}{K:PySem.W.Frag}{mg:Str→Option Value}{base:Heap}{N:List Str}{qual:Str}{scope:Scope}{f:Addr}{cd:Value}{A:Around}{outer:List Env}{s:Shared}{H:Hp}{E:XK}
end
end L2
namespace PySem
end PySem
namespace L2
open PySem PySem.Spec PyProof.Rows
section
variable {X:Cx}{pins p2:List (Addr×Obj)}{σ:St}{H:Hp}{s:Shared}{xe:Value→Shared→Prop}
end
section
variable {X:Cx}{pins p2:List (Addr×Obj)}{σ:St}{H:Hp}{s:Shared}{ea:Addr}
end
open PySem PySem.Spec PyProof.Rows PySem.Builtin.Getset_descriptor
section
variable {K:PySem.W.Frag}{M:Model}{h:Heap}{x C:Addr}{name:Str}{ax gx:Value}
end
section
variable {prog:Program}{w:World}{A:Around}{E:Value→Shared→Prop}{s:Shared}{K:PySem.W.Frag}{x C:Addr}{ob:Obj}
variable (g0:PySem.W.findIn K (.ref C) "__getattribute__"=some (some (.builtin "BaseException.__getattribute__")))(g1:PySem.W.findIn K (.ref C) "__getattr__"=some none)(gb:PySem.W.mroIn K C (.type "BaseException")=some true)
 (g2:PySem.W.findIn K (.ref C) "__class__"=some (some (.builtin "object.__class__"))) (g3:PySem.W.specialIn K (.builtin "object.__class__") "__get__"=some (some (.builtin "getset_descriptor.__get__")))
 (g4:PySem.W.takesIn K (.builtin "object.__class__")=some true) (g5:PySem.W.mroIn K C (.type "object")=some true)
include g0 g1 gb g2 g3 g4 g5
end
section
variable {X:Cx}
end
def HT (X:Cx)(pins:List (Addr×Obj))(EX:St→XK):Value→Shared→Prop:=fun e s2=>∃(ea C:Addr) (σ:St) (H':Hp) (s1:Shared) (B:Heap) (t:Addr) (h4:Heap),e=.ref ea∧s2={s1 with heap:=h4}∧Inv X pins σ H' s1∧H' ea=none∧
 Heap.HeldX B (X.env::X.outer) ea (.ref C) (.ref t) X.env.locals h4∧s1.heap.UpToSlots h4∧(∀p∈X.pn++pins,p.1≠ea)∧
 (∀b o,s1.heap.get? b=some o→b∉frs X.stack→(H' b≠none∨(∃o',X.s₀.heap.get? b=some o')∨b∈(X.pn++pins).map (·.1))→B.get? b=some o)∧EX σ (.ref C) (some ea) H'
structure PEx (X:Cx)(e:Expr)(t:TE):Prop where
 h:PE X e t
structure PAx (X:Cx)(es:List Expr)(t:TA):Prop where
 h:PA X es t
structure PSx (X:Cx)(st:Stmt)(t:TS):Prop where
 h:PS X st t
section
variable {X:Cx}
theorem star_bin {a b:Expr}{o:Operator}{es:List Expr}{p:Pos}{env:Env}:starEach (.BinOp a o b p::es) env=(false,eval (.BinOp a o b p) env)::starEach es env:=rfl
theorem x_lst {es:List Expr}{p:Pos}{t:TA}(h:PAx X es t):PEx X (.List es p) (tLst t):=⟨pe_lst h.h⟩
theorem x_nil:PAx X [] tNil:=⟨pa_nil⟩
theorem x_b {a b:Expr}{o:Operator}{es:List Expr}{p:Pos}{te:TE}{t:TA}(ha:PEx X (.BinOp a o b p) te)(hr:PAx X es t):PAx X (.BinOp a o b p::es) (tCons te t):=⟨pa_cons ha.h hr.h star_bin⟩
theorem x_set {i:Nat}{x:Str}{e:Expr}{te:TE}{pos' pos:Pos}(hN:X.N.Nodup)(hi:X.N[i]?=some x)(hx:Loc X.env.scope x)(he:PEx X e te)(hs:swapsWith e (some (.Name x pos')) pos.line X.env=pure false:=by rfl)
  (hf:X.fn x=true∨X.env.scope.names.lookup x=some .local:=by first|exact .inl rfl|exact .inr rfl|assumption):PSx X (.Assign [.Name x pos'] e pos) (tAsg te (gName i)):=⟨ps_set hN hi hx he.h hs hf⟩
theorem x_ret {e:Expr}{te:TE}{pos:Pos}(he:PEx X e te):PSx X (.Return (some e) pos) (tRet te):=⟨ps_ret he.h⟩
end
section
variable {X:Cx}
theorem x_op {a b:Expr}{op:Operator}{pos:Pos}{ta tb:TE}{r:R2}(ho:OpR X (binaryOp op) r)(ha:PEx X a ta)(hb:PEx X b tb):PEx X (.BinOp a op b pos) (tOp r ta tb):=⟨pe_op ho ha.h hb.h⟩
end
end L2
namespace PySem
open PyProof.Rows
namespace F
theorem zip_nokeys:typeLookup (.type "zip") "keys"=pure none:=am_miss_of_fast (by decide+kernel)
theorem entry_zip_ga:entryFor table "zip.__getattribute__"=some Builtin.«object.__getattribute__» :=
 entryFor_alias (id':="object.__getattribute__") (by kernel_rfl) (by first|rfl|decide+kernel) (by decide+kernel) (by kernel_rfl)
theorem zip_nogetattr:typeLookup (.type "zip") "__getattr__"=pure none:=am_miss_of_fast (by decide+kernel)
end F
section
variable {prog:Program}{w:World}{A:Around}{E:Value→Shared→Prop}{s:Shared}
theorem wpAny_miss_zip {a:Addr}{fs:Array Value}{u:Tok}{Q:Fin→Shared→Prop}(hx:s.heap.get? a=some {cls:=.type "zip",dict:=none,data:=.fields fs,slots:=#[]})(hh:A.handled=none)
  (h:∀h' tk e,Heap.NewAttrErr s.heap h' e (.ref a) "keys"→E (.ref e) {s with heap:=h',toks:=tk}):
  wpAny (model prog w) A (Builtin.«object.__getattribute__» ⟨[.ref a, .str "keys" u],[]⟩) Q E s:=by
 obtain⟨hp,g,d,tk,os⟩:=s
 have hT:(⟨hp,g,d,tk,os⟩:Shared).TypeIs (.ref a) "zip":=⟨_,hx,rfl⟩
 have hmiss:=F.zip_nokeys
 unfold Builtin.«object.__getattribute__»
 repeat (any_goals (first|assumption|wp_step))
 exact wpAny_raiseAttrError hh h (attrMsg_fits (by decide+kernel) (by rw[sizeLine_eq];decide+kernel))
theorem wpAny_nokeys_zip {a:Addr}{fs:Array Value}{Q:Option Value→Shared→Prop}(hx:s.heap.get? a=some {cls:=.type "zip",dict:=none,data:=.fields fs,slots:=#[]})(hh:A.handled=none)
  (h:∀h' tk,(∀b o,s.heap.get? b=some o→h'.get? b=some o)→Q none {s with heap:=h',toks:=tk}):wpAny (model prog w) A (getAttr? (.ref a) "keys") Q E s:=by
 obtain⟨hp,g,d,tk,os⟩:=s
 have hT:∀tk,(⟨hp,g,d,tk,os⟩:Shared).TypeIs (.ref a) "zip":=fun _=>⟨_,hx,rfl⟩
 have f1:=sub_AttributeError
 have f3:=F.slot_zip_getattribute.lookup
 have f4:=F.slot_zip_getattribute.bind (.ref a)
 have f5:=F.zip_nogetattr
 unfold getAttr? getAttrBy? getAttrBy
 repeat (any_goals (first|assumption|wp_step))
 refine codeAny_call_builtin F.slot_zip_getattribute.plain F.entry_zip_ga (F.slot_zip_getattribute.check _ _ _ _ _ _ _ _ (hT _) (F.args_zip_getattribute_2 _ _) (wpAny_miss_zip hx hh fun h' tk' e hx'=>?_))
 obtain⟨t',u',he⟩:=hx'.there
 have hE:∀tk,(⟨h',g,d,tk,os⟩:Shared).TypeIs (.ref e) "AttributeError":=fun _=>⟨_,he,rfl⟩
 show wpAny _ _ (getattributeRaised _ _ _ _ _ _ _) _ _ _
 unfold getattributeRaised
 repeat (any_goals (first|assumption|wp_step))
 exact h h' tk' hx'.keeps
end
namespace F
theorem plain_upd_loop:plainId "dict.update.loop"=true:=by decide+kernel
theorem entry_upd_loop:entryFor table "dict.update.loop"=some Builtin.«dict.update.loop»:=entryFor_of_fast (by kernel_rfl)
end F
section
variable {prog:Program}{w:World}{K:Type}[DecidableEq K]{knd:KeyKind prog w K}{A:Around}{R:Result→Shared→Prop}
theorem Heap.DictOf.kept {h h':Heap}{a:Addr}{kvs:List (K×Value)}(hm:h.DictOf knd a kvs)(k:∀o,h.get? a=some o→h'.get? a=some o):h'.DictOf knd a kvs:=let ⟨o,es,ep,ho,r⟩:=hm;⟨o,es,ep,k o ho,r⟩
theorem upd_zipK {ka kb:Bool}{z TI TO i1 i2 t1 t2 S N:Addr}{xs ys:Array Value}(ks:Nat→K)(hh:A.handled=none)(hxy:xs.size=ys.size)(hk:∀j x,xs[j]?=some x→knd.is (ks j) x=true)(res:Value)
  (nd:[z,TI,TO,i1,i2].Nodup) (lt:∀b∈[z,TI,TO,i1,i2],b<N) (sS:S∉[z,TI,TO,i1,i2]) (sN:S<N) (n1:t1∉[z,TI,TO,i1,i2]) (m1:t1≠S) (n2:t2∉[z,TI,TO,i1,i2]) (m2:t2≠S):
  ∀(m i:Nat) (s:Shared) (kvs:List (K×Value)) (tk:Tok),xs.size=i+m→ZW ka kb s.heap z TI TO i1 i2 t1 t2 N xs ys i→N≤s.heap.objs.size→s.heap.DictOf knd S kvs→kvs.length+m≤sizeLine→
  (∀h' tk',(∀b o,b∉[S,z,TI,TO,i1,i2]→s.heap.get? b=some o→h'.get? b=some o)→h'.DictOf knd S ((List.range' i m).foldl (fun acc j=>stored acc (ks j) (ys.getD j .none)) kvs)→R (.ok (.ret res)) {s with heap:=h',toks:=tk'})→
  codeAny (model prog w) A (.builtin "dict.update.loop" ⟨[.ref S, .ref z, .int i tk,res],[]⟩) R s:=by
 have nP:∀j,N≤j→j∉[z,TI,TO,i1,i2]:=fun j l h=>absurd (lt _ h) (Nat.not_lt.mpr l)
 intro m
 induction m with
 |zero=>
  intro i s kvs tk hm W sz hS hl hR
  obtain rfl:xs.size=i:=hm
  refine codeAny_builtin F.entry_upd_loop ?_
  rw[Around.under_plainId F.plain_upd_loop _]
  show wpAny _ _ (pyNext (.ref z)>>=_) _ _ _
  refine wpAny_bind (zw_end hh W nd n1 (by simp) fun h' kp=>?_)
  show wpAny _ _ (Builtin.Dict.addKeywords S []>>=_) _ _ _
  exact wpAny_bind (wpAny_pure (wpAny_pure (hR h' s.toks (fun b o hb=>kp b o fun q=>hb (List.mem_cons_of_mem _ q)) (hS.kept fun o=>kp S o sS))))
 |succ m ih=>
  intro i s kvs tk hm W sz hS hl hR
  have hlt:i<xs.size:=by rw[hm];exact Nat.lt_add_of_pos_right (Nat.succ_pos _)
  have hx:xs[i]?=some xs[i]:=by simp[hlt]
  have hy:ys[i]?=some (ys[i]'(hxy ▸ hlt)):=by simp
  refine codeAny_builtin F.entry_upd_loop ?_
  rw[Around.under_plainId F.plain_upd_loop _]
  show wpAny _ _ (pyNext (.ref z)>>=_) _ _ _
  refine wpAny_bind (zw_item W nd n1 n2 (nP N (Nat.le_refl _)) hx hy fun h' W' np sz' kp=>?_)
  have hS':=hS.kept fun o=>kp S o sS
  have hT:Shared.TypeIs {s with heap:=h'} (.ref s.heap.objs.size) "tuple":=⟨_,np,rfl⟩
  refine wpAny_bind (wpAny_holding ?_)
  refine wpAny_bind ?_
  refine wpAny_tryCatch ?_
  unfold Builtin.Dict.pairItems
  refine wpAny_bind (wpAny_typeOf hT ?_)
  rw[if_pos (by decide)]
  refine wpAny_bind (wpAny_seqItems np rfl (wpAny_pure ?_))
  show wpAny _ _ (holding [xs[i],ys[i]'(hxy ▸ hlt)] (dictSet S xs[i] (ys[i]'(hxy ▸ hlt)))) _ _ _
  refine wpAny_holding (wpAny_dictSet_pairs (s:={s with heap:=h'}) (hk i _ hx) hS' (fun h2 hd2 hs2=>?_) (by omega))
  have k2:∀b o,b≠S→h'.get? b=some o→h2.get? b=some o:=fun b o hb e=>(hs2.2 b hb).trans e
  refine wpAny_pure ⟨plainId_quiet F.plain_upd_loop _,?_⟩
  refine ih (i+1) {s with heap:=h2,toks:=s.toks+1} _ _ (by rw[hm,Nat.succ_add];rfl) (W'.up k2 hs2.1 sS (Nat.ne_of_gt sN) m1 m2) (by show N≤h2.objs.size;rw[hs2.1,sz'];exact Nat.le_succ_of_le sz) hd2 ?_ fun h3 tk3 kp3 hd3=>?_
  ·have:=stored_length_le kvs (ks i) (ys[i]'(hxy ▸ hlt))
   omega
  ·refine hR h3 tk3 (fun b o hb e=>kp3 b o hb (k2 b o (fun q=>hb (by rw[q];exact List.mem_cons_self)) (kp b o (fun q=>hb (List.mem_cons_of_mem _ q)) e))) ?_
   rw[List.range'_succ,List.foldl_cons]
   have e:ys.getD i .none=ys[i]'(hxy ▸ hlt):=by simp[Array.getD,hxy ▸ hlt]
   rw[e]
   exact hd3
end
section
variable {prog:Program}{w:World}{K:Type}[DecidableEq K]{knd:KeyKind prog w K}{A:Around}{E:Value→Shared→Prop}{s:Shared}
theorem call_dict_zipK {ka kb:Bool}{z TI TO i1 i2 t1 t2:Addr}{xs ys:Array Value}(ks:Nat→K){Q:Value→Shared→Prop}(hh:A.handled=none)(hn:xs.size≤sizeLine)(hxy:xs.size=ys.size)(hk:∀j x,xs[j]?=some x→knd.is (ks j) x=true)(Z:ZipG ka kb s.heap z TI TO i1 i2 t1 t2 0)
  (h1:SSq ka s.heap t1 xs) (h2:SSq kb s.heap t2 ys) (n1:t1∉[z,TI,TO,i1,i2]) (n2:t2∉[z,TI,TO,i1,i2])
  (hQ:∀h' tk',(∀b o,b∉[s.heap.objs.size,z,TI,TO,i1,i2]→s.heap.get? b=some o→h'.get? b=some o)→h'.DictOf knd s.heap.objs.size ((List.range' 0 xs.size).foldl (fun acc j=>stored acc (ks j) (ys.getD j .none)) [])→Q (.ref s.heap.objs.size) {s with heap:=h',toks:=tk'}):
  wpAny (model prog w) A (call (.type "dict") [.ref z]) Q E s:=by
 have lt:∀c∈[z,TI,TO,i1,i2],c<s.heap.objs.size:=fun c hc=>by
  simp only[List.mem_cons,List.not_mem_nil,or_false]at hc
  obtain⟨nd,zz,ti,⟨u,v,tO⟩,⟨o1,j1,c1,d1⟩,⟨o2,j2,c2,d2⟩⟩:=Z
  rcases hc with rfl|rfl|rfl|rfl|rfl
  ·exact Heap.lt_size zz
  ·exact Heap.lt_size ti
  ·exact Heap.lt_size tO
  ·exact Heap.lt_size j1
  ·exact Heap.lt_size j2
 refine callType_codes (Q₁:=fun obj s₁=>obj=.ref s.heap.objs.size∧s₁={s with heap:=s.heap.push {cls:=.type "dict",data:=.dict #[]}}) F.kt_called_dict (F.kt_typeCall_dict_1 _) F.entry_dict_init (kt_code_dict_new _ ⟨rfl,rfl⟩) ?_
 rintro obj s₁ ⟨rfl,rfl⟩
 have hnew:(s.heap.push {cls:=.type "dict",data:=.dict #[]}).DictOf knd s.heap.objs.size []:=Heap.DictOf.new s.heap
 have up:∀b o,s.heap.get? b=some o→(s.heap.push {cls:=.type "dict",data:=.dict #[]}).get? b=some o:=fun b o e=>Heap.get?_push_of_some _ e
 have szp:(s.heap.push {cls:=.type "dict",data:=.dict #[]}).objs.size=s.heap.objs.size+1:=Heap.size_push ..
 refine⟨hnew.typeIs,F.args_dict_init_2 _ _,?_⟩
 revert hnew up szp
 generalize s.heap.push {cls:=.type "dict",data:=.dict #[]}=g
 intro hnew up szp
 have Z1:ZipG ka kb g z TI TO i1 i2 t1 t2 0:=Z.up fun b o _=>up b o
 unfold Builtin.«dict.__init__»
 refine wpAny_bind ?_
 unfold Builtin.Dict.selfAndRest
 refine wpAny_bind (wpAny_notOrdered_dict hnew.typeIs ?_)
 show wpAny _ _ (pure (s.heap.objs.size,[Value.ref z])) _ _ _
 refine wpAny_pure ?_
 show wpAny _ _ (Builtin.Dict.updateFrom "dict.__init__" s.heap.objs.size (.ref z) [] .none) _ _ _
 unfold Builtin.Dict.updateFrom
 have hT:Shared.TypeIs {s with heap:=g} (.ref z) "zip":=⟨_,Z1.zz,rfl⟩
 refine wpAny_bind (wpAny_typeOf hT ?_)
 rw[if_pos (by decide)]
 refine wpAny_bind (wpAny_nokeys_zip Z1.zz hh fun h3 tk3 kp3=>?_)
 rw[if_pos (show(Option.none (α:=Value)).isNone=true from rfl)]
 have Z3:ZipG ka kb h3 z TI TO i1 i2 t1 t2 0:=Z1.up fun b o _=>kp3 b o
 have hd3:=hnew.kept fun o=>kp3 _ o
 refine wpAny_bind (wpAny_rule (wpAny_bind (wpAny_pyIter_zip (s:={s with heap:=h3,toks:=tk3}) Z3.zz ?_)))
 have neS:∀c∈[z,TI,TO,i1,i2],c≠s.heap.objs.size:=fun c hc e=>by have:=lt c hc;rw[e]at this;exact Nat.lt_irrefl _ this
 have ne1:t1≠s.heap.objs.size:=h1.elim fun o e=>Nat.ne_of_lt (Heap.lt_size e.1)
 have ne2:t2≠s.heap.objs.size:=by
  cases kb with
  |true=>exact h2.elim fun o e=>Nat.ne_of_lt (Heap.lt_size e.1)
  |false=>exact h2.elim fun o e=>Nat.ne_of_lt (Heap.lt_size e.1)
 have s3:s.heap.objs.size<h3.objs.size:=by
  obtain⟨o,_,_,ho,_⟩:=hd3
  exact Heap.lt_size ho
 refine wpAny_pure ⟨plainId_quiet F.plain_upd_loop _,upd_zipK (A:=A.in1) (N:=h3.objs.size) (S:=s.heap.objs.size) ks hh hxy hk .none Z.nd (fun b hb=>Nat.lt_trans (lt b hb) s3) (fun h=>neS _ h rfl) s3 n1 ne1 n2 ne2 xs.size 0 _ [] _ (Nat.zero_add _).symm
  ⟨.inl ⟨Z3,rfl⟩,SSq.up (b:=ka) h1 fun o e=>kp3 _ o (up _ o e),SSq.up (b:=kb) h2 fun o e=>kp3 _ o (up _ o e)⟩ (Nat.le_refl _) hd3 (by simpa using hn) fun h' tk' kp hd=>?_⟩
 exact⟨rfl,hQ h' tk' (fun b o hb e=>kp b o hb (kp3 b o (up b o e))) hd⟩
end
end PySem
namespace L2
open PySem PySem.Spec PyProof.Rows
def seqO:Bool→List V→HO
 |true=>.lst
 |false=>.tup
def tDictZip (ta:TA):TE:=fun σ H Q=>ta σ H fun vs H1=>∃(ka kb:Bool) (a b:Addr) (ks:List Key) (ys:List V),vs=[.ref a, .ref b]∧H1 a=some (seqO ka (ks.map kV))∧H1 b=some (seqO kb ys)∧ks.length=ys.length∧∀p,H1 p=none→Q (.ref p) (upd H1 p (.dK (mergeK [] (ks.zip ys))))
theorem kv_zip:∀{ks:List Key} {ys:List V} {us:List Value},Vals ys us→ks.length=ys.length→KV (ks.zip ys) (ks.zip us)
 |[],_,_,_,_=>.nil
 |k::ks,_,_, .cons r rr,h=>.cons ⟨rfl,r⟩ (kv_zip rr (Nat.succ.inj h))
theorem mergeK_len (more:List (Key×V)):∀kvs:List (Key×V),(mergeK kvs more).length≤kvs.length+more.length:=by
 induction more with
 |nil=>intro kvs;exact Nat.le_refl _
 |cons p r ih=>
  intro kvs
  have h1:=ih (putK kvs p.1 p.2)
  have h2:=length_putK kvs p.1 p.2
  show(mergeK (putK kvs p.1 p.2) r).length≤_
  rw[List.length_cons]
  omega
theorem pe_dictZip {X:Cx}{e1 e2:Expr}{ta:TA}{p pos p2 pos2:Pos}(hc:X.calm=true)(hgl:Gl X "dict")(hml:X.mg "dict"=none)(hg:Gl X "zip")(hm:X.mg "zip"=none)(hbd:bootBuiltins "dict"=some (.type "dict"))(ha:PA X [e1,e2] ta)
  (hs1:starEach [Expr.Call (.Name "zip" p2) [e1,e2] [] pos2] X.env=[(false,eval (Expr.Call (.Name "zip" p2) [e1,e2] [] pos2) X.env)]:=by rfl)
  (hs:starEach [e1,e2] X.env=[(false,eval e1 X.env),(false,eval e2 X.env)]:=by rfl) (hs2:starEach [e2] X.env=[(false,eval e2 X.env)]:=by rfl):
  PE X (.Call (.Name "dict" p) [.Call (.Name "zip" p2) [e1,e2] [] pos2] [] pos) (tDictZip ta):=by
 intro pins s σ H Q I h
 refine wpAny_Call_Name_kw (ld_blt I hgl hml hbd ?_ (by decide) (by decide))
 refine PyProof.Rows.callWith_type1 ?_ hs1 rfl
 rw[hs1]
 refine Calls.spliced_cons ?_
 refine Call_ (ld_blt I hg hm boot_zip' (PyProof.Rows.callWith_type1 (thn (ha pos2 pins s σ H _ I h) fun us s1 ⟨vs,H1,I1,r1,q1⟩=>?_) (by rw[hs,hs2]) (by rw[hs2];rfl)))
 obtain⟨ka,kb,a,b,ks,ys,rfl,h1,h2,hlen,q⟩:=q1
 cases r1 with
 |cons r rr=>
  cases rr with
  |cons r' rr=>
   cases rr
   cases r
   cases r'
   obtain⟨its1,rv1,p1,z1⟩:∃its:List Value,Vals (ks.map kV) its∧SSq ka s1.heap a its.toArray∧(ks.map kV).length≤sizeLine:=by
    cases ka with
    |true=>obtain⟨its,a1,a2,a3⟩:=I1.list (SqL.of (K:=X.K) h1);exact⟨its,a1,a2.isList,a3⟩
    |false=>obtain⟨its,a1,a2,a3⟩:=I1.tuple (SqT.of (K:=X.K) h1);exact⟨its,a1,a2,a3⟩
   obtain⟨its2,rv2,p2',z2⟩:∃its:List Value,Vals ys its∧SSq kb s1.heap b its.toArray∧ys.length≤sizeLine:=by
    cases kb with
    |true=>obtain⟨its,a1,a2,a3⟩:=I1.list (SqL.of (K:=X.K) h2);exact⟨its,a1,a2.isList,a3⟩
    |false=>obtain⟨its,a1,a2,a3⟩:=I1.tuple (SqT.of (K:=X.K) h2);exact⟨its,a1,a2,a3⟩
   have l1:=rv1.length
   have l2:=rv2.length
   rw[List.length_map]at l1
   refine call_zipGG (K1:=ka) (K2:=kb) p1 p2' fun h2' z TI TO i1 i2 g1 g2 g3 g4 g5 Z kp=>?_
   refine Calls.spliced_nil ?_
   have alt:a<s1.heap.objs.size:=p1.elim fun o e=>Heap.lt_size e.1
   have blt:b<s1.heap.objs.size:=p2'.elim fun o e=>Heap.lt_size e.1
   have ge:∀c∈[z,TI,TO,i1,i2],s1.heap.objs.size≤c:=fun c hc=>by
    simp only[List.mem_cons,List.not_mem_nil,or_false]at hc
    rcases hc with rfl|rfl|rfl|rfl|rfl<;>assumption
   have szl:s1.heap.objs.size≤h2'.objs.size:=Nat.le_trans g1 (Nat.le_of_lt (Heap.lt_size Z.zz))
   have zl:its2.length≤sizeLine:=by rw[←l2];exact z2
   refine call_dict_zipK (knd:=mixKind X.prog X.w) (s:={s1 with heap:=h2'}) (fun j=>ks.getD j (Sum.inl 0)) (I1.ok.hd hc) (by simp;omega) (by simp;omega) (fun j x hx=>?_) Z (SSq.up (b:=ka) p1 (kp _)) (SSq.up (b:=kb) p2' (kp _))
    (fun q=>absurd (ge _ q) (Nat.not_le.mpr alt)) (fun q=>absurd (ge _ q) (Nat.not_le.mpr blt)) fun h3 tk3 kp3 hD=>?_
   ·have hj:j<its1.length:=by simpa using(Array.getElem?_eq_some_iff.mp hx).1
    have hk:ks[j]?=some (ks[j]'(by omega)):=List.getElem?_eq_getElem _
    obtain⟨u,hu,ru⟩:=rv1.get (x:=kV (ks[j]'(by omega))) (i:=j) (by rw[List.getElem?_map,hk];rfl)
    rw[List.getElem?_toArray,hu]at hx
    cases hx
    rw[List.getD_eq_getElem?_getD,hk]
    exact kV_is ru
   have kp1:∀c o,s1.heap.get? c=some o→h3.get? c=some o:=fun c o e=>kp3 c o (fun q=>by
    have hlt:=Heap.lt_size e
    rcases List.mem_cons.mp q with q|q
    ·rw[q]at hlt
     exact absurd hlt (Nat.not_lt.mpr szl)
    ·exact absurd (ge c q) (Nat.not_le.mpr hlt)) (kp c o e)
   have e0:(List.range' 0 its1.toArray.size).foldl (fun acc j=>stored acc (ks.getD j (Sum.inl 0)) (its2.toArray.getD j .none)) []=merged [] (ks.zip its2):=by
    have:ks.zip its2=(List.range' 0 its1.toArray.size).map fun j=>(ks.getD j (Sum.inl 0),its2.toArray.getD j .none):=by
     refine List.ext_getElem? fun j=>?_
     by_cases hj:j<ks.length
     ·rw[List.getElem?_map,List.getElem?_range' (by simp;omega)]
      have hj2:j<its2.length:=by omega
      simp[List.getElem?_zip_eq_some,List.getElem?_eq_getElem,hj,hj2]
     ·rw[List.getElem?_eq_none (by rw[List.length_zip];omega),List.getElem?_eq_none (by simp;omega)]
    rw[this]
    unfold merged
    rw[List.foldl_map]
   rw[e0]at hD
   have rel:KV (mergeK [] (ks.zip ys)) (merged [] (ks.zip its2)):=KV.merge (kv_zip rv2 hlen) .nil
   have zm:(mergeK [] (ks.zip ys)).length≤sizeLine:=by
    have:=mergeK_len (ks.zip ys) []
    rw[List.length_zip]at this
    simp at this
    omega
   have big:(h2'.objs.size==sysModules)=false:=beq_eq_false_iff_ne.mpr (Ne.symm (Nat.ne_of_lt (Nat.lt_of_lt_of_le I1.big szl)))
   have I3:=I1.laid (a:=h2'.objs.size) (o:=.dK (mergeK [] (ks.zip ys))) (h':=h3) (t':=tk3) kp1 szl (dk_new zm big rel hD)
   exact⟨.ref h2'.objs.size,_,I3,rfl,q _ (I1.hok.fresh szl)⟩
end L2
namespace PySem
open PyProof.Rows
namespace F
theorem list_nokeys:typeLookup (.type "list") "keys"=pure none:=am_miss_of_fast (by decide+kernel)
theorem list_nogetattr:typeLookup (.type "list") "__getattr__"=pure none:=am_miss_of_fast (by decide+kernel)
theorem entry_list_gaD:entryFor table "list.__getattribute__"=some Builtin.«object.__getattribute__» :=
 entryFor_alias (id':="object.__getattribute__") (by kernel_rfl) (by first|rfl|decide+kernel) (by decide+kernel) (by kernel_rfl)
end F
section
variable {prog:Program}{w:World}{A:Around}{E:Value→Shared→Prop}{s:Shared}
theorem wpAny_miss_list {a:Addr}{xs:Array Value}{c:Nat}{u:Tok}{Q:Fin→Shared→Prop}(hx:s.heap.get? a=some {cls:=.type "list",dict:=none,data:=.seq xs c,slots:=#[]})(hh:A.handled=none)
  (h:∀h' tk e,Heap.NewAttrErr s.heap h' e (.ref a) "keys"→E (.ref e) {s with heap:=h',toks:=tk}):
  wpAny (model prog w) A (Builtin.«object.__getattribute__» ⟨[.ref a, .str "keys" u],[]⟩) Q E s:=by
 obtain⟨hp,g,d,tk,os⟩:=s
 have hT:(⟨hp,g,d,tk,os⟩:Shared).TypeIs (.ref a) "list":=⟨_,hx,rfl⟩
 have hmiss:=F.list_nokeys
 unfold Builtin.«object.__getattribute__»
 repeat (any_goals (first|assumption|wp_step))
 exact wpAny_raiseAttrError hh h (attrMsg_fits (by decide+kernel) (by rw[sizeLine_eq];decide+kernel))
theorem wpAny_nokeys_list {a:Addr}{xs:Array Value}{c:Nat}{Q:Option Value→Shared→Prop}(hx:s.heap.get? a=some {cls:=.type "list",dict:=none,data:=.seq xs c,slots:=#[]})(hh:A.handled=none)
  (h:∀h' tk,(∀b o,s.heap.get? b=some o→h'.get? b=some o)→Q none {s with heap:=h',toks:=tk}):wpAny (model prog w) A (getAttr? (.ref a) "keys") Q E s:=by
 obtain⟨hp,g,d,tk,os⟩:=s
 have hT:∀tk,(⟨hp,g,d,tk,os⟩:Shared).TypeIs (.ref a) "list":=fun _=>⟨_,hx,rfl⟩
 have f1:=sub_AttributeError
 have f3:=F.slot_list_getattribute.lookup
 have f4:=F.slot_list_getattribute.bind (.ref a)
 have f5:=F.list_nogetattr
 unfold getAttr? getAttrBy? getAttrBy
 repeat (any_goals (first|assumption|wp_step))
 refine codeAny_call_builtin F.slot_list_getattribute.plain F.entry_list_gaD (F.slot_list_getattribute.check _ _ _ _ _ _ _ _ (hT _) (F.args_list_getattribute_2 _ _) (wpAny_miss_list hx hh fun h' tk' e hx'=>?_))
 obtain⟨t',u',he⟩:=hx'.there
 have hE:∀tk,(⟨h',g,d,tk,os⟩:Shared).TypeIs (.ref e) "AttributeError":=fun _=>⟨_,he,rfl⟩
 show wpAny _ _ (getattributeRaised _ _ _ _ _ _ _) _ _ _
 unfold getattributeRaised
 repeat (any_goals (first|assumption|wp_step))
 exact h h' tk' hx'.keeps
end
end PySem
namespace L2
open PySem PySem.Spec PyProof.Rows
inductive rUpd (x:V)(xs:List V)(H:Hp)(Q:VK):Prop where
 |mk (a b:Addr) (kvs more:List (Key×V)):x=.ref a→xs=[.ref b]→a≠b→H a=some (.dK kvs)→H b=some (.dK more)→kvs.length+more.length≤sizeLine→Q .non (upd H a (.dK (mergeK kvs more)))→rUpd x xs H Q
end L2
namespace PySem
open PyProof.Rows
section
variable {prog:Program}{w:World}{K:Type}[DecidableEq K]{knd:KeyKind prog w K}{A:Around}{R:Result→Shared→Prop}
theorem upd_list {it l S:Addr}{items:Array Value}(ks:Nat→K)(vals:Nat→Value)(hh:A.handled=none)(res:Value)(nS:S≠it)(lS:l≠S)(lit:l≠it):
  ∀(m i:Nat) (s:Shared) (kvs:List (K×Value)) (tk:Tok),items.size=i+m→s.heap.IsListIter it l i→s.heap.IsList l items→
  (∀j x,items[j]?=some x→∃p key,x=.ref p∧p≠S∧p≠it∧s.heap.IsTuple p #[key,vals j]∧knd.is (ks j) key=true)→s.heap.DictOf knd S kvs→kvs.length+m≤sizeLine→
  (∀h' tk',(∀b o,b∉[S,it]→s.heap.get? b=some o→h'.get? b=some o)→h'.DictOf knd S ((List.range' i m).foldl (fun acc j=>stored acc (ks j) (vals j)) kvs)→R (.ok (.ret res)) {s with heap:=h',toks:=tk'})→
  codeAny (model prog w) A (.builtin "dict.update.loop" ⟨[.ref S, .ref it, .int i tk,res],[]⟩) R s:=by
 intro m
 induction m with
 |zero=>
  intro i s kvs tk hm hit hl hp hS hz hR
  obtain rfl:items.size=i:=hm
  refine codeAny_builtin F.entry_upd_loop ?_
  rw[Around.under_plainId F.plain_upd_loop _]
  show wpAny _ _ (pyNext (.ref it)>>=_) _ _ _
  refine wpAny_bind (wpAny_pyNext_list_end hh hit hl (by simp) fun h' eb=>?_)
  show wpAny _ _ (Builtin.Dict.addKeywords S []>>=_) _ _ _
  exact wpAny_bind (wpAny_pure (wpAny_pure (hR h' s.toks (fun b o hb e=>eb b o (fun q=>hb (by simp[q])) e) (hS.kept fun o e=>eb S o nS e))))
 |succ m ih=>
  intro i s kvs tk hm hit hl hp hS hz hR
  have hlt:i<items.size:=by rw[hm];exact Nat.lt_add_of_pos_right (Nat.succ_pos _)
  have hx:items[i]?=some items[i]:=by simp[hlt]
  obtain⟨p,key,ep,pS,pit,tp,hk⟩:=hp i _ hx
  refine codeAny_builtin F.entry_upd_loop ?_
  rw[Around.under_plainId F.plain_upd_loop _]
  show wpAny _ _ (pyNext (.ref it)>>=_) _ _ _
  refine wpAny_bind (wpAny_pyNext_list_item hit hl hx fun h' hit' sb=>?_)
  have k1:∀b o,b≠it→s.heap.get? b=some o→h'.get? b=some o:=fun b o hb e=>(sb.2 b hb).trans e
  have hS':=hS.kept fun o e=>k1 S o nS e
  obtain⟨o,ho,hc,n,hd⟩:=id tp
  have ho':=k1 p o pit ho
  rw[ep]
  have hT:Shared.TypeIs {s with heap:=h'} (.ref p) "tuple":=⟨_,ho',hc⟩
  refine wpAny_bind (wpAny_holding ?_)
  refine wpAny_bind ?_
  refine wpAny_tryCatch ?_
  unfold Builtin.Dict.pairItems
  refine wpAny_bind (wpAny_typeOf hT ?_)
  rw[if_pos (by decide)]
  refine wpAny_bind (wpAny_seqItems ho' hd (wpAny_pure ?_))
  show wpAny _ _ (holding [key,vals i] (dictSet S key (vals i))) _ _ _
  refine wpAny_holding (wpAny_dictSet_pairs (s:={s with heap:=h'}) hk hS' (fun h2 hd2 hs2=>?_) (by omega))
  have k2:∀b o,b≠S→h'.get? b=some o→h2.get? b=some o:=fun b o hb e=>(hs2.2 b hb).trans e
  refine wpAny_pure ⟨plainId_quiet F.plain_upd_loop _,?_⟩
  refine ih (i+1) {s with heap:=h2,toks:=s.toks+1} _ _ (by rw[hm,Nat.succ_add];rfl) ?_ ?_ (fun j x hj=>?_) hd2 ?_ fun h3 tk3 kp3 hd3=>?_
  ·obtain⟨o1,e1,e2⟩:=hit'
   exact⟨o1,k2 _ _ (Ne.symm nS) e1,e2⟩
  ·obtain⟨o1,e1,e2⟩:=hl
   exact⟨o1,k2 _ _ lS (k1 _ _ lit e1),e2⟩
  ·obtain⟨p',key',q1,q2,q3,⟨o1,e1,e2⟩,q5⟩:=hp j x hj
   exact⟨p',key',q1,q2,q3,⟨o1,k2 _ _ q2 (k1 _ _ q3 e1),e2⟩,q5⟩
  ·have:=stored_length_le kvs (ks i) (vals i)
   omega
  ·refine hR h3 tk3 (fun b o hb e=>kp3 b o hb (k2 b o (fun q=>hb (by simp[q])) (k1 b o (fun q=>hb (by simp[q])) e))) ?_
   rw[List.range'_succ,List.foldl_cons]
   exact hd3
end
section
variable {prog:Program}{w:World}{K:Type}[DecidableEq K]{knd:KeyKind prog w K}{A:Around}{E:Value→Shared→Prop}{s:Shared}
theorem call_dict_list {l:Addr}{items:Array Value}{c:Nat}(ks:Nat→K)(vals:Nat→Value){Q:Value→Shared→Prop}(hh:A.handled=none)(hn:items.size≤sizeLine)(hl:s.heap.get? l=some {cls:=.type "list",dict:=none,data:=.seq items c,slots:=#[]})
  (hp:∀j x,items[j]?=some x→∃p key,x=.ref p∧s.heap.IsTuple p #[key,vals j]∧knd.is (ks j) key=true)
  (hQ:∀h' tk',(∀b o,s.heap.get? b=some o→h'.get? b=some o)→h'.DictOf knd s.heap.objs.size ((List.range' 0 items.size).foldl (fun acc j=>stored acc (ks j) (vals j)) [])→Q (.ref s.heap.objs.size) {s with heap:=h',toks:=tk'}):
  wpAny (model prog w) A (call (.type "dict") [.ref l]) Q E s:=by
 refine callType_codes (Q₁:=fun obj s₁=>obj=.ref s.heap.objs.size∧s₁={s with heap:=s.heap.push {cls:=.type "dict",data:=.dict #[]}}) F.kt_called_dict (F.kt_typeCall_dict_1 _) F.entry_dict_init (kt_code_dict_new _ ⟨rfl,rfl⟩) ?_
 rintro obj s₁ ⟨rfl,rfl⟩
 have hnew:(s.heap.push {cls:=.type "dict",data:=.dict #[]}).DictOf knd s.heap.objs.size []:=Heap.DictOf.new s.heap
 have up:∀b o,s.heap.get? b=some o→(s.heap.push {cls:=.type "dict",data:=.dict #[]}).get? b=some o:=fun b o e=>Heap.get?_push_of_some _ e
 refine⟨hnew.typeIs,F.args_dict_init_2 _ _,?_⟩
 revert hnew up
 generalize s.heap.push {cls:=.type "dict",data:=.dict #[]}=g
 intro hnew up
 unfold Builtin.«dict.__init__»
 refine wpAny_bind ?_
 unfold Builtin.Dict.selfAndRest
 refine wpAny_bind (wpAny_notOrdered_dict hnew.typeIs ?_)
 show wpAny _ _ (pure (s.heap.objs.size,[Value.ref l])) _ _ _
 refine wpAny_pure ?_
 show wpAny _ _ (Builtin.Dict.updateFrom "dict.__init__" s.heap.objs.size (.ref l) [] .none) _ _ _
 unfold Builtin.Dict.updateFrom
 have hT:Shared.TypeIs {s with heap:=g} (.ref l) "list":=⟨_,up _ _ hl,rfl⟩
 refine wpAny_bind (wpAny_typeOf hT ?_)
 rw[if_pos (by decide)]
 refine wpAny_bind (wpAny_nokeys_list (up _ _ hl) hh fun h3 tk3 kp3=>?_)
 rw[if_pos (show(Option.none (α:=Value)).isNone=true from rfl)]
 have hl3:=kp3 _ _ (up _ _ hl)
 have hd3:=hnew.kept fun o=>kp3 _ o
 have lt3:s.heap.objs.size<h3.objs.size:=by
  obtain⟨o,_,_,ho,_⟩:=hd3
  exact Heap.lt_size ho
 refine wpAny_bind (wpAny_rule (wpAny_bind (wpAny_pyIter_list (s:={s with heap:=h3,toks:=tk3}) (l:=l) (items:=items) ⟨_,hl3,rfl,_,rfl⟩ ?_)))
 have up4:∀b o,h3.get? b=some o→(h3.push {cls:=.type "list_iterator",data:=.fields #[.ref l, .int 0 0]}).get? b=some o:=fun b o e=>Heap.get?_push_of_some _ e
 have hit:(h3.push {cls:=.type "list_iterator",data:=.fields #[.ref l, .int 0 0]}).IsListIter h3.objs.size l 0:=⟨_,Heap.get?_push_size _ rfl,rfl,rfl⟩
 have l3:∀b o,h3.get? b=some o→b≠h3.objs.size:=fun b o e=>Nat.ne_of_lt (Heap.lt_size e)
 revert up4 hit
 show _→_→wpAny _ _ (again (.builtin "dict.update.loop" ⟨[.ref s.heap.objs.size, .ref h3.objs.size,rawInt 0, .none],[]⟩)) _ _ {s with heap:=h3.push {cls:=.type "list_iterator",data:=.fields #[.ref l, .int 0 0]},toks:=tk3}
 generalize h3.push {cls:=.type "list_iterator",data:=.fields #[.ref l, .int 0 0]}=g4
 intro up4 hit
 refine wpAny_pure ⟨plainId_quiet F.plain_upd_loop _,upd_list (A:=A.in1) (S:=s.heap.objs.size) (it:=h3.objs.size) (l:=l) (items:=items) ks vals hh .none (Nat.ne_of_lt lt3) (Nat.ne_of_lt (Heap.lt_size hl)) (l3 _ _ hl3) items.size 0 {s with heap:=g4,toks:=tk3} [] _ (Nat.zero_add _).symm
  hit ⟨_,up4 _ _ hl3,rfl,_,rfl⟩ (fun j x hj=>?_) (hd3.kept fun o=>up4 _ o) (by simpa using hn) fun h' tk' kp hd=>?_⟩
 ·obtain⟨p,key,q1,⟨o,e1,e2⟩,q3⟩:=hp j x hj
  have e3:=kp3 _ _ (up _ _ e1)
  exact⟨p,key,q1,Nat.ne_of_lt (Heap.lt_size e1),l3 _ _ e3,⟨o,up4 _ _ e3,e2⟩,q3⟩
 ·exact⟨rfl,hQ h' tk' (fun b o e=>kp b o (fun q=>by
   have e3:=kp3 _ _ (up _ _ e)
   rcases List.mem_cons.mp q with q|q
   ·exact absurd q (Nat.ne_of_lt (Heap.lt_size e))
   ·rw[List.mem_singleton]at q
    exact absurd q (l3 _ _ e3)) (up4 _ _ (kp3 _ _ (up _ _ e)))) hd⟩
end
end PySem
namespace L2
open PySem PySem.Spec PyProof.Rows
inductive rDictL (xs:List V)(H:Hp)(Q:VK):Prop where
 |mk (l:Addr) (ps:List Addr) (kvl:List (Key×V)):xs=[.ref l]→H l=some (.lst (ps.map V.ref))→ps.length=kvl.length→(∀(j:Nat) p kv,ps[j]?=some p→kvl[j]?=some kv→H p=some (.tup [kV kv.1,kv.2]))→(∀q,H q=none→Q (.ref q) (upd H q (.dK (mergeK [] kvl))))→rDictL xs H Q
theorem kv_of {f:Nat→Key×Value}:∀{kvl:List (Key×V)} (i:Nat),(∀(j:Nat) kv,kvl[j]?=some kv→kv.1=(f (i+j)).1∧RelV kv.2 (f (i+j)).2)→KV kvl ((List.range' i kvl.length).map f)
 |[],i,_=>.nil
 |kv::kvl,i,h=>by
  rw[List.length_cons,List.range'_succ,List.map_cons]
  exact .cons (h 0 kv rfl) (kv_of (i+1) fun j kv' hj=>by
   have:=h (j+1) kv' (by simpa using hj)
   rw[show i+(j+1)=i+1+j by omega]at this
   exact this)
theorem call_dict_l {X:Cx}(hc:X.calm=true):CallR X (.type "dict") rDictL:=by
 intro pins s σ H xs us Q I r h
 obtain⟨l,ps,kvl,rfl,hl,hlen,hps,q⟩:=h
 obtain⟨u,rfl,rx⟩:=vals1 r
 cases rx
 obtain⟨z,its,n,rv,e⟩:=I.hok l _ hl
 have lv:=rv.length
 rw[List.length_map]at lv z
 have key:∀j,j<its.length→∃p key val,its[j]?=some (.ref p)∧s.heap.IsTuple p #[key,val]∧∃kv,kvl[j]?=some kv∧(mixKind X.prog X.w).is kv.1 key=true∧RelV kv.2 val:=fun j hj=>by
  have hp:ps[j]?=some (ps[j]'(by omega)):=List.getElem?_eq_getElem _
  have hk:kvl[j]?=some (kvl[j]'(by omega)):=List.getElem?_eq_getElem _
  obtain⟨u,hu,ru⟩:=rv.get (x:=.ref (ps[j]'(by omega))) (i:=j) (by rw[List.getElem?_map,hp];rfl)
  cases ru
  obtain⟨z2,its2,rv2,p2⟩:=I.hok _ _ (hps j _ _ hp hk)
  cases rv2 with
  |cons r1 rr=>
   cases rr with
   |cons r2 rr=>
    cases rr
    exact⟨_,_,_,hu,p2,_,hk,kV_is r1,r2⟩
 obtain⟨vals,hv⟩:∃vals:Nat→Value,∀j,j<its.length→∃p key,its[j]?=some (.ref p)∧s.heap.IsTuple p #[key,vals j]∧∃kv,kvl[j]?=some kv∧(mixKind X.prog X.w).is kv.1 key=true∧RelV kv.2 (vals j):=by
  have this:∀j,∃val,j<its.length→∃p key,its[j]?=some (.ref p)∧s.heap.IsTuple p #[key,val]∧∃kv,kvl[j]?=some kv∧(mixKind X.prog X.w).is kv.1 key=true∧RelV kv.2 val:=fun j=>by
   by_cases hj:j<its.length
   ·obtain⟨p,k,v,q⟩:=key j hj
    exact⟨v,fun _=>⟨p,k,q⟩⟩
   ·exact⟨.none,fun h=>absurd h hj⟩
  exact⟨fun j=>(this j).choose,fun j hj=>(this j).choose_spec hj⟩
 refine call_dict_list (knd:=mixKind X.prog X.w) (items:=its.toArray) (fun j=>(kvl.getD j (Sum.inl 0, .non)).1) vals (I.ok.hd hc) (by simp;omega) e (fun j x hx=>?_) fun h' tk' kp hd=>?_
 ·have hj:j<its.length:=by simpa using(Array.getElem?_eq_some_iff.mp hx).1
  obtain⟨p,k,q1,q2,kv,q3,q4,q5⟩:=hv j hj
  rw[List.getElem?_toArray,q1]at hx
  cases hx
  exact⟨p,k,rfl,q2,by rw[List.getD_eq_getElem?_getD,q3];exact q4⟩
 ·have e0:(List.range' 0 its.toArray.size).foldl (fun acc j=>stored acc ((kvl.getD j (Sum.inl 0, .non)).1) (vals j)) []=merged [] ((List.range' 0 kvl.length).map fun j=>((kvl.getD j (Sum.inl 0, .non)).1,vals j)):=by
   unfold merged
   rw[List.foldl_map,List.size_toArray,←lv,hlen]
  rw[e0]at hd
  have rel:KV (mergeK [] kvl) (merged [] ((List.range' 0 kvl.length).map fun j=>((kvl.getD j (Sum.inl 0, .non)).1,vals j))):=KV.merge (kv_of 0 fun j kv hj=>by
   rw[Nat.zero_add]
   have hj2:j<its.length:=by have:=(List.getElem?_eq_some_iff.mp hj).1;omega
   obtain⟨p,k,q1,q2,kv',q3,q4,q5⟩:=hv j hj2
   rw[hj]at q3
   cases q3
   exact⟨by rw[List.getD_eq_getElem?_getD,hj];rfl,q5⟩) .nil
  have zm:(mergeK [] kvl).length≤sizeLine:=by
   have:=mergeK_len kvl []
   simp at this
   omega
  have big:(s.heap.objs.size==sysModules)=false:=beq_eq_false_iff_ne.mpr (Ne.symm (Nat.ne_of_lt I.big))
  exact⟨.ref s.heap.objs.size,_,I.laid (a:=s.heap.objs.size) (o:=.dK (mergeK [] kvl)) (h':=h') (t':=tk') kp (Nat.le_refl _) (dk_new zm big rel hd),rfl,q _ (I.hok.fresh (Nat.le_refl _))⟩
section
variable {K:PySem.W.Frag}{i:Nat}{w z:Str}{t u e:TS}{D:Ends}{σ:St}{H:Hp}{a:Addr}{xs:List V}
end
section
variable {X:Cx}
theorem ixT (K:PySem.W.Frag)(h:X.K=K:=by rfl):IxR X (rIxT K):=h ▸ ix_tup
theorem ixL (K:PySem.W.Frag)(h:X.K=K:=by rfl):IxR X (rIxL K):=h ▸ ix_list
theorem clen (K:PySem.W.Frag)(h:X.K=K:=by rfl):CallR X (.builtin "len") (r_call_len_seq K):=h ▸ call_len_seq
theorem piL (K:PySem.W.Frag){tg l:Expr}{tl:TE}(hl:PE X l tl)(h:X.K=K:=by rfl):PI X tg l (iList K tl):=h ▸ pi_list hl
theorem piT (K:PySem.W.Frag){tg l:Expr}{tl:TE}(hl:PE X l tl)(h:X.K=K:=by rfl):PI X tg l (iTup K tl):=h ▸ pi_tup hl
theorem fldK (K:PySem.W.Frag){e:Expr}{f:Str}{pos:Pos}{ta:TE}(he:PE X e ta)(hb:attributeBase e f X.env (eval e X.env)=eval e X.env)(h:X.K=K:=by rfl):PE X (.Attribute e f pos) (tFld K ta f):=h ▸ pe_fld he hb
theorem sfldK (K:PySem.W.Frag){o value:Expr}{f:Str}{pos pos':Pos}{ta tv:TE}(ha:PE X o ta)(hv:PE X value tv)(hs:swapsWith value (some (.Attribute o f pos')) pos.line X.env=pure false)(h:X.K=K:=by rfl):PS X (.Assign [.Attribute o f pos'] value pos) (sFld K ta tv f):=h ▸ ps_fld ha hv hs
theorem pgT (K:PySem.W.Frag){es:List Expr}{k:Nat}{t:TGs}{n:Nat}{pos:Pos}(hc:X.calm=true)(hq:PGs X es t)(hn:(assignEach es X.env).length=n:=by rfl)(hst:(assignEach es X.env).findIdx? (·.1)=none:=by rfl)(h:X.K=K:=by rfl):PG X (.Tuple es k pos) (gTup K n t):=h ▸ pg_tup hc hq hn hst
theorem ctup (K:PySem.W.Frag)(h:X.K=K:=by rfl):CallR X (.type "tuple") (r_call_tuple_of K):=h ▸ call_tuple_of
theorem papp (K:PySem.W.Frag){o e:Expr}{es:List Expr}{apos cpos:Pos}{to:TE}{t:TA}(ho:PE X o to)(ha:PA X (e::es) t)(hbase:attributeBase o "append" X.env (eval o X.env)=eval o X.env:=by rfl)
  (hfew:((backTo cpos (starEach (e::es) X.env)).all (fun x=>!x.1)&&(backToKw cpos (keywordEach [] X.env)).all (fun x=>x.1.isSome)&&decide ((e::es).length+([]:List Keyword).length+(if([]:List Keyword).isEmpty then 0 else 1)<30))=true:=by rfl)
  (hline:(apos.endLine==cpos.line)=true:=by rfl) (hs:starEach (e::es) X.env=(false,eval e X.env)::starEach es X.env:=by rfl) (hplain:(backTo cpos (starEach es X.env)).any (·.1)=false:=by rfl) (h:X.K=K:=by rfl):
  PE X (.Call (.Attribute o "append" apos) (e::es) [] cpos) (tBM K "list" rAppend to t):=h ▸ pe_bm PySem.F.plainAttrs_list PySem.F.slot_list_append PySem.F.type_list_append mt_append ho ha hbase hfew hline hs hplain
theorem pset (i:Nat){x:Str}{e:Expr}{te:TE}{pos pos':Pos}(hN:X.N.Nodup)(he:PE X e te)(hi:X.N[i]?=some x:=by rfl)(hx:Loc X.env.scope x:=by exact Or.inl rfl)(hs:swapsWith e (some (.Name x pos')) pos.line X.env=pure false:=by rfl)(hf:X.fn x=true∨X.env.scope.names.lookup x=some .local:=by first|exact .inl rfl|exact .inr rfl):
  PS X (.Assign [.Name x pos'] e pos) (tAsg te (gName i)):=ps_set hN hi hx he hs hf
end
open PySem PySem.Spec PyProof.Rows PySem.W
theorem ps_lcompM {X:Cx}{elt iter tg:Expr}{M:List Str}{g gy:TG}{y:Str}{py pos pos0:Pos}{ifs:List Expr}{scope:Scope}{frees:List Str}{idx:List Nat}{wi:TI}{tt:TT}{te:TE}
  (hc:X.calm=true) (S:CompScopeM X frees idx scope) (hfl:∀y∈frees,scope.names.lookup y=some .free) (hi:PI X tg iter wi) (hgy:PG X (.Name y py) gy) (hg:∀C s₀ H₀ ex,PG (cxComp X (M++frees) scope C s₀ H₀ ex) tg g)
  (ht:∀C s₀ H₀ ex,PTs (cxComp X (M++frees) scope C s₀ H₀ ex) ifs tt) (he:∀C s₀ H₀ ex,PE (cxComp X (M++frees) scope C s₀ H₀ ex) elt te)
  (hsw:swapsWith (.ListComp elt [⟨tg,iter,ifs,0⟩] scope pos) (some (.Name y py)) pos0.line X.env=pure true)
  (hs:∀v,foldedSetIterable iter X.env v=pure v:=by intro _;rfl):PS X (.Assign [.Name y py] (.ListComp elt [⟨tg,iter,ifs,0⟩] scope pos) pos0) (tAsg (tCompM M.length idx wi g tt te) gy):=by
 intro pins s σ H D I h
 rw[exec_Assign_Name_used _ _ _ _ hsw]
 refine wpAny_bind (wpAny_standAt ?_)
 refine wpAny_bind ?_
 show wpAny _ _ (comprehension (.ListComp elt [⟨tg,iter,ifs,0⟩] scope pos) scope X.env _ (newList []) _ _ (some (assign (.Name y py) X.env))>>=fun _=>pure ()) _ _ s
 refine wpAny_bind (wpAny_mono (Q:=fun _ s'=>∃σ' H',Inv X pins σ' H' s'∧D.nx σ' H') ?_ (fun _ s' h'=>wpAny_pure (wpAny_pure h')) fun _ _ h'=>h')
 refine comp_core (M:=M) (g:=g) (XE:=noX) (use:=some (assign (.Name y py) X.env)) (Q':=fun _ s'=>∃σ' H',Inv X pins σ' H' s'∧D.nx σ' H') (qt:=Calm) (fun _ _ _ _=>hc) S hfl hi (fun C s₀ H₀ ex=>by rw[cxE_no];exact hg C s₀ H₀ ex) (fun C s₀ H₀ ex=>by rw[cxE_no];exact ht C s₀ H₀ ex) (fun C s₀ H₀ ex _ _=>by rw[cxE_no];exact he C s₀ H₀ ex) hs I h (fun _ _ _ _ _ _ _ _ _ _ _ (z:False)=>z.elim) fun Dd C H' m4 s4 hn4 hJ HC nC nfC szC celC pinC q=>?_
 show wpAny _ _ (assign (.Name y py) X.env (.ref Dd)) _ _ s4
 have I5:=hJ s4.heap ⟨rfl,fun _ _=>rfl⟩
 obtain⟨oC,es,ep,gC,rC⟩:=id hn4
 have IPn:Inv X (pins++[(C,oC)]) σ H' s4:=I5.pins_of fun p hp=>(List.mem_append.mp hp).elim (fun z=>I5.pin p (List.mem_append_right _ z)) fun z=>by
  have z':p=(C,oC):=by simpa using z
  subst z'
  exact⟨gC,HC,nC,nfC,fun v q=>by have q2:oC.data=.cell v:=q;have q3:=rC.1;rw[q2]at q3;cases q3⟩
 refine thn (hgy _ s4 σ _ (.ref Dd) _ _ IPn rfl q) fun _ s6 ⟨σ6,H6,I6,q6⟩=>?_
 have pC:=I6.pin (C,oC) (List.mem_append_right _ (List.mem_append_right _ (List.mem_singleton.mpr rfl)))
 exact⟨m4,hn4.at' (fun o e=>by rw[gC]at e;cases e;exact pC.1),fun h'' sb=>⟨σ6,H6,I6.unpinned.turned (t':=s6.toks) (fun b o hb e=>(sb.2 b hb).trans e) pC.2.1 nC (.inr szC) celC pinC,q6⟩⟩
theorem ps_lcomp {X:Cx}{elt iter:Expr}{x y:Str}{px py pos pos0:Pos}{ifs:List Expr}{scope:Scope}{frees:List Str}{idx:List Nat}{wi:TI}{tt:TT}{te:TE}{g:TG}
  (hc:X.calm=true) (S:CompScope X x frees idx scope) (hfl:∀y∈frees,scope.names.lookup y=some .free) (hi:PI X (.Name x px) iter wi) (hgy:PG X (.Name y py) g)
  (ht:∀C s₀ H₀ ex,PTs (cxComp X (x::frees) scope C s₀ H₀ ex) ifs tt) (he:∀C s₀ H₀ ex,PE (cxComp X (x::frees) scope C s₀ H₀ ex) elt te)
  (hsw:swapsWith (.ListComp elt [⟨.Name x px,iter,ifs,0⟩] scope pos) (some (.Name y py)) pos0.line X.env=pure true)
  (hs:∀v,foldedSetIterable iter X.env v=pure v:=by intro _;rfl):PS X (.Assign [.Name y py] (.ListComp elt [⟨.Name x px,iter,ifs,0⟩] scope pos) pos0) (tAsg (tComp idx wi tt te) g):=by
 have h:=ps_lcompM (M:=[x]) (g:=gName 0) hc ⟨S.kind,S.nocell,S.loc,S.fr,S.ix,S.len,S.cl⟩ hfl hi hgy (fun C s₀ H₀ ex=>pg_name (i:=0) S.nd rfl (.inl (lookup_relabel_local S.tgt)) (.inr (lookup_relabel_local S.tgt))) ht he hsw hs
 exact tComp_M ▸ h
theorem ps_lc {X:Cx}{elt iter:Expr}{x y:Str}{px py pos pos0:Pos}{ifs:List Expr}{scope:Scope}{wi:TI}{tt:TT}{te:TE}{g:TG}(osc:Scope)(N:List Str)(frees:List Str)(idx:List Nat)
  (hk:compOk osc N x frees idx scope=true) (hi:PI X (.Name x px) iter wi) (hgy:PG X (.Name y py) g)
  (ht:∀C s₀ H₀ ex,PTs (cxComp X (x::frees) scope C s₀ H₀ ex) ifs tt) (he:∀C s₀ H₀ ex,PE (cxComp X (x::frees) scope C s₀ H₀ ex) elt te)
  (hsw:swapsWith (.ListComp elt [⟨.Name x px,iter,ifs,0⟩] scope pos) (some (.Name y py)) pos0.line X.env=pure true)
  (ho:X.env.scope=osc:=by rfl) (hN:X.N=N:=by rfl) (hc:X.calm=true:=by rfl) (hs:∀v,foldedSetIterable iter X.env v=pure v:=by intro _;rfl):
  PS X (.Assign [.Name y py] (.ListComp elt [⟨.Name x px,iter,ifs,0⟩] scope pos) pos0) (tAsg (tComp idx wi tt te) g):=by
 obtain⟨S,fl⟩:=compOk_scope (X:=X) hk ho hN
 exact ps_lcomp hc S fl hi hgy ht he hsw hs
theorem ps_lcM {X:Cx}{elt iter tg:Expr}{y:Str}{py pos pos0:Pos}{ifs:List Expr}{scope:Scope}{wi:TI}{g gy:TG}{tt:TT}{te:TE}(osc:Scope)(N:List Str)(M frees:List Str)(idx:List Nat)
  (hk:compOkM osc N frees idx scope=true) (hi:PI X tg iter wi) (hgy:PG X (.Name y py) gy) (hg:∀C s₀ H₀ ex,PG (cxComp X (M++frees) scope C s₀ H₀ ex) tg g)
  (ht:∀C s₀ H₀ ex,PTs (cxComp X (M++frees) scope C s₀ H₀ ex) ifs tt) (he:∀C s₀ H₀ ex,PE (cxComp X (M++frees) scope C s₀ H₀ ex) elt te)
  (hsw:swapsWith (.ListComp elt [⟨tg,iter,ifs,0⟩] scope pos) (some (.Name y py)) pos0.line X.env=pure true)
  (ho:X.env.scope=osc:=by rfl) (hN:X.N=N:=by rfl) (hc:X.calm=true:=by rfl) (hs:∀v,foldedSetIterable iter X.env v=pure v:=by intro _;rfl):
  PS X (.Assign [.Name y py] (.ListComp elt [⟨tg,iter,ifs,0⟩] scope pos) pos0) (tAsg (tCompM M.length idx wi g tt te) gy):=by
 obtain⟨S,fl⟩:=compOkM_scope (X:=X) hk ho hN
 exact ps_lcompM hc S fl hi hgy hg ht he hsw hs
section
variable {X:Cx}
theorem catT (K:PySem.W.Frag)(h:X.K=K:=by rfl):OpR X (binaryOp .Add) (rCatT K):=h ▸ op_catT
theorem slT (K:PySem.W.Frag)(h:X.K=K:=by rfl):SlR X (rSlT K):=h ▸ sl_tup
end
section
variable {X:Cx}
end
end L2
namespace Fw
open PySem PySem.Spec PyProof.Rows L2
def splL (c:Nat):List Nat→List (List Nat)
 |[]=>[[]]
 |a::r=>if a=c then[]::splL c r else match splL c r with
  |p::ps=>(a::p)::ps
  |[]=>[[a]]
theorem splL_free {c:Nat}:∀{l:List Nat},c∉l→splL c l=[l]
 |[],_=>rfl
 |a::r,h=>by
  have h1:a≠c:=fun e=>h (by simp[e])
  have h2:c∉r:=fun e=>h (List.mem_cons_of_mem _ e)
  unfold splL
  rw[if_neg h1,splL_free h2]
theorem splL_app {c:Nat}:∀{l:List Nat} (r:List Nat),c∉l→splL c (l++c::r)=l::splL c r
 |[],r,_=>by simp[splL]
 |a::l,r,h=>by
  have h1:a≠c:=fun e=>h (by simp[e])
  have h2:c∉l:=fun e=>h (List.mem_cons_of_mem _ e)
  rw[List.cons_append]
  conv=>lhs;unfold splL
  rw[if_neg h1,splL_app r h2]
theorem splL_join (c:Nat):∀(ps:List Str),ps≠[]→(∀p∈ps,c∉p.cps.toList)→splL c (Str.join ⟨#[c]⟩ ps).cps.toList=ps.map (·.cps.toList)
 |[],h,_=>absurd rfl h
 |[p],_,hf=>by
  show splL c p.cps.toList=[p.cps.toList]
  exact splL_free (hf p (by simp))
 |p::q::r,_,hf=>by
  have ih:=splL_join c (q::r) (by simp) fun x hx=>hf x (List.mem_cons_of_mem _ hx)
  show splL c (p++⟨#[c]⟩++Str.join ⟨#[c]⟩ (q::r)).cps.toList=_
  have e:(p++⟨#[c]⟩++Str.join ⟨#[c]⟩ (q::r)).cps.toList=p.cps.toList++c::(Str.join ⟨#[c]⟩ (q::r)).cps.toList:=by
   show((p.cps++#[c])++(Str.join ⟨#[c]⟩ (q::r)).cps).toList=_
   simp
  rw[e,splL_app _ (hf p (by simp)),ih]
  rfl
theorem cnt_nn (c:Nat):∀l,(0:Int)≤cnt c l
 |[]=>Int.le_refl 0
 |n::r=>by
  have:=cnt_nn c r
  rw[cnt_cons]
  split<;>omega
theorem split_eq (x:Str)(c:Nat):(Txt.split x ⟨#[c]⟩).map (·.cps.toList)=splL c x.cps.toList:=by
 have h1:=StrLaws.join_split x ⟨#[c]⟩
 have h2:=StrLaws.split_free x c
 by_cases e:Txt.split x ⟨#[c]⟩=[]
 ·exfalso
  have:=split_len x c
  rw[e]at this
  have h3:=cnt_nn c x.cps.toList
  simp at this
  omega
 ·have:=splL_join c _ e h2
  rw[h1]at this
  exact this.symm
theorem slice1 (x:Str)(h:1≤x.length):Txt.slice x (some 1) none=⟨(x.cps.toList.drop 1).toArray⟩:=by
 have q:=slice_closes_fromL (x:=x) (i:=1) (b:=x.length) (by omega) (by omega) rfl
 have q':=eq_of_beq q
 rw[q']
 have e:((x.length:Int)-1).toNat=(x.cps.toList.drop 1).length:=by
  rw[List.length_drop]
  show _=x.cps.toList.length-1
  have:x.cps.toList.length=x.length:=by simp[Str.length]
  omega
 have e2:((x.cps.toList.drop (1:Int).toNat).take ((x.length:Int)-1).toNat)=x.cps.toList.drop 1:=by
  rw[e]
  show(x.cps.toList.drop 1).take (x.cps.toList.drop 1).length=_
  exact List.take_length
 first
  |exact congrArg (fun l=>(⟨l.toArray⟩:Str)) e2
  |(rw[e2])
def smallS:Str:="abcdefghijklmnopqrstuvwxyz"
def greatS:Str:="ABCDEFGHIJKLMNOPQRSTUVWXYZ"
def keptL:List Str:=["num","fun","call","let","ring","case","make","pick","plus","minus","times","less","if","kind","record","face","hide","val","part","maker","apply","main"]
def inS (y:Str)(c:Nat):Bool:=decide (c∈y.cps.toList)
def allS (z y:Str):Bool:=z.cps.toList.all (inS y)
def okLen (z:Str):Bool:=decide (1≤z.length)&&decide (z.length≤8)
def smallB (z:Str):Bool:=okLen z&&allS z smallS
def nameB (z:Str):Bool:=smallB z&& !decide (z∈keptL)
def restS (z:Str):Str:=⟨(z.cps.toList.drop 1).toArray⟩
def greatB (z:Str):Bool:=okLen z&&(inS greatS (z.cps.toList.getD 0 0)&&allS (restS z) smallS)
def pathB (z:Str):Bool:=match splL 46 z.cps.toList with
 |[a,b]=>greatB ⟨a.toArray⟩&&nameB ⟨b.toArray⟩
 |_=>false
theorem len_toList (z:Str):z.cps.toList.length=z.length:=by simp[Str.length]
theorem str_ext {a b:Str}(h:a.cps.toList=b.cps.toList):a=b:=by
 cases a;cases b
 simp only[Str.mk.injEq]
 exact Array.toList_inj.mp h
theorem cps_app (a b:Str):(a++b).cps.toList=a.cps.toList++b.cps.toList:=by
 show(a.cps++b.cps).toList=_
 simp
theorem len_app (a b:Str):(a++b).length=a.length+b.length:=by
 rw[←len_toList,cps_app,List.length_append,len_toList,len_toList]
inductive T where
 |int (i:Int)
 |str (x:Str)
 |tup (l:List T)
mutual
def T.sz:T→Nat
 |.int _=>1
 |.str _=>1
 |.tup l=>1+szs l
def szs:List T→Nat
 |[]=>0
 |t::r=>t.sz+szs r
end
theorem sz_pos:∀t:T,1≤t.sz
 |.int _=>by simp[T.sz]
 |.str _=>by simp[T.sz]
 |.tup l=>by simp[T.sz]
theorem szs_app:∀(a b:List T),szs (a++b)=szs a+szs b
 |[],b=>by simp[szs]
 |t::r,b=>by simp[szs,szs_app r b,Nat.add_assoc]
theorem len_szs:∀l:List T,l.length≤szs l
 |[]=>by simp[szs]
 |t::r=>by
  have:=len_szs r
  have:=sz_pos t
  simp[szs]
  omega
mutual
inductive Rep (H:Hp):V→T→Prop where
 |int (i:Int):Rep H (.int i) (.int i)
 |str (x:Str) (h:x.length≤100000):Rep H (.str x) (.str x)
 |tup {a:Addr} {vs:List V} {ts:List T} (h:H a=some (.tup vs)) (r:Reps H vs ts):Rep H (.ref a) (.tup ts)
inductive Reps (H:Hp):List V→List T→Prop where
 |nil:Reps H [] []
 |cons {v:V} {t:T} {vs:List V} {ts:List T} (r:Rep H v t) (q:Reps H vs ts):Reps H (v::vs) (t::ts)
end
mutual
theorem Rep.mono {H H':Hp}(e:∀b xs,H b=some (.tup xs)→H' b=some (.tup xs)):∀{v:V} {t:T},Rep H v t→Rep H' v t
 |_,_, .int i=>.int i
 |_,_, .str x h=>.str x h
 |_,_, .tup h r=>.tup (e _ _ h) (Reps.mono e r)
theorem Reps.mono {H H':Hp}(e:∀b xs,H b=some (.tup xs)→H' b=some (.tup xs)):∀{vs:List V} {ts:List T},Reps H vs ts→Reps H' vs ts
 |_,_, .nil=>.nil
 |_,_, .cons r q=>.cons (Rep.mono e r) (Reps.mono e q)
end
theorem Rep.same {H H':Hp}(e:Same H H'){v:V}{t:T}(r:Rep H v t):Rep H' v t:=r.mono fun b xs h=>e b _ h
theorem Reps.same {H H':Hp}(e:Same H H'){vs:List V}{ts:List T}(r:Reps H vs ts):Reps H' vs ts:=r.mono fun b xs h=>e b _ h
theorem Reps.length {H:Hp}:∀{vs:List V} {ts:List T},Reps H vs ts→vs.length=ts.length
 |_,_, .nil=>rfl
 |_,_, .cons _ q=>congrArg (·+1) q.length
theorem Reps.append {H:Hp}:∀{vs ws:List V} {ts us:List T},Reps H vs ts→Reps H ws us→Reps H (vs++ws) (ts++us)
 |_,_,_,_, .nil,q=>q
 |_,_,_,_, .cons r p,q=>.cons r (Reps.append p q)
theorem Reps.snoc_inv {H:Hp}{vs:List V}{ts:List T}(r:Reps H vs ts)(h:vs≠[]):∃ws us v t,vs=ws++[v]∧ts=us++[t]∧Reps H ws us∧Rep H v t:=by
 induction vs generalizing ts with
 |nil=>exact absurd rfl h
 |cons v vs ih=>
  cases r with
  |@cons _ t _ ts' r q=>
   by_cases e:vs=[]
   ·subst e
    cases q
    exact⟨[],[],v,t,rfl,rfl, .nil,r⟩
   ·obtain⟨ws,us,v',t',rfl,rfl,q1,q2⟩:=ih q e
    exact⟨v::ws,t::us,v',t',rfl,rfl, .cons r q1,q2⟩
theorem Same.tups {H H':Hp}(e:Same H H'):∀b xs,H b=some (.tup xs)→H' b=some (.tup xs):=fun b xs h=>e b _ h
theorem same_new {H:Hp}{p:Addr}(h:H p=none)(o:HO):Same H (upd H p o):=fun b u q=>by rw[upd_ne (ne_of_none q h)];exact q
section
variable (kids:T→Option (List T))
inductive Good:T→Prop where
 |mk {t:T} {l:List T} (h:kids t=some l) (q:∀k∈l,Good k):Good t
inductive Bad:T→Prop where
 |none {t:T} (h:kids t=none):Bad t
 |kid {t:T} {l:List T} {k:T} (h:kids t=some l) (m:k∈l) (q:Bad k):Bad t
end
def onStr (f:Str→Bool):T→Bool
 |.str z=>f z
 |_=>false
def Has (P:Program)(w:World)(K:PySem.W.Frag)(mg:Str→Option Value)(base:Heap)(k:Nat)(x:Str)(ps:List Str)(sp:Sp):Prop :=
 ∃f fd,FnOk P w K mg base CX0 k f fd ps sp∧Binds K fd ps []∧PySem.W.keepIn K (.ref f)=true∧mg x=some (.ref f)
theorem pcall {X:Cx}{k j:Nat}{x:Str}{ps:List Str}{sp:Sp}{p pos:Pos}{e:Expr}{es:List Expr}{t:TA}(h:Has X.prog X.w X.K X.mg X.base k x ps sp)(hr:Room j X.A)(hkj:k≤j)(hg:Gl X x)(ha:PA X (e::es) t)
  (hdb:(x==("__debug__":Str))=false:=by decide) (he:starEach (e::es) X.env=(false,eval e X.env)::starEach es X.env:=by rfl) (hpl:(backTo pos (starEach es X.env)).any (·.1)=false:=by rfl):
  PE X (.Call (.Name x p) (e::es) [] pos) (tCall sp [] E0 t):=by
 obtain⟨f,fd,h1,h2,h3,h4⟩:=h
 exact pe_call h1 (hr.mono hkj) hg h4 h3 h2 .nil pass0 ha hdb he hpl
theorem pcall0 {X:Cx}{k j:Nat}{x:Str}{ps:List Str}{sp:Sp}{p pos:Pos}(h:Has X.prog X.w X.K X.mg X.base k x ps sp)(hr:Room j X.A)(hkj:k≤j)(hg:Gl X x)
  (hdb:(x==("__debug__":Str))=false:=by decide):PE X (.Call (.Name x p) [] [] pos) (tCall sp [] E0 tNil):=by
 obtain⟨f,fd,h1,h2,h3,h4⟩:=h
 exact pe_call0 h1 (hr.mono hkj) hg h4 h3 h2 .nil pass0 hdb
def spT (f:T→Bool):Sp:=fun vs H Q _=>∃v t,vs=[v]∧Rep H v t∧∀H',Same H H'→Q (.bl (f t)) H'
def spAllOf:Sp:=fun vs H Q _=>∃x y,vs=[.str x, .str y]∧x.length≤100000∧∀H',Same H H'→Q (.bl (allS x y)) H'
def tyT:T→Value
 |.int _=>.type "int"
 |.str _=>.type "str"
 |.tup _=>.type "tuple"
def isStrT:T→Bool
 |.str _=>true
 |_=>false
def isTupT:T→Bool
 |.tup _=>true
 |_=>false
theorem rep_ty {K:PySem.W.Frag}{H:Hp}{v:V}{t:T}(r:Rep H v t):TyOf K H v (tyT t):=by
 cases r with
 |int i=>exact .int i
 |str x h=>exact .str x
 |tup h q=>exact .tup h
theorem kit_str (K:PySem.W.Frag)(t:T):PySem.W.kitOne K (tyT t) (.type "str")=some (isStrT t):=by
 cases t with
 |int i=>first|rfl|(with_unfolding_all rfl)|kernel_rfl
 |str x=>first|rfl|(with_unfolding_all rfl)|kernel_rfl
 |tup l=>first|rfl|(with_unfolding_all rfl)|kernel_rfl
theorem kit_tup (K:PySem.W.Frag)(t:T):PySem.W.kitOne K (tyT t) (.type "tuple")=some (isTupT t):=by
 cases t with
 |int i=>first|rfl|(with_unfolding_all rfl)|kernel_rfl
 |str x=>first|rfl|(with_unfolding_all rfl)|kernel_rfl
 |tup l=>first|rfl|(with_unfolding_all rfl)|kernel_rfl
structure Gb (K:PySem.W.Frag)(mg:Str→Option Value):Prop where
 len:mg "len"=none
 all:mg "all"=none
 isi:mg "isinstance"=none
 str:mg "str"=none
 tuple:mg "tuple"=none
 list:mg "list"=none
 range:mg "range"=none
 small:∃t,mg "SMALL_LETTERS"=some (.str smallS t)
 great:∃t,mg "GREAT_LETTERS"=some (.str greatS t)
 most:∃t,mg "MOST_LETTERS"=some (.int 8 t)
 kept:∃a,mg "KEPT"=some (.ref a)∧∀H,SqT K H a (keptL.map V.str)
theorem tt1 {σ:L2.St}{H:Hp}{Q:Bool→Hp→Prop}(h:Q true H):tTrue σ H Q:=h
theorem small {n:Nat}(h:n≤1000000):n≤sizeLine:=Nat.le_trans h (by decide)
theorem small' {n:Nat}(h:n≤1000000):n<sizeLine:=Nat.lt_of_le_of_lt h (by decide)
theorem sml (n:Nat)(h:n≤1000000:=by decide):n≤sizeLine:=small h
theorem eqV_str (a b:Str):eqV (.str a) (.str b)=decide (a=b):=by
 show(a==b)=_
 rw[Bool.eq_iff_iff]
 simp
theorem inV_str (z:Str):∀l:List Str,inV (.str z) (l.map V.str)=decide (z∈l)
 |[]=>by simp[inV]
 |a::r=>by
  have ih:=inV_str z r
  unfold inV at ih ⊢
  rw[List.map_cons,List.any_cons,ih,eqV_str,Bool.eq_iff_iff]
  simp only[Bool.or_eq_true,decide_eq_true_eq,List.mem_cons]
  constructor
  ·rintro(h|h)
   ·exact .inl h.symm
   ·exact .inr h
  ·rintro(h|h)
   ·exact .inl h.symm
   ·exact .inr h
theorem flat_strs:∀l:List Str,(l.map V.str).all flatV=true
 |[]=>rfl
 |a::r=>by rw[List.map_cons,List.all_cons,flat_strs r];rfl
theorem dot_eq:(Str.ofString ".":Str)=⟨#[46]⟩:=by decide+kernel
theorem smallB_lo {z:Str}(h:¬1≤z.length):smallB z=false:=by
 unfold smallB okLen
 rw[decide_eq_false h]
 rfl
theorem smallB_hi {z:Str}(h:¬z.length≤8):smallB z=false:=by
 unfold smallB okLen
 rw[decide_eq_false h]
 simp
theorem smallB_in {z:Str}(h1:1≤z.length)(h2:z.length≤8):smallB z=allS z smallS:=by
 unfold smallB okLen
 rw[decide_eq_true h1,decide_eq_true h2]
 simp
theorem greatB_lo {z:Str}(h:¬1≤z.length):greatB z=false:=by
 unfold greatB okLen
 rw[decide_eq_false h]
 rfl
theorem greatB_hi {z:Str}(h:¬z.length≤8):greatB z=false:=by
 unfold greatB okLen
 rw[decide_eq_false h]
 simp
theorem greatB_in {z:Str}(h1:1≤z.length)(h2:z.length≤8):greatB z=(inS greatS (z.cps.toList.getD 0 0)&&allS (restS z) smallS):=by
 unfold greatB okLen
 rw[decide_eq_true h1,decide_eq_true h2]
 simp
theorem rest_slice {z:Str}(h:1≤z.length):Txt.slice z (some 1) none=restS z:=slice1 z h
theorem rest_len (z:Str):(restS z).length≤z.length:=by
 rw[←len_toList,←len_toList]
 unfold restS
 simp
theorem first_at {z:Str}(h:1≤z.length):atI z.cps.toList (0:Int)=some (z.cps.toList.getD 0 0):=by
 refine atI_nat (j:=0) ?_
 have:0<z.cps.toList.length:=by rw[len_toList];exact h
 rw[List.getElem?_eq_getElem this]
 simp[List.getD_eq_getElem?_getD,List.getElem?_eq_getElem this]
theorem pathB_two {z a b:Str}(h:Txt.split z "."=[a,b]):pathB z=(greatB a&&nameB b):=by
 have q:=split_eq z 46
 rw[←dot_eq,h]at q
 unfold pathB
 rw[←q]
 show(greatB ⟨a.cps.toList.toArray⟩&&nameB ⟨b.cps.toList.toArray⟩)=_
 have e1:(⟨a.cps.toList.toArray⟩:Str)=a:=str_ext (by simp)
 have e2:(⟨b.cps.toList.toArray⟩:Str)=b:=str_ext (by simp)
 rw[e1,e2]
theorem pathB_other {z:Str}(h:(Txt.split z ".").length≠2):pathB z=false:=by
 have q:=split_eq z 46
 rw[←dot_eq]at q
 have q2:=congrArg List.length q
 rw[List.length_map]at q2
 unfold pathB
 split
 ·rename_i a b e
  rw[e]at q2
  exact absurd q2 h
 ·rfl
theorem split_short (z:Str):(Txt.split z ".").length≤z.length+1:=by
 have:=split_weight z "." (by decide+kernel)
 exact Nat.le_trans (Nat.le_add_left _ _) this
section
variable {ta tb tc:TE}{t u:TT}{σ:L2.St}{H:Hp}{v x y z:V}{c c1 c2:Bool}{K:PySem.W.Frag}
end
def top (i:Nat):Stmt:=PySem.Challenge.pw_facework_k43_faces_shown.main.body.getD i (.Pass ⟨0,0,0,0⟩)
theorem nw {H:Hp}{p:Addr}(h:H p=none)(o:HO):∃H1,upd H p o=H1∧Same H H1∧H1 p=some o:=⟨_,rfl,same_new h o,upd_same⟩
theorem comp_tup {K:PySem.W.Frag}{H:Hp}{a:Addr}{xs:List V}{tt:TT}{te:TE}{σ':L2.St}{Q:VK}(Pv:Nat→List V→Hp→Prop)(h0:Pv 0 [] H)(hl:∀i vs H,i≤xs.length→Pv i vs H→SqT K H a xs∧vs.length<sizeLine)
  (hs:∀i x vs H2,i<xs.length→xs[i]?=some x→Pv i vs H2→tt (some x::σ') H2 fun b H4=>if b=true then te (some x::σ') H4 fun v H5=>Nx xs.length i (Pv (i+1) (vs++[v]) H5) else Nx xs.length i (Pv (i+1) vs H4))
  (hd:∀vs H2,Pv xs.length vs H2→∀l,H2 l=none→Q (.ref l) (upd H2 l (.lst vs))):CompW (Itt K a) tt te σ' Q H:=by
 refine⟨fun i m vs H=>m=xs.length-i∧i≤xs.length∧Pv i vs H,⟨xs.length,by simp,Nat.zero_le _,h0⟩,?_⟩
 rintro i m vs H2 ⟨rfl,hi,p⟩
 obtain⟨q1,q2⟩:=hl i vs H2 hi p
 refine⟨q2,?_⟩
 by_cases hlt:i<xs.length
 ·refine .inr ⟨⟨xs,xs[i],q1,by simp[hlt]⟩,?_⟩
  rintro x H3 ⟨e,y⟩
  subst e
  exact hs i x vs _ hlt (y xs q1) p
 ·have e:i=xs.length:=by omega
  subst e
  exact .inl ⟨⟨xs,q1,Nat.le_refl _⟩,hd vs H2 p⟩
theorem take_next {α:Type}{l:List α}{i:Nat}{x:α}(h:l[i]?=some x):l.take (i+1)=l.take i++[x]:=by rw[List.take_add_one,h];rfl
theorem comp_lst {K:PySem.W.Frag}{H:Hp}{a:Addr}{xs:List V}{tt:TT}{te:TE}{σ':L2.St}{Q:VK}(Pv:Nat→List V→Hp→Prop)(h0:Pv 0 [] H)(hl:∀i vs H,i≤xs.length→Pv i vs H→SqL K H a xs∧vs.length<sizeLine)
  (hs:∀i x vs H2,i<xs.length→xs[i]?=some x→Pv i vs H2→tt (some x::σ') H2 fun b H4=>if b=true then te (some x::σ') H4 fun v H5=>Nx xs.length i (Pv (i+1) (vs++[v]) H5) else Nx xs.length i (Pv (i+1) vs H4))
  (hd:∀vs H2,Pv xs.length vs H2→∀l,H2 l=none→Q (.ref l) (upd H2 l (.lst vs))):CompW (Itl K a) tt te σ' Q H:=by
 refine⟨fun i m vs H=>m=xs.length-i∧i≤xs.length∧Pv i vs H,⟨xs.length,by simp,Nat.zero_le _,h0⟩,?_⟩
 rintro i m vs H2 ⟨rfl,hi,p⟩
 obtain⟨q1,q2⟩:=hl i vs H2 hi p
 refine⟨q2,?_⟩
 by_cases hlt:i<xs.length
 ·refine .inr ⟨⟨xs,xs[i],q1,by simp[hlt]⟩,?_⟩
  rintro x H3 ⟨e,y⟩
  subst e
  exact hs i x vs _ hlt (y xs q1) p
 ·have e:i=xs.length:=by exact Nat.le_antisymm hi (Nat.not_lt.mp hlt)
  subst e
  exact .inl ⟨⟨xs,q1,Nat.le_refl _⟩,hd vs H2 p⟩
theorem comp_listM {K:PySem.W.Frag}{H:Hp}{n:Nat}{a:Addr}{xs:List V}{g:TG}{tt:TT}{te:TE}{σ':L2.St}{Q:VK}(Pv:Nat→List V→Hp→Prop)(h0:Pv 0 [] H)(hl:∀i vs H,i≤xs.length→Pv i vs H→SqL K H a xs∧vs.length<sizeLine)
  (hs:∀i x vs H2 (τ:L2.St),τ.length=n→i<xs.length→xs[i]?=some x→Pv i vs H2→g x (τ++σ') H2 fun σ1 H3=>(∃τ':L2.St,σ1=τ'++σ'∧τ'.length=n)∧tt σ1 H3 fun b H4=>if b=true then te σ1 H4 fun v H5=>Nx xs.length i (Pv (i+1) (vs++[v]) H5) else Nx xs.length i (Pv (i+1) vs H4))
  (hd:∀vs H2,Pv xs.length vs H2→∀l,H2 l=none→Q (.ref l) (upd H2 l (.lst vs))):CompWM n (Itl K a) g tt te σ' Q H:=by
 refine⟨fun i m vs H=>m=xs.length-i∧i≤xs.length∧Pv i vs H,⟨xs.length,by simp,Nat.zero_le _,h0⟩,?_⟩
 rintro i m vs H2 ⟨rfl,hi,p⟩
 obtain⟨q1,q2⟩:=hl i vs H2 hi p
 refine⟨q2,?_⟩
 by_cases hlt:i<xs.length
 ·refine .inr ⟨⟨xs,xs[i],q1,by simp[hlt]⟩,?_⟩
  rintro τ x H3 lτ ⟨e,y⟩
  subst e
  exact hs i x vs _ τ lτ hlt (y xs q1) p
 ·have e:i=xs.length:=by omega
  subst e
  exact .inl ⟨⟨xs,q1,Nat.le_refl _⟩,hd vs H2 p⟩
theorem Reps.at3 {H:Hp}:∀{vs:List V} {ts:List T} {i:Nat} {v:V},Reps H vs ts→vs[i]?=some v→∃t,ts[i]?=some t∧Rep H v t
 |_,_,_,_, .nil,h=>by simp at h
 |_,_,0,_, .cons r _,h=>by
  simp only[List.getElem?_cons_zero,Option.some.injEq]at h
  subst h
  exact⟨_,rfl,r⟩
 |_,_,i+1,v, .cons _ q,h=>by
  simp only[List.getElem?_cons_succ]at h
  obtain⟨t,e,r⟩:=Reps.at3 q h
  exact⟨t,by simpa using e,r⟩
theorem Reps.at2 {H:Hp}:∀{vs:List V} {ts:List T} {i:Nat} {v:V},Reps H vs ts→vs[i]?=some v→∃t,ts[i]?=some t∧Rep H v t
 |_,_,_,_, .nil,h=>by simp at h
 |_,_,0,_, .cons r _,h=>by
  simp at h;subst h
  exact⟨_,rfl,r⟩
 |_,_,i+1,v, .cons _ q,h=>by
  obtain⟨t,h1,h2⟩:=q.at2 (i:=i) (v:=v) (by simpa using h)
  exact⟨t,by simpa using h1,h2⟩
theorem Reps.drop' {H:Hp}:∀(k:Nat) {vs:List V} {ts:List T},Reps H vs ts→Reps H (vs.drop k) (ts.drop k)
 |0,_,_,r=>r
 |k+1,_,_, .nil=>.nil
 |k+1,_,_, .cons _ q=>Reps.drop' k q
theorem Reps.split {H:Hp}:∀{ts us:List T} {vs:List V},Reps H vs (ts++us)→∃v1 v2,vs=v1++v2∧Reps H v1 ts∧Reps H v2 us
 |[],us,vs,r=>⟨[],vs,rfl, .nil,r⟩
 |t::ts,us,_, .cons h q=>by
  obtain⟨v1,v2,rfl,r1,r2⟩:=Reps.split q
  exact⟨_::v1,v2,rfl, .cons h r1,r2⟩
theorem cutt (vs:List V)(n:Nat):cutV vs none (some (n:Int))=vs.take n:=by
 unfold cutV
 rw[HT.sIx_none,HT.sIx_nat]
 by_cases h:n≤vs.length
 ·rw[Nat.min_eq_left h]
  simp
 ·rw[Nat.min_eq_right (by omega)]
  simp
  exact(List.take_of_length_le (by omega)).symm
theorem catT_one {K:PySem.W.Frag}{H:Hp}{p1 p2:Addr}{x:V}{ys:List V}{Q:VK}(h1:H p1=some (.tup [x]))(h2:H p2=some (.tup ys))(hl:ys.length≤1000)(q:∀p H',Same H H'→H' p=some (.tup (x::ys))→Q (.ref p) H'):rCatT K (.ref p1) (.ref p2) H Q:=by
 refine⟨p1,p2,_,_,rfl,rfl,SqT.of h1,SqT.of h2,by simp,small (by simp;omega),fun e=>?_,fun _ p hp=>?_⟩
 ·subst e
  exact q p1 H (Same.refl H) h1
 ·exact q p _ (same_new hp _) upd_same
theorem szs_reverse (l:List T):szs l.reverse=szs l:=by
 induction l with
 |nil=>rfl
 |cons t r ih=>rw[List.reverse_cons,szs_app,ih];show szs r+(t.sz+0)=t.sz+szs r;omega
theorem Reps.reverse {H:Hp}:∀{vs:List V} {ts:List T},Reps H vs ts→Reps H vs.reverse ts.reverse
 |_,_, .nil=>.nil
 |_,_, .cons r q=>by rw[List.reverse_cons,List.reverse_cons];exact q.reverse.append (.cons r .nil)
theorem cutq (vs:List V)(n:Nat):cutV vs (some (n:Int)) none=vs.drop n:=by
 unfold cutV
 rw[HT.sIx_none,HT.sIx_nat]
 by_cases h:n≤vs.length
 ·rw[Nat.min_eq_left h,List.take_of_length_le (by rw[List.length_drop];omega)]
 ·rw[Nat.min_eq_right (by omega),List.drop_eq_nil_of_le (Nat.le_refl _),List.drop_eq_nil_of_le (by omega)]
  simp
theorem cutq_not {vs:List V}{n:Nat}(h:vs≠[])(hn:1≤n):¬(HT.sIx vs.length 0 (some (n:Int))=0∧HT.sIx vs.length vs.length none=vs.length):=by
 rw[HT.sIx_nat]
 have:0<vs.length:=List.length_pos_iff.mpr h
 rintro⟨e,_⟩
 rcases Nat.le_total n vs.length with z|z
 ·rw[Nat.min_eq_left z]at e;omega
 ·rw[Nat.min_eq_right z]at e;omega
theorem cut_head (v:V)(r:List V)(h:1≤r.length):cutV (v::r) none (some 1)=[v]:=by
 have e:cutV (v::r) none (some ((1:Nat):Int))=[v]:=by
  unfold cutV
  rw[HT.sIx_none,HT.sIx_nat,List.drop_zero,Nat.sub_zero,Nat.min_eq_left (by simp)]
  rfl
 exact e
theorem cut_head_not (v:V)(r:List V)(h:1≤r.length):¬(HT.sIx (v::r).length 0 none=0∧HT.sIx (v::r).length (v::r).length (some 1)=(v::r).length):=by
 have e:HT.sIx (v::r).length (v::r).length (some ((1:Nat):Int))=min 1 (v::r).length:=HT.sIx_nat ..
 intro z
 have z2:=z.2
 rw[show(some (1:Int))=some ((1:Nat):Int) from rfl,e]at z2
 have l:(v::r).length=r.length+1:=rfl
 omega
inductive DReps (H:Hp):List (Key×V)→List (Str×T)→Prop where
 |nil:DReps H [] []
 |cons {z:Str} {v:V} {t:T} {kvs:List (Key×V)} {m:List (Str×T)} (r:Rep H v t) (q:DReps H kvs m):DReps H ((Sum.inr z,v)::kvs) ((z,t)::m)
theorem DReps.mono {H H':Hp}(e:∀b xs,H b=some (.tup xs)→H' b=some (.tup xs)):∀{kvs:List (Key×V)} {m:List (Str×T)},DReps H kvs m→DReps H' kvs m
 |_,_, .nil=>.nil
 |_,_, .cons r q=>.cons (r.mono e) (q.mono e)
theorem DReps.get {H:Hp}(z:Str):∀{kvs:List (Key×V)} {m:List (Str×T)},DReps H kvs m→(valV kvs (Sum.inr z)=none∧m.lookup z=none)∨∃v t,valV kvs (Sum.inr z)=some v∧m.lookup z=some t∧Rep H v t
 |_,_, .nil=>.inl ⟨rfl,rfl⟩
 |_,_, .cons (z:=y) (v:=v) (t:=t) (kvs:=kvs) (m:=m) r q=>by
  by_cases h:y=z
  ·subst h
   refine .inr ⟨v,t,by simp[valV],by simp[List.lookup_cons],r⟩
  ·have e1:valV ((Sum.inr y,v)::kvs) (Sum.inr z)=valV kvs (Sum.inr z):=by
    unfold valV
    rw[List.find?_cons]
    have:decide ((Sum.inr y:Key)=Sum.inr z)=false:=decide_eq_false fun e=>h (Sum.inr.inj e)
    simp only[this]
   have e2:((y,t)::m).lookup z=m.lookup z:=by
    rw[List.lookup_cons]
    have:(z==y)=false:=beq_false_of_ne (Ne.symm h)
    rw[this]
   rw[e1,e2]
   exact q.get z
theorem DReps.snoc {H:Hp}{z:Str}{v:V}{t:T}(r:Rep H v t):∀{kvs:List (Key×V)} {m:List (Str×T)},DReps H kvs m→DReps H (kvs++[(Sum.inr z,v)]) (m++[(z,t)])
 |_,_, .nil=>.cons r .nil
 |_,_, .cons r' q=>.cons r' (q.snoc r)
theorem DReps.length {H:Hp}:∀{kvs:List (Key×V)} {m:List (Str×T)},DReps H kvs m→kvs.length=m.length
 |_,_, .nil=>rfl
 |_,_, .cons _ q=>congrArg (·+1) q.length
def NQ (z:Str):Prop:=z.cps.toList.head?≠some 63∧z.length≤60
inductive KD:Nat→T→Prop where
 |leaf {n:Nat} {z:Str} (h:z.length≤80):KD n (.str z)
 |tup {n:Nat} {z:Str} {ks:List T} (h:NQ z) (h1:1≤ks.length) (h3:ks.length≤3) (hk:∀k∈ks,KD n k):KD (n+1) (.tup (.str z::ks))
mutual
def pre:T→List T
 |.tup l=>.tup l::pre1 l
 |.str z=>[.str z]
 |.int i=>[.int i]
def pre1:List T→List T
 |[]=>[]
 |_::ks=>pres ks
def pres:List T→List T
 |[]=>[]
 |t::r=>pre t++pres r
end
theorem pres_app:∀(a b:List T),pres (a++b)=pres a++pres b
 |[],b=>rfl
 |t::r,b=>by show pre t++pres (r++b)=(pre t++pres r)++pres b;rw[pres_app r b,List.append_assoc]
def openT:T→Bool
 |.str z=>Txt.startswith z "?"
 |_=>false
def spOpen:Sp:=fun vs H Q _=>∃v t,vs=[v]∧Rep H v t∧Q (.bl (openT t)) H
def spOuter:Sp:=fun vs H Q _=>∃v t n,vs=[v]∧Rep H v t∧KD n t∧t.sz≤100000∧∀(l:Addr) (ws:List V) H',Same H H'→H l=none→H' l=some (.lst ws)→Reps H' ws (pre t)→ws.length≤100000→Q (.ref l) H'
section
variable {P:Program}{w:World}{K:PySem.W.Frag}{mg:Str→Option Value}{base:Heap}{f:Addr}{fd:FuncData}
abbrev s_is_open:Stmt:=top 3
abbrev s_outer:Stmt:=top 20
theorem sc_is_open:FnScope ["thing"] ["thing"] (defScope s_is_open):=⟨rfl,rfl,rfl,by decide+kernel,rfl,by decide+kernel,by decide+kernel⟩
theorem ok_is_open (F:Fun K "is_open" "is_open" s_is_open f fd)(mi:mg "isinstance"=none)(ms:mg "str"=none):FnOk P w K mg base CX0 1 f fd ["thing"] spOpen:=by
 refine F.ok sc_is_open (len:=fun vs H Q E h=>(by obtain⟨v,t,rfl,_⟩:=h;rfl)) (fun cdv A outer s H vs Q E hr h=>?_)
 obtain⟨v,t,rfl,rt,q⟩:=h
 refine⟨_,pss_one (ps_ret (pe_and (pe_callB call_isi rfl mi boot_isinstance (pa_cons (pv 0) (pa_cons (pe_bltn (v:=.ty "str") rfl ms boot_str rfl) pa_nil)))
  (pe_one (pe_bm PySem.F.plainAttrs_str PySem.F.slot_str_startswith PySem.F.type_str_startswith mt_startswith (pv 0) (pa_cons pe_str pa_nil))))),?_⟩
 refine⟨_,rfl,_,_,_,_,rfl,rep_ty rt,kit_str K t,_,rfl,?_⟩
 cases rt with
 |int i=>exact iteF q
 |tup h r=>exact iteF q
 |str z hz=>exact iteT ⟨_,rfl,rfl,z,"?",rfl,rfl,q⟩
theorem sc_outer:FnScope ["kind","waiting","parts","part"] ["kind"] (defScope s_outer):=⟨rfl,rfl,rfl,by decide+kernel,rfl,by decide+kernel,by decide+kernel⟩
set_option maxHeartbeats 1000000 in
theorem ok_outer (F:Fun K "outer_first" "outer_first" s_outer f fd)(ml:mg "len"=none)(mi:mg "isinstance"=none)(mt:mg "tuple"=none)(mL:mg "list"=none)(mr:mg "reversed"=none):FnOk P w K mg base CX0 1 f fd ["kind"] spOuter:=by
 refine F.ok sc_outer (len:=fun vs H Q E h=>(by obtain⟨v,t,n,rfl,_⟩:=h;rfl)) (fun cdv A outer s H vs Q E hr h=>?_)
 obtain⟨v,t,n,rfl,rt,kt,hsz,q⟩:=h
 refine⟨_,pss_cons (ps_set (i:=1) sc_outer.nd rfl (Or.inl rfl) (pe_lst (pa_cons (pv 0) pa_nil)))
  (pss_cons (ps_set (i:=2) sc_outer.nd rfl (Or.inl rfl) (pe_lst pa_nil))
  (pss_cons (ps_while PassesOwn.never (pt_cmpR op_gt (pe_callB call_len_seq rfl ml PySem.boot_len (pa_cons (pv 1) pa_nil)) pe_int (nomark _))
   (pss_cons (ps_set (i:=3) sc_outer.nd rfl (Or.inl rfl) (pe_bm0 PySem.F.plainAttrs_list PySem.F.slot_list_pop PySem.F.type_list_pop mt_pop (pv 1)))
   (pss_cons (ps_expr (pe_bm PySem.F.plainAttrs_list PySem.F.slot_list_append PySem.F.type_list_append mt_append (pv 2) (pa_cons (pv 3) pa_nil)))
   (pss_one (ps_if (pt_val (pe_callB call_isi rfl mi boot_isinstance (pa_cons (pv 3) (pa_cons (pe_bltn (v:=.ty "tuple") rfl mt boot_tuple rfl) pa_nil))))
    (pss_one (ps_expr (pe_bm PySem.F.plainAttrs_list PySem.F.slot_list_extend PySem.F.type_list_extend mt_extend (pv 1) (pa_cons (pe_listRev rfl rfl mL rfl mr (pe_slice sl_tup (pv 3) (po_some pe_int) po_none)) pa_nil)))) pss_nil)))))
  (pss_one (ps_ret (pv 2))))),?_⟩
 refine⟨_,rfl,small (by show 1≤1000000;decide),fun lw hlw=>?_⟩
 refine⟨small (by show 0≤1000000;decide),fun lp hlp=>?_⟩
 have hlp0:H lp=none:=(same_new hlw (.lst [v])).free hlp
 have nwp:lw≠lp:=fun e=>by rw[e]at hlw;rw[←e,upd_same]at hlp;cases hlp
 have e0:Same H (upd (upd H lw (.lst [v])) lp (.lst [])):=(same_new hlw _).trans (same_new hlp _)
 refine⟨fun m σ H'=>∃(o:Option V) (ws ps:List V) (ts ds:List T),σ=[some v,some (.ref lw),some (.ref lp),o]∧H' lw=some (.lst ws)∧H' lp=some (.lst ps)∧Reps H' ws ts∧Reps H' ps ds∧
   pre t=ds++pres ts.reverse∧(∀t'∈ts,∃n,KD n t')∧m=szs ts∧ds.length+szs ts≤100000∧Same H H',
  ⟨szs [t],none,[v],[],[t],[],rfl,by rw[upd_ne nwp];exact upd_same,upd_same, .cons (rt.same e0) .nil, .nil,by simp[pres],fun t' h=>⟨n,by rw[List.mem_singleton.mp h];exact kt⟩,rfl,by simpa[szs] using hsz,e0⟩,?_⟩
 rintro m σ H1 ⟨o,ws,ps,ts,ds,rfl,hw1,hp1,rw1,rp1,pre1',kd1,rfl,hs1,e1⟩
 refine⟨_,rfl,lw,ws,rfl, .inl (SqL.of hw1),_,_,rfl,rfl,_,rfl,?_⟩
 refine ite2 (fun c=>?_) (fun c=>?_)
 ·have c1:(0:Int)<ws.length:=of_decide_eq_true c
  have ne:ws≠[]:=fun e=>by rw[e]at c1;simp at c1
  obtain⟨ws,us,v',t',rfl,rfl,hws,hv'⟩:=rw1.snoc_inv ne
  obtain⟨n',kd'⟩:=kd1 t' (by simp)
  have tups2:∀b xs,H1 b=some (.tup xs)→(upd H1 lw (.lst (ws++[v']).dropLast)) b=some (.tup xs):=fun b xs h=>by
   rw[upd_ne (ne_of h hw1 (by intro z;cases z))];exact h
  have sz1:szs (us++[t'])=szs us+t'.sz:=by rw[szs_app];simp[szs]
  have lps:=rp1.length
  have lus:=hws.length
  have lsz:=len_szs us
  refine⟨_,fun _ _ h=>h,?_⟩
  refine⟨_,rfl, .inl ⟨rfl,_,SqL.of hw1⟩,lw,ws++[v'],v',rfl,rfl,hw1,by simp,?_⟩
  rw[List.dropLast_concat]at tups2 ⊢
  have hp2:(upd H1 lw (.lst ws)) lp=some (.lst ps):=by rw[upd_ne (Ne.symm nwp)];exact hp1
  refine⟨_,rfl, .inl ⟨rfl,_,SqL.of hp2⟩,_,rfl,lp,ps,v',rfl,rfl,hp2,small' (by omega),?_⟩
  generalize hH3:upd (upd H1 lw (.lst ws)) lp (.lst (ps++[v']))=H3
  have hw3:H3 lw=some (.lst ws):=by rw[←hH3,upd_ne nwp];exact upd_same
  have hp3:H3 lp=some (.lst (ps++[v'])):=by rw[←hH3];exact upd_same
  have tups3:∀b xs,H1 b=some (.tup xs)→H3 b=some (.tup xs):=fun b xs h=>by
   rw[←hH3,upd_ne (ne_of (tups2 b xs h) hp2 (by intro z;cases z))];exact tups2 b xs h
  have e3:Same H H3:=fun b u h=>by
   rw[←hH3,upd_ne (ne_of_none h hlp0),upd_ne (ne_of_none h hlw)];exact e1 b u h
  have rv3:=hv'.mono tups3
  refine⟨_,rfl,_,_,_,_,rfl,rep_ty rv3,kit_tup K t',?_⟩
  refine⟨_,rfl,?_⟩
  cases kd' with
  |@leaf _ z hz=>
   refine iteF ?_
   refine⟨szs us,by rw[sz1];have:=sz_pos (.str z);omega,some v',ws,ps++[v'],us,ds++[.str z],rfl,hw3,hp3,hws.mono tups3,(rp1.mono tups3).append (.cons rv3 .nil),?_,fun x hx=>kd1 x (by simp[hx]),rfl,?_,e3⟩
   ·rw[pre1',List.reverse_append]
    show ds++pres (.str z::us.reverse)=_
    show ds++([.str z]++pres us.reverse)=_
    rw[List.append_assoc]
   ·have:=sz_pos (.str z)
    rw[List.length_append];simp only[List.length_singleton];omega
  |@tup j z ks nz k1 k3 hk=>
   refine iteT ?_
   cases rv3 with
   |@tup a vs _ hta rr=>
    cases rr with
    |@cons v0 _ vr _ r0 rr=>
     have lr:=rr.length
     refine⟨_,rfl, .inl ⟨rfl,_,SqL.of hw3⟩,_,rfl,1,rfl,a,_,rfl,SqT.of hta,cutq_not (vs:=v0::vr) (n:=1) (by simp) (Nat.le_refl _),fun p4 hp4=>?_⟩
     have ec:cutV (v0::vr) (some 1) none=vr:=cutq (v0::vr) 1
     rw[ec]
     have e4:=same_new hp4 (.tup vr)
     refine⟨p4,vr,rfl,SqT.of upd_same,fun l5 hl5=>?_⟩
     have e5:=same_new hl5 (.lst vr.reverse)
     have hw5:=e5 _ _ (e4 _ _ hw3)
     have hp5:=e5 _ _ (e4 _ _ hp3)
     have e45:=e4.trans e5
     have szk:(T.tup (.str z::ks)).sz=1+(1+szs ks):=rfl
     refine⟨lw,l5,ws,vr.reverse,rfl,rfl,hw5,upd_same,small (by rw[List.length_reverse,lr];have:=len_szs ks;omega),?_⟩
     have tups6:∀b xs,H3 b=some (.tup xs)→(upd (upd (upd H3 p4 (.tup vr)) l5 (.lst vr.reverse)) lw (.lst (ws++vr.reverse))) b=some (.tup xs):=fun b xs h=>by
      rw[upd_ne (ne_of h hw3 (by intro z;cases z))];exact e45 b _ h
     refine⟨szs (us++ks.reverse),by rw[sz1,szs_app,szs_reverse,szk];omega,some (.ref a),ws++vr.reverse,ps++[.ref a],us++ks.reverse,ds++[.tup (.str z::ks)],rfl,upd_same,by rw[upd_ne (Ne.symm nwp)];exact hp5,?_,?_,?_,fun x hx=>?_,rfl,?_,fun b u h=>?_⟩
     ·exact(hws.mono fun b xs h=>tups6 b xs (tups3 b xs h)).append (rr.mono tups6).reverse
     ·exact(rp1.mono fun b xs h=>tups6 b xs (tups3 b xs h)).append (.cons (.tup (tups6 _ _ hta) ((Reps.cons r0 rr).mono tups6)) .nil)
     ·have a1:pres (us++[T.tup (.str z::ks)]).reverse=(T.tup (.str z::ks)::pres ks)++pres us.reverse:=by rw[List.reverse_append];rfl
      have a2:pres (us++ks.reverse).reverse=pres ks++pres us.reverse:=by rw[List.reverse_append,List.reverse_reverse,pres_app]
      rw[pre1',a1,a2]
      simp
     ·rcases List.mem_append.mp hx with h|h
      ·exact kd1 x (by simp[h])
      ·exact⟨j,hk x (List.mem_reverse.mp h)⟩
     ·rw[List.length_append,szs_app,szs_reverse];simp only[List.length_singleton];rw[sz1,szk]at hs1;omega
     ·rw[upd_ne (ne_of_none h hlw)];exact e45 b u (e3 b u h)
 ·have c1:¬(0:Int)<ws.length:=fun h=>c (decide_eq_true h)
  have e:ws=[]:=by
   cases ws with
   |nil=>rfl
   |cons a b=>exact absurd (by simp) c1
  subst e
  cases rw1
  have lps:=rp1.length
  rw[show pres ([]:List T).reverse=[] from rfl,List.append_nil]at pre1'
  exact⟨_,rfl,q lp ps H1 e1 hlp0 hp1 (by rw[pre1'];exact rp1) (by omega)⟩
end
def kidsT:T→List T
 |.tup l=>l.tail
 |_=>[]
theorem pre_kids:∀t:T,pre t=t::pres (kidsT t)
 |.int i=>rfl
 |.str z=>rfl
 |.tup []=>rfl
 |.tup (_::_)=>rfl
def stepS:List T→List T
 |[]=>[]
 |p::r=>kidsT p++r
theorem pres_step (S:List T):pres (stepS S)=(pres S).tail:=by
 cases S with
 |nil=>rfl
 |cons p r=>
  show pres (kidsT p++r)=(pre p++pres r).tail
  rw[pre_kids p,pres_app]
  rfl
def stk (t:T):Nat→List T
 |0=>[t]
 |i+1=>stepS (stk t i)
theorem pres_stk (t:T):∀i,pres (stk t i)=(pre t).drop i
 |0=>by show pre t++[]=_;rw[List.append_nil];rfl
 |i+1=>by
  show pres (stepS (stk t i))=_
  rw[pres_step,pres_stk t i,List.tail_drop]
theorem len_pres:∀S:List T,S.length≤(pres S).length
 |[]=>Nat.le_refl _
 |p::r=>by
  show r.length+1≤(pre p++pres r).length
  rw[pre_kids p,List.length_append]
  have:=len_pres r
  simp only[List.length_cons]
  omega
theorem stk_at {t p:T}{i:Nat}(h:(pre t)[i]?=some p):∃r,stk t i=p::r:=by
 have hp:=pres_stk t i
 have hi:i<(pre t).length:=(List.getElem?_eq_some_iff.mp h).1
 rw[List.drop_eq_getElem_cons hi]at hp
 have hg:(pre t)[i]=p:=(List.getElem?_eq_some_iff.mp h).2
 rw[hg]at hp
 cases hs:stk t i with
 |nil=>rw[hs]at hp;cases hp
 |cons q r=>
  rw[hs]at hp
  have hp':pre q++pres r=p::_:=hp
  rw[pre_kids q]at hp'
  have e:q=p:=by simpa using(List.cons.inj hp').1
  exact⟨r,by rw[e]⟩
theorem stk_end (t:T):stk t (pre t).length=[]:=by
 have hp:=pres_stk t (pre t).length
 rw[List.drop_eq_nil_of_le (Nat.le_refl _)]at hp
 have:=len_pres (stk t (pre t).length)
 rw[hp]at this
 exact List.length_eq_zero_iff.mp (by simpa using this)
theorem stk_len (t:T)(i:Nat):(stk t i).length≤(pre t).length:=by
 have:=len_pres (stk t i)
 rw[pres_stk,List.length_drop]at this
 omega
theorem mem_pres:∀{S:List T} {p:T},p∈pres S→∃k∈S,p∈pre k
 |[],_,h=>by cases h
 |q::r,p,h=>by
  rcases List.mem_append.mp (show p∈pre q++pres r from h) with h|h
  ·exact⟨q,List.mem_cons_self,h⟩
  ·obtain⟨k,hk,hp⟩:=mem_pres h
   exact⟨k,List.mem_cons_of_mem _ hk,hp⟩
theorem kd_pre {n:Nat}{t:T}(h:KD n t):∀p∈pre t,∃n,KD n p:=by
 induction h with
 |@leaf n z hz=>
  intro p hp
  have:p=.str z:=by simpa[pre] using hp
  rw[this]
  exact⟨0, .leaf hz⟩
 |@tup n z ks nz k1 k3 hk ih=>
  intro p hp
  rcases List.mem_cons.mp (show p∈T.tup (.str z::ks)::pres ks from hp) with h|h
  ·rw[h]
   exact⟨n+1, .tup nz k1 k3 hk⟩
  ·obtain⟨k,hk',hp'⟩:=mem_pres h
   exact ih k hk' p hp'
def stand1 (acc:List Str):T→List Str
 |.str z=>if Txt.startswith z "?"=true then(if z∈acc then acc else acc++[z]) else acc
 |_=>acc
def stand (ts:List T):List Str:=ts.foldl stand1 []
theorem stand_snoc (ts:List T)(t:T):stand (ts++[t])=stand1 (stand ts) t:=by unfold stand;rw[List.foldl_append];rfl
theorem stand1_len (acc:List Str)(t:T):(stand1 acc t).length≤acc.length+1:=by
 cases t with
 |str z=>
  unfold stand1
  dsimp only
  split
  ·split
   ·omega
   ·rw[List.length_append];simp
  ·omega
 |int i=>exact Nat.le_succ _
 |tup l=>exact Nat.le_succ _
def dq (zs:List Str):List (Key×V):=zs.map fun z=>(Sum.inr z,V.bl true)
theorem dq_len (zs:List Str):(dq zs).length=zs.length:=List.length_map _
theorem dq_val (z:Str):∀zs:List Str,valV (dq zs) (Sum.inr z)=if z∈zs then some (.bl true) else none
 |[]=>rfl
 |y::r=>by
  show valV ((Sum.inr y,V.bl true)::dq r) (Sum.inr z)=_
  by_cases e:y=z
  ·subst e
   rw[valV_pos rfl,if_pos List.mem_cons_self]
  ·rw[valV_neg (by intro h;exact e (Sum.inr.inj h)),dq_val z r]
   by_cases h:z∈r
   ·rw[if_pos h,if_pos (List.mem_cons_of_mem _ h)]
   ·rw[if_neg h,if_neg (by intro h';rcases List.mem_cons.mp h' with h'|h';exact e h'.symm;exact h h')]
theorem dq_put (zs:List Str)(z:Str):putK (dq zs) (Sum.inr z) (.bl true)=dq (if z∈zs then zs else zs++[z]):=by
 by_cases h:z∈zs
 ·rw[if_pos h]
  unfold putK
  rw[valV_any,dq_val,if_pos h]
  simp only[Option.isSome_some,if_true]
  unfold dq
  rw[List.map_map]
  refine List.map_congr_left fun y _=>?_
  show(if(Sum.inr y:Key)=Sum.inr z then _ else _)=_
  split<;>rfl
 ·rw[if_neg h,putK_new _ (by rw[dq_val,if_neg h])]
  unfold dq
  rw[List.map_append]
  rfl
theorem dq_keys (zs:List Str):((dq zs).map fun kv=>kV kv.1)=zs.map V.str:=by unfold dq;rw[List.map_map];rfl
def spVars:Sp:=fun vs H Q _=>∃v t n,vs=[v]∧Rep H v t∧KD n t∧t.sz≤100000∧∀(l:Addr) H',Same H H'→H l=none→H' l=some (.lst ((stand (pre t)).map V.str))→(stand (pre t)).length≤100000→Q (.ref l) H'
section
variable {P:Program}{w:World}{K:PySem.W.Frag}{mg:Str→Option Value}{base:Heap}{f:Addr}{fd:FuncData}
abbrev s_variables:Stmt:=top 21
theorem sc_variables:FnScope ["kind","standing","part"] ["kind"] (defScope s_variables):=⟨rfl,rfl,rfl,by decide+kernel,rfl,by decide+kernel,by decide+kernel⟩
set_option maxHeartbeats 1000000 in
theorem ok_variables (F:Fun K "variables" "variables" s_variables f fd)(mL:mg "list"=none)(h1:Has P w K mg base 1 "is_open" ["thing"] spOpen)(h2:Has P w K mg base 1 "outer_first" ["kind"] spOuter):FnOk P w K mg base CX0 2 f fd ["kind"] spVars:=by
 refine F.ok sc_variables (len:=fun vs H Q E h=>(by obtain⟨v,t,n,rfl,_⟩:=h;rfl)) (fun cdv A outer s H vs Q E hr h=>?_)
 obtain⟨v,t,n,rfl,rt,kt,hsz,q⟩:=h
 have hu:=hu_of hr
 refine⟨_,pss_cons (ps_set (i:=1) sc_variables.nd rfl (Or.inl rfl) pe_dnewK)
  (pss_cons (ps_for PassesOwn.never rfl (pi_list (pcall h2 hr (by decide) rfl (pa_cons (pv 0) pa_nil))) (pg_name (i:=2) sc_variables.nd rfl (Or.inl rfl))
   (pss_one (ps_if (pt_val (pcall h1 hr (by decide) rfl (pa_cons (pv 2) pa_nil))) (pss_one (ps_dput hu (pv 1) (pv 2) pe_bl rfl)) pss_nil)))
  (pss_one (ps_ret (pe_callTy (call_list_d rfl) rfl mL boot_list (pa_cons (pv 1) pa_nil))))),?_⟩
 intro d hd
 have e1:=same_new hd (.dK [])
 refine⟨_,rfl,v,t,n,rfl,rt.same e1,kt,hsz,fun l ws H2 e2 hl hl2 rw2 lw=>?_⟩
 have ld:l≠d:=fun e=>by rw[e,upd_same]at hl;cases hl
 have lpre:=rw2.length
 refine⟨l,rfl,⟨_,SqL.of hl2⟩,for_list (xs:=ws) (fun i σ H'=>∃o,σ=[some v,some (.ref d),o]∧H' d=some (.dK (dq (stand ((pre t).take i))))∧(stand ((pre t).take i)).length≤i∧H' l=some (.lst ws)∧Reps H' ws (pre t)∧Same H H')
  ⟨none,rfl,e2 _ _ upd_same,Nat.le_refl _,hl2,rw2,e1.trans e2⟩ ?_ ?_ ?_⟩
 ·rintro i σ H' hi ⟨o,rfl,_,_,h,_⟩
  exact SqL.of h
 ·rintro i x σ H3 hx ⟨o,rfl,hd3,lz,hl3,rw3,e3⟩
  obtain⟨t',ht',rx⟩:=rw3.at2 hx
  have hi:i<ws.length:=(List.getElem?_eq_some_iff.mp hx).1
  have et:stand ((pre t).take (i+1))=stand1 (stand ((pre t).take i)) t':=by
   rw[List.take_add_one,ht']
   exact stand_snoc _ _
  have lz':=stand1_len (stand ((pre t).take i)) t'
  refine⟨_,rfl,x,t',rfl,rx,_,rfl,?_⟩
  cases rx with
  |int j=>exact iteF ⟨_,rfl,by rw[et];exact hd3,by rw[et];omega,hl3,rw3,e3⟩
  |tup ha r=>exact iteF ⟨_,rfl,by rw[et];exact hd3,by rw[et];omega,hl3,rw3,e3⟩
  |str z hz=>
   show(if Txt.startswith z "?"=true then _ else _)
   by_cases c:Txt.startswith z "?"=true
   ·rw[if_pos c]
    refine⟨_,rfl,_,rfl,d,_,rfl,DPut.k (k:=Sum.inr z) (v:=.bl true) hd3 (small' (by rw[dq_len];omega)),?_⟩
    rw[dq_put]
    have es:stand1 (stand ((pre t).take i)) (.str z)=if z∈stand ((pre t).take i) then stand ((pre t).take i) else stand ((pre t).take i)++[z]:=by
     show(if Txt.startswith z "?"=true then _ else _)=_
     rw[if_pos c]
    refine⟨_,rfl,by rw[et,es];exact upd_same,by rw[et];omega,by rw[upd_ne ld];exact hl3,rw3.mono fun b xs h=>?_,fun b u h=>?_⟩
    ·rw[upd_ne (ne_of h hd3 (by intro z;cases z))];exact h
    ·rw[upd_ne (ne_of_none h hd)];exact e3 b u h
   ·rw[if_neg c]
    have es:stand1 (stand ((pre t).take i)) (.str z)=stand ((pre t).take i):=by
     show(if Txt.startswith z "?"=true then _ else _)=_
     rw[if_neg c]
    exact⟨_,rfl,by rw[et,es];exact hd3,by rw[et];omega,hl3,rw3,e3⟩
 ·rintro σ H3 ⟨o,rfl,hd3,lz,hl3,rw3,e3⟩
  rw[List.take_of_length_le (by omega)]at hd3 lz
  refine⟨_,rfl,d,_,rfl,hd3,fun l4 hl4=>?_⟩
  rw[dq_keys]
  exact q l4 _ (e3.trans (same_new hl4 _)) (e3.free hl4) upd_same (by omega)
end
mutual
def remT (g:Str→List T→T):T→T
 |.int i=>.int i
 |.str z=>g z []
 |.tup l=>rem1 g l
def rem1 (g:Str→List T→T):List T→T
 |[]=>.tup []
 |.str z::r=>g z (rems g r)
 |h::r=>.tup (h::rems g r)
def rems (g:Str→List T→T):List T→List T
 |[]=>[]
 |t::r=>remT g t::rems g r
end
theorem rems_map (g:Str→List T→T):∀l,rems g l=l.map (remT g)
 |[]=>by rw[rems];rfl
 |t::r=>by rw[rems,rems_map g r];rfl
theorem rems_app (g:Str→List T→T)(a b:List T):rems g (a++b)=rems g a++rems g b:=by rw[rems_map,rems_map,rems_map,List.map_append]
def hdT:T→List T
 |.tup l=>l
 |t=>[t]
theorem KD.head {n:Nat}{p:T}(k:KD n p):∃z,hdT p=.str z::kidsT p∧z.length≤80∧(kidsT p).length≤3∧(kidsT p≠[]→NQ z)∧∀g,remT g p=g z (rems g (kidsT p)):=by
 cases k with
 |@leaf _ z hz=>exact⟨z,rfl,hz,(by show 0≤3;decide),fun h=>absurd rfl h,fun g=>by rw[remT];show _=g z (rems g []);rw[rems]⟩
 |@tup j z ks nz k1 k3 hk=>exact⟨z,rfl,by have:=nz.2;omega,k3,fun _=>nz,fun g=>by rw[remT,rem1];rfl⟩
def spHeaded:Sp:=fun vs H Q _=>∃v t,vs=[v]∧Rep H v t∧∀(a:Addr) (xs:List V) H',Same H H'→H' a=some (.tup xs)→Reps H' xs (hdT t)→Q (.ref a) H'
def spMk (A:Str→Prop)(H0:Hp)(g:Str→List T→T):Sp:=fun vs H Q _=>∃(z:Str) (li:Addr) (us:List V) (ts:List T),vs=[.str z, .ref li]∧Same H0 H∧H li=some (.lst us)∧Reps H us ts∧A z∧z.length≤80∧ts.length≤3∧(ts≠[]→NQ z)∧
 ∀v' H',Same H H'→Rep H' v' (g z ts)→Q v' H'
def spRemade (kk:Nat)(P:Program)(w:World)(K:PySem.W.Frag)(mg:Str→Option Value)(base:Heap):Sp:=fun vs H Q _=>∃(A:Str→Prop) (v:V) (f:Addr) (t:T) (n:Nat) (g:Str→List T→T) (fo:Obj) (fd fd':FuncData),vs=[v, .ref f]∧Rep H v t∧KD n t∧t.sz≤100000∧(∀p∈pre t,∀z l,hdT p=.str z::l→A z)∧H f=some (objO f fo)∧fo.data=.func fd'∧
 FnOk P w K mg base CX0 kk f fd ["head","inner"] (spMk A H g)∧Binds K fd ["head","inner"] []∧∀v' H',Same H H'→Rep H' v' (remT g t)→Q v' H'
section
variable {P:Program}{w:World}{K:PySem.W.Frag}{mg:Str→Option Value}{base:Heap}{f:Addr}{fd:FuncData}
abbrev s_headed:Stmt:=top 2
abbrev s_remade:Stmt:=top 22
theorem sc_headed:FnScope ["thing"] ["thing"] (defScope s_headed):=⟨rfl,rfl,rfl,by decide+kernel,rfl,by decide+kernel,by decide+kernel⟩
theorem ok_headed (F:Fun K "headed" "headed" s_headed f fd)(mi:mg "isinstance"=none)(mt:mg "tuple"=none):FnOk P w K mg base CX0 1 f fd ["thing"] spHeaded:=by
 refine F.ok sc_headed (len:=fun vs H Q E h=>(by obtain⟨v,t,rfl,_⟩:=h;rfl)) (fun cdv A outer s H vs Q E hr h=>?_)
 obtain⟨v,t,rfl,rt,q⟩:=h
 refine⟨_,pss_one (ps_ret (pe_ifExp (pt_val (pe_callB call_isi rfl mi boot_isinstance (pa_cons (pv 0) (pa_cons (pe_bltn (v:=.ty "tuple") rfl mt boot_tuple rfl) pa_nil)))) (pv 0) (pe_tup (pa_cons (pv 0) pa_nil)))),?_⟩
 refine⟨_,rfl,_,_,_,_,rfl,rep_ty rt,kit_tup K t,_,rfl,?_⟩
 cases rt with
 |int i=>exact iteF ⟨_,rfl,small (by show 1≤1000000;decide),fun p hp=>q p [.int i] _ (same_new hp _) upd_same (.cons (.int i) .nil)⟩
 |str z hz=>exact iteF ⟨_,rfl,small (by show 1≤1000000;decide),fun p hp=>q p [.str z] _ (same_new hp _) upd_same (.cons (.str z hz) .nil)⟩
 |@tup a xs _ ha ra=>exact iteT ⟨_,rfl,q a xs H (Same.refl _) ha ra⟩
abbrev nR:List Str:=["kind","make","done","part","words","inner"]
theorem sc_remade:FnScope nR ["kind","make"] (defScope s_remade):=⟨rfl,rfl,rfl,by decide+kernel,rfl,by decide+kernel,by decide+kernel⟩
set_option maxHeartbeats 2000000 in
theorem ok_remade {kq:Nat}(hkk:1≤kq)(F:Fun K "remade" "remade" s_remade f fd)(ml:mg "len"=none)(mr:mg "range"=none)(mv:mg "reversed"=none)
  (h1:Has P w K mg base 1 "headed" ["thing"] spHeaded) (h2:Has P w K mg base 1 "outer_first" ["kind"] spOuter):FnOk P w K mg base CX0 (kq+1) f fd ["kind","make"] (spRemade kq P w K mg base):=by
 refine F.ok sc_remade (len:=fun vs H Q E h=>(by obtain⟨A,v,fm,t,n,g,fo,gd,gd',rfl,_⟩:=h;rfl)) (fun cdv A outer s H vs Q E hr h=>?_)
 obtain⟨A,v,fm,t,n,g,fo,gd,gd',rfl,rt,kt,hsz,hA,hfm,hfd,G,gb,q⟩:=h
 refine⟨_,pss_cons (ps_set (i:=2) sc_remade.nd rfl (Or.inr rfl) (pe_lst pa_nil))
  (pss_cons (ps_for PassesOwn.never rfl (pi_rev rfl mv (pcall h2 hr hkk rfl (pa_cons (pv 0) pa_nil))) (pg_name (i:=3) sc_remade.nd rfl (Or.inl rfl))
   (pss_cons (ps_set (i:=4) sc_remade.nd rfl (Or.inl rfl) (pcall h1 hr hkk rfl (pa_cons (pv 3) pa_nil)))
   (pss_cons (ps_lc (te:=tBM0 K "list" rPop (tVar 1)) (defScope s_remade) nR ["done"] [2] (by decide+kernel) (pi_range2 rfl mr (pa_cons pe_int (pa_cons (pe_callB call_len_seq rfl ml PySem.boot_len (pa_cons (pv 4) pa_nil)) pa_nil))) (pg_name (i:=5) sc_remade.nd rfl (Or.inl rfl))
      (fun C s₀ H₀ ex=>pts_nil) (fun C s₀ H₀ ex=>by exact pe_bm0 PySem.F.plainAttrs_list PySem.F.slot_list_pop PySem.F.type_list_pop mt_pop (pv 1)) (by with_unfolding_all rfl))
   (pss_one (ps_expr (pe_bm PySem.F.plainAttrs_list PySem.F.slot_list_append PySem.F.type_list_append mt_append (pv 2) (pa_cons (pe_callF (pv 1) (pa_cons (pe_ix ix_tup (pv 4) pe_int (fun _ _=>rfl)) (pa_cons (pv 5) pa_nil))) pa_nil)))))))
  (pss_one (ps_ret (pe_ix ix_list (pv 2) pe_int (fun _ _=>rfl))))),?_⟩
 refine⟨small (by show 0≤1000000;decide),fun ld hld=>?_⟩
 have e1:=same_new hld (.lst [])
 refine⟨_,rfl,v,t,n,rfl,rt.same e1,kt,hsz,fun l ws H2 e2 hl hl2 rw2 lw=>?_⟩
 have nl:l≠ld:=fun e=>by rw[e,upd_same]at hl;cases hl
 have lpre:=rw2.length
 refine⟨l,ws,rfl,SqL.of hl2,for_rev (xs:=ws) (fun j σ H'=>∃(o3 o4 o5:Option V) (vs:List V),σ=[some v,some (.ref fm),some (.ref ld),o3,o4,o5]∧H' ld=some (.lst vs)∧H' l=some (.lst ws)∧
   Reps H' vs.reverse (rems g (stk t (ws.length-j)))∧Reps H' ws (pre t)∧Same H H')
  ⟨none,none,none,[],rfl,e2 _ _ upd_same,hl2,?_,rw2,e1.trans e2⟩ ?_ ?_ ?_⟩
 ·rw[Nat.sub_zero,lpre,stk_end,rems]
  exact .nil
 ·rintro j σ H' hj ⟨o3,o4,o5,vs,rfl,_,h,_⟩
  exact SqL.of h
 ·rintro j x σ H3 hj hx ⟨o3,o4,o5,vs,rfl,hd3,hl3,rv3,rw3,e3⟩
  obtain⟨p,hp,rx⟩:=rw3.at2 hx
  obtain⟨r,hr'⟩:=stk_at hp
  obtain⟨n',kp⟩:=kd_pre kt p (List.mem_of_getElem? hp)
  have es:stk t (ws.length-j)=kidsT p++r:=by
   rw[show ws.length-j=(ws.length-1-j)+1 by omega]
   show stepS (stk t (ws.length-1-j))=_
   rw[hr']
   rfl
  have es1:stk t (ws.length-(j+1))=p::r:=by rw[show ws.length-(j+1)=ws.length-1-j by omega];exact hr'
  rw[es]at rv3
  have lvs:vs.length≤100000:=by
   have h1:=rv3.length
   rw[←es,rems_map,List.length_map,List.length_reverse]at h1
   have h2:=stk_len t (ws.length-j)
   omega
  obtain⟨z,hh,hz,l3,hnz,hrem⟩:=kp.head
  refine⟨_,rfl,x,p,rfl,rx,fun a xs H4 e4 ha4 rxs=>?_⟩
  rw[hh]at rxs
  generalize hks:kidsT p=ks at*
  have hd4:=e4 _ _ hd3
  have hl4:=e4 _ _ hl3
  have rvk:Reps H4 vs.reverse (rems g ks++rems g r):=by rw[←rems_app];exact rv3.same e4
  have rw4:=rw3.same e4
  have s4:=e3.trans e4
  obtain⟨RA,RB,eR,rA,rB⟩:=rvk.split
  have ev:vs=RB.reverse++RA.reverse:=by
   have:=congrArg List.reverse eR
   rw[List.reverse_reverse,List.reverse_append]at this
   exact this
  have lA:RA.length=ks.length:=by rw[rA.length,rems_map,List.length_map]
  have lB:RB.length≤100000:=by rw[ev]at lvs;rw[List.length_append,List.length_reverse,List.length_reverse]at lvs;omega
  cases rxs with
  |@cons v0 _ vr _ r0 rr=>
   cases r0
   have lr:=rr.length
   refine⟨_,rfl,a,_,rfl, .inr (SqT.of ha4),1,((V.str z::vr).length:Nat),rfl,⟨by decide,by decide,by omega,by simp only[List.length_cons];omega⟩,?_⟩
   have en:(((V.str z::vr).length:Nat)-1:Int).toNat=ks.length:=by simp only[List.length_cons];omega
   rw[en]
   have kpt:∀H':Hp,(∀c u,c≠ld→H4 c=some u→H' c=some u)→∀c xs,H4 c=some (.tup xs)→H' c=some (.tup xs):=fun H' k c xs h=>k c _ (ne_of h hd4 (by intro z;cases z)) h
   refine comp_range (n:=ks.length) (fun k us H'=>H' ld=some (.lst (RB.reverse++(RA.drop k).reverse))∧us=RA.take k∧∀c u,c≠ld→H4 c=some u→H' c=some u)
    ⟨by rw[List.drop_zero,←ev];exact hd4,by simp,fun c u _ h=>h⟩ ?_ ?_ ?_
   ·rintro k us H' hk' ⟨_,rfl,_⟩
    exact small' (by rw[List.length_take];omega)
   ·rintro k us H' hk' ⟨hd',rfl,kk⟩
    have hka:k<RA.length:=by omega
    have ed:RA.drop k=RA[k]::RA.drop (k+1):=List.drop_eq_getElem_cons hka
    have ex:RB.reverse++(RA.drop k).reverse=(RB.reverse++(RA.drop (k+1)).reverse)++[RA[k]]:=by rw[ed,List.reverse_cons,List.append_assoc]
    rw[ex]at hd'
    refine tt1 (iteT ⟨_,rfl, .inl ⟨rfl,_,SqL.of hd'⟩,ld,_,RA[k],rfl,rfl,hd',by simp,nx hk' ?_⟩)
    rw[List.dropLast_concat]
    refine⟨upd_same,?_,fun c u hc h=>by rw[upd_ne hc];exact kk c u hc h⟩
    rw[List.take_add_one,List.getElem?_eq_getElem hka]
    rfl
   ·rintro us H5 ⟨hd5,rfl,kk⟩ li hli
    rw[List.drop_eq_nil_of_le (by omega),List.reverse_nil,List.append_nil]at hd5
    have eT:RA.take ks.length=RA:=List.take_of_length_le (by omega)
    rw[eT]
    have s6:=same_new hli (.lst RA)
    have hd6:=s6 _ _ hd5
    have hli6:(upd H5 li (.lst RA)) li=some (.lst RA):=upd_same
    have k6:∀c u,c≠ld→H4 c=some u→(upd H5 li (.lst RA)) c=some u:=fun c u hc h=>s6 _ _ (kk c u hc h)
    revert s6 hd6 hli6 k6
    generalize upd H5 li (.lst RA)=H6
    intro s6 hd6 hli6 k6
    have tu6:=kpt H6 k6
    have s06:Same H H6:=fun c u h=>k6 c u (ne_of_none h hld) (s4 c u h)
    refine⟨_,rfl, .inl ⟨rfl,_,SqL.of hd6⟩,fm,fo,gd,gd',_,_,kq,rfl,s06 _ _ hfm,hfd,hr,G,gb,_,rfl,a,_,0, .str z,rfl,rfl,SqT.of (tu6 _ _ ha4),atI_nat (j:=0) rfl,_,rfl,s06 _ _ hfm,z,li,RA,rems g ks,rfl,s06,hli6,rA.mono tu6,hA p (List.mem_of_getElem? hp) z _ hh,hz,by rw[rems_map,List.length_map];exact l3,fun hne=>hnz (fun e=>hne (by rw[e,rems])),fun v' H7 e7 rv'=>?_⟩
    have hd7:=e7 _ _ hd6
    refine⟨ld,RB.reverse,v',rfl,rfl,hd7,small' (by rw[List.length_reverse];omega),?_⟩
    have k8:∀c u,c≠ld→H4 c=some u→(upd H7 ld (.lst (RB.reverse++[v']))) c=some u:=fun c u hc h=>by rw[upd_ne hc];exact e7 _ _ (k6 c u hc h)
    have tu8:=kpt _ k8
    have tu7:∀c xs,H7 c=some (.tup xs)→(upd H7 ld (.lst (RB.reverse++[v']))) c=some (.tup xs):=fun c xs h=>by rw[upd_ne (ne_of h hd7 (by intro z;cases z))];exact h
    refine⟨_,_,_,RB.reverse++[v'],rfl,upd_same,k8 l _ nl hl4,?_,rw4.mono tu8,fun c u h=>k8 c u (ne_of_none h hld) (s4 c u h)⟩
    rw[es1,List.reverse_append,List.reverse_reverse,rems,hrem g]
    exact .cons (rv'.mono tu7) (rB.mono tu8)
 ·rintro σ H3 ⟨o3,o4,o5,vs,rfl,hd3,hl3,rv3,rw3,e3⟩
  rw[Nat.sub_self]at rv3
  have rv3':Reps H3 vs.reverse [remT g t]:=by
   have h0:rems g (stk t 0)=[remT g t]:=by show rems g [t]=_;rw[rems,rems]
   rw[h0]at rv3;exact rv3
  cases hv:vs.reverse with
  |nil=>rw[hv]at rv3';cases rv3'
  |cons v' rest=>
   rw[hv]at rv3'
   cases rv3' with
   |cons rv' rr=>
    cases rr
    have ev:vs=[v']:=by
     have:=congrArg List.reverse hv
     rw[List.reverse_reverse]at this
     rw[this];rfl
    subst ev
    exact⟨_,rfl,ld,_,0,v',rfl,rfl,SqL.of hd3,atI_nat (j:=0) rfl,q v' H3 e3 rv'⟩
end
def spFormed:Sp:=fun vs H Q _=>∃(z:Str) (a:Addr) (xs:List V) (ts:List T),vs=[.str z, .ref a]∧z.length≤100000∧H a=some (.lst xs)∧Reps H xs ts∧xs.length≤1000∧∀v H',Same H H'→Rep H' v (match ts with|[]=>.str z|t::r=>.tup (.str z::t::r))→Q v H'
section
variable {P:Program}{w:World}{K:PySem.W.Frag}{mg:Str→Option Value}{base:Heap}{f:Addr}{fd:FuncData}
abbrev s_formed:Stmt:=top 4
theorem sc_formed:FnScope ["head","inner"] ["head","inner"] (defScope s_formed):=⟨rfl,rfl,rfl,by decide+kernel,rfl,by decide+kernel,by decide+kernel⟩
theorem ok_formed (F:Fun K "formed" "formed" s_formed f fd)(ml:mg "len"=none)(mt:mg "tuple"=none):FnOk P w K mg base CX0 1 f fd ["head","inner"] spFormed:=by
 refine F.ok sc_formed (len:=fun vs H Q E h=>(by obtain⟨z,a,xs,ts,rfl,_⟩:=h;rfl)) (fun cdv A outer s H vs Q E hr h=>?_)
 obtain⟨z,a,xs,ts,rfl,hz,ha,ra,hl,q⟩:=h
 refine⟨_,pss_one (ps_ret (pe_ifExp (pt_cmpR op_gt (pe_callB call_len_seq rfl ml PySem.boot_len (pa_cons (pv 1) pa_nil)) pe_int (nomark _))
  (pe_op op_catT (pe_tup (pa_cons (pv 0) pa_nil)) (pe_callTy call_tuple_of rfl mt boot_tuple (pa_cons (pv 1) pa_nil))) (pv 0))),?_⟩
 refine⟨_,rfl,a,xs,rfl, .inl (SqL.of ha),_,_,rfl,rfl,_,rfl,ite2 (fun c=>?_) (fun c=>?_)⟩
 ·have c1:(0:Int)<xs.length:=of_decide_eq_true c
  refine⟨_,rfl,small (by show 1≤1000000;decide),fun p hp=>?_⟩
  have e1:=same_new hp (.tup [V.str z])
  refine⟨_,rfl,a,xs,rfl, .inl ⟨SqL.of (e1 _ _ ha),fun p1 hp1=>?_⟩⟩
  have e2:=same_new hp1 (.tup xs)
  refine⟨p,p1,_,xs,rfl,rfl,SqT.of (e2 _ _ upd_same),SqT.of upd_same,by simp,small (by simp;omega),(fun e=>by rw[e]at c1;simp at c1),fun _ p2 hp2=>?_⟩
  have e3:=same_new hp2 (.tup ([V.str z]++xs))
  have e13:=(e1.trans e2).trans e3
  cases ra with
  |nil=>simp at c1
  |@cons v0 t0 vr tr r0 rr=>exact q _ _ e13 (.tup upd_same (.cons (.str z (by omega)) (.cons (r0.same e13) (rr.same e13))))
 ·cases ra with
  |nil=>exact⟨_,rfl,q _ H (Same.refl _) (.str z (by omega))⟩
  |cons r0 rr=>exact absurd (decide_eq_true (by simp)) c
end
end Fw
namespace L2
open PySem PySem.Spec PyProof.Rows
theorem mt_stripC {X:Cx}:MtR X "str.strip" (fun x xs H Q=>∃z y,x=V.str z∧xs=[.str y]∧z.length≤sizeLine∧Q (.str (Txt.stripChars z y)) H):=by
 intro pins s σ H x xs v us Q I rx rs h
 obtain⟨z,y,rfl,rfl,hz,q⟩:=h
 obtain⟨t,rfl⟩:=rx
 obtain⟨u,rfl,ru⟩:=vals1 rs
 obtain⟨t',rfl⟩:=ru
 exact SCL.stripChars (fun t2 k _=>⟨.str (Txt.stripChars z y),H,I.tok k,⟨t2,rfl⟩,q⟩) hz
end L2
namespace Fw
open PySem PySem.Spec PyProof.Rows L2
theorem empty_len {x:Str}(h:x.length=0):x="":=by
 obtain⟨c⟩:=x
 have e:c=#[]:=Array.eq_empty_of_size_eq_zero h
 rw[e]
 decide+kernel
theorem tw_all {α:Type}(p:α→Bool):∀l:List α,l.all p=true→l.takeWhile p=l
 |[],_=>rfl
 |a::r,h=>by
  rw[List.all_cons,Bool.and_eq_true]at h
  rw[List.takeWhile_cons,if_pos h.1,tw_all p r h.2]
theorem tw_len {α:Type}(p:α→Bool):∀l:List α,l.all p=false→(l.takeWhile p).length<l.length
 |[],h=>by cases h
 |a::r,h=>by
  rw[List.takeWhile_cons]
  by_cases c:p a=true
  ·rw[if_pos c]
   rw[List.all_cons,c,Bool.true_and]at h
   exact Nat.succ_lt_succ (tw_len p r h)
  ·rw[if_neg c]
   exact Nat.succ_pos _
theorem tw_drop {α:Type}(p:α→Bool):∀l:List α,l.all p=false→(l.drop (l.takeWhile p).length).all p=false
 |[],h=>by cases h
 |a::r,h=>by
  rw[List.takeWhile_cons]
  by_cases c:p a=true
  ·rw[if_pos c]
   rw[List.all_cons,c,Bool.true_and]at h
   exact tw_drop p r h
  ·rw[if_neg c]
   exact h
theorem strip_len (x y:Str):(Txt.stripChars x y).length=0↔allS x y=true:=by
 have hn:x.cps.toList.length=x.length:=len_toList x
 have ep:∀c,y.cps.contains c=inS y c:=fun c=>by
  unfold inS
  rw[←Array.contains_toList]
  exact List.contains_eq_mem c y.cps.toList
 have ef:(fun c=>y.cps.contains c)=inS y:=funext ep
 unfold Txt.stripChars Txt.stripBy stripSame stripped stripHi stripLo
 simp only[if_true]
 have ef':y.cps.contains=inS y:=ef
 rw[ef']
 have ea:allS x y=x.cps.toList.all (inS y):=rfl
 rw[ea]
 generalize x.cps.toList=l at hn
 by_cases h:l.all (inS y)=true
 ·rw[tw_all _ l h,List.drop_eq_nil_of_le (Nat.le_refl _)]
  refine⟨fun _=>h,fun _=>?_⟩
  show(if(l.length==0&&x.length-0==x.length)=true then x else Builtin.Str.strSub x l.length (x.length-0)).length=0
  by_cases hc:(l.length==0&&x.length-0==x.length)=true
  ·rw[if_pos hc]
   rw[Bool.and_eq_true,beq_iff_eq,beq_iff_eq]at hc
   omega
  ·rw[if_neg hc]
   show(x.cps.extract l.length (x.length-0)).size=0
   rw[Array.size_extract]
   omega
 ·have h':l.all (inS y)=false:=by simpa using h
  have a1:=tw_len _ l h'
  have a2:=tw_drop _ l h'
  rw[←List.all_reverse]at a2
  have a3:=tw_len _ _ a2
  rw[List.length_reverse,List.length_drop]at a3
  refine⟨fun hz=>?_,fun h2=>absurd h2 h⟩
  exfalso
  split at hz
  ·omega
  ·have hz':(x.cps.extract (List.takeWhile (inS y) l).length (x.length-(List.takeWhile (inS y) (List.drop (List.takeWhile (inS y) l).length l).reverse).length)).size=0:=hz
   rw[Array.size_extract]at hz'
   have hs:x.cps.size=x.length:=rfl
   omega
theorem strip_is (x y:Str):decide (V.str (Txt.stripChars x y)=V.str "")=allS x y:=by
 have h:=strip_len x y
 by_cases c:allS x y=true
 ·rw[c]
  exact decide_eq_true (congrArg V.str (empty_len (h.mpr c)))
 ·have c':allS x y=false:=by simpa using c
  rw[c']
  refine decide_eq_false fun e=>c (h.mp ?_)
  injection e with e'
  rw[e']
  decide+kernel
abbrev s_all_of:Stmt:=top 14
abbrev s_is_small:Stmt:=top 15
abbrev s_is_name:Stmt:=top 16
abbrev s_is_great:Stmt:=top 17
abbrev s_is_path:Stmt:=top 18
section
variable {P:Program}{w:World}{K:PySem.W.Frag}{mg:Str→Option Value}{base:Heap}{f:Addr}{fd:FuncData}
theorem sc_all_of:FnScope ["text","signs"] ["text","signs"] (defScope s_all_of):=⟨rfl,rfl,rfl,by decide+kernel,rfl,by decide+kernel,by decide+kernel⟩
theorem ok_all_of (F:Fun K "all_of" "all_of" s_all_of f fd)(G:Gb K mg):FnOk P w K mg base CX0 1 f fd ["text","signs"] spAllOf:=by
 refine F.ok sc_all_of (len:=fun vs H Q E h=>(by obtain⟨x,y,rfl,_⟩:=h;rfl)) (fun cdv A outer s H vs Q E hr h=>?_)
 obtain⟨x,y,rfl,hx,q⟩:=h
 refine⟨_,pss_one (ps_ret (pe_cmpR op_eq (pe_bm PySem.F.plainAttrs_str PySem.F.slot_str_strip PySem.F.type_str_strip mt_stripC (pv 0) (pa_cons (pv 1) pa_nil)) pe_str (nomark _))),?_⟩
 refine⟨_,rfl,rfl,_,rfl,x,y,rfl,rfl,small (by omega),rfl,?_⟩
 rw[strip_is]
 exact q H (Same.refl H)
theorem sc_is_small:FnScope ["thing"] ["thing"] (defScope s_is_small):=⟨rfl,rfl,rfl,by decide+kernel,rfl,by decide+kernel,by decide+kernel⟩
theorem ok_is_small (F:Fun K "is_small" "is_small" s_is_small f fd)(G:Gb K mg)(h1:Has P w K mg base 1 "all_of" ["text","signs"] spAllOf):FnOk P w K mg base CX0 2 f fd ["thing"] (spT (onStr smallB)):=by
 refine F.ok sc_is_small (len:=fun vs H Q E h=>(by obtain⟨v,t,rfl,_⟩:=h;rfl)) (fun cdv A outer s H vs Q E hr h=>?_)
 obtain⟨v,t,rfl,rt,q⟩:=h
 obtain⟨t1,hsm⟩:=G.small
 obtain⟨t2,hmo⟩:=G.most
 refine⟨_,pss_one (ps_ret (pe_and (pe_callB call_isi rfl G.isi boot_isinstance (pa_cons (pv 0) (pa_cons (pe_bltn (v:=.ty "str") rfl G.str boot_str rfl) pa_nil)))
  (pe_and (pe_chain op_le op_le pe_int (pe_callB call_len_str rfl G.len PySem.boot_len (pa_cons (pv 0) pa_nil)) (pe_glob (v:=.int 8) rfl hmo ⟨_,rfl⟩))
   (pe_one (pcall h1 hr (by decide) rfl (pa_cons (pv 0) (pa_cons (pe_glob (v:=.str smallS) rfl hsm ⟨_,rfl⟩) pa_nil))))))),?_⟩
 refine⟨_,rfl,_,_,_,_,rfl,rep_ty rt,kit_str K t,_,rfl,?_⟩
 cases rt with
 |int i=>exact iteF (q H (Same.refl H))
 |tup h r=>exact iteF (q H (Same.refl H))
 |str z hz=>
  have q':∀H',Same H H'→Q (.bl (smallB z)) H':=q
  refine iteT ⟨_,rfl,z,rfl,small (by omega),1,z.length,rfl,rfl,_,rfl,?_⟩
  refine ite2 (fun c=>?_) (fun c=>?_)
  ·have c1:(1:Int)≤z.length:=of_decide_eq_true c
   refine⟨_,_,rfl,rfl,_,rfl,?_⟩
   refine ite2 (fun d=>?_) (fun d=>?_)
   ·have d1:(z.length:Int)≤8:=of_decide_eq_true d
    rw[smallB_in (by omega) (by omega)]at q'
    exact⟨_,rfl,z,smallS,rfl,hz,q'⟩
   ·have d1:¬(z.length:Int)≤8:=of_decide_eq_false (Bool.eq_false_iff.mpr d)
    rw[smallB_hi (by omega)]at q'
    exact q' H (Same.refl H)
  ·have c1:¬(1:Int)≤z.length:=of_decide_eq_false (Bool.eq_false_iff.mpr c)
   rw[smallB_lo (by omega)]at q'
   exact⟨_,rfl,iteF (q' H (Same.refl H))⟩
theorem sc_is_name:FnScope ["thing"] ["thing"] (defScope s_is_name):=⟨rfl,rfl,rfl,by decide+kernel,rfl,by decide+kernel,by decide+kernel⟩
theorem ok_is_name (F:Fun K "is_name" "is_name" s_is_name f fd)(G:Gb K mg)(h1:Has P w K mg base 2 "is_small" ["thing"] (spT (onStr smallB))):FnOk P w K mg base CX0 3 f fd ["thing"] (spT (onStr nameB)):=by
 refine F.ok sc_is_name (len:=fun vs H Q E h=>(by obtain⟨v,t,rfl,_⟩:=h;rfl)) (fun cdv A outer s H vs Q E hr h=>?_)
 obtain⟨v,t,rfl,rt,q⟩:=h
 obtain⟨a,hke,hkt⟩:=G.kept
 refine⟨_,pss_one (ps_ret (pe_and (pcall h1 hr (by decide) rfl (pa_cons (pv 0) pa_nil)) (pe_one (pe_cmpR op_notIn_seq (pv 0) (pe_glob (v:=.ref a) rfl hke rfl) (by with_unfolding_all rfl))))),?_⟩
 refine⟨_,rfl,v,t,rfl,rt,fun H' e=>⟨_,rfl,?_⟩⟩
 cases rt with
 |int i=>exact iteF (q H' e)
 |tup h r=>exact iteF (q H' e)
 |str z hz=>
  have q':∀H',Same H H'→Q (.bl (nameB z)) H':=q
  show if smallB z=true then _ else _
  cases hs:smallB z with
  |false=>
   unfold nameB at q'
   rw[hs]at q'
   exact iteF (q' H' e)
  |true=>
   unfold nameB at q'
   rw[hs]at q'
   refine iteT ⟨_,rfl,a,keptL.map V.str,rfl, .inr (hkt H'),rfl,flat_strs _,?_⟩
   rw[if_pos rfl,inV_str]
   exact q' H' e
theorem sc_is_great:FnScope ["thing"] ["thing"] (defScope s_is_great):=⟨rfl,rfl,rfl,by decide+kernel,rfl,by decide+kernel,by decide+kernel⟩
theorem ok_is_great (F:Fun K "is_great" "is_great" s_is_great f fd)(G:Gb K mg)(h1:Has P w K mg base 1 "all_of" ["text","signs"] spAllOf):FnOk P w K mg base CX0 2 f fd ["thing"] (spT (onStr greatB)):=by
 refine F.ok sc_is_great (len:=fun vs H Q E h=>(by obtain⟨v,t,rfl,_⟩:=h;rfl)) (fun cdv A outer s H vs Q E hr h=>?_)
 obtain⟨v,t,rfl,rt,q⟩:=h
 obtain⟨t1,hsm⟩:=G.small
 obtain⟨t2,hmo⟩:=G.most
 obtain⟨t3,hgr⟩:=G.great
 refine⟨_,pss_cons (ps_if (PW.pt (pw_or (pt_not (pt_val (pe_callB call_isi rfl G.isi boot_isinstance (pa_cons (pv 0) (pa_cons (pe_bltn (v:=.ty "str") rfl G.str boot_str rfl) pa_nil)))))
   (pw_or1 (pt_not (pt_chain op_le op_le pe_int (pe_callB call_len_str rfl G.len PySem.boot_len (pa_cons (pv 0) pa_nil)) (pe_glob (v:=.int 8) rfl hmo ⟨_,rfl⟩)))))) (pss_one (ps_ret pe_bl)) pss_nil)
  (pss_one (ps_ret (pe_and (pe_cmpR op_in_str (pe_ix ix_str (pv 0) pe_int (fun _ _=>rfl)) (pe_glob (v:=.str greatS) rfl hgr ⟨_,rfl⟩) (by with_unfolding_all rfl))
   (pe_one (pcall h1 hr (by decide) rfl (pa_cons (pe_slice sl_str (pv 0) (po_some pe_int) po_none) (pa_cons (pe_glob (v:=.str smallS) rfl hsm ⟨_,rfl⟩) pa_nil))))))),?_⟩
 refine⟨_,rfl,_,_,_,_,rfl,rep_ty rt,kit_str K t,_,rfl,?_⟩
 cases rt with
 |int i=>exact iteT (iteT (q H (Same.refl H)))
 |tup h r=>exact iteT (iteT (q H (Same.refl H)))
 |str z hz=>
  have q':∀H',Same H H'→Q (.bl (greatB z)) H':=q
  refine iteF ⟨_,rfl,z,rfl,small (by omega),1,z.length,rfl,rfl,_,rfl,?_⟩
  refine ite2 (fun c=>?_) (fun c=>?_)
  ·have c1:(1:Int)≤z.length:=of_decide_eq_true c
   refine⟨_,_,rfl,rfl,_,rfl,?_⟩
   refine ite2 (fun d=>?_) (fun d=>?_)
   ·have d1:¬(z.length:Int)≤8:=of_decide_eq_false (by simpa using d)
    rw[greatB_hi (by omega)]at q'
    exact q' H (Same.refl H)
   ·have d1:(z.length:Int)≤8:=of_decide_eq_true (by simpa using d)
    rw[greatB_in (by omega) (by omega)]at q'
    refine⟨_,rfl,z,0,_,rfl,rfl,small (by omega),first_at (by omega),_,_,rfl,rfl,_,rfl,?_⟩
    rw[StrLaws.found_one]
    show if inS greatS (z.cps.toList.getD 0 0)=true then _ else _
    cases hg:inS greatS (z.cps.toList.getD 0 0) with
    |false=>
     rw[hg]at q'
     exact iteF (q' H (Same.refl H))
    |true=>
     rw[hg,Bool.true_and]at q'
     refine iteT ⟨_,rfl,1,rfl,z,rfl,small (by omega),?_⟩
     have rl:=rest_len z
     refine⟨restS z,smallS,?_,by omega,q'⟩
     rw[rest_slice (by omega)]
     rfl
  ·have c1:¬(1:Int)≤z.length:=of_decide_eq_false (Bool.eq_false_iff.mpr c)
   rw[greatB_lo (by omega)]at q'
   exact⟨_,rfl,iteT (q' H (Same.refl H))⟩
theorem sc_is_path:FnScope ["thing","sides"] ["thing"] (defScope s_is_path):=⟨rfl,rfl,rfl,by decide+kernel,rfl,by decide+kernel,by decide+kernel⟩
theorem ok_is_path (F:Fun K "is_path" "is_path" s_is_path f fd)(G:Gb K mg)(h1:Has P w K mg base 3 "is_name" ["thing"] (spT (onStr nameB)))(h2:Has P w K mg base 2 "is_great" ["thing"] (spT (onStr greatB))):FnOk P w K mg base CX0 4 f fd ["thing"] (spT (onStr pathB)):=by
 refine F.ok sc_is_path (len:=fun vs H Q E h=>(by obtain⟨v,t,rfl,_⟩:=h;rfl)) (fun cdv A outer s H vs Q E hr h=>?_)
 obtain⟨v,t,rfl,rt,q⟩:=h
 refine⟨_,pss_cons (ps_if (pt_not (pt_val (pe_callB call_isi rfl G.isi boot_isinstance (pa_cons (pv 0) (pa_cons (pe_bltn (v:=.ty "str") rfl G.str boot_str rfl) pa_nil))))) (pss_one (ps_ret pe_bl)) pss_nil)
  (pss_cons (ps_set (i:=1) sc_is_path.nd rfl (Or.inl rfl) (pe_bm PySem.F.plainAttrs_str PySem.F.slot_str_split PySem.F.type_str_split mt_split (pv 0) (pa_cons pe_str pa_nil)))
   (pss_one (ps_ret (pe_and (pe_cmpR op_eq (pe_callB call_len_seq rfl G.len PySem.boot_len (pa_cons (pv 1) pa_nil)) pe_int (nomark _))
    (pe_and (pcall h2 hr (by decide) rfl (pa_cons (pe_ix ix_list (pv 1) pe_int (fun _ _=>rfl)) pa_nil))
     (pe_one (pcall h1 hr (by decide) rfl (pa_cons (pe_ix ix_list (pv 1) pe_int (fun _ _=>rfl)) pa_nil)))))))),?_⟩
 refine⟨_,rfl,_,_,_,_,rfl,rep_ty rt,kit_str K t,_,rfl,?_⟩
 cases rt with
 |int i=>exact iteT (q H (Same.refl H))
 |tup h r=>exact iteT (q H (Same.refl H))
 |str z hz=>
  have q':∀H',Same H H'→Q (.bl (pathB z)) H':=q
  have sl:=split_short z
  refine iteF ⟨_,rfl,rfl,z,".",rfl,rfl,small (by omega),by decide+kernel,small (by omega),fun l hl=>?_⟩
  have g1:=same_new hl (.lst ((Txt.split z ".").map V.str))
  refine⟨_,rfl,l,_,rfl, .inl (SqL.of upd_same),rfl,_,rfl,?_⟩
  refine ite2 (fun c=>?_) (fun c=>?_)
  ·have c1:(Txt.split z ".").length=2:=by
    have:=of_decide_eq_true c
    injection this with e
    rw[List.length_map]at e
    omega
   obtain⟨a,b,e⟩:∃a b,Txt.split z "."=[a,b]:=by
    match hh:Txt.split z ".",c1 with
    |[a,b],_=>exact⟨a,b,rfl⟩
   have la:a.length≤z.length:=part_short (y:=".") (by rw[e];simp)
   have lb:b.length≤z.length:=part_short (y:=".") (by rw[e];simp)
   rw[pathB_two e]at q'
   refine⟨_,rfl,l,_,0, .str a,rfl,rfl,SqL.of upd_same,atI_nat (j:=0) (by rw[e];rfl), .str a, .str a,rfl, .str a (by omega),fun H2 e2=>⟨_,rfl,?_⟩⟩
   show if greatB a=true then _ else _
   cases hg:greatB a with
   |false=>
    rw[hg]at q'
    exact iteF (q' H2 (g1.trans e2))
   |true=>
    rw[hg,Bool.true_and]at q'
    refine iteT ⟨_,rfl,l,_,1, .str b,rfl,rfl,SqL.of (e2 _ _ upd_same),atI_nat (j:=1) (by rw[e];rfl), .str b, .str b,rfl, .str b (by omega),fun H3 e3=>q' H3 (g1.trans (e2.trans e3))⟩
  ·have c1:(Txt.split z ".").length≠2:=fun e=>c (by rw[List.length_map,e];rfl)
   rw[pathB_other c1]at q'
   exact q' _ g1
end
end Fw
namespace L2
open PySem PySem.Spec PyProof.Rows
def tFsD (tx ty:TE)(b:Str):TE:=fun σ H Q=>tx σ H fun x H1=>∃t,x=.str t∧t.length≤100000∧ty σ H1 fun y H2=>∃u,y=.str u∧u.length≤100000∧Q (.str (t++b++u)) H2
theorem str_nil_app (t:Str):Str.empty++t=t:=by
 refine Fw.str_ext ?_
 rw[Fw.cps_app]
 rfl
theorem pe_fsD {X:Cx}{e1 e2:Expr}{t1 t2:TE}{a:Str}{j1 p1 p2 p3 pos}(h1:PE X e1 t1)(h2:PE X e2 t2)
  (hev:evalEach [.FormattedValue e2 (-1) none p3] X.env=[eval (.FormattedValue e2 (-1) none p3) X.env]:=by rfl)
  (ha:a.length≤1000:=by decide+kernel):
  PE X (.JoinedStr [.FormattedValue e1 (-1) none p1, .Constant (.str a) j1 p2, .FormattedValue e2 (-1) none p3] pos) (tFsD t1 t2 a):=by
 intro pins s σ H Q I h
 refine PyProof.Rows.JoinedStr_many ?_
 rw[hev]
 have el:∀x y:Str,(x++y).length=x.length+y.length:=fun x y=>strLen_append x y
 have e0:Str.empty.length=0:=rfl
 have sz:∀{n:Nat},n≤300000→n≤sizeLine:=fun h=>Nat.le_trans h (by decide)
 refine PyProof.Rows.joinParts_cons (PyProof.Rows.FormattedValue_plain (thn (h1 pins _ σ H _ I h) fun v s1 ⟨x,H1,I1,r1,t,ex,ht,q1⟩=>?_))
 subst ex
 obtain⟨tt,rfl⟩:=r1
 have l1:(Str.empty++t).length≤100000:=by rw[el,e0];omega
 refine PyProof.Rows.formatField_str (fun t' tk=>⟨sz (by omega),?_⟩) (sz (by omega))
 have l2:(Str.empty++t++a).length≤101000:=by rw[el];omega
 refine PyProof.Rows.joinParts_cons (Calls.Constant_str ⟨sz (by omega),?_⟩)
 refine PyProof.Rows.joinParts_cons (PyProof.Rows.FormattedValue_plain (thn (h2 pins _ σ H1 _ ((I1.tok _).tok _) q1) fun v2 s2 ⟨y,H2,I2,r2,i,ey,hi,q2⟩=>?_))
 subst ey
 obtain⟨tt2,rfl⟩:=r2
 have l3:(Str.empty++t++a++i).length≤202000:=by rw[el];omega
 refine PyProof.Rows.formatField_str (fun t' tk=>⟨sz (by omega),?_⟩) (sz (by omega))
 refine PyProof.Rows.joinParts_nil ?_ (sz (by omega))
 rw[str_nil_app]
 exact⟨.str _,H2,(I2.tok _).tok _,⟨_,rfl⟩,q2⟩
end L2
namespace Fw
open PySem PySem.Spec PyProof.Rows L2
theorem boot_dict':bootBuiltins "dict"=some (.type "dict"):=by decide+kernel
inductive PairsL (H:Hp):List V→List (Str×T)→Prop where
 |nil:PairsL H [] []
 |cons {p:Addr} {z:Str} {v:V} {t:T} {vs:List V} {m:List (Str×T)} (h:H p=some (.tup [.str z,v])) (r:Rep H v t) (q:PairsL H vs m):PairsL H (.ref p::vs) ((z,t)::m)
theorem PairsL.mono {H H':Hp}(e:∀b xs,H b=some (.tup xs)→H' b=some (.tup xs)):∀{vs:List V} {m:List (Str×T)},PairsL H vs m→PairsL H' vs m
 |_,_, .nil=>.nil
 |_,_, .cons h r q=>.cons (e _ _ h) (r.mono e) (q.mono e)
theorem PairsL.snoc {H:Hp}{p:Addr}{z:Str}{v:V}{t:T}(h:H p=some (.tup [.str z,v]))(r:Rep H v t):∀{vs:List V} {m:List (Str×T)},PairsL H vs m→PairsL H (vs++[.ref p]) (m++[(z,t)])
 |_,_, .nil=>.cons h r .nil
 |_,_, .cons h' r' q=>.cons h' r' (q.snoc h r)
theorem PairsL.length {H:Hp}:∀{vs:List V} {m:List (Str×T)},PairsL H vs m→vs.length=m.length
 |_,_, .nil=>rfl
 |_,_, .cons h r q=>by rw[List.length_cons,List.length_cons,q.length]
theorem PairsL.to {H:Hp}:∀{vs:List V} {m:List (Str×T)},PairsL H vs m→∃(ps:List Addr) (kvl:List (Key×V)),vs=ps.map V.ref∧ps.length=kvl.length∧(∀(j:Nat) p kv,ps[j]?=some p→kvl[j]?=some kv→H p=some (.tup [kV kv.1,kv.2]))∧DReps H kvl m∧kvl.map (·.1)=m.map fun x=>(Sum.inr x.1:Key)
 |_,_, .nil=>⟨[],[],rfl,rfl,(fun j p kv h=>by simp at h), .nil,rfl⟩
 |_,_,@PairsL.cons _ p z v t vs m h r q=>by
  obtain⟨ps,kvl,e1,e2,e3,e4,e5⟩:=q.to
  refine⟨p::ps,(Sum.inr z,v)::kvl,by rw[e1];rfl,by rw[List.length_cons,List.length_cons,e2],fun j p' kv h1 h2=>?_, .cons r e4,by rw[List.map_cons,e5];rfl⟩
  cases j with
  |zero=>cases h1;cases h2;exact h
  |succ j=>exact e3 j p' kv h1 h2
theorem mergeK_nd:∀(kvl acc:List (Key×V)),(kvl.map (·.1)).Nodup→(∀kv∈kvl,valV acc kv.1=none)→mergeK acc kvl=acc++kvl
 |[],acc,_,_=>by simp[mergeK]
 |kv::r,acc,nd,h=>by
  rw[List.map_cons,List.nodup_cons]at nd
  show mergeK (putK acc kv.1 kv.2) r=acc++kv::r
  have h0:=h kv (by simp)
  rw[mergeK_nd r _ nd.2 fun kv' hk=>?_,putK_new kv.2 h0,List.append_assoc]
  ·rfl
  ·have ne:kv'.1≠kv.1:=fun z=>nd.1 (z ▸ List.mem_map_of_mem hk)
   rw[valV_put,if_neg ne]
   exact h kv' (by simp[hk])
theorem nodup_keys {m:List (Str×T)}(nd:(m.map (·.1)).Nodup):(m.map fun x=>(Sum.inr x.1:Key)).Nodup:=by
 have e:(m.map fun x=>(Sum.inr x.1:Key))=(m.map (·.1)).map Sum.inr:=by rw[List.map_map];rfl
 rw[e]
 exact List.Pairwise.map _ (fun a b h z=>h (Sum.inr.inj z)) nd
theorem dict_pairs {l:Addr}{vs:List V}{m:List (Str×T)}{H:Hp}{Q:VK}(hl:H l=some (.lst vs))(r:PairsL H vs m)(nd:(m.map (·.1)).Nodup)
  (q:∀p H' kvs,Same H H'→H p=none→H' p=some (.dK kvs)→DReps H' kvs m→Q (.ref p) H'):rDictL [.ref l] H Q:=by
 obtain⟨ps,kvl,rfl,e2,e3,e4,e5⟩:=r.to
 refine⟨l,ps,kvl,rfl,hl,e2,e3,fun p hp=>?_⟩
 have nk:(kvl.map (·.1)).Nodup:=by rw[e5];exact nodup_keys nd
 rw[mergeK_nd kvl [] nk fun kv _=>rfl,List.nil_append]
 have s:=same_new hp (.dK kvl)
 exact q p _ kvl s hp upd_same (e4.mono (Same.tups s))
def txtT:T→Str
 |.str z=>z
 |_=>Str.empty
def sideS (m:List (Str×T))(a:Str):Str:=txtT ((m.lookup a).getD (.str a))
def turnW (m:List (Str×T))(z:Str):Str:=match Txt.split z "." with
 |[a,b]=>sideS m a++"."++b
 |_=>z
def AtomW (z:Str):Prop:=(Txt.split z "."=[z]∧pathB z=false)∨∃a b,Txt.split z "."=[a,b]∧pathB z=true
def NamesM (m:List (Str×T)):Prop:=∀x∈m,∃b:Str,x.2=.str b∧b.length≤80
theorem names_get {H:Hp}{kvs:List (Key×V)}{m:List (Str×T)}(dr:DReps H kvs m)(nm:NamesM m)(z:Str):(valV kvs (Sum.inr z)).getD (.str z)=.str (sideS m z):=by
 rcases dr.get z with ⟨g1,g2⟩|⟨v,t,g1,g2,r⟩
 ·rw[g1]
  unfold sideS
  rw[g2]
  rfl
 ·rw[g1]
  obtain⟨b,hb,_⟩:=nm (z,t) (mem_of_lookup' g2)
  have hb':t=.str b:=hb
  subst hb'
  cases r
  unfold sideS
  rw[g2]
  rfl
theorem side_len {m:List (Str×T)}(nm:NamesM m){z:Str}{n:Nat}(h:z.length≤n):(sideS m z).length≤max n 80:=by
 unfold sideS
 cases g:m.lookup z with
 |none=>show z.length≤_;omega
 |some t=>
  obtain⟨b,hb,hl⟩:=nm (z,t) (mem_of_lookup' g)
  have hb':t=.str b:=hb
  subst hb'
  show b.length≤_
  omega
def spTW:Sp:=fun vs H Q _=>∃(z:Str) (d:Addr) (kvs:List (Key×V)) (m:List (Str×T)),vs=[.str z, .ref d]∧z.length≤1000∧H d=some (.dK kvs)∧DReps H kvs m∧NamesM m∧AtomW z∧∀H',Same H H'→Q (.str (turnW m z)) H'
section
variable {P:Program}{w:World}{K:PySem.W.Frag}{mg:Str→Option Value}{base:Heap}{f:Addr}{fd:FuncData}
abbrev s_tw:Stmt:=top 25
theorem sc_tw:FnScope ["word","by","sides"] ["word","by"] (defScope s_tw):=⟨rfl,rfl,rfl,by decide+kernel,rfl,by decide+kernel,by decide+kernel⟩
theorem dot_len:(".":Str).length=1:=by decide+kernel
theorem ok_tw (F:Fun K "turned_word" "turned_word" s_tw f fd)(h1:Has P w K mg base 4 "is_path" ["thing"] (spT (onStr pathB))):FnOk P w K mg base CX0 5 f fd ["word","by"] spTW:=by
 refine F.ok sc_tw (len:=fun vs H Q E h=>(by obtain⟨z,d,kvs,m,rfl,_⟩:=h;rfl)) (fun cdv A outer s H vs Q E hr h=>?_)
 obtain⟨z,d,kvs,m,rfl,hz,hd,dr,nm,aw,q⟩:=h
 have hu:=hu_of hr
 refine⟨_,pss_cons (ps_if (pt_not (pt_val (pcall h1 hr (by decide) rfl (pa_cons (pv 0) pa_nil)))) (pss_one (ps_ret (pv 0))) pss_nil)
  (pss_cons (ps_set (i:=2) sc_tw.nd rfl (Or.inl rfl) (pe_bm PySem.F.plainAttrs_str PySem.F.slot_str_split PySem.F.type_str_split mt_split (pv 0) (pa_cons pe_str pa_nil)))
  (pss_one (ps_ret (pe_op op_add_str (pe_op op_add_str (pe_dget2 hu (pv 1) (pe_ix (ixL K) (pv 2) pe_int) (pe_ix (ixL K) (pv 2) pe_int) ⟨rfl,rfl,rfl,rfl⟩) pe_str) (pe_ix (ixL K) (pv 2) pe_int))))),?_⟩
 refine⟨_,rfl,_,_,rfl, .str z (by omega),fun H1 s1=>⟨_,rfl,?_⟩⟩
 rcases aw with ⟨e1,e2⟩|⟨a,b,e1,e2⟩
 ·have ew:turnW m z=z:=by unfold turnW;rw[e1]
  rw[ew]at q
  show if(!pathB z)=true then _ else _
  rw[e2]
  exact iteT ⟨_,rfl,q H1 s1⟩
 ·have ew:turnW m z=sideS m a++"."++b:=by unfold turnW;rw[e1]
  rw[ew]at q
  show if(!pathB z)=true then _ else _
  rw[e2]
  have la:a.length≤z.length:=part_short (y:=".") (by rw[e1];simp)
  have lb:b.length≤z.length:=part_short (y:=".") (by rw[e1];simp)
  have lm:=side_len nm (Nat.le_trans la hz)
  refine iteF ⟨_,rfl,rfl,z,".",rfl,rfl,small (by omega),by decide+kernel,small (by rw[e1];show 2≤1000000;decide),fun l hl=>?_⟩
  rw[e1]
  have s2:=same_new hl (.lst ([a,b].map V.str))
  have s12:=s1.trans s2
  have dr2:=dr.mono (Same.tups s12)
  refine⟨_,rfl,d,rfl, .inl ⟨kvs, .inl (s12 _ _ hd)⟩,_,rfl,l,_,0, .str a,rfl,rfl,SqL.of upd_same,atI_nat (j:=0) rfl,_,rfl,l,_,0, .str a,rfl,rfl,SqL.of upd_same,atI_nat (j:=0) rfl,_,DGet.k (k:=Sum.inr a) (s12 _ _ hd),?_⟩
  rw[names_get dr2 nm a]
  refine⟨_,_,rfl,rfl,small (by rw[dot_len];omega),_,rfl,l,_,1, .str b,rfl,rfl,SqL.of upd_same,atI_nat (j:=1) rfl,_,_,rfl,rfl,small (by rw[len_app,dot_len];omega),q _ s12⟩
end
theorem dec_str (a b:Str):decide (V.str a=V.str b)=decide (a=b):=by
 by_cases h:a=b
 ·subst h;simp
 ·rw[decide_eq_false h,decide_eq_false fun z=>h (V.str.inj z)]
theorem Reps.words {H:Hp}:∀{zs:List Str},(∀z∈zs,z.length≤100000)→Reps H (zs.map V.str) (zs.map T.str)
 |[],_=>.nil
 |z::r,h=>.cons (.str z (h z (by simp))) (Reps.words fun y hy=>h y (by simp[hy]))
theorem Reps.words_inv {H:Hp}:∀{zs:List Str} {vs:List V},Reps H vs (zs.map T.str)→vs=zs.map V.str
 |[],_, .nil=>rfl
 |z::r,_, .cons (.str _ _) q=>by rw[q.words_inv];rfl
theorem DReps.zip {H:Hp}:∀{zs:List Str} {vs:List V} {ts:List T},zs.length=ts.length→Reps H vs ts→DReps H ((zs.map Sum.inr).zip vs) (zs.zip ts)
 |[],_,_,_,_=>by simp;exact .nil
 |z::r,_,_,h, .cons rv q=>.cons rv (DReps.zip (Nat.succ.inj h) q)
def gvT (g:Str×T):T:=.tup [.str g.1,g.2]
def spBy:Sp:=fun vs H Q _=>∃(a b:Addr) (xs:List V) (gs:List (Str×T)) (us:List Str),vs=[.ref a, .ref b]∧H a=some (.tup xs)∧Reps H xs (gs.map gvT)∧H b=some (.tup (us.map V.str))∧gs.length=us.length∧gs.length≤100∧(gs.map (·.1)).Nodup∧(∀u∈us,u.length≤80)∧
 ∀p H' kvs,Same H H'→H p=none→H' p=some (.dK kvs)→DReps H' kvs ((gs.map (·.1)).zip (us.map T.str))→Q (.ref p) H'
def spTF:Sp:=fun vs H Q _=>∃(a d:Addr) (z y:Str) (ws:List Str) (kvs:List (Key×V)) (m:List (Str×T)),vs=[.ref a, .ref d]∧H a=some (.tup ((z::y::ws).map V.str))∧H d=some (.dK kvs)∧DReps H kvs m∧NamesM m∧(∀w∈z::y::ws,w.length≤80)∧ws.length≤100∧
 ∀p H',Same H H'→H' p=some (.tup (.str z::(y::ws).map fun w=>.str (sideS m w)))→Q (.ref p) H'
abbrev It3:=Str×Str×T
def itT (i:It3):T:=.tup [.str i.1, .str i.2.1,i.2.2]
def spItems:Sp:=fun vs H Q _=>∃(a:Addr) (xs:List V) (its:List It3) (sort:Str),vs=[.ref a, .str sort]∧H a=some (.tup xs)∧Reps H xs (its.map itT)∧its.length≤1000∧
 ∀p H' ys,Same H H'→H p=none→H' p=some (.lst ys)→Reps H' ys ((its.filter fun i=>decide (i.1=sort)).map itT)→Q (.ref p) H'
def spGiven:Sp:=fun vs H Q _=>∃(a:Addr) (s:Str) (xs:List V) (v:V),vs=[.ref a]∧H a=some (.tup (.str s::xs))∧xs[if s="maker" then 2 else 1]?=some v∧Q v H
abbrev Dc:=Str×Str×List T
def dcT (d:Dc):T:=.tup (.str d.1::.str d.2.1::d.2.2)
def mainT:T:=.tup [.str "main", .int 5]
def byName (ds:List Dc)(sort:Str):List (Str×T):=(ds.filter fun d=>decide (d.1=sort)).map fun d=>(d.2.1,dcT d)
theorem byName_snoc (ds:List Dc)(d:Dc)(sort:Str):byName (ds++[d]) sort=if d.1=sort then byName ds sort++[(d.2.1,dcT d)] else byName ds sort:=by
 unfold byName
 rw[List.filter_append,List.map_append]
 by_cases h:d.1=sort
 ·rw[if_pos h,List.filter_cons,if_pos (decide_eq_true h)];rfl
 ·rw[if_neg h,List.filter_cons,if_neg (by simpa using h)];simp
def spNamed:Sp:=fun vs H Q _=>∃(a:Addr) (xs:List V) (ds:List Dc) (sort:Str),vs=[.ref a, .str sort]∧H a=some (.tup xs)∧Reps H xs (ds.map dcT++[mainT])∧ds.length≤1000∧sort≠"main"∧((byName ds sort).map (·.1)).Nodup∧
 ∀p H' kvs,Same H H'→H p=none→H' p=some (.dK kvs)→DReps H' kvs (byName ds sort)→Q (.ref p) H'
def schT (t:T):T:=.tup [.tup ((stand (pre t)).map T.str),t]
def spClosed:Sp:=fun vs H Q _=>∃v t n,vs=[v]∧Rep H v t∧KD n t∧t.sz≤100000∧∀v' H',Same H H'→Rep H' v' (schT t)→Q v' H'
section
variable {P:Program}{w:World}{K:PySem.W.Frag}{mg:Str→Option Value}{base:Heap}{f:Addr}{fd:FuncData}
abbrev s_by:Stmt:=top 8
theorem sc_by:FnScope ["givers","parts"] ["givers","parts"] (defScope s_by):=⟨rfl,rfl,rfl,by decide+kernel,rfl,by decide+kernel,by decide+kernel⟩
theorem ok_by (F:Fun K "by_givers" "by_givers" s_by f fd)(mD:mg "dict"=none)(mz:mg "zip"=none):FnOk P w K mg base CX0 1 f fd ["givers","parts"] spBy:=by
 refine F.ok sc_by (len:=fun vs H Q E h=>(by obtain⟨a,b,xs,gs,us,rfl,_⟩:=h;rfl)) (fun cdv A outer s H vs Q E hr h=>?_)
 obtain⟨a,b,xs,gs,us,rfl,ha,ra,hb,hl,hl2,nd,hu8,q⟩:=h
 refine⟨_,pss_one (ps_ret (pe_dictZip rfl rfl mD rfl mz boot_dict' (pa_cons (pe_lc (te:=tOp (rIxT K) (tVar 0) (tC (.int 0))) (defScope s_by) ["givers","parts"] [] [] (by decide+kernel) (piT K (pv 0)) (fun C s₀ H₀ ex=>pts_nil) (fun C s₀ H₀ ex=>pe_ix (ixT K) (pv 0) pe_int)) (pa_cons (pv 1) pa_nil)))),?_⟩
 have lx:=ra.length
 rw[List.length_map]at lx
 refine⟨_,rfl,a,rfl,⟨_,SqT.of ha⟩,comp_tup (xs:=xs) (fun i ws H'=>H'=H∧ws=((gs.take i).map (·.1)).map V.str) ⟨rfl,by simp⟩ ?_ ?_ ?_⟩
 ·rintro i ws H' hi ⟨rfl,rfl⟩
  exact⟨SqT.of ha,small' (by rw[List.length_map,List.length_map,List.length_take];omega)⟩
 ·rintro i x ws H' hi hx ⟨rfl,rfl⟩
  obtain⟨t,ht,rt⟩:=ra.at3 hx
  rw[List.getElem?_map]at ht
  cases hg:gs[i]? with
  |none=>rw[hg]at ht;cases ht
  |some g=>
   rw[hg]at ht
   cases ht
   cases rt with
   |@tup c ys _ hc rys=>
    cases rys with
    |@cons v0 _ vr _ r0 rr=>
     cases r0
     refine tt1 (iteT ⟨_,rfl,c,_,0, .str g.1,rfl,rfl,SqT.of hc,atI_nat (j:=0) rfl,nx hi ⟨rfl,?_⟩⟩)
     rw[take_next hg,List.map_append,List.map_append]
     rfl
 ·rintro ws H' ⟨rfl,rfl⟩ l hl0
  rw[lx,List.take_length]
  have s1:=same_new hl0 (.lst ((gs.map (·.1)).map V.str))
  have ek:((gs.map (·.1)).map Sum.inr:List Key).map kV=(gs.map (·.1)).map V.str:=by rw[List.map_map];rfl
  refine⟨_,rfl,true,false,l,b,((gs.map (·.1)).map Sum.inr:List Key),us.map V.str,rfl,by rw[upd_same];show some (HO.lst _)=some (HO.lst _);rw[ek],s1 _ _ hb,by simp[hl],fun p hp=>?_⟩
  have nk:((((gs.map (·.1)).map Sum.inr:List Key).zip (us.map V.str)).map (·.1)).Nodup:=by
   rw[List.map_fst_zip (by simp[hl])]
   exact List.Pairwise.map _ (fun a b h z=>h (Sum.inr.inj z)) nd
  rw[mergeK_nd _ [] nk fun kv _=>rfl,List.nil_append]
  have s2:=same_new hp (.dK (((gs.map (·.1)).map Sum.inr:List Key).zip (us.map V.str)))
  exact q p _ _ (s1.trans s2) (s1.free hp) upd_same (DReps.zip (by simp[hl]) (Reps.words fun u hu'=>by have:=hu8 u hu';omega))
abbrev s_tf:Stmt:=top 24
theorem sc_tf:FnScope ["given","by","words"] ["given","by"] (defScope s_tf):=⟨rfl,rfl,rfl,by decide+kernel,rfl,by decide+kernel,by decide+kernel⟩
set_option maxHeartbeats 1000000 in
theorem ok_tf (F:Fun K "turned_face" "turned_face" s_tf f fd)(mt:mg "tuple"=none)(h1:Has P w K mg base 1 "headed" ["thing"] spHeaded):FnOk P w K mg base CX0 2 f fd ["given","by"] spTF:=by
 refine F.ok sc_tf (len:=fun vs H Q E h=>(by obtain⟨a,d,z,y,ws,kvs,m,rfl,_⟩:=h;rfl)) (fun cdv A outer s H vs Q E hr h=>?_)
 obtain⟨a,d,z,y,ws,kvs,m,rfl,ha,hd,dr,nm,hw,hl,q⟩:=h
 have hu:=hu_of hr
 refine⟨_,pss_cons (pset 2 sc_tf.nd (pcall h1 hr (by decide) rfl (pa_cons (pv 0) pa_nil)))
  (pss_one (ps_ret (pe_op (catT K) (pe_slice sl_tup (pv 2) po_none (po_some pe_int)) (pe_callTy (ctup K) rfl mt boot_tuple (pa_cons
   (pe_lc (te:=tDGet2 (tVar 1) (tVar 0) (tVar 0)) (defScope s_tf) ["given","by","words"] ["by"] [1] (by decide+kernel) (piT K (pe_slice sl_tup (pv 2) (po_some pe_int) po_none)) (fun C s₀ H₀ ex=>pts_nil)
    (fun C s₀ H₀ ex=>by exact pe_dget2 hu (pv 1) (pv 0) (pv 0) ⟨rfl,rfl,rfl,rfl⟩)) pa_nil))))),?_⟩
 have rt:Rep H (.ref a) (.tup ((z::y::ws).map T.str)):=.tup ha (Reps.words fun u hu'=>by have:=hw u hu';omega)
 refine⟨_,rfl,_,_,rfl,rt,fun b xs H1 s1 hb rb=>?_⟩
 have exs:xs=(z::y::ws).map V.str:=Reps.words_inv rb
 subst exs
 refine⟨_,rfl,1,rfl,b,_,rfl,SqT.of hb,cut_head_not (.str z) ((y::ws).map V.str) (by simp),fun p1 hp1=>?_⟩
 rw[show((z::y::ws).map V.str)=V.str z::(y::ws).map V.str from rfl,cut_head (.str z) ((y::ws).map V.str) (by simp)]
 obtain⟨H2,eH2,s2,hp12⟩:=nw hp1 (.tup [V.str z])
 rw[eH2]
 refine⟨_,rfl,1,rfl,b,_,rfl,SqT.of (s2 _ _ hb),cutq_not (vs:=(z::y::ws).map V.str) (n:=1) (by simp) (Nat.le_refl _),fun p2 hp2=>?_⟩
 have ec:cutV ((z::y::ws).map V.str) (some 1) none=(y::ws).map V.str:=cutq ((z::y::ws).map V.str) 1
 rw[ec]
 obtain⟨H3,eH3,s3,hp23⟩:=nw hp2 (.tup ((y::ws).map V.str))
 rw[eH3]
 have s13:=(s1.trans s2).trans s3
 have dr3:=dr.mono (Same.tups s13)
 refine⟨p2,rfl,⟨_,SqT.of hp23⟩,comp_tup (xs:=(y::ws).map V.str) (fun i us H'=>H'=H3∧us=((y::ws).take i).map fun w=>V.str (sideS m w)) ⟨rfl,by simp⟩ ?_ ?_ ?_⟩
 ·rintro i us H' hi ⟨rfl,rfl⟩
  exact⟨SqT.of hp23,small' (by rw[List.length_map,List.length_take];simp;omega)⟩
 ·rintro i x us H' hi hx ⟨rfl,rfl⟩
  rw[List.getElem?_map]at hx
  cases hg:(y::ws)[i]? with
  |none=>rw[hg]at hx;cases hx
  |some u=>
   rw[hg]at hx
   cases hx
   refine tt1 (iteT ⟨_,rfl,d,rfl, .inl ⟨kvs, .inl (s13 _ _ hd)⟩,_,rfl,_,rfl,_,DGet.k (k:=Sum.inr u) (s13 _ _ hd),?_⟩)
   rw[names_get dr3 nm u]
   refine nx hi ⟨rfl,?_⟩
   rw[take_next hg,List.map_append]
   rfl
 ·rintro us H' ⟨rfl,rfl⟩ l hl0
  rw[List.length_map,List.take_length]
  obtain⟨H4,eH4,s4,hl4⟩:=nw hl0 (.lst ((y::ws).map fun w=>V.str (sideS m w)))
  rw[eH4]
  refine⟨l,_,rfl, .inl ⟨SqL.of hl4,fun p4 hp4=>?_⟩⟩
  obtain⟨H5,eH5,s5,hp45⟩:=nw hp4 (.tup ((y::ws).map fun w=>V.str (sideS m w)))
  rw[eH5]
  refine catT_one (s5 _ _ (s4 _ _ (s3 _ _ hp12))) hp45 (by simp;omega) fun p H6 s6 hp=>?_
  have s36:=(s4.trans s5).trans s6
  exact q p H6 (s13.trans s36) hp
abbrev s_items:Stmt:=top 5
theorem sc_items:FnScope ["items","sort"] ["items","sort"] (defScope s_items):=⟨rfl,rfl,rfl,by decide+kernel,rfl,by decide+kernel,by decide+kernel⟩
theorem items_snoc (its:List It3)(i:It3)(sort:Str):((its++[i]).filter fun i=>decide (i.1=sort)).map itT=if i.1=sort then(its.filter fun i=>decide (i.1=sort)).map itT++[itT i] else(its.filter fun i=>decide (i.1=sort)).map itT:=by
 rw[List.filter_append,List.map_append]
 by_cases h:i.1=sort
 ·rw[if_pos h,List.filter_cons,if_pos (decide_eq_true h)];rfl
 ·rw[if_neg h,List.filter_cons,if_neg (by simpa using h)];simp
set_option maxHeartbeats 1000000 in
theorem ok_items (F:Fun K "items_of" "items_of" s_items f fd):FnOk P w K mg base CX0 1 f fd ["items","sort"] spItems:=by
 refine F.ok sc_items (len:=fun vs H Q E h=>(by obtain⟨a,xs,its,sort,rfl,_⟩:=h;rfl)) (fun cdv A outer s H vs Q E hr h=>?_)
 obtain⟨a,xs,its,sort,rfl,ha,ra,hl,q⟩:=h
 refine⟨_,pss_one (ps_ret (pe_lc (defScope s_items) ["items","sort"] ["sort"] [1] (by decide+kernel) (piT K (pv 0)) (fun C s₀ H₀ ex=>pts_one (pt_cmpR op_eq (pe_ix (ixT K) (pv 0) pe_int) (pv 1))) (fun C s₀ H₀ ex=>pv 0))),?_⟩
 have lx:=ra.length
 rw[List.length_map]at lx
 refine⟨_,rfl,a,rfl,⟨_,SqT.of ha⟩,comp_tup (xs:=xs) (fun i ws H'=>H'=H∧Reps H ws (((its.take i).filter fun i=>decide (i.1=sort)).map itT)) ⟨rfl,by simp;exact .nil⟩ ?_ ?_ ?_⟩
 ·rintro i ws H' hi ⟨rfl,rw'⟩
  refine⟨SqT.of ha,small' ?_⟩
  have h1:=rw'.length
  rw[List.length_map]at h1
  have h2:=List.length_filter_le (fun i:It3=>decide (i.1=sort)) (its.take i)
  rw[List.length_take]at h2
  omega
 ·rintro i x ws H' hi hx ⟨rfl,rw'⟩
  obtain⟨t,ht,rt⟩:=ra.at3 hx
  rw[List.getElem?_map]at ht
  cases hg:its[i]? with
  |none=>rw[hg]at ht;cases ht
  |some g=>
   rw[hg]at ht
   cases ht
   have rt0:=rt
   cases rt with
   |@tup c ys _ hc rys=>
    cases rys with
    |@cons v0 _ vr _ r0 rr=>
     cases r0
     refine⟨_,rfl,c,_,0, .str g.1,rfl,rfl,SqT.of hc,atI_nat (j:=0) rfl,_,rfl,rfl,_,rfl,?_⟩
     rw[dec_str,take_next hg,items_snoc]
     by_cases e:g.1=sort
     ·rw[decide_eq_true e,if_pos e]
      exact iteT ⟨_,rfl,nx hi ⟨rfl,rw'.append (.cons rt0 .nil)⟩⟩
     ·rw[decide_eq_false e,if_neg e]
      exact iteF (nx hi ⟨rfl,rw'⟩)
 ·rintro ws H' ⟨rfl,rw'⟩ l hl0
  rw[lx,List.take_length]at rw'
  have s1:=same_new hl0 (.lst ws)
  exact q l _ ws s1 hl0 upd_same (rw'.same s1)
abbrev s_gf:Stmt:=top 6
theorem sc_gf:FnScope ["declaration"] ["declaration"] (defScope s_gf):=⟨rfl,rfl,rfl,by decide+kernel,rfl,by decide+kernel,by decide+kernel⟩
theorem ok_gf (F:Fun K "given_face" "given_face" s_gf f fd):FnOk P w K mg base CX0 1 f fd ["declaration"] spGiven:=by
 refine F.ok sc_gf (len:=fun vs H Q E h=>(by obtain⟨a,s,xs,v,rfl,_⟩:=h;rfl)) (fun cdv A outer s H vs Q E hr h=>?_)
 obtain⟨a,y,xs,v,rfl,ha,hv,q⟩:=h
 refine⟨_,pss_one (ps_ret (pe_ifExp (pt_cmpR op_eq (pe_ix (ixT K) (pv 0) pe_int) pe_str) (pe_ix (ixT K) (pv 0) pe_int) (pe_ix (ixT K) (pv 0) pe_int))),?_⟩
 refine⟨_,rfl,a,_,0, .str y,rfl,rfl,SqT.of ha,atI_nat (j:=0) rfl,rfl,_,rfl,?_⟩
 rw[dec_str]
 by_cases e:y="maker"
 ·rw[if_pos e]at hv
  rw[decide_eq_true e]
  exact iteT ⟨_,rfl,a,_,3,v,rfl,rfl,SqT.of ha,atI_nat (j:=3) hv,q⟩
 ·rw[if_neg e]at hv
  rw[decide_eq_false e]
  exact iteF ⟨_,rfl,a,_,2,v,rfl,rfl,SqT.of ha,atI_nat (j:=2) hv,q⟩
abbrev s_named:Stmt:=top 7
theorem sc_named:FnScope ["program","sort"] ["program","sort"] (defScope s_named):=⟨rfl,rfl,rfl,by decide+kernel,rfl,by decide+kernel,by decide+kernel⟩
set_option maxHeartbeats 1000000 in
theorem ok_named (F:Fun K "named" "named" s_named f fd)(mD:mg "dict"=none):FnOk P w K mg base CX0 1 f fd ["program","sort"] spNamed:=by
 refine F.ok sc_named (len:=fun vs H Q E h=>(by obtain⟨a,xs,ds,sort,rfl,_⟩:=h;rfl)) (fun cdv A outer s H vs Q E hr h=>?_)
 obtain⟨a,xs,ds,sort,rfl,ha,ra,hl,ns,nd,q⟩:=h
 refine⟨_,pss_one (ps_ret (pe_callTy (call_dict_l rfl) rfl mD boot_dict' (pa_cons (pe_lc (te:=tTup (tCons (tOp (rIxT K) (tVar 0) (tC (.int 1))) (tCons (tVar 0) tNil))) (defScope s_named) ["program","sort"] ["sort"] [1] (by decide+kernel) (piT K (pv 0))
  (fun C s₀ H₀ ex=>pts_one (pt_cmpR op_eq (pe_ix (ixT K) (pv 0) pe_int) (pv 1))) (fun C s₀ H₀ ex=>pe_tup (pa_cons (pe_ix (ixT K) (pv 0) pe_int) (pa_cons (pv 0) pa_nil)))) pa_nil))),?_⟩
 have lx:=ra.length
 rw[List.length_append,List.length_map]at lx
 have lx':xs.length=ds.length+1:=lx
 refine⟨_,rfl,a,rfl,⟨_,SqT.of ha⟩,comp_tup (xs:=xs) (fun i ws H'=>Same H H'∧PairsL H' ws (byName (ds.take i) sort)) ⟨Same.refl _,by simp[byName];exact .nil⟩ ?_ ?_ ?_⟩
 ·rintro i ws H' hi ⟨s1,r⟩
  refine⟨SqT.of (s1 _ _ ha),small' ?_⟩
  have h1:=r.length
  unfold byName at h1
  rw[List.length_map]at h1
  have h2:=List.length_filter_le (fun d:Dc=>decide (d.1=sort)) (ds.take i)
  rw[List.length_take]at h2
  omega
 ·rintro i x ws H' hi hx ⟨s1,r⟩
  obtain⟨t,ht,rt⟩:=ra.at3 hx
  by_cases hi2:i<ds.length
  ·rw[List.getElem?_append_left (by rw[List.length_map];exact hi2),List.getElem?_map]at ht
   cases hg:ds[i]? with
   |none=>rw[hg]at ht;cases ht
   |some d=>
    rw[hg]at ht
    cases ht
    have rt0:=rt.same s1
    cases rt with
    |@tup c ys _ hc rys=>
     cases rys with
     |@cons v0 _ vr _ r0 rr=>
      cases rr with
      |@cons v1 _ vr2 _ r1 rr=>
       cases r0
       cases r1
       refine⟨_,rfl,c,_,0, .str d.1,rfl,rfl,SqT.of (s1 _ _ hc),atI_nat (j:=0) rfl,_,rfl,rfl,_,rfl,?_⟩
       rw[dec_str,take_next hg,byName_snoc]
       by_cases e:d.1=sort
       ·rw[decide_eq_true e,if_pos e]
        refine iteT ⟨_,rfl,c,_,1, .str d.2.1,rfl,rfl,SqT.of (s1 _ _ hc),atI_nat (j:=1) rfl,_,rfl,sml 2,fun p hp=>?_⟩
        have s2:=same_new hp (.tup [.str d.2.1, .ref c])
        exact nx hi ⟨s1.trans s2,(r.mono (Same.tups s2)).snoc upd_same (rt0.same s2)⟩
       ·rw[decide_eq_false e,if_neg e]
        exact iteF (nx hi ⟨s1,r⟩)
  ·have ei:i=ds.length:=by omega
   subst ei
   rw[List.getElem?_append_right (by rw[List.length_map];exact Nat.le_refl _),List.length_map,Nat.sub_self]at ht
   cases ht
   cases rt with
   |@tup c ys _ hc rys=>
    cases rys with
    |@cons v0 _ vr _ r0 rr=>
     cases r0
     refine⟨_,rfl,c,_,0, .str "main",rfl,rfl,SqT.of (s1 _ _ hc),atI_nat (j:=0) rfl,_,rfl,rfl,_,rfl,?_⟩
     rw[dec_str,decide_eq_false (fun z=>ns z.symm)]
     refine iteF (nx hi ⟨s1,?_⟩)
     rw[List.take_of_length_le (by omega)]
     rw[List.take_of_length_le (Nat.le_refl _)]at r
     exact r
 ·rintro ws H' ⟨s1,r⟩ l hl0
  rw[List.take_of_length_le (by omega)]at r
  have s2:=same_new hl0 (.lst ws)
  exact dict_pairs upd_same (r.mono (Same.tups s2)) nd fun p H2 kvs s3 hp h2 dr=>q p H2 kvs ((s1.trans s2).trans s3) ((s1.trans s2).free hp) h2 dr
abbrev s_closed:Stmt:=top 26
theorem sc_closed:FnScope ["kind"] ["kind"] (defScope s_closed):=⟨rfl,rfl,rfl,by decide+kernel,rfl,by decide+kernel,by decide+kernel⟩
theorem stand_len (acc:List Str){n:Nat}:∀ts:List T,(∀y∈acc,y.length≤n)→(∀t∈ts,∀z,t=.str z→z.length≤n)→∀y∈ts.foldl stand1 acc,y.length≤n
 |[],h,_=>h
 |t::r,h,k=>by
  refine stand_len _ r (fun y hy=>?_) fun t' h'=>k t' (by simp[h'])
  cases t with
  |int i=>exact h y hy
  |tup l=>exact h y hy
  |str z=>
   unfold stand1 at hy
   dsimp only at hy
   split at hy
   ·split at hy
    ·exact h y hy
    ·rcases List.mem_append.mp hy with q|q
     ·exact h y q
     ·rw[List.mem_singleton.mp q];exact k (.str z) (by simp) z rfl
   ·exact h y hy
theorem stand_short {n:Nat}{t:T}(k:KD n t):∀y∈stand (pre t),y.length≤80:=by
 refine stand_len [] (pre t) (fun y h=>by cases h) fun t' h' z e=>?_
 obtain⟨n',k'⟩:=kd_pre k t' h'
 subst e
 cases k' with
 |leaf h=>exact h
theorem ok_closed (F:Fun K "closed" "closed" s_closed f fd)(mt:mg "tuple"=none)(h1:Has P w K mg base 2 "variables" ["kind"] spVars):FnOk P w K mg base CX0 3 f fd ["kind"] spClosed:=by
 refine F.ok sc_closed (len:=fun vs H Q E h=>(by obtain⟨v,t,n,rfl,_⟩:=h;rfl)) (fun cdv A outer s H vs Q E hr h=>?_)
 obtain⟨v,t,n,rfl,rt,kt,hz,q⟩:=h
 refine⟨_,pss_one (ps_ret (pe_tup (pa_cons (pe_callTy (ctup K) rfl mt boot_tuple (pa_cons (pcall h1 hr (by decide) rfl (pa_cons (pv 0) pa_nil)) pa_nil)) (pa_cons (pv 0) pa_nil)))),?_⟩
 refine⟨_,rfl,v,t,n,rfl,rt,kt,hz,fun l H1 s1 hl0 hl1 hlen=>⟨l,_,rfl, .inl ⟨SqL.of hl1,fun p1 hp1=>?_⟩⟩⟩
 obtain⟨H2,eH2,s2,hp12⟩:=nw hp1 (.tup ((stand (pre t)).map V.str))
 rw[eH2]
 refine⟨_,rfl,sml 2,fun p hp=>?_⟩
 have s3:=same_new hp (.tup [.ref p1,v])
 have s13:=(s1.trans s2).trans s3
 exact q _ _ s13 (.tup upd_same (.cons (.tup (s3 _ _ hp12) (Reps.words fun y hy=>by have:=stand_short kt y hy;omega)) (.cons (rt.same s13) .nil)))
end
def ffl (d1 d2 d3:Addr):List (Str×V):=[("face_declarations", .ref d1),("maker_declarations", .ref d2),("part_faces", .ref d3)]
structure TxC (K:PySem.W.Frag)(C:Addr):Prop where
 cs:Cls K C
 n1:NoAttr K C "face_declarations"
 n2:NoAttr K C "maker_declarations"
 n3:NoAttr K C "part_faces"
theorem ff1 {d1 d2 d3:Addr}:(ffl d1 d2 d3).lookup ("face_declarations":Str)=some (V.ref d1):=by first|rfl|(with_unfolding_all rfl)|kernel_rfl
theorem ff2 {d1 d2 d3:Addr}:(ffl d1 d2 d3).lookup ("maker_declarations":Str)=some (V.ref d2):=by first|rfl|(with_unfolding_all rfl)|kernel_rfl
theorem ff3 {d1 d2 d3:Addr}:(ffl d1 d2 d3).lookup ("part_faces":Str)=some (V.ref d3):=by first|rfl|(with_unfolding_all rfl)|kernel_rfl
def DictL (H:Hp)(d:Addr)(m:List (Str×T)):Prop:=∃kvs,H d=some (.dK kvs)∧DReps H kvs m
theorem DictL.same {H H':Hp}{d:Addr}{m:List (Str×T)}(h:DictL H d m)(s:Same H H'):DictL H' d m:=let ⟨k,a,b⟩:=h;⟨k,s _ _ a,b.mono (Same.tups s)⟩
theorem DictL.get {H:Hp}{d:Addr}{m:List (Str×T)}{z:Str}{t:T}(h:DictL H d m)(e:m.lookup z=some t):∃v,DGet H d (.str z) (some v)∧Rep H v t:=by
 obtain⟨kvs,hd,dr⟩:=h
 rcases dr.get z with ⟨_,g2⟩|⟨v,t',g1,g2,r⟩
 ·rw[g2]at e;cases e
 ·rw[g2]at e;cases e
  have:=DGet.k (k:=Sum.inr z) hd
  rw[g1]at this
  exact⟨v,this,r⟩
structure FcL (C:Addr)(H:Hp)(s:Addr)(fm mm pm:List (Str×T)):Prop where
 ob:∃dx d1 d2 d3,H s=some (.ins C dx (ffl d1 d2 d3))∧DictL H d1 fm∧DictL H d2 mm∧DictL H d3 pm
theorem FcL.same {C s:Addr}{H H':Hp}{fm mm pm:List (Str×T)}(h:FcL C H s fm mm pm)(e:Same H H'):FcL C H' s fm mm pm:=by
 obtain⟨dx,d1,d2,d3,h0,h1,h2,h3⟩:=h.ob
 exact⟨dx,d1,d2,d3,e _ _ h0,h1.same e,h2.same e,h3.same e⟩
def spFaceOf (C:Addr):Sp:=fun vs H Q _=>∃(s:Addr) (z:Str) (fm mm pm:List (Str×T)) (t:T),vs=[.ref s, .str z]∧FcL C H s fm mm pm∧pm.lookup z=some t∧∀v,Rep H v t→Q v H
def spGivers (C:Addr):Sp:=fun vs H Q _=>∃(s:Addr) (z:Str) (fm mm pm:List (Str×T)) (a b t:T) (r:List T),vs=[.ref s, .str z]∧FcL C H s fm mm pm∧fm.lookup z=some (.tup (a::b::t::r))∧∀v,Rep H v t→Q v H
def itemsM (its:List It3)(sort:Str):List (Str×T):=(its.filter fun i=>decide (i.1=sort)).map fun i=>(i.2.1,i.2.2)
def spItemsOf (C:Addr):Sp:=fun vs H Q _=>∃(s:Addr) (z sort:Str) (fm mm pm:List (Str×T)) (a b t:T) (its:List It3),vs=[.ref s, .str z, .str sort]∧FcL C H s fm mm pm∧fm.lookup z=some (.tup (a::b::t::its.map itT))∧its.length≤1000∧((itemsM its sort).map (·.1)).Nodup∧
 ∀p H',Same H H'→H p=none→DictL H' p (itemsM its sort)→Q (.ref p) H'
section
variable {P:Program}{w:World}{K:PySem.W.Frag}{mg:Str→Option Value}{base:Heap}{f C:Addr}{fd:FuncData}
abbrev s_fo:Stmt:=inClass (top 27) 2
abbrev s_gv:Stmt:=inClass (top 27) 3
abbrev s_io:Stmt:=inClass (top 27) 5
theorem sc_fo:FnScope ["self","part"] ["self","part"] (defScope s_fo):=⟨rfl,rfl,rfl,by decide+kernel,rfl,by decide+kernel,by decide+kernel⟩
theorem sc_gv:FnScope ["self","name"] ["self","name"] (defScope s_gv):=⟨rfl,rfl,rfl,by decide+kernel,rfl,by decide+kernel,by decide+kernel⟩
theorem sc_io:FnScope ["self","name","sort","items"] ["self","name","sort"] (defScope s_io):=⟨rfl,rfl,rfl,by decide+kernel,rfl,by decide+kernel,by decide+kernel⟩
theorem ok_fo (F:Fun K "face_of" "Faces.face_of" s_fo f fd)(Tx:TxC K C):FnOk P w K mg base CX0 1 f fd ["self","part"] (spFaceOf C):=by
 refine F.ok sc_fo (len:=fun vs H Q E h=>(by obtain⟨s,z,fm,mm,pm,t,rfl,_⟩:=h;rfl)) (fun cdv A outer s0 H vs Q E hr h=>?_)
 obtain⟨s,z,fm,mm,pm,t,rfl,L,e,q⟩:=h
 have hu:=hu_of hr
 refine⟨_,pss_one (ps_ret (pe_dget hu (fldK K (pv 0) rfl) (pv 1) (fun _ _=>rfl))),?_⟩
 obtain⟨dx,d1,d2,d3,h0,h1,h2,h3⟩:=L.ob
 obtain⟨v,g,r⟩:=h3.get e
 exact⟨_,rfl,s,C,dx,_,_,rfl,h0,Tx.cs,Tx.n3,ff3,_,rfl,d3,v,rfl,g,q v r⟩
theorem ok_gv (F:Fun K "givers_of_face" "Faces.givers_of_face" s_gv f fd)(Tx:TxC K C):FnOk P w K mg base CX0 1 f fd ["self","name"] (spGivers C):=by
 refine F.ok sc_gv (len:=fun vs H Q E h=>(by obtain⟨s,z,fm,mm,pm,a,b,t,r,rfl,_⟩:=h;rfl)) (fun cdv A outer s0 H vs Q E hr h=>?_)
 obtain⟨s,z,fm,mm,pm,a,b,t,r,rfl,L,e,q⟩:=h
 have hu:=hu_of hr
 refine⟨_,pss_one (ps_ret (pe_ix (ixT K) (pe_dget hu (fldK K (pv 0) rfl) (pv 1) (fun _ _=>rfl)) pe_int)),?_⟩
 obtain⟨dx,d1,d2,d3,h0,h1,h2,h3⟩:=L.ob
 obtain⟨v,g,rv⟩:=h1.get e
 cases rv with
 |@tup c ys _ hc rys=>
  cases rys with
  |@cons v0 _ vr0 _ r0 rr0=>
   cases rr0 with
   |@cons v1 _ vr1 _ r1 rr1=>
    cases rr1 with
    |@cons v2 _ vr2 _ r2 rr2=>
     exact⟨_,rfl,s,C,dx,_,_,rfl,h0,Tx.cs,Tx.n1,ff1,_,rfl,d1, .ref c,rfl,g,c,_,2,v2,rfl,rfl,SqT.of hc,atI_nat (j:=2) rfl,q v2 r2⟩
theorem its_drop (H:Hp){c:Addr}{ys:List V}{a b t:T}{ts:List T}(hc:H c=some (.tup ys))(r:Reps H ys (a::b::t::ts)):∃zs,cutV ys (some 3) none=zs∧Reps H zs ts∧ys.length=zs.length+3:=by
 have e:cutV ys (some 3) none=ys.drop 3:=cutq ys 3
 have l:=r.length
 exact⟨_,e,r.drop' 3,by rw[List.length_drop,l];simp⟩
set_option maxHeartbeats 1000000 in
theorem ok_io (F:Fun K "items_of_face" "Faces.items_of_face" s_io f fd)(Tx:TxC K C)(mD:mg "dict"=none)(h1:Has P w K mg base 1 "items_of" ["items","sort"] spItems):FnOk P w K mg base CX0 2 f fd ["self","name","sort"] (spItemsOf C):=by
 refine F.ok sc_io (len:=fun vs H Q E h=>(by obtain⟨s,z,sort,fm,mm,pm,a,b,t,its,rfl,_⟩:=h;rfl)) (fun cdv A outer s0 H vs Q E hr h=>?_)
 obtain⟨s,z,sort,fm,mm,pm,a,b,t,its,rfl,L,e,hl,nd,q⟩:=h
 have hu:=hu_of hr
 refine⟨_,pss_cons (pset 3 sc_io.nd (pcall h1 hr (by decide) rfl (pa_cons (pe_slice sl_tup (pe_dget hu (fldK K (pv 0) rfl) (pv 1) (fun _ _=>rfl)) (po_some pe_int) po_none) (pa_cons (pv 2) pa_nil))))
  (pss_one (ps_ret (pe_callTy (call_dict_l rfl) rfl mD boot_dict' (pa_cons (pe_lc (te:=tTup (tCons (tOp (rIxT K) (tVar 0) (tC (.int 1))) (tCons (tOp (rIxT K) (tVar 0) (tC (.int 2))) tNil))) (defScope s_io) ["self","name","sort","items"] [] [] (by decide+kernel) (piL K (pv 3))
   (fun C s₀ H₀ ex=>pts_nil) (fun C s₀ H₀ ex=>pe_tup (pa_cons (pe_ix (ixT K) (pv 0) pe_int) (pa_cons (pe_ix (ixT K) (pv 0) pe_int) pa_nil)))) pa_nil)))),?_⟩
 obtain⟨dx,d1,d2,d3,h0,h1',h2,h3⟩:=L.ob
 obtain⟨v,g,rv⟩:=h1'.get e
 cases rv with
 |@tup c ys _ hc rys=>
  obtain⟨zs,ez,rz,lz⟩:=its_drop H hc rys
  refine⟨_,rfl,s,C,dx,_,_,rfl,h0,Tx.cs,Tx.n1,ff1,_,rfl,d1, .ref c,rfl,g,3,rfl,c,ys,rfl,SqT.of hc,cutq_not (vs:=ys) (n:=3) (fun e=>by rw[e]at lz;simp at lz) (by decide),fun p1 hp1=>?_⟩
  rw[ez]
  obtain⟨H1,eH1,s1,hp11⟩:=nw hp1 (.tup zs)
  rw[eH1]
  refine⟨_,rfl,p1,zs,its,sort,rfl,hp11,rz.same s1,hl,fun l H2 ws s2 hl0 hl2 rw2=>?_⟩
  have lw:=rw2.length
  rw[List.length_map]at lw
  refine⟨_,rfl,l,rfl,⟨_,SqL.of hl2⟩,comp_lst (xs:=ws) (fun i us H'=>Same H2 H'∧PairsL H' us (((its.filter fun i=>decide (i.1=sort)).take i).map fun i=>(i.2.1,i.2.2))) ⟨Same.refl _,by simp;exact .nil⟩ ?_ ?_ ?_⟩
  ·rintro i us H' hi ⟨s3,r⟩
   refine⟨SqL.of (s3 _ _ hl2),small' ?_⟩
   have:=r.length
   rw[List.length_map,List.length_take]at this
   have h2:=List.length_filter_le (fun i:It3=>decide (i.1=sort)) its
   omega
  ·rintro i x us H' hi hx ⟨s3,r⟩
   obtain⟨t',ht,rt⟩:=rw2.at3 hx
   rw[List.getElem?_map]at ht
   cases hg:(its.filter fun i=>decide (i.1=sort))[i]? with
   |none=>rw[hg]at ht;cases ht
   |some y=>
    rw[hg]at ht
    cases ht
    cases rt with
    |@tup b' ys' _ hb' rys'=>
     cases rys' with
     |@cons v0 _ vr0 _ r0 rr0=>
      cases rr0 with
      |@cons v1 _ vr1 _ r1 rr1=>
       cases rr1 with
       |@cons v2 _ vr2 _ r2 rr2=>
        cases r1
        have hb3:=s3 _ _ hb'
        refine tt1 (iteT ⟨_,rfl,b',_,1, .str y.2.1,rfl,rfl,SqT.of hb3,atI_nat (j:=1) rfl,_,rfl,b',_,2,v2,rfl,rfl,SqT.of hb3,atI_nat (j:=2) rfl,sml 2,fun p hp=>?_⟩)
        have s4:=same_new hp (.tup [.str y.2.1,v2])
        refine nx hi ⟨s3.trans s4,?_⟩
        rw[take_next hg,List.map_append]
        exact(r.mono (Same.tups s4)).snoc upd_same ((r2.same s3).same s4)
  ·rintro us H' ⟨s3,r⟩ l2 hl2'
   rw[List.take_of_length_le (by omega)]at r
   have s4:=same_new hl2' (.lst us)
   exact dict_pairs upd_same (r.mono (Same.tups s4)) nd fun p H3 kvs s5 hp h3 dr=>q p H3 ((((s1.trans s2).trans s3).trans s4).trans s5) ((((s1.trans s2).trans s3).trans s4).free hp) ⟨kvs,h3,dr⟩
end
theorem Reps.texts {H:Hp}:∀{us:List Str} {vs:List V},Reps H vs (us.map T.str)→vs=us.map V.str:=Reps.words_inv
def apT (gs:List (Str×T))(us:List Str)(z y:Str)(ws:List Str):T:=.tup (.str z::(y::ws).map fun w=>.str (sideS ((gs.map (·.1)).zip (us.map T.str)) w))
inductive DOk (mm:List (Str×T)):Dc→Option (Str×T)→Prop where
 |part {n:Str} {t:T} {r:List T}:DOk mm ("part",n,t::r) (some (n, .tup (hdT t)))
 |app {n k:Str} {us:List Str} {gs:List (Str×T)} {z y:Str} {ws:List Str} {r:List T} (h:mm.lookup k=some (.tup (.str "maker"::.str k::.tup (gs.map gvT)::.tup ((z::y::ws).map T.str)::r))) (h1:gs.length=us.length) (h2:gs.length≤100)
  (h3:(gs.map (·.1)).Nodup) (h4:∀u∈us,u.length≤80) (h5:∀u∈z::y::ws,u.length≤80) (h6:ws.length≤100):DOk mm ("apply",n, .str k::us.map T.str) (some (n,apT gs us z y ws))
 |other {s n:Str} {r:List T} (h1:s≠"part") (h2:s≠"apply"):DOk mm (s,n,r) none
def spApplied (C:Addr):Sp:=fun vs H Q _=>∃(s a d1 d2 d3 dx:Addr) (n k:Str) (us:List Str) (gs:List (Str×T)) (z y:Str) (ws:List Str) (r:List T) (mm:List (Str×T)) (fs:List (Str×V)),vs=[.ref s, .ref a]∧H s=some (.ins C dx fs)∧fs.lookup ("maker_declarations":Str)=some (V.ref d2)∧DictL H d2 mm∧Rep H (.ref a) (dcT ("apply",n, .str k::us.map T.str))∧
 mm.lookup k=some (.tup (.str "maker"::.str k::.tup (gs.map gvT)::.tup ((z::y::ws).map T.str)::r))∧gs.length=us.length∧gs.length≤100∧(gs.map (·.1)).Nodup∧(∀u∈us,u.length≤80)∧(∀u∈z::y::ws,u.length≤80)∧ws.length≤100∧
 ∀v H',Same H H'→Rep H' v (apT gs us z y ws)→Q v H'
theorem names_zip {zs us:List Str}(h:∀u∈us,u.length≤80):NamesM (zs.zip (us.map T.str)):=fun x hx=>by
 have:=(List.of_mem_zip (a:=x.1) (b:=x.2) hx).2
 obtain⟨u,hu,e⟩:=List.mem_map.mp this
 exact⟨u,e.symm,h u hu⟩
theorem apT_rep {H:Hp}{gs:List (Str×T)}{us:List Str}{z y:Str}{ws:List Str}{p:Addr}(h4:∀u∈us,u.length≤80)(h5:∀u∈z::y::ws,u.length≤80)
  (h:H p=some (.tup (.str z::(y::ws).map fun w=>.str (sideS ((gs.map (·.1)).zip (us.map T.str)) w)))):Rep H (.ref p) (apT gs us z y ws):=by
 have e1:(V.str z::(y::ws).map fun w=>V.str (sideS ((gs.map (·.1)).zip (us.map T.str)) w))=(z::(y::ws).map fun w=>sideS ((gs.map (·.1)).zip (us.map T.str)) w).map V.str:=by simp only[List.map_cons,List.map_map];rfl
 have e2:apT gs us z y ws=.tup ((z::(y::ws).map fun w=>sideS ((gs.map (·.1)).zip (us.map T.str)) w).map T.str):=by unfold apT;simp only[List.map_cons,List.map_map];rfl
 rw[e1]at h
 rw[e2]
 refine .tup h (Reps.words fun u hu=>?_)
 rcases List.mem_cons.mp hu with e|hu
 ·have:=h5 z (by simp);rw[e];omega
 ·obtain⟨w',hw,e⟩:=List.mem_map.mp hu
  have:=side_len (names_zip (zs:=gs.map (·.1)) h4) (h5 w' (List.mem_cons_of_mem _ hw))
  rw[←e]
  omega
section
variable {P:Program}{w:World}{K:PySem.W.Frag}{mg:Str→Option Value}{base:Heap}{f C f1:Addr}{fd g1:FuncData}
abbrev s_ap:Stmt:=inClass (top 27) 1
theorem sc_ap:FnScope ["self","declaration","maker"] ["self","declaration"] (defScope s_ap):=⟨rfl,rfl,rfl,by decide+kernel,rfl,by decide+kernel,by decide+kernel⟩
set_option maxHeartbeats 2000000 in
theorem ok_ap (F:Fun K "face_of_applied" "Faces.face_of_applied" s_ap f fd)(Tx:TxC K C)(h1:Has P w K mg base 2 "turned_face" ["given","by"] spTF)(h2:Has P w K mg base 1 "given_face" ["declaration"] spGiven)(h3:Has P w K mg base 1 "by_givers" ["givers","parts"] spBy):
  FnOk P w K mg base CX0 3 f fd ["self","declaration"] (spApplied C):=by
 refine F.ok sc_ap (len:=fun vs H Q E h=>(by obtain⟨s,a,d1,d2,d3,dx,n,k,us,gs,z,y,ws,r,mm,fs,rfl,_⟩:=h;rfl)) (fun cdv A outer s0 H vs Q E hr h=>?_)
 obtain⟨s,a,d1,d2,d3,dx,n,k,us,gs,z,y,ws,r,mm,fs,rfl,ob,l2,D2,ra,lk,e1,e2,nd,u8,w8,wl,q⟩:=h
 have hu:=hu_of hr
 refine⟨_,pss_cons (pset 2 sc_ap.nd (pe_dget hu (fldK K (pv 0) rfl) (pe_ix (ixT K) (pv 1) pe_int) (fun _ _=>rfl)))
  (pss_one (ps_ret (pcall h1 hr (by decide) rfl (pa_cons (pcall h2 hr (by decide) rfl (pa_cons (pv 2) pa_nil)) (pa_cons (pcall h3 hr (by decide) rfl (pa_cons (pe_ix (ixT K) (pv 2) pe_int) (pa_cons (pe_slice sl_tup (pv 1) (po_some pe_int) po_none) pa_nil))) pa_nil))))),?_⟩
 cases ra with
 |@tup _ ys _ hc rys=>
  obtain⟨zs,ez,rz,lz⟩:=its_drop H hc rys
  have ezs:zs=us.map V.str:=Reps.texts rz
  cases rys with
  |@cons v0 _ vr0 _ r0 rr0=>
   cases rr0 with
   |@cons v1 _ vr1 _ r1 rr1=>
    cases rr1 with
    |@cons v2 _ vr2 _ r2 rr2=>
     cases r2
     obtain⟨v,g,rv⟩:=D2.get lk
     refine⟨_,rfl,s,C,dx,_,_,rfl,ob,Tx.cs,Tx.n2,l2,_,rfl,a,_,2, .str k,rfl,rfl,SqT.of hc,atI_nat (j:=2) rfl,d2,v,rfl,g,?_⟩
     cases rv with
     |@tup c ys2 _ hc2 rys2=>
      cases rys2 with
      |@cons w0 _ wr0 _ q0 qq0=>
       cases qq0 with
       |@cons w1 _ wr1 _ q1 qq1=>
        cases qq1 with
        |@cons w2 _ wr2 _ q2 qq2=>
         cases qq2 with
         |@cons w3 _ wr3 _ q3 qq3=>
          cases q0
          cases q2 with
          |@tup ga gys _ hga rga=>
          cases q3 with
          |@tup fa fys _ hfa rfa=>
          have efy:fys=(z::y::ws).map V.str:=Reps.texts rfa
          subst efy
          refine⟨_,rfl,c,"maker",_, .ref fa,rfl,hc2,by rw[if_pos rfl];rfl,?_⟩
          refine⟨_,rfl,c,_,2, .ref ga,rfl,rfl,SqT.of hc2,atI_nat (j:=2) rfl,_,rfl,3,rfl,a,_,rfl,SqT.of hc,cutq_not (n:=3) (by simp) (by decide),fun p1 hp1=>?_⟩
          rw[ez,ezs]
          obtain⟨H1,eH1,s1,hp11⟩:=nw hp1 (.tup (us.map V.str))
          rw[eH1]
          refine⟨ga,p1,gys,gs,us,rfl,s1 _ _ hga,rga.same s1,hp11,e1,e2,nd,u8,fun d H2 kvs s2 hd0 hd2 dr=>?_⟩
          refine⟨fa,d,z,y,ws,kvs,_,rfl,s2 _ _ (s1 _ _ hfa),hd2,dr,names_zip u8,w8,wl,fun p H3 s3 hp3=>?_⟩
          exact q _ H3 ((s1.trans s2).trans s3) (apT_rep u8 w8 hp3)
inductive DOks (mm:List (Str×T)):List Dc→List (Option (Str×T))→Prop where
 |nil:DOks mm [] []
 |cons {d:Dc} {o:Option (Str×T)} {ds:List Dc} {os:List (Option (Str×T))} (h:DOk mm d o) (q:DOks mm ds os):DOks mm (d::ds) (o::os)
theorem DOks.length {mm:List (Str×T)}:∀{ds:List Dc} {os:List (Option (Str×T))},DOks mm ds os→ds.length=os.length
 |_,_, .nil=>rfl
 |_,_, .cons _ q=>by rw[List.length_cons,List.length_cons,q.length]
theorem DOks.get {mm:List (Str×T)}:∀{ds:List Dc} {os:List (Option (Str×T))} {i:Nat} {d:Dc},DOks mm ds os→ds[i]?=some d→∃o,os[i]?=some o∧DOk mm d o
 |_,_,_,_, .nil,h=>by simp at h
 |_,_,0,_, .cons h _,e=>by cases e;exact⟨_,rfl,h⟩
 |_,_,i+1,_, .cons _ q,e=>q.get (i:=i) e
theorem DOks.append {mm:List (Str×T)}:∀{ds:List Dc} {os:List (Option (Str×T))} {ds':List Dc} {os':List (Option (Str×T))},DOks mm ds os→DOks mm ds' os'→DOks mm (ds++ds') (os++os')
 |_,_,_,_, .nil,q=>q
 |_,_,_,_, .cons h r,q=>.cons h (r.append q)
structure FcF (C:Addr)(H H':Hp)(s:Addr)(fm mm pm:List (Str×T)):Prop where
 ob:∃dx d1 d2 d3,H' s=some (.ins C dx (ffl d1 d2 d3))∧DictL H' d1 fm∧DictL H' d2 mm∧DictL H' d3 pm∧H d1=none∧H d2=none∧H d3=none
def spInit (C:Addr):Sp:=fun vs H Q _=>∃(s dx a:Addr) (xs:List V) (ds:List Dc) (os:List (Option (Str×T))),vs=[.ref s, .ref a]∧H s=some (.ins C dx [])∧H a=some (.tup xs)∧Reps H xs (ds.map dcT++[mainT])∧ds.length≤1000∧
 ((byName ds "face").map (·.1)).Nodup∧((byName ds "maker").map (·.1)).Nodup∧DOks (byName ds "maker") ds os∧((os.filterMap id).map (·.1)).Nodup∧
 ∀H',(∀b o,b≠s→H b=some o→H' b=some o)→FcF C H H' s (byName ds "face") (byName ds "maker") (os.filterMap id)→Q .non H'
abbrev s_init:Stmt:=inClass (top 27) 0
theorem sc_init:FnScope ["self","program","declaration"] ["self","program"] (defScope s_init):=⟨rfl,rfl,rfl,by decide+kernel,rfl,by decide+kernel,by decide+kernel⟩
theorem pf1 {v:V}:putF "face_declarations" v []=([("face_declarations",v)]:List (Str×V)):=by first|rfl|(with_unfolding_all rfl)|kernel_rfl
theorem pf2 {u v:V}:putF "maker_declarations" v [("face_declarations",u)]=([("face_declarations",u),("maker_declarations",v)]:List (Str×V)):=by first|rfl|(with_unfolding_all rfl)|kernel_rfl
theorem pf3 {d1 d2 d3:Addr}:putF "part_faces" (V.ref d3) [("face_declarations", .ref d1),("maker_declarations", .ref d2)]=ffl d1 d2 d3:=by first|rfl|(with_unfolding_all rfl)|kernel_rfl
theorem fa_none {d1 d2 d3:Addr}:(ffl d1 d2 d3).lookup ("face_of_applied":Str)=none:=by first|rfl|(with_unfolding_all rfl)|kernel_rfl
theorem sorts_ne:("face":Str)≠"main"∧("maker":Str)≠"main"∧("part":Str)≠"apply"∧("main":Str)≠"part"∧("main":Str)≠"apply"∧("apply":Str)≠"part"∧("part":Str)≠"maker":=by decide+kernel
theorem upd_tup {H:Hp}{s:Addr}{o:HO}{C dx:Addr}{fs:List (Str×V)}(h:H s=some (.ins C dx fs)):∀b xs,H b=some (.tup xs)→(upd H s o) b=some (.tup xs):=fun b xs hb=>by
 rw[upd_ne (ne_of hb h (by intro z;cases z))];exact hb
theorem filt_snoc {os:List (Option (Str×T))}{i:Nat}{o:Option (Str×T)}(h:os[i]?=some o):(os.take (i+1)).filterMap id=(os.take i).filterMap id++o.toList:=by
 rw[take_next h,List.filterMap_append]
 cases o<;>rfl
set_option maxHeartbeats 4000000 in
theorem ok_init (F:Fun K "__init__" "Faces.__init__" s_init f fd)(Tx:TxC K C)(h1:Has P w K mg base 1 "named" ["program","sort"] spNamed)(h2:Has P w K mg base 1 "headed" ["thing"] spHeaded)(h3:Has P w K mg base 1 "given_face" ["declaration"] spGiven)
  (MA:Meth K C "face_of_applied" f1) (GA:FnOk P w K mg base CX0 3 f1 g1 ["self","declaration"] (spApplied C)) (bA:Binds K g1 ["self","declaration"] []):FnOk P w K mg base CX0 4 f fd ["self","program"] (spInit C):=by
 refine F.ok sc_init (len:=fun vs H Q E h=>(by obtain⟨s,dx,a,xs,ds,os,rfl,_⟩:=h;rfl)) (fun cdv A outer s0 H vs Q E hr h=>?_)
 obtain⟨s,dx,a,xs,ds,os,rfl,ob,ha,ra,hl,n1,n2,dk,n3,q⟩:=h
 have hu:=hu_of hr
 refine⟨_,pss_cons (sfldK K (pv 0) (pcall h1 hr (by decide) rfl (pa_cons (pv 1) (pa_cons pe_str pa_nil))) rfl)
  (pss_cons (sfldK K (pv 0) (pcall h1 hr (by decide) rfl (pa_cons (pv 1) (pa_cons pe_str pa_nil))) rfl)
  (pss_cons (sfldK K (pv 0) pe_dnewK rfl)
  (pss_one (ps_for PassesOwn.never rfl (piT K (pv 1)) (pg_name (i:=2) sc_init.nd rfl (Or.inl rfl))
   (pss_one (ps_if (pt_cmpR op_eq (pe_ix (ixT K) (pv 2) pe_int) pe_str)
    (pss_one (ps_dput hu (fldK K (pv 0) rfl) (pe_ix (ixT K) (pv 2) pe_int) (pcall h2 hr (by decide) rfl (pa_cons (pcall h3 hr (by decide) rfl (pa_cons (pv 2) pa_nil)) pa_nil)) rfl))
    (pss_one (ps_if (pt_cmpR op_eq (pe_ix (ixT K) (pv 2) pe_int) pe_str)
     (pss_one (ps_dput hu (fldK K (pv 0) rfl) (pe_ix (ixT K) (pv 2) pe_int) (pe_meth (pv 0) Tx.cs MA GA hr bA .nil pass0 (pa_cons (pv 2) pa_nil)) rfl)) pss_nil)))))))),?_⟩
 obtain⟨m1,m2,_,m3,m4,m5,m6⟩:=sorts_ne
 have lx:=ra.length
 rw[List.length_append,List.length_map]at lx
 have lx':xs.length=ds.length+1:=lx
 refine⟨_,rfl,a,xs,ds,"face",rfl,ha,ra,hl,m1,n1,fun d1 H1 k1 s1 hd1 hd11 dr1=>?_⟩
 refine⟨_,rfl,s,C,dx,_,rfl,s1 _ _ ob,Tx.cs,Tx.n1,(by show 0<1000;decide),?_⟩
 rw[pf1]
 have t1:=upd_tup (o:=.ins C dx [("face_declarations", .ref d1)]) (s1 _ _ ob)
 have ne1:d1≠s:=Ne.symm (ne_of_none ob hd1)
 have g1:∀b o,b≠s→H b=some o→(upd H1 s (.ins C dx [("face_declarations", .ref d1)])) b=some o:=fun b o n h=>by rw[upd_ne n];exact s1 _ _ h
 have D1:DictL (upd H1 s (.ins C dx [("face_declarations", .ref d1)])) d1 (byName ds "face"):=⟨k1,by rw[upd_ne ne1];exact hd11,dr1.mono t1⟩
 have ob1:(upd H1 s (.ins C dx [("face_declarations", .ref d1)])) s=some (.ins C dx [("face_declarations", .ref d1)]):=upd_same
 revert g1 D1 ob1
 generalize upd H1 s (.ins C dx [("face_declarations", .ref d1)])=H2
 intro g1 D1 ob1
 have sa:a≠s:=ne_of ha ob (by intro z;cases z)
 have tt2:∀b xs,H b=some (.tup xs)→H2 b=some (.tup xs):=fun b xs hb=>g1 b _ (ne_of hb ob (by intro z;cases z)) hb
 refine⟨_,rfl,a,xs,ds,"maker",rfl,tt2 _ _ ha,ra.mono tt2,hl,m2,n2,fun d2 H3 k2 s3 hd2 hd23 dr2=>?_⟩
 refine⟨_,rfl,s,C,dx,_,rfl,s3 _ _ ob1,Tx.cs,Tx.n2,(by show 1<1000;decide),?_⟩
 rw[pf2]
 have t3:=upd_tup (o:=.ins C dx [("face_declarations", .ref d1),("maker_declarations", .ref d2)]) (s3 _ _ ob1)
 have ne2:d2≠s:=Ne.symm (ne_of_none ob1 hd2)
 have ne12:d1≠s:=ne1
 have g1':=g1
 have g3:∀b o,b≠s→H b=some o→(upd H3 s (.ins C dx [("face_declarations", .ref d1),("maker_declarations", .ref d2)])) b=some o:=fun b o n h=>by rw[upd_ne n];exact s3 _ _ (g1 b o n h)
 have D13:DictL (upd H3 s (.ins C dx [("face_declarations", .ref d1),("maker_declarations", .ref d2)])) d1 (byName ds "face"):=by
  obtain⟨k,hk,hr'⟩:=D1.same s3
  exact⟨k,by rw[upd_ne ne1];exact hk,hr'.mono t3⟩
 have D23:DictL (upd H3 s (.ins C dx [("face_declarations", .ref d1),("maker_declarations", .ref d2)])) d2 (byName ds "maker"):=⟨k2,by rw[upd_ne ne2];exact hd23,dr2.mono t3⟩
 have ob3:(upd H3 s (.ins C dx [("face_declarations", .ref d1),("maker_declarations", .ref d2)])) s=some (.ins C dx [("face_declarations", .ref d1),("maker_declarations", .ref d2)]):=upd_same
 revert g3 D13 D23 ob3
 generalize upd H3 s (.ins C dx [("face_declarations", .ref d1),("maker_declarations", .ref d2)])=H4
 intro g3 D13 D23 ob3
 refine fun d3 hd3=>⟨_,rfl,s,C,dx,_,rfl,same_new hd3 _ _ _ ob3,Tx.cs,Tx.n3,(by show 2<1000;decide),?_⟩
 rw[pf3]
 have s5:=same_new hd3 (.dK [])
 have t5:=upd_tup (o:=.ins C dx (ffl d1 d2 d3)) (s5 _ _ ob3)
 have ne3:d3≠s:=Ne.symm (ne_of_none ob3 hd3)
 have g5:∀b o,b≠s→H b=some o→(upd (upd H4 d3 (.dK [])) s (.ins C dx (ffl d1 d2 d3))) b=some o:=fun b o n h=>by rw[upd_ne n];exact s5 _ _ (g3 b o n h)
 have mv:∀{d:Addr} {m:List (Str×T)},d≠s→DictL H4 d m→DictL (upd (upd H4 d3 (.dK [])) s (.ins C dx (ffl d1 d2 d3))) d m:=fun n h=>by
  obtain⟨k,hk,hr'⟩:=h.same s5
  exact⟨k,by rw[upd_ne n];exact hk,hr'.mono t5⟩
 have D15:=mv ne1 D13
 have D25:=mv ne2 D23
 have ob5:(upd (upd H4 d3 (.dK [])) s (.ins C dx (ffl d1 d2 d3))) s=some (.ins C dx (ffl d1 d2 d3)):=upd_same
 have hd35:(upd (upd H4 d3 (.dK [])) s (.ins C dx (ffl d1 d2 d3))) d3=some (.dK []):=by rw[upd_ne ne3];exact upd_same
 have n13:d1≠d3:=by obtain⟨k,hk,_⟩:=D13;exact ne_of_none hk hd3
 have n23:d2≠d3:=by obtain⟨k,hk,_⟩:=D23;exact ne_of_none hk hd3
 have fr:∀{K:Hp},(∀b o,b≠s→H b=some o→K b=some o)→∀{d:Addr},d≠s→K d=none→H d=none:=fun{K} g {d} n hk=>by
  cases e:H d with
  |none=>rfl
  |some o=>rw[g d o n e]at hk;cases hk
 have f1:=fr (K:=H) (fun _ _ _ h=>h) ne1 hd1
 have f2:=fr g1' ne2 hd2
 have f3:=fr g3 ne3 hd3
 have hd3H:∀b o,b≠s→H b=some o→b≠d3:=fun b o n h=>ne_of_none (g3 b o n h) hd3
 revert g5 D15 D25 ob5 hd35
 generalize upd (upd H4 d3 (.dK [])) s (.ins C dx (ffl d1 d2 d3))=H5
 intro g5 D15 D25 ob5 hd35
 have tt5:∀b xs,H b=some (.tup xs)→H5 b=some (.tup xs):=fun b xs hb=>g5 b _ (ne_of hb ob (by intro z;cases z)) hb
 have ha5:=tt5 _ _ ha
 have ra5:=ra.mono tt5
 have lo:=dk.length
 refine⟨_,rfl,a,rfl,⟨_,SqT.of ha5⟩,for_tup (xs:=xs) (fun i σ H'=>∃(o:Option V) (kvs:List (Key×V)),σ=[some (.ref s),some (.ref a),o]∧(∀b o,b≠d3→H5 b=some o→H' b=some o)∧H' d3=some (.dK kvs)∧DReps H' kvs ((os.take i).filterMap id))
  ⟨none,[],rfl,fun _ _ _ h=>h,hd35, .nil⟩ ?_ ?_ ?_⟩
 ·rintro i σ H' hi ⟨o,kvs,rfl,g,_,_⟩
  exact SqT.of (g _ _ (hd3H _ _ sa ha) ha5)
 ·rintro i x σ H' hx ⟨o,kvs,rfl,g,h3',dr⟩
  obtain⟨t,ht,rt⟩:=ra5.at3 hx
  have tup':∀b xs,H5 b=some (.tup xs)→H' b=some (.tup xs):=fun b xs hb=>g b _ (ne_of hb hd35 (by intro z;cases z)) hb
  have rt':=rt.mono tup'
  have ob':=g _ _ (Ne.symm ne3) ob5
  have mvD:∀{d:Addr} {m:List (Str×T)},d≠d3→DictL H5 d m→DictL H' d m:=fun n h=>by
   obtain⟨k,hk,hr'⟩:=h
   exact⟨k,g _ _ n hk,hr'.mono tup'⟩
  have D2':=mvD n23 D25
  have lk:kvs.length≤1000:=by
   have:=dr.length
   have h2:=List.length_filterMap_le id (os.take i)
   rw[List.length_take]at h2
   omega
  by_cases hi2:i<ds.length
  ·rw[List.getElem?_append_left (by rw[List.length_map];exact hi2),List.getElem?_map]at ht
   cases hg:ds[i]? with
   |none=>rw[hg]at ht;cases ht
   |some d=>
    rw[hg]at ht
    cases ht
    obtain⟨od,hod,dok⟩:=dk.get hg
    have fs:=filt_snoc hod
    have rt0:=rt'
    have put:∀{n:Str} {t':T} {v:V} {H6:Hp},od=some (n,t')→Same H' H6→Rep H6 v t'→
      ∃H7,DPut H6 d3 (.str n) v H7∧(∀b o,b≠d3→H5 b=some o→H7 b=some o)∧∃kvs',H7 d3=some (.dK kvs')∧DReps H7 kvs' ((os.take (i+1)).filterMap id):=fun{n t' v H6} e s6 r=>by
     subst e
     have nk:valV kvs (Sum.inr n)=none:=by
      rcases dr.get n with ⟨h,_⟩|⟨v',t'',_,h,_⟩
      ·exact h
      ·exfalso
       have hm:(os.filterMap id)=(os.take (i+1)).filterMap id++(os.drop (i+1)).filterMap id:=by rw[←List.filterMap_append,List.take_append_drop]
       rw[hm,fs,List.map_append,List.map_append]at n3
       have n4:=(List.nodup_append.mp n3).1
       have:=(List.nodup_append.mp n4).2.2 n (List.mem_map_of_mem (f:=(·.1)) (mem_of_lookup' h)) n (by simp)
       exact this rfl
     refine⟨_,DPut.k (k:=Sum.inr n) (s6 _ _ h3') (small' (by omega)),fun b o n' h=>by rw[upd_ne n'];exact s6 _ _ (g b o n' h),_,upd_same,?_⟩
     rw[putK_new v nk,fs]
     have tu7:∀b xs,H6 b=some (.tup xs)→(upd H6 d3 (.dK (kvs++[(Sum.inr n,v)]))) b=some (.tup xs):=fun b xs h=>by rw[upd_ne (ne_of h (s6 _ _ h3') (by intro z;cases z))];exact h
     exact DReps.snoc (r.mono tu7) ((dr.mono (Same.tups s6)).mono tu7)
    cases rt' with
    |@tup c ys _ hc rys=>
     cases rys with
     |@cons v0 _ vr0 _ r0 rr0=>
      cases rr0 with
      |@cons v1 _ vr1 _ r1 rr1=>
       cases r0
       cases r1
       refine⟨_,rfl,c,_,0, .str d.1,rfl,rfl,SqT.of hc,atI_nat (j:=0) rfl,rfl,_,rfl,?_⟩
       rw[dec_str]
       cases dok with
       |@part n t' r'=>
        cases rr1 with
        |@cons v2 _ vr2 _ r2 rr2=>
        rw[decide_eq_true rfl]
        refine iteT ⟨_,rfl,c,"part",_,v2,rfl,hc,by rw[if_neg m6];rfl,?_⟩
        refine⟨v2,t',rfl,r2,fun b' xs' H6 s6 hb' rb'=>?_⟩
        obtain⟨H7,p7,g7,kvs',h7,dr7⟩:=put rfl s6 (.tup hb' rb')
        exact⟨_,rfl,s,C,dx,_,_,rfl,s6 _ _ ob',Tx.cs,Tx.n3,ff3,_,rfl,c,_,1, .str n,rfl,rfl,SqT.of (s6 _ _ hc),atI_nat (j:=1) rfl,d3,H7,rfl,p7,_,kvs',rfl,g7,h7,dr7⟩
       |@app n k us gs z y ws r' lk' e1 e2 nd u8 w8 wl=>
        rw[decide_eq_false m5]
        refine iteF ⟨_,rfl,c,_,0, .str "apply",rfl,rfl,SqT.of hc,atI_nat (j:=0) rfl,rfl,_,rfl,?_⟩
        rw[dec_str,decide_eq_true rfl]
        refine iteT ⟨_,rfl,s,dx,_,rfl,ob',fa_none,_,rfl,s,c,d1,d2,d3,dx,n,k,us,gs,z,y,ws,r',_,_,rfl,ob',ff2,D2',rt0,lk',e1,e2,nd,u8,w8,wl,fun v' H6 s6 rv=>?_⟩
        obtain⟨H7,p7,g7,kvs',h7,dr7⟩:=put rfl s6 rv
        exact⟨_,rfl,s,C,dx,_,_,rfl,s6 _ _ ob',Tx.cs,Tx.n3,ff3,_,rfl,c,_,1, .str n,rfl,rfl,SqT.of (s6 _ _ hc),atI_nat (j:=1) rfl,d3,H7,rfl,p7,_,kvs',rfl,g7,h7,dr7⟩
       |@other s' n r' q1 q2=>
        rw[decide_eq_false q1]
        refine iteF ⟨_,rfl,c,_,0, .str s',rfl,rfl,SqT.of hc,atI_nat (j:=0) rfl,rfl,_,rfl,?_⟩
        rw[dec_str,decide_eq_false q2]
        refine iteF ⟨_,kvs,rfl,g,h3',?_⟩
        rw[fs]
        simpa using dr
  ·have ei:i=ds.length:=by have:=(List.getElem?_eq_some_iff.mp hx).1;omega
   subst ei
   rw[List.getElem?_append_right (by rw[List.length_map];exact Nat.le_refl _),List.length_map,Nat.sub_self]at ht
   cases ht
   cases rt' with
   |@tup c ys _ hc rys=>
    cases rys with
    |@cons v0 _ vr _ r0 rr=>
     cases r0
     refine⟨_,rfl,c,_,0, .str "main",rfl,rfl,SqT.of hc,atI_nat (j:=0) rfl,rfl,_,rfl,?_⟩
     rw[dec_str,decide_eq_false m3]
     refine iteF ⟨_,rfl,c,_,0, .str "main",rfl,rfl,SqT.of hc,atI_nat (j:=0) rfl,rfl,_,rfl,?_⟩
     rw[dec_str,decide_eq_false m4]
     refine iteF ⟨_,kvs,rfl,g,h3',?_⟩
     rw[List.take_of_length_le (by omega)]
     rw[List.take_of_length_le (by omega)]at dr
     exact dr
 ·rintro σ H' ⟨o,kvs,rfl,g,h3',dr⟩
  rw[List.take_of_length_le (by omega)]at dr
  have tup':∀b xs,H5 b=some (.tup xs)→H' b=some (.tup xs):=fun b xs hb=>g b _ (ne_of hb hd35 (by intro z;cases z)) hb
  have mvD:∀{d:Addr} {m:List (Str×T)},d≠d3→DictL H5 d m→DictL H' d m:=fun n h=>by
   obtain⟨k,hk,hr'⟩:=h
   exact⟨k,g _ _ n hk,hr'.mono tup'⟩
  exact q H' (fun b o n h=>g b o (hd3H b o n h) (g5 b o n h)) ⟨dx,d1,d2,d3,g _ _ (Ne.symm ne3) ob5,mvD n13 D15,mvD n23 D25,⟨kvs,h3',dr⟩,f1,f2,f3⟩
end
end Fw
namespace L2
open PySem PySem.Spec PyProof.Rows
section
variable {X:Cx}{pins:List (Addr×Obj)}{σ:St}{H:Hp}{s:Shared}
theorem Inv.refit {a:Addr}{u0 u1:HO}(I:Inv X pins σ H s)(e0:H a=some u0)(n1:∀xs,u0≠.tup xs)(n2:∀ps,u0≠.tbl ps)(n3:∀x,u0≠.own x)(n4:∀o u,X.H₀ a≠some (.frz o u))(new:ObjOk X.prog X.w (upd H a u1) s.heap a u1):
  Inv X pins σ (upd H a u1) s:=by
 have ne:∀b,H b=none→b≠a:=fun b h e=>by rw[e,e0]at h;cases h
 exact{
  ok:=I.ok
  os:=I.os
  bare:=I.bare
  base:=⟨I.base.keep,I.base.slot,fun b o h n hx=>by have q:=I.base.free b o h n hx;rw[upd_ne (ne b q)];exact q,I.base.there,
   fun b xs h=>by
    have q:=I.base.tups b xs h
    rw[upd_ne (fun e=>by rw[e,e0]at q;exact n1 xs (Option.some.inj q))];exact q,
   fun b o u h=>by
    have q:=I.base.frzs b o u h
    rw[upd_ne (fun e=>by rw[e]at h;exact n4 o u h)];exact q,
   fun b ps h=>by
    obtain⟨more,q⟩:=I.base.tbls b ps h
    exact⟨more,by rw[upd_ne (fun e=>by rw[e,e0]at q;exact n2 _ (Option.some.inj q))];exact q⟩⟩
  loc:=I.loc
  cell:=I.cell
  free:=by rw[upd_ne (ne _ I.free)];exact I.free
  freeC:=fun x c h=>by rw[upd_ne (ne _ (I.freeC x c h))];exact I.freeC x c h
  pin:=fun p hp=>by
   obtain⟨p1,p2,p3⟩:=I.pin p hp
   exact⟨p1,by rw[upd_ne (ne _ p2)];exact p2,p3⟩
  hok:=fun b u h=>by
   by_cases e:b=a
   ·subst e
    rw[upd_same]at h
    cases h
    exact new
   ·rw[upd_ne e]at h
    refine(I.hok b u h).stay (fun _ _ _ q=>q) (fun c q=>?_) fun c xs q=>?_
    ·rw[upd_ne (fun z=>by rw[z,e0]at q;exact n3 _ (Option.some.inj q))];exact q
    ·rw[upd_ne (fun z=>by rw[z,e0]at q;exact n1 _ (Option.some.inj q))];exact q
  len:=I.len}
theorem Inv.freeze {a:Addr}{kvs:List (Key×V)}(I:Inv X pins σ H s)(e:H a=some (.dK kvs)):∃o,s.heap.get? a=some o∧(∀o' u,X.H₀ a≠some (.frz o' u))∧Inv X pins σ (upd H a (.frz o (.dK kvs))) s:=by
 obtain⟨z,hd,vs,rel,dd⟩:=dk_of I.hok e
 obtain⟨o,es,ep,ho,r⟩:=id dd
 have n4:∀o' u,X.H₀ a≠some (.frz o' u):=fun o' u h=>by have:=I.base.frzs a o' u h;rw[e]at this;cases this
 exact⟨o,ho,n4,I.refit e (fun _ h=>by cases h) (fun _ h=>by cases h) (fun _ h=>by cases h) n4 ⟨ho,z,hd,vs,rel,dd⟩⟩
theorem Inv.thaw {a:Addr}{o:Obj}{kvs:List (Key×V)}(I:Inv X pins σ H s)(n4:∀o' u,X.H₀ a≠some (.frz o' u))(e:H a=some (.frz o (.dK kvs))):Inv X pins σ (upd H a (.dK kvs)) s:=by
 have h:=I.hok a _ e
 exact I.refit e (fun _ h=>by cases h) (fun _ h=>by cases h) (fun _ h=>by cases h) n4 h.2
end
def tFrz (t:TE):TE:=fun σ H Q=>∃a kvs,H a=some (.dK kvs)∧∀o,t σ (upd H a (.frz o (.dK kvs))) fun v H'=>H' a=some (.frz o (.dK kvs))∧Q v (upd H' a (.dK kvs))
theorem pe_frz {X:Cx}{e:Expr}{t:TE}(h:PE X e t):PE X e (tFrz t):=by
 intro pins s σ H Q I q
 obtain⟨a,kvs,e0,q⟩:=q
 obtain⟨o,ho,n4,I1⟩:=I.freeze e0
 exact thn (h pins s σ _ _ I1 (q o)) fun v s1 ⟨x,H1,I2,r,e1,q1⟩=>⟨x,_,I2.thaw n4 e1,r,q1⟩
def dFrz (a:Addr)(kvs:List (Key×V))(o:Obj)(D:Ends):Ends where
 nx:=fun σ' H'=>H' a=some (.frz o (.dK kvs))∧D.nx σ' (upd H' a (.dK kvs))
 rt:=fun v H'=>H' a=some (.frz o (.dK kvs))∧D.rt v (upd H' a (.dK kvs))
 bk:=fun σ' H'=>H' a=some (.frz o (.dK kvs))∧D.bk σ' (upd H' a (.dK kvs))
 ct:=fun σ' H'=>H' a=some (.frz o (.dK kvs))∧D.ct σ' (upd H' a (.dK kvs))
def sFrz (t:TS):TS:=fun D σ H=>∃a kvs,H a=some (.dK kvs)∧∀o,t (dFrz a kvs o D) σ (upd H a (.frz o (.dK kvs)))
theorem ps_frz {X:Cx}{st:Stmt}{t:TS}(h:PS X st t):PS X st (sFrz t):=by
 intro pins s σ H D I q
 obtain⟨a,kvs,e0,q⟩:=q
 obtain⟨o,ho,n4,I1⟩:=I.freeze e0
 refine thn (h pins s σ _ _ I1 (q o)) fun fl s1 hs=>?_
 cases fl with
 |next=>obtain⟨σ',H',I2,e1,q1⟩:=hs;exact⟨σ',_,I2.thaw n4 e1,q1⟩
 |brk=>obtain⟨σ',H',I2,e1,q1⟩:=hs;exact⟨σ',_,I2.thaw n4 e1,q1⟩
 |cont=>obtain⟨σ',H',I2,e1,q1⟩:=hs;exact⟨σ',_,I2.thaw n4 e1,q1⟩
 |ret u=>obtain⟨v,σ',H',I2,r,e1,q1⟩:=hs;exact⟨v,σ',_,I2.thaw n4 e1,r,q1⟩
def Itk (a:Addr)(o:Obj)(kvs:List (Key×V)):It :=
 ⟨fun i H=>H a=some (.frz o (.dK kvs))∧i<kvs.length,fun i H x H'=>H'=H∧∃k v,kvs[i]?=some (k,v)∧x=kV k,fun i H=>H a=some (.frz o (.dK kvs))∧kvs.length≤i⟩
theorem frz_at {X:Cx}{pins:List (Addr×Obj)}{σ:St}{H:Hp}{s:Shared}{a:Addr}{o:Obj}{kvs:List (Key×V)}{es:Array DictEntry}{ep:Nat}(I:Inv X pins σ H s)(e:H a=some (.frz o (.dK kvs)))(hep:o.data=.dict es ep):
  (a==sysModules)=false∧kvs.length≤sizeLine∧∃vs,KV kvs vs∧s.heap.DictAt (mixKind X.prog X.w) a vs ep:=by
 obtain⟨ho,z,hd,vs,rel,dd⟩:=I.hok a _ e
 refine⟨hd,z,vs,rel,?_⟩
 obtain⟨o2,es2,ep2,ho2,h2,h3,r⟩:=dd
 rw[ho]at ho2
 cases ho2
 rw[hep]at h3
 cases h3
 exact⟨o,es,ho,h2,hep,r⟩
theorem turn_keys {P:Program}{w:World}{K:PySem.W.Frag}{tg:Expr}(a it:Addr)(o:Obj)(kvs:List (Key×V))(es:Array DictEntry)(ep:Nat)(hep:o.data=.dict es ep):Turn P w K tg (Itk a o kvs) [it] it (fun i h=>h.IsKeyIter it a i kvs.length ep) where
 mem:=by simp
 obj:=fun i h st b hb=>by
  have e:b=it:=by simpa using hb
  subst e
  obtain⟨o,e,c,d⟩:=st
  exact⟨o,e,fun v z=>by rw[d]at z;cases z⟩
 keep:=fun i h h' st k=>by
  obtain⟨o,e,r⟩:=st
  exact⟨o,k it (by simp) o e,r⟩
 item:=by
  intro X hP hw hK hc i pins s σ H E I hf st hg
  subst hP hw hK
  obtain⟨ha,hi⟩:=hg
  obtain⟨hd,hz,vs,rel,dd⟩:=frz_at I ha hep
  have hl:=rel.length
  have hk:=rel.keys
  obtain⟨⟨k,v⟩,hx⟩:∃p,vs[i]?=some p:=⟨vs[i]'(by omega),List.getElem?_eq_getElem (by omega)⟩
  obtain⟨⟨k',v'⟩,hy⟩:∃p,kvs[i]?=some p:=⟨kvs[i],List.getElem?_eq_getElem hi⟩
  have ek:k'=k:=by
   have q:=congrArg (fun l=>l[i]?) hk
   simp only[List.getElem?_map,hx,hy,Option.map_some]at q
   exact Option.some.inj q
  subst ek
  obtain⟨f0,f1,f2,f3,f4,f5⟩:=hf it (by simp)
  rw[hl]at st
  refine wpAny_pyNext_dict_item st dd hx fun key h' hkey st' sb=>?_
  have I1:Inv X pins σ H {s with heap:=h'}:=I.turned (t':=s.toks) (fun b o hb e=>(sb.2 b hb).trans e) f0 f1 f3 f4 f5
  obtain⟨o',e',c',d'⟩:=id st'
  rw[←hl]at st'
  exact⟨key,rfl,go_of (s:={s with heap:=h'}) e' c' d' (by decide) ⟨kV k',H,I1,mix_rel hkey,⟨rfl,k',v',hy,rfl⟩,st',fun b hb=>(hf b hb).1⟩⟩
 done:=by
  intro X hP hw hK hc i pins s σ H E I hf st hg
  subst hP hw hK
  obtain⟨ha,hi⟩:=hg
  obtain⟨hd,hz,vs,rel,dd⟩:=frz_at I ha hep
  have hl:=rel.length
  obtain⟨f0,f1,f2,f3,f4,f5⟩:=hf it (by simp)
  rw[hl]at st
  exact wpAny_pyNext_dict_end (I.ok.hd hc) st dd (List.getElem?_eq_none (by omega)) fun h' eb=>⟨rfl,I.turned (t':=s.toks) (fun b o hb e=>eb b o hb e) f0 f1 f3 f4 f5⟩
 self:=fun _ _ _ _ _ st h=>wpAny_pyIter_keyiter st h
def iKeys (tl:TE):TI:=fun σ H R=>tl σ H fun x H1=>∃a o kvs,x=.ref a∧H1 a=some (.frz o (.dK kvs))∧R (Itk a o kvs) H1
theorem pi_keys {X:Cx}{tg l:Expr}{tl:TE}(hl:PE X l tl):PI X tg l (iKeys tl):=by
 intro pins s σ H R I h
 refine thn (hl pins s σ H _ I h) fun v s1 ⟨x,H1,I1,r1,q1⟩=>?_
 obtain⟨a,o,kvs,rfl,ha,q⟩:=q1
 cases r1
 have hob:=I1.hok a _ ha
 obtain⟨ho,z,hd,vs,rel,dd⟩:=hob
 obtain⟨o2,es,ep,ho2,h2,h3,r⟩:=id dd
 rw[ho]at ho2
 cases ho2
 refine wpAny_pyIter_dict (knd:=mixKind X.prog X.w) (kvs:=vs) (ep:=ep) hd ⟨o,es,ho,h2,h3,r⟩ ?_
 have hlen:=rel.length
 refine⟨s1.heap.objs.size,[s1.heap.objs.size],_,_,H1,rfl,I1.kept (t':=s1.toks) fun b o e=>Heap.get?_push_of_some _ e,turn_keys a _ o kvs es ep h3,⟨_,Heap.get?_push_size _ rfl,rfl,by rw[hlen];rfl⟩,fun b hb=>?_,q⟩
 have e:b=s1.heap.objs.size:=by simpa using hb
 subst e
 exact I1.fpOk (Nat.le_refl _) (I1.hok.fresh (Nat.le_refl _))
theorem pe_lcZ {X:Cx}{elt iter:Expr}{x:Str}{px pos:Pos}{scope:Scope}{wi:TI}{te:St→TE}(osc:Scope)(N:List Str)(frees:List Str)(idx:List Nat)
  (hk:compOk osc N x frees idx scope=true) (hi:PI X (.Name x px) iter wi)
  (he:∀pins σ C s₀ H₀ ex,Inv X pins σ H₀ s₀→(∀b∈ex,∀y c,X.env.cells.lookup y=some c→c≠b)→PE (cxComp X (x::frees) scope C s₀ H₀ ex) elt (te σ))
  (ho:X.env.scope=osc:=by rfl) (hN:X.N=N:=by rfl) (hc:X.calm=true:=by rfl) (hs:∀v,foldedSetIterable iter X.env v=pure v:=by intro _;rfl):PE X (.ListComp elt [⟨.Name x px,iter,[],0⟩] scope pos) (fun σ H Q=>tComp idx wi tTrue (te σ) σ H Q):=by
 obtain⟨S,fl⟩:=compOk_scope (X:=X) hk ho hN
 intro pins s σ H Q I h
 rw[eval_ListComp]
 rw[←tComp_M]at h
 exact comp_core (M:=[x]) (g:=gName 0) (tt:=tTrue) (XE:=noX) (use:=none) (Q':=EP X pins σ Q) (qt:=Calm) (fun C s₀ H₀ ex=>by rw[cxE_no];exact hc) ⟨S.kind,S.nocell,S.loc,S.fr,S.ix,S.len,S.cl⟩ fl hi (fun C s₀ H₀ ex=>by rw[cxE_no];exact pg_name (i:=0) S.nd rfl (.inl (lookup_relabel_local S.tgt)) (.inr (lookup_relabel_local S.tgt)))
  (fun C s₀ H₀ ex=>pts_nil) (fun C s₀ H₀ ex J nx=>by rw[cxE_no];exact he pins σ C s₀ H₀ ex J nx) hs I h (fun _ _ _ _ _ _ _ _ _ _ _ (z:False)=>z.elim) fun D C H' m4 s4 hn hJ _ _ _ _ _ _ q=>by
  show ∃m,s4.heap.Ns C m∧∀h',Heap.SameBut C s4.heap h'→EP X pins σ Q (.ref D) {s4 with heap:=h'}
  exact⟨m4,hn,fun h' hsb=>⟨.ref D,H',hJ h' hsb,rfl,q⟩⟩
theorem closL_stop {cells:List (Str×Addr)}:∀(names:List (Str×NameKind)) (fs:List (Str×Addr)) (acc:List (Str×Addr)),(names.filter fun p=>p.2==.free)=fs.map (fun q=>(q.1,NameKind.free))→(∀q∈fs,cells.lookup q.1=some q.2)→closL cells names acc=fs.reverse++acc
 |[],[],acc,_,_=>rfl
 |[],_::_,acc,h,_=>by cases h
 |(n,k)::r,fs,acc,h,hc=>by
  cases hk:k==NameKind.free with
  |false=>
   rw[List.filter_cons_of_neg (by show ¬(k==NameKind.free)=true;rw[hk];simp)]at h
   unfold closL
   rw[hk]
   exact closL_stop r fs acc h hc
  |true=>
   rw[List.filter_cons_of_pos (by exact hk)]at h
   cases fs with
   |nil=>cases h
   |cons q fs=>
    have h1:=(List.cons.inj h).1
    have h2:=(List.cons.inj h).2
    cases h1
    unfold closL
    rw[hk,hc q (by simp)]
    show closL cells r (q::acc)=_
    rw[closL_stop r fs (q::acc) h2 fun q' hq=>hc q' (by simp[hq])]
    simp
theorem clos_of {scope:Scope}{env:Env}(fs:List (Str×Addr))(hc:∀q∈fs,env.cells.lookup q.1=some q.2)(h:(scope.names.filter fun p=>p.2==.free)=fs.map (fun q=>(q.1,NameKind.free))):closureFor scope env=pure fs.reverse:=by
 rw[closL_eq (scope:=scope) (env:=env) fun p hp hf=>by
  have:p∈scope.names.filter fun p=>p.2==.free:=List.mem_filter.mpr ⟨hp,by rw[hf];rfl⟩
  rw[h]at this
  obtain⟨q,hq,e⟩:=List.mem_map.mp this
  rw[←e]
  exact⟨q.2,hc q hq⟩,closL_stop scope.names fs [] h hc,List.append_nil]
theorem Fun.okC {P:Program}{w:World}{K:PySem.W.Frag}{mg:Str→Option Value}{base:Heap}{x qual:Str}{st:Stmt}{f:Addr}{fd:FuncData}{N ps:List Str}{k:Nat}{sp:Sp}{cd:Value}(F:Fun K x qual st f fd)(S:FnScope N ps (defScope st))(hcode:fd.code=cd)(len:∀vs H Q E,sp vs H Q E→vs.length=ps.length)
  (hbody:∀(A:Around) (outer:List Env) (s:Shared) (H:Hp) (vs:List V) (Q:VK) (E:XK),Room k (A.deeper (envOfC qual (defScope st) s.heap.objs.size f cd))→sp vs H Q E→
   ∃t,PSs (cxOf CX0 P w K mg base N qual (defScope st) f cd A outer s H E).nox (defBody st) t∧t (Ends.of Q) (start N vs) H):FnOk P w K mg base CX0 (k+1) f fd ps sp:=by
 obtain⟨oc,od,kV,doc,pm,an,cdv,ct,osl,rfl,lk,hcd⟩:=F.ex
 have e:cdv=cd:=hcode
 subst e
 refine fn_of lk hcd S len fun A outer s H vs Q E hr hsp=>?_
 obtain⟨t,h,q⟩:=hbody A outer s H vs Q E hr hsp
 exact⟨t,h.nox,q⟩
end L2
namespace Fw
open PySem PySem.Spec PyProof.Rows L2
theorem comp_keys {H:Hp}{a:Addr}{o:Obj}{kvs:List (Key×V)}{tt:TT}{te:TE}{σ':L2.St}{Q:VK}(Pv:Nat→List V→Hp→Prop)(h0:Pv 0 [] H)(hl:∀i vs H,i≤kvs.length→Pv i vs H→H a=some (.frz o (.dK kvs))∧vs.length<sizeLine)
  (hs:∀i k v vs H2,i<kvs.length→kvs[i]?=some (k,v)→Pv i vs H2→tt (some (kV k)::σ') H2 fun b H4=>if b=true then te (some (kV k)::σ') H4 fun v H5=>Nx kvs.length i (Pv (i+1) (vs++[v]) H5) else Nx kvs.length i (Pv (i+1) vs H4))
  (hd:∀vs H2,Pv kvs.length vs H2→∀l,H2 l=none→Q (.ref l) (upd H2 l (.lst vs))):CompW (Itk a o kvs) tt te σ' Q H:=by
 refine⟨fun i m vs H=>m=kvs.length-i∧i≤kvs.length∧Pv i vs H,⟨kvs.length,by simp,Nat.zero_le _,h0⟩,?_⟩
 rintro i m vs H2 ⟨rfl,hi,p⟩
 obtain⟨q1,q2⟩:=hl i vs H2 hi p
 refine⟨q2,?_⟩
 by_cases hlt:i<kvs.length
 ·refine .inr ⟨⟨q1,hlt⟩,?_⟩
  rintro x H3 ⟨e,k,v,hk,rfl⟩
  subst e
  exact hs i k v vs _ hlt hk p
 ·have e:i=kvs.length:=by omega
  subst e
  exact .inl ⟨⟨q1,Nat.le_refl _⟩,hd vs H2 p⟩
def SameT (H H':Hp):Prop:=∀b o,(∀ps,o≠.tbl ps)→H b=some o→H' b=some o
theorem SameT.refl {H:Hp}:SameT H H:=fun _ _ _ h=>h
theorem SameT.trans {H H1 H2:Hp}(a:SameT H H1)(b:SameT H1 H2):SameT H H2:=fun c o n h=>b c o n (a c o n h)
theorem SameT.tups {H H':Hp}(e:SameT H H'):∀b xs,H b=some (.tup xs)→H' b=some (.tup xs):=fun b xs h=>e b _ (fun ps z=>by cases z) h
theorem SameT.dK {H H':Hp}(e:SameT H H'){b:Addr}{k:List (Key×V)}(h:H b=some (.dK k)):H' b=some (.dK k):=e b _ (fun ps z=>by cases z) h
theorem SameT.ins {H H':Hp}(e:SameT H H'){b C dx:Addr}{k:List (Str×V)}(h:H b=some (.ins C dx k)):H' b=some (.ins C dx k):=e b _ (fun ps z=>by cases z) h
theorem SameT.obj {H H':Hp}(e:SameT H H'){b c:Addr}{o:Obj}(h:H b=some (objO c o)):H' b=some (objO c o):=e b _ (fun ps z=>by
 have z':HO.ext _=HO.tbl ps:=z
 cases z') h
theorem DictL.sameT {H H':Hp}{d:Addr}{m:List (Str×T)}(h:DictL H d m)(s:SameT H H'):DictL H' d m:=let ⟨k,a,b⟩:=h;⟨k,s.dK a,b.mono s.tups⟩
theorem FcL.sameT {C s:Addr}{H H':Hp}{fm mm pm:List (Str×T)}(h:FcL C H s fm mm pm)(e:SameT H H'):FcL C H' s fm mm pm:=by
 obtain⟨dx,d1,d2,d3,h0,h1,h2,h3⟩:=h.ob
 exact⟨dx,d1,d2,d3,e.ins h0,h1.sameT e,h2.sameT e,h3.sameT e⟩
def KpT (Pt:Addr)(H H':Hp):Prop:=∀x ps,x≠Pt→H x=some (.tbl ps)→H' x=some (.tbl ps)
def TbOk (Pt:Addr)(q:Str)(pos:Pos)(H:Hp):Prop:=H Pt=some (.tbl #[])∨∃c' oc,H Pt=some (.tbl #[rawInt pos.line,rawInt pos.col, .ref c'])∧H c'=some (objO c' oc)∧CodeO oc q
theorem TbOk.same {Pt:Addr}{q:Str}{pos:Pos}{H H':Hp}(h:TbOk Pt q pos H)(e:Same H H'):TbOk Pt q pos H':=by
 rcases h with h|⟨c',oc,h1,h2,h3⟩
 ·exact .inl (e _ _ h)
 ·exact .inr ⟨c',oc,e _ _ h1,e _ _ h2,h3⟩
def formS (z:Str):List T→T
 |[]=>.str z
 |t::r=>.tup (.str z::t::r)
def gMd (gH:Str→List T→T)(hs:List Str)(m:List (Str×T))(z:Str)(ts:List T):T:=if z∈hs then gH z ts else formS (turnW m z) ts
abbrev s_kv:Stmt:=inClass (top 27) 6
def mdS:Stmt:=(defBody s_kv).getD 3 (.Pass ⟨0,0,0,0⟩)
def mdA:Arguments:=defArgs mdS
def mdB:List Stmt:=defBody mdS
def mdSc:Scope:=defScope mdS
def mdP:Pos:=match mdS with
 |.FunctionDef _ _ _ _ _ _ _ _ _ p=>p
 |_=>⟨0,0,0,0⟩
abbrev mdQ:Str:="Faces.kinds_of_vals"++".<locals>."++"made"
theorem sc_md:ClosScope ["head","inner","by","hides","kind_of_hide"] ["head","inner"] ["by","hides","kind_of_hide"] mdSc:=⟨rfl,rfl,rfl,by decide+kernel,rfl,by decide+kernel,by decide+kernel,by decide+kernel,by decide+kernel⟩
theorem turnW_len {m:List (Str×T)}(nm:NamesM m){z:Str}(h:z.length≤1000):(turnW m z).length≤3000:=by
 unfold turnW
 split
 ·next a b e=>
  have la:a.length≤z.length:=part_short (y:=".") (by rw[e];simp)
  have lb:b.length≤z.length:=part_short (y:=".") (by rw[e];simp)
  have:=side_len nm (Nat.le_trans la h)
  rw[len_app,len_app,dot_len]
  omega
 ·omega
section
variable {P:Program}{w:World}{K:PySem.W.Frag}{mg:Str→Option Value}{base:Heap}
set_option maxHeartbeats 2000000 in
theorem ok_md {kk:Nat}{H0:Hp}{fl c' b h fk:Addr}{cl:List (Str×Addr)}{doc pm ctv:Value}{oc fo:Obj}{fd' fdk:FuncData}{kb kh:List (Key×V)}{m:List (Str×T)}{hs:List Str}{A AH:Str→Prop}{gH:Str→List T→T}(hkk:5≤kk)
  (h2:Has P w K mg base 1 "formed" ["head","inner"] spFormed) (h3:Has P w K mg base 5 "turned_word" ["word","by"] spTW)
  (hc:CodeO oc mdQ) (CC:ClCells base ["by","hides","kind_of_hide"] cl [.ref b, .ref h, .ref fk]) (e1:H0 fl=some (objO fl (PySem.W.fnMade "made" mdQ mdA mdB mdSc cl doc pm c' ctv))) (e2:H0 c'=some (objO c' oc))
  (hb:H0 b=some (.dK kb)) (drb:DReps H0 kb m) (nm:NamesM m) (hh:H0 h=some (.dK kh)) (hk:∀z:Str,(valV kh (Sum.inr z)).isSome=decide (z∈hs))
  (ek:H0 fk=some (objO fk fo)) (ek2:fo.data=.func fd') (FK:FnOk P w K mg base CX0 kk fk fdk ["hide","inner"] (spMk AH H0 gH)) (bK:Binds K fdk ["hide","inner"] []) (hA:∀z,A z→if z∈hs then AH z else AtomW z):
  FnOk P w K mg base CX0 (kk+1) fl (PySem.W.fnX "made" mdQ mdA mdB mdSc cl .none .none doc pm none (.ref c') ctv) ["head","inner"] (spMk A H0 (gMd gH hs m)):=by
 obtain⟨vs0,tq,hd0,hv0⟩:=hc
 refine clos_def sc_md hd0 hv0 CC (fun vs H Q E hsp=>?_) (fun A' outer s H vs Q E hr hsp=>?_)
 ·obtain⟨z,li,us,ts,rfl,_⟩:=hsp
  rfl
 obtain⟨z,li,us,ts,rfl,s0,hli,rus,az,hz,l3,hnz,q⟩:=hsp
 have hu:=hu_of hr
 refine⟨s0 _ _ e1,s0 _ _ e2,_,pss_cons (ps_if (pt_cmp (pc_din hu (pv 0) (pv 3)) rfl) (pss_one (ps_ret (pe_callF (pv 4) (pa_cons (pv 0) (pa_cons (pv 1) pa_nil))))) pss_nil)
  (pss_one (ps_ret (pcall h2 hr (by omega) rfl (pa_cons (pcall h3 hr hkk rfl (pa_cons (pv 0) (pa_cons (pv 2) pa_nil))) (pa_cons (pv 1) pa_nil))))),?_⟩
 refine⟨_,rfl,_,rfl,h,_,rfl,DGet.k (k:=Sum.inr z) (s0 _ _ hh),_,rfl,?_⟩
 rw[hk z]
 have hz':=hA z az
 by_cases c:z∈hs
 ·rw[if_pos c]at hz'
  have eg:gMd gH hs m z ts=gH z ts:=if_pos c
  rw[eg]at q
  rw[decide_eq_true c]
  exact iteT ⟨fk,fo,fdk,fd',_,_,kk,rfl,s0 _ _ ek,ek2,hr,FK,bK,_,rfl,_,rfl,s0 _ _ ek,z,li,us,ts,rfl,s0,hli,rus,hz',hz,l3,hnz,q⟩
 ·rw[if_neg c]at hz'
  have eg:gMd gH hs m z ts=formS (turnW m z) ts:=if_neg c
  rw[eg]at q
  rw[decide_eq_false c]
  have tl:=turnW_len nm (show z.length≤1000 by omega)
  refine iteF ⟨_,rfl,_,rfl,z,b,kb,m,rfl,by omega,s0 _ _ hb,drb.mono (Same.tups s0),nm,hz',fun H1 s1=>?_⟩
  refine⟨_,rfl,turnW m z,li,us,ts,rfl,by omega,s1 _ _ hli,rus.same s1,by have:=rus.length;omega,fun v H2 s2 r=>q v H2 (s1.trans s2) ?_⟩
  cases ts with
  |nil=>exact r
  |cons t r'=>exact r
end
theorem md_free:(mdSc.names.filter fun p=>p.2==.free)=[(("by":Str),NameKind.free),("hides",NameKind.free),("kind_of_hide",NameKind.free)]:=by first|rfl|decide+kernel
abbrev nKv:List Str:=["self","given","kind_of_hide","by","hides","vals","made"]
theorem sc_kv:FnScope nKv ["self","given","kind_of_hide"] (defScope s_kv):=⟨rfl,rfl,rfl,by decide+kernel,rfl,by decide+kernel,by decide+kernel⟩
theorem kv_cells:(defScope s_kv).names.lookup ("by":Str)=some .cell∧(defScope s_kv).names.lookup ("hides":Str)=some .cell∧(defScope s_kv).names.lookup ("kind_of_hide":Str)=some .cell:=by decide+kernel
theorem ff_none {d1 d2 d3:Addr}:(ffl d1 d2 d3).lookup ("givers_of_face":Str)=none∧(ffl d1 d2 d3).lookup ("items_of_face":Str)=none:=⟨by first|rfl|(with_unfolding_all rfl)|kernel_rfl,by first|rfl|(with_unfolding_all rfl)|kernel_rfl⟩
theorem md_binds {K:PySem.W.Frag}{pm cdv ctv doc:Value}{cl:List (Str×Addr)}:Binds K (PySem.W.fnX "made" mdQ mdA mdB mdSc cl .none .none doc pm none cdv ctv) ["head","inner"] []:=.all fun us hl=>match us,hl with
 |[_,_],_=>rfl
def hidesOf (its:List It3):List Str:=(itemsM its "hide").map (·.1)
def byOf (gs:List (Str×T))(us:List Str):List (Str×T):=(gs.map (·.1)).zip (us.map T.str)
def AtW (AH:Str→Prop)(hs:List Str)(z:Str):Prop:=if z∈hs then AH z else AtomW z
def KdOk (A:Str→Prop)(t:T):Prop:=∃n,KD n t∧t.sz≤100000∧∀p∈pre t,∀z l,hdT p=.str z::l→A z
structure KvD (C:Addr)(H:Hp)(s gvn:Addr)(fm mm pm:List (Str×T))(F:Str)(us:List Str)(gs:List (Str×T))(its:List It3)(AH:Str→Prop):Prop where
 L:FcL C H s fm mm pm
 hg:H gvn=some (.tup ((F::us).map V.str))
 hu:∀u∈us,u.length≤80
 lk:∃a b,fm.lookup F=some (.tup (a::b::.tup (gs.map gvT)::its.map itT))
 e1:gs.length=us.length
 e2:gs.length≤100
 nd:(gs.map (·.1)).Nodup
 il:its.length≤1000
 nh:(hidesOf its).Nodup
 nv:((itemsM its "val").map (·.1)).Nodup
 kd:∀x∈itemsM its "val",KdOk (AtW AH (hidesOf its)) x.2
theorem KvD.sameT {C s gvn:Addr}{H H':Hp}{fm mm pm:List (Str×T)}{F:Str}{us:List Str}{gs:List (Str×T)}{its:List It3}{AH:Str→Prop}(h:KvD C H s gvn fm mm pm F us gs its AH)(e:SameT H H'):KvD C H' s gvn fm mm pm F us gs its AH :=
 {h with L:=h.L.sameT e,hg:=e.tups _ _ h.hg}
def kindsM (gH:Str→List T→T)(its:List It3)(gs:List (Str×T))(us:List Str):List (Str×T):=(itemsM its "val").map fun x=>(x.1,remT (gMd gH (hidesOf its) (byOf gs us)) x.2)
def spKV (kk:Nat)(P:Program)(w:World)(K:PySem.W.Frag)(mg:Str→Option Value)(C Pt:Addr)(base:Heap):Sp:=fun vs H Q _=>∃(s gvn fk:Addr) (fm mm pm:List (Str×T)) (F:Str) (us:List Str) (gs:List (Str×T)) (its:List It3) (AH:Str→Prop) (gH:Str→List T→T) (fo:Obj) (fd' fdk:FuncData),
 vs=[.ref s, .ref gvn, .ref fk]∧KvD C H s gvn fm mm pm F us gs its AH∧H fk=some (objO fk fo)∧fo.data=.func fd'∧(∀base' H2,Grown K mg base base'→SameT H H2→FnOk P w K mg base' CX0 kk fk fdk ["hide","inner"] (spMk AH H2 gH))∧Binds K fdk ["hide","inner"] []∧TbOk Pt mdQ mdP H∧
 ∀p H',SameT H H'→KpT Pt H H'→TbOk Pt mdQ mdP H'→DictL H' p (kindsM gH its gs us)→Q (.ref p) H'
theorem pe_ex3 {X:Cx}{e:Expr}{p:V→V→V→Prop}{t:V→V→V→TE}(h:∀v1 v2 v3,p v1 v2 v3→PE X e (t v1 v2 v3)):PE X e (fun σ H Q=>∃v1 v2 v3,p v1 v2 v3∧t v1 v2 v3 σ H Q) :=
 fun pins s σ H Q I ⟨v1,v2,v3,hp,hh⟩=>h v1 v2 v3 hp pins s σ H Q I hh
theorem lookup_some {α:Type}:∀{m:List (Str×α)} {z:Str},z∈m.map (·.1)→∃t,m.lookup z=some t
 |[],_,h=>by simp at h
 |(y,t)::r,z,h=>by
  rw[List.lookup_cons]
  cases e:z==y with
  |true=>exact⟨t,rfl⟩
  |false=>
   rcases List.mem_cons.mp h with q|q
   ·rw[show z=y from q]at e;simp at e
   ·exact lookup_some q
theorem DReps.keys {H:Hp}:∀{kvs:List (Key×V)} {m:List (Str×T)},DReps H kvs m→kvs.map (·.1)=m.map fun x=>(Sum.inr x.1:Key)
 |_,_, .nil=>rfl
 |_,_, .cons _ q=>by rw[List.map_cons,List.map_cons,q.keys]
theorem DReps.at {H:Hp}:∀{kvs:List (Key×V)} {m:List (Str×T)} {i:Nat} {k:Key} {v:V},DReps H kvs m→kvs[i]?=some (k,v)→∃x,m[i]?=some x∧k=Sum.inr x.1∧Rep H v x.2
 |_,_,_,_,_, .nil,h=>by simp at h
 |_,_,0,_,_, .cons r _,h=>by cases h;exact⟨_,rfl,rfl,r⟩
 |_,_,i+1,_,_, .cons _ q,h=>q.at (i:=i) h
theorem cc_of {base:Heap}{c1 c2 c3:Addr}{v1 v2 v3:V}(h:CellsAt base [(c1,v1),(c2,v2),(c3,v3)]):ClCells base ["by","hides","kind_of_hide"] [("kind_of_hide",c3),("hides",c2),("by",c1)] [v1,v2,v3]:=by
 obtain⟨h,nd⟩:=h
 have l1:([("kind_of_hide",c3),("hides",c2),("by",c1)]:List (Str×Addr)).lookup ("by":Str)=some c1:=by first|rfl|(with_unfolding_all rfl)|kernel_rfl
 have l2:([("kind_of_hide",c3),("hides",c2),("by",c1)]:List (Str×Addr)).lookup ("hides":Str)=some c2:=by first|rfl|(with_unfolding_all rfl)|kernel_rfl
 have l3:([("kind_of_hide",c3),("hides",c2),("by",c1)]:List (Str×Addr)).lookup ("kind_of_hide":Str)=some c3:=by first|rfl|(with_unfolding_all rfl)|kernel_rfl
 have nd':c1≠c2∧c1≠c3∧c2≠c3:=by
  simp only[List.map_cons,List.map_nil,List.nodup_cons,List.mem_cons,List.not_mem_nil,or_false,not_or]at nd
  exact⟨nd.1.1,nd.1.2,nd.2.1⟩
 have inv:∀y c,([("kind_of_hide",c3),("hides",c2),("by",c1)]:List (Str×Addr)).lookup y=some c→(y="by"∧c=c1)∨(y="hides"∧c=c2)∨(y="kind_of_hide"∧c=c3):=fun y c e=>by
  have m:=PySem.mem_of_lookup e
  simp only[List.mem_cons,List.not_mem_nil,or_false,Prod.mk.injEq]at m
  rcases m with m|m|m
  ·exact .inr (.inr m)
  ·exact .inr (.inl m)
  ·exact .inl m
 refine⟨rfl,fun j y v hy hv=>?_,fun y c e=>?_,fun y z c e1 e2=>?_⟩
 ·match j,hy,hv with
  |0,hy,hv=>cases hy;cases hv;obtain⟨o,u,a,b,c⟩:=h (c1,v1) (by simp);exact⟨c1,o,u,l1,a,b,c⟩
  |1,hy,hv=>cases hy;cases hv;obtain⟨o,u,a,b,c⟩:=h (c2,v2) (by simp);exact⟨c2,o,u,l2,a,b,c⟩
  |2,hy,hv=>cases hy;cases hv;obtain⟨o,u,a,b,c⟩:=h (c3,v3) (by simp);exact⟨c3,o,u,l3,a,b,c⟩
  |j+3,hy,hv=>cases hy
 ·rcases inv y c e with ⟨e,_⟩|⟨e,_⟩|⟨e,_⟩<;>rw[e]<;>simp
 ·rcases inv y c e1 with ⟨a,b⟩|⟨a,b⟩|⟨a,b⟩<;>rcases inv z c e2 with ⟨a',b'⟩|⟨a',b'⟩|⟨a',b'⟩<;>first
   |exact a.trans a'.symm
   |exact absurd (b.symm.trans b') nd'.1
   |exact absurd (b.symm.trans b') nd'.2.1
   |exact absurd (b.symm.trans b') nd'.2.2
   |exact absurd (b'.symm.trans b) nd'.1
   |exact absurd (b'.symm.trans b) nd'.2.1
   |exact absurd (b'.symm.trans b) nd'.2.2
def teKv (X:Cx)(c1 c2 c3:Addr)(sp:Heap→Sp)(σ:L2.St):TE:=fun τ H Q=>∃v1 v2 v3,(σ[3]?=some (some v1)∧σ[4]?=some (some v2)∧σ[2]?=some (some v3))∧
 tTup (tCons (tVar 0) (tCons (tCallZ X (fun _=>[(c1,v1),(c2,v2),(c3,v3)]) sp (tCons (tDGet (tVar 1) (tVar 0)) (tCons (tVar 2) tNil))) tNil)) τ H Q
section
variable {P:Program}{w:World}{K:PySem.W.Frag}{mg:Str→Option Value}{base:Heap}{f C cp Pt fG fI fr:Addr}{fd gG gI gr:FuncData}
set_option maxHeartbeats 4000000 in
theorem ok_kv {kk:Nat}(hkk:5≤kk)(F:Fun K "kinds_of_vals" "Faces.kinds_of_vals" s_kv f fd)(hcode:fd.code=.ref cp)(CH:PySem.W.CodeHd base cp Pt)(BM:BMain mg base)(Tx:TxC K C)(mD:mg "dict"=none)
  (h1:Has P w K mg base 1 "by_givers" ["givers","parts"] spBy)
  (MG:Meth K C "givers_of_face" fG) (GG:FnOk P w K mg base CX0 1 fG gG ["self","name"] (spGivers C)) (bG:Binds K gG ["self","name"] [])
  (MI:Meth K C "items_of_face" fI) (GI:FnOk P w K mg base CX0 2 fI gI ["self","name","sort"] (spItemsOf C)) (bI:Binds K gI ["self","name","sort"] [])
  (h2:∀base',Grown K mg base base'→Has P w K mg base' 1 "formed" ["head","inner"] spFormed) (h3:∀base',Grown K mg base base'→Has P w K mg base' 5 "turned_word" ["word","by"] spTW)
  (Fr:∀base',Grown K mg base base'→FnOk P w K mg base' CX0 (kk+2) fr gr ["kind","make"] (spRemade (kk+1) P w K mg base')) (br:Binds K gr ["kind","make"] []) (kr:PySem.W.keepIn K (.ref fr)=true) (mr:mg "remade"=some (.ref fr)):
  FnOk P w K mg base CX0 (kk+3) f fd ["self","given","kind_of_hide"] (spKV kk P w K mg C Pt base):=by
 refine F.okC sc_kv hcode (fun vs H Q E h=>?_) (fun A outer s0 H vs Q E hr h=>?_)
 ·obtain⟨s,gvn,fk,fm,mm,pm,Fn,us,gs,its,AH,gH,fo,fd',fdk,rfl,_⟩:=h
  rfl
 obtain⟨s,gvn,fk,fm,mm,pm,Fn,us,gs,its,AH,gH,fo,fd',fdk,rfl,D,ek,ek2,FK,bK,tb,q⟩:=h
 have hu:=hu_of hr
 obtain⟨k1,k2,k3⟩:=kv_cells
 obtain⟨c1,hc1⟩:=cell_has (n:=s0.heap.objs.size+1) k1
 obtain⟨c2,hc2⟩:=cell_has (n:=s0.heap.objs.size+1) k2
 obtain⟨c3,hc3⟩:=cell_has (n:=s0.heap.objs.size+1) k3
 have hr1:=hr.mono (show 1≤kk+2 by omega)
 have hr2:=hr.mono (show 2≤kk+2 by omega)
 refine⟨_,pss_cons (ps_set (i:=3) sc_kv.nd rfl (Or.inr rfl) (pcall h1 hr1 (by decide) rfl (pa_cons (pe_meth (pv 0) Tx.cs MG GG hr1 bG .nil pass0 (pa_cons (pe_ix (ixT K) (pv 1) pe_int) pa_nil)) (pa_cons (pe_slice sl_tup (pv 1) (po_some pe_int) po_none) pa_nil))))
  (pss_cons (ps_set (i:=4) sc_kv.nd rfl (Or.inr rfl) (pe_meth (pv 0) Tx.cs MI GI hr2 bI .nil pass0 (pa_cons (pe_ix (ixT K) (pv 1) pe_int) (pa_cons pe_str pa_nil))))
  (pss_cons (ps_set (i:=5) sc_kv.nd rfl (Or.inr rfl) (pe_meth (pv 0) Tx.cs MI GI hr2 bI .nil pass0 (pa_cons (pe_ix (ixT K) (pv 1) pe_int) (pa_cons pe_str pa_nil))))
  (pss_cons (ps_def (i:=6) (P:=Pt) (cp:=cp) (qual:=mdQ) (params:=mdA) (body:=mdB) (scope:=mdSc) (pos:=mdP) (clos:=[("kind_of_hide",c3),("hides",c2),("by",c1)]) sc_kv.nd rfl (Or.inr rfl) (by first|rfl|(with_unfolding_all rfl))
   (clos_of [("by",c1),("hides",c2),("kind_of_hide",c3)] (fun q hq=>by
    rcases List.mem_cons.mp hq with e|hq
    ·rw[e];exact hc1
    rcases List.mem_cons.mp hq with e|hq
    ·rw[e];exact hc2
    ·rw[List.mem_singleton.mp hq];exact hc3) md_free) rfl CH BM)
  (pss_one (ps_ret (pe_callTy (call_dict_l rfl) rfl mD boot_dict' (pa_cons (pe_frz (pe_lcZ (te:=teKv (cxOf CX0 P w K mg base nKv "Faces.kinds_of_vals" (defScope s_kv) f (.ref cp) A outer s0 H E).nox c1 c2 c3 (fun b'=>spRemade (kk+1) P w K mg b')) (defScope s_kv) nKv ["vals","made"] [5,6] (by decide+kernel) (pi_keys (pv 5))
   (fun pins σ C' s₀ H₀ ex J nx=>pe_ex3 fun v1 v2 v3 ⟨e1,e2,e3⟩=>by exact pe_tup (pa_cons (pv 0) (pa_cons (pe_callZ (lends_comp [("by",c1,v1),("hides",c2,v2),("kind_of_hide",c3,v3)] (by simp;decide+kernel) J nx (fun q hq=>by
     rcases List.mem_cons.mp hq with e|hq
     ·rw[e];exact⟨3,rfl,k1,hc1,rfl,e1⟩
     rcases List.mem_cons.mp hq with e|hq
     ·rw[e];exact⟨4,rfl,k2,hc2,rfl,e2⟩
     ·rw[List.mem_singleton.mp hq];exact⟨2,rfl,k3,hc3,rfl,e3⟩)) Fr br kr mr hr rfl (pa_cons (pe_dget hu (pv 1) (pv 0) (fun _ _=>rfl)) (pa_cons (pv 2) pa_nil))) pa_nil))))) pa_nil))))))),?_⟩
 obtain⟨a0,b0,lk⟩:=D.lk
 obtain⟨dx,d1,d2,d3,o0,o1,o2,o3⟩:=D.L.ob
 have lu:us.length≤100:=by have:=D.e1;have:=D.e2;omega
 refine⟨_,rfl,s,dx,_,rfl,o0,ff_none.1,_,rfl,gvn,_,0, .str Fn,rfl,rfl,SqT.of D.hg,atI_nat (j:=0) rfl,s,Fn,fm,mm,pm,a0,b0,_,_,rfl,D.L,lk,fun v rv=>?_⟩
 cases rv with
 |@tup ga gys _ hga rga=>
 refine⟨_,rfl,1,rfl,gvn,_,rfl,SqT.of D.hg,cutq_not (vs:=(Fn::us).map V.str) (n:=1) (by simp) (Nat.le_refl _),fun p1 hp1=>?_⟩
 rw[show cutV ((Fn::us).map V.str) (some 1) none=us.map V.str from cutq ((Fn::us).map V.str) 1]
 obtain⟨H1,eH1,s1,hp11⟩:=nw hp1 (.tup (us.map V.str))
 rw[eH1]
 refine⟨ga,p1,gys,gs,us,rfl,s1 _ _ hga,rga.same s1,hp11,D.e1,D.e2,D.nd,D.hu,fun b H2 kb s2 hb0 hb2 drb=>?_⟩
 have s02:=s1.trans s2
 refine⟨_,rfl,s,dx,_,rfl,s02 _ _ o0,ff_none.2,_,rfl,gvn,_,0, .str Fn,rfl,rfl,SqT.of (s02 _ _ D.hg),atI_nat (j:=0) rfl,s,Fn,"hide",fm,mm,pm,a0,b0,_,its,rfl,D.L.same s02,lk,D.il,D.nh,fun h H3 s3 hh0 ⟨kh,hh3,drh⟩=>?_⟩
 have s03:=s02.trans s3
 refine⟨_,rfl,s,dx,_,rfl,s03 _ _ o0,ff_none.2,_,rfl,gvn,_,0, .str Fn,rfl,rfl,SqT.of (s03 _ _ D.hg),atI_nat (j:=0) rfl,s,Fn,"val",fm,mm,pm,a0,b0,_,its,rfl,D.L.same s03,lk,D.il,D.nv,fun dv H4 s4 hv0 ⟨kv,hv4,drv⟩=>?_⟩
 have s04:=s03.trans s4
 have hb4:=s4 _ _ (s3 _ _ hb2)
 have hh4:=s4 _ _ hh3
 have drb4:=(drb.mono (Same.tups s3)).mono (Same.tups s4)
 have drh4:=drh.mono (Same.tups s4)
 have ek4:=s04 _ _ ek
 have tb4:=tb.same s04
 have nm:NamesM (byOf gs us):=names_zip D.hu
 have hk:∀z:Str,(valV kh (Sum.inr z)).isSome=decide (z∈hidesOf its):=fun z=>by
  rcases drh4.get z with ⟨g1,g2⟩|⟨v,t,g1,g2,_⟩
  ·rw[g1]
   refine(decide_eq_false fun hm=>?_).symm
   obtain⟨x,hx,e⟩:=List.mem_map.mp hm
   obtain⟨t,ht⟩:=lookup_some (m:=itemsM its "hide") (List.mem_map_of_mem (f:=(·.1)) hx)
   rw[e,g2]at ht
   cases ht
  ·rw[g1]
   exact(decide_eq_true (List.mem_map_of_mem (f:=(·.1)) (mem_of_lookup' g2))).symm
 have go:∀(H5:Hp) (fl c':Addr) (oc:Obj) (ctv doc:Value),SameT H4 H5→KpT Pt H4 H5→H5 fl=some (objO fl (PySem.W.fnMade "made" mdQ mdA mdB mdSc [("kind_of_hide",c3),("hides",c2),("by",c1)] doc ((mg "__name__").getD .none) c' ctv))→H5 c'=some (objO c' oc)→CodeO oc mdQ→H5 Pt=some (.tbl #[rawInt mdP.line,rawInt mdP.col, .ref c'])→
   tFrz (fun σ H' Q'=>tComp [5,6] (iKeys (tVar 5)) tTrue (teKv (cxOf CX0 P w K mg base nKv "Faces.kinds_of_vals" (defScope s_kv) f (.ref cp) A outer s0 H E).nox c1 c2 c3 (fun b'=>spRemade (kk+1) P w K mg b') σ) σ H' Q')
    [some (.ref s),some (.ref gvn),some (.ref fk),some (.ref b),some (.ref h),some (.ref dv),some (.ref fl)] H5 fun v H6=>rDictL [v] H6 Q:=by
  intro H5 fl c' oc ctv doc sT kT e1 e2 e3 e4
  have hv5:=sT.dK hv4
  have drv5:=drv.mono sT.tups
  refine⟨dv,kv,hv5,fun o=>?_⟩
  have hvn:H3 dv=none:=hv0
  have nv:∀{x:Addr} {u:HO},H3 x=some u→x≠dv:=fun e=>ne_of_none e hvn
  have nob:∀{x a:Addr} {u:Obj},H5 x=some (objO a u)→x≠dv:=fun{x a u} e z=>by
   rw[z,hv5]at e
   have e':some (HO.dK kv)=some (HO.ext _):=e
   cases e'
  have nPt:Pt≠dv:=fun z=>by rw[z,hv5]at e4;cases e4
  have kept:∀{H6:Hp},Same (upd H5 dv (.frz o (.dK kv))) H6→∀b o',b≠dv→H5 b=some o'→H6 b=some o':=fun s6 b o' n e=>s6 _ _ (by rw[upd_ne n];exact e)
  have H5tup:∀b xs,H5 b=some (.tup xs)→(upd H5 dv (.frz o (.dK kv))) b=some (.tup xs):=fun b xs e=>by rw[upd_ne (ne_of e hv5 (by intro z;cases z))];exact e
  have drvF:=drv5.mono H5tup
  have hfz:(upd H5 dv (.frz o (.dK kv))) dv=some (.frz o (.dK kv)):=upd_same
  have lkv:=drv.length
  have lim:(itemsM its "val").length≤1000:=by
   unfold itemsM
   rw[List.length_map]
   exact Nat.le_trans (List.length_filter_le _ _) D.il
  have fromH:∀{H6:Hp},Same (upd H5 dv (.frz o (.dK kv))) H6→SameT H H6:=fun s6 b o' n e=>kept s6 b o' (nv (s03 _ _ e)) (sT b o' n (s04 _ _ e))
  refine⟨_,rfl,dv,o,kv,rfl,hfz,comp_keys (fun i vs H'=>Same (upd H5 dv (.frz o (.dK kv))) H'∧PairsL H' vs ((kindsM gH its gs us).take i)) ⟨Same.refl _,by simp;exact .nil⟩ ?_ ?_ ?_⟩
  ·rintro i vs H' hi ⟨s6,r⟩
   refine⟨s6 _ _ hfz,small' ?_⟩
   rw[r.length,List.length_take]
   omega
  ·rintro i k v vs H6 hi hkv ⟨s6,r⟩
   obtain⟨x,hx,rfl,rx⟩:=drvF.at hkv
   have kx:(kindsM gH its gs us)[i]?=some (x.1,remT (gMd gH (hidesOf its) (byOf gs us)) x.2):=by
    unfold kindsM
    rw[List.getElem?_map,hx]
    rfl
   have k6:=kept s6
   have sT6:=fromH s6
   obtain⟨n,kd,sz,hw⟩:=D.kd x (List.mem_of_getElem? hx)
   refine tt1 (iteT ⟨_,_,_,⟨rfl,rfl,rfl⟩,_,rfl,_,rfl,_,rfl,dv,v,rfl, .inl ⟨kv,Sum.inr x.1, .inr ⟨o,s6 _ _ hfz⟩,rfl,?_⟩,_,rfl,fun base' g ca=>?_⟩)
   ·have nk:(kv.map (·.1)).Nodup:=by
     have e:kv.map (·.1)=(itemsM its "val").map fun x=>(Sum.inr x.1:Key):=drv.keys
     rw[e]
     exact nodup_keys D.nv
    exact(valV_self nk _ (List.mem_of_getElem? hkv)).symm
   ·refine⟨AtW AH (hidesOf its),v,fl,x.2,n,gMd gH (hidesOf its) (byOf gs us),_,_,_,rfl,rx.same s6,kd,sz,hw,k6 _ _ (nob e1) e1,rfl,ok_md hkk (h2 base' g) (h3 base' g) e3 (cc_of ca) (k6 _ _ (nob e1) e1) (k6 _ _ (nob e2) e2) (k6 _ _ (nv (s3 _ _ hb2)) (sT.dK hb4)) ((drb4.mono sT.tups).mono fun b xs e=>k6 _ _ (ne_of e hv5 (by intro z;cases z)) e) nm
     (k6 _ _ (nv hh3) (sT.dK hh4)) hk (sT6.obj ek) ek2 (FK base' H6 g sT6) bK (fun z hz=>hz),md_binds,fun v' H7 s7 rv'=>?_⟩
    refine⟨sml 2,fun p hp=>?_⟩
    have s8:=same_new hp (.tup [.str x.1,v'])
    refine nx hi ⟨(s6.trans s7).trans s8,?_⟩
    rw[take_next kx]
    exact((r.mono (Same.tups s7)).mono (Same.tups s8)).snoc upd_same (rv'.same s8)
  ·rintro vs H6 ⟨s6,r⟩ l hl0
   rw[List.take_of_length_le (by unfold kindsM;rw[List.length_map];omega)]at r
   have s7:=same_new hl0 (.lst vs)
   have s67:=s6.trans s7
   have nl:l≠dv:=fun z=>by rw[z,s6 _ _ hfz]at hl0;cases hl0
   refine⟨s67 _ _ hfz,?_⟩
   have k7:=kept s67
   have tu8:∀b xs,(upd H6 l (.lst vs)) b=some (.tup xs)→(upd (upd H6 l (.lst vs)) dv (.dK kv)) b=some (.tup xs):=fun b xs e=>by rw[upd_ne (ne_of e (s67 _ _ hfz) (by intro z;cases z))];exact e
   refine dict_pairs (l:=l) (by rw[upd_ne nl];exact upd_same) ((r.mono (Same.tups s7)).mono tu8) (by unfold kindsM;rw[List.map_map];exact D.nv) fun p H9 kvs s9 hp9 h9 dr9=>?_
   have k8:∀b o',b≠dv→H5 b=some o'→H9 b=some o':=fun b o' n e=>s9 _ _ (by rw[upd_ne n];exact k7 b o' n e)
   exact q p H9 (fun b o' n e=>k8 b o' (nv (s03 _ _ e)) (sT b o' n (s04 _ _ e))) (fun x ps n e=>k8 x _ (nv (s03 _ _ e)) (kT x ps n (s04 _ _ e))) (.inr ⟨c',oc,k8 _ _ nPt e4,k8 _ _ (nob e2) e2,e3⟩) ⟨kvs,h9,dr9⟩
 rcases tb4 with tb|⟨c',oc,tb,hcc,hco⟩
 ·refine⟨#[],tb,trivial, .inl ⟨rfl,fun fl c' oc ctv doc nc nf ncf hco=>?_⟩⟩
  have nP:∀{d:Addr} {o:HO},(∀ps,o≠.tbl ps)→H4 d=some o→d≠Pt:=fun n h z=>by rw[z,tb]at h;exact n _ (Option.some.inj h).symm
  have cP:c'≠Pt:=fun z=>by rw[z,tb]at nc;cases nc
  have fP:fl≠Pt:=fun z=>by rw[z,tb]at nf;cases nf
  refine go _ fl c' oc ctv doc (fun d o n h=>?_) (fun x ps n h=>?_) upd_same ?_ hco ?_
  ·rw[upd_ne (ne_of_none h nf),upd_ne (ne_of_none h nc),upd_ne (nP n h)];exact h
  ·rw[upd_ne (ne_of_none h nf),upd_ne (ne_of_none h nc),upd_ne n];exact h
  ·rw[upd_ne ncf];exact upd_same
  ·rw[upd_ne (Ne.symm fP),upd_ne (Ne.symm cP)];exact upd_same
 ·refine⟨_,tb,by trivial, .inr ⟨c',?_,fun fl ctv doc nf=>?_⟩⟩
  ·simp[codeAmong,rawInt]
  exact go _ fl c' oc ctv doc (fun d o n h=>by rw[upd_ne (ne_of_none h nf)];exact h) (fun x ps n h=>by rw[upd_ne (ne_of_none h nf)];exact h) upd_same (by rw[upd_ne (ne_of_none hcc nf)];exact hcc) hco (by rw[upd_ne (ne_of_none tb nf)];exact tb)
end
theorem tLam_tb {X:Cx}{Pt:Addr}{params:Arguments}{body:Expr}{scope:Scope}{clos:List (Str×Addr)}{pos:Pos}{q:Str}{σ:L2.St}{H:Hp}{Q:VK}(hq:X.env.qual++"<lambda>"=q)(tb:TbOk Pt q pos H)
  (k:∀(H1:Hp) (fl c':Addr) (oc:Obj) (ctv:Value),SameT H H1→KpT Pt H H1→H fl=none→H1 fl=some (objO fl (lamO X params body scope clos c' ctv))→H1 c'=some (objO c' oc)→CodeO oc q→H1 Pt=some (.tbl #[rawInt pos.line,rawInt pos.col, .ref c'])→Q (.ref fl) H1):tLam X Pt params body scope clos pos σ H Q:=by
 subst hq
 rcases tb with tb|⟨c',oc,tb,hcc,hco⟩
 ·refine⟨#[],tb,trivial, .inl ⟨rfl,fun fl c' oc ctv nc nf ncf hco=>?_⟩⟩
  have nP:∀{d:Addr} {o:HO},(∀ps,o≠.tbl ps)→H d=some o→d≠Pt:=fun n h z=>by rw[z,tb]at h;exact n _ (Option.some.inj h).symm
  have cP:c'≠Pt:=fun z=>by rw[z,tb]at nc;cases nc
  have fP:fl≠Pt:=fun z=>by rw[z,tb]at nf;cases nf
  refine k _ fl c' oc ctv (fun d o n h=>?_) (fun x ps n h=>?_) nf upd_same ?_ hco ?_
  ·rw[upd_ne (ne_of_none h nf),upd_ne (ne_of_none h nc),upd_ne (nP n h)];exact h
  ·rw[upd_ne (ne_of_none h nf),upd_ne (ne_of_none h nc),upd_ne n];exact h
  ·rw[upd_ne ncf];exact upd_same
  ·rw[upd_ne (Ne.symm fP),upd_ne (Ne.symm cP)];exact upd_same
 ·refine⟨_,tb,by trivial, .inr ⟨c',?_,fun fl ctv nf=>?_⟩⟩
  ·simp[codeAmong,rawInt]
  exact k _ fl c' oc ctv (fun d o n h=>by rw[upd_ne (ne_of_none h nf)];exact h) (fun x ps n h=>by rw[upd_ne (ne_of_none h nf)];exact h) nf upd_same (by rw[upd_ne (ne_of_none hcc nf)];exact hcc) hco (by rw[upd_ne (ne_of_none tb nf)];exact tb)
abbrev s_sb:Stmt:=inClass (top 27) 7
def lamE:Expr:=match(defBody s_sb).getD 0 (.Pass ⟨0,0,0,0⟩) with
 |.Assign _ (.Call _ as _ _) _=>as.getD 1 (.List [] ⟨0,0,0,0⟩)
 |_=>.List [] ⟨0,0,0,0⟩
def lamA:Arguments:=match lamE with
 |.Lambda a _ _ _=>a
 |_=>defArgs s_sb
def lamB:Expr:=match lamE with
 |.Lambda _ b _ _=>b
 |_=>lamE
def lamS:Scope:=match lamE with
 |.Lambda _ _ s _=>s
 |_=>defScope s_sb
def lamP:Pos:=match lamE with
 |.Lambda _ _ _ p=>p
 |_=>⟨0,0,0,0⟩
abbrev lamQ:Str:="Faces.shown_by"++".<locals>."++"<lambda>"
theorem sc_lam:ClosScope ["hide","inner","name"] ["hide","inner"] ["name"] lamS:=⟨rfl,rfl,rfl,by decide+kernel,rfl,by decide+kernel,by decide+kernel,by decide+kernel,by decide+kernel⟩
theorem lam_free:(lamS.names.filter fun p=>p.2==.free)=[(("name":Str),NameKind.free)]:=by first|rfl|decide+kernel
theorem lam_binds {K:PySem.W.Frag}{pm cdv ctv:Value}{c:Addr}:Binds K (PySem.W.kla_fn "<lambda>" lamQ lamA lamB lamS [("name",c)] pm cdv ctv) ["hide","inner"] []:=.all fun us hl=>match us,hl with
 |[_,_],_=>rfl
def gHd (name z:Str)(ts:List T):T:=formS (name++"."++z) ts
theorem cc_one {base:Heap}{c:Addr}{v:V}(h:CellsAt base [(c,v)]):ClCells base ["name"] [("name",c)] [v]:=by
 have inv:∀y d,([("name",c)]:List (Str×Addr)).lookup y=some d→y="name"∧d=c:=fun y d e=>by
  have m:=PySem.mem_of_lookup e
  simpa using m
 refine⟨rfl,fun j y v' hy hv=>?_,fun y d e=>by rw[(inv y d e).1];simp,fun y z d e1 e2=>by rw[(inv y d e1).1,(inv z d e2).1]⟩
 match j,hy,hv with
 |0,hy,hv=>cases hy;cases hv;obtain⟨o,u,a,b,e⟩:=h.1 (c,v) (by simp);exact⟨c,o,u,by first|rfl|(with_unfolding_all rfl)|kernel_rfl,a,b,e⟩
 |j+1,hy,hv=>cases hy
section
variable {P:Program}{w:World}{K:PySem.W.Frag}{mg:Str→Option Value}{base:Heap}{f C cp Pt PtM fK fS fF:Addr}{fd gK gS gF:FuncData}
theorem ok_lam {H0:Hp}{fl c' c:Addr}{pm ctv:Value}{oc:Obj}{name:Str}(h2:Has P w K mg base 1 "formed" ["head","inner"] spFormed)(hl:name.length≤80)
  (hc:CodeO oc lamQ) (CC:ClCells base ["name"] [("name",c)] [.str name]) (e1:H0 fl=some (objO fl (PySem.W.kla_obj "<lambda>" lamQ lamA lamB lamS [("name",c)] pm c' ctv))) (e2:H0 c'=some (objO c' oc)):
  FnOk P w K mg base CX0 2 fl (PySem.W.kla_fn "<lambda>" lamQ lamA lamB lamS [("name",c)] pm (.ref c') ctv) ["hide","inner"] (spMk (fun _=>True) H0 (gHd name)):=by
 obtain⟨vs0,tq,hd0,hv0⟩:=hc
 refine clos_expr sc_lam hd0 hv0 CC (fun vs H Q E hsp=>?_) (fun A' outer s H vs Q E hr hsp=>?_)
 ·obtain⟨z,li,us,ts,rfl,_⟩:=hsp
  rfl
 obtain⟨z,li,us,ts,rfl,s0,hli,rus,az,hz,l3,hnz,q⟩:=hsp
 refine⟨s0 _ _ e1,s0 _ _ e2,_,pcall h2 hr (by decide) rfl (pa_cons (pe_fsD (pv 2) (pv 0)) (pa_cons (pv 1) pa_nil)),?_⟩
 refine⟨_,rfl,name,rfl,by omega,_,rfl,z,rfl,by omega,_,rfl,name++"."++z,li,us,ts,rfl,by rw[len_app,len_app,dot_len];omega,hli,rus,by have:=rus.length;omega,fun v H2 s2 r=>q v H2 s2 ?_⟩
 cases ts with
 |nil=>exact r
 |cons t r'=>exact r
def shownM (name:Str)(its:List It3)(gs:List (Str×T))(us:List Str):List (Str×T):=(kindsM (gHd name) its gs us).map fun x=>(name++"."++x.1,schT x.2)
def spSB (C PtM PtL:Addr):Sp:=fun vs H Q _=>∃(s gvn:Addr) (fm mm pm:List (Str×T)) (F name:Str) (us:List Str) (gs:List (Str×T)) (its:List It3),vs=[.ref s, .str name, .ref gvn]∧KvD C H s gvn fm mm pm F us gs its (fun _=>True)∧name.length≤80∧(∀x∈itemsM its "val",x.1.length≤80)∧
 (∀x∈kindsM (gHd name) its gs us,∃n,KD n x.2∧x.2.sz≤100000)∧TbOk PtM mdQ mdP H∧TbOk PtL lamQ lamP H∧∀p H',SameT H H'→TbOk PtM mdQ mdP H'→TbOk PtL lamQ lamP H'→H p=none→DictL H' p (shownM name its gs us)→Q (.ref p) H'
abbrev nSb:List Str:=["self","name","given","kinds"]
theorem sc_sb:FnScope nSb ["self","name","given"] (defScope s_sb):=⟨rfl,rfl,rfl,by decide+kernel,rfl,by decide+kernel,by decide+kernel⟩
theorem sb_cell:(defScope s_sb).names.lookup ("name":Str)=some .cell:=by first|rfl|decide+kernel
theorem ff_kv {d1 d2 d3:Addr}:(ffl d1 d2 d3).lookup ("kinds_of_vals":Str)=none:=by first|rfl|(with_unfolding_all rfl)|kernel_rfl
theorem str_app_inj {a b c:Str}(h:a++b=a++c):b=c:=by
 have:=congrArg (fun x:Str=>x.cps.toList) h
 rw[cps_app,cps_app]at this
 exact str_ext (List.append_cancel_left this)
theorem TbOk.sameT {Pt:Addr}{q:Str}{pos:Pos}{H H':Hp}(h:TbOk Pt q pos H)(e:SameT H H')(n:∀ps,H Pt=some (.tbl ps)→H' Pt=some (.tbl ps)):TbOk Pt q pos H':=by
 rcases h with h|⟨c',oc,h1,h2,h3⟩
 ·exact .inl (n _ h)
 ·exact .inr ⟨c',oc,n _ h1,e.obj h2,h3⟩
set_option maxHeartbeats 4000000 in
theorem ok_sb (F:Fun K "shown_by" "Faces.shown_by" s_sb f fd)(hcode:fd.code=.ref cp)(CH:PySem.W.CodeHd base cp Pt)(BM:BMain mg base)(nPt:Pt≠PtM)(Tx:TxC K C)(mD:mg "dict"=none)
  (MK:Meth K C "kinds_of_vals" fK) (FK:∀base',Grown K mg base base'→FnOk P w K mg base' CX0 8 fK gK ["self","given","kind_of_hide"] (spKV 5 P w K mg C PtM base')) (bK:Binds K gK ["self","given","kind_of_hide"] [])
  (h2:∀base',Grown K mg base base'→Has P w K mg base' 1 "formed" ["head","inner"] spFormed) (h3:Has P w K mg base 3 "closed" ["kind"] spClosed):
  FnOk P w K mg base CX0 9 f fd ["self","name","given"] (spSB C PtM Pt):=by
 refine F.okC sc_sb hcode (fun vs H Q E h=>?_) (fun A outer s0 H vs Q E hr h=>?_)
 ·obtain⟨s,gvn,fm,mm,pm,Fn,name,us,gs,its,rfl,_⟩:=h
  rfl
 obtain⟨s,gvn,fm,mm,pm,Fn,name,us,gs,its,rfl,D,nl,vl,kd,tbM,tbL,q⟩:=h
 have hu:=hu_of hr
 obtain⟨c,hc⟩:=cell_has (n:=s0.heap.objs.size+1) sb_cell
 have hr3:=hr.mono (show 3≤8 by omega)
 refine⟨_,pss_cons (ps_set (i:=3) sc_sb.nd rfl (Or.inr rfl) (pe_methZ (cs:=cellOf 1 c) (sp:=fun b'=>spKV 5 P w K mg C PtM b') (lends_one (i:=1) (y:="name") rfl sb_cell hc rfl) (pv 0) Tx.cs MK FK hr bK
   (pa_cons (pv 2) (pa_cons (pe_lam (P:=Pt) (cp:=cp) (params:=lamA) (body:=lamB) (scope:=lamS) (pos:=lamP) (clos:=[("name",c)]) (clos_of [("name",c)] (fun q hq=>by rw[List.mem_singleton.mp hq];exact hc) lam_free) rfl CH BM) pa_nil))))
  (pss_one (ps_ret (pe_callTy (call_dict_l rfl) rfl mD boot_dict' (pa_cons (pe_frz (pe_lc (te:=tTup (tCons (tFsD (tVar 2) (tVar 0) ".") (tCons (tCall spClosed [] E0 (tCons (tDGet (tVar 1) (tVar 0)) tNil)) tNil))) (defScope s_sb) nSb ["kinds","name"] [3,1] (by decide+kernel) (pi_keys (pv 3)) (fun C' s₀ H₀ ex=>pts_nil)
   (fun C' s₀ H₀ ex=>by exact pe_tup (pa_cons (pe_fsD (pv 2) (pv 0)) (pa_cons (pcall h3 hr3 (by decide) rfl (pa_cons (pe_dget hu (pv 1) (pv 0) (fun _ _=>rfl)) pa_nil)) pa_nil))))) pa_nil)))),?_⟩
 obtain⟨dx,d1,d2,d3,o0,o1,o2,o3⟩:=D.L.ob
 refine⟨_,rfl,s,dx,_,rfl,o0,ff_kv,_,rfl,tLam_tb (by first|rfl|(with_unfolding_all rfl)) tbL fun H1 fl c' oc ctv sT kT nf e1 e2 e3 e4=>fun base' g ca=>?_⟩
 have ca':CellsAt base' [(c, .str name)]:=ca
 refine⟨s,gvn,fl,fm,mm,pm,Fn,us,gs,its,(fun _=>True),gHd name,_,_,_,rfl,D.sameT sT,e1,rfl,fun b2 H2 g2 sT2=>(ok_lam (h2 b2 (g.trans g2)) nl e3 (cc_one ⟨fun p hp=>?_,ca'.2⟩) (sT2.obj e1) (sT2.obj e2)).mono (by decide),lam_binds,tbM.sameT sT fun ps h=>kT _ _ (Ne.symm nPt) h,fun d H3 sT3 kT3 tb3 ⟨kv,hd3,dr3⟩=>?_⟩
 ·obtain⟨o,u,a1,a2,a3⟩:=ca'.1 p hp
  exact⟨o,u,g2.ext _ _ a1,a2,a3⟩
 have tbL3:TbOk Pt lamQ lamP H3:=.inr ⟨c',oc,kT3 _ _ nPt e4,sT3.obj e2,e3⟩
 refine⟨d,kv,hd3,fun o=>?_⟩
 have hfz:(upd H3 d (.frz o (.dK kv))) d=some (.frz o (.dK kv)):=upd_same
 have tupF:∀b xs,H3 b=some (.tup xs)→(upd H3 d (.frz o (.dK kv))) b=some (.tup xs):=fun b xs e=>by rw[upd_ne (ne_of e hd3 (by intro z;cases z))];exact e
 have drF:=dr3.mono tupF
 have lkv:=dr3.length
 have lim:(kindsM (gHd name) its gs us).length≤1000:=by
  unfold kindsM itemsM
  rw[List.length_map,List.length_map]
  exact Nat.le_trans (List.length_filter_le _ _) D.il
 have nkk:((kindsM (gHd name) its gs us).map (·.1)).Nodup:=by unfold kindsM;rw[List.map_map];exact D.nv
 refine⟨_,rfl,d,o,kv,rfl,hfz,comp_keys (fun i vs H'=>Same (upd H3 d (.frz o (.dK kv))) H'∧PairsL H' vs ((shownM name its gs us).take i)) ⟨Same.refl _,by simp;exact .nil⟩ ?_ ?_ ?_⟩
 ·rintro i vs H' hi ⟨s6,r⟩
  refine⟨s6 _ _ hfz,small' ?_⟩
  rw[r.length,List.length_take]
  omega
 ·rintro i k v vs H6 hi hkv ⟨s6,r⟩
  obtain⟨x,hx,rfl,rx⟩:=drF.at hkv
  have kx:(shownM name its gs us)[i]?=some (name++"."++x.1,schT x.2):=by
   unfold shownM
   rw[List.getElem?_map,hx]
   rfl
  have xm:=List.mem_of_getElem? hx
  obtain⟨n,kd',sz⟩:=kd x xm
  have xl:x.1.length≤80:=by
   obtain⟨y,hy,e⟩:=List.mem_map.mp (show x∈(itemsM its "val").map _ from xm)
   have:=vl y hy
   rw[←e]
   exact this
  have nk:(kv.map (·.1)).Nodup:=by
   rw[dr3.keys]
   exact nodup_keys nkk
  refine tt1 (iteT ⟨_,rfl,name,rfl,by omega,_,rfl,x.1,rfl,by omega,_,rfl,_,rfl,d,v,rfl, .inl ⟨kv,Sum.inr x.1, .inr ⟨o,s6 _ _ hfz⟩,rfl,(valV_self nk _ (List.mem_of_getElem? hkv)).symm⟩,v,x.2,n,rfl,rx.same s6,kd',sz,fun v' H7 s7 rv'=>?_⟩)
  refine⟨sml 2,fun p hp=>?_⟩
  have s8:=same_new hp (.tup [.str (name++"."++x.1),v'])
  refine nx hi ⟨(s6.trans s7).trans s8,?_⟩
  rw[take_next kx]
  exact((r.mono (Same.tups s7)).mono (Same.tups s8)).snoc upd_same (rv'.same s8)
 ·rintro vs H6 ⟨s6,r⟩ l hl0
  rw[List.take_of_length_le (by unfold shownM;rw[List.length_map];omega)]at r
  have s7:=same_new hl0 (.lst vs)
  have s67:=s6.trans s7
  have nld:l≠d:=fun z=>by rw[z,s6 _ _ hfz]at hl0;cases hl0
  refine⟨s67 _ _ hfz,?_⟩
  have tu8:∀b xs,(upd H6 l (.lst vs)) b=some (.tup xs)→(upd (upd H6 l (.lst vs)) d (.dK kv)) b=some (.tup xs):=fun b xs e=>by rw[upd_ne (ne_of e (s67 _ _ hfz) (by intro z;cases z))];exact e
  have k7:∀b o',H3 b=some o'→(upd (upd H6 l (.lst vs)) d (.dK kv)) b=some o':=fun b o' e=>by
   by_cases z:b=d
   ·rw[z]at e ⊢
    rw[hd3]at e
    rw[←e]
    exact upd_same
   ·rw[upd_ne z]
    exact s67 _ _ (by rw[upd_ne z];exact e)
  have ndS:((shownM name its gs us).map (·.1)).Nodup:=by
   unfold shownM
   rw[List.map_map]
   have e:(fun x:Str×T=>name++"."++x.1)=(fun z=>name++"."++z)∘(·.1):=rfl
   show((kindsM (gHd name) its gs us).map fun x=>name++"."++x.1).Nodup
   rw[e,←List.map_map]
   exact List.Pairwise.map _ (fun a b h z=>h (str_app_inj z)) nkk
  refine dict_pairs (l:=l) (by rw[upd_ne nld];exact upd_same) ((r.mono (Same.tups s7)).mono tu8) ndS fun p H9 kvs s9 hp9 h9 dr9=>?_
  have all:∀b o',H3 b=some o'→H9 b=some o':=fun b o' e=>s9 _ _ (k7 b o' e)
  have sT9:SameT H3 H9:=fun b o' _ e=>all b o' e
  have pn:H p=none:=by
   cases e:H p with
   |none=>rfl
   |some u=>
    exfalso
    have key:∀u',H3 p=some u'→False:=fun u' e'=>by have:=k7 p u' e';rw[hp9]at this;cases this
    by_cases ht:∃ps,u=.tbl ps
    ·obtain⟨ps,rfl⟩:=ht
     by_cases z1:p=Pt
     ·exact key _ (by rw[z1];exact kT3 _ _ nPt e4)
     ·by_cases z2:p=PtM
      ·rcases tb3 with t|⟨_,_,t,_⟩
       ·exact key _ (by rw[z2];exact t)
       ·exact key _ (by rw[z2];exact t)
      ·exact key _ (kT3 _ _ z2 (kT _ _ z1 e))
    ·exact key _ (sT3 _ _ (fun ps z=>ht ⟨ps,z⟩) (sT _ _ (fun ps z=>ht ⟨ps,z⟩) e))
  exact q p H9 ((sT.trans sT3).trans sT9) (tb3.sameT sT9 fun ps e=>all _ _ e) (tbL3.sameT sT9 fun ps e=>all _ _ e) pn ⟨kvs,h9,dr9⟩
abbrev s_sh:Stmt:=inClass (top 27) 8
theorem sc_sh:FnScope ["self","part"] ["self","part"] (defScope s_sh):=⟨rfl,rfl,rfl,by decide+kernel,rfl,by decide+kernel,by decide+kernel⟩
theorem ff_sh {d1 d2 d3:Addr}:(ffl d1 d2 d3).lookup ("shown_by":Str)=none∧(ffl d1 d2 d3).lookup ("face_of":Str)=none∧(ffl d1 d2 d3).lookup ("shows":Str)=none:=⟨by first|rfl|(with_unfolding_all rfl)|kernel_rfl,by first|rfl|(with_unfolding_all rfl)|kernel_rfl,by first|rfl|(with_unfolding_all rfl)|kernel_rfl⟩
def spShows (C PtM PtL:Addr):Sp:=fun vs H Q _=>∃(s:Addr) (fm mm pm:List (Str×T)) (F name:Str) (us:List Str) (gs:List (Str×T)) (its:List It3),vs=[.ref s, .str name]∧pm.lookup name=some (.tup ((F::us).map T.str))∧FcL C H s fm mm pm∧(∀gvn,H gvn=some (.tup ((F::us).map V.str))→KvD C H s gvn fm mm pm F us gs its (fun _=>True))∧name.length≤80∧(∀x∈itemsM its "val",x.1.length≤80)∧
 (∀x∈kindsM (gHd name) its gs us,∃n,KD n x.2∧x.2.sz≤100000)∧TbOk PtM mdQ mdP H∧TbOk PtL lamQ lamP H∧∀p H',SameT H H'→TbOk PtM mdQ mdP H'→TbOk PtL lamQ lamP H'→H p=none→DictL H' p (shownM name its gs us)→Q (.ref p) H'
theorem ok_sh (F:Fun K "shows" "Faces.shows" s_sh f fd)(Tx:TxC K C)(MF:Meth K C "face_of" fF)(GF:FnOk P w K mg base CX0 1 fF gF ["self","part"] (spFaceOf C))(bF:Binds K gF ["self","part"] [])
  (MS:Meth K C "shown_by" fS) (GS:FnOk P w K mg base CX0 9 fS gS ["self","name","given"] (spSB C PtM Pt)) (bS:Binds K gS ["self","name","given"] []):FnOk P w K mg base CX0 10 f fd ["self","part"] (spShows C PtM Pt):=by
 refine F.ok sc_sh (len:=fun vs H Q E h=>(by obtain⟨s,fm,mm,pm,Fn,name,us,gs,its,rfl,_⟩:=h;rfl)) (fun cdv A outer s0 H vs Q E hr h=>?_)
 obtain⟨s,fm,mm,pm,Fn,name,us,gs,its,rfl,lk,L,D,nl,vl,kd,tbM,tbL,q⟩:=h
 refine⟨_,pss_one (ps_ret (pe_meth (pv 0) Tx.cs MS GS hr bS .nil pass0 (pa_cons (pv 1) (pa_cons (pe_meth (pv 0) Tx.cs MF GF (hr.mono (by decide)) bF .nil pass0 (pa_cons (pv 1) pa_nil)) pa_nil)))),?_⟩
 obtain⟨dx,d1,d2,d3,o0,o1,o2,o3⟩:=L.ob
 refine⟨_,rfl,s,dx,_,rfl,o0,ff_sh.1,_,rfl,_,rfl,s,dx,_,rfl,o0,ff_sh.2.1,_,rfl,s,name,fm,mm,pm,_,rfl,L,lk,fun v rv=>?_⟩
 cases rv with
 |@tup gvn ys _ hg rg=>
  have e:ys=(Fn::us).map V.str:=Reps.texts rg
  subst e
  exact⟨s,gvn,fm,mm,pm,Fn,name,us,gs,its,rfl,D gvn hg,nl,vl,kd,tbM,tbL,q⟩
end
def StOk (H:Hp)(st:Addr):Prop:=∃a b:Int,H st=some (.lst [.int a, .int b])
def Grow (st:Addr)(H H':Hp):Prop:=(∀b o,b≠st→H b=some o→H' b=some o)∧StOk H' st
theorem Grow.refl {st:Addr}{H:Hp}(h:StOk H st):Grow st H H:=⟨fun _ _ _ e=>e,h⟩
theorem Grow.trans {st:Addr}{H H1 H2:Hp}(a:Grow st H H1)(b:Grow st H1 H2):Grow st H H2:=⟨fun c o hc e=>b.1 c o hc (a.1 c o hc e),b.2⟩
theorem Grow.ok {st:Addr}{H H':Hp}(a:Grow st H H'):StOk H' st:=a.2
theorem StOk.same {st:Addr}{H H':Hp}(h:StOk H st)(e:Same H H'):StOk H' st:=by
 obtain⟨a,b,h3⟩:=h
 exact⟨a,b,e _ _ h3⟩
theorem grow_same {st:Addr}{H H':Hp}(h:StOk H st)(e:Same H H'):Grow st H H':=⟨fun b o _ q=>e b o q,h.same e⟩
theorem StOk.ne_tup {st b:Addr}{H:Hp}{xs:List V}(h:StOk H st)(e:H b=some (.tup xs)):b≠st:=by
 obtain⟨_,_,h3⟩:=h
 exact ne_of e h3 (by intro z;cases z)
theorem StOk.ne_none {st b:Addr}{H:Hp}(h:StOk H st)(e:H b=none):b≠st:=by
 obtain⟨_,_,h3⟩:=h
 exact Ne.symm (ne_of_none h3 e)
theorem Grow.tups {st:Addr}{H H':Hp}(a:Grow st H H')(h:StOk H st):∀b xs,H b=some (.tup xs)→H' b=some (.tup xs):=fun b xs e=>a.1 b _ (h.ne_tup e) e
theorem Rep.grow {st:Addr}{H H':Hp}{v:V}{t:T}(r:Rep H v t)(a:Grow st H H')(h:StOk H st):Rep H' v t:=r.mono (a.tups h)
theorem Reps.grow {st:Addr}{H H':Hp}{vs:List V}{ts:List T}(r:Reps H vs ts)(a:Grow st H H')(h:StOk H st):Reps H' vs ts:=r.mono (a.tups h)
def spState:Sp:=fun vs H Q _=>∃(c n:Int),vs=[.int c, .int n]∧∀p H',Same H H'→H p=none→StOk H' p→Q (.ref p) H'
def spNext:Sp:=fun vs H Q _=>∃(st:Addr) (m:Int),vs=[.ref st, .int m]∧StOk H st∧0<m∧m<1000000∧∀(d:Int) H',0≤d→d<m→Grow st H H'→Q (.int d) H'
def spSum (K:PySem.W.Frag):Sp:=fun vs H Q _=>∃(a:Addr) (ns:List Int),vs=[.ref a]∧SqL K H a (ns.map V.int)∧ns.length≤63∧∀i H',Same H H'→Q (.int i) H'
section
variable {P:Program}{w:World}{K:PySem.W.Frag}{mg:Str→Option Value}{base:Heap}{f:Addr}{fd:FuncData}
abbrev s_state:Stmt:=top 29
theorem sc_state:FnScope ["_law_cell","_law_way","_law_mixed"] ["_law_cell","_law_way"] (defScope s_state):=⟨rfl,rfl,rfl,by decide+kernel,rfl,by decide+kernel,by decide+kernel⟩
theorem ok_state (F:Fun K "_law_state" "_law_state" s_state f fd):FnOk P w K mg base CX0 1 f fd ["_law_cell","_law_way"] spState:=by
 refine F.ok sc_state (len:=fun vs H Q E h=>(by obtain⟨c,n,rfl,_⟩:=h;rfl)) (fun cdv A outer s H vs Q E hr h=>?_)
 obtain⟨c,n,rfl,q⟩:=h
 refine⟨_,pss_cons (pset 2 sc_state.nd (pe_op op_mod (pe_op op_add (pe_op op_mul (pe_op op_mod (pv 0) pe_int) pe_int) pe_int) pe_int))
  (pss_cons (ps_if (pt_cmpR op_eq (pe_op op_mod (pv 1) pe_int) pe_int (nomark _)) (pss_one (ps_ret (pe_lst (pa_cons (pe_op op_mod (pv 0) (pe_op op_pow pe_int pe_int)) (pa_cons (pv 2) pa_nil))))) pss_nil)
  (pss_one (ps_ret (pe_lst (pa_cons pe_int (pa_cons (pv 2) pa_nil)))))),?_⟩
 refine⟨_,rfl,_,_,rfl,rfl,(by show(0:Int)<2305843009213693951;decide),_,_,rfl,rfl, .inr ⟨by decide,by decide⟩,_,_,rfl,rfl,_,_,rfl,rfl,(by show(0:Int)<2305843009213693951;decide),?_⟩
 refine⟨_,rfl,_,_,rfl,rfl,(by show(0:Int)<2;decide),rfl,_,rfl,ite2 (fun _=>?_) (fun _=>?_)⟩
 ·refine⟨_,rfl,_,_,rfl,rfl,⟨by decide,by decide,by decide⟩,_,_,rfl,rfl,(by show(0:Int)<10^60;decide),_,rfl,sml 2,fun p hp=>q p _ (same_new hp _) hp ⟨_,_,upd_same⟩⟩
 ·exact⟨_,rfl,sml 2,fun p hp=>q p _ (same_new hp _) hp ⟨_,_,upd_same⟩⟩
abbrev s_next:Stmt:=top 30
theorem sc_next:FnScope ["_law_state_here","_law_many","_law_got"] ["_law_state_here","_law_many"] (defScope s_next):=⟨rfl,rfl,rfl,by decide+kernel,rfl,by decide+kernel,by decide+kernel⟩
theorem ok_next (F:Fun K "_law_next" "_law_next" s_next f fd):FnOk P w K mg base CX0 1 f fd ["_law_state_here","_law_many"] spNext:=by
 refine F.ok sc_next (len:=fun vs H Q E h=>(by obtain⟨st,m,rfl,_⟩:=h;rfl)) (fun cdv A outer s H vs Q E hr h=>?_)
 obtain⟨st,m,rfl,hs,m0,m1,q⟩:=h
 obtain⟨a,b,hst⟩:=id hs
 refine⟨_,pss_cons (ps_if (pt_cmpR op_gt (pe_ix (ixL K) (pv 0) pe_int) pe_int (nomark _))
   (pss_cons (pset 2 sc_next.nd (pe_op op_mod (pe_ix (ixL K) (pv 0) pe_int) (pv 1)))
   (pss_cons (ps_asg (pe_op op_fdiv (pe_ix (ixL K) (pv 0) pe_int) (pv 1)) (pg_sub (pv 0) pe_int set_list))
   (pss_one (ps_ret (pv 2))))) pss_nil)
  (pss_cons (ps_asg (pe_op op_mod (pe_op op_add (pe_op op_mul (pe_ix (ixL K) (pv 0) pe_int) pe_int) pe_int) pe_int) (pg_sub (pv 0) pe_int set_list))
  (pss_one (ps_ret (pe_op op_mod (pe_op op_fdiv (pe_ix (ixL K) (pv 0) pe_int) pe_int) (pv 1))))),?_⟩
 refine⟨_,rfl,st,_,0, .int a,rfl,rfl,SqL.of hst,atI_nat (j:=0) rfl,_,_,rfl,rfl,_,rfl,ite2 (fun c=>?_) (fun c=>?_)⟩
 ·refine⟨_,rfl,st,_,0, .int a,rfl,rfl,SqL.of hst,atI_nat (j:=0) rfl,_,rfl,a,m,rfl,rfl,m0,?_⟩
  refine⟨_,rfl,st,_,0, .int a,rfl,rfl,SqL.of hst,atI_nat (j:=0) rfl,_,rfl,a,m,rfl,rfl,⟨m0,by omega⟩,?_⟩
  refine⟨_,rfl,st,_,0,0,rfl,rfl,hst,rfl,?_⟩
  exact⟨_,rfl,q _ _ (Int.emod_nonneg _ (by omega)) (Int.emod_lt_of_pos _ m0) ⟨fun b' o hb e=>by rw[upd_ne hb];exact e,_,_,upd_same⟩⟩
 ·refine⟨_,rfl,st,_,1, .int b,rfl,rfl,SqL.of hst,atI_nat (j:=1) rfl,_,_,rfl,rfl, .inr ⟨by decide,by decide⟩,_,_,rfl,rfl,_,_,rfl,rfl,(by show(0:Int)<2305843009213693951;decide),?_⟩
  refine⟨_,rfl,st,_,1,1,rfl,rfl,hst,rfl,?_⟩
  refine⟨_,rfl,st,_,1, .int _,rfl,rfl,SqL.of upd_same,atI_nat (j:=1) rfl,_,_,rfl,rfl,⟨by decide,by decide⟩,_,rfl,_,_,rfl,rfl,m0,?_⟩
  exact q _ _ (Int.emod_nonneg _ (by omega)) (Int.emod_lt_of_pos _ m0) ⟨fun b' o hb e=>by rw[upd_ne hb];exact e,_,_,upd_same⟩
abbrev s_sum:Stmt:=top 31
theorem sc_sum:FnScope ["_law_script","_law_total","_law_cell"] ["_law_script"] (defScope s_sum):=⟨rfl,rfl,rfl,by decide+kernel,rfl,by decide+kernel,by decide+kernel⟩
theorem ok_sum (F:Fun K "_law_sum" "_law_sum" s_sum f fd)(ml:mg "len"=none):FnOk P w K mg base CX0 1 f fd ["_law_script"] (spSum K):=by
 refine F.ok sc_sum (len:=fun vs H Q E h=>(by obtain⟨a,ns,rfl,_⟩:=h;rfl)) (fun cdv A outer s H vs Q E hr h=>?_)
 obtain⟨a,ns,rfl,hS,h63,q⟩:=h
 refine⟨_,pss_cons (pset 1 sc_sum.nd (pe_callB (clen K) rfl ml PySem.boot_len (pa_cons (pv 0) pa_nil)))
  (pss_cons (ps_for PassesOwn.never rfl (piL K (pe_slice sl_list (pv 0) po_none (po_some pe_int))) (pg_name (i:=2) sc_sum.nd rfl (Or.inl rfl)) (pss_one (pset 1 sc_sum.nd
   (pe_op op_mod (pe_op op_add (pe_op op_mul (pv 1) pe_int) (pv 2)) (pe_op op_pow pe_int pe_int)))))
  (pss_one (ps_ret (pv 1)))),?_⟩
 refine⟨_,rfl,a,_,rfl, .inl hS,_,rfl,200,rfl,a,_,rfl,hS,fun p hp=>?_⟩
 obtain⟨ms,hms⟩:∃ms:List Int,cutV (ns.map V.int) none (some 200)=ms.map V.int:=by
  unfold cutV
  rw[←List.map_drop,←List.map_take]
  exact⟨_,rfl⟩
 rw[hms]
 obtain⟨H1,eH1,s1,hp1⟩:=nw hp (.lst (ms.map V.int))
 rw[eH1]
 refine⟨p,rfl,⟨_,SqL.of hp1⟩,for_list (xs:=ms.map V.int) (fun i σ H'=>H'=H1∧∃(x:Int) (o:Option V),σ=[some (.ref a),some (.int x),o]) ⟨rfl,_,none,rfl⟩ ?_ ?_ ?_⟩
 ·rintro i σ H' _ ⟨rfl,_⟩
  exact SqL.of hp1
 ·rintro i x σ H' hx ⟨rfl,y,o,rfl⟩
  rw[List.getElem?_map]at hx
  cases hn:ms[i]? with
  |none=>rw[hn]at hx;cases hx
  |some n=>
   rw[hn]at hx
   cases hx
   refine⟨_,rfl,_,_,rfl,rfl, .inr ⟨by decide,by decide⟩,_,rfl,_,_,rfl,rfl,_,_,rfl,rfl,⟨by decide,by decide,by decide⟩,_,_,rfl,rfl,(by show(0:Int)<10^60;decide),?_⟩
   exact⟨rfl,_,_,rfl⟩
 ·rintro σ H' ⟨rfl,x,o,rfl⟩
  exact⟨_,rfl,q x _ s1⟩
end
def hL:List Str:=["ha","hb","hc","hd","he","hf","hg","hh","hi","hj"]
def vL:List Str:=["va","vb","vc","vd","ve","vf","vg","vh","vi","vj","vk"]
def flatL:List (Str×Nat):=[("num",0),("?a",0),("?b",0),("opt",1),("duo",2)]
def W0:List Str:=(["->","num","?a","?b","opt","duo"]:List Str)++hL++hL.map (fun z=>("X.":Str)++z)++hL.map (fun z=>("Z.":Str)++z)
def PN:List Str:=["Pa","Pb","Pc","Pd","Pe","Qa","Qb"]
def dotB (z:Str):Bool:=!(Builtin.Str.occurrences z "." 0 z.length 1).isEmpty
def qB (z:Str):Bool:=z.cps.toList.head?==some 63
def wdB (z:Str):Bool:=decide (z.length≤10)&&match Txt.split z "." with
 |[y]=>decide (y=z)&& !pathB z&& !dotB z
 |[a,b]=>pathB z&&dotB z&& !qB a&&decide (z=a++"."++b)
 |_=>false
theorem W0_ok:W0.all wdB=true:=by decide+kernel
theorem PN_ok:PN.all (fun z=>decide (z.length=2)&& !qB z)=true:=by decide+kernel
structure Wd (z:Str):Prop where
 len:z.length≤10
 at_:AtomW z
 one:dotB z=false→Txt.split z "."=[z]
 two:dotB z=true→∃a b,Txt.split z "."=[a,b]∧qB a=false∧z=a++"."++b
theorem wd_of {z:Str}(h:z∈W0):Wd z:=by
 have h0:=List.all_eq_true.mp W0_ok z h
 unfold wdB at h0
 rw[Bool.and_eq_true]at h0
 obtain⟨h1,h2⟩:=h0
 have h1:=of_decide_eq_true h1
 split at h2
 ·next y e=>
  simp only[Bool.and_eq_true,Bool.not_eq_true',decide_eq_true_eq]at h2
  obtain⟨⟨e1,e2⟩,e3⟩:=h2
  subst e1
  exact⟨h1, .inl ⟨e,e2⟩,(fun _=>e),(fun h=>by rw[e3]at h;cases h)⟩
 ·next a b e=>
  simp only[Bool.and_eq_true,Bool.not_eq_true',decide_eq_true_eq]at h2
  obtain⟨⟨⟨e1,e2⟩,e3⟩,e4⟩:=h2
  exact⟨h1, .inr ⟨a,b,e,e1⟩,(fun h=>by rw[e2]at h;cases h),fun _=>⟨a,b,e,e3,e4⟩⟩
 ·cases h2
theorem pn_of {z:Str}(h:z∈PN):z.length=2∧qB z=false:=by
 have:=List.all_eq_true.mp PN_ok z h
 simpa using this
theorem nq_of {z:Str}(h:qB z=false)(l:z.length≤60):NQ z:=⟨fun e=>by unfold qB at h;rw[e]at h;simp at h,l⟩
theorem q_app {a b:Str}(h:qB a=false)(l:1≤a.length):qB (a++b)=false:=by
 unfold qB at h ⊢
 rw[cps_app]
 cases e:a.cps.toList with
 |nil=>
  have:=len_toList a
  rw[e]at this
  simp at this
  omega
 |cons x r=>rw[e]at h;exact h
inductive DrK (at_:List (Str×Nat)):Nat→T→Prop where
 |leaf {n:Nat} {z:Str} (h:(z,0)∈at_):DrK at_ n (.str z)
 |arr {n:Nat} {a b:T} (h1:DrK at_ n a) (h2:DrK at_ n b):DrK at_ (n+1) (.tup [.str "->",a,b])
 |app {n:Nat} {z:Str} {ts:List T} (h:(z,ts.length)∈at_) (h1:1≤ts.length) (hk:∀t∈ts,DrK at_ n t):DrK at_ (n+1) (.tup (.str z::ts))
structure AtOk (at_:List (Str×Nat)):Prop where
 w:∀p∈at_,p.1∈W0∧p.2≤2∧(1≤p.2→qB p.1=false)
 nd:(at_.map (·.1)).Nodup
 na:("->":Str)∉at_.map (·.1)
theorem arrow_w:("->":Str)∈W0∧qB "->"=false:=by decide+kernel
theorem DrK.form {at_:List (Str×Nat)}(A:AtOk at_){n:Nat}{t:T}(d:DrK at_ n t):(∃z,t=.str z∧(z,0)∈at_)∨∃(z:Str) (ts:List T) (m:Nat),n=m+1∧t=.tup (.str z::ts)∧z∈W0∧qB z=false∧1≤ts.length∧ts.length≤2∧(∀t∈ts,DrK at_ m t)∧(z="->"∨(z,ts.length)∈at_):=by
 cases d with
 |leaf h=>exact .inl ⟨_,rfl,h⟩
 |@arr m a b h1 h2=>exact .inr ⟨"->",[a,b],m,rfl,rfl,arrow_w.1,arrow_w.2,(by show 1≤2;decide),(by show 2≤2;decide),(fun t ht=>by
   rcases List.mem_cons.mp ht with e|ht
   ·rw[e];exact h1
   ·rw[List.mem_singleton.mp ht];exact h2), .inl rfl⟩
 |@app m z ts h h1 hk=>
  obtain⟨a,b,c⟩:=A.w _ h
  exact .inr ⟨z,ts,m,rfl,rfl,a,c h1,h1,b,hk, .inr h⟩
theorem DrK.ind {at_:List (Str×Nat)}(A:AtOk at_){P:Nat→T→Prop}(h1:∀n z,(z,0)∈at_→P n (.str z))
  (h2:∀m z ts,z∈W0→qB z=false→1≤ts.length→ts.length≤2→(∀t∈ts,DrK at_ m t∧P m t)→(z="->"∨(z,ts.length)∈at_)→P (m+1) (.tup (.str z::ts))):∀{n:Nat} {t:T},DrK at_ n t→P n t:=by
 intro n
 induction n with
 |zero=>
  intro t d
  rcases d.form A with ⟨z,rfl,h⟩|⟨z,ts,m,e,_⟩
  ·exact h1 _ z h
  ·cases e
 |succ n ih=>
  intro t d
  rcases d.form A with ⟨z,rfl,h⟩|⟨z,ts,m,e,rfl,a,b,c,d',hk,f⟩
  ·exact h1 _ z h
  ·cases e
   exact h2 _ z ts a b c d' (fun t ht=>⟨hk t ht,ih (hk t ht)⟩) f
def BD:Nat→Nat
 |0=>1
 |n+1=>2+2*BD n
theorem BD_pos:∀n,1≤BD n
 |0=>Nat.le_refl 1
 |n+1=>by show 1≤2+2*BD n;omega
theorem szs_two {b:Nat}:∀{ts:List T},(∀t∈ts,t.sz≤b)→szs ts≤ts.length*b
 |[],_=>by simp[szs]
 |t::r,h=>by
  have h1:=h t (by simp)
  have h2:=szs_two (ts:=r) fun t ht=>h t (by simp[ht])
  simp only[szs,List.length_cons,Nat.succ_mul]
  omega
theorem DrK.kd {at_:List (Str×Nat)}(A:AtOk at_){n:Nat}{t:T}(d:DrK at_ n t):KD n t∧t.sz≤BD n∧∀p∈pre t,∀z l,hdT p=.str z::l→AtomW z:=by
 refine DrK.ind A (P:=fun n t=>KD n t∧t.sz≤BD n∧∀p∈pre t,∀z l,hdT p=.str z::l→AtomW z) (fun n z h=>?_) (fun m z ts hw hq h1 h2 hk _=>?_) d
 ·have w:Wd z:=wd_of (A.w _ h).1
  refine⟨.leaf (by have:=w.len;omega),BD_pos n,fun p hp z' l e=>?_⟩
  rw[List.mem_singleton.mp (show p∈[T.str z] from hp)]at e
  cases e
  exact w.at_
 ·have w:=wd_of hw
  refine⟨.tup (nq_of hq (by have:=w.len;omega)) h1 (by omega) fun k hk'=>(hk k hk').2.1,?_,fun p hp z' l e=>?_⟩
  ·have:=szs_two (b:=BD m) (ts:=ts) fun t ht=>(hk t ht).2.2.1
   have h3:ts.length*BD m≤2*BD m:=Nat.mul_le_mul_right _ h2
   show(T.tup (.str z::ts)).sz≤2+2*BD m
   simp only[T.sz,szs]
   omega
  ·rcases List.mem_cons.mp (show p∈T.tup (.str z::ts)::pres ts from hp) with e'|hp
   ·rw[e']at e
    cases e
    exact w.at_
   ·obtain⟨k,hk',hp'⟩:=mem_pres hp
    exact(hk k hk').2.2.2 p hp' z' l e
structure ByOk (m:List (Str×T)):Prop where
 h:∀x∈m,∃b∈PN,x.2=.str b
theorem ByOk.nm {m:List (Str×T)}(h:ByOk m):NamesM m:=fun x hx=>by
 obtain⟨b,hb,e⟩:=h.h x hx
 exact⟨b,e,by have:=(pn_of hb).1;omega⟩
theorem turn_ok {m:List (Str×T)}(B:ByOk m){z:Str}(w:Wd z):(turnW m z).length≤40∧(qB z=false→qB (turnW m z)=false):=by
 cases e:dotB z with
 |false=>
  have e1:=w.one e
  have ew:turnW m z=z:=by unfold turnW;rw[e1]
  rw[ew]
  exact⟨by have:=w.len;omega,id⟩
 |true=>
  obtain⟨a,b,e1,e2,e3⟩:=w.two e
  have ew:turnW m z=sideS m a++"."++b:=by unfold turnW;rw[e1]
  rw[ew]
  have la:a.length≤z.length:=part_short (y:=".") (by rw[e1];simp)
  have lb:b.length≤z.length:=part_short (y:=".") (by rw[e1];simp)
  have ls:(sideS m a).length≤10∧qB (sideS m a)=false:=by
   unfold sideS
   cases g:m.lookup a with
   |none=>exact⟨by have:=w.len;show a.length≤10;omega,e2⟩
   |some t=>
    obtain⟨u,hu,hb⟩:=B.h (a,t) (mem_of_lookup' g)
    have hb':t=.str u:=hb
    subst hb'
    have:=pn_of hu
    exact⟨by show u.length≤10;omega,this.2⟩
  refine⟨by rw[len_app,len_app,dot_len];have:=w.len;omega,fun _=>?_⟩
  have l1:1≤(sideS m a++".").length:=by rw[len_app,dot_len];omega
  refine q_app ?_ l1
  by_cases h0:1≤(sideS m a).length
  ·exact q_app ls.2 h0
  ·have:sideS m a=Str.empty:=str_ext (by
    have:=len_toList (sideS m a)
    have h1:(sideS m a).cps.toList.length=0:=by omega
    rw[List.length_eq_zero_iff.mp h1]
    rfl)
   rw[this]
   decide+kernel
theorem remT_kd {at_:List (Str×Nat)}(A:AtOk at_){g:Str→List T→T}(hg:∀z ts,z∈W0→∃z',g z ts=formS z' ts∧z'.length≤60∧(qB z=false→qB z'=false)){n:Nat}{t:T}(d:DrK at_ n t):KD n (remT g t)∧(remT g t).sz≤BD n:=by
 refine DrK.ind A (P:=fun n t=>KD n (remT g t)∧(remT g t).sz≤BD n) (fun n z h=>?_) (fun m z ts hw hq h1 h2 hk _=>?_) d
 ·obtain⟨z',e,l,_⟩:=hg z [] (A.w _ h).1
  rw[remT,e]
  exact⟨.leaf (by omega),BD_pos n⟩
 ·obtain⟨z',e,l,q⟩:=hg z (ts.map (remT g)) hw
  rw[remT,rem1,rems_map,e]
  have hk':∀k∈ts.map (remT g),KD m k∧k.sz≤BD m:=fun k hk'=>by
   obtain⟨t',ht',rfl⟩:=List.mem_map.mp hk'
   exact(hk t' ht').2
  have lm:(ts.map (remT g)).length=ts.length:=List.length_map _
  revert hk' lm
  generalize ts.map (remT g)=us
  intro hk' lm
  cases us with
  |nil=>simp at lm;omega
  |cons u r=>
   refine⟨.tup (nq_of (q hq) l) (by omega) (by omega) fun k hk''=>(hk' k hk'').1,?_⟩
   have:=szs_two (b:=BD m) (ts:=u::r) fun t ht=>(hk' t ht).2
   have h3:(u::r).length*BD m≤2*BD m:=Nat.mul_le_mul_right _ (by omega)
   show(T.tup (.str z'::u::r)).sz≤2+2*BD m
   simp only[T.sz,szs]at this ⊢
   omega
theorem gMd_ok {m:List (Str×T)}(B:ByOk m){name:Str}(hn:name∈PN)(hs:List Str):∀z ts,z∈W0→∃z',gMd (gHd name) hs m z ts=formS z' ts∧z'.length≤60∧(qB z=false→qB z'=false):=fun z ts hz=>by
 have w:=wd_of hz
 by_cases h:z∈hs
 ·refine⟨name++"."++z,by unfold gMd gHd;rw[if_pos h],?_,fun _=>?_⟩
  ·rw[len_app,len_app,dot_len]
   have:=(pn_of hn).1
   have:=w.len
   omega
  ·have:=pn_of hn
   exact q_app (q_app this.2 (by omega)) (by rw[len_app];omega)
 ·obtain⟨l,q⟩:=turn_ok B w
  exact⟨turnW m z,by unfold gMd;rw[if_neg h],by omega,q⟩
theorem stand_app:∀(ts:List T) (acc:List Str),ts.foldl stand1 acc=acc++(stand ts).filter fun z=>!decide (z∈acc):=by
 intro ts
 have key:∀n (ts:List T),ts.length=n→∀acc:List Str,ts.foldl stand1 acc=acc++(stand ts).filter fun z=>!decide (z∈acc):=by
  intro n
  induction n with
  |zero=>intro ts h acc;rw[List.length_eq_zero_iff.mp h];simp[stand]
  |succ n ih=>
   intro ts h acc
   obtain⟨r,t,rfl⟩:∃r t,ts=r++[t]:=⟨ts.dropLast,ts.getLast (by intro e;rw[e]at h;simp at h),(List.dropLast_concat_getLast _).symm⟩
   have lr:r.length=n:=by simp at h;exact h
   rw[List.foldl_append,ih r lr acc,stand_snoc]
   show stand1 (acc++(stand r).filter fun z=>!decide (z∈acc)) t=_
   cases t with
   |int i=>rfl
   |tup l=>rfl
   |str z=>
    unfold stand1
    dsimp only
    by_cases q:Txt.startswith z "?"=true
    ·rw[if_pos q,if_pos q]
     by_cases m1:z∈stand r
     ·rw[if_pos m1]
      by_cases m2:z∈acc
      ·rw[if_pos (List.mem_append.mpr (.inl m2))]
      ·rw[if_pos (List.mem_append.mpr (.inr (List.mem_filter.mpr ⟨m1,by simp[m2]⟩)))]
     ·rw[if_neg m1,List.filter_append]
      by_cases m2:z∈acc
      ·rw[if_pos (List.mem_append.mpr (.inl m2))]
       simp[m2]
      ·rw[if_neg (fun h=>(List.mem_append.mp h).elim m2 fun h=>m1 (List.mem_filter.mp h).1)]
       simp[m2]
    ·rw[if_neg q,if_neg q]
 exact key _ ts rfl
theorem stand_two (a b:List T):stand (a++b)=stand a++(stand b).filter fun z=>!decide (z∈stand a):=by
 show(a++b).foldl stand1 []=_
 rw[List.foldl_append]
 exact stand_app b (stand a)
end Fw
namespace L2
open PySem PySem.Spec PyProof.Rows
section
variable {X:Cx}{pos:Pos}
def gLst (K:PySem.W.Frag)(n:Nat)(t:TGs):TG:=fun v σ H Q=>∃a xs,v=.ref a∧SqL K H a xs∧xs.length=n∧t xs σ H Q
theorem pg_lst (K:PySem.W.Frag){es:List Expr}{k:Nat}{t:TGs}{n:Nat}(hc:X.calm=true)(h:PGs X es t)
  (hn:(assignEach es X.env).length=n:=by rfl) (hst:(assignEach es X.env).findIdx? (·.1)=none:=by rfl) (hK:X.K=K:=by rfl):PG X (.Tuple es k pos) (gLst K n t):=by
 subst hK
 intro pins s σ H v u Q I r hw
 obtain⟨a,xs,e1,hq,hl,hw⟩:=hw
 subst e1
 cases r
 obtain⟨its,rv,ht,hz⟩:=I.list hq
 rw[assign_Tuple]
 refine wpAny_bind (wpAny_standAt ?_)
 unfold unpack
 have e2:its.toArray.size=n:=by rw[List.size_toArray,←rv.length];exact hl
 rw[hn,hst,←e2]
 refine wpAny_bind (wpAny_holding (PySem.W.kun_itemsOf (I.ok.hd hc) ht.isList fun h' hx=>?_))
 have I1:Inv X pins σ H {s with heap:=h'}:=I.kept (t':=s.toks) fun b o e=>hx b o (Nat.ne_of_lt (Heap.lt_size e)) e
 exact h pins _ σ H xs _ Q I1 (by simpa using rv) hw
end
theorem for_zipT {a b:Addr}{xs ys:List V}{g:TG}{tb:TS}{D:Ends}{σ:St}{H:Hp}(Pv:Nat→St→Hp→Prop)(le:xs.length=ys.length)(h0:Pv 0 σ H)(hl:∀i σ H,i≤xs.length→Pv i σ H→H a=some (.tup xs)∧H b=some (.tup ys))
  (hs:∀i x y (T:Addr) σ H,xs[i]?=some x→ys[i]?=some y→H T=none→Pv i σ H→g (.ref T) σ (upd H T (.tup [x,y])) fun σ2 H2=>tb (D.lp (Pv (i+1))) σ2 H2) (hd:∀σ H,Pv xs.length σ H→D.nx σ H):
  ∃W:Nat→Nat→St→Hp→Prop,(∃m,W 0 m σ H)∧∀i m σ H,W i m σ H→
   ((Itz a b).stop i H∧D.nx σ H)∨((Itz a b).go i H∧∃N:St→Hp→Prop,(∀σ' H',N σ' H'→∃m',m'<m∧W (i+1) m' σ' H')∧∀x H',(Itz a b).yld i H x H'→g x σ H' fun σ2 H2=>tb (D.lp N) σ2 H2):=by
 refine⟨fun i m σ H=>m=xs.length-i∧i≤xs.length∧Pv i σ H,⟨xs.length,by simp,Nat.zero_le _,h0⟩,?_⟩
 rintro i m σ H ⟨rfl,hi,p⟩
 obtain⟨qa,qb⟩:=hl i σ H hi p
 by_cases hlt:i<xs.length
 ·refine .inr ⟨⟨xs,ys,xs[i],ys[i]'(by omega),qa,qb,by simp[hlt],List.getElem?_eq_getElem _⟩,Pv (i+1),fun σ' H' p'=>⟨xs.length-(i+1),by omega,rfl,hlt,p'⟩,fun x H' y=>?_⟩
  obtain⟨T,xs',ys',x',y',e1,e2,hx,hy,hT,rfl,rfl⟩:=y
  rw[qa]at e1
  rw[qb]at e2
  cases e1
  cases e2
  exact hs i x' y' T σ _ hx hy hT p
 ·have e:i=xs.length:=by exact Nat.le_antisymm hi (Nat.not_lt.mp hlt)
  subst e
  exact .inl ⟨⟨xs,qa,Nat.le_refl _⟩,hd σ H p⟩
section
variable {prog:Program}{w:World}{A:Around}{E:Value→Shared→Prop}{s:Shared}
theorem getItem_tuple_whole {t sl:Addr}{items:Array Value}{vl vu:Value}{lo hi:Option Int}{Q:Value→Shared→Prop}(ht:IsTup s.heap t items)(hs:s.heap.IsSliceOf sl vl vu .none)(pl:IsPart vl lo)(pu:IsPart vu hi)
  (h1:HT.sIx items.size 0 lo=0) (h2:HT.sIx items.size items.size hi=items.size) (h:Q (.ref t) s):wpAny (model prog w) A (getItem (.ref t) (.ref sl)) Q E s:=by
 obtain⟨os,hos,hcs,hds⟩:=id hs
 have hTs:s.TypeIs (.ref sl) "slice":=⟨os,hos,hcs⟩
 unfold getItem
 try with_reducible refine wpAny_holding ?_
 first|refine wpAny_bind (wpAny_pure ?_)|skip
 refine wpAny_bind (wpAny_sequenceKey ht.typeIs (by decide) ?_)
 refine wpAny_bind (wpAny_callSpecial?_slot (name:=Str.ofString "__getitem__") ht.typeIs PyProof.Rows.slot_tuple_getitem
  (wpAny_call_entry PyProof.Rows.slot_tuple_getitem ht.typeIs entry_tuple_getitem ?_ (args_tuple_getitem _ _)))
 show wpAny _ _ (Builtin.Tuple.tupleItemsOf (.ref t)>>=_) _ _ s
 refine wpAny_bind (tupleItemsOf_ ht ?_)
 refine wpAny_bind (wpAny_typeOf hTs ?_)
 rw[if_pos (by decide)]
 refine wpAny_bind (HT.sliceApplied_gen hs pl pu ?_)
 have hyes:(((HT.sIx items.size 0 lo:Nat):Int)==0&&(1:Int)==1&&(HT.sIx items.size items.size hi-HT.sIx items.size 0 lo)==items.size)=true:=by
  rw[h1,h2]
  simp
 show wpAny _ _ (if(((HT.sIx items.size 0 lo:Nat):Int)==0&&(1:Int)==1&&(HT.sIx items.size items.size hi-HT.sIx items.size 0 lo)==items.size)=true then _ else _) _ _ s
 rw[if_pos hyes]
 refine wpAny_bind (m:=Builtin.Tuple.tupleIsExact _) (wpAny_bind (wpAny_typeOf ht.typeIs (wpAny_pure ?_)))
 show wpAny _ _ (if _ then _ else _) _ _ s
 rw[if_pos (by decide)]
 refine wpAny_bind (wpAny_rule ?_)
 first
  |exact wpAny_pure ⟨_,rfl,wpAny_pure h⟩
  |exact wpAny_bind (wpAny_pure (wpAny_pure ⟨_,rfl,wpAny_pure h⟩))
end
section
variable {X:Cx}
inductive rSlW_ (K:PySem.W.Frag)(x:V)(lo:Option Int)(hi:Option Int)(H:Hp)(Q:VK):Prop where
 |mk (a) (xs):(x=.ref a)→(SqT K H a xs)→(HT.sIx xs.length 0 lo=0)→(HT.sIx xs.length xs.length hi=xs.length)→(Q (.ref a) H)→rSlW_ K x lo hi H Q
def rSlW (K:PySem.W.Frag):V→Option Int→Option Int→Hp→VK→Prop:=rSlW_ K
theorem sl_whole:SlR X (rSlW X.K):=by
 intro pins s σ H x v vl vu lo hi sl Q I rx hs pl pu h
 obtain⟨a,xs,rfl,hx,h1,h2,q⟩:=h
 cases rx
 obtain⟨its,r,ht,hz⟩:=I.tuple hx
 have hlen:its.toArray.size=xs.length:=by rw[List.size_toArray];exact r.length.symm
 refine⟨"tuple",_,PyProof.Rows.slot_tuple_getitem.lookup,ht.typeIs,?_⟩
 exact getItem_tuple_whole ht hs pl pu (by rw[hlen];exact h1) (by rw[hlen];exact h2) ⟨.ref _,_,I,rfl,q⟩
theorem slW (K:PySem.W.Frag)(h:X.K=K:=by rfl):SlR X (rSlW K):=h ▸ sl_whole
end
end L2
namespace Fw
open PySem PySem.Spec PyProof.Rows L2
theorem comp_not {K:PySem.W.Frag}{H:Hp}{l:Addr}{zs ts:List Str}{tt:TT}{te:TE}{σ':L2.St}{Q:VK}(hl:H l=some (.lst (zs.map V.str)))(hz:zs.length≤1000)
  (ht:∀z∈zs,∀Q':Bool→Hp→Prop,Q' (!decide (z∈ts)) H→tt (some (.str z)::σ') H Q') (he:∀z∈zs,∀Q':VK,Q' (.str z) H→te (some (.str z)::σ') H Q')
  (hd:∀p,H p=none→Q (.ref p) (upd H p (.lst ((zs.filter fun z=>!decide (z∈ts)).map V.str)))):CompW (Itl K l) tt te σ' Q H:=by
 refine comp_lst (xs:=zs.map V.str) (fun i vs H'=>H'=H∧vs=((zs.take i).filter fun z=>!decide (z∈ts)).map V.str) ⟨rfl,rfl⟩ ?_ ?_ ?_
 ·rintro i vs H' hi ⟨rfl,rfl⟩
  refine⟨SqL.of hl,small' ?_⟩
  rw[List.length_map]
  have:=List.length_filter_le (fun z=>!decide (z∈ts)) (zs.take i)
  rw[List.length_take]at this
  omega
 ·rintro i x vs H' hi hx ⟨rfl,rfl⟩
  rw[List.getElem?_map]at hx
  cases ez:zs[i]? with
  |none=>rw[ez]at hx;cases hx
  |some z=>
  rw[ez]at hx
  cases hx
  have zm:=List.mem_of_getElem? ez
  have et:(zs.take (i+1)).filter (fun z=>!decide (z∈ts))=(zs.take i).filter (fun z=>!decide (z∈ts))++(if(!decide (z∈ts))=true then[z] else[]):=by
   rw[List.take_add_one,ez,List.filter_append]
   congr 1
   show List.filter _ [z]=_
   rw[List.filter_cons,List.filter_nil]
  refine ht z zm _ ?_
  by_cases c:(!decide (z∈ts))=true
  ·rw[if_pos c]at et
   rw[if_pos c]
   refine he z zm _ (nx hi ⟨rfl,?_⟩)
   rw[et,List.map_append]
   rfl
  ·rw[if_neg c,List.append_nil]at et
   rw[if_neg c]
   exact nx hi ⟨rfl,by rw[et]⟩
 ·rintro vs H' ⟨rfl,rfl⟩ p hp
  rw[List.length_map,List.take_length]
  exact hd p hp
def lets (k:Nat):List Str:=(["?a","?b"]:List Str).take k
def pathT (name hide:Str)(k:Nat):T:=if k=0 then .str (name++"."++hide) else .tup (.str (name++"."++hide)::(lets k).map T.str)
theorem k3 {k:Nat}(h:k≤2):k=0∨k=1∨k=2:=by omega
theorem lets_ok:(∀y∈(["?a","?b"]:List Str),y.length≤2)∧("?a":Str)≠"?b":=by decide+kernel
theorem lets_len {k:Nat}(h:k≤2):(lets k).length=k:=by
 rcases k3 h with rfl|rfl|rfl<;>rfl
theorem lets_mem {k:Nat}:∀y∈lets k,y.length≤2:=fun y hy=>lets_ok.1 y (List.mem_of_mem_take hy)
theorem lets_nd {k:Nat}:(lets k).Nodup:=(show(["?a","?b"]:List Str).Nodup from List.nodup_cons.mpr ⟨by simpa using lets_ok.2,by simp⟩).sublist (List.take_sublist _ _)
theorem lets_fill {ts:List T}(h:ts.length≤2):(lets ts.length).map (fun y=>(((lets ts.length).zip ts).lookup y).getD (.str y))=ts:=by
 match ts,h with
 |[],_=>rfl
 |[a],_=>simp[lets,List.lookup_cons]
 |[a,b],_=>
  have n:(("?b":Str)=="?a")=false:=by decide+kernel
  simp[lets,List.lookup_cons,n]
def spPut0:Sp:=fun vs H Q _=>∃(z:Str) (d:Addr) (kvs:List (Key×V)) (m:List (Str×T)),vs=[.str z, .ref d]∧z.length≤100000∧H d=some (.dK kvs)∧DReps H kvs m∧∀v,Rep H v ((m.lookup z).getD (.str z))→Q v H
def spPut1:Sp:=fun vs H Q _=>∃(a d:Addr) (z y:Str) (ws:List Str) (kvs:List (Key×V)) (m:List (Str×T)),vs=[.ref a, .ref d]∧H a=some (.tup ((z::y::ws).map V.str))∧(∀u∈z::y::ws,u.length≤1000)∧ws.length≤100∧H d=some (.dK kvs)∧DReps H kvs m∧
 ∀v H',Same H H'→Rep H' v (.tup (.str z::(y::ws).map fun u=>(m.lookup u).getD (.str u)))→Q v H'
def spLW:Sp:=fun vs H Q _=>∃(z:Str) (d:Addr) (kvs:List (Key×V)) (m:List (Str×T)),vs=[.str z, .ref d]∧Wd z∧H d=some (.dK kvs)∧DReps H kvs m∧ByOk m∧∀H',Same H H'→Q (.str (turnW m z)) H'
def spPath:Sp:=fun vs H Q _=>∃(name hide:Str) (k:Nat),vs=[.str name, .str hide, .int k]∧name.length≤80∧hide.length≤80∧k≤2∧∀v H',Same H H'→Rep H' v (pathT name hide k)→Q v H'
theorem str_get {H:Hp}{kvs:List (Key×V)}{m:List (Str×T)}(dr:DReps H kvs m){z:Str}(h:z.length≤100000):Rep H ((valV kvs (Sum.inr z)).getD (.str z)) ((m.lookup z).getD (.str z)):=by
 rcases dr.get z with ⟨g1,g2⟩|⟨v,t,g1,g2,r⟩
 ·rw[g1,g2];exact .str z h
 ·rw[g1,g2];exact r
section
variable {P:Program}{w:World}{K:PySem.W.Frag}{mg:Str→Option Value}{base:Heap}{f:Addr}{fd:FuncData}
abbrev s_put:Stmt:=top 33
theorem sc_put:FnScope ["_law_kind","_law_by_here"] ["_law_kind","_law_by_here"] (defScope s_put):=⟨rfl,rfl,rfl,by decide+kernel,rfl,by decide+kernel,by decide+kernel⟩
theorem ok_put0 (F:Fun K "_law_put" "_law_put" s_put f fd)(mi:mg "isinstance"=none)(ms:mg "str"=none)(mt:mg "tuple"=none):FnOk P w K mg base CX0 1 f fd ["_law_kind","_law_by_here"] spPut0:=by
 refine F.ok sc_put (len:=fun vs H Q E h=>(by obtain⟨z,d,kvs,m,rfl,_⟩:=h;rfl)) (fun cdv A outer s H vs Q E hr h=>?_)
 obtain⟨z,d,kvs,m,rfl,hz,hd,dr,q⟩:=h
 have hu:=hu_of hr
 refine⟨_,pss_cons (ps_if (pt_val (pe_callB call_isi rfl mi boot_isinstance (pa_cons (pv 0) (pa_cons (pe_bltn (v:=.ty "str") rfl ms boot_str rfl) pa_nil)))) (pss_one (ps_ret (pe_dget2 hu (pv 1) (pv 0) (pv 0) ⟨rfl,rfl,rfl,rfl⟩))) pss_nil)
  pss_never,?_⟩
 refine⟨_,rfl,_,_,"str",_,rfl,rep_ty (.str z hz),kit_str K (.str z),_,rfl,iteT ⟨_,rfl,d,rfl, .inl ⟨kvs, .inl hd⟩,_,rfl,_,rfl,_,DGet.k (k:=Sum.inr z) hd,q _ (str_get dr hz)⟩⟩
set_option maxHeartbeats 1000000 in
theorem ok_put1 (F:Fun K "_law_put" "_law_put" s_put f fd)(mi:mg "isinstance"=none)(ms:mg "str"=none)(mt:mg "tuple"=none)(h0:Has P w K mg base 1 "_law_put" ["_law_kind","_law_by_here"] spPut0):FnOk P w K mg base CX0 2 f fd ["_law_kind","_law_by_here"] spPut1:=by
 refine F.ok sc_put (len:=fun vs H Q E h=>(by obtain⟨a,d,z,y,ws,kvs,m,rfl,_⟩:=h;rfl)) (fun cdv A outer s H vs Q E hr h=>?_)
 obtain⟨a,d,z,y,ws,kvs,m,rfl,ha,hw,hl,hd,dr,q⟩:=h
 have hu:=hu_of hr
 refine⟨_,pss_cons (ps_if (pt_val (pe_callB call_isi rfl mi boot_isinstance (pa_cons (pv 0) (pa_cons (pe_bltn (v:=.ty "str") rfl ms boot_str rfl) pa_nil)))) pss_never pss_nil)
  (pss_one (ps_ret (pe_op (catT K) (pe_slice sl_tup (pv 0) po_none (po_some pe_int)) (pe_callTy (ctup K) rfl mt boot_tuple (pa_cons
   (pe_lc (te:=tCall spPut0 [] E0 (tCons (tVar 0) (tCons (tVar 1) tNil))) (defScope s_put) ["_law_kind","_law_by_here"] ["_law_by_here"] [1] (by decide+kernel) (piT K (pe_slice sl_tup (pv 0) (po_some pe_int) po_none)) (fun C s₀ H₀ ex=>pts_nil)
    (fun C s₀ H₀ ex=>by exact pcall h0 hr (Nat.le_refl _) rfl (pa_cons (pv 0) (pa_cons (pv 1) pa_nil)))) pa_nil))))),?_⟩
 have lw:∀u∈z::y::ws,u.length≤100000:=fun u hu'=>by have:=hw u hu';omega
 refine⟨_,rfl,_,_,"str",_,rfl,rep_ty (K:=K) (.tup ha (Reps.words lw)),kit_str K (.tup ((z::y::ws).map T.str)),_,rfl,iteF ?_⟩
 refine⟨_,rfl,1,rfl,a,_,rfl,SqT.of ha,cut_head_not (.str z) ((y::ws).map V.str) (by simp),fun p1 hp1=>?_⟩
 rw[show((z::y::ws).map V.str)=V.str z::(y::ws).map V.str from rfl,cut_head (.str z) ((y::ws).map V.str) (by simp)]
 obtain⟨H2,eH2,s2,hp12⟩:=nw hp1 (.tup [V.str z])
 rw[eH2]
 refine⟨_,rfl,1,rfl,a,_,rfl,SqT.of (s2 _ _ ha),cutq_not (vs:=(z::y::ws).map V.str) (n:=1) (by simp) (Nat.le_refl _),fun p2 hp2=>?_⟩
 have ec:cutV ((z::y::ws).map V.str) (some 1) none=(y::ws).map V.str:=cutq ((z::y::ws).map V.str) 1
 rw[ec]
 obtain⟨H3,eH3,s3,hp23⟩:=nw hp2 (.tup ((y::ws).map V.str))
 rw[eH3]
 have s13:=s2.trans s3
 have dr3:=dr.mono (Same.tups s13)
 refine⟨p2,rfl,⟨_,SqT.of hp23⟩,comp_tup (xs:=(y::ws).map V.str) (fun i us H'=>H'=H3∧Reps H3 us (((y::ws).take i).map fun u=>(m.lookup u).getD (.str u))) ⟨rfl,by simp;exact .nil⟩ ?_ ?_ ?_⟩
 ·rintro i us H' hi ⟨rfl,r⟩
  exact⟨SqT.of hp23,small' (by rw[r.length,List.length_map,List.length_take];simp;omega)⟩
 ·rintro i x us H' hi hx ⟨rfl,r⟩
  rw[List.getElem?_map]at hx
  cases hg:(y::ws)[i]? with
  |none=>rw[hg]at hx;cases hx
  |some u=>
   rw[hg]at hx
   cases hx
   refine tt1 (iteT ⟨_,rfl,_,rfl,u,d,kvs,m,rfl,lw u (List.mem_cons_of_mem _ (List.mem_of_getElem? hg)),s13 _ _ hd,dr3,fun v rv=>nx hi ⟨rfl,?_⟩⟩)
   rw[take_next hg,List.map_append]
   exact r.append (.cons rv .nil)
 ·rintro us H' ⟨rfl,r⟩ l hl0
  rw[List.length_map,List.take_length]at r
  have lus:=r.length
  rw[List.length_map]at lus
  obtain⟨H4,eH4,s4,hl4⟩:=nw hl0 (.lst us)
  rw[eH4]
  refine⟨l,_,rfl, .inl ⟨SqL.of hl4,fun p4 hp4=>?_⟩⟩
  obtain⟨H5,eH5,s5,hp45⟩:=nw hp4 (.tup us)
  rw[eH5]
  refine catT_one (s5 _ _ (s4 _ _ (s3 _ _ hp12))) hp45 (by rw[lus];simp;omega) fun p H6 s6 hp=>?_
  have s36:=(s4.trans s5).trans s6
  exact q _ H6 (s13.trans s36) (.tup hp (.cons (.str z (lw z (by simp))) (r.same s36)))
abbrev s_lw:Stmt:=top 34
theorem sc_lw:FnScope ["_law_word_here","_law_by_here","_law_head","_law_tail"] ["_law_word_here","_law_by_here"] (defScope s_lw):=⟨rfl,rfl,rfl,by decide+kernel,rfl,by decide+kernel,by decide+kernel⟩
theorem ok_lw (F:Fun K "_law_word" "_law_word" s_lw f fd):FnOk P w K mg base CX0 1 f fd ["_law_word_here","_law_by_here"] spLW:=by
 refine F.ok sc_lw (len:=fun vs H Q E h=>(by obtain⟨z,d,kvs,m,rfl,_⟩:=h;rfl)) (fun cdv A outer s H vs Q E hr h=>?_)
 obtain⟨z,d,kvs,m,rfl,wz,hd,dr,B,q⟩:=h
 have hu:=hu_of hr
 refine⟨_,pss_cons (ps_if (pt_cmpR op_notIn_str pe_str (pv 0) (by with_unfolding_all rfl)) (pss_one (ps_ret (pv 0))) pss_nil)
  (pss_cons (ps_asg (pe_bm PySem.F.plainAttrs_str PySem.F.slot_str_split PySem.F.type_str_split mt_split (pv 0) (pa_cons pe_str pa_nil)) (pg_lst K (n:=2) rfl (pgs_cons (pg_name (i:=2) sc_lw.nd rfl (Or.inl rfl)) (pgs_cons (pg_name (i:=3) sc_lw.nd rfl (Or.inl rfl)) pgs_nil))))
  (pss_one (ps_ret (pe_op op_add_str (pe_op op_add_str (pe_dget2 hu (pv 1) (pv 2) (pv 2) ⟨rfl,rfl,rfl,rfl⟩) pe_str) (pv 3))))),?_⟩
 refine⟨_,rfl,".",z,rfl,rfl,_,rfl,?_⟩
 have wl:=wz.len
 cases e:dotB z with
 |false=>
  have e1:=wz.one e
  have ew:turnW m z=z:=by unfold turnW;rw[e1]
  rw[ew]at q
  show if(!dotB z)=true then _ else _
  rw[e]
  exact iteT ⟨_,rfl,q H (Same.refl H)⟩
 |true=>
  obtain⟨a,b,e1,e2,e3⟩:=wz.two e
  have ew:turnW m z=sideS m a++"."++b:=by unfold turnW;rw[e1]
  rw[ew]at q
  show if(!dotB z)=true then _ else _
  rw[e]
  have la:a.length≤z.length:=part_short (y:=".") (by rw[e1];simp)
  have lb:b.length≤z.length:=part_short (y:=".") (by rw[e1];simp)
  have lm:=side_len B.nm (n:=1000) (z:=a) (by omega)
  refine iteF ⟨_,rfl,rfl,z,".",rfl,rfl,small (by omega),by decide+kernel,small (by rw[e1];show 2≤1000000;decide),fun l hl=>?_⟩
  rw[e1]
  have s2:=same_new hl (.lst ([a,b].map V.str))
  have dr2:=dr.mono (Same.tups s2)
  refine⟨l,[.str a, .str b],rfl,SqL.of upd_same,rfl,_,_,rfl,_,_,rfl,rfl,?_⟩
  refine⟨_,rfl,d,rfl, .inl ⟨kvs, .inl (s2 _ _ hd)⟩,_,rfl,_,rfl,_,DGet.k (k:=Sum.inr a) (s2 _ _ hd),?_⟩
  rw[names_get dr2 B.nm a]
  exact⟨_,_,rfl,rfl,small (by rw[dot_len];omega),_,rfl,_,_,rfl,rfl,small (by rw[len_app,dot_len];omega),q _ s2⟩
abbrev s_pth:Stmt:=top 38
theorem sc_pth:FnScope ["_law_name","_law_hide","_law_many"] ["_law_name","_law_hide","_law_many"] (defScope s_pth):=⟨rfl,rfl,rfl,by decide+kernel,rfl,by decide+kernel,by decide+kernel⟩
theorem ok_pth (F:Fun K "_law_path" "_law_path" s_pth f fd):FnOk P w K mg base CX0 1 f fd ["_law_name","_law_hide","_law_many"] spPath:=by
 refine F.ok sc_pth (len:=fun vs H Q E h=>(by obtain⟨n,z,k,rfl,_⟩:=h;rfl)) (fun cdv A outer s H vs Q E hr h=>?_)
 obtain⟨n,z,k,rfl,ln,lz,hk,q⟩:=h
 refine⟨_,pss_cons (ps_if (pt_cmpR op_eq (pv 2) pe_int (nomark _)) (pss_one (ps_ret (pe_op op_add_str (pe_op op_add_str (pv 0) pe_str) (pv 1)))) pss_nil)
  (pss_one (ps_ret (pe_op (catT K) (pe_tup (pa_cons (pe_op op_add_str (pe_op op_add_str (pv 0) pe_str) (pv 1)) pa_nil)) (pe_slice ((slT K).or (slW K)) (pe_tup (pa_cons pe_str (pa_cons pe_str pa_nil))) po_none (po_some (pv 2)))))),?_⟩
 have l3:(n++"."++z).length≤100000:=by rw[len_app,len_app,dot_len];omega
 refine⟨_,rfl,rfl,_,rfl,ite2 (fun c=>?_) (fun c=>?_)⟩
 ·have c1:(k:Int)=0:=by
   have:=of_decide_eq_true c
   injection this
  have e:k=0:=by omega
  subst e
  refine⟨_,rfl,_,_,rfl,rfl,small (by rw[dot_len];omega),_,rfl,_,_,rfl,rfl,small (by rw[len_app,dot_len];omega),q _ H (Same.refl H) ?_⟩
  unfold pathT
  rw[if_pos rfl]
  exact .str _ l3
 ·have k1:k=1∨k=2:=by
   have:¬(k:Int)=0:=fun e=>c (decide_eq_true (by rw[e]))
   omega
  refine⟨_,rfl,_,_,rfl,rfl,small (by rw[dot_len];omega),_,rfl,_,_,rfl,rfl,small (by rw[len_app,dot_len];omega),sml 1,fun p1 hp1=>?_⟩
  obtain⟨H1,eH1,s1,hp11⟩:=nw hp1 (.tup [V.str (n++"."++z)])
  rw[eH1]
  refine⟨sml 2,fun p2 hp2=>?_⟩
  obtain⟨H2,eH2,s2,hp22⟩:=nw hp2 (.tup [V.str "?a",V.str "?b"])
  rw[eH2]
  have fin:∀(p3:Addr) (H3:Hp),Same H2 H3→H3 p3=some (.tup ((lets k).map V.str))→rCatT K (.ref p1) (.ref p3) H3 Q:=fun p3 H3 s3 h3=>by
   refine catT_one (s3 _ _ (s2 _ _ hp11)) h3 (by rw[List.length_map,lets_len hk];omega) fun p H4 s4 hp=>?_
   refine q _ H4 (((s1.trans s2).trans s3).trans s4) ?_
   unfold pathT
   rw[if_neg (by omega)]
   exact .tup hp (.cons (.str _ l3) (Reps.words fun y hy=>by have:=lets_mem y hy;omega))
  rcases k1 with rfl|rfl
  ·refine⟨_,rfl,1,rfl, .inl ⟨p2,_,rfl,SqT.of hp22,by first|decide|(simp[HT.sIx]),fun p3 hp3=>?_⟩⟩
   exact fin p3 _ (same_new hp3 _) upd_same
  ·refine⟨_,rfl,2,rfl, .inr ⟨p2,_,rfl,SqT.of hp22,by first|rfl|decide|(simp[HT.sIx]),by first|rfl|decide|(simp[HT.sIx]),fin p2 H2 (Same.refl _) hp22⟩⟩
end
theorem pre_len:∀t:T,(pre t).length≤t.sz:=by
 have key:∀n (t:T),t.sz≤n→(pre t).length≤t.sz:=by
  intro n
  induction n with
  |zero=>intro t h;have:=sz_pos t;omega
  |succ n ih=>
   intro t h
   have ps:∀ts:List T,szs ts≤n→(pres ts).length≤szs ts:=by
    intro ts
    induction ts with
    |nil=>intro _;exact Nat.le_refl _
    |cons a r ih2=>
     intro h2
     simp only[szs]at h2 ⊢
     show(pre a++pres r).length≤_
     rw[List.length_append]
     have:=ih a (by omega)
     have:=ih2 (by omega)
     omega
   cases t with
   |int i=>exact sz_pos _
   |str z=>exact sz_pos _
   |tup l=>
    cases l with
    |nil=>show 1≤_;exact sz_pos _
    |cons a r=>
     simp only[T.sz,szs]at h ⊢
     have:=ps r (by omega)
     show(T.tup (a::r)::pres r).length≤_
     rw[List.length_cons]
     have:=sz_pos a
     omega
 exact fun t=>key t.sz t (Nat.le_refl _)
theorem mem_szs {t:T}:∀{ks:List T},t∈ks→t.sz≤szs ks
 |[],h=>by cases h
 |a::r,h=>by
  simp only[szs]
  rcases List.mem_cons.mp h with e|h
  ·rw[e];omega
  ·have:=mem_szs h;omega
theorem stand_le:∀ts:List T,(stand ts).length≤ts.length:=by
 intro ts
 have key:∀n (ts:List T),ts.length=n→(stand ts).length≤n:=by
  intro n
  induction n with
  |zero=>intro ts h;rw[List.length_eq_zero_iff.mp h];exact Nat.le_refl _
  |succ n ih=>
   intro ts h
   obtain⟨r,t,rfl⟩:∃r t,ts=r++[t]:=⟨ts.dropLast,ts.getLast (by intro e;rw[e]at h;simp at h),(List.dropLast_concat_getLast _).symm⟩
   have lr:r.length=n:=by simp at h;exact h
   rw[stand_snoc]
   have:=stand1_len (stand r) t
   have:=ih r lr
   omega
 exact key _ ts rfl
def spLV (n:Nat):Sp:=fun vs H Q _=>∃v t,vs=[v]∧Rep H v t∧KD n t∧t.sz≤1000∧∀(l:Addr) H',Same H H'→H l=none→H' l=some (.lst ((stand (pre t)).map V.str))→Q (.ref l) H'
def spSch (n:Nat):Sp:=fun vs H Q _=>∃v t,vs=[v]∧Rep H v t∧KD n t∧t.sz≤1000∧∀v' H',Same H H'→Rep H' v' (schT t)→Q v' H'
section
variable {P:Program}{w:World}{K:PySem.W.Frag}{mg:Str→Option Value}{base:Heap}{f:Addr}{fd:FuncData}
abbrev s_lv:Stmt:=top 36
abbrev nLv:List Str:=["_law_kind","_law_got","_law_part"]
theorem sc_lv:FnScope nLv ["_law_kind"] (defScope s_lv):=⟨rfl,rfl,rfl,by decide+kernel,rfl,by decide+kernel,by decide+kernel⟩
def LvUp:Nat→Sp
 |0=>fun _ _ _ _=>False
 |n+1=>spLV n
set_option maxHeartbeats 2000000 in
theorem ok_lv {n:Nat}(F:Fun K "_law_variables" "_law_variables" s_lv f fd)(mi:mg "isinstance"=none)(ms:mg "str"=none)(mI:mg "int"=none)(h1:Has P w K mg base n "_law_variables" ["_law_kind"] (LvUp n)):FnOk P w K mg base CX0 (n+1) f fd ["_law_kind"] (spLV n):=by
 refine F.ok sc_lv (len:=fun vs H Q E h=>(by obtain⟨v,t,rfl,_⟩:=h;rfl)) (fun cdv A outer s H vs Q E hr h=>?_)
 obtain⟨v,t,rfl,rt,kt,sz,q⟩:=h
 have hu:=hu_of hr
 refine⟨_,pss_cons (ps_if (pt_val (pe_callB call_isi rfl mi boot_isinstance (pa_cons (pv 0) (pa_cons (pe_bltn (v:=.ty "str") rfl ms boot_str rfl) pa_nil))))
   (pss_one (ps_ret (pe_slice sl_list (pe_lst (pa_cons (pv 0) pa_nil)) po_none (po_some (pe_callTy call_int1 rfl mI boot_int (pa_cons (pe_bm PySem.F.plainAttrs_str PySem.F.slot_str_startswith PySem.F.type_str_startswith mt_startswith (pv 0) (pa_cons pe_str pa_nil)) pa_nil)))))) pss_nil)
  (pss_cons (ps_set (i:=1) sc_lv.nd rfl (Or.inr rfl) (pe_lst pa_nil))
  (pss_cons (ps_for PassesOwn.never rfl (piT K (pe_slice sl_tup (pv 0) (po_some pe_int) po_none)) (pg_name (i:=2) sc_lv.nd rfl (Or.inl rfl))
   (pss_one (ps_set (i:=1) sc_lv.nd rfl (Or.inr rfl) (pe_op op_cat (pv 1) (pe_lc (te:=tVar 0) (defScope s_lv) nLv ["_law_got"] [1] (by decide+kernel) (piL K (pcall h1 hr (Nat.le_refl _) rfl (pa_cons (pv 2) pa_nil)))
    (fun C s₀ H₀ ex=>pts_one (pt_cmpR (r:=rIn K true) op_notIn_seq (pv 0) (pv 1) (by with_unfolding_all rfl))) (fun C s₀ H₀ ex=>by exact pv 0))))))
  (pss_one (ps_ret (pv 1))))),?_⟩
 refine⟨_,rfl,_,_,_,_,rfl,rep_ty rt,kit_str K t,_,rfl,?_⟩
 cases kt with
 |@leaf _ z hz=>
  cases rt
  refine iteT ⟨_,rfl,sml 1,fun p hp=>?_⟩
  obtain⟨H1,eH1,s1,hp1⟩:=nw hp (.lst [V.str z])
  rw[eH1]
  refine⟨_,rfl,rfl,z,"?",rfl,rfl, .inr ⟨_,rfl,?_⟩⟩
  refine⟨_,rfl,p,_,rfl,SqL.of hp1,fun l hl=>?_⟩
  have e:cutV [V.str z] none (some (if Txt.startswith z "?"=true then 1 else 0))=(stand (pre (.str z))).map V.str:=by
   have es:stand (pre (.str z))=if Txt.startswith z "?"=true then[z] else[]:=by
    show stand1 [] (.str z)=_
    unfold stand1
    dsimp only
    split<;>simp
   rw[es]
   by_cases c:Txt.startswith z "?"=true
   ·rw[if_pos c,if_pos c];exact cutt [V.str z] 1
   ·rw[if_neg c,if_neg c];exact cutt [V.str z] 0
  rw[e]
  exact q l _ (s1.trans (same_new hl _)) (s1.free hl) upd_same
 |@tup m z ks nz k1 k3 hk=>
  cases rt with
  |@tup a ys _ ha rys=>
  cases rys with
  |@cons v0 _ vr _ r0 rr=>
  have lr:=rr.length
  refine iteF ⟨sml 0,fun lg hlg=>?_⟩
  obtain⟨H1,eH1,s1,hlg1⟩:=nw hlg (.lst [])
  rw[eH1]
  refine⟨_,rfl,1,rfl,a,_,rfl,SqT.of (s1 _ _ ha),cutq_not (vs:=v0::vr) (n:=1) (by simp) (Nat.le_refl _),fun p2 hp2=>?_⟩
  rw[show cutV (v0::vr) (some 1) none=vr from cutq (v0::vr) 1]
  obtain⟨H2,eH2,s2,hp22⟩:=nw hp2 (.tup vr)
  rw[eH2]
  have ep:stand (pre (.tup (.str z::ks)))=stand (pres ks):=rfl
  have szk:szs ks≤1000:=by simp only[T.sz,szs]at sz;omega
  have lsk:∀i,(stand (pres (ks.take i))).length≤1000:=fun i=>by
   have h1:=stand_le (pres (ks.take i))
   have h2:(pres ks).length≤(pre (.tup (.str z::ks))).length:=by show _≤(T.tup (.str z::ks)::pres ks).length;simp
   have h3:=pre_len (.tup (.str z::ks))
   have h4:pres ks=pres (ks.take i)++pres (ks.drop i):=by rw[←pres_app,List.take_append_drop]
   have h5:=congrArg List.length h4
   rw[List.length_append]at h5
   omega
  refine⟨p2,rfl,⟨_,SqT.of hp22⟩,for_tup (xs:=vr) (fun i σ H'=>∃(l:Addr) (o:Option V),σ=[some (.ref a),some (.ref l),o]∧Same H H'∧Same H2 H'∧H' l=some (.lst ((stand (pres (ks.take i))).map V.str))∧H l=none) ⟨lg,none,rfl,s1.trans s2,Same.refl _,s2 _ _ hlg1,hlg⟩ ?_ ?_ ?_⟩
  ·rintro i σ H' hi ⟨l,o,rfl,_,s3,_,_⟩
   exact SqT.of (s3 _ _ hp22)
  ·rintro i x σ H' hx ⟨l,o,rfl,s0,s3,hl,hl0⟩
   obtain⟨t',ht,rx⟩:=rr.at3 hx
   have hm:=List.mem_of_getElem? ht
   have s02:=(s1.trans s2).trans s3
   have sz':t'.sz≤1000:=by
    have:=mem_szs hm
    omega
   have lt:=Nat.le_trans (stand_le (pre t')) (pre_len t')
   refine⟨_,rfl,_,rfl,_,t',rfl,rx.same s02,hk t' hm,sz',fun l2 H3 s4 hl20 hl2=>?_⟩
   refine⟨l2,rfl,⟨_,SqL.of hl2⟩,comp_not (ts:=stand (pres (ks.take i))) hl2 (by omega) (fun y hy Q' q'=>⟨_,rfl,_,rfl,l,_,rfl, .inl (SqL.of (s4 _ _ hl)),rfl,flat_strs _,_,rfl,by rw[inV_str];exact q'⟩) (fun y hy Q' q'=>⟨_,rfl,q'⟩) fun p hp=>?_⟩
   obtain⟨H4,eH4,s5,hp4⟩:=nw hp (.lst (((stand (pre t')).filter fun y=>!decide (y∈stand (pres (ks.take i)))).map V.str))
   rw[eH4]
   have ls:=lsk i
   have lf:=List.length_filter_le (fun y=>!decide (y∈stand (pres (ks.take i)))) (stand (pre t'))
   refine⟨l,p,_,_,rfl,rfl,s5 _ _ (s4 _ _ hl),hp4,small (by rw[List.length_map,List.length_map];omega),fun p5 hp5=>?_⟩
   have s6:=same_new hp5 (.lst ((stand (pres (ks.take i))).map V.str++((stand (pre t')).filter fun y=>!decide (y∈stand (pres (ks.take i)))).map V.str))
   have s36:=(s4.trans s5).trans s6
   refine⟨p5,_,rfl,s0.trans s36,s3.trans s36,?_,(s0.trans (s4.trans s5)).free hp5⟩
   have et:stand (pres (ks.take (i+1)))=stand (pres (ks.take i))++(stand (pre t')).filter fun y=>!decide (y∈stand (pres (ks.take i))):=by
    rw[take_next ht,pres_app]
    show stand (pres (ks.take i)++(pre t'++[]))=_
    rw[List.append_nil,stand_two]
   rw[et,List.map_append]
   exact upd_same
  ·rintro σ H' ⟨l,o,rfl,s0,s3,hl,hl0⟩
   rw[List.take_of_length_le (by omega)]at hl
   exact⟨_,rfl,q l H' s0 hl0 hl⟩
theorem lv_all (F:Fun K "_law_variables" "_law_variables" s_lv f fd)(bF:Binds K fd ["_law_kind"] [])(mF:mg "_law_variables"=some (.ref f))(mi:mg "isinstance"=none)(ms:mg "str"=none)(mI:mg "int"=none):∀n,Has P w K mg base (n+1) "_law_variables" ["_law_kind"] (spLV n)
 |0=>⟨f,fd,ok_lv F mi ms mI ⟨f,fd,⟨fun _ _ _ _ h=>h.elim,fun _ _ _ _ _ _ _ _ _ _ _ _ _ h=>h.elim⟩,bF,F.kp,mF⟩,bF,F.kp,mF⟩
 |n+1=>⟨f,fd,ok_lv F mi ms mI (lv_all F bF mF mi ms mI n),bF,F.kp,mF⟩
abbrev s_sch:Stmt:=top 37
theorem sc_sch:FnScope ["_law_kind"] ["_law_kind"] (defScope s_sch):=⟨rfl,rfl,rfl,by decide+kernel,rfl,by decide+kernel,by decide+kernel⟩
theorem ok_sch {n:Nat}(F:Fun K "_law_scheme" "_law_scheme" s_sch f fd)(mt:mg "tuple"=none)(h1:Has P w K mg base (n+1) "_law_variables" ["_law_kind"] (spLV n)):FnOk P w K mg base CX0 (n+2) f fd ["_law_kind"] (spSch n):=by
 refine F.ok sc_sch (len:=fun vs H Q E h=>(by obtain⟨v,t,rfl,_⟩:=h;rfl)) (fun cdv A outer s H vs Q E hr h=>?_)
 obtain⟨v,t,rfl,rt,kt,hz,q⟩:=h
 refine⟨_,pss_one (ps_ret (pe_tup (pa_cons (pe_callTy (ctup K) rfl mt boot_tuple (pa_cons (pcall h1 hr (Nat.le_refl _) rfl (pa_cons (pv 0) pa_nil)) pa_nil)) (pa_cons (pv 0) pa_nil)))),?_⟩
 refine⟨_,rfl,v,t,rfl,rt,kt,hz,fun l H1 s1 hl0 hl1=>⟨l,_,rfl, .inl ⟨SqL.of hl1,fun p1 hp1=>?_⟩⟩⟩
 obtain⟨H2,eH2,s2,hp12⟩:=nw hp1 (.tup ((stand (pre t)).map V.str))
 rw[eH2]
 refine⟨_,rfl,sml 2,fun p hp=>?_⟩
 have s3:=same_new hp (.tup [.ref p1,v])
 have s13:=(s1.trans s2).trans s3
 exact q _ _ s13 (.tup upd_same (.cons (.tup (s3 _ _ hp12) (Reps.words fun y hy=>by have:=stand_short kt y hy;omega)) (.cons (rt.same s13) .nil)))
end
theorem mem_look {α:Type}:∀{l:List (Str×α)} {z:Str} {a:α},(l.map (·.1)).Nodup→(z,a)∈l→l.lookup z=some a
 |[],_,_,_,h=>by cases h
 |(y,b)::r,z,a,nd,h=>by
  rw[List.map_cons,List.nodup_cons]at nd
  rw[List.lookup_cons]
  rcases List.mem_cons.mp h with e|h
  ·cases e;simp
  ·have:(z==y)=false:=by
    rw[beq_eq_false_iff_ne]
    intro e
    exact nd.1 (e ▸ List.mem_map_of_mem (f:=(·.1)) h)
   rw[this]
   exact mem_look nd.2 h
def hidesM (name:Str)(hds:List (Str×Nat)):List (Str×T):=hds.map fun p=>(p.1, .tup [.tup ((lets p.2).map T.str),pathT name p.1 p.2])
structure TrD (H:Hp)(b h:Addr)(name:Str)(at_ hds:List (Str×Nat))(m:List (Str×T)):Prop where
 A:AtOk at_
 hb:DictL H b m
 hh:DictL H h (hidesM name hds)
 B:ByOk m
 sub:∀p∈hds,p∈at_
 nm:name∈PN
theorem TrD.same {H H':Hp}{b h:Addr}{name:Str}{at_ hds:List (Str×Nat)}{m:List (Str×T)}(t:TrD H b h name at_ hds m)(s:Same H H'):TrD H' b h name at_ hds m:={t with hb:=t.hb.same s,hh:=t.hh.same s}
theorem hides_look {at_ hds:List (Str×Nat)}{name z:Str}(A:AtOk at_)(sub:∀p∈hds,p∈at_){k:Nat}(hz:z="->"∨(z,k)∈at_):(z∈hds.map (·.1)∧(hidesM name hds).lookup z=some (.tup [.tup ((lets k).map T.str),pathT name z k])∧k≤2)∨(z∉hds.map (·.1)∧(hidesM name hds).lookup z=none):=by
 have lk:∀l:List (Str×Nat),(hidesM name l).lookup z=(l.lookup z).map fun k=>T.tup [.tup ((lets k).map T.str),pathT name z k]:=by
  intro l
  induction l with
  |nil=>rfl
  |cons p r ih=>
   obtain⟨y,j⟩:=p
   show((y,_)::hidesM name r).lookup z=_
   rw[List.lookup_cons,List.lookup_cons]
   cases e:z==y with
   |true=>
    have:z=y:=by simpa using e
    subst this
    rfl
   |false=>exact ih
 rw[lk]
 by_cases h:z∈hds.map (·.1)
 ·left
  obtain⟨j,hj⟩:=lookup_some h
  have m1:=sub _ (mem_of_lookup' hj)
  have hk:(z,k)∈at_:=hz.elim (fun e=>absurd (List.mem_map_of_mem (f:=(·.1)) m1) (by rw[e];exact A.na)) id
  have ejk:j=k:=by
   have l1:=mem_look A.nd m1
   have l2:=mem_look A.nd hk
   rw[l1]at l2
   exact Option.some.inj l2
  subst ejk
  exact⟨h,by rw[hj];rfl,(A.w _ hk).2.1⟩
 ·right
  refine⟨h,?_⟩
  cases e:hds.lookup z with
  |none=>rfl
  |some j=>exact absurd (List.mem_map_of_mem (f:=(·.1)) (mem_of_lookup' e)) h
def spTurn (n:Nat):Sp:=fun vs H Q _=>∃(v:V) (b h:Addr) (t:T) (name:Str) (at_ hds:List (Str×Nat)) (m:List (Str×T)),vs=[v, .ref b, .ref h]∧Rep H v t∧DrK at_ n t∧TrD H b h name at_ hds m∧∀v' H',Same H H'→Rep H' v' (remT (gMd (gHd name) (hds.map (·.1)) m) t)→Q v' H'
def TurnUp:Nat→Sp
 |0=>fun _ _ _ _=>False
 |n+1=>spTurn n
section
variable {P:Program}{w:World}{K:PySem.W.Frag}{mg:Str→Option Value}{base:Heap}{f:Addr}{fd:FuncData}
abbrev s_lby:Stmt:=top 39
abbrev nLby:List Str:=["_law_givers","_law_parts","_law_by_here","_law_giver","_law_part"]
theorem sc_lby:FnScope nLby ["_law_givers","_law_parts"] (defScope s_lby):=⟨rfl,rfl,rfl,by decide+kernel,rfl,by decide+kernel,by decide+kernel⟩
set_option maxHeartbeats 1000000 in
theorem ok_lby (F:Fun K "_law_by" "_law_by" s_lby f fd)(mz:mg "zip"=none):FnOk P w K mg base CX0 1 f fd ["_law_givers","_law_parts"] spBy:=by
 refine F.ok sc_lby (len:=fun vs H Q E h=>(by obtain⟨a,b,xs,gs,us,rfl,_⟩:=h;rfl)) (fun cdv A outer s H vs Q E hr h=>?_)
 obtain⟨a,b,xs,gs,us,rfl,ha,ra,hb,hl,hl2,nd,hu8,q⟩:=h
 have hu:=hu_of hr
 refine⟨_,pss_cons (pset 2 sc_lby.nd pe_dnewK)
  (pss_cons (ps_for PassesOwn.never rfl (pi_zip rfl mz (pa_cons (pv 0) (pa_cons (pv 1) pa_nil))) (pgT K (n:=2) rfl (pgs_cons (pg_name (i:=3) sc_lby.nd rfl (Or.inl rfl)) (pgs_cons (pg_name (i:=4) sc_lby.nd rfl (Or.inl rfl)) pgs_nil)))
   (pss_one (ps_dput hu (pv 2) (pe_ix (ixT K) (pv 3) pe_int) (pv 4) rfl)))
  (pss_one (ps_ret (pv 2)))),?_⟩
 have lx:=ra.length
 rw[List.length_map]at lx
 refine fun d hd=>?_
 obtain⟨H1,eH1,s1,hd1⟩:=nw hd (.dK [])
 rw[eH1]
 refine⟨_,rfl,_,rfl,a,b,xs,us.map V.str,rfl,s1 _ _ ha,s1 _ _ hb,for_zipT (xs:=xs) (ys:=us.map V.str) (fun i σ H'=>∃(o3 o4:Option V) (kvs:List (Key×V)),σ=[some (.ref a),some (.ref b),some (.ref d),o3,o4]∧(∀c o,c≠d→H1 c=some o→H' c=some o)∧H' d=some (.dK kvs)∧DReps H' kvs (((gs.take i).map (·.1)).zip ((us.take i).map T.str)))
  (by rw[List.length_map];omega) ⟨none,none,[],rfl,fun _ _ _ h=>h,hd1,by simp;exact .nil⟩ ?_ ?_ ?_⟩
 ·rintro i σ H' hi ⟨o3,o4,kvs,rfl,g,_,_⟩
  exact⟨g _ _ (ne_of_none ha hd) (s1 _ _ ha),g _ _ (ne_of_none hb hd) (s1 _ _ hb)⟩
 ·rintro i x y p σ H' hx hy hp ⟨o3,o4,kvs,rfl,g,h,dr⟩
  obtain⟨t,ht,rt⟩:=ra.at3 hx
  rw[List.getElem?_map]at ht hy
  cases hg:gs[i]? with
  |none=>rw[hg]at ht;cases ht
  |some gv=>
  rw[hg]at ht
  cases ht
  cases hg2:us[i]? with
  |none=>rw[hg2]at hy;cases hy
  |some u=>
  rw[hg2]at hy
  cases hy
  have s2:=same_new hp (.tup [x, .str u])
  have tu:∀c xs,H c=some (.tup xs)→(upd H' p (.tup [x, .str u])) c=some (.tup xs):=fun c xs e=>s2 _ _ (g _ _ (ne_of_none e hd) (s1 _ _ e))
  have rt2:=rt.mono tu
  cases rt2 with
  |@tup c ys _ hc rys=>
   cases rys with
   |@cons v0 _ vr _ r0 rr=>
    cases r0
    have lk:kvs.length≤1000:=by
     have:=dr.length
     rw[List.length_zip,List.length_map,List.length_take]at this
     omega
    have nk:valV kvs (Sum.inr gv.1)=none:=by
     rcases dr.get gv.1 with ⟨h,_⟩|⟨v',t'',_,h,_⟩
     ·exact h
     ·exfalso
      have m:=(List.of_mem_zip (mem_of_lookup' h)).1
      have e2:gs.map (·.1)=(gs.take i).map (·.1)++(gs.drop i).map (·.1):=by rw[←List.map_append,List.take_append_drop]
      rw[e2]at nd
      have e3:gv.1∈(gs.drop i).map (·.1):=by
       refine List.mem_map_of_mem ?_
       rw[List.mem_iff_getElem?]
       exact⟨0,by rw[List.getElem?_drop,Nat.add_zero];exact hg⟩
      exact(List.nodup_append.mp nd).2.2 _ m _ e3 rfl
    have tu3:∀b' xs',(upd H' p (.tup [.ref c, .str u])) b'=some (.tup xs')→(upd (upd H' p (.tup [.ref c, .str u])) d (.dK (putK kvs (Sum.inr gv.1) (.str u)))) b'=some (.tup xs'):=fun b' xs' e=>by rw[upd_ne (ne_of e (s2 _ _ h) (by intro z;cases z))];exact e
    refine⟨p,_,rfl,SqT.of upd_same,rfl,_,_,rfl,_,_,rfl,rfl,?_⟩
    refine⟨_,rfl,_,rfl,_,rfl,c,_,0, .str gv.1,rfl,rfl,SqT.of hc,atI_nat (j:=0) rfl,d,_,rfl,DPut.k (k:=Sum.inr gv.1) (s2 _ _ h) (small' (by omega)),_,_,_,rfl,fun b' o n e=>by rw[upd_ne n];exact s2 _ _ (g b' o n e),upd_same,?_⟩
    have u8:=hu8 u (List.mem_of_getElem? hg2)
    have dr2:=(dr.mono (Same.tups s2)).mono tu3
    rw[putK_new _ nk]at dr2 ⊢
    rw[take_next hg,take_next hg2,List.map_append,List.map_append,List.zip_append (by rw[List.length_map,List.length_map,List.length_take,List.length_take];omega)]
    exact DReps.snoc (.str u (by omega)) dr2
 ·rintro σ H' ⟨o3,o4,kvs,rfl,g,h,dr⟩
  rw[lx,List.take_length,List.take_of_length_le (by omega)]at dr
  exact⟨_,rfl,q d H' kvs (fun c o e=>g _ _ (ne_of_none e hd) (s1 _ _ e)) hd h dr⟩
abbrev s_trn:Stmt:=top 35
abbrev nTrn:List Str:=["_law_kind","_law_by_here","_law_hides","_law_parts","_law_put_letters","_law_inner"]
abbrev pTrn:List Str:=["_law_kind","_law_by_here","_law_hides"]
theorem sc_trn:FnScope nTrn pTrn (defScope s_trn):=⟨rfl,rfl,rfl,by decide+kernel,rfl,by decide+kernel,by decide+kernel⟩
set_option maxHeartbeats 4000000 in
theorem ok_trn {n:Nat}(F:Fun K "_law_turned" "_law_turned" s_trn f fd)(mi:mg "isinstance"=none)(ms:mg "str"=none)(mt:mg "tuple"=none)(mD:mg "dict"=none)(mz:mg "zip"=none)(h1:Has P w K mg base 1 "_law_word" ["_law_word_here","_law_by_here"] spLW)
  (h2:Has P w K mg base 2 "_law_put" ["_law_kind","_law_by_here"] spPut1) (h3:Has P w K mg base (n+2) "_law_turned" pTrn (TurnUp n)):FnOk P w K mg base CX0 (n+3) f fd pTrn (spTurn n):=by
 refine F.ok sc_trn (len:=fun vs H Q E h=>(by obtain⟨v,b,h,t,nm,at_,hds,m,rfl,_⟩:=h;rfl)) (fun cdv A outer s H vs Q E hr h=>?_)
 obtain⟨v,b,h,t,name,at_,hds,m,rfl,rt,dk,D,q⟩:=h
 have hu:=hu_of hr
 have hr1:=hr.mono (show 1≤n+2 by omega)
 have hr2:=hr.mono (show 2≤n+2 by omega)
 refine⟨_,pss_cons (ps_if (pt_val (pe_callB call_isi rfl mi boot_isinstance (pa_cons (pv 0) (pa_cons (pe_bltn (v:=.ty "str") rfl ms boot_str rfl) pa_nil))))
   (pss_cons (ps_if (pt_cmp (pc_din hu (pv 0) (pv 2)) rfl) (pss_one (ps_ret (pe_ix (ixT K) (pe_dget hu (pv 2) (pv 0) (fun _ _=>rfl)) pe_int))) pss_nil)
   (pss_one (ps_ret (pcall h1 hr1 (Nat.le_refl _) rfl (pa_cons (pv 0) (pa_cons (pv 1) pa_nil)))))) pss_nil)
  (pss_cons (ps_lc (te:=tCall (TurnUp n) [] E0 (tCons (tVar 0) (tCons (tVar 1) (tCons (tVar 2) tNil)))) (defScope s_trn) nTrn ["_law_by_here","_law_hides"] [1,2] (by decide+kernel) (piT K (pe_slice sl_tup (pv 0) (po_some pe_int) po_none)) (pg_name (i:=3) sc_trn.nd rfl (Or.inl rfl)) (fun C s₀ H₀ ex=>pts_nil)
   (fun C s₀ H₀ ex=>by exact pcall h3 hr (Nat.le_refl _) rfl (pa_cons (pv 0) (pa_cons (pv 1) (pa_cons (pv 2) pa_nil)))) (by with_unfolding_all rfl))
  (pss_cons (ps_if (pt_cmp (pc_din hu (pe_ix (ixT K) (pv 0) pe_int) (pv 2)) rfl)
   (pss_cons (ps_asg (pe_dget hu (pv 2) (pe_ix (ixT K) (pv 0) pe_int) (fun _ _=>rfl)) (pgT K (n:=2) rfl (pgs_cons (pg_name (i:=4) sc_trn.nd rfl (Or.inl rfl)) (pgs_cons (pg_name (i:=5) sc_trn.nd rfl (Or.inl rfl)) pgs_nil))))
   (pss_one (ps_ret (pcall h2 hr2 (Nat.le_refl _) rfl (pa_cons (pv 5) (pa_cons (pe_dictZip rfl rfl mD rfl mz boot_dict' (pa_cons (pv 4) (pa_cons (pv 3) pa_nil))) pa_nil)))))) pss_nil)
  (pss_one (ps_ret (pe_op (catT K) (pe_tup (pa_cons (pcall h1 hr1 (Nat.le_refl _) rfl (pa_cons (pe_ix (ixT K) (pv 0) pe_int) (pa_cons (pv 1) pa_nil))) pa_nil)) (pe_callTy (ctup K) rfl mt boot_tuple (pa_cons (pv 3) pa_nil))))))),?_⟩
 have gdef:∀z ts,gMd (gHd name) (hds.map (·.1)) m z ts=if z∈hds.map (·.1) then formS (name++"."++z) ts else formS (turnW m z) ts:=fun z ts=>rfl
 obtain⟨kb,hb,drb⟩:=D.hb
 obtain⟨kh,hh,drh⟩:=D.hh
 have name2:=(pn_of D.nm).1
 refine⟨_,rfl,_,_,"str",_,rfl,rep_ty rt,kit_str K t,_,rfl,?_⟩
 rcases dk.form D.A with ⟨z,rfl,hz⟩|⟨z,ts,j,rfl,rfl,hw,hq,l1,l2,hk,hza⟩
 ·cases rt
  refine iteT ⟨_,rfl,_,rfl,h,_,rfl,DGet.k (k:=Sum.inr z) hh,_,rfl,?_⟩
  have wz:Wd z:=wd_of (D.A.w _ hz).1
  have er:remT (gMd (gHd name) (hds.map (·.1)) m) (.str z)=if z∈hds.map (·.1) then .str (name++"."++z) else .str (turnW m z):=by
   rw[remT,gdef]
   split<;>rfl
  rw[er]at q
  rcases hides_look (name:=name) D.A D.sub (k:=0) (.inr hz) with ⟨hm,lk,_⟩|⟨hm,lk⟩
  ·rw[if_pos hm]at q
   rcases drh.get z with ⟨_,g2⟩|⟨v',t',g1,g2,r'⟩
   ·rw[lk]at g2;cases g2
   ·rw[lk]at g2
    cases g2
    rw[g1]
    cases r' with
    |@tup c ys _ hc rys=>
     cases rys with
     |@cons v0 _ vr0 _ r0 rr0=>
      cases rr0 with
      |@cons v1 _ vr1 _ r1 rr1=>
       have dg:=DGet.k (k:=Sum.inr z) hh
       rw[g1]at dg
       exact iteT ⟨_,rfl,_,rfl,h,_,rfl,dg,c,_,1,v1,rfl,rfl,SqT.of hc,atI_nat (j:=1) rfl,q v1 H (Same.refl H) r1⟩
  ·rw[if_neg hm]at q
   rcases drh.get z with ⟨g1,_⟩|⟨v',t',_,g2,_⟩
   ·rw[g1]
    refine iteF ⟨_,rfl,_,rfl,z,b,kb,m,rfl,wz,hb,drb,D.B,fun H1 s1=>q _ H1 s1 (.str _ ?_)⟩
    have:=(turn_ok D.B wz).1
    omega
   ·rw[lk]at g2;cases g2
 ·cases rt with
  |@tup a ys _ ha rys=>
  cases rys with
  |@cons v0 _ vr _ r0 rr=>
  cases r0
  have lr:=rr.length
  have wz:Wd z:=wd_of hw
  have er:remT (gMd (gHd name) (hds.map (·.1)) m) (.tup (.str z::ts))=gMd (gHd name) (hds.map (·.1)) m z (ts.map (remT (gMd (gHd name) (hds.map (·.1)) m))):=by rw[remT,rem1,rems_map]
  rw[er]at q
  obtain⟨us,hus⟩:∃us,us=ts.map (remT (gMd (gHd name) (hds.map (·.1)) m)):=⟨_,rfl⟩
  have lus:us.length=ts.length:=by rw[hus,List.length_map]
  rw[←hus,gdef]at q
  refine iteF ?_
  refine⟨_,rfl,1,rfl,a,_,rfl,SqT.of ha,cutq_not (vs:=V.str z::vr) (n:=1) (by simp) (Nat.le_refl _),fun p2 hp2=>?_⟩
  rw[show cutV (V.str z::vr) (some 1) none=vr from cutq (V.str z::vr) 1]
  obtain⟨H2,eH2,s2,hp22⟩:=nw hp2 (.tup vr)
  rw[eH2]
  refine⟨p2,rfl,⟨_,SqT.of hp22⟩,comp_tup (xs:=vr) (fun i ws H'=>Same H2 H'∧Reps H' ws (us.take i)) ⟨Same.refl _,by simp;exact .nil⟩ ?_ ?_ ?_⟩
  ·rintro i ws H' hi ⟨s3,r⟩
   exact⟨SqT.of (s3 _ _ hp22),small' (by rw[r.length,List.length_take];omega)⟩
  ·rintro i x ws H' hi hx ⟨s3,r⟩
   obtain⟨t',ht,rx⟩:=rr.at3 hx
   have s23:=s2.trans s3
   have hu':us[i]?=some (remT (gMd (gHd name) (hds.map (·.1)) m) t'):=by rw[hus,List.getElem?_map,ht];rfl
   refine tt1 (iteT ⟨_,rfl,_,rfl,_,rfl,x,b,h,t',name,at_,hds,m,rfl,rx.same s23,hk t' (List.mem_of_getElem? ht),D.same s23,fun v' H4 s4 rv=>nx hi ⟨s3.trans s4,?_⟩⟩)
   rw[take_next hu']
   exact(r.same s4).append (.cons rv .nil)
  ·rintro ws H3 ⟨s3,r⟩ lp hlp
   rw[List.take_of_length_le (by omega)]at r
   obtain⟨H4,eH4,s4,hlp4⟩:=nw hlp (.lst ws)
   rw[eH4]
   have r4:=r.same s4
   have s04:=(s2.trans s3).trans s4
   have ha4:=s04 _ _ ha
   have hh4:=s04 _ _ hh
   have hb4:=s04 _ _ hb
   have drh4:=drh.mono (Same.tups s04)
   have drb4:=drb.mono (Same.tups s04)
   have lws:=r4.length
   refine⟨_,rfl,a,_,0, .str z,rfl,rfl,SqT.of ha4,atI_nat (j:=0) rfl,_,rfl,h,_,rfl,DGet.k (k:=Sum.inr z) hh4,_,rfl,?_⟩
   rcases hides_look (name:=name) D.A D.sub hza with ⟨hm,lk,k2⟩|⟨hm,lk⟩
   ·rw[if_pos hm]at q
    rcases drh4.get z with ⟨_,g2⟩|⟨v',t',g1,g2,r'⟩
    ·rw[lk]at g2;cases g2
    ·rw[lk]at g2
     cases g2
     rw[g1]
     have dg:=DGet.k (k:=Sum.inr z) hh4
     rw[g1]at dg
     cases r' with
     |@tup c ys' _ hc rys'=>
      cases rys' with
      |@cons w0 _ wr0 _ q0 qq0=>
       cases qq0 with
       |@cons w1 _ wr1 _ q1 qq1=>
        cases qq1
        cases q0 with
        |@tup cl lys _ hcl rl=>
        have el:lys=(lets ts.length).map V.str:=Reps.texts rl
        subst el
        have pk:pathT name z ts.length=.tup (.str (name++"."++z)::(lets ts.length).map T.str):=by unfold pathT;rw[if_neg (by omega)]
        rw[pk]at q1
        cases q1 with
        |@tup ci iys _ hci ri=>
        have ei:iys=(((name++"."++z)::lets ts.length):List Str).map V.str:=Reps.texts (us:=(name++"."++z)::lets ts.length) ri
        subst ei
        refine iteT ⟨_,rfl,_,rfl,a,_,0, .str z,rfl,rfl,SqT.of ha4,atI_nat (j:=0) rfl,h,_,rfl,dg,c,_,rfl,SqT.of hc,rfl,_,_,rfl,_,_,rfl,rfl,?_⟩
        have ll:=lets_len k2
        have ek:((lets ts.length).map Sum.inr:List Key).map kV=(lets ts.length).map V.str:=by rw[List.map_map];rfl
        refine⟨_,rfl,_,rfl,_,rfl,false,true,cl,lp,((lets ts.length).map Sum.inr:List Key),ws,rfl,by show _=some (HO.tup _);rw[ek];exact hcl,hlp4,by rw[List.length_map,ll];omega,fun d hd=>?_⟩
        have nk:((((lets ts.length).map Sum.inr:List Key).zip ws).map (·.1)).Nodup:=by
         rw[List.map_fst_zip (by rw[List.length_map,ll];omega)]
         exact List.Pairwise.map _ (fun a b h z=>h (Sum.inr.inj z)) lets_nd
        rw[mergeK_nd _ [] nk fun kv _=>rfl,List.nil_append]
        obtain⟨H5,eH5,s5,hd5⟩:=nw hd (.dK (((lets ts.length).map Sum.inr:List Key).zip ws))
        rw[eH5]
        have r5:=r4.same s5
        have drd:=DReps.zip (zs:=lets ts.length) (by rw[ll];omega) r5
        obtain⟨y,yr,ely⟩:∃y yr,lets ts.length=y::yr:=by
         cases e:lets ts.length with
         |nil=>rw[e]at ll;simp at ll;omega
         |cons y yr=>exact⟨y,yr,rfl⟩
        have lyr:yr.length≤2:=by rw[ely]at ll;simp at ll;omega
        refine⟨ci,d,name++"."++z,y,yr,_,_,rfl,by have:=s5 _ _ hci;rw[ely]at this;exact this,fun u hu'=>?_,by omega,hd5,drd,fun v' H6 s6 rv=>q v' H6 ((s04.trans s5).trans s6) ?_⟩
        ·rcases List.mem_cons.mp hu' with e|hu'
         ·rw[e,len_app,len_app,dot_len];have:=wz.len;omega
         ·rw[←ely]at hu'
          have:=lets_mem u hu'
          omega
        ·rw[←ely,←lus,lets_fill (by omega)]at rv
         cases us with
         |nil=>simp at lus;omega
         |cons u r'=>exact rv
   ·rw[if_neg hm]at q
    rcases drh4.get z with ⟨g1,_⟩|⟨v',t',_,g2,_⟩
    ·rw[g1]
     refine iteF ⟨_,rfl,a,_,0, .str z,rfl,rfl,SqT.of ha4,atI_nat (j:=0) rfl,_,rfl,z,b,kb,m,rfl,wz,hb4,drb4,D.B,fun H5 s5=>?_⟩
     refine⟨sml 1,fun p6 hp6=>?_⟩
     obtain⟨H6,eH6,s6,hp66⟩:=nw hp6 (.tup [V.str (turnW m z)])
     rw[eH6]
     refine⟨_,rfl,lp,_,rfl, .inl ⟨SqL.of (s6 _ _ (s5 _ _ hlp4)),fun p7 hp7=>?_⟩⟩
     obtain⟨H7,eH7,s7,hp77⟩:=nw hp7 (.tup ws)
     rw[eH7]
     refine catT_one (s7 _ _ hp66) hp77 (by omega) fun p8 H8 s8 hp8=>?_
     have s48:=((s5.trans s6).trans s7).trans s8
     have tl:=(turn_ok D.B wz).1
     refine q _ H8 (s04.trans s48) ?_
     have r8:=r4.same s48
     have fin:Rep H8 (.ref p8) (.tup (.str (turnW m z)::us)):=.tup hp8 (.cons (.str _ (by omega)) r8)
     cases us with
     |nil=>simp at lus;omega
     |cons u r'=>exact fin
    ·rw[lk]at g2;cases g2
theorem trn_all (F:Fun K "_law_turned" "_law_turned" s_trn f fd)(bF:Binds K fd pTrn [])(mF:mg "_law_turned"=some (.ref f))(mi:mg "isinstance"=none)(ms:mg "str"=none)(mt:mg "tuple"=none)(mD:mg "dict"=none)(mz:mg "zip"=none)(h1:Has P w K mg base 1 "_law_word" ["_law_word_here","_law_by_here"] spLW)
  (h2:Has P w K mg base 2 "_law_put" ["_law_kind","_law_by_here"] spPut1):∀n,Has P w K mg base (n+3) "_law_turned" pTrn (spTurn n)
 |0=>⟨f,fd,ok_trn F mi ms mt mD mz h1 h2 ⟨f,fd,⟨fun _ _ _ _ h=>h.elim,fun _ _ _ _ _ _ _ _ _ _ _ _ _ h=>h.elim⟩,bF,F.kp,mF⟩,bF,F.kp,mF⟩
 |n+1=>⟨f,fd,ok_trn F mi ms mt mD mz h1 h2 (trn_all F bF mF mi ms mt mD mz h1 h2 n),bF,F.kp,mF⟩
end
def hideI (p:Str×Nat):It3:=("hide",p.1, .int p.2)
def valI (p:Str×T):It3:=("val",p.1,p.2)
def itsOf (hds:List (Str×Nat))(vals:List (Str×T)):List It3:=hds.map hideI++vals.map valI
theorem hv_ne:("hide":Str)≠"val"∧("val":Str)≠"hide":=by decide+kernel
theorem its_val (hds:List (Str×Nat))(vals:List (Str×T)):itemsM (itsOf hds vals) "val"=vals:=by
 unfold itemsM itsOf
 rw[List.filter_append,List.map_append]
 have h1:(hds.map hideI).filter (fun i=>decide (i.1=("val":Str)))=[]:=by
  rw[List.filter_eq_nil_iff]
  intro i hi
  obtain⟨p,_,rfl⟩:=List.mem_map.mp hi
  show ¬decide (("hide":Str)="val")=true
  rw[decide_eq_false hv_ne.1]
  simp
 have h2:(vals.map valI).filter (fun i=>decide (i.1=("val":Str)))=vals.map valI:=by
  rw[List.filter_eq_self]
  intro i hi
  obtain⟨p,_,rfl⟩:=List.mem_map.mp hi
  exact decide_eq_true rfl
 rw[h1,h2,List.map_map]
 show[]++vals.map (fun p=>(p.1,p.2))=vals
 simp
theorem its_hide (hds:List (Str×Nat))(vals:List (Str×T)):itemsM (itsOf hds vals) "hide"=hds.map fun p=>(p.1, .int p.2):=by
 unfold itemsM itsOf
 rw[List.filter_append,List.map_append]
 have h1:(vals.map valI).filter (fun i=>decide (i.1=("hide":Str)))=[]:=by
  rw[List.filter_eq_nil_iff]
  intro i hi
  obtain⟨p,_,rfl⟩:=List.mem_map.mp hi
  show ¬decide (("val":Str)="hide")=true
  rw[decide_eq_false hv_ne.2]
  simp
 have h2:(hds.map hideI).filter (fun i=>decide (i.1=("hide":Str)))=hds.map hideI:=by
  rw[List.filter_eq_self]
  intro i hi
  obtain⟨p,_,rfl⟩:=List.mem_map.mp hi
  exact decide_eq_true rfl
 rw[h1,h2,List.map_map,List.map_nil,List.append_nil]
 rfl
theorem hides_of (hds:List (Str×Nat))(vals:List (Str×T)):hidesOf (itsOf hds vals)=hds.map (·.1):=by
 unfold hidesOf
 rw[its_hide,List.map_map]
 rfl
structure FaceD (at_ hds:List (Str×Nat))(vals:List (Str×T)):Prop where
 A:AtOk at_
 sub:∀p∈hds,p∈at_
 hl:hds.length≤10
 vl:vals.length≤11
 nh:(hds.map (·.1)).Nodup
 nv:(vals.map (·.1)).Nodup
 lh:∀p∈hds,p.1.length≤10
 lv:∀p∈vals,p.1.length≤10
 kd:∀p∈vals,DrK at_ 3 p.2
theorem lets_cut {K:PySem.W.Frag}{p2:Addr}{H6:Hp}{k:Nat}{Q:VK}(hk:k≤2)(hp:H6 p2=some (.tup [V.str "?a",V.str "?b"]))(q:∀p3 H7,Same H6 H7→H7 p3=some (.tup ((lets k).map V.str))→Q (.ref p3) H7):
  rSlT K (.ref p2) none (some (k:Int)) H6 Q∨rSlW K (.ref p2) none (some (k:Int)) H6 Q:=by
 rcases k3 hk with rfl|rfl|rfl
 ·exact .inl ⟨p2,_,rfl,SqT.of hp,by first|decide|(simp[HT.sIx]),fun p3 hp3=>q p3 _ (same_new hp3 _) upd_same⟩
 ·exact .inl ⟨p2,_,rfl,SqT.of hp,by first|decide|(simp[HT.sIx]),fun p3 hp3=>q p3 _ (same_new hp3 _) upd_same⟩
 ·exact .inr ⟨p2,_,rfl,SqT.of hp,by first|rfl|decide|(simp[HT.sIx]),by first|rfl|decide|(simp[HT.sIx]),q p2 H6 (Same.refl _) hp⟩
def spShown:Sp:=fun vs H Q _=>∃(fa fo:Addr) (name F:Str) (us:List Str) (gs:List (Str×T)) (at_ hds:List (Str×Nat)) (vals:List (Str×T)) (fmap:List (Str×T)),vs=[.ref fa, .str name, .ref fo]∧DictL H fa fmap∧fmap.lookup F=some (.tup [.tup (gs.map gvT), .tup ((itsOf hds vals).map itT)])∧
 H fo=some (.tup ((F::us).map V.str))∧(∀u∈us,u∈PN)∧gs.length=us.length∧gs.length≤100∧(gs.map (·.1)).Nodup∧FaceD at_ hds vals∧name∈PN∧∀p H',Same H H'→H p=none→DictL H' p (shownM name (itsOf hds vals) gs us)→Q (.ref p) H'
theorem byOk_of {gs:List (Str×T)}{us:List Str}(h:∀u∈us,u∈PN):ByOk (byOf gs us):=⟨fun x hx=>by
 have:=(List.of_mem_zip (a:=x.1) (b:=x.2) hx).2
 obtain⟨u,hu,e⟩:=List.mem_map.mp this
 exact⟨u,h u hu,e.symm⟩⟩
def lineT (name:Str)(hs:List Str)(m:List (Str×T))(p:Str×T):Str×T:=(name++"."++p.1,schT (remT (gMd (gHd name) hs m) p.2))
theorem shown_eq (name:Str)(hds:List (Str×Nat))(vals:List (Str×T))(gs:List (Str×T))(us:List Str):shownM name (itsOf hds vals) gs us=vals.map (lineT name (hds.map (·.1)) (byOf gs us)):=by
 unfold shownM kindsM
 rw[its_val,hides_of,List.map_map]
 rfl
section
variable {P:Program}{w:World}{K:PySem.W.Frag}{mg:Str→Option Value}{base:Heap}{f:Addr}{fd:FuncData}
abbrev s_shn:Stmt:=top 40
abbrev nShn:List Str:=["_law_faces","_law_name","_law_form","_law_givers","_law_items_here","_law_by_here","_law_hides","_law_seen_rows","_law_word_here","_law_small","_law_told_here"]
theorem sc_shn:FnScope nShn ["_law_faces","_law_name","_law_form"] (defScope s_shn):=⟨rfl,rfl,rfl,by decide+kernel,rfl,by decide+kernel,by decide+kernel⟩
set_option maxHeartbeats 4000000 in
theorem ok_shn (F:Fun K "_law_shown" "_law_shown" s_shn f fd)(h1:Has P w K mg base 1 "_law_by" ["_law_givers","_law_parts"] spBy)(h2:Has P w K mg base 1 "_law_path" ["_law_name","_law_hide","_law_many"] spPath)
  (h3:Has P w K mg base 5 "_law_scheme" ["_law_kind"] (spSch 3)) (h4:Has P w K mg base 6 "_law_turned" pTrn (spTurn 3)):FnOk P w K mg base CX0 7 f fd ["_law_faces","_law_name","_law_form"] spShown:=by
 refine F.ok sc_shn (len:=fun vs H Q E h=>(by obtain⟨fa,fo,name,Fn,us,gs,at_,hds,vals,fmap,rfl,_⟩:=h;rfl)) (fun cdv A outer s H vs Q E hr h=>?_)
 obtain⟨fa,fo,name,Fn,us,gs,at_,hds,vals,fmap,rfl,Df,lk,hfo,upn,e1,e2,nd,FD,npn,q⟩:=h
 have hu:=hu_of hr
 refine⟨_,pss_cons (ps_asg (pe_dget hu (pv 0) (pe_ix (ixT K) (pv 2) pe_int) (fun _ _=>rfl)) (pgT K (n:=2) rfl (pgs_cons (pg_name (i:=3) sc_shn.nd rfl (Or.inl rfl)) (pgs_cons (pg_name (i:=4) sc_shn.nd rfl (Or.inl rfl)) pgs_nil))))
  (pss_cons (pset 5 sc_shn.nd (pcall h1 hr (by decide) rfl (pa_cons (pv 3) (pa_cons (pe_slice sl_tup (pv 2) (po_some pe_int) po_none) pa_nil))))
  (pss_cons (pset 6 sc_shn.nd pe_dnewK)
  (pss_cons (pset 7 sc_shn.nd pe_dnewK)
  (pss_cons (ps_for PassesOwn.never rfl (piT K (pv 4)) (pgT K (n:=3) rfl (pgs_cons (pg_name (i:=8) sc_shn.nd rfl (Or.inl rfl)) (pgs_cons (pg_name (i:=9) sc_shn.nd rfl (Or.inl rfl)) (pgs_cons (pg_name (i:=10) sc_shn.nd rfl (Or.inl rfl)) pgs_nil))))
   (pss_one (ps_if (pt_cmpR op_eq (pv 8) pe_str)
    (pss_one (ps_dput hu (pv 6) (pv 9) (pe_tup (pa_cons (pe_slice ((slT K).or (slW K)) (pe_tup (pa_cons pe_str (pa_cons pe_str pa_nil))) po_none (po_some (pv 10))) (pa_cons (pcall h2 hr (by decide) rfl (pa_cons (pv 1) (pa_cons (pv 9) (pa_cons (pv 10) pa_nil)))) pa_nil))) rfl))
    (pss_one (ps_dput hu (pv 7) (pe_op op_add_str (pe_op op_add_str (pv 1) pe_str) (pv 9)) (pcall h3 hr (by decide) rfl (pa_cons (pcall h4 hr (by decide) rfl (pa_cons (pv 10) (pa_cons (pv 5) (pa_cons (pv 6) pa_nil)))) pa_nil)) rfl)))))
  (pss_one (ps_ret (pv 7))))))),?_⟩
 obtain⟨v0,dg,rv0⟩:=Df.get lk
 cases rv0 with
 |@tup c ys _ hc rys=>
 cases rys with
 |@cons w0 _ wr0 _ q0 qq0=>
 cases qq0 with
 |@cons w1 _ wr1 _ q1 qq1=>
 cases qq1
 cases q0 with
 |@tup ga gys _ hga rga=>
 cases q1 with
 |@tup ia iys _ hia ria=>
 have liy:=ria.length
 rw[List.length_map]at liy
 have lits:(itsOf hds vals).length=hds.length+vals.length:=by unfold itsOf;rw[List.length_append,List.length_map,List.length_map]
 have l10:=FD.hl
 have l11:=FD.vl
 have u80:∀u∈us,u.length≤80:=fun u hu'=>by have:=(pn_of (upn u hu')).1;omega
 have n2:=(pn_of npn).1
 have B:ByOk (byOf gs us):=byOk_of upn
 refine⟨_,rfl,_,rfl,fo,_,0, .str Fn,rfl,rfl,SqT.of hfo,atI_nat (j:=0) rfl,fa,_,rfl,dg,c,_,rfl,SqT.of hc,rfl,_,_,rfl,_,_,rfl,rfl,?_⟩
 refine⟨_,rfl,_,rfl,1,rfl,fo,_,rfl,SqT.of hfo,cutq_not (vs:=(Fn::us).map V.str) (n:=1) (by simp) (Nat.le_refl _),fun p1 hp1=>?_⟩
 rw[show cutV ((Fn::us).map V.str) (some 1) none=us.map V.str from cutq ((Fn::us).map V.str) 1]
 obtain⟨H1,eH1,s1,hp11⟩:=nw hp1 (.tup (us.map V.str))
 rw[eH1]
 refine⟨ga,p1,gys,gs,us,rfl,s1 _ _ hga,rga.same s1,hp11,e1,e2,nd,u80,fun d H2 kb s2 hd0 hd2 drb=>?_⟩
 refine fun dh hdh=>?_
 obtain⟨H3,eH3,s3,hdh3⟩:=nw hdh (.dK [])
 rw[eH3]
 refine fun ds hds'=>?_
 obtain⟨H4,eH4,s4,hds4⟩:=nw hds' (.dK [])
 rw[eH4]
 have nhs:dh≠ds:=ne_of_none hdh3 hds'
 have hdh4:=s4 _ _ hdh3
 have s04:=((s1.trans s2).trans s3).trans s4
 have ia4:=s04 _ _ hia
 have ria4:=ria.same s04
 have hd4:=s4 _ _ (s3 _ _ hd2)
 have drb4:=(drb.mono (Same.tups s3)).mono (Same.tups s4)
 have nd_h:d≠dh:=ne_of_none hd2 hdh
 have nd_s:d≠ds:=ne_of_none (s3 _ _ hd2) hds'
 have nia:ia≠dh∧ia≠ds:=⟨ne_of_none ((s1.trans s2) _ _ hia) hdh,ne_of_none (((s1.trans s2).trans s3) _ _ hia) hds'⟩
 have oldH:∀c o,H c=some o→c≠dh∧c≠ds:=fun c o e=>⟨ne_of_none ((s1.trans s2) _ _ e) hdh,ne_of_none (((s1.trans s2).trans s3) _ _ e) hds'⟩
 refine⟨_,rfl,ia,rfl,⟨_,SqT.of ia4⟩,for_tup (xs:=iys) (fun i σ H'=>∃(o1 o2 o3:Option V) (kh ks:List (Key×V)),σ=[some (.ref fa),some (.str name),some (.ref fo),some (.ref ga),some (.ref ia),some (.ref d),some (.ref dh),some (.ref ds),o1,o2,o3]∧
   (∀c o,c≠dh→c≠ds→H4 c=some o→H' c=some o)∧H' dh=some (.dK kh)∧DReps H' kh (hidesM name (hds.take i))∧H' ds=some (.dK ks)∧DReps H' ks ((vals.take (i-hds.length)).map (lineT name (hds.map (·.1)) (byOf gs us))))
  ⟨none,none,none,[],[],rfl,fun _ _ _ _ h=>h,hdh4,by simp[hidesM];exact .nil,hds4,by simp;exact .nil⟩ ?_ ?_ ?_⟩
 ·rintro i σ H' hi ⟨o1,o2,o3,kh,ks,rfl,g,_⟩
  exact SqT.of (g _ _ nia.1 nia.2 ia4)
 ·rintro i x σ H' hx ⟨o1,o2,o3,kh,ks,rfl,g,hh,drh,hs,drs⟩
  obtain⟨t,ht,rt⟩:=ria4.at3 hx
  rw[List.getElem?_map]at ht
  have tup':∀b xs,H4 b=some (.tup xs)→H' b=some (.tup xs):=fun b xs e=>g b _ (ne_of e hdh4 (by intro z;cases z)) (ne_of e hds4 (by intro z;cases z)) e
  have rt':=rt.mono tup'
  have lkh:=drh.length
  have lks:=drs.length
  rw[List.length_map,List.length_take]at lks
  by_cases hi:i<hds.length
  ·--a hide
   obtain⟨p,hp⟩:∃p,hds[i]?=some p:=⟨_,List.getElem?_eq_getElem hi⟩
   have hit:(itsOf hds vals)[i]?=some (hideI p):=by
    unfold itsOf
    rw[List.getElem?_append_left (by rw[List.length_map];exact hi),List.getElem?_map,hp]
    rfl
   rw[hit]at ht
   cases ht
   have pm:=List.mem_of_getElem? hp
   have k2:=(FD.A.w _ (FD.sub _ pm)).2.1
   have pl:=FD.lh p pm
   cases rt' with
   |@tup ci cys _ hci rci=>
   cases rci with
   |@cons x0 _ xr0 _ y0 yy0=>
   cases yy0 with
   |@cons x1 _ xr1 _ y1 yy1=>
   cases yy1 with
   |@cons x2 _ xr2 _ y2 yy2=>
   cases yy2
   cases y0
   cases y1
   cases y2
   refine⟨ci,_,rfl,SqT.of hci,rfl,_,_,rfl,_,_,rfl,_,_,rfl,rfl,?_⟩
   refine⟨_,rfl,rfl,_,rfl,?_⟩
   rw[dec_str,decide_eq_true (show(hideI p).1="hide" from rfl)]
   refine iteT ?_
   refine⟨sml 2,fun p2 hp2=>?_⟩
   obtain⟨H6,eH6,s6,hp26⟩:=nw hp2 (.tup [V.str "?a",V.str "?b"])
   rw[eH6]
   refine⟨_,rfl,(p.2:Int),rfl,lets_cut k2 hp26 fun p3 H7 s7 h3=>?_⟩
   refine⟨_,rfl,_,rfl,_,rfl,name,p.1,p.2,rfl,by omega,by omega,k2,fun v H8 s8 rv=>?_⟩
   refine⟨sml 2,fun p9 hp9=>?_⟩
   have s9:=same_new hp9 (.tup [.ref p3,v])
   have s69:=((s6.trans s7).trans s8).trans s9
   have hh9:=s69 _ _ hh
   refine⟨_,rfl,_,rfl,dh,_,rfl,DPut.k (k:=Sum.inr p.1) hh9 (small' (by rw[lkh];unfold hidesM;rw[List.length_map,List.length_take];omega)),_,_,_,_,ks,rfl,fun c o n1 n2 e=>by rw[upd_ne n1];exact s69 _ _ (g c o n1 n2 e),upd_same,?_,by rw[upd_ne (Ne.symm nhs)];exact s69 _ _ hs,?_⟩
   ·have nk:valV kh (Sum.inr p.1)=none:=by
     rcases drh.get p.1 with ⟨h,_⟩|⟨v',t'',_,h,_⟩
     ·exact h
     ·exfalso
      have m:p.1∈(hds.take i).map (·.1):=by
       have:=List.mem_map_of_mem (f:=(·.1)) (mem_of_lookup' h)
       unfold hidesM at this
       rw[List.map_map]at this
       exact this
      have nh:=FD.nh
      have e2:hds.map (·.1)=(hds.take i).map (·.1)++(hds.drop i).map (·.1):=by rw[←List.map_append,List.take_append_drop]
      rw[e2]at nh
      have e3:p.1∈(hds.drop i).map (·.1):=by
       refine List.mem_map_of_mem ?_
       rw[List.mem_iff_getElem?]
       exact⟨0,by rw[List.getElem?_drop,Nat.add_zero];exact hp⟩
      exact(List.nodup_append.mp nh).2.2 _ m _ e3 rfl
    rw[putK_new _ nk,show hidesM name (hds.take (i+1))=hidesM name (hds.take i)++[(p.1, .tup [.tup ((lets p.2).map T.str),pathT name p.1 p.2])] by unfold hidesM;rw[take_next hp,List.map_append];rfl]
    have tu:∀b xs,(upd H8 p9 (.tup [.ref p3,v])) b=some (.tup xs)→(upd (upd H8 p9 (.tup [.ref p3,v])) dh (.dK (kh++[(Sum.inr p.1, .ref p9)]))) b=some (.tup xs):=fun b xs e=>by rw[upd_ne (ne_of e hh9 (by intro z;cases z))];exact e
    exact DReps.snoc (.tup (tu _ _ upd_same) (.cons (.tup (tu _ _ (s9 _ _ (s8 _ _ h3))) (Reps.words fun y hy=>by have:=lets_mem y hy;omega)) (.cons ((rv.same s9).mono tu) .nil))) ((drh.mono (Same.tups s69)).mono tu)
   ·rw[show i+1-hds.length=0 by omega]
    rw[show i-hds.length=0 by omega]at drs
    refine(drs.mono (Same.tups s69)).mono fun b xs e=>?_
    rw[upd_ne (ne_of e hh9 (by intro z;cases z))]
    exact e
  ·--a val
   obtain⟨j,rfl⟩:∃j,i=hds.length+j:=⟨i-hds.length,by omega⟩
   have hj:j<vals.length:=by have:=(List.getElem?_eq_some_iff.mp hx).1;omega
   obtain⟨p,hp⟩:∃p,vals[j]?=some p:=⟨_,List.getElem?_eq_getElem hj⟩
   have hit:(itsOf hds vals)[hds.length+j]?=some (valI p):=by
    unfold itsOf
    rw[List.getElem?_append_right (by rw[List.length_map];omega),List.length_map,Nat.add_sub_cancel_left,List.getElem?_map,hp]
    rfl
   rw[hit]at ht
   cases ht
   have pm:=List.mem_of_getElem? hp
   have pl:=FD.lv p pm
   have pk:=FD.kd p pm
   rw[List.take_of_length_le (by omega)]at drh
   rw[Nat.add_sub_cancel_left]at drs lks
   cases rt' with
   |@tup ci cys _ hci rci=>
   cases rci with
   |@cons x0 _ xr0 _ y0 yy0=>
   cases yy0 with
   |@cons x1 _ xr1 _ y1 yy1=>
   cases yy1 with
   |@cons x2 _ xr2 _ y2 yy2=>
   cases yy2
   cases y0
   cases y1
   refine⟨ci,_,rfl,SqT.of hci,rfl,_,_,rfl,_,_,rfl,_,_,rfl,rfl,?_⟩
   refine⟨_,rfl,rfl,_,rfl,?_⟩
   rw[dec_str,decide_eq_false (show(valI p).1≠"hide" from hv_ne.2)]
   refine iteF ?_
   have TD:TrD H' d dh name at_ hds (byOf gs us):=⟨FD.A,⟨kb,g _ _ nd_h nd_s hd4,drb4.mono tup'⟩,⟨kh,hh,drh⟩,B,FD.sub,npn⟩
   obtain⟨kd3,ksz⟩:=remT_kd FD.A (gMd_ok B npn (hds.map (·.1))) pk
   have b3:BD 3=22:=rfl
   refine⟨_,rfl,_,rfl,_,rfl,x2,d,dh,p.2,name,at_,hds,_,rfl,y2,pk,TD,fun v6 H6 s6 rv6=>?_⟩
   refine⟨v6,_,rfl,rv6,kd3,by omega,fun v7 H7 s7 rv7=>?_⟩
   have s67:=s6.trans s7
   have hs7:=s67 _ _ hs
   refine⟨_,rfl,_,rfl,_,_,rfl,rfl,small (by rw[dot_len];omega),_,rfl,_,_,rfl,rfl,small (by rw[len_app,dot_len];omega),ds,_,rfl,DPut.k (k:=Sum.inr (name++"."++p.1)) hs7 (small' (by omega)),_,_,_,kh,_,rfl,fun c o n1 n2 e=>by rw[upd_ne n2];exact s67 _ _ (g c o n1 n2 e),by rw[upd_ne nhs];exact s67 _ _ hh,?_,upd_same,?_⟩
   ·rw[List.take_of_length_le (by omega)]
    refine(drh.mono (Same.tups s67)).mono fun b xs e=>?_
    rw[upd_ne (ne_of e hs7 (by intro z;cases z))]
    exact e
   ·have nk:valV ks (Sum.inr (name++"."++p.1))=none:=by
     rcases drs.get (name++"."++p.1) with ⟨h,_⟩|⟨v',t'',_,h,_⟩
     ·exact h
     ·exfalso
      have m:=List.mem_map_of_mem (f:=(·.1)) (mem_of_lookup' h)
      rw[List.map_map]at m
      obtain⟨y,hy,ey⟩:=List.mem_map.mp m
      have ey':name++"."++y.1=name++"."++p.1:=ey
      have eyp:=str_app_inj ey'
      have nv:=FD.nv
      have e2:vals.map (·.1)=(vals.take j).map (·.1)++(vals.drop j).map (·.1):=by rw[←List.map_append,List.take_append_drop]
      rw[e2]at nv
      have e3:p.1∈(vals.drop j).map (·.1):=by
       refine List.mem_map_of_mem ?_
       rw[List.mem_iff_getElem?]
       exact⟨0,by rw[List.getElem?_drop,Nat.add_zero];exact hp⟩
      exact(List.nodup_append.mp nv).2.2 _ (List.mem_map_of_mem (f:=(·.1)) hy) _ e3 eyp
    rw[show hds.length+j+1-hds.length=j+1 by omega,putK_new _ nk,take_next hp,List.map_append]
    have tu:∀b xs,H7 b=some (.tup xs)→(upd H7 ds (.dK (ks++[(Sum.inr (name++"."++p.1),v7)]))) b=some (.tup xs):=fun b xs e=>by rw[upd_ne (ne_of e hs7 (by intro z;cases z))];exact e
    exact DReps.snoc (rv7.mono tu) ((drs.mono (Same.tups s67)).mono tu)
 ·rintro σ H' ⟨o1,o2,o3,kh,ks,rfl,g,hh,drh,hs,drs⟩
  rw[List.take_of_length_le (by omega)]at drs
  refine⟨_,rfl,q ds H' (fun c o e=>g _ _ (oldH c o e).1 (oldH c o e).2 (s04 _ _ e)) (((s1.trans s2).trans s3).free hds') ⟨ks,hs,?_⟩⟩
  rw[shown_eq]
  exact drs
end
theorem at_any {α:Type}{xs:List α}{d:Int}(h0:0≤d)(h1:d<xs.length):∃v,atI xs d=some v∧v∈xs:=by
 have hd:d.toNat<xs.length:=by omega
 refine⟨xs[d.toNat],?_,List.getElem_mem hd⟩
 have e:((d.toNat:Nat):Int)=d:=by omega
 have q:=atI_nat (xs:=xs) (j:=d.toNat) (v:=xs[d.toNat]) (List.getElem?_eq_getElem hd)
 rw[e]at q
 exact q
theorem pss_weak {X:Cx}{sts:List Stmt}{t t':TS}(h:PSs X sts t)(q:∀D σ H,t' D σ H→t D σ H):PSs X sts t':=fun a b c d e f g=>h a b c d e f (q _ _ _ g)
def atT (p:Str×Nat):T:=.tup [.str p.1, .int p.2]
structure DkS (H:Hp)(st la:Addr)(at_:List (Str×Nat)):Prop where
 ok:StOk H st
 ne:la≠st
 av:∃avs,H la=some (.lst avs)∧Reps H avs (at_.map atT)
 A:AtOk at_
 nm:(("num":Str),0)∈at_
 al:at_.length≤100
theorem DkS.grow {H H':Hp}{st la:Addr}{at_:List (Str×Nat)}(k:DkS H st la at_)(g:Grow st H H'):DkS H' st la at_:=by
 obtain⟨avs,h,r⟩:=k.av
 exact{k with ok:=g.ok,av:=⟨avs,g.1 _ _ k.ne h,r.grow g k.ok⟩}
theorem DkS.same {H H':Hp}{st la:Addr}{at_:List (Str×Nat)}(k:DkS H st la at_)(s:Same H H'):DkS H' st la at_:=k.grow (grow_same k.ok s)
def spDk (n:Nat):Sp:=fun vs H Q _=>∃(st la:Addr) (at_:List (Str×Nat)),vs=[.ref st, .ref la, .int n]∧DkS H st la at_∧∀v t H',Grow st H H'→Rep H' v t→DrK at_ n t→Q v H'
def DkUp:Nat→Sp
 |0=>fun _ _ _ _=>False
 |n+1=>spDk n
def tFl (n:Nat):TS:=fun D σ H=>∃(st la:Addr) (at_:List (Str×Nat)),σ=[some (.ref st),some (.ref la),some (.int n),none,none,none,none]∧DkS H st la at_∧∀v t H',Grow st H H'→Rep H' v t→DrK at_ n t→D.rt v H'
def flatOf (at_:List (Str×Nat)):List Str:=(at_.filter fun p=>decide (p.2=0)).map (·.1)
theorem flat_snoc (l:List (Str×Nat))(p:Str×Nat):flatOf (l++[p])=if p.2=0 then flatOf l++[p.1] else flatOf l:=by
 unfold flatOf
 rw[List.filter_append,List.map_append]
 by_cases h:p.2=0
 ·rw[if_pos h,List.filter_cons,if_pos (decide_eq_true h)];rfl
 ·rw[if_neg h,List.filter_cons,if_neg (by simpa using h)];simp
theorem flat_mem {l:List (Str×Nat)}{z:Str}(h:z∈flatOf l):(z,0)∈l:=by
 unfold flatOf at h
 obtain⟨p,hp,rfl⟩:=List.mem_map.mp h
 obtain⟨m,e⟩:=List.mem_filter.mp hp
 have e':p.2=0:=of_decide_eq_true e
 rw[←e']
 exact m
section
variable {P:Program}{w:World}{K:PySem.W.Frag}{mg:Str→Option Value}{base:Heap}{f:Addr}{fd:FuncData}
abbrev s_dk:Stmt:=top 42
abbrev nDk:List Str:=["_law_state_here","_law_atoms","_law_deep","_law_flat","_law_way","_law_word_here","_law_many"]
abbrev pDk:List Str:=["_law_state_here","_law_atoms","_law_deep"]
theorem sc_dk:FnScope nDk pDk (defScope s_dk):=⟨rfl,rfl,rfl,by decide+kernel,rfl,by decide+kernel,by decide+kernel⟩
theorem nd_wm:(["_law_word_here","_law_many"]:List Str).Nodup:=by decide+kernel
set_option maxHeartbeats 4000000 in
theorem ok_dk {n:Nat}(F:Fun K "_law_drawn_kind" "_law_drawn_kind" s_dk f fd)(ml:mg "len"=none)(mr:mg "range"=none)(mt:mg "tuple"=none)(h1:Has P w K mg base 1 "_law_next" ["_law_state_here","_law_many"] spNext)
  (h2:Has P w K mg base (n+1) "_law_drawn_kind" pDk (DkUp n)):FnOk P w K mg base CX0 (n+2) f fd pDk (spDk n):=by
 refine F.ok sc_dk (len:=fun vs H Q E h=>(by obtain⟨st,la,at_,rfl,_⟩:=h;rfl)) (fun cdv A outer s H vs Q E hr h=>?_)
 obtain⟨st,la,at_,rfl,k,q⟩:=h
 have hu:=hu_of hr
 have hr1:=hr.mono (show 1≤n+1 by omega)
 refine⟨_,pss_cons (ps_if (PW.pt (pw_or (pt_cmpR op_lt (pv 2) pe_int (nomark _)) (pw_or1 (pt_cmpR op_eq (pcall h1 hr1 (Nat.le_refl _) rfl (pa_cons (pv 0) (pa_cons pe_int pa_nil))) pe_int (nomark _)))))
   (pss_weak (t':=tFl n) (pss_cons (ps_lcM (g:=gTup K 2 (gCons (gName 0) (gCons (gName 1) gNil))) (defScope s_dk) nDk ["_law_word_here","_law_many"] [] [] (by decide+kernel) (piL K (pv 1)) (pg_name (i:=3) sc_dk.nd rfl (Or.inl rfl))
     (fun C s₀ H₀ ex=>pgT K (n:=2) rfl (pgs_cons (pg_name (i:=0) nd_wm rfl (Or.inl rfl) (Or.inr rfl)) (pgs_cons (pg_name (i:=1) nd_wm rfl (Or.inl rfl) (Or.inr rfl)) pgs_nil))) (fun C s₀ H₀ ex=>pts_one (pt_cmpR op_eq (pv 1) pe_int (nomark _))) (fun C s₀ H₀ ex=>pv 0) (by with_unfolding_all rfl))
    (pss_one (ps_ret (pe_ix (ixL K) (pv 3) (pcall h1 hr1 (Nat.le_refl _) rfl (pa_cons (pv 0) (pa_cons (pe_callB (clen K) rfl ml PySem.boot_len (pa_cons (pv 3) pa_nil)) pa_nil))))))) ?qf) pss_nil)
  (pss_cons (pset 4 sc_dk.nd (pcall h1 hr1 (Nat.le_refl _) rfl (pa_cons (pv 0) (pa_cons (pe_op op_add (pe_callB (clen K) rfl ml PySem.boot_len (pa_cons (pv 1) pa_nil)) pe_int) pa_nil))))
  (pss_cons (ps_if (pt_cmpR op_ge (pv 4) (pe_callB (clen K) rfl ml PySem.boot_len (pa_cons (pv 1) pa_nil)) (nomark _))
   (pss_one (ps_ret (pe_tup (pa_cons pe_str (pa_cons (pcall h2 hr (Nat.le_refl _) rfl (pa_cons (pv 0) (pa_cons (pv 1) (pa_cons (pe_op op_sub (pv 2) pe_int) pa_nil)))) (pa_cons (pcall h2 hr (Nat.le_refl _) rfl (pa_cons (pv 0) (pa_cons (pv 1) (pa_cons (pe_op op_sub (pv 2) pe_int) pa_nil)))) pa_nil)))))) pss_nil)
  (pss_cons (ps_asg (pe_ix (ixL K) (pv 1) (pv 4)) (pgT K (n:=2) rfl (pgs_cons (pg_name (i:=5) sc_dk.nd rfl (Or.inl rfl)) (pgs_cons (pg_name (i:=6) sc_dk.nd rfl (Or.inl rfl)) pgs_nil))))
  (pss_cons (ps_if (pt_cmpR op_eq (pv 6) pe_int (nomark _)) (pss_one (ps_ret (pv 5))) pss_nil)
  (pss_one (ps_ret (pe_op (catT K) (pe_tup (pa_cons (pv 5) pa_nil)) (pe_callTy (ctup K) rfl mt boot_tuple (pa_cons
   (pe_lc (defScope s_dk) nDk ["_law_state_here","_law_atoms","_law_deep"] [0,1,2] (by decide+kernel) (pi_range1 rfl mr (pa_cons (pv 6) pa_nil)) (fun C s₀ H₀ ex=>pts_nil)
    (fun C s₀ H₀ ex=>pcall h2 hr (Nat.le_refl _) rfl (pa_cons (pv 1) (pa_cons (pv 2) (pa_cons (pe_op op_sub (pv 3) pe_int) pa_nil))))) pa_nil))))))))),?_⟩
 case qf=>
  rintro D σ H ⟨st,la,at_,rfl,k,q⟩
  obtain⟨avs,hla,rav⟩:=k.av
  have lav:=rav.length
  rw[List.length_map]at lav
  have al:=k.al
  refine⟨_,rfl,la,rfl,⟨_,SqL.of hla⟩,comp_listM (xs:=avs) (fun j ws H''=>H''=H∧ws=(flatOf (at_.take j)).map V.str) ⟨rfl,rfl⟩ ?_ ?_ ?_⟩
  ·rintro j ws H'' hj ⟨rfl,rfl⟩
   refine⟨SqL.of hla,small' ?_⟩
   unfold flatOf
   rw[List.length_map,List.length_map]
   have:=List.length_filter_le (fun p:Str×Nat=>decide (p.2=0)) (at_.take j)
   rw[List.length_take]at this
   omega
  ·rintro j x ws H'' τ lτ hj hx' ⟨rfl,rfl⟩
   obtain⟨t,ht,rt⟩:=rav.at3 hx'
   rw[List.getElem?_map]at ht
   cases hg:at_[j]? with
   |none=>rw[hg]at ht;cases ht
   |some p=>
   rw[hg]at ht
   cases ht
   cases rt with
   |@tup a ys _ ha rys=>
   cases rys with
   |@cons x0 _ xr0 _ y0 yy0=>
   cases yy0 with
   |@cons x1 _ xr1 _ y1 yy1=>
   cases yy1
   cases y0
   cases y1
   match τ,lτ with
   |[τ0,τ1],_=>
   refine⟨a,_,rfl,SqT.of ha,rfl,_,_,rfl,_,_,rfl,rfl,⟨[some (.str p.1),some (.int p.2)],rfl,rfl⟩,?_⟩
   refine⟨_,rfl,rfl,_,rfl,?_⟩
   rw[take_next hg,flat_snoc]
   by_cases e:p.2=0
   ·rw[if_pos e,decide_eq_true (show V.int (p.2:Int)=V.int 0 by rw[e];rfl)]
    refine iteT ⟨_,rfl,nx hj ⟨rfl,?_⟩⟩
    rw[List.map_append]
    rfl
   ·rw[if_neg e,decide_eq_false (fun h=>e (by have:=V.int.inj h;omega))]
    exact iteF (nx hj ⟨rfl,rfl⟩)
  ·rintro ws H'' ⟨rfl,rfl⟩ l hl
   rw[lav,List.take_length]
   have s1:=same_new hl (.lst ((flatOf at_).map V.str))
   have k1:=k.same s1
   have hne:("num":Str)∈flatOf at_:=List.mem_map_of_mem (f:=(·.1)) (List.mem_filter.mpr ⟨k.nm,by simp⟩)
   have hpos:0<(flatOf at_).length:=List.length_pos_of_mem hne
   have hle:(flatOf at_).length≤100:=by
    unfold flatOf
    rw[List.length_map]
    exact Nat.le_trans (List.length_filter_le _ _) al
   have nls:l≠st:=k.ok.ne_none hl
   refine⟨_,rfl,_,rfl,_,rfl,l,_,rfl, .inl (SqL.of upd_same),st,(((flatOf at_).map V.str).length:Nat),rfl,k1.ok,by rw[List.length_map];omega,by rw[List.length_map];omega,fun d H2 d0 d1 g2=>?_⟩
   obtain⟨v,hv,vm⟩:=at_any (xs:=(flatOf at_).map V.str) d0 d1
   obtain⟨z,hz,rfl⟩:=List.mem_map.mp vm
   have wz:=wd_of (k.A.w _ (flat_mem hz)).1
   refine⟨l,_,d, .str z,rfl,rfl,SqL.of (g2.1 _ _ nls upd_same),hv,q _ (.str z) H2 ((grow_same k.ok s1).trans g2) (.str z (by have:=wz.len;show z.length≤_;have h:z.length≤10:=wz.len;omega)) (.leaf (flat_mem hz))⟩
 have al:=k.al
 refine⟨_,rfl,_,_,rfl,rfl,_,rfl,ite2 (fun c=>?_) (fun c=>?_)⟩
 ·exact iteT ⟨st,la,at_,rfl,k,q⟩
 ·have n1:1≤n:=by
   have:¬(n:Int)<1:=fun h=>c (decide_eq_true h)
   omega
  obtain⟨m,rfl⟩:∃m,n=m+1:=⟨n-1,by omega⟩
  refine⟨_,rfl,st,3,rfl,k.ok,by decide,by decide,fun d1 H1 d10 d11 g1=>⟨rfl,_,rfl,ite2 (fun c2=>?_) (fun c2=>?_)⟩⟩
  ·exact⟨st,la,at_,rfl,k.grow g1,fun v t H' g r dk=>q v t H' (g1.trans g) r dk⟩
  ·have k1:=k.grow g1
   obtain⟨avs,hla,rav⟩:=k1.av
   have lav:=rav.length
   rw[List.length_map]at lav
   refine⟨_,rfl,_,rfl,la,_,rfl, .inl (SqL.of hla),_,_,rfl,rfl,st,(avs.length:Int)+2,rfl,k1.ok,by omega,by omega,fun way H2 w0 w1 g2=>?_⟩
   have k2:=k1.grow g2
   have g12:=g1.trans g2
   have hla2:=g2.1 _ _ k1.ne hla
   have rav2:=rav.grow g2 k1.ok
   refine⟨_,rfl,_,rfl,la,_,rfl, .inl (SqL.of hla2),_,_,rfl,rfl,_,rfl,ite2 (fun c3=>?_) (fun c3=>?_)⟩
   ·refine⟨_,rfl,_,rfl,_,rfl,_,_,rfl,rfl,st,la,at_,by rw[show((m+1:Nat):Int)-1=(m:Int) by omega];rfl,k2,fun v t H3 g3 rv dk=>?_⟩
    have k3:=k2.grow g3
    refine⟨_,rfl,_,rfl,_,rfl,_,_,rfl,rfl,st,la,at_,by rw[show((m+1:Nat):Int)-1=(m:Int) by omega];rfl,k3,fun v2 t2 H4 g4 rv2 dk2=>⟨sml 3,fun p hp=>?_⟩⟩
    have k4:=k3.grow g4
    have s5:=same_new hp (.tup [.str "->",v,v2])
    exact q _ (.tup [.str "->",t,t2]) _ ((g12.trans (g3.trans g4)).trans (grow_same k4.ok s5)) (.tup upd_same (.cons (.str _ (by decide+kernel)) (.cons ((rv.grow g4 k3.ok).same s5) (.cons (rv2.same s5) .nil)))) (.arr dk dk2)
   ·have w2:way<avs.length:=by
     have:¬((avs.length:Int)≤way):=fun h=>c3 (decide_eq_true h)
     omega
    obtain⟨wn,rfl⟩:∃wn:Nat,way=wn:=⟨way.toNat,by omega⟩
    obtain⟨v,hv⟩:∃v,avs[wn]?=some v:=⟨_,List.getElem?_eq_getElem (by omega)⟩
    obtain⟨t,ht,rt⟩:=rav2.at3 hv
    rw[List.getElem?_map]at ht
    cases hg:at_[wn]? with
    |none=>rw[hg]at ht;cases ht
    |some p=>
    rw[hg]at ht
    cases ht
    have pm:=List.mem_of_getElem? hg
    have wz:Wd p.1:=wd_of (k.A.w _ pm).1
    have p2:=(k.A.w _ pm).2.1
    have lz:=wz.len
    cases rt with
    |@tup a ys _ ha rys=>
    cases rys with
    |@cons x0 _ xr0 _ y0 yy0=>
    cases yy0 with
    |@cons x1 _ xr1 _ y1 yy1=>
    cases yy1
    cases y0
    cases y1
    refine⟨_,rfl,_,rfl,la,_,(wn:Int), .ref a,rfl,rfl,SqL.of hla2,atI_nat (j:=wn) hv,a,_,rfl,SqT.of ha,rfl,_,_,rfl,_,_,rfl,rfl,?_⟩
    refine⟨_,rfl,rfl,_,rfl,?_⟩
    by_cases e:p.2=0
    ·rw[decide_eq_true (show V.int (p.2:Int)=V.int 0 by rw[e];rfl)]
     have pm':(p.1,0)∈at_:=by rw[←e];exact pm
     exact iteT ⟨_,rfl,q _ (.str p.1) H2 g12 (.str _ (by omega)) (.leaf pm')⟩
    ·rw[decide_eq_false (fun h=>e (by have:=V.int.inj h;omega))]
     refine iteF ⟨_,rfl,sml 1,fun p1 hp1=>?_⟩
     obtain⟨H3,eH3,s3,hp13⟩:=nw hp1 (.tup [V.str p.1])
     rw[eH3]
     have k3:=k2.same s3
     refine⟨_,rfl,p.2,rfl,by omega,by omega,?_⟩
     refine comp_range (n:=(p.2:Int).toNat) (fun j us H'=>∃ts:List T,Grow st H3 H'∧Reps H' us ts∧ts.length=j∧∀t∈ts,DrK at_ m t) ⟨[],Grow.refl k3.ok, .nil,rfl,(fun _ h=>nomatch h)⟩ ?_ ?_ ?_
     ·rintro j us H' hj ⟨ts,_,r,l,_⟩
      exact small' (by rw[r.length];omega)
     ·rintro j us H' hj ⟨ts,g4,r,l,dk⟩
      have k4:=k3.grow g4
      refine tt1 (iteT ⟨_,rfl,_,rfl,_,rfl,_,_,rfl,rfl,st,la,at_,by rw[show((m+1:Nat):Int)-1=(m:Int) by omega];rfl,k4,fun v5 t5 H5 g5 rv5 dk5=>nx hj ⟨ts++[t5],g4.trans g5,(r.grow g5 k4.ok).append (.cons rv5 .nil),by simp[l],fun t' ht'=>?_⟩⟩)
      rcases List.mem_append.mp ht' with h|h
      ·exact dk t' h
      ·rw[List.mem_singleton.mp h];exact dk5
     ·rintro us H4 ⟨ts,g4,r,l,dk⟩ lk hlk
      have k4:=k3.grow g4
      have ltn:(p.2:Int).toNat=p.2:=by omega
      rw[ltn]at l
      obtain⟨H5,eH5,s5,hlk5⟩:=nw hlk (.lst us)
      rw[eH5]
      refine⟨lk,_,rfl, .inl ⟨SqL.of hlk5,fun p6 hp6=>?_⟩⟩
      obtain⟨H6,eH6,s6,hp66⟩:=nw hp6 (.tup us)
      rw[eH6]
      have t1:H6 p1=some (.tup [V.str p.1]):=s6 _ _ (s5 _ _ (g4.tups k3.ok _ _ hp13))
      refine catT_one t1 hp66 (by rw[r.length];omega) fun p7 H7 s7 hp7=>?_
      have s57:=(s5.trans s6).trans s7
      refine q _ (.tup (.str p.1::ts)) H7 ((g12.trans (grow_same k2.ok s3)).trans (g4.trans (grow_same k4.ok s57))) (.tup hp7 (.cons (.str _ (by omega)) (r.same s57))) (.app (by rw[l];exact pm) (by omega) dk)
theorem dk_all (F:Fun K "_law_drawn_kind" "_law_drawn_kind" s_dk f fd)(bF:Binds K fd pDk [])(mF:mg "_law_drawn_kind"=some (.ref f))(ml:mg "len"=none)(mr:mg "range"=none)(mt:mg "tuple"=none)(h1:Has P w K mg base 1 "_law_next" ["_law_state_here","_law_many"] spNext):∀n,Has P w K mg base (n+2) "_law_drawn_kind" pDk (spDk n)
 |0=>⟨f,fd,ok_dk F ml mr mt h1 ⟨f,fd,⟨fun _ _ _ _ h=>h.elim,fun _ _ _ _ _ _ _ _ _ _ _ _ _ h=>h.elim⟩,bF,F.kp,mF⟩,bF,F.kp,mF⟩
 |n+1=>⟨f,fd,ok_dk F ml mr mt h1 (dk_all F bF mF ml mr mt h1 n),bF,F.kp,mF⟩
end
inductive Dm where
 |s (z:Str)
 |i (n:Int)
 |v (k:Nat)
 |nil
 |cons (h t:Dm)
mutual
def inst (ρ:Nat→T):Dm→T
 |.s z=>.str z
 |.i n=>.int n
 |.v k=>ρ k
 |.nil=>.tup []
 |.cons h t=>.tup (inst ρ h::insts ρ t)
def insts (ρ:Nat→T):Dm→List T
 |.cons h t=>inst ρ h::insts ρ t
 |.s _=>[]
 |.i _=>[]
 |.v _=>[]
 |.nil=>[]
end
def isTp:Dm→Bool
 |.nil=>true
 |.cons _ t=>isTp t
 |_=>false
def lenD:Dm→Nat
 |.cons _ t=>lenD t+1
 |_=>0
def appD:Dm→Dm→Dm
 |.cons h t,u=>.cons h (appD t u)
 |_,u=>u
def repD:Nat→Dm→Dm
 |0,_=>.nil
 |n+1,t=>appD t (repD n t)
theorem inst_tp {ρ:Nat→T}:∀{t:Dm},isTp t=true→inst ρ t=.tup (insts ρ t)
 |.nil,_=>rfl
 |.cons _ _,_=>rfl
 |.s _,h=>by cases h
 |.i _,h=>by cases h
 |.v _,h=>by cases h
theorem insts_len {ρ:Nat→T}:∀t:Dm,(insts ρ t).length=lenD t
 |.cons _ t=>congrArg (·+1) (insts_len t)
 |.nil=>rfl
 |.s _=>rfl
 |.i _=>rfl
 |.v _=>rfl
theorem insts_app {ρ:Nat→T}(u:Dm):∀t:Dm,insts ρ (appD t u)=insts ρ t++insts ρ u
 |.cons h t=>congrArg (inst ρ h::·) (insts_app u t)
 |.nil=>rfl
 |.s _=>rfl
 |.i _=>rfl
 |.v _=>rfl
theorem app_tp {u:Dm}(hu:isTp u=true){t:Dm}(h:isTp t=true):isTp (appD t u)=true:=by
 induction t with
 |cons a b _ ih=>exact ih h
 |nil=>exact hu
 |s _=>cases h
 |i _=>cases h
 |v _=>cases h
theorem rep_tp {t:Dm}(h:isTp t=true):∀n,isTp (repD n t)=true
 |0=>rfl
 |n+1=>app_tp (rep_tp h n) h
theorem insts_rep {ρ:Nat→T}(t:Dm):∀n,insts ρ (repD n t)=(List.replicate n (insts ρ t)).flatten
 |0=>rfl
 |n+1=>by rw[repD,insts_app,insts_rep t n,List.replicate_succ,List.flatten_cons]
abbrev Np:=List (Str×Nat)
def tmE1 (np:Np)(ev:Nat→Dm)(f:Expr→Option Dm)(g:List Expr→Option Dm):Expr→Option Dm
 |.Constant (.str z) _ _=>if z.length≤100 then some (.s z) else none
 |.Constant (.int i) _ _=>some (.i i)
 |.UnaryOp .USub (.Constant (.int i) _ _) _=>some (.i (-i))
 |.Name x _=>(np.lookup x).map ev
 |.Tuple es _ _=>(g es).bind fun t=>if isTp t=true∧lenD t≤100 then some t else none
 |.BinOp a .Mult (.Constant (.int k) _ _) _=>(f a).bind fun t=>if isTp t=true∧1≤lenD t∧2≤k∧k≤1000∧lenD t*k.toNat≤1000 then some (repD k.toNat t) else none
 |.BinOp a .Add b _=>(f a).bind fun t=>(f b).bind fun u=>if isTp t=true∧isTp u=true∧1≤lenD t∧1≤lenD u∧lenD t+lenD u≤1000 then some (appD t u) else none
 |_=>none
mutual
def tmE (np:Np)(ev:Nat→Dm):Nat→Expr→Option Dm
 |0=>fun _=>none
 |n+1=>tmE1 np ev (tmE np ev n) (tmEs np ev n)
def tmEs (np:Np)(ev:Nat→Dm):Nat→List Expr→Option Dm
 |0=>fun _=>none
 |n+1=>fun es=>match es with
  |[]=>some .nil
  |e::es=>(tmE np ev n e).bind fun t=>(tmEs np ev n es).bind fun u=>some (.cons t u)
end
def EnvD (np:Np)(ρ:Nat→T)(ev:Nat→Dm)(σ:L2.St)(H:Hp):Prop:=∀x k,np.lookup x=some k→∃v,σ[k]?=some (some v)∧Rep H v (inst ρ (ev k))
theorem EnvD.same {np:Np}{ρ:Nat→T}{ev:Nat→Dm}{σ:L2.St}{H H':Hp}(h:EnvD np ρ ev σ H)(e:Same H H'):EnvD np ρ ev σ H':=fun x k hk=>by
 obtain⟨v,h1,h2⟩:=h x k hk
 exact⟨v,h1,h2.same e⟩
def goodN (x:Str):Bool:=!(x=="__debug__")&& !(x=="__classdict__")
def NpN (N:List Str)(np:Np):Prop:=∀x k,np.lookup x=some k→N[k]?=some x∧goodN x=true
def tDsp (N:List Str)(n:Nat)(e:Expr):TE:=fun σ H Q=>∃(ρ:Nat→T) (np:Np) (ev:Nat→Dm) (τ:Dm),NpN N np∧EnvD np ρ ev σ H∧tmE np ev n e=some τ∧∀v H',Same H H'→Rep H' v (inst ρ τ)→Q v H'
def tDsps (N:List Str)(n:Nat)(es:List Expr):TA:=fun σ H Q=>∃(ρ:Nat→T) (np:Np) (ev:Nat→Dm) (τ:Dm),NpN N np∧EnvD np ρ ev σ H∧tmEs np ev n es=some τ∧∀vs H',Same H H'→Reps H' vs (insts ρ τ)→Q vs H'
theorem star_dsp {np:Np}{ev:Nat→Dm}{n:Nat}{e:Expr}{τ:Dm}(h:tmE np ev n e=some τ)(es:List Expr)(env:Env):starEach (e::es) env=(false,eval e env)::starEach es env:=by
 cases n with
 |zero=>cases h
 |succ n=>
  have h:tmE1 np ev (tmE np ev n) (tmEs np ev n) e=some τ:=h
  unfold tmE1 at h
  split at h<;>first|rfl|cases h
theorem reps_rep {H:Hp}{vs:List V}{ts:List T}(r:Reps H vs ts):∀m,Reps H (List.replicate m vs).flatten (List.replicate m ts).flatten
 |0=>.nil
 |m+1=>by
  rw[List.replicate_succ,List.replicate_succ,List.flatten_cons,List.flatten_cons]
  exact r.append (reps_rep r m)
theorem dsp_both {X:Cx}{K:PySem.W.Frag}{N:List Str}(hK:X.K=K)(hN:X.N=N)(hv:∀x∈N,Vis X.env.scope x):∀n:Nat,(∀e,PE X e (tDsp N n e))∧(∀es,PA X es (tDsps N n es)):=by
 intro n
 induction n with
 |zero=>
  refine⟨fun e pins s σ H Q I h=>?_,fun es pos pins s σ H Q I h=>?_⟩
  ·obtain⟨ρ,np,ev,τ,_,_,h,_⟩:=h
   cases h
  ·obtain⟨ρ,np,ev,τ,_,_,h,_⟩:=h
   cases h
 |succ n ih=>
  obtain⟨ihE,ihA⟩:=ih
  refine⟨fun e pins s σ H Q I h=>?_,fun es=>?_⟩
  ·obtain⟨ρ,np,ev,τ,ok,hn,h,q⟩:=h
   change tmE1 np ev (tmE np ev n) (tmEs np ev n) e=some τ at h
   unfold tmE1 at h
   split at h
   ·rename_i z _ _
    split at h
    ·cases h
     exact pe_str pins s σ H Q I (q _ _ (Same.refl H) (.str z (by omega)))
    ·cases h
   ·cases h
    exact pe_int pins s σ H Q I (q _ _ (Same.refl H) (.int _))
   ·cases h
    exact pe_un un_neg pe_int pins s σ H Q I ⟨_,rfl,q _ _ (Same.refl H) (.int _)⟩
   ·rename_i x _
    obtain⟨k,hk,e⟩:=Option.map_eq_some_iff.mp h
    obtain⟨h1,h2⟩:=ok x k hk
    unfold goodN at h2
    simp only[Bool.and_eq_true,Bool.not_eq_true']at h2
    obtain⟨v,he,rv⟩:=hn x k hk
    rw[e]at rv
    exact pe_var (by rw[hN];exact h1) (hv x (List.mem_of_getElem? h1)) h2.1 h2.2 pins s σ H Q I ⟨v,he,q _ _ (Same.refl H) rv⟩
   ·rename_i es _ _
    obtain⟨t,ht,e⟩:=Option.bind_eq_some_iff.mp h
    split at e
    ·rename_i hl
     cases e
     obtain⟨tp,hl⟩:=hl
     refine pe_tup (ihA es) pins s σ H Q I ⟨ρ,np,ev,_,ok,hn,ht,fun vs H' s' r=>⟨small (by rw[r.length,insts_len];show _≤1000000;omega),fun p hp=>?_⟩⟩
     rw[inst_tp tp]at q
     exact q _ _ (s'.trans (same_new hp _)) (.tup upd_same (r.same (same_new hp _)))
    ·cases e
   ·rename_i a k _ _ _
    obtain⟨t,ht,e⟩:=Option.bind_eq_some_iff.mp h
    split at e
    ·rename_i c
     obtain⟨c1,c2,c3,c4,c5⟩:=c
     cases e
     refine pe_op (op_repT) (ihE a) pe_int pins s σ H Q I ⟨ρ,np,ev,t,ok,hn,ht,fun v H' s' r=>?_⟩
     rw[inst_tp c1]at r
     cases r with
     |@tup b vs _ hb r=>
     have lr:=r.length
     rw[insts_len]at lr
     obtain⟨m,rfl⟩:∃m:Nat,k=m:=⟨k.toNat,by omega⟩
     have em:(m:Int).toNat=m:=rfl
     rw[em]at c5
     refine⟨b,vs,m,rfl,rfl,SqT.of hb,by intro e;rw[e]at lr;simp at lr;omega,by omega,by omega,by rw[lr];omega,fun p hp=>?_⟩
     rw[inst_tp (rep_tp c1 _),insts_rep]at q
     exact q _ _ (s'.trans (same_new hp _)) (.tup upd_same (reps_rep (r.same (same_new hp _)) m))
    ·cases e
   ·rename_i a b _
    obtain⟨t,ht,e⟩:=Option.bind_eq_some_iff.mp h
    obtain⟨u,hu,e⟩:=Option.bind_eq_some_iff.mp e
    split at e
    ·rename_i c
     obtain⟨c1,c2,c3,c4,c5⟩:=c
     cases e
     refine pe_op (catT K hK) (ihE a) (ihE b) pins s σ H Q I ⟨ρ,np,ev,t,ok,hn,ht,fun v H' s' r=>⟨ρ,np,ev,u,ok,hn.same s',hu,fun v2 H2 s2 r2=>?_⟩⟩
     rw[inst_tp c1]at r
     rw[inst_tp c2]at r2
     cases r with
     |@tup b1 vs _ hb r=>
     cases r2 with
     |@tup b2 ws _ hb2 r2=>
     have lr:=r.length
     have lr2:=r2.length
     rw[insts_len]at lr lr2
     refine⟨b1,b2,vs,ws,rfl,rfl,SqT.of (s2 _ _ hb),SqT.of hb2,(by intro e;rw[e]at lr;simp at lr;omega),small (by show _≤1000000;omega),fun e=>(by rw[e]at lr2;simp at lr2;omega),fun _ p hp=>?_⟩
     rw[inst_tp (app_tp c2 c1),insts_app]at q
     exact q _ _ ((s'.trans s2).trans (same_new hp _)) (.tup upd_same ((r.same (s2.trans (same_new hp _))).append (r2.same (same_new hp _))))
    ·cases e
   ·cases h
  ·cases es with
   |nil=>
    intro pos pins s σ H Q I h
    obtain⟨ρ,np,ev,τ,_,_,h,q⟩:=h
    cases h
    exact pa_nil pos pins s σ H Q I (q _ _ (Same.refl H) .nil)
   |cons e es=>
    intro pos pins s σ H Q I h
    obtain⟨ρ,np,ev,τ,ok,hn,h,q⟩:=h
    obtain⟨t,ht,h⟩:=Option.bind_eq_some_iff.mp h
    obtain⟨u,hu,e'⟩:=Option.bind_eq_some_iff.mp h
    cases e'
    exact pa_cons (ihE e) (ihA es) (star_dsp ht es _) pos pins s σ H Q I ⟨ρ,np,ev,t,ok,hn,ht,fun v H1 s1 r1=>⟨ρ,np,ev,u,ok,hn.same s1,hu,fun vs H2 s2 r2=>q _ _ (s1.trans s2) (.cons (r1.same s2) r2)⟩⟩
def visB (sc:Scope)(N:List Str):Bool:=N.all fun x=>match sc.names.lookup x with
 |some .local=>true
 |some .cell=>true
 |some .free=>true
 |_=>false
theorem vis_dec {sc:Scope}{N:List Str}(h:visB sc N=true):∀x∈N,Vis sc x:=fun x hx=>by
 have:=List.all_eq_true.mp h x hx
 unfold Vis
 split at this
 ·next e=>exact .inl e
 ·next e=>exact .inr (.inl e)
 ·next e=>exact .inr (.inr e)
 ·cases this
def ltrS:Str:="abcdefghijkl"
theorem ltr_ok:(∀k:Fin 10,(ltrS.cps.toList[k.val]?).map (fun c=>("h":Str)++⟨#[c]⟩)=hL[k.val]?)∧(∀k:Fin 11,(ltrS.cps.toList[k.val]?).map (fun c=>("v":Str)++⟨#[c]⟩)=vL[k.val]?)∧ltrS.length=12:=by decide+kernel
theorem hv_ok:hL.Nodup∧vL.Nodup∧(∀z∈hL,z∈W0∧qB z=false∧z.length≤10)∧(∀z∈vL,z.length≤10)∧("->":Str)∉hL:=by decide+kernel
theorem ltr_h {k:Nat}(h:k<10):∃c z,ltrS.cps.toList[k]?=some c∧("h":Str)++⟨#[c]⟩=z∧hL[k]?=some z:=by
 have e:=ltr_ok.1 ⟨k,h⟩
 have l:k<ltrS.cps.toList.length:=by rw[len_toList,ltr_ok.2.2];omega
 have e1:ltrS.cps.toList[k]?=some ltrS.cps.toList[k]:=List.getElem?_eq_getElem l
 have e':(ltrS.cps.toList[k]?).map (fun c=>("h":Str)++⟨#[c]⟩)=hL[k]?:=e
 rw[e1]at e'
 exact⟨_,_,e1,rfl,e'.symm⟩
theorem ltr_v {k:Nat}(h:k<11):∃c z,ltrS.cps.toList[k]?=some c∧("v":Str)++⟨#[c]⟩=z∧vL[k]?=some z:=by
 have e:=ltr_ok.2.1 ⟨k,h⟩
 have l:k<ltrS.cps.toList.length:=by rw[len_toList,ltr_ok.2.2];omega
 have e1:ltrS.cps.toList[k]?=some ltrS.cps.toList[k]:=List.getElem?_eq_getElem l
 have e':(ltrS.cps.toList[k]?).map (fun c=>("v":Str)++⟨#[c]⟩)=vL[k]?:=e
 rw[e1]at e'
 exact⟨_,_,e1,rfl,e'.symm⟩
structure HdOk (hds:List (Str×Nat)):Prop where
 nm:hds.map (·.1)=hL.take hds.length
 le:hds.length≤10
 k:∀p∈hds,p.2≤2
theorem HdOk.mem {hds:List (Str×Nat)}(h:HdOk hds){p:Str×Nat}(hp:p∈hds):p.1∈hL:=by
 have:=List.mem_map_of_mem (f:=(·.1)) hp
 rw[h.nm]at this
 exact List.mem_of_mem_take this
theorem at_app {at_ hds:List (Str×Nat)}(A:AtOk at_)(D:∀z∈hL,z∉at_.map (·.1))(h:HdOk hds):AtOk (at_++hds) where
 w:=fun p hp=>(List.mem_append.mp hp).elim (A.w p) fun hp=>by
  obtain⟨a,b,_⟩:=hv_ok.2.2.1 _ (h.mem hp)
  exact⟨a,h.k p hp,fun _=>b⟩
 nd:=by
  rw[List.map_append]
  refine List.nodup_append.mpr ⟨A.nd,?_,fun a ha b hb e=>?_⟩
  ·rw[h.nm];exact hv_ok.1.sublist (List.take_sublist _ _)
  ·rw[h.nm]at hb
   exact D b (List.mem_of_mem_take hb) (e ▸ ha)
 na:=fun hm=>by
  rw[List.map_append]at hm
  rcases List.mem_append.mp hm with q|q
  ·exact A.na q
  ·rw[h.nm]at q
   exact hv_ok.2.2.2.2 (List.mem_of_mem_take q)
structure FcD (at_ hds:List (Str×Nat))(vals:List (Str×T)):Prop where
 h:HdOk hds
 vn:vals.map (·.1)=vL.take vals.length
 vl:vals.length≤11
 kd:∀p∈vals,DrK (at_++hds) 3 p.2
theorem FcD.face {at_ hds:List (Str×Nat)}{vals:List (Str×T)}(d:FcD at_ hds vals)(A:AtOk at_)(D:∀z∈hL,z∉at_.map (·.1)):FaceD (at_++hds) hds vals where
 A:=at_app A D d.h
 sub:=fun p hp=>List.mem_append.mpr (.inr hp)
 hl:=d.h.le
 vl:=d.vl
 nh:=by rw[d.h.nm];exact hv_ok.1.sublist (List.take_sublist _ _)
 nv:=by rw[d.vn];exact hv_ok.2.1.sublist (List.take_sublist _ _)
 lh:=fun p hp=>(hv_ok.2.2.1 _ (d.h.mem hp)).2.2
 lv:=fun p hp=>by
  have:=List.mem_map_of_mem (f:=(·.1)) hp
  rw[d.vn]at this
  exact hv_ok.2.2.2.1 _ (List.mem_of_mem_take this)
 kd:=d.kd
def spItemsD:Sp:=fun vs H Q _=>∃(st la:Addr) (at_:List (Str×Nat)),vs=[.ref st, .ref la]∧DkS H st la at_∧at_.length≤80∧(∀z∈hL,z∉at_.map (·.1))∧∀(p li lh:Addr) (ivs hvs:List V) (hds:List (Str×Nat)) (vals:List (Str×T)) H',Grow st H H'→H' p=some (.tup [.ref li, .ref lh])→
 H' li=some (.lst ivs)→Reps H' ivs ((itsOf hds vals).map itT)→H' lh=some (.lst hvs)→Reps H' hvs (hds.map atT)→li≠st→lh≠st→FcD at_ hds vals→Q (.ref p) H'
section
variable {P:Program}{w:World}{K:PySem.W.Frag}{mg:Str→Option Value}{base:Heap}{f:Addr}{fd:FuncData}
abbrev s_itd:Stmt:=top 43
abbrev nItd:List Str:=["_law_state_here","_law_atoms","_law_letters","_law_more","_law_hides","_law_items_here","_law_k"]
theorem sc_itd:FnScope nItd ["_law_state_here","_law_atoms"] (defScope s_itd):=⟨rfl,rfl,rfl,by decide+kernel,rfl,by decide+kernel,by decide+kernel⟩
set_option maxHeartbeats 4000000 in
theorem ok_itd (F:Fun K "_law_items" "_law_items" s_itd f fd)(mr:mg "range"=none)(mI:mg "int"=none)(h1:Has P w K mg base 1 "_law_next" ["_law_state_here","_law_many"] spNext)(h2:Has P w K mg base 5 "_law_drawn_kind" pDk (spDk 3)):FnOk P w K mg base CX0 6 f fd ["_law_state_here","_law_atoms"] spItemsD:=by
 refine F.ok sc_itd (len:=fun vs H Q E h=>(by obtain⟨st,la,at_,rfl,_⟩:=h;rfl)) (fun cdv A outer s H vs Q E hr h=>?_)
 obtain⟨st,la,at_,rfl,k,al,dj,q⟩:=h
 have hu:=hu_of hr
 have hr1:=hr.mono (show 1≤5 by decide)
 refine⟨_,pss_cons (ps_set (i:=2) sc_itd.nd rfl (Or.inr rfl) pe_str)
  (pss_cons (pset 3 sc_itd.nd (pe_op op_mul pe_int (pe_callTy call_int1 rfl mI boot_int (pa_cons (pe_cmpR op_eq (pcall h1 hr1 (Nat.le_refl _) rfl (pa_cons (pv 0) (pa_cons pe_int pa_nil))) pe_int (nomark _)) pa_nil))))
  (pss_cons (ps_lc (defScope s_itd) nItd ["_law_letters","_law_state_here"] [2,0] (by decide+kernel) (pi_range1 rfl mr (pa_cons (pe_op op_add (pv 3) (pcall h1 hr1 (Nat.le_refl _) rfl (pa_cons (pv 0) (pa_cons pe_int pa_nil)))) pa_nil)) (pg_name (i:=4) sc_itd.nd rfl (Or.inl rfl)) (fun C s₀ H₀ ex=>pts_nil)
   (fun C s₀ H₀ ex=>pe_tup (pa_cons (pe_op op_add_str pe_str (pe_ix ix_str (pv 1) (pv 0) (fun _ _=>rfl))) (pa_cons (pcall h1 hr1 (Nat.le_refl _) rfl (pa_cons (pv 2) (pa_cons pe_int pa_nil))) pa_nil))) (by with_unfolding_all rfl))
  (pss_cons (ps_lcM (g:=gTup K 2 (gCons (gName 0) (gCons (gName 1) gNil))) (defScope s_itd) nItd ["_law_word_here","_law_many"] [] [] (by decide+kernel) (piL K (pv 4)) (pg_name (i:=5) sc_itd.nd rfl (Or.inl rfl))
   (fun C s₀ H₀ ex=>pgT K (n:=2) rfl (pgs_cons (pg_name (i:=0) nd_wm rfl (Or.inl rfl) (Or.inr rfl)) (pgs_cons (pg_name (i:=1) nd_wm rfl (Or.inl rfl) (Or.inr rfl)) pgs_nil))) (fun C s₀ H₀ ex=>pts_nil) (fun C s₀ H₀ ex=>pe_tup (pa_cons pe_str (pa_cons (pv 0) (pa_cons (pv 1) pa_nil)))) (by with_unfolding_all rfl))
  (pss_cons (ps_for PassesOwn.never rfl (pi_range1 rfl mr (pa_cons (pe_op op_add (pv 3) (pcall h1 hr1 (Nat.le_refl _) rfl (pa_cons (pv 0) (pa_cons pe_int pa_nil)))) pa_nil)) (pg_name (i:=6) sc_itd.nd rfl (Or.inl rfl))
   (pss_one (ps_expr (papp K (pv 5) (pa_cons (pe_tup (pa_cons pe_str (pa_cons (pe_op op_add_str pe_str (pe_ix ix_str (pv 2) (pv 6) (fun _ _=>rfl))) (pa_cons (pcall h2 hr (Nat.le_refl _) rfl (pa_cons (pv 0) (pa_cons (pe_op op_cat (pv 1) (pv 4)) (pa_cons pe_int pa_nil)))) pa_nil)))) pa_nil)))))
  (pss_one (ps_ret (pe_tup (pa_cons (pv 5) (pa_cons (pv 4) pa_nil))))))))),?_⟩
 refine⟨_,rfl,st,8,rfl,k.ok,by decide,by decide,fun d1 H1 d10 d11 g1=>⟨rfl, .inr ⟨_,rfl,_,_,rfl,rfl, .inl ⟨by decide,by decide⟩,?_⟩⟩⟩
 obtain⟨m,hm,hm6⟩:∃m:Nat,(6*(if decide (V.int d1=V.int 3)=true then 1 else 0):Int)=m∧m≤6:=by
  split
  ·exact⟨6,rfl,by omega⟩
  ·exact⟨0,rfl,by omega⟩
 have k1:=k.grow g1
 rw[hm]
 refine⟨_,rfl,_,rfl,st,5,rfl,k1.ok,by decide,by decide,fun d2 H2 d20 d21 g2=>⟨_,_,rfl,rfl,(m:Int)+d2,rfl,by omega,by omega,?_⟩⟩
 have k2:=k1.grow g2
 have g12:=g1.trans g2
 have l12:ltrS.length=12:=ltr_ok.2.2
 obtain⟨nh,hnh⟩:∃nh:Nat,((m:Int)+d2).toNat=nh:=⟨_,rfl⟩
 have nh10:nh≤10:=by omega
 refine comp_range (n:=((m:Int)+d2).toNat) (fun i us H'=>∃hds:List (Str×Nat),Grow st H2 H'∧Reps H' us (hds.map atT)∧hds.map (·.1)=hL.take i∧∀p∈hds,p.2≤2) ⟨[],Grow.refl k2.ok, .nil,rfl,(fun _ h=>nomatch h)⟩ ?_ ?_ ?_
 ·rintro i us H' hi ⟨hds,_,r,e,_⟩
  have h1:=r.length
  have h2:=congrArg List.length e
  rw[List.length_map]at h1 h2
  rw[List.length_take]at h2
  exact small' (by omega)
 ·rintro i us H' hi ⟨hds,g3,r,e,kk⟩
  have k3:=k2.grow g3
  obtain⟨c,z,e1,e2,e3⟩:=ltr_h (k:=i) (by omega)
  have zl:z.length≤10:=(hv_ok.2.2.1 z (List.mem_of_getElem? e3)).2.2
  refine tt1 (iteT ⟨_,rfl,_,rfl,ltrS,(0+(i:Int)),c,rfl,rfl,small (by omega),by rw[Int.zero_add];exact atI_nat (j:=i) e1,_,_,rfl,rfl,small (by show("h":Str).length+(Str.length ⟨#[c]⟩)≤_;rw[show("h":Str).length=1 by decide+kernel,show Str.length ⟨#[c]⟩=1 from rfl];decide),?_⟩)
  refine⟨_,rfl,st,3,rfl,k3.ok,by decide,by decide,fun d H4 d0 d1' g4=>⟨sml 2,fun p hp=>?_⟩⟩
  have k4:=k3.grow g4
  obtain⟨dn,rfl⟩:∃dn:Nat,d=dn:=⟨d.toNat,by omega⟩
  rw[e2]
  have s5:=same_new hp (.tup [.str z, .int dn])
  refine nx hi ⟨hds++[(z,dn)],(g3.trans g4).trans (grow_same k4.ok s5),?_,by rw[List.map_append,e,take_next e3];rfl,fun p' hp'=>?_⟩
  ·rw[List.map_append]
   exact((r.grow g4 k3.ok).same s5).append (.cons (.tup upd_same (.cons (.str z (by omega)) (.cons (.int _) .nil))) .nil)
  ·rcases List.mem_append.mp hp' with h|h
   ·exact kk p' h
   ·rw[List.mem_singleton.mp h];show dn≤2;omega
 ·rintro hvs H3 ⟨hds,g3,rh,eh,kk⟩ lh hlh
  have k3:=k2.grow g3
  have lhd:hds.length=nh:=by
   have h2:=congrArg List.length eh
   rw[List.length_map,List.length_take,hnh]at h2
   have:hL.length=10:=by decide
   omega
  have HD:HdOk hds:=⟨by rw[eh,hnh,lhd],by omega,kk⟩
  have lhv:=rh.length
  rw[List.length_map]at lhv
  obtain⟨H4,eH4,s4,hlh4⟩:=nw hlh (.lst hvs)
  rw[eH4]
  have k4:=k3.same s4
  have rh4:=rh.same s4
  have nlh:lh≠st:=k3.ok.ne_none hlh
  refine⟨_,rfl,lh,rfl,⟨_,SqL.of hlh4⟩,comp_listM (xs:=hvs) (fun j ws H'=>Same H4 H'∧Reps H' ws ((hds.take j).map fun p=>itT (hideI p))) ⟨Same.refl _, .nil⟩ ?_ ?_ ?_⟩
  ·rintro j ws H' hj ⟨s5,r⟩
   exact⟨SqL.of (s5 _ _ hlh4),small' (by rw[r.length,List.length_map,List.length_take];omega)⟩
  ·rintro j x ws H' τ lτ hj hx ⟨s5,r⟩
   obtain⟨t,ht,rt⟩:=rh4.at3 hx
   rw[List.getElem?_map]at ht
   cases hg:hds[j]? with
   |none=>rw[hg]at ht;cases ht
   |some p=>
   rw[hg]at ht
   cases ht
   have zl:p.1.length≤10:=(hv_ok.2.2.1 _ (HD.mem (List.mem_of_getElem? hg))).2.2
   have rt':=rt.same s5
   cases rt' with
   |@tup a ys _ ha rys=>
   cases rys with
   |@cons x0 _ xr0 _ y0 yy0=>
   cases yy0 with
   |@cons x1 _ xr1 _ y1 yy1=>
   cases yy1
   cases y0
   cases y1
   match τ,lτ with
   |[τ0,τ1],_=>
   refine⟨a,_,rfl,SqT.of ha,rfl,_,_,rfl,_,_,rfl,rfl,⟨[some (.str p.1),some (.int p.2)],rfl,rfl⟩,tt1 (iteT ⟨_,rfl,_,rfl,sml 3,fun q5 hq5=>?_⟩)⟩
   have s6:=same_new hq5 (.tup [.str "hide", .str p.1, .int p.2])
   refine nx hj ⟨s5.trans s6,?_⟩
   rw[take_next hg,List.map_append]
   exact(r.same s6).append (.cons (.tup upd_same (.cons (.str _ (by decide+kernel)) (.cons (.str _ (by omega)) (.cons (.int _) .nil)))) .nil)
  ·rintro ivs H5 ⟨s5,r⟩ li hli
   rw[List.take_of_length_le (by omega)]at r
   obtain⟨H6,eH6,s6,hli6⟩:=nw hli (.lst ivs)
   rw[eH6]
   have s46:=s5.trans s6
   have k6:=k4.same s46
   have r6:=r.same s6
   have hlh6:=s46 _ _ hlh4
   have rh6:=rh4.same s46
   have nli:li≠st:=(k4.same s5).ok.ne_none hli
   have nlih:li≠lh:=fun e=>by rw[e,s5 _ _ hlh4]at hli;cases hli
   have nla:li≠la:=by
    obtain⟨avs,h,_⟩:=(k4.same s5).av
    exact Ne.symm (ne_of_none h hli)
   refine⟨_,rfl,_,rfl,st,6,rfl,k6.ok,by decide,by decide,fun d3 H7 d30 d31 g7=>⟨_,_,rfl,rfl,(m:Int)+d3,rfl,by omega,by omega,?_⟩⟩
   have k7:=k6.grow g7
   obtain⟨nv,hnv⟩:∃nv:Nat,((m:Int)+d3).toNat=nv:=⟨_,rfl⟩
   have nv11:nv≤11:=by omega
   refine for_range (n:=((m:Int)+d3).toNat) (fun i σ H'=>∃(o6:Option V) (vals:List (Str×T)) (jvs:List V),σ=[some (.ref st),some (.ref la),some (.str ltrS),some (.int m),some (.ref lh),some (.ref li),o6]∧StOk H' st∧(∀b o,b≠st→b≠li→H7 b=some o→H' b=some o)∧H' li=some (.lst jvs)∧Reps H' jvs ((itsOf hds vals).map itT)∧vals.map (·.1)=vL.take i∧∀p∈vals,DrK (at_++hds) 3 p.2)
    ⟨none,[],ivs,rfl,k7.ok,fun _ _ _ _ h=>h,g7.1 _ _ nli hli6,by
     have:(itsOf hds []).map itT=hds.map fun p=>itT (hideI p):=by unfold itsOf;rw[List.map_nil,List.append_nil,List.map_map];rfl
     rw[this]
     exact r6.grow g7 k6.ok,rfl,(fun _ h=>nomatch h)⟩ ?_ ?_
   ·rintro i σ H8 hi ⟨o6,vals,jvs,rfl,ok8,g8,hli8,rj,ev,kd⟩
    obtain⟨c,z,e1,e2,e3⟩:=ltr_v (k:=i) (by omega)
    have zl:z.length≤10:=hv_ok.2.2.2.1 z (List.mem_of_getElem? e3)
    have lvl:vals.length≤11:=by
     have h2:=congrArg List.length ev
     rw[List.length_map,List.length_take]at h2
     omega
    have ljv:=rj.length
    rw[List.length_map]at ljv
    have lits:(itsOf hds vals).length=hds.length+vals.length:=by unfold itsOf;rw[List.length_append,List.length_map,List.length_map]
    have g68:∀b o,b≠st→b≠li→H6 b=some o→H8 b=some o:=fun b o n1 n2 e=>g8 b o n1 n2 (g7.1 b o n1 e)
    have tu68:∀b xs,H6 b=some (.tup xs)→H8 b=some (.tup xs):=fun b xs e=>g68 b _ (k6.ok.ne_tup e) (ne_of e hli6 (by intro z;cases z)) e
    obtain⟨avs,hla6,rav⟩:=k6.av
    have hla8:=g68 _ _ k6.ne (Ne.symm nla) hla6
    have rav8:=rav.mono tu68
    have hlh8:=g68 _ _ nlh (Ne.symm nlih) hlh6
    have rh8:=rh6.mono tu68
    have lav:=rav8.length
    rw[List.length_map]at lav
    refine⟨_,rfl, .inl ⟨rfl,_,SqL.of hli8⟩,_,rfl,_,rfl,ltrS,(0+(i:Int)),c,rfl,rfl,small (by omega),by rw[Int.zero_add];exact atI_nat (j:=i) e1,_,_,rfl,rfl,small (by show("v":Str).length+(Str.length ⟨#[c]⟩)≤_;rw[show("v":Str).length=1 by decide+kernel,show Str.length ⟨#[c]⟩=1 from rfl];decide),?_⟩
    refine⟨_,rfl,_,rfl,_,rfl,la,lh,avs,hvs,rfl,rfl,hla8,hlh8,small (by omega),fun lc hlc=>?_⟩
    obtain⟨H9,eH9,s9,hlc9⟩:=nw hlc (.lst (avs++hvs))
    rw[eH9]
    have k9:DkS H9 st lc (at_++hds):=⟨ok8.same s9,ok8.ne_none hlc,⟨avs++hvs,hlc9,by rw[List.map_append];exact(rav8.append rh8).same s9⟩,at_app k.A dj HD,List.mem_append.mpr (.inl k.nm),by rw[List.length_append];omega⟩
    refine⟨st,lc,at_++hds,rfl,k9,fun v t H10 g10 rv dk=>⟨sml 3,fun p hp=>?_⟩⟩
    rw[e2]
    have k10:=k9.grow g10
    have s11:=same_new hp (.tup [.str "val", .str z,v])
    have hli11:=s11 _ _ (g10.1 _ _ nli (s9 _ _ hli8))
    refine⟨li,jvs,_,rfl,rfl,hli11,small' (by omega),?_⟩
    have tu:∀b xs,(upd H10 p (.tup [.str "val", .str z,v])) b=some (.tup xs)→(upd (upd H10 p (.tup [.str "val", .str z,v])) li (.lst (jvs++[.ref p]))) b=some (.tup xs):=fun b xs e=>by rw[upd_ne (ne_of e hli11 (by intro z;cases z))];exact e
    obtain⟨a1,a2,h10⟩:=(k10.same s11).ok
    refine⟨_,vals++[(z,t)],_,rfl,⟨a1,a2,by rw[upd_ne (Ne.symm nli)];exact h10⟩,fun b o n1 n2 e=>by rw[upd_ne n2];exact s11 _ _ (g10.1 _ _ n1 (s9 _ _ (g8 b o n1 n2 e))),upd_same,?_,by rw[List.map_append,ev,take_next e3];rfl,fun p' hp'=>?_⟩
    ·have e4:(itsOf hds (vals++[(z,t)])).map itT=(itsOf hds vals).map itT++[itT (valI (z,t))]:=by
      unfold itsOf
      rw[List.map_append (f:=valI),←List.append_assoc,List.map_append]
      rfl
     rw[e4]
     exact((((rj.same s9).grow g10 k9.ok).same s11).mono tu).append (.cons (.tup (tu _ _ upd_same) (.cons (.str _ (by decide+kernel)) (.cons (.str _ (by omega)) (.cons ((rv.same s11).mono tu) .nil)))) .nil)
    ·rcases List.mem_append.mp hp' with h|h
     ·exact kd p' h
     ·rw[List.mem_singleton.mp h];exact dk
   ·rintro σ H8 ⟨o6,vals,jvs,rfl,ok8,g8,hli8,rj,ev,kd⟩
    refine⟨_,rfl,_,rfl,sml 2,fun p hp=>?_⟩
    have s9:=same_new hp (.tup [.ref li, .ref lh])
    have lvn:vals.length=nv:=by
     have h2:=congrArg List.length ev
     rw[List.length_map,List.length_take,hnv]at h2
     have:vL.length=11:=by decide
     omega
    have hlh8:H8 lh=some (.lst hvs):=g8 _ _ nlh (Ne.symm nlih) (g7.1 _ _ nlh hlh6)
    have tu78:∀b xs,H7 b=some (.tup xs)→H8 b=some (.tup xs):=fun b xs e=>g8 b _ (k7.ok.ne_tup e) (ne_of e (g7.1 _ _ nli hli6) (by intro z;cases z)) e
    refine q p li lh jvs hvs hds vals _ ⟨fun b o n e=>?_,ok8.same s9⟩ upd_same (s9 _ _ hli8) (rj.same s9) (s9 _ _ hlh8) (((rh6.grow g7 k6.ok).mono tu78).same s9) nli nlh ⟨HD,by rw[ev,hnv,lvn],by omega,kd⟩
    have nbl:b≠li:=fun z=>by
     rw[z]at e
     have:=s5 _ _ (s4 _ _ (g3.1 _ _ nli (g12.1 _ _ nli e)))
     rw[hli]at this;cases this
    exact s9 _ _ (g8 b o n nbl (g7.1 b o n (s46 _ _ (s4 _ _ (g3.1 _ _ n (g12.1 _ _ n e))))))
end
mutual
def ofT:T→Dm
 |.str z=>.s z
 |.int i=>.i i
 |.tup l=>ofTs l
def ofTs:List T→Dm
 |[]=>.nil
 |t::r=>.cons (ofT t) (ofTs r)
end
mutual
theorem inst_of (ρ:Nat→T):∀t:T,inst ρ (ofT t)=t
 |.str z=>rfl
 |.int i=>rfl
 |.tup l=>by
  have h:=insts_of ρ l
  cases l with
  |nil=>rfl
  |cons a r=>
   have h':inst ρ (ofT a)::insts ρ (ofTs r)=a::r:=h
   show T.tup (inst ρ (ofT a)::insts ρ (ofTs r))=_
   rw[h']
theorem insts_of (ρ:Nat→T):∀l:List T,insts ρ (ofTs l)=l
 |[]=>rfl
 |t::r=>by
  show inst ρ (ofT t)::insts ρ (ofTs r)=_
  rw[inst_of ρ t,insts_of ρ r]
end
def sortsD:List Dc:=[("kind","col",[.tup [], .tup [.str "Red"], .tup [.str "Blue"]]),("kind","opt",[.tup [.str "?a"], .tup [.str "No"], .tup [.str "Yes", .str "?a"]]),("record","duo",[.tup [.str "?a", .str "?b"], .tup [.str "left", .str "?a"], .tup [.str "right", .str "?b"]])]
def spSorts:Sp:=fun vs H Q _=>vs=[]∧∀p us H',Same H H'→H p=none→H' p=some (.lst us)→Reps H' us (sortsD.map dcT)→Q (.ref p) H'
def toldT (F:Str)(us:List Str):T:=if us=[] then .str F else .tup ((F::us).map T.str)
theorem told_hd (F:Str)(us:List Str):hdT (toldT F us)=(F::us).map T.str:=by
 unfold toldT
 split
 ·next e=>rw[e];rfl
 ·rfl
def spTold:Sp:=fun vs H Q _=>∃(fo:Addr) (F:Str) (us:List Str),vs=[.ref fo]∧H fo=some (.tup ((F::us).map V.str))∧(∀u∈F::us,u.length≤80)∧us.length≤100∧∀v,Rep H v (toldT F us)→Q v H
def spNb:Sp:=fun vs H Q _=>∃(ia:Addr) (iys:List V) (hds:List (Str×Nat)) (vals:List (Str×T)),vs=[.ref ia]∧H ia=some (.tup iys)∧Reps H iys ((itsOf hds vals).map itT)∧(∀p∈hds,p.2≤2∧p.1.length≤10)∧(∀p∈vals,p.1.length≤10)∧hds.length≤10∧vals.length≤11∧
 ∀p H' ws (body:List T),Same H H'→H' p=some (.tup ws)→Reps H' ws body→body.length≤100→Q (.ref p) H'
section
variable {P:Program}{w:World}{K:PySem.W.Frag}{mg:Str→Option Value}{base:Heap}{f:Addr}{fd:FuncData}
abbrev s_srt:Stmt:=top 32
theorem sc_srt:FnScope [] [] (defScope s_srt):=⟨rfl,rfl,rfl,by decide+kernel,rfl,by decide+kernel,by decide+kernel⟩
@[irreducible] def srS:Stmt:=(defBody s_srt).getD 0 (.Pass ⟨0,0,0,0⟩)
theorem body_srt:defBody s_srt=[srS]:=by unfold srS;first|rfl|(with_unfolding_all rfl)|kernel_rfl
@[irreducible] def srEs:List Expr:=match srS with
 |.Return (some (.List es _)) _=>es
 |_=>[]
@[irreducible] def srP:Pos×Pos:=match srS with
 |.Return (some (.List _ p)) q=>(p,q)
 |_=>(⟨0,0,0,0⟩,⟨0,0,0,0⟩)
theorem srS_eq:srS=.Return (some (.List srEs srP.1)) srP.2:=by unfold srEs srP srS;first|rfl|(with_unfolding_all rfl)|kernel_rfl
theorem sr_tm:tmEs [] (fun _=>.nil) 30 srEs=some (ofTs (sortsD.map dcT)):=by unfold srEs srS;first|kernel_rfl|rfl|(with_unfolding_all rfl)
theorem ok_srt (F:Fun K "_law_sorts" "_law_sorts" s_srt f fd):FnOk P w K mg base CX0 1 f fd [] spSorts:=by
 refine F.ok sc_srt (len:=fun vs H Q E h=>(by obtain⟨rfl,_⟩:=h;rfl)) (fun cdv A outer s H vs Q E hr h=>?_)
 obtain⟨rfl,q⟩:=h
 rw[body_srt,srS_eq]
 refine⟨_,pss_one (ps_ret (pe_lst ((dsp_both (K:=K) rfl (N:=[]) rfl (fun x hx=>(by cases hx)) 30).2 srEs))),?_⟩
 refine⟨fun _=>.int 0,[],fun _=>.nil,_,(fun x k h=>by cases h),(fun x k h=>by cases h),sr_tm,fun us H' s1 r=>?_⟩
 rw[insts_of]at r
 refine⟨small (by rw[r.length];show 3≤1000000;decide),fun p hp=>?_⟩
 have s2:=same_new hp (.lst us)
 exact q p us _ (s1.trans s2) (s1.free hp) upd_same (r.same s2)
abbrev s_tld:Stmt:=top 45
theorem sc_tld:FnScope ["_law_form"] ["_law_form"] (defScope s_tld):=⟨rfl,rfl,rfl,by decide+kernel,rfl,by decide+kernel,by decide+kernel⟩
theorem ok_tld (F:Fun K "_law_told" "_law_told" s_tld f fd)(ml:mg "len"=none):FnOk P w K mg base CX0 1 f fd ["_law_form"] spTold:=by
 refine F.ok sc_tld (len:=fun vs H Q E h=>(by obtain⟨fo,Fn,us,rfl,_⟩:=h;rfl)) (fun cdv A outer s H vs Q E hr h=>?_)
 obtain⟨fo,Fn,us,rfl,hf,lu,l100,q⟩:=h
 refine⟨_,pss_cons (ps_if (pt_cmpR op_eq (pe_callB (clen K) rfl ml PySem.boot_len (pa_cons (pv 0) pa_nil)) pe_int (nomark _)) (pss_one (ps_ret (pe_ix (ixT K) (pv 0) pe_int))) pss_nil) (pss_one (ps_ret (pv 0))),?_⟩
 refine⟨_,rfl,fo,_,rfl, .inr (SqT.of hf),rfl,_,rfl,?_⟩
 by_cases e:us=[]
 ·subst e
  refine iteT ⟨_,rfl,fo,_,0, .str Fn,rfl,rfl,SqT.of hf,atI_nat (j:=0) rfl,q _ ?_⟩
  unfold toldT
  rw[if_pos rfl]
  exact .str Fn (by have:=lu Fn (by simp);omega)
 ·have l:us.length≠0:=fun h=>e (List.length_eq_zero_iff.mp h)
  rw[decide_eq_false (fun h=>by have h':=V.int.inj h;rw[List.length_map,List.length_cons]at h';omega)]
  refine iteF ⟨_,rfl,q _ ?_⟩
  unfold toldT
  rw[if_neg e]
  exact .tup hf (Reps.words fun u hu=>by have:=lu u hu;omega)
abbrev s_nb:Stmt:=top 41
abbrev nNb:List Str:=["_law_items_here","_law_rows_here","_law_word_here","_law_small","_law_told_here"]
theorem sc_nb:FnScope nNb ["_law_items_here"] (defScope s_nb):=⟨rfl,rfl,rfl,by decide+kernel,rfl,by decide+kernel,by decide+kernel⟩
set_option maxHeartbeats 4000000 in
theorem ok_nb (F:Fun K "_law_number_body" "_law_number_body" s_nb f fd)(ml:mg "len"=none)(mt:mg "tuple"=none):FnOk P w K mg base CX0 1 f fd ["_law_items_here"] spNb:=by
 refine F.ok sc_nb (len:=fun vs H Q E h=>(by obtain⟨ia,iys,hds,vals,rfl,_⟩:=h;rfl)) (fun cdv A outer s H vs Q E hr h=>?_)
 obtain⟨ia,iys,hds,vals,rfl,hia,ria,hk,vk,l10,l11,q⟩:=h
 refine⟨_,pss_cons (pset 1 sc_nb.nd (pe_lst pa_nil))
  (pss_cons (ps_for PassesOwn.never rfl (piT K (pv 0)) (pgT K (n:=3) rfl (pgs_cons (pg_name (i:=2) sc_nb.nd rfl (Or.inl rfl)) (pgs_cons (pg_name (i:=3) sc_nb.nd rfl (Or.inl rfl)) (pgs_cons (pg_name (i:=4) sc_nb.nd rfl (Or.inl rfl)) pgs_nil))))
   (pss_one (ps_if (pt_cmpR op_eq (pv 2) pe_str)
    (pss_one (ps_expr (papp K (pv 1) (pa_cons (pe_tup (pa_cons pe_str (pa_cons (pv 3) (pa_cons (pe_slice ((slT K).or (slW K)) (pe_tup (pa_cons pe_str (pa_cons pe_str pa_nil))) po_none (po_some (pv 4))) (pa_cons pe_str pa_nil))))) pa_nil))))
    (pss_one (ps_expr (papp K (pv 1) (pa_cons (pe_tup (pa_cons pe_str (pa_cons (pv 3) (pa_cons (pe_op op_add pe_int (pe_callB (clen K) rfl ml PySem.boot_len (pa_cons (pv 1) pa_nil))) pa_nil)))) pa_nil)))))))
  (pss_one (ps_ret (pe_callTy (ctup K) rfl mt boot_tuple (pa_cons (pv 1) pa_nil))))),?_⟩
 have liy:=ria.length
 rw[List.length_map]at liy
 have lits:(itsOf hds vals).length=hds.length+vals.length:=by unfold itsOf;rw[List.length_append,List.length_map,List.length_map]
 refine⟨sml 0,fun lr hlr=>?_⟩
 obtain⟨H1,eH1,s1,hlr1⟩:=nw hlr (.lst [])
 rw[eH1]
 have nia:ia≠lr:=ne_of_none hia hlr
 refine⟨_,rfl,ia,rfl,⟨_,SqT.of (s1 _ _ hia)⟩,for_tup (xs:=iys) (fun i σ H'=>∃(o1 o2 o3:Option V) (ws:List V) (body:List T),σ=[some (.ref ia),some (.ref lr),o1,o2,o3]∧(∀c o,c≠lr→H1 c=some o→H' c=some o)∧H' lr=some (.lst ws)∧Reps H' ws body∧body.length=i)
  ⟨none,none,none,[],[],rfl,fun _ _ _ h=>h,hlr1, .nil,rfl⟩ ?_ ?_ ?_⟩
 ·rintro i σ H' hi ⟨o1,o2,o3,ws,body,rfl,g,_⟩
  exact SqT.of (g _ _ nia (s1 _ _ hia))
 ·rintro i x σ H' hx ⟨o1,o2,o3,ws,body,rfl,g,hl,rb,lb⟩
  obtain⟨t,ht,rt⟩:=ria.at3 hx
  rw[List.getElem?_map]at ht
  have hi:=(List.getElem?_eq_some_iff.mp hx).1
  have tup':∀b xs,H b=some (.tup xs)→H' b=some (.tup xs):=fun b xs e=>g b _ (ne_of_none e hlr) (s1 _ _ e)
  have rt':=rt.mono tup'
  have lws:=rb.length
  have put:∀{p:Addr} {H6:Hp} {xs:List V} {b:T},Same H' H6→H6 p=some (.tup xs)→Rep H6 (.ref p) b→(∀c o,c≠lr→H1 c=some o→(upd H6 lr (.lst (ws++[.ref p]))) c=some o)∧(upd H6 lr (.lst (ws++[.ref p]))) lr=some (.lst (ws++[.ref p]))∧Reps (upd H6 lr (.lst (ws++[.ref p]))) (ws++[.ref p]) (body++[b])∧(body++[b]).length=i+1:=fun{p H6 xs b} s6 hp r=>by
   have tu:∀b xs,H6 b=some (.tup xs)→(upd H6 lr (.lst (ws++[.ref p]))) b=some (.tup xs):=fun b xs e=>by rw[upd_ne (ne_of e (s6 _ _ hl) (by intro z;cases z))];exact e
   exact⟨fun c o n e=>by rw[upd_ne n];exact s6 _ _ (g c o n e),upd_same,((rb.same s6).mono tu).append (.cons (r.mono tu) .nil),by simp[lb]⟩
  by_cases hh:i<hds.length
  ·obtain⟨p,hp⟩:∃p,hds[i]?=some p:=⟨_,List.getElem?_eq_getElem hh⟩
   have hit:(itsOf hds vals)[i]?=some (hideI p):=by
    unfold itsOf
    rw[List.getElem?_append_left (by rw[List.length_map];exact hh),List.getElem?_map,hp]
    rfl
   rw[hit]at ht
   cases ht
   obtain⟨k2,pl⟩:=hk p (List.mem_of_getElem? hp)
   cases rt' with
   |@tup ci cys _ hci rci=>
   cases rci with
   |@cons x0 _ xr0 _ y0 yy0=>
   cases yy0 with
   |@cons x1 _ xr1 _ y1 yy1=>
   cases yy1 with
   |@cons x2 _ xr2 _ y2 yy2=>
   cases yy2
   cases y0
   cases y1
   cases y2
   refine⟨ci,_,rfl,SqT.of hci,rfl,_,_,rfl,_,_,rfl,_,_,rfl,rfl,?_⟩
   refine⟨_,rfl,rfl,_,rfl,?_⟩
   rw[dec_str,decide_eq_true (show(hideI p).1="hide" from rfl)]
   refine iteT ⟨_,rfl, .inl ⟨rfl,_,SqL.of hl⟩,_,rfl,sml 2,fun p2 hp2=>?_⟩
   obtain⟨H6,eH6,s6,hp26⟩:=nw hp2 (.tup [V.str "?a",V.str "?b"])
   rw[eH6]
   refine⟨_,rfl,(p.2:Int),rfl,lets_cut k2 hp26 fun p3 H7 s7 h3=>⟨sml 4,fun p9 hp9=>?_⟩⟩
   have s9:=same_new hp9 (.tup [.str "hide", .str p.1, .ref p3, .str "num"])
   have s69:=(s6.trans s7).trans s9
   refine⟨lr,ws,_,rfl,rfl,s69 _ _ hl,small' (by omega),?_⟩
   obtain⟨a1,a2,a3,a4⟩:=put (b:=.tup [.str "hide", .str p.1, .tup ((lets p.2).map T.str), .str "num"]) s69 upd_same (.tup upd_same (.cons (.str _ (by decide+kernel)) (.cons (.str _ (by omega)) (.cons (.tup (s9 _ _ h3) (Reps.words fun y hy=>by have:=lets_mem y hy;omega)) (.cons (.str _ (by decide+kernel)) .nil)))))
   exact⟨_,_,_,_,_,rfl,a1,a2,a3,a4⟩
  ·obtain⟨j,rfl⟩:∃j,i=hds.length+j:=⟨i-hds.length,by omega⟩
   have hj:j<vals.length:=by omega
   obtain⟨p,hp⟩:∃p,vals[j]?=some p:=⟨_,List.getElem?_eq_getElem hj⟩
   have hit:(itsOf hds vals)[hds.length+j]?=some (valI p):=by
    unfold itsOf
    rw[List.getElem?_append_right (by rw[List.length_map];omega),List.length_map,Nat.add_sub_cancel_left,List.getElem?_map,hp]
    rfl
   rw[hit]at ht
   cases ht
   have pl:=vk p (List.mem_of_getElem? hp)
   cases rt' with
   |@tup ci cys _ hci rci=>
   cases rci with
   |@cons x0 _ xr0 _ y0 yy0=>
   cases yy0 with
   |@cons x1 _ xr1 _ y1 yy1=>
   cases yy1 with
   |@cons x2 _ xr2 _ y2 yy2=>
   cases yy2
   cases y0
   cases y1
   refine⟨ci,_,rfl,SqT.of hci,rfl,_,_,rfl,_,_,rfl,_,_,rfl,rfl,?_⟩
   refine⟨_,rfl,rfl,_,rfl,?_⟩
   rw[dec_str,decide_eq_false (show(valI p).1≠"hide" from hv_ne.2)]
   refine iteF ⟨_,rfl, .inl ⟨rfl,_,SqL.of hl⟩,_,rfl,_,rfl,lr,_,rfl, .inl (SqL.of hl),_,_,rfl,rfl,sml 3,fun p9 hp9=>?_⟩
   have s9:=same_new hp9 (.tup [.str "val", .str p.1, .int (3+((ws.length:Nat):Int))])
   refine⟨lr,ws,_,rfl,rfl,s9 _ _ hl,small' (by omega),?_⟩
   obtain⟨a1,a2,a3,a4⟩:=put (b:=.tup [.str "val", .str p.1, .int (3+((ws.length:Nat):Int))]) s9 upd_same (.tup upd_same (.cons (.str _ (by decide+kernel)) (.cons (.str _ (by omega)) (.cons (.int _) .nil))))
   exact⟨_,_,_,_,_,rfl,a1,a2,a3,a4⟩
 ·rintro σ H' ⟨o1,o2,o3,ws,body,rfl,g,hl,rb,lb⟩
  refine⟨_,rfl,lr,_,rfl, .inl ⟨SqL.of hl,fun p hp=>?_⟩⟩
  have s2:=same_new hp (.tup ws)
  exact q p _ ws body (fun c o e=>s2 _ _ (g c o (ne_of_none e hlr) (s1 _ _ e))) upd_same (rb.same s2) (by omega)
end
def pxs (pre:Str)(hds:List (Str×Nat)):List (Str×Nat):=hds.map fun p=>(pre++p.1,p.2)
def flatW:List Str:=["num","?a","?b","opt","duo"]
def fullW:List Str:=flatW++hL.map (fun z=>("X.":Str)++z)++hL.map (fun z=>("Z.":Str)++z)
theorem full_ok:fullW.Nodup∧(∀z∈fullW,z∈W0)∧("->":Str)∉fullW∧(∀z∈hL,z∉fullW)∧(∀z∈hL,qB (("X.":Str)++z)=false∧qB (("Z.":Str)++z)=false)∧(∀p∈flatL,p.2≤2∧(1≤p.2→qB p.1=false))∧flatL.map (·.1)=flatW:=by decide+kernel
theorem at_ok {n1 n2:List (Str×Nat)}(h1:HdOk n1)(h2:HdOk n2):AtOk (flatL++pxs "X." n1++pxs "Z." n2)∧(∀z∈hL,z∉(flatL++pxs "X." n1++pxs "Z." n2).map (·.1)):=by
 obtain⟨f1,f2,f3,f4,f5,f6,f7⟩:=full_ok
 have e:(flatL++pxs "X." n1++pxs "Z." n2).map (·.1)=flatW++(hL.take n1.length).map (fun z=>("X.":Str)++z)++(hL.take n2.length).map (fun z=>("Z.":Str)++z):=by
  rw[List.map_append,List.map_append,f7]
  congr 1
  ·congr 1
   rw[←h1.nm]
   unfold pxs
   rw[List.map_map,List.map_map]
   rfl
  ·rw[←h2.nm]
   unfold pxs
   rw[List.map_map,List.map_map]
   rfl
 have sb:((flatL++pxs "X." n1++pxs "Z." n2).map (·.1)).Sublist fullW:=by
  rw[e]
  exact List.Sublist.append (List.Sublist.append (List.Sublist.refl _) ((List.take_sublist _ _).map _)) ((List.take_sublist _ _).map _)
 refine⟨⟨fun p hp=>?_,f1.sublist sb,fun h=>f3 (sb.subset h)⟩,fun z hz h=>f4 z hz (sb.subset h)⟩
 refine⟨f2 _ (sb.subset (List.mem_map_of_mem (f:=(·.1)) hp)),?_⟩
 rcases List.mem_append.mp hp with hp|hp
 ·rcases List.mem_append.mp hp with hp|hp
  ·exact f6 p hp
  ·obtain⟨q,hq,rfl⟩:=List.mem_map.mp hp
   exact⟨h1.k q hq,fun _=>(f5 _ (h1.mem hq)).1⟩
 ·obtain⟨q,hq,rfl⟩:=List.mem_map.mp hp
  exact⟨h2.k q hq,fun _=>(f5 _ (h2.mem hq)).2⟩
theorem hd_nil:HdOk []:=⟨rfl,by decide,fun _ h=>nomatch h⟩
def faceT (name:Str)(gs:List (Str×T))(hds:List (Str×Nat))(vals:List (Str×T)):T:=.tup (.str "face"::.str name::.tup (gs.map gvT)::(itsOf hds vals).map itT)
def gsB:List (Str×T):=[("X", .str "Fa")]
def gsC:List (Str×T):=[("X", .str "Fa"),("Z", .tup [.str "Fb", .str "X"])]
structure Dr3 where
 h1:List (Str×Nat)
 v1:List (Str×T)
 h2:List (Str×Nat)
 v2:List (Str×T)
 h3:List (Str×Nat)
 v3:List (Str×T)
def Dr3.a1 (d:Dr3):List (Str×Nat):=flatL++d.h1
def Dr3.a2 (d:Dr3):List (Str×Nat):=flatL++pxs "X." d.h1++pxs "Z." []++d.h2
def Dr3.a3 (d:Dr3):List (Str×Nat):=flatL++pxs "X." d.h1++pxs "Z." d.h2++d.h3
structure D3Ok (d:Dr3):Prop where
 f1:FaceD d.a1 d.h1 d.v1
 f2:FaceD d.a2 d.h2 d.v2
 f3:FaceD d.a3 d.h3 d.v3
def Dr3.fs (d:Dr3):List T:=[faceT "Fa" [] d.h1 d.v1,faceT "Fb" gsB d.h2 d.v2,faceT "Fc" gsC d.h3 d.v3]
def spFaces:Sp:=fun vs H Q _=>∃st:Addr,vs=[.ref st]∧StOk H st∧∀p fvs (d:Dr3) H',Grow st H H'→H' p=some (.lst fvs)→p≠st→H p=none→Reps H' fvs d.fs→D3Ok d→Q (.ref p) H'
theorem comp_px {K:PySem.W.Frag}{H:Hp}{lh:Addr}{hvs:List V}{hds:List (Str×Nat)}{pr:Str}{σ':L2.St}{Q:VK}(hl:H lh=some (.lst hvs))(r:Reps H hvs (hds.map atT))(l10:hds.length≤10)(lp:pr.length≤10)(lw:∀p∈hds,p.1.length≤10)
  (hd:∀l us H',Same H H'→H l=none→H' l=some (.lst us)→Reps H' us ((pxs pr hds).map atT)→Q (.ref l) H'):CompWM 2 (Itl K lh) (gTup K 2 (gCons (gName 0) (gCons (gName 1) gNil))) tTrue (tTup (tCons (tOp r_op_add_str (tC (.str pr)) (tVar 0)) (tCons (tVar 1) tNil))) σ' Q H:=by
 have lhv:=r.length
 rw[List.length_map]at lhv
 refine comp_listM (xs:=hvs) (fun j ws H'=>Same H H'∧Reps H' ws (((pxs pr hds).take j).map atT)) ⟨Same.refl _, .nil⟩ ?_ ?_ ?_
 ·rintro j ws H' hj ⟨s5,r5⟩
  exact⟨SqL.of (s5 _ _ hl),small' (by rw[r5.length,List.length_map,List.length_take];omega)⟩
 ·rintro j x ws H' τ lτ hj hx ⟨s5,r5⟩
  obtain⟨t,ht,rt⟩:=r.at3 hx
  rw[List.getElem?_map]at ht
  cases hg:hds[j]? with
  |none=>rw[hg]at ht;cases ht
  |some p=>
  rw[hg]at ht
  cases ht
  have zl:=lw p (List.mem_of_getElem? hg)
  have rt':=rt.same s5
  have hp:(pxs pr hds)[j]?=some (pr++p.1,p.2):=by unfold pxs;rw[List.getElem?_map,hg];rfl
  cases rt' with
  |@tup a ys _ ha rys=>
  cases rys with
  |@cons x0 _ xr0 _ y0 yy0=>
  cases yy0 with
  |@cons x1 _ xr1 _ y1 yy1=>
  cases yy1
  cases y0
  cases y1
  match τ,lτ with
  |[τ0,τ1],_=>
  refine⟨a,_,rfl,SqT.of ha,rfl,_,_,rfl,_,_,rfl,rfl,⟨[some (.str p.1),some (.int p.2)],rfl,rfl⟩,tt1 (iteT ⟨_,rfl,_,_,rfl,rfl,small (by omega),_,rfl,sml 2,fun q5 hq5=>?_⟩)⟩
  have s6:=same_new hq5 (.tup [.str (pr++p.1), .int p.2])
  refine nx hj ⟨s5.trans s6,?_⟩
  rw[take_next hp,List.map_append]
  exact(r5.same s6).append (.cons (.tup upd_same (.cons (.str _ (by rw[len_app];omega)) (.cons (.int _) .nil))) .nil)
 ·rintro ws H' ⟨s5,r5⟩ l hl0
  rw[List.take_of_length_le (by unfold pxs;rw[List.length_map];omega)]at r5
  have s6:=same_new hl0 (.lst ws)
  exact hd l ws _ (s5.trans s6) (s5.free hl0) upd_same (r5.same s6)
theorem x_dsp {X:Cx}(K:PySem.W.Frag){N:List Str}(hK:X.K=K)(hN:X.N=N)(hv:∀x∈N,Vis X.env.scope x)(n:Nat){e:Expr}:PEx X e (tDsp N n e):=⟨(dsp_both hK hN hv n).1 e⟩
theorem x_dsps {X:Cx}(K:PySem.W.Frag){N:List Str}(hK:X.K=K)(hN:X.N=N)(hv:∀x∈N,Vis X.env.scope x)(n:Nat){es:List Expr}:PAx X es (tDsps N n es):=⟨(dsp_both hK hN hv n).2 es⟩
section
variable {P:Program}{w:World}{K:PySem.W.Frag}{mg:Str→Option Value}{base:Heap}{f:Addr}{fd:FuncData}
abbrev s_drf:Stmt:=top 44
abbrev nDf:List Str:=["_law_state_here","_law_flat","_law_first","_law_one","_law_there","_law_second","_law_two","_law_third"]
theorem sc_drf:FnScope nDf ["_law_state_here"] (defScope s_drf):=⟨rfl,rfl,rfl,by decide+kernel,rfl,by decide+kernel,by decide+kernel⟩
theorem vis_drf:visB (defScope s_drf) nDf=true:=by decide+kernel
def zS:Stmt:=.Pass ⟨0,0,0,0⟩
def zE:Expr:=.Name "" ⟨0,0,0,0⟩
@[irreducible] def flEs:List Expr:=match(defBody s_drf).getD 0 zS with
 |.Assign _ (.List es _) _=>es
 |_=>[]
def flS (es:List Expr):Stmt:=match(defBody s_drf).getD 0 zS with
 |.Assign x (.List _ p) q=>.Assign x (.List es p) q
 |_=>zS
@[irreducible] def rfD (k:Nat):Expr:=match(defBody s_drf).getD 5 zS with
 |.Return (some (.List es _)) _=>match es.getD k zE with
  |.BinOp d _ _ _=>d
  |_=>zE
 |_=>zE
def rfS (d1 d2 d3:Expr):Stmt:=match(defBody s_drf).getD 5 zS with
 |.Return (some (.List [.BinOp _ o1 c1 p1, .BinOp _ o2 c2 p2, .BinOp _ o3 c3 p3] p)) q=>.Return (some (.List [.BinOp d1 o1 c1 p1, .BinOp d2 o2 c2 p2, .BinOp d3 o3 c3 p3] p)) q
 |_=>zS
def midS:List Stmt:=((defBody s_drf).drop 1).take 4
theorem body_drf:defBody s_drf=flS flEs::(midS++[rfS (rfD 0) (rfD 1) (rfD 2)]):=by unfold flEs rfD;kernel_rfl
theorem fl_tm:tmEs [] (fun _=>.nil) 30 flEs=some (ofTs (flatL.map atT)):=by unfold flEs;kernel_rfl
def hdF (name:Str)(gs:List (Str×T)):T:=.tup [.str "face", .str name, .tup (gs.map gvT)]
theorem rf_tm1:tmE [] (fun _=>.nil) 30 (rfD 0)=some (ofT (hdF "Fa" [])):=by unfold rfD;kernel_rfl
theorem rf_tm2:tmE [] (fun _=>.nil) 30 (rfD 1)=some (ofT (hdF "Fb" gsB)):=by unfold rfD;kernel_rfl
theorem rf_tm3:tmE [] (fun _=>.nil) 30 (rfD 2)=some (ofT (hdF "Fc" gsC)):=by unfold rfD;kernel_rfl
theorem ps_fl {X:Cx}{es:List Expr}{ta:TA}(hN:X.N.Nodup)(hi:X.N[1]?=some ("_law_flat":Str))(hx:Loc X.env.scope ("_law_flat":Str))(hf:X.env.scope.names.lookup ("_law_flat":Str)=some NameKind.local)(h:PAx X es ta):PSx X (flS es) (tAsg (tLst ta) (gName 1)):=x_set (i:=1) (pos':=_) hN hi hx (x_lst h) rfl (.inr hf)
theorem ps_rf {X:Cx}(K:PySem.W.Frag){d1 d2 d3:Expr}{t1 t2 t3 u1 u2 u3:TE}(hK:X.K=K)(h1:PEx X d1 t1)(h2:PEx X d2 t2)(h3:PEx X d3 t3)
  (c1:∀p p1 p2,PEx X (.Call (.Name "tuple" p) [.Name "_law_first" p1] [] p2) u1) (c2:∀p p1 p2,PEx X (.Call (.Name "tuple" p) [.Name "_law_second" p1] [] p2) u2) (c3:∀p p1 p2,PEx X (.Call (.Name "tuple" p) [.Name "_law_third" p1] [] p2) u3):PSx X (rfS d1 d2 d3) (tRet (tLst (tCons (tOp (rCatT K) t1 u1) (tCons (tOp (rCatT K) t2 u2) (tCons (tOp (rCatT K) t3 u3) tNil))))) :=
 x_ret (x_lst (x_b (x_op (catT K hK) h1 (c1 _ _ _)) (x_b (x_op (catT K hK) h2 (c2 _ _ _)) (x_b (x_op (catT K hK) h3 (c3 _ _ _)) x_nil))))
theorem cat_f {σ:L2.St}{H:Hp}{e:Expr}{k:Nat}{lf:Addr}{fvs:List V}{name:Str}{gs:List (Str×T)}{hds:List (Str×Nat)}{vals:List (Str×T)}{Q:VK}(he:tmE [] (fun _=>.nil) 30 e=some (ofT (hdF name gs)))(hk:σ[k]?=some (some (.ref lf)))(hl:H lf=some (.lst fvs))(r:Reps H fvs ((itsOf hds vals).map itT))(l1:hds.length≤10)(l2:vals.length≤11)
  (q:∀v H',Same H H'→Rep H' v (faceT name gs hds vals)→Q v H'):tOp (rCatT K) (tDsp nDf 30 e) (tCB (r_call_tuple_of K) (tCons (tVar k) tNil)) σ H Q:=by
 refine⟨fun _=>.int 0,[],fun _=>.nil,_,(fun x k h=>by cases h),(fun x k h=>by cases h),he,fun v H1 s1 r1=>⟨_,hk,⟨lf,fvs,rfl, .inl ⟨SqL.of (s1 _ _ hl),fun p hp=>?_⟩⟩⟩⟩
 rw[inst_of]at r1
 have s2:=same_new hp (.tup fvs)
 have lr:=r.length
 rw[List.length_map]at lr
 have lits:(itsOf hds vals).length=hds.length+vals.length:=by unfold itsOf;rw[List.length_append,List.length_map,List.length_map]
 cases r1 with
 |@tup b vs _ hb rv=>
 have lv:=rv.length
 have e3:vs.length=3:=lv
 have s12:=s1.trans s2
 have rf:=r.same s12
 refine⟨b,p,vs,fvs,rfl,rfl,SqT.of (s2 _ _ hb),SqT.of upd_same,(by intro e;rw[e]at e3;cases e3),small (by omega),fun e=>?_,fun _ p2 hp2=>?_⟩
 ·rw[e]at rf
  generalize eg:(itsOf hds vals).map itT=ts at rf
  cases rf
  refine q _ _ s12 ?_
  unfold faceT
  rw[eg]
  exact .tup (s2 _ _ hb) (rv.same s2)
 ·have s3:=same_new hp2 (.tup (vs++fvs))
  refine q _ _ (s12.trans s3) ?_
  unfold faceT
  exact .tup upd_same (((rv.same s2).append rf).same s3)
set_option maxHeartbeats 4000000 in
theorem ok_drf (F:Fun K "_law_drawn_faces" "_law_drawn_faces" s_drf f fd)(mt:mg "tuple"=none)(h1:Has P w K mg base 6 "_law_items" ["_law_state_here","_law_atoms"] spItemsD):FnOk P w K mg base CX0 7 f fd ["_law_state_here"] spFaces:=by
 refine F.ok sc_drf (len:=fun vs H Q E h=>(by obtain⟨st,rfl,_⟩:=h;rfl)) (fun cdv A outer s H vs Q E hr h=>?_)
 obtain⟨st,rfl,ok,q⟩:=h
 have hv:∀x∈nDf,Vis (defScope s_drf) x:=vis_dec vis_drf
 rw[body_drf]
 refine⟨_,pss_cons (ps_fl sc_drf.nd rfl (Or.inl rfl) rfl (x_dsps K rfl (N:=nDf) rfl hv 30)).h
  (pss_cons (ps_asg (pcall h1 hr (Nat.le_refl _) rfl (pa_cons (pv 0) (pa_cons (pv 1) pa_nil))) (pgT K (n:=2) rfl (pgs_cons (pg_name (i:=2) sc_drf.nd rfl (Or.inl rfl)) (pgs_cons (pg_name (i:=3) sc_drf.nd rfl (Or.inl rfl)) pgs_nil))))
  (pss_cons (ps_lcM (g:=gTup K 2 (gCons (gName 0) (gCons (gName 1) gNil))) (defScope s_drf) nDf ["_law_word_here","_law_many"] [] [] (by decide+kernel) (piL K (pv 3)) (pg_name (i:=4) sc_drf.nd rfl (Or.inl rfl))
   (fun C s₀ H₀ ex=>pgT K (n:=2) rfl (pgs_cons (pg_name (i:=0) nd_wm rfl (Or.inl rfl) (Or.inr rfl)) (pgs_cons (pg_name (i:=1) nd_wm rfl (Or.inl rfl) (Or.inr rfl)) pgs_nil))) (fun C s₀ H₀ ex=>pts_nil) (fun C s₀ H₀ ex=>pe_tup (pa_cons (pe_op op_add_str pe_str (pv 0)) (pa_cons (pv 1) pa_nil))) (by with_unfolding_all rfl))
  (pss_cons (ps_asg (pcall h1 hr (Nat.le_refl _) rfl (pa_cons (pv 0) (pa_cons (pe_op op_cat (pv 1) (pv 4)) pa_nil))) (pgT K (n:=2) rfl (pgs_cons (pg_name (i:=5) sc_drf.nd rfl (Or.inl rfl)) (pgs_cons (pg_name (i:=6) sc_drf.nd rfl (Or.inl rfl)) pgs_nil))))
  (pss_cons (pset 7 sc_drf.nd (pe_ix (ixT K) (pcall h1 hr (Nat.le_refl _) rfl (pa_cons (pv 0) (pa_cons (pe_op op_cat (pe_op op_cat (pv 1) (pv 4)) (pe_lcM (g:=gTup K 2 (gCons (gName 0) (gCons (gName 1) gNil))) (defScope s_drf) nDf ["_law_word_here","_law_many"] [] [] (by decide+kernel) (piL K (pv 6))
   (fun C s₀ H₀ ex=>pgT K (n:=2) rfl (pgs_cons (pg_name (i:=0) nd_wm rfl (Or.inl rfl) (Or.inr rfl)) (pgs_cons (pg_name (i:=1) nd_wm rfl (Or.inl rfl) (Or.inr rfl)) pgs_nil))) (fun C s₀ H₀ ex=>pts_nil) (fun C s₀ H₀ ex=>pe_tup (pa_cons (pe_op op_add_str pe_str (pv 0)) (pa_cons (pv 1) pa_nil))))) pa_nil))) pe_int))
  (pss_one (PSx.h (ps_rf K rfl (x_dsp K rfl (N:=nDf) rfl hv 30) (x_dsp K rfl (N:=nDf) rfl hv 30) (x_dsp K rfl (N:=nDf) rfl hv 30)
   (fun _ _ _=>⟨pe_callTy (ctup K) rfl mt boot_tuple (pa_cons (pv 2) pa_nil)⟩) (fun _ _ _=>⟨pe_callTy (ctup K) rfl mt boot_tuple (pa_cons (pv 5) pa_nil)⟩) (fun _ _ _=>⟨pe_callTy (ctup K) rfl mt boot_tuple (pa_cons (pv 7) pa_nil)⟩)))))))),?_⟩
 have A0:AtOk flatL∧∀z∈hL,z∉flatL.map (·.1):=at_ok hd_nil hd_nil
 refine⟨fun _=>.int 0,[],fun _=>.nil,_,(fun x k h=>by cases h),(fun x k h=>by cases h),fl_tm,fun us H1 s1 r=>?_⟩
 rw[insts_of]at r
 have lus:=r.length
 have ok1:=ok.same s1
 refine⟨small (by rw[lus];show 5≤1000000;decide),fun lf hlf=>?_⟩
 obtain⟨H2,eH2,s2,hlf2⟩:=nw hlf (.lst us)
 rw[eH2]
 have k2:DkS H2 st lf flatL:=⟨ok1.same s2,ok1.ne_none hlf,⟨us,hlf2,r.same s2⟩,A0.1,List.mem_cons_self ..,by decide⟩
 refine⟨_,rfl,_,rfl,st,lf,flatL,rfl,k2,by decide,A0.2,fun p1 li1 lh1 iv1 hv1 h1' v1 H3 g3 hp1 hli1 rli1 hlh1 rlh1 nli1 nlh1 fd1=>?_⟩
 have k3:=k2.grow g3
 have hlf3:=g3.1 _ _ k2.ne hlf2
 refine⟨p1,_,rfl,SqT.of hp1,rfl,_,_,rfl,_,_,rfl,rfl,?_⟩
 refine⟨_,rfl,lh1,rfl,⟨_,SqL.of hlh1⟩,comp_px (pr:="X.") hlh1 rlh1 fd1.h.le (by decide+kernel) (fun p hp=>(hv_ok.2.2.1 _ (fd1.h.mem hp)).2.2) fun l4 us4 H4 s4 hl4f hl4 rl4=>?_⟩
 have k4:=k3.same s4
 have hlf4:=s4 _ _ hlf3
 obtain⟨_,B1⟩:=at_ok fd1.h hd_nil
 have A1:AtOk (flatL++pxs "X." h1')∧∀z∈hL,z∉(flatL++pxs "X." h1').map (·.1):=by
  have:=at_ok fd1.h hd_nil
  rw[show pxs "Z." []=[] from rfl,List.append_nil]at this
  exact this
 have rus4:Reps H4 us (flatL.map atT):=by
  obtain⟨avs,e,r'⟩:=k4.av
  rw[hlf4]at e
  cases e
  exact r'
 have le1:=fd1.h.le
 have lpx:(pxs "X." h1').length=h1'.length:=by unfold pxs;rw[List.length_map]
 have l5:flatL.length=5:=rfl
 have lu4:=rl4.length
 rw[List.length_map,lpx]at lu4
 have lu5:us.length=5:=by rw[lus];rfl
 refine⟨_,rfl,_,rfl,_,rfl,lf,l4,us,us4,rfl,rfl,hlf4,hl4,small (by omega),fun lc hlc=>?_⟩
 obtain⟨H5,eH5,s5,hlc5⟩:=nw hlc (.lst (us++us4))
 rw[eH5]
 have k5:DkS H5 st lc (flatL++pxs "X." h1'):=⟨k4.ok.same s5,k4.ok.ne_none hlc,⟨us++us4,hlc5,by rw[List.map_append];exact(rus4.append rl4).same s5⟩,A1.1,List.mem_append.mpr (.inl (List.mem_cons_self ..)),by rw[List.length_append];omega⟩
 refine⟨st,lc,_,rfl,k5,by rw[List.length_append];omega,A1.2,fun p2 li2 lh2 iv2 hv2 h2' v2 H6 g6 hp2 hli2 rli2 hlh2 rlh2 nli2 nlh2 fd2=>?_⟩
 refine⟨p2,_,rfl,SqT.of hp2,rfl,_,_,rfl,_,_,rfl,rfl,?_⟩
 have g46:Grow st H4 H6:=(grow_same k4.ok s5).trans g6
 have k6:=k4.grow g46
 have hlf6:=g46.1 _ _ k4.ne hlf4
 have nl4:l4≠st:=k3.ok.ne_none hl4f
 have hl46:=g46.1 _ _ nl4 hl4
 refine⟨_,rfl,_,rfl,_,rfl,lf,l4,us,us4,rfl,rfl,hlf6,hl46,small (by omega),fun l6 hl6=>?_⟩
 obtain⟨H7,eH7,s7,hl67⟩:=nw hl6 (.lst (us++us4))
 rw[eH7]
 have k7:=k6.same s7
 refine⟨_,rfl,lh2,rfl,⟨_,SqL.of (s7 _ _ hlh2)⟩,comp_px (pr:="Z.") (s7 _ _ hlh2) (rlh2.same s7) fd2.h.le (by decide+kernel) (fun p hp=>(hv_ok.2.2.1 _ (fd2.h.mem hp)).2.2) fun l8 us8 H8 s8 hl8f hl8 rl8=>?_⟩
 have k8:=k7.same s8
 have s78:=s7.trans s8
 have ru8:Reps H8 (us++us4) ((flatL++pxs "X." h1').map atT):=by
  rw[List.map_append]
  exact((rus4.append rl4).grow g46 k4.ok).same s78
 have le2:=fd2.h.le
 have lpz:(pxs "Z." h2').length=h2'.length:=by unfold pxs;rw[List.length_map]
 have lu8:=rl8.length
 rw[List.length_map,lpz]at lu8
 refine⟨l6,l8,us++us4,us8,rfl,rfl,s8 _ _ hl67,hl8,small (by rw[List.length_append];omega),fun l9 hl9=>?_⟩
 obtain⟨H9,eH9,s9,hl99⟩:=nw hl9 (.lst ((us++us4)++us8))
 rw[eH9]
 have A2:=at_ok fd1.h fd2.h
 have k9:DkS H9 st l9 (flatL++pxs "X." h1'++pxs "Z." h2'):=⟨k8.ok.same s9,k8.ok.ne_none hl9,⟨_,hl99,by rw[List.map_append];exact(ru8.append rl8).same s9⟩,A2.1,List.mem_append.mpr (.inl (List.mem_append.mpr (.inl (List.mem_cons_self ..)))),by rw[List.length_append,List.length_append];omega⟩
 refine⟨st,l9,_,rfl,k9,by rw[List.length_append,List.length_append];omega,A2.2,fun p3 li3 lh3 iv3 hv3 h3' v3 H10 g10 hp3 hli3 rli3 hlh3 rlh3 nli3 nlh3 fd3=>?_⟩
 refine⟨p3,_,0,_,rfl,rfl,SqT.of hp3,atI_nat (j:=0) rfl,?_⟩
 have g810:=(grow_same k8.ok s9).trans g10
 have g610:=(grow_same k6.ok s78).trans g810
 have g410:=g46.trans g610
 have g310:=(grow_same k3.ok s4).trans g410
 have hli1':=g310.1 _ _ nli1 hli1
 have rli1':=rli1.grow g310 k3.ok
 have hli2':=g610.1 _ _ nli2 hli2
 have rli2':=rli2.grow g610 k6.ok
 have k10:=k9.grow g10
 refine cat_f (vals:=v1) (hds:=h1') rf_tm1 rfl hli1' rli1' le1 fd1.vl fun x1 G1 t1 r1=>?_
 refine cat_f (vals:=v2) (hds:=h2') rf_tm2 rfl (t1 _ _ hli2') (rli2'.same t1) le2 fd2.vl fun x2 G2 t2 r2=>?_
 have t12:=t1.trans t2
 refine cat_f (vals:=v3) (hds:=h3') rf_tm3 rfl (t12 _ _ hli3) (rli3.same t12) fd3.h.le fd3.vl fun x3 G3 t3 r3=>?_
 have t13:=t12.trans t3
 refine⟨sml 3,fun pp hpp=>?_⟩
 have t4:=same_new hpp (.lst [x1,x2,x3])
 have k13:=k10.same t13
 have gA:Grow st H G3:=((((grow_same ok s1).trans (grow_same ok1 s2)).trans g3).trans g310).trans (grow_same k10.ok t13)
 have hN:H pp=none:=by
  cases e:H pp with
  |none=>rfl
  |some o=>
   by_cases ee:pp=st
   ·exact absurd ee (k13.ok.ne_none hpp)
   ·have:=gA.1 _ _ ee e
    rw[hpp]at this
    cases this
 refine q pp _ ⟨h1',v1,h2',v2,h3',v3⟩ _ (gA.trans (grow_same k13.ok t4)) upd_same (k13.ok.ne_none hpp) hN (.cons (((r1.same t2).same t3).same t4) (.cons ((r2.same t3).same t4) (.cons (r3.same t4) .nil))) ⟨?_,?_,?_⟩
 ·exact fd1.face A0.1 A0.2
 ·have:=fd2.face A1.1 A1.2
  show FaceD (flatL++pxs "X." h1'++pxs "Z." []++h2') _ _
  rw[show pxs "Z." []=[] from rfl,List.append_nil]
  exact this
 ·exact fd3.face A2.1 A2.2
end
structure Wt where
 n:Str
 F:Str
 us:List Str
inductive FU:Str→List Str→Prop where
 |a:FU "Fa" []
 |b {u:Str} (h:u∈PN):FU "Fb" [u]
 |c {u v:Str} (h1:u∈PN) (h2:v∈PN):FU "Fc" [u,v]
def wF (w:Wt):T:=.tup ((w.F::w.us).map T.str)
def wT (w:Wt):T:=.tup [.str w.n,wF w]
abbrev fA:List Str:=["Pa"]
abbrev fB:List Str:=["Pa","Pb"]
abbrev sA:List Str:=["Pc"]
abbrev sB:List Str:=["Pc","Pd"]
abbrev eL:List Str:=["Pe"]
abbrev fsOk (fs:List Str):Prop:=fs=fA∨fs=fB
structure WOk (W:List Wt):Prop where
 fu:∀w∈W,FU w.F w.us
 nm:∃fs ss:List Str,fsOk fs∧(ss=sA∨ss=sB)∧W.map (·.n)=fs++ss++eL
def fT (gs:List (Str×T))(hds:List (Str×Nat))(vals:List (Str×T)):T:=.tup [.tup (gs.map gvT), .tup ((itsOf hds vals).map itT)]
def fmapD (d:Dr3):List (Str×T):=[("Fa",fT [] d.h1 d.v1),("Fb",fT gsB d.h2 d.v2),("Fc",fT gsC d.h3 d.v3)]
theorem FU.get {F:Str}{us:List Str}(h:FU F us){d:Dr3}(ok:D3Ok d):∃gs at_ hds vals,(fmapD d).lookup F=some (fT gs hds vals)∧FaceD at_ hds vals∧gs.length=us.length∧gs.length≤100∧(gs.map (·.1)).Nodup∧(∀u∈us,u∈PN):=by
 cases h with
 |a=>exact⟨_,_,_,_,rfl,ok.f1,rfl,by decide,by decide,fun _ h=>nomatch h⟩
 |b h=>exact⟨_,_,_,_,rfl,ok.f2,rfl,by decide,by decide,fun u hu=>by rw[List.mem_singleton.mp hu];exact h⟩
 |c h1 h2=>exact⟨_,_,_,_,rfl,ok.f3,rfl,by decide,by decide,fun u hu=>by
   rcases List.mem_cons.mp hu with e|hu
   ·rw[e];exact h1
   ·rw[List.mem_singleton.mp hu];exact h2⟩
theorem FU.lens {F:Str}{us:List Str}(h:FU F us):(∀u∈F::us,u.length≤80)∧us.length≤100:=by
 have p:∀u∈PN,u.length≤80:=fun u hu=>by have:=(pn_of hu).1;omega
 cases h with
 |a=>exact⟨by decide+kernel,by decide⟩
 |b h=>exact⟨fun u hu=>by
   rcases List.mem_cons.mp hu with e|hu
   ·rw[e];decide+kernel
   ·rw[List.mem_singleton.mp hu];exact p _ h,by show 1≤100;decide⟩
 |c h1 h2=>exact⟨fun u hu=>by
   rcases List.mem_cons.mp hu with e|hu
   ·rw[e];decide+kernel
   ·rcases List.mem_cons.mp hu with e|hu
    ·rw[e];exact p _ h1
    ·rw[List.mem_singleton.mp hu];exact p _ h2,by show 2≤100;decide⟩
def partD (x:Wt×List T):Dc:=("part",x.1.n,toldT x.1.F x.1.us::x.2)
def gsMa:List (Str×T):=[("Y", .str "Fa")]
def gsMb:List (Str×T):=[("Z", .str "Fa"),("X", .tup [.str "Fb", .str "Z"])]
def mkrD (n:Str)(gs:List (Str×T))(zs:List Str)(b:List T):Dc:=("maker",n, .tup (gs.map gvT)::.tup (zs.map T.str)::b)
def apsD (p o:Str):List Dc:=[("apply","Qa",[.str "Ma", .str p]),("apply","Qb",[.str "Mb", .str o, .str "Qa"])]
def rowsD (W:List Wt)(bs:List (List T))(b2 b3:List T)(p o:Str):List Dc:=(W.zip bs).map partD++[mkrD "Ma" gsMa ["Fb","Y"] b2,mkrD "Mb" gsMb ["Fc","Z","X"] b3]++apsD p o
def duesD (W:List Wt)(p o:Str):List Wt:=W++[⟨"Qa","Fb",[p]⟩,⟨"Qb","Fc",[o,"Qa"]⟩]
def dueM (W:List Wt):List (Str×T):=W.map fun w=>(w.n,wF w)
def spRows:Sp:=fun vs H Q _=>∃(st fa:Addr) (d:Dr3),vs=[.ref st, .ref fa]∧StOk H st∧DictL H fa (fmapD d)∧D3Ok d∧∀(pt lr ld:Addr) (rvs:List V) (W:List Wt) (bs:List (List T)) (b2 b3:List T) (p o:Str) H',Grow st H H'→H' pt=some (.tup [.ref lr, .ref ld])→H' lr=some (.lst rvs)→Reps H' rvs ((rowsD W bs b2 b3 p o).map dcT)→
 DictL H' ld (dueM (duesD W p o))→WOk W→bs.length=W.length→p∈fB→o∈fB→lr≠st→Q (.ref pt) H'
theorem pick_go {K:PySem.W.Frag}{σ:L2.St}{H:Hp}{Q:VK}{st lf:Addr}{fs:List Str}(h4:σ[4]?=some (some (.ref lf)))(h0:σ[0]?=some (some (.ref st)))(ok:StOk H st)(hl:H lf=some (.lst (fs.map V.str)))(ne:lf≠st)(l1:1≤fs.length)(l2:fs.length≤2)
  (q:∀u H',u∈fs→Grow st H H'→Q (.str u) H'):tOp (rIxL K) (tVar 4) (tCall spNext [] E0 (tCons (tVar 0) (tCons (tCB (r_call_len_seq K) (tCons (tVar 4) tNil)) tNil))) σ H Q:=by
 refine⟨_,h4,_,h0,_,h4,lf,_,rfl, .inl (SqL.of hl),st,((fs.map V.str).length:Nat),rfl,ok,by rw[List.length_map];omega,by rw[List.length_map];omega,fun d H2 d0 d1 g2=>?_⟩
 obtain⟨v,hv,vm⟩:=at_any (xs:=fs.map V.str) d0 d1
 obtain⟨z,hz,rfl⟩:=List.mem_map.mp vm
 exact⟨lf,_,d, .str z,rfl,rfl,SqL.of (g2.1 _ _ ne hl),hv,q z H2 hz g2⟩
theorem nb_go {K:PySem.W.Frag}{σ:L2.St}{H:Hp}{Q:VK}{fa:Addr}{d:Dr3}{tk:TE}{F:Str}{us:List Str}(h1:σ[1]?=some (some (.ref fa)))(Df:DictL H fa (fmapD d))(ok:D3Ok d)(fu:FU F us)(hk:∀N:VK,N (.str F) H→tk σ H N)
  (q:∀p H' ws (body:List T),Same H H'→H' p=some (.tup ws)→Reps H' ws body→body.length≤100→Q (.ref p) H'):tCall spNb [] E0 (tCons (tOp (rIxT K) (tDGet (tVar 1) tk) (tC (.int 1))) tNil) σ H Q:=by
 obtain⟨gs,at_,hds,vals,lk,FD,_⟩:=fu.get ok
 obtain⟨v0,dg,rv0⟩:=Df.get lk
 cases rv0 with
 |@tup c ys _ hc rys=>
 cases rys with
 |@cons w0 _ wr0 _ q0 qq0=>
 cases qq0 with
 |@cons w1 _ wr1 _ q1 qq1=>
 cases qq1
 cases q1 with
 |@tup ia iys _ hia ria=>
 exact⟨_,h1,hk _ ⟨fa,_,rfl,dg,c,_,1, .ref ia,rfl,rfl,SqT.of hc,atI_nat (j:=1) rfl,ia,iys,hds,vals,rfl,hia,ria,fun p hp=>⟨(FD.A.w _ (FD.sub _ hp)).2.1,FD.lh p hp⟩,FD.lv,FD.hl,FD.vl,q⟩⟩
theorem comp_w1 {K:PySem.W.Frag}{H:Hp}{lf:Addr}{fs:List Str}{σ':L2.St}{Q:VK}(hl:H lf=some (.lst (fs.map V.str)))(l2:fs.length≤2)(lw:∀z∈fs,z.length≤10)
  (hd:∀l us H',Same H H'→H l=none→H' l=some (.lst us)→Reps H' us (fs.map fun z=>wT ⟨z,"Fa",[]⟩)→Q (.ref l) H'):CompW (Itl K lf) tTrue (tTup (tCons (tVar 0) (tCons (tTup (tCons (tC (.str "Fa")) tNil)) tNil))) σ' Q H:=by
 refine comp_lst (xs:=fs.map V.str) (fun j ws H'=>Same H H'∧Reps H' ws ((fs.take j).map fun z=>wT ⟨z,"Fa",[]⟩)) ⟨Same.refl _, .nil⟩ ?_ ?_ ?_
 ·rintro j ws H' hj ⟨s5,r5⟩
  exact⟨SqL.of (s5 _ _ hl),small' (by rw[r5.length,List.length_map,List.length_take];omega)⟩
 ·rintro j x ws H' hj hx ⟨s5,r5⟩
  rw[List.getElem?_map]at hx
  cases hg:fs[j]? with
  |none=>rw[hg]at hx;cases hx
  |some z=>
  rw[hg]at hx
  cases hx
  have zl:=lw z (List.mem_of_getElem? hg)
  refine tt1 (iteT ⟨_,rfl,sml 1,fun p hp=>⟨sml 2,fun p2 hp2=>?_⟩⟩)
  have s6:=same_new hp (.tup [V.str "Fa"])
  have s7:=same_new hp2 (.tup [.str z, .ref p])
  refine nx hj ⟨(s5.trans s6).trans s7,?_⟩
  rw[take_next hg,List.map_append]
  exact(r5.same (s6.trans s7)).append (.cons (.tup upd_same (.cons (.str _ (by omega)) (.cons (.tup (s7 _ _ upd_same) (.cons (.str _ (by decide+kernel)) .nil)) .nil))) .nil)
 ·rintro ws H' ⟨s5,r5⟩ l hl0
  rw[List.take_of_length_le (by rw[List.length_map];exact Nat.le_refl _)]at r5
  have s6:=same_new hl0 (.lst ws)
  exact hd l ws _ (s5.trans s6) (s5.free hl0) upd_same (r5.same s6)
theorem fs_facts {fs:List Str}(h:fsOk fs):1≤fs.length∧fs.length≤2∧(∀z∈fs,z.length≤10)∧∀z∈fs,z∈fB∧z∈PN:=by
 rcases h with rfl|rfl<;>exact⟨by decide,by decide,by decide+kernel,by decide+kernel⟩
theorem cat_go {K:PySem.W.Frag}{H:Hp}{Q:VK}{p p3:Addr}{vs ws:List V}{ts us:List T}(h1:H p=some (.tup vs))(r1:Reps H vs ts)(n1:ts≠[])(h2:H p3=some (.tup ws))(r2:Reps H ws us)(l:ts.length+us.length≤1000)
  (q:∀p4 H',Same H H'→Rep H' (.ref p4) (.tup (ts++us))→Q (.ref p4) H'):rCatT K (.ref p) (.ref p3) H Q:=by
 have l1:=r1.length
 have l2:=r2.length
 refine⟨p,p3,vs,ws,rfl,rfl,SqT.of h1,SqT.of h2,fun e=>n1 (by rw[e]at l1;exact List.length_eq_zero_iff.mp l1.symm),small (by omega),fun e=>?_,fun _ p2 hp2=>?_⟩
 ·have:us=[]:=by rw[e]at l2;exact List.length_eq_zero_iff.mp l2.symm
  subst this
  refine q _ _ (Same.refl _) ?_
  rw[List.append_nil]
  exact .tup h1 r1
 ·have s3:=same_new hp2 (.tup (vs++ws))
  exact q _ _ s3 (.tup upd_same ((r1.append r2).same s3))
theorem due_new {H:Hp}{kvs:List (Key×V)}{W:List Wt}{n:Str}(dr:DReps H kvs (dueM W))(h:n∉W.map (·.n))(v:V):putK kvs (Sum.inr n) v=kvs++[(Sum.inr n,v)]:=by
 refine putK_new _ ?_
 rcases dr.get n with ⟨h',_⟩|⟨v',t'',_,h',_⟩
 ·exact h'
 ·exfalso
  have:=List.mem_map_of_mem (f:=(·.1)) (mem_of_lookup' h')
  unfold dueM at this
  rw[List.map_map]at this
  exact h this
theorem wn_nd {W:List Wt}(h:WOk W):(W.map (·.n)).Nodup∧("Qa":Str)∉W.map (·.n)∧("Qb":Str)∉W.map (·.n)∧∀z∈W.map (·.n),z∈PN:=by
 obtain⟨fs,ss,h1,h2,h3⟩:=h.nm
 rw[h3]
 rcases h1 with rfl|rfl<;>rcases h2 with rfl|rfl<;>decide+kernel
theorem np_one {a x:Str}{n k:Nat}(h:([(a,n)]:Np).lookup x=some k):x=a∧k=n:=by
 have:=mem_of_lookup' h
 cases List.mem_singleton.mp this
 exact⟨rfl,rfl⟩
theorem np_two {a b x:Str}{n m k:Nat}(h:([(a,n),(b,m)]:Np).lookup x=some k):(x=a∧k=n)∨(x=b∧k=m):=by
 rcases List.mem_cons.mp (mem_of_lookup' h) with e|e
 ·cases e;exact .inl ⟨rfl,rfl⟩
 ·cases List.mem_singleton.mp e;exact .inr ⟨rfl,rfl⟩
theorem qb_ne:("Qb":Str)≠"Qa":=by decide+kernel
theorem qb_qa {F:Str}{us:List Str}(h:("Qb":Str)∈([⟨"Qa",F,us⟩]:List Wt).map (·.n)):False:=qb_ne (List.mem_singleton.mp h)
theorem cut_one (a b:V):cutV [a,b] none (some 1)=[a]:=by simp[cutV,HT.sIx]
theorem cut_two (a b:V):cutV [a,b] none (some 2)=[a,b]:=by simp[cutV,HT.sIx]
section
variable {P:Program}{w:World}{K:PySem.W.Frag}{mg:Str→Option Value}{base:Heap}{f:Addr}{fd:FuncData}
abbrev s_rws:Stmt:=top 46
abbrev nRw:List Str:=["_law_state_here","_law_faces","_law_due","_law_rows_here","_law_firsts","_law_wanted","_law_name","_law_form","_law_givers","_law_part","_law_other"]
theorem sc_rws:FnScope nRw ["_law_state_here","_law_faces"] (defScope s_rws):=⟨rfl,rfl,rfl,by decide+kernel,rfl,by decide+kernel,by decide+kernel⟩
theorem vis_rws:visB (defScope s_rws) nRw=true:=by decide+kernel
abbrev rwS (k:Nat):Stmt:=(defBody s_rws).getD k zS
@[irreducible] def mkD (k:Nat):Expr:=match rwS k with
 |.Expr (.Call _ [.BinOp d _ _ _] _ _) _=>d
 |_=>zE
def mkS (k:Nat)(d:Expr):Stmt:=match rwS k with
 |.Expr (.Call a [.BinOp _ o c p] e g) h=>.Expr (.Call a [.BinOp d o c p] e g) h
 |_=>zS
@[irreducible] def gvD:Expr:=match rwS 8 with
 |.Assign _ d _=>d
 |_=>zE
def gvS (d:Expr):Stmt:=match rwS 8 with
 |.Assign a (.Tuple _ _ _) c=>.Assign a d c
 |_=>zS
@[irreducible] def apEs:List Expr:=match rwS 12 with
 |.Assign _ (.BinOp _ _ (.List es _) _) _=>es
 |_=>[]
def apS (es:List Expr):Stmt:=match rwS 12 with
 |.Assign a (.BinOp b o (.List _ p) q) c=>.Assign a (.BinOp b o (.List es p) q) c
 |_=>zS
def rA:List Stmt:=(defBody s_rws).take 7
def rB:List Stmt:=((defBody s_rws).drop 10).take 2
def rC:List Stmt:=(defBody s_rws).drop 13
theorem body_rws:defBody s_rws=rA++(mkS 7 (mkD 7)::gvS gvD::mkS 9 (mkD 9)::(rB++apS apEs::rC)):=by unfold mkD gvD apEs;kernel_rfl
theorem gv_tm:tmE [] (fun _=>.nil) 30 gvD=some (ofT (.tup [.tup [.str "Z", .str "Fa"], .tup [.str "X", .tup [.str "Fb", .str "Z"]]])):=by unfold gvD;kernel_rfl
theorem mk_tm7:tmE [] (fun _=>.nil) 30 (mkD 7)=some (ofT (.tup [.str "maker", .str "Ma", .tup [.tup [.str "Y", .str "Fa"]], .tup [.str "Fb", .str "Y"]])):=by unfold mkD;kernel_rfl
abbrev npG:Np:=[("_law_givers",8)]
theorem mk_tm9:tmE npG (fun k=>.v k) 30 (mkD 9)=some (.cons (.s "maker") (.cons (.s "Mb") (.cons (.v 8) (.cons (ofT (.tup [.str "Fc", .str "Z", .str "X"])) .nil)))):=by unfold mkD;kernel_rfl
abbrev npA:Np:=[("_law_part",9),("_law_other",10)]
theorem ap_tm:tmEs npA (fun k=>.v k) 30 apEs=some (.cons (.cons (.s "apply") (.cons (.s "Qa") (.cons (.s "Ma") (.cons (.v 9) .nil)))) (.cons (.cons (.s "apply") (.cons (.s "Qb") (.cons (.s "Mb") (.cons (.v 10) (.cons (.s "Qa") .nil))))) .nil)):=by unfold apEs;kernel_rfl
theorem ps_gvS {X:Cx}{d:Expr}{te:TE}(hN:X.N.Nodup)(hi:X.N[8]?=some ("_law_givers":Str))(hx:Loc X.env.scope ("_law_givers":Str))(hf:X.env.scope.names.lookup ("_law_givers":Str)=some NameKind.local)(h:PEx X d te)(hs:∀p l,swapsWith d (some (.Name ("_law_givers":Str) p)) l X.env=pure false):PSx X (gvS d) (tAsg te (gName 8)):=x_set (i:=8) (pos':=_) hN hi hx h (hs _ _) (.inr hf)
theorem gv_sw {x:Str}{p:Pos}{l}{env:Env}:swapsWith gvD (some (.Name x p)) l env=pure false:=by unfold gvD;rfl
def mkC (k:Nat):Expr:=match rwS k with
 |.Expr (.Call _ [.BinOp _ _ c _] _ _) _=>c
 |_=>zE
theorem ps_mk7 {X:Cx}(K:PySem.W.Frag){d:Expr}{te tc:TE}(hK:X.K=K)(hN:X.N[3]?=some ("_law_rows_here":Str))(hv:Vis X.env.scope ("_law_rows_here":Str))(h:PEx X d te)(c:PEx X (mkC 7) tc)
  (hbase:∀p,attributeBase (.Name ("_law_rows_here":Str) p) "append" X.env (eval (.Name ("_law_rows_here":Str) p) X.env)=eval (.Name ("_law_rows_here":Str) p) X.env):PSx X (mkS 7 d) (tDrop (tBM K "list" rAppend (tVar 3) (tCons (tOp (rCatT K) te tc) tNil))):=by
 refine⟨ps_expr (papp K (pv 3 hN hv) (pa_cons (x_op (catT K hK) h c).h pa_nil) (hbase:=hbase _) (h:=hK))⟩
theorem ps_mk9 {X:Cx}(K:PySem.W.Frag){d:Expr}{te tc:TE}(hK:X.K=K)(hN:X.N[3]?=some ("_law_rows_here":Str))(hv:Vis X.env.scope ("_law_rows_here":Str))(h:PEx X d te)(c:PEx X (mkC 9) tc)
  (hbase:∀p,attributeBase (.Name ("_law_rows_here":Str) p) "append" X.env (eval (.Name ("_law_rows_here":Str) p) X.env)=eval (.Name ("_law_rows_here":Str) p) X.env):PSx X (mkS 9 d) (tDrop (tBM K "list" rAppend (tVar 3) (tCons (tOp (rCatT K) te tc) tNil))):=by
 refine⟨ps_expr (papp K (pv 3 hN hv) (pa_cons (x_op (catT K hK) h c).h pa_nil) (hbase:=hbase _) (h:=hK))⟩
theorem ps_apS {X:Cx}{es:List Expr}{ta:TA}(hN:X.N.Nodup)(hi:X.N[3]?=some ("_law_rows_here":Str))(hv:Vis X.env.scope ("_law_rows_here":Str))(hx:Loc X.env.scope ("_law_rows_here":Str))(hf:X.env.scope.names.lookup ("_law_rows_here":Str)=some NameKind.local)(h:PAx X es ta):PSx X (apS es) (tAsg (tOp rCat (tVar 3) (tLst ta)) (gName 3)):=x_set (i:=3) (pos':=_) hN hi hx (x_op op_cat ⟨pv 3 hi hv⟩ (x_lst h)) rfl (.inr hf)
set_option maxHeartbeats 4000000 in
theorem ok_rws (F:Fun K "_law_rows" "_law_rows" s_rws f fd)(ml:mg "len"=none)(h1:Has P w K mg base 1 "_law_next" ["_law_state_here","_law_many"] spNext)(h2:Has P w K mg base 1 "_law_told" ["_law_form"] spTold)(h3:Has P w K mg base 1 "_law_number_body" ["_law_items_here"] spNb):FnOk P w K mg base CX0 2 f fd ["_law_state_here","_law_faces"] spRows:=by
 refine F.ok sc_rws (len:=fun vs H Q E h=>(by obtain⟨st,fa,d,rfl,_⟩:=h;rfl)) (fun cdv A outer s H vs Q E hr h=>?_)
 obtain⟨st,fa,d,rfl,ok,Df,D3,q⟩:=h
 have hu:=hu_of hr
 have hv:∀x∈nRw,Vis (defScope s_rws) x:=vis_dec vis_rws
 rw[body_rws]
 refine⟨_,pss_cons (pset 2 sc_rws.nd pe_dnewK)
  (pss_cons (pset 3 sc_rws.nd (pe_lst pa_nil))
  (pss_cons (pset 4 sc_rws.nd (pe_slice sl_list (pe_lst (pa_cons pe_str (pa_cons pe_str pa_nil))) po_none (po_some (pe_op op_add pe_int (pcall h1 hr (Nat.le_refl _) rfl (pa_cons (pv 0) (pa_cons pe_int pa_nil)))))))
  (pss_cons (ps_lc (defScope s_rws) nRw [] [] (by decide+kernel) (piL K (pv 4)) (pg_name (i:=5) sc_rws.nd rfl (Or.inl rfl)) (fun C s₀ H₀ ex=>pts_nil) (fun C s₀ H₀ ex=>pe_tup (pa_cons (pv 0) (pa_cons (pe_tup (pa_cons pe_str pa_nil)) pa_nil))) (by with_unfolding_all rfl))
  (pss_cons (ps_for PassesOwn.never rfl (piL K (pe_slice sl_list (pe_lst (pa_cons pe_str (pa_cons pe_str pa_nil))) po_none (po_some (pe_op op_add pe_int (pcall h1 hr (Nat.le_refl _) rfl (pa_cons (pv 0) (pa_cons pe_int pa_nil))))))) (pg_name (i:=6) sc_rws.nd rfl (Or.inl rfl))
   (pss_one (ps_expr (papp K (pv 5) (pa_cons (pe_tup (pa_cons (pv 6) (pa_cons (pe_tup (pa_cons pe_str (pa_cons (pe_ix (ixL K) (pv 4) (pcall h1 hr (Nat.le_refl _) rfl (pa_cons (pv 0) (pa_cons (pe_callB (clen K) rfl ml PySem.boot_len (pa_cons (pv 4) pa_nil)) pa_nil)))) pa_nil))) pa_nil))) pa_nil)))))
  (pss_cons (ps_expr (papp K (pv 5) (pa_cons (pe_tup (pa_cons pe_str (pa_cons (pe_tup (pa_cons pe_str (pa_cons (pe_ix (ixL K) (pv 4) (pcall h1 hr (Nat.le_refl _) rfl (pa_cons (pv 0) (pa_cons (pe_callB (clen K) rfl ml PySem.boot_len (pa_cons (pv 4) pa_nil)) pa_nil)))) (pa_cons pe_str pa_nil)))) pa_nil))) pa_nil)))
  (pss_cons (ps_for PassesOwn.never rfl (piL K (pv 5)) (pgT K (n:=2) rfl (pgs_cons (pg_name (i:=6) sc_rws.nd rfl (Or.inl rfl)) (pgs_cons (pg_name (i:=7) sc_rws.nd rfl (Or.inl rfl)) pgs_nil)))
   (pss_cons (ps_expr (papp K (pv 3) (pa_cons (pe_op (catT K) (pe_tup (pa_cons pe_str (pa_cons (pv 6) (pa_cons (pcall h2 hr (Nat.le_refl _) rfl (pa_cons (pv 7) pa_nil)) pa_nil)))) (pcall h3 hr (Nat.le_refl _) rfl (pa_cons (pe_ix (ixT K) (pe_dget hu (pv 1) (pe_ix (ixT K) (pv 7) pe_int) (fun _ _=>rfl)) pe_int) pa_nil))) pa_nil)))
   (pss_one (ps_dput hu (pv 2) (pv 6) (pv 7) rfl))))
  (pss_cons (PSx.h (ps_mk7 K rfl rfl (Or.inl rfl) (x_dsp K rfl (N:=nRw) rfl hv 30) ⟨pcall h3 hr (Nat.le_refl _) rfl (pa_cons (pe_ix (ixT K) (pe_dget hu (pv 1) pe_str (fun _ _=>rfl)) pe_int) pa_nil)⟩ (fun _=>rfl)))
  (pss_cons (PSx.h (ps_gvS sc_rws.nd rfl (Or.inl rfl) rfl (x_dsp K rfl (N:=nRw) rfl hv 30) (fun _ _=>gv_sw)))
  (pss_cons (PSx.h (ps_mk9 K rfl rfl (Or.inl rfl) (x_dsp K rfl (N:=nRw) rfl hv 30) ⟨pcall h3 hr (Nat.le_refl _) rfl (pa_cons (pe_ix (ixT K) (pe_dget hu (pv 1) pe_str (fun _ _=>rfl)) pe_int) pa_nil)⟩ (fun _=>rfl)))
  (pss_cons (pset 9 sc_rws.nd (pe_ix (ixL K) (pv 4) (pcall h1 hr (Nat.le_refl _) rfl (pa_cons (pv 0) (pa_cons (pe_callB (clen K) rfl ml PySem.boot_len (pa_cons (pv 4) pa_nil)) pa_nil)))))
  (pss_cons (pset 10 sc_rws.nd (pe_ix (ixL K) (pv 4) (pcall h1 hr (Nat.le_refl _) rfl (pa_cons (pv 0) (pa_cons (pe_callB (clen K) rfl ml PySem.boot_len (pa_cons (pv 4) pa_nil)) pa_nil)))))
  (pss_cons (PSx.h (ps_apS sc_rws.nd rfl (Or.inl rfl) (Or.inl rfl) rfl (x_dsps K rfl (N:=nRw) rfl hv 30)))
  (pss_cons (ps_dput hu (pv 2) pe_str (pe_tup (pa_cons pe_str (pa_cons (pv 9) pa_nil))) rfl)
  (pss_cons (ps_dput hu (pv 2) pe_str (pe_tup (pa_cons pe_str (pa_cons (pv 10) (pa_cons pe_str pa_nil)))) rfl)
  (pss_one (ps_ret (pe_tup (pa_cons (pv 3) (pa_cons (pv 2) pa_nil))))))))))))))))))),?_⟩
 refine fun ld hld=>?_
 obtain⟨H1,eH1,s1,hld1⟩:=nw hld (.dK [])
 rw[eH1]
 refine⟨sml 0,fun lr hlr=>?_⟩
 obtain⟨H2,eH2,s2,hlr2⟩:=nw hlr (.lst [])
 rw[eH2]
 refine⟨sml 2,fun l0 hl0=>?_⟩
 obtain⟨H3,eH3,s3,hl03⟩:=nw hl0 (.lst [V.str "Pa",V.str "Pb"])
 rw[eH3]
 have s13:=(s1.trans s2).trans s3
 have ok3:=ok.same s13
 refine⟨_,rfl,st,2,rfl,ok3,by decide,by decide,fun d1 H4 d10 d11 g4=>⟨_,_,rfl,rfl,1+d1,rfl,l0,_,rfl,SqL.of (g4.1 _ _ ((ok.same (s1.trans s2)).ne_none hl0) hl03),fun lf hlf=>?_⟩⟩
 obtain⟨fs,efs,fok⟩:∃fs:List Str,cutV [V.str "Pa",V.str "Pb"] none (some (1+d1))=fs.map V.str∧fsOk fs:=by
  rcases(show d1=0∨d1=1 by omega) with rfl|rfl
  ·exact⟨["Pa"],cut_one _ _, .inl rfl⟩
  ·exact⟨["Pa","Pb"],cut_two _ _, .inr rfl⟩
 obtain⟨fl1,fl2,fl3,fl4⟩:=fs_facts fok
 rw[efs]
 obtain⟨H5,eH5,s5,hlf5⟩:=nw hlf (.lst (fs.map V.str))
 rw[eH5]
 have ok4:=g4.ok
 have ok5:=ok4.same s5
 have nlf:lf≠st:=ok4.ne_none hlf
 refine⟨_,rfl,lf,rfl,⟨_,SqL.of hlf5⟩,comp_w1 hlf5 fl2 fl3 fun lw us6 H6 s6 hlw0 hlw6 r6=>?_⟩
 have ok6:=ok5.same s6
 have nlw:lw≠st:=ok5.ne_none hlw0
 have hlf6:=s6 _ _ hlf5
 have nlfw:lf≠lw:=ne_of_none hlf5 hlw0
 refine⟨sml 2,fun l1 hl1=>?_⟩
 obtain⟨H7,eH7,s7,hl17⟩:=nw hl1 (.lst [V.str "Pc",V.str "Pd"])
 rw[eH7]
 refine⟨_,rfl,st,2,rfl,ok6.same s7,by decide,by decide,fun d2 H8 d20 d21 g8=>⟨_,_,rfl,rfl,1+d2,rfl,l1,_,rfl,SqL.of (g8.1 _ _ (ok6.ne_none hl1) hl17),fun ls hls=>?_⟩⟩
 obtain⟨ss,ess,sok⟩:∃ss:List Str,cutV [V.str "Pc",V.str "Pd"] none (some (1+d2))=ss.map V.str∧(ss=sA∨ss=sB):=by
  rcases(show d2=0∨d2=1 by omega) with rfl|rfl
  ·exact⟨sA,cut_one _ _, .inl rfl⟩
  ·exact⟨sB,cut_two _ _, .inr rfl⟩
 rw[ess]
 obtain⟨H9,eH9,s9,hls9⟩:=nw hls (.lst (ss.map V.str))
 rw[eH9]
 have g69:Grow st H6 H9:=((grow_same ok6 s7).trans g8).trans (grow_same g8.ok s9)
 have nls:ls≠st:=g8.ok.ne_none hls
 have hlw9:=g69.1 _ _ nlw hlw6
 have nlsw:ls≠lw:=Ne.symm (ne_of_none (g8.1 _ _ nlw (s7 _ _ hlw6)) hls)
 have hlf9:=g69.1 _ _ nlf hlf6
 have lss:ss.length≤2∧∀z∈ss,z.length≤10:=by rcases sok with rfl|rfl<;>exact⟨by decide,by decide+kernel⟩
 have lus6:=r6.length
 rw[List.length_map]at lus6
 refine⟨ls,rfl,⟨_,SqL.of hls9⟩,for_list (xs:=ss.map V.str) (fun i σ H'=>∃(o6:Option V) (wvs:List V) (W:List Wt),σ=[some (.ref st),some (.ref fa),some (.ref ld),some (.ref lr),some (.ref lf),some (.ref lw),o6,none,none,none,none]∧StOk H' st∧(∀c o,c≠st→c≠lw→H9 c=some o→H' c=some o)∧H' lw=some (.lst wvs)∧
   Reps H' wvs (W.map wT)∧(∀w∈W,FU w.F w.us)∧W.map (·.n)=fs++ss.take i)
  ⟨none,us6,fs.map fun z=>⟨z,"Fa",[]⟩,rfl,g69.ok,fun _ _ _ _ h=>h,hlw9,by rw[List.map_map];exact r6.grow g69 ok6,fun w hw=>(by obtain⟨z,_,rfl⟩:=List.mem_map.mp hw;exact .a),by simp[Function.comp_def]⟩ ?_ ?_ ?_⟩
 ·rintro i σ H' hi ⟨o6,wvs,W,rfl,okx,g,_⟩
  exact SqL.of (g _ _ nls nlsw hls9)
 ·rintro i x σ H' hx ⟨o6,wvs,W,rfl,okx,g,hlw',rw',fu,nm⟩
  rw[List.getElem?_map]at hx
  cases hg:ss[i]? with
  |none=>rw[hg]at hx;cases hx
  |some z=>
  rw[hg]at hx
  cases hx
  have zl:=lss.2 z (List.mem_of_getElem? hg)
  have hlf':=g _ _ nlf nlfw hlf9
  have lW:W.length≤4:=by
   have:=congrArg List.length nm
   rw[List.length_map,List.length_append,List.length_take]at this
   omega
  have lwv:=rw'.length
  rw[List.length_map]at lwv
  refine⟨_,rfl, .inl ⟨rfl,_,SqL.of hlw'⟩,_,rfl,?_⟩
  refine pick_go rfl rfl okx hlf' nlf fl1 fl2 fun u H1' hu' gp=>⟨sml 2,fun p hp=>⟨sml 2,fun p2 hp2=>?_⟩⟩
  have okp:=gp.ok
  have t1:=same_new hp (.tup [V.str "Fb", .str u])
  have t2:=same_new hp2 (.tup [.str z, .ref p])
  have t12:=t1.trans t2
  have hlw2:=t12 _ _ (gp.1 _ _ nlw hlw')
  refine⟨lw,wvs,_,rfl,rfl,hlw2,small' (by omega),?_⟩
  have ul:u.length≤10:=fl3 u hu'
  have tu:∀b xs,(upd (upd H1' p (.tup [V.str "Fb", .str u])) p2 (.tup [.str z, .ref p])) b=some (.tup xs)→(upd (upd (upd H1' p (.tup [V.str "Fb", .str u])) p2 (.tup [.str z, .ref p])) lw (.lst (wvs++[.ref p2]))) b=some (.tup xs):=fun b xs e=>by rw[upd_ne (ne_of e hlw2 (by intro z;cases z))];exact e
  obtain⟨a1,a2,a3⟩:=okp.same t12
  refine⟨_,_,W++[⟨z,"Fb",[u]⟩],rfl,⟨a1,a2,by rw[upd_ne (Ne.symm nlw)];exact a3⟩,fun c o n1 n2 e=>by rw[upd_ne n2];exact t12 _ _ (gp.1 _ _ n1 (g c o n1 n2 e)),upd_same,?_,fun w hw=>?_,?_⟩
  ·rw[List.map_append]
   exact(((rw'.grow gp okx).same t12).mono tu).append (.cons (.tup (tu _ _ upd_same) (.cons (.str _ (by omega)) (.cons (.tup (tu _ _ (t2 _ _ upd_same)) (.cons (.str _ (by decide+kernel)) (.cons (.str _ (by omega)) .nil))) .nil))) .nil)
  ·rcases List.mem_append.mp hw with h|h
   ·exact fu w h
   ·rw[List.mem_singleton.mp h];exact .b (fl4 u hu').2
  ·rw[List.map_append,nm,take_next hg,List.append_assoc]
   rfl
 rintro σ Ha ⟨o6,wvs,W,rfl,oka,ga,hlwa,rwa',fu,nm⟩
 rw[List.take_of_length_le (by rw[List.length_map];exact Nat.le_refl _)]at nm
 have hlfa:=ga _ _ nlf nlfw hlf9
 have lW:W.length≤4:=by
  have:=congrArg List.length nm
  rw[List.length_map,List.length_append]at this
  omega
 have lwv:=rwa'.length
 rw[List.length_map]at lwv
 refine⟨_,rfl, .inl ⟨rfl,_,SqL.of hlwa⟩,?_⟩
 refine pick_go rfl rfl oka hlfa nlf fl1 fl2 fun u Hb hub gp=>⟨sml 3,fun p hp=>⟨sml 2,fun p2 hp2=>?_⟩⟩
 have t1:=same_new hp (.tup [V.str "Fc", .str u,V.str "Pc"])
 have t2:=same_new hp2 (.tup [V.str "Pe", .ref p])
 have t12:=t1.trans t2
 have hlw2:=t12 _ _ (gp.1 _ _ nlw hlwa)
 have ul:u.length≤10:=fl3 u hub
 obtain⟨W2,eW2⟩:∃W2,W++[⟨"Pe","Fc",[u,"Pc"]⟩]=W2:=⟨_,rfl⟩
 have wok:WOk W2:=⟨fun w hw=>by
   rw[←eW2]at hw
   rcases List.mem_append.mp hw with h|h
   ·exact fu w h
   ·rw[List.mem_singleton.mp h];exact .c (fl4 u hub).2 (by decide+kernel),fs,ss,fok,sok,by rw[←eW2,List.map_append,nm];rfl⟩
 have lW2:W2.length≤5:=by rw[←eW2,List.length_append];show W.length+1≤5;omega
 obtain⟨Hc,eHc,okc,gc,hlwc,rwc⟩:∃Hc,upd (upd (upd Hb p (.tup [V.str "Fc", .str u,V.str "Pc"])) p2 (.tup [V.str "Pe", .ref p])) lw (.lst (wvs++[.ref p2]))=Hc∧StOk Hc st∧(∀c o,c≠st→c≠lw→H9 c=some o→Hc c=some o)∧Hc lw=some (.lst (wvs++[.ref p2]))∧Reps Hc (wvs++[.ref p2]) (W2.map wT):=by
  have tu:∀b xs,(upd (upd Hb p (.tup [V.str "Fc", .str u,V.str "Pc"])) p2 (.tup [V.str "Pe", .ref p])) b=some (.tup xs)→(upd (upd (upd Hb p (.tup [V.str "Fc", .str u,V.str "Pc"])) p2 (.tup [V.str "Pe", .ref p])) lw (.lst (wvs++[.ref p2]))) b=some (.tup xs):=fun b xs e=>by rw[upd_ne (ne_of e hlw2 (by intro z;cases z))];exact e
  obtain⟨a1,a2,a3⟩:=gp.ok.same t12
  refine⟨_,rfl,⟨a1,a2,by rw[upd_ne (Ne.symm nlw)];exact a3⟩,fun c o n1 n2 e=>by rw[upd_ne n2];exact t12 _ _ (gp.1 _ _ n1 (ga c o n1 n2 e)),upd_same,?_⟩
  rw[←eW2,List.map_append]
  exact(((rwa'.grow gp oka).same t12).mono tu).append (.cons (.tup (tu _ _ upd_same) (.cons (.str _ (by decide+kernel)) (.cons (.tup (tu _ _ (t2 _ _ upd_same)) (.cons (.str _ (by decide+kernel)) (.cons (.str _ (by omega)) (.cons (.str _ (by decide+kernel)) .nil)))) .nil))) .nil)
 refine⟨lw,wvs,_,rfl,rfl,hlw2,small' (by omega),?_⟩
 rw[eHc]
 have gH3:∀c o,c≠st→H3 c=some o→Hc c=some o:=fun c o n e=>by
  have e6:=s6 _ _ (s5 _ _ (g4.1 _ _ n e))
  refine gc c o n (fun z=>?_) (g69.1 _ _ n e6)
  rw[z]at e
  have:=s5 _ _ (g4.1 _ _ (z ▸ n) e)
  rw[hlw0]at this
  cases this
 have nld:ld≠st:=ok.ne_none hld
 have nlr:lr≠st:=(ok.same s1).ne_none hlr
 have nrd:lr≠ld:=fun e=>by rw[e,hld1]at hlr;cases hlr
 have hldc:=gH3 _ _ nld (s3 _ _ (s2 _ _ hld1))
 have hlrc:=gH3 _ _ nlr (s3 _ _ hlr2)
 have nwd:lw≠ld:=ne_of hlwc hldc (by intro z;cases z)
 have gHc:∀c o,c≠st→H c=some o→Hc c=some o:=fun c o n e=>gH3 c o n (s13 _ _ e)
 have Dfc:DictL Hc fa (fmapD d):=by
  obtain⟨k,hk,dr⟩:=Df
  exact⟨k,gHc _ _ (fun e=>by obtain⟨_,_,h⟩:=ok;rw[e,h]at hk;cases hk) hk,dr.mono fun b xs e=>gHc _ _ (ok.ne_tup e) e⟩
 have nd2:=wn_nd wok
 have nwr:lw≠lr:=fun e=>by
  have:=s5 _ _ (g4.1 _ _ nlr (s3 _ _ hlr2))
  rw[←e,hlw0]at this
  cases this
 have nfr:fa≠lr∧fa≠ld:=by
  obtain⟨k,hk,_⟩:=Df
  exact⟨ne_of_none (s1 _ _ hk) hlr,ne_of_none hk hld⟩
 have lw2:=rwc.length
 rw[List.length_map]at lw2
 refine⟨_,rfl,lw,rfl,⟨_,SqL.of hlwc⟩,for_list (xs:=wvs++[.ref p2]) (fun i σ H'=>∃(o6 o7:Option V) (rvs:List V) (kvs:List (Key×V)) (bs:List (List T)),σ=[some (.ref st),some (.ref fa),some (.ref ld),some (.ref lr),some (.ref lf),some (.ref lw),o6,o7,none,none,none]∧
   (∀c o,c≠lr→c≠ld→Hc c=some o→H' c=some o)∧H' lr=some (.lst rvs)∧Reps H' rvs (((W2.take i).zip bs).map fun x=>dcT (partD x))∧bs.length=i∧H' ld=some (.dK kvs)∧DReps H' kvs (dueM (W2.take i)))
  ⟨_,_,[],[],[],rfl,fun _ _ _ _ h=>h,hlrc, .nil,rfl,hldc, .nil⟩ ?_ ?_ ?_⟩
 ·rintro i σ H' hi ⟨o6,o7,rvs,kvs,bs,rfl,g,_⟩
  exact SqL.of (g _ _ nwr nwd hlwc)
 ·rintro i x σ H' hx ⟨o6,o7,rvs,kvs,bs,rfl,g,hlr',rr,lb,hld',dr⟩
  obtain⟨t,ht,rt⟩:=rwc.at3 hx
  rw[List.getElem?_map]at ht
  cases hg:W2[i]? with
  |none=>rw[hg]at ht;cases ht
  |some w1=>
  rw[hg]at ht
  cases ht
  have fu1:=wok.fu w1 (List.mem_of_getElem? hg)
  have iW:i<W2.length:=(List.getElem?_eq_some_iff.mp hg).1
  have tuc:∀b xs,Hc b=some (.tup xs)→H' b=some (.tup xs):=fun b xs e=>g b _ (ne_of e hlrc (by intro z;cases z)) (ne_of e hldc (by intro z;cases z)) e
  have rt':=rt.mono tuc
  have n1P:w1.n∈PN:=nd2.2.2.2 _ (List.mem_map_of_mem (f:=(·.n)) (List.mem_of_getElem? hg))
  have n1l:=(pn_of n1P).1
  have lrr:=rr.length
  rw[List.length_map,List.length_zip,List.length_take]at lrr
  have ldr:=dr.length
  unfold dueM at ldr
  rw[List.length_map,List.length_take]at ldr
  cases rt' with
  |@tup a ys _ ha rys=>
  cases rys with
  |@cons x0 _ xr0 _ y0 yy0=>
  cases yy0 with
  |@cons x1 _ xr1 _ y1 yy1=>
  cases yy1
  cases y0
  cases y1 with
  |@tup fo fys _ hfo rfo=>
  have efy:fys=(w1.F::w1.us).map V.str:=Reps.texts rfo
  subst efy
  have D':DictL H' fa (fmapD d):=by
   obtain⟨k,hk,dr⟩:=Dfc
   exact⟨k,g _ _ nfr.1 nfr.2 hk,dr.mono tuc⟩
  refine⟨a,_,rfl,SqT.of ha,rfl,_,_,rfl,_,_,rfl,rfl,?_⟩
  refine⟨_,rfl, .inl ⟨rfl,_,SqL.of hlr'⟩,?_⟩
  refine⟨_,rfl,_,rfl,fo,w1.F,w1.us,rfl,hfo,fu1.lens.1,fu1.lens.2,fun v rv=>⟨sml 3,fun p hp=>?_⟩⟩
  have t1:=same_new hp (.tup [V.str "part", .str w1.n,v])
  refine nb_go (F:=w1.F) (us:=w1.us) rfl (D'.same t1) D3 fu1 (fun N n=>⟨_,rfl,fo,_,0, .str w1.F,rfl,rfl,SqT.of (t1 _ _ hfo),atI_nat (j:=0) rfl,n⟩) fun p3 H3' ws body t3 hp3 rb lbd=>?_
  have t13:=t1.trans t3
  refine cat_go (ts:=[.str "part", .str w1.n,toldT w1.F w1.us]) (t3 _ _ upd_same) (.cons (.str _ (by decide+kernel)) (.cons (.str _ (by omega)) (.cons (rv.same t13) .nil))) (by intro z;cases z) hp3 rb (by show 3+body.length≤1000;omega) fun p4 H4' t4 r4=>?_
  have t14:=t13.trans t4
  have hlr4:=t14 _ _ hlr'
  have hld4:=t14 _ _ hld'
  refine⟨lr,rvs,_,rfl,rfl,hlr4,small' (by omega),?_⟩
  have tu:∀b xs,H4' b=some (.tup xs)→(upd H4' lr (.lst (rvs++[.ref p4]))) b=some (.tup xs):=fun b xs e=>by rw[upd_ne (ne_of e hlr4 (by intro z;cases z))];exact e
  have hld5:(upd H4' lr (.lst (rvs++[.ref p4]))) ld=some (.dK kvs):=by rw[upd_ne (Ne.symm nrd)];exact hld4
  refine⟨_,rfl,_,rfl,_,rfl,ld,_,rfl,DPut.k (k:=Sum.inr w1.n) hld5 (small' (by omega)),?_⟩
  have nn:w1.n∉(W2.take i).map (·.n):=fun hm=>by
   have nh:=nd2.1
   have e2:W2.map (·.n)=(W2.take i).map (·.n)++(W2.drop i).map (·.n):=by rw[←List.map_append,List.take_append_drop]
   rw[e2]at nh
   have e3:w1.n∈(W2.drop i).map (·.n):=by
    refine List.mem_map_of_mem ?_
    rw[List.mem_iff_getElem?]
    exact⟨0,by rw[List.getElem?_drop,Nat.add_zero];exact hg⟩
   exact(List.nodup_append.mp nh).2.2 _ hm _ e3 rfl
  rw[due_new dr nn]
  have tu2:∀b xs,H4' b=some (.tup xs)→(upd (upd H4' lr (.lst (rvs++[.ref p4]))) ld (.dK (kvs++[(Sum.inr w1.n, .ref fo)]))) b=some (.tup xs):=fun b xs e=>by rw[upd_ne (ne_of e hld4 (by intro z;cases z))];exact tu b xs e
  refine⟨_,_,rvs++[.ref p4],_,bs++[body],rfl,fun c o n1 n2 e=>by rw[upd_ne n2,upd_ne n1];exact t14 _ _ (g c o n1 n2 e),by rw[upd_ne nrd];exact upd_same,?_,by simp[lb],upd_same,?_⟩
  ·rw[take_next hg,List.zip_append (by rw[List.length_take];omega),List.map_append]
   exact((rr.same t14).mono tu2).append (.cons (r4.mono tu2) .nil)
  ·unfold dueM
   rw[take_next hg,List.map_append]
   exact DReps.snoc (.tup (tu2 _ _ (t14 _ _ hfo)) (Reps.words fun u' hu'=>by have:=fu1.lens.1 u' hu';omega)) ((dr.mono (Same.tups t14)).mono tu2)
 rintro σ Hd ⟨o6,o7,rvs,kvs,bs,rfl,gd,hlrd,rrd,lbd,hldd,drd⟩
 rw[show(wvs++[V.ref p2]).length=W2.length from lw2,List.take_length]at rrd drd
 rw[lw2]at lbd
 have tucd:∀b xs,Hc b=some (.tup xs)→Hd b=some (.tup xs):=fun b xs e=>gd b _ (ne_of e hlrc (by intro z;cases z)) (ne_of e hldc (by intro z;cases z)) e
 have Dd:DictL Hd fa (fmapD d):=by
  obtain⟨k,hk,dr⟩:=Dfc
  exact⟨k,gd _ _ nfr.1 nfr.2 hk,dr.mono tucd⟩
 have lrr:=rrd.length
 rw[List.length_map,List.length_zip]at lrr
 have ldr:=drd.length
 unfold dueM at ldr
 rw[List.length_map]at ldr
 have okd:StOk Hd st:=by
  obtain⟨x,y,h⟩:=okc
  exact⟨x,y,gd _ _ (Ne.symm nlr) (Ne.symm nld) h⟩
 have hlfd:Hd lf=some (.lst (fs.map V.str)):=gd _ _ (fun e=>by
   have:=g4.1 _ _ nlr (s3 _ _ hlr2)
   rw[←e,hlf]at this
   cases this) (fun e=>by
   have:=g4.1 _ _ nld (s3 _ _ (s2 _ _ hld1))
   rw[←e,hlf]at this
   cases this) (gc _ _ nlf nlfw hlf9)
 refine⟨_,rfl, .inl ⟨rfl,_,SqL.of hlrd⟩,?_⟩
 refine⟨fun _=>.int 0,[],fun _=>.nil,_,(fun x k h=>by cases h),(fun x k h=>by cases h),mk_tm7,fun v8 K1 k1 rv8=>?_⟩
 rw[inst_of]at rv8
 refine nb_go (F:="Fb") (us:=["Pa"]) rfl (Dd.same k1) D3 (.b (by decide+kernel)) (fun N n=>n) fun q3 K2 ws2 b2 k2 hq3 rb2 lb2=>?_
 cases rv8 with
 |@tup a8 vs8 _ ha8 rvs8=>
 refine cat_go (k2 _ _ ha8) (rvs8.same k2) (by intro z;cases z) hq3 rb2 (by show 4+b2.length≤1000;omega) fun q4 K3 k3 rq4=>?_
 have k13:=(k1.trans k2).trans k3
 have hlr3:=k13 _ _ hlrd
 refine⟨lr,rvs,_,rfl,rfl,hlr3,small' (by omega),?_⟩
 have tu3:∀b xs,K3 b=some (.tup xs)→(upd K3 lr (.lst (rvs++[.ref q4]))) b=some (.tup xs):=fun b xs e=>by rw[upd_ne (ne_of e hlr3 (by intro z;cases z))];exact e
 obtain⟨K4,eK4,g34,hlr4,rr4⟩:∃K4,upd K3 lr (.lst (rvs++[.ref q4]))=K4∧(∀c o,c≠lr→Hd c=some o→K4 c=some o)∧K4 lr=some (.lst (rvs++[.ref q4]))∧Reps K4 (rvs++[.ref q4]) (((W2.zip bs).map fun x=>dcT (partD x))++[dcT (mkrD "Ma" gsMa ["Fb","Y"] b2)]):=by
  refine⟨_,rfl,fun c o n e=>by rw[upd_ne n];exact k13 _ _ e,upd_same,?_⟩
  exact((rrd.same k13).mono tu3).append (.cons (rq4.mono tu3) .nil)
 rw[eK4]
 have tu34:∀b xs,Hd b=some (.tup xs)→K4 b=some (.tup xs):=fun b xs e=>g34 _ _ (ne_of e hlrd (by intro z;cases z)) e
 have Dd4:DictL K4 fa (fmapD d):=by
  obtain⟨k,hk,dr⟩:=Dd
  exact⟨k,g34 _ _ nfr.1 hk,dr.mono tu34⟩
 refine⟨fun _=>.int 0,[],fun _=>.nil,_,(fun x k h=>by cases h),(fun x k h=>by cases h),gv_tm,fun v9 K5 k5 rv9=>?_⟩
 rw[inst_of]at rv9
 refine⟨_,rfl, .inl ⟨rfl,_,SqL.of (k5 _ _ hlr4)⟩,?_⟩
 refine⟨fun _=>.tup (gsMb.map gvT),npG,fun k=>.v k,_,?_,?_,mk_tm9,fun v10 K6 k6 rv10=>?_⟩
 ·intro x k h
  obtain⟨rfl,rfl⟩:=np_one h
  exact⟨rfl,by decide+kernel⟩
 ·intro x k h
  obtain⟨rfl,rfl⟩:=np_one h
  exact⟨v9,rfl,rv9⟩
 change Rep K6 v10 (.tup [.str "maker", .str "Mb", .tup (gsMb.map gvT),inst (fun _=>.tup (gsMb.map gvT)) (ofT (.tup [.str "Fc", .str "Z", .str "X"]))]) at rv10
 rw[inst_of]at rv10
 refine nb_go (F:="Fc") (us:=["Pa","Pa"]) rfl (Dd4.same (k5.trans k6)) D3 (.c (by decide+kernel) (by decide+kernel)) (fun N n=>n) fun q5 K7 ws3 b3 k7 hq5 rb3 lb3=>?_
 cases rv10 with
 |@tup a10 vs10 _ ha10 rvs10=>
 refine cat_go (k7 _ _ ha10) (rvs10.same k7) (by intro z;cases z) hq5 rb3 (by show 4+b3.length≤1000;omega) fun q6 K8 k8 rq6=>?_
 have k58:=((k5.trans k6).trans k7).trans k8
 have hlr8:=k58 _ _ hlr4
 refine⟨lr,_,_,rfl,rfl,hlr8,small' (by rw[List.length_append];show rvs.length+1≤1000000;omega),?_⟩
 have tu8:∀b xs,K8 b=some (.tup xs)→(upd K8 lr (.lst (rvs++[.ref q4]++[.ref q6]))) b=some (.tup xs):=fun b xs e=>by rw[upd_ne (ne_of e hlr8 (by intro z;cases z))];exact e
 obtain⟨K9,eK9,g49,hlr9,rr9⟩:∃K9,upd K8 lr (.lst (rvs++[.ref q4]++[.ref q6]))=K9∧(∀c o,c≠lr→K4 c=some o→K9 c=some o)∧K9 lr=some (.lst (rvs++[.ref q4]++[.ref q6]))∧Reps K9 (rvs++[.ref q4]++[.ref q6]) (((W2.zip bs).map fun x=>dcT (partD x))++[dcT (mkrD "Ma" gsMa ["Fb","Y"] b2)]++[dcT (mkrD "Mb" gsMb ["Fc","Z","X"] b3)]):=by
  refine⟨_,rfl,fun c o n e=>by rw[upd_ne n];exact k58 _ _ e,upd_same,?_⟩
  exact((rr4.same k58).mono tu8).append (.cons (rq6.mono tu8) .nil)
 rw[eK9]
 have gd9:∀c o,c≠lr→Hd c=some o→K9 c=some o:=fun c o n e=>g49 c o n (g34 c o n e)
 have tud9:∀b xs,Hd b=some (.tup xs)→K9 b=some (.tup xs):=fun b xs e=>gd9 _ _ (ne_of e hlrd (by intro z;cases z)) e
 have ok9:StOk K9 st:=by
  obtain⟨x,y,h⟩:=okd
  exact⟨x,y,gd9 _ _ (Ne.symm nlr) h⟩
 have nlfr:lf≠lr:=fun e=>by
  have:=g4.1 _ _ nlr (s3 _ _ hlr2)
  rw[←e,hlf]at this
  cases this
 refine pick_go rfl rfl ok9 (gd9 _ _ nlfr hlfd) nlf fl1 fl2 fun pa K10 hpa g10=>?_
 refine pick_go rfl rfl g10.ok (g10.1 _ _ nlf (gd9 _ _ nlfr hlfd)) nlf fl1 fl2 fun po K11 hpo g11=>?_
 have g911:=g10.trans g11
 refine⟨_,rfl,fun k=>if k=9 then .str pa else .str po,npA,fun k=>.v k,_,?_,?_,ap_tm,fun us K12 k12 rus=>?_⟩
 ·intro x k h
  rcases np_two h with ⟨rfl,rfl⟩|⟨rfl,rfl⟩
  ·exact⟨rfl,by decide+kernel⟩
  ·exact⟨rfl,by decide+kernel⟩
 ·intro x k h
  rcases np_two h with ⟨rfl,rfl⟩|⟨rfl,rfl⟩
  ·exact⟨.str pa,rfl, .str _ (by have:=fl3 pa hpa;omega)⟩
  ·exact⟨.str po,rfl, .str _ (by have:=fl3 po hpo;omega)⟩
 change Reps K12 us ((apsD pa po).map dcT) at rus
 have lus2:us.length=2:=rus.length
 refine⟨small (by omega),fun l13 hl13=>?_⟩
 have k13':=same_new hl13 (.lst us)
 have g912:Grow st K9 K12:=g911.trans (grow_same g11.ok k12)
 have hlr12:=g912.1 _ _ nlr hlr9
 refine⟨lr,l13,_,_,rfl,rfl,k13' _ _ hlr12,upd_same,small (by rw[List.length_append,List.length_append,lus2];show rvs.length+1+1+2≤1000000;omega),fun l14 hl14=>?_⟩
 have k14:=same_new hl14 (.lst (rvs++[V.ref q4]++[.ref q6]++us))
 obtain⟨K14,eK14,g914,hl14',rr14⟩:∃K14,upd (upd K12 l13 (.lst us)) l14 (.lst (rvs++[V.ref q4]++[.ref q6]++us))=K14∧Grow st K9 K14∧K14 l14=some (.lst (rvs++[V.ref q4]++[.ref q6]++us))∧Reps K14 (rvs++[V.ref q4]++[.ref q6]++us) ((rowsD W2 bs b2 b3 pa po).map dcT):=by
  refine⟨_,rfl,g912.trans (grow_same g912.ok (k13'.trans k14)),upd_same,?_⟩
  have e:(rowsD W2 bs b2 b3 pa po).map dcT=((W2.zip bs).map fun x=>dcT (partD x))++[dcT (mkrD "Ma" gsMa ["Fb","Y"] b2)]++[dcT (mkrD "Mb" gsMb ["Fc","Z","X"] b3)]++(apsD pa po).map dcT:=by
   unfold rowsD
   simp only[List.map_append,List.map_map,List.map_cons,List.map_nil,List.append_assoc,List.cons_append,List.nil_append]
   rfl
  rw[e]
  exact((rr9.grow g912 ok9).append rus).same (k13'.trans k14)
 rw[eK14]
 have nl14:l14≠st:=(g912.ok.same k13').ne_none hl14
 have hld14:K14 ld=some (.dK kvs):=g914.1 _ _ nld (gd9 _ _ (Ne.symm nrd) hldd)
 have dr14:DReps K14 kvs (dueM W2):=(drd.mono tud9).mono (g914.tups ok9)
 have nl14d:l14≠ld:=fun e=>by rw[e,hld14]at hl14';cases hl14'
 have pal:pa.length≤10:=fl3 pa hpa
 have pol:po.length≤10:=fl3 po hpo
 refine⟨_,rfl,sml 2,fun p15 hp15=>?_⟩
 have t15:=same_new hp15 (.tup [V.str "Fb", .str pa])
 have hld15:=t15 _ _ hld14
 refine⟨_,rfl,ld,_,rfl,DPut.k (k:=Sum.inr "Qa") hld15 (small' (by omega)),?_⟩
 rw[due_new dr14 nd2.2.1]
 obtain⟨K16,eK16,g16,hld16,dr16⟩:∃K16,upd (upd K14 p15 (.tup [V.str "Fb", .str pa])) ld (.dK (kvs++[((Sum.inr ("Qa":Str):Key),V.ref p15)]))=K16∧(∀c o,c≠ld→K14 c=some o→K16 c=some o)∧K16 ld=some (.dK (kvs++[((Sum.inr ("Qa":Str):Key),V.ref p15)]))∧DReps K16 (kvs++[((Sum.inr ("Qa":Str):Key),V.ref p15)]) (dueM (W2++[⟨"Qa","Fb",[pa]⟩])):=by
  have tu:∀b xs,(upd K14 p15 (.tup [V.str "Fb", .str pa])) b=some (.tup xs)→(upd (upd K14 p15 (.tup [V.str "Fb", .str pa])) ld (.dK (kvs++[((Sum.inr ("Qa":Str):Key),V.ref p15)]))) b=some (.tup xs):=fun b xs e=>by rw[upd_ne (ne_of e hld15 (by intro z;cases z))];exact e
  refine⟨_,rfl,fun c o n e=>by rw[upd_ne n];exact t15 _ _ e,upd_same,?_⟩
  unfold dueM
  rw[List.map_append]
  exact DReps.snoc (.tup (tu _ _ upd_same) (.cons (.str _ (by decide+kernel)) (.cons (.str _ (by omega)) .nil))) ((dr14.mono (Same.tups t15)).mono tu)
 rw[eK16]
 refine⟨_,rfl,sml 3,fun p17 hp17=>?_⟩
 have t17:=same_new hp17 (.tup [V.str "Fc", .str po,V.str "Qa"])
 have hld17:=t17 _ _ hld16
 refine⟨_,rfl,ld,_,rfl,DPut.k (k:=Sum.inr "Qb") hld17 (small' (by rw[List.length_append];show kvs.length+1≤1000000;omega)),?_⟩
 rw[due_new dr16 (by rw[List.map_append];exact fun h=>(List.mem_append.mp h).elim nd2.2.2.1 qb_qa)]
 obtain⟨K18,eK18,g18,hld18,dr18⟩:∃K18,upd (upd K16 p17 (.tup [V.str "Fc", .str po,V.str "Qa"])) ld (.dK (kvs++[((Sum.inr ("Qa":Str):Key),V.ref p15)]++[((Sum.inr ("Qb":Str):Key),V.ref p17)]))=K18∧(∀c o,c≠ld→K16 c=some o→K18 c=some o)∧K18 ld=some (.dK (kvs++[((Sum.inr ("Qa":Str):Key),V.ref p15)]++[((Sum.inr ("Qb":Str):Key),V.ref p17)]))∧DReps K18 (kvs++[((Sum.inr ("Qa":Str):Key),V.ref p15)]++[((Sum.inr ("Qb":Str):Key),V.ref p17)]) (dueM (duesD W2 pa po)):=by
  have tu:∀b xs,(upd K16 p17 (.tup [V.str "Fc", .str po,V.str "Qa"])) b=some (.tup xs)→(upd (upd K16 p17 (.tup [V.str "Fc", .str po,V.str "Qa"])) ld (.dK (kvs++[((Sum.inr ("Qa":Str):Key),V.ref p15)]++[((Sum.inr ("Qb":Str):Key),V.ref p17)]))) b=some (.tup xs):=fun b xs e=>by rw[upd_ne (ne_of e hld17 (by intro z;cases z))];exact e
  refine⟨_,rfl,fun c o n e=>by rw[upd_ne n];exact t17 _ _ e,upd_same,?_⟩
  have e:dueM (duesD W2 pa po)=dueM (W2++[⟨"Qa","Fb",[pa]⟩])++[(("Qb":Str),wF ⟨"Qb","Fc",[po,"Qa"]⟩)]:=by unfold dueM duesD;simp
  rw[e]
  exact DReps.snoc (.tup (tu _ _ upd_same) (.cons (.str _ (by decide+kernel)) (.cons (.str _ (by omega)) (.cons (.str _ (by decide+kernel)) .nil)))) ((dr16.mono (Same.tups t17)).mono tu)
 rw[eK18]
 refine⟨_,rfl,_,rfl,sml 2,fun pp hpp=>?_⟩
 have t19:=same_new hpp (.tup [V.ref l14, .ref ld])
 have gAll:∀c o,c≠lr→c≠ld→c≠st→Hc c=some o→K18 c=some o:=fun c o n1 n2 n3 e=>g18 _ _ n2 (g16 _ _ n2 (g914.1 _ _ n3 (gd9 _ _ n1 (gd _ _ n1 n2 e))))
 have fr:∀c o,H c=some o→c≠lr∧c≠ld:=fun c o e=>⟨ne_of_none (s1 _ _ e) hlr,ne_of_none e hld⟩
 have ok18:StOk K18 st:=by
  obtain⟨x,y,h⟩:=g914.ok
  exact⟨x,y,g18 _ _ (Ne.symm nld) (g16 _ _ (Ne.symm nld) h)⟩
 have tu18:∀b xs,K14 b=some (.tup xs)→K18 b=some (.tup xs):=fun b xs e=>by
  have n:b≠ld:=ne_of e hld14 (by intro z;cases z)
  exact g18 _ _ n (g16 _ _ n e)
 exact q pp l14 ld _ W2 bs b2 b3 pa po _ ⟨fun c o n e=>t19 _ _ (gAll c o (fr c o e).1 (fr c o e).2 n (gHc c o n e)),ok18.same t19⟩ upd_same (t19 _ _ (g18 _ _ nl14d (g16 _ _ nl14d hl14'))) ((rr14.mono tu18).same t19) ⟨_,t19 _ _ hld18,dr18.mono (Same.tups t19)⟩ wok lbd (fl4 pa hpa).1 (fl4 po hpo).1 nl14
end
end Fw
namespace L2
open PySem PySem.Spec PyProof.Rows PySem.W
inductive TxL (K:Frag)(H:Hp):Nat→V→Prop where
 |str (n:Nat) (x:Str):TxL K H n (.str x)
 |tup {n:Nat} {r:Addr} {xs:List V}:SqT K H r xs→(∀x∈xs,TxL K H n x)→TxL K H (n+1) (.ref r)
section
variable {X:Cx}{pins:List (Addr×Obj)}{s:Shared}{σ:St}{H:Hp}
end
open PySem PySem.Spec PyProof.Rows
theorem kv_get:∀{kvs:List (Key×V)} {vs:List (Key×Value)},KV kvs vs→∀{i:Nat} {p:Key×V},kvs[i]?=some p→∃q,vs[i]?=some q∧RelV p.2 q.2
 |_,_, .nil,_,_,h=>by simp at h
 |_,_, .cons r rr,0,_,h=>by cases h;exact⟨_,rfl,r.2⟩
 |_,_, .cons r rr,i+1,_,h=>kv_get rr (i:=i) h
theorem entry_dit_iter:entryFor table "dict_itemiterator.__iter__"=some Builtin.«dict_keyiterator.__iter__» :=
 entryFor_alias (id':="dict_keyiterator.__iter__") (by kernel_rfl) (by first|rfl|decide+kernel|(unfold String.splitOn;simp+decide [String.splitOnAux])) (by decide+kernel) (by kernel_rfl)
theorem wpAny_pyIter_dit {prog:Program}{w:World}{A:Around}{E:Value→Shared→Prop}{s:Shared}{it d:Addr}{i n ep:Nat}{ok ov:Value}{Q:Value→Shared→Prop}(hit:IsItemIter s.heap it d i n ep ok ov)(h:Q (.ref it) s):wpAny (model prog w) A (pyIter (.ref it)) Q E s:=by
 have ty:s.TypeIs (.ref it) "dict_itemiterator":=⟨_,hit,rfl⟩
 refine wpAny_pyIter_slot ty PySem.F.slot_dict_itemiterator_iter (wpAny_call_entry PySem.F.slot_dict_itemiterator_iter ty entry_dit_iter ?_ (PySem.F.args_dict_itemiterator_iter_1 _))
 show wpAny _ _ (ret (.ref it)) _ _ s
 exact wpAny_pure ⟨_,rfl,"dict_itemiterator",_,ty,PySem.F.slot_dict_itemiterator_next.lookup,h⟩
def Itit (a:Addr)(o:Obj)(kvs:List (Key×V)):It :=
 ⟨fun i H=>H a=some (.frz o (.dK kvs))∧i<kvs.length,fun i H x H'=>∃(T:Addr) (k:Key) (v:V),kvs[i]?=some (k,v)∧H T=none∧x=.ref T∧H'=upd H T (.tup [kV k,v]),fun i H=>H a=some (.frz o (.dK kvs))∧kvs.length≤i⟩
theorem turn_items {P:Program}{w:World}{K:PySem.W.Frag}{elts:List Expr}{x1}{pos:Pos}(a it:Addr)(o:Obj)(kvs:List (Key×V))(es:Array DictEntry)(ep:Nat)(hep:o.data=.dict es ep):
  Turn P w K (.Tuple elts x1 pos) (Itit a o kvs) [it] it (fun i h=>∃ok ov,IsItemIter h it a i kvs.length ep ok ov) where
 mem:=by simp
 obj:=fun i h st b hb=>by
  have e:b=it:=by simpa using hb
  subst e
  obtain⟨ok,ov,e⟩:=st
  exact⟨_,e,fun v z=>by cases z⟩
 keep:=fun i h h' st k=>by
  obtain⟨ok,ov,e⟩:=st
  exact⟨ok,ov,k it (by simp) _ e⟩
 item:=by
  intro X hP hw hK hc i pins s σ H E I hf st hg
  subst hP hw hK
  obtain⟨ha,hi⟩:=hg
  obtain⟨hd,hz,vs,rel,dd⟩:=frz_at I ha hep
  have hl:=rel.length
  have hk:=rel.keys
  obtain⟨⟨k,v⟩,hx⟩:∃p,vs[i]?=some p:=⟨vs[i]'(by omega),List.getElem?_eq_getElem (by omega)⟩
  obtain⟨⟨k',v'⟩,hy⟩:∃p,kvs[i]?=some p:=⟨kvs[i],List.getElem?_eq_getElem hi⟩
  have ek:k'=k:=by
   have q:=congrArg (fun l=>l[i]?) hk
   simp only[List.getElem?_map,hx,hy,Option.map_some]at q
   exact Option.some.inj q
  subst ek
  have rv:RelV v' v:=by
   obtain⟨p,hp,r⟩:=kv_get rel hy
   rw[hx]at hp
   cases hp
   exact r
  obtain⟨ok,ov,st⟩:=st
  have li:it<s.heap.objs.size:=Heap.lt_size st
  rw[hl]at st
  refine wpAny_pyNext_items_item st dd hx fun key h' hkey st' hT hsz sb=>⟨_,rfl,?_⟩
  refine wpAny_letOwnedTupleGo_items (s:={s with heap:=h'}) st' fun h2 st2 r7=>?_
  have I1:Inv X pins σ H {s with heap:=h2}:=I.turnedL (t':=s.toks) (ch:=[it]) (fun c o hc e=>r7.extBut c o (fun q=>hc (by simp[q])) (sb c o (fun q=>hc (by simp[q])) e)) hf
  have fr:H s.heap.objs.size=none:=I.hok.fresh (Nat.le_refl _)
  have I2:=I1.trackT (D:=s.heap.objs.size) (vs:=[kV k',v']) (its:=[key,v]) (I.fpOk (Nat.le_refl _) fr) (by show 2≤sizeLine;rw[sizeLine_eq];decide) (.cons (mix_rel hkey) (.cons rv .nil)) ⟨_,r7.extBut _ _ (Nat.ne_of_gt li) hT,rfl,_,rfl⟩
  rw[←hl]at st2
  refine⟨.ref s.heap.objs.size,_,I2,rfl,⟨_,k',v',hy,fr,rfl,rfl⟩,⟨_,_,st2⟩,fun c hc=>?_⟩
  have e:c=it:=by simpa using hc
  subst e
  rw[upd_ne (Nat.ne_of_lt li)]
  exact(hf c hc).1
 done:=by
  intro X hP hw hK hc i pins s σ H E I hf st hg
  subst hP hw hK
  obtain⟨ha,hi⟩:=hg
  obtain⟨hd,hz,vs,rel,dd⟩:=frz_at I ha hep
  have hl:=rel.length
  obtain⟨f0,f1,f2,f3,f4,f5⟩:=hf it (by simp)
  obtain⟨ok,ov,st⟩:=st
  rw[hl]at st
  exact wpAny_pyNext_items_end (I.ok.hd hc) st dd (List.getElem?_eq_none (by omega)) fun h' eb=>⟨rfl,I.turned (t':=s.toks) (fun b o hb e=>eb b o hb e) f0 f1 f3 f4 f5⟩
 self:=fun _ _ _ _ _ st h=>by
  obtain⟨ok,ov,st⟩:=st
  exact wpAny_pyIter_dit st h
def iItems (td:TE):TI:=fun σ H R=>td σ H fun x H1=>∃a o kvs,x=.ref a∧H1 a=some (.frz o (.dK kvs))∧R (Itit a o kvs) H1
theorem pi_items {X:Cx}{d:Expr}{elts:List Expr}{x1}{pt:Pos}{td:TE}{apos cpos:Pos}(hd:PE X d td)(hbase:attributeBase d "items" X.env (eval d X.env)=eval d X.env:=by rfl)(hline:(apos.endLine==cpos.line)=true:=by rfl):PI X (.Tuple elts x1 pt) (.Call (.Attribute d "items" apos) [] [] cpos) (iItems td):=by
 intro pins s σ H R I h
 refine wpAny_Call_method0_late hbase hline (thn (hd pins s σ H _ I h) fun v s1 ⟨x,H1,I1,r1,q1⟩=>?_)
 obtain⟨a,o,kvs,rfl,ha,q⟩:=q1
 cases r1
 obtain⟨ho,z,hsm,vs,rel,dd⟩:=I1.hok a _ ha
 obtain⟨o2,es,ep,ho2,h2,h3,r⟩:=id dd
 rw[ho]at ho2
 cases ho2
 refine⟨"dict","dict.items",PySem.F.plainAttrs_dict,PySem.F.slot_dict_items,PySem.F.type_dict_items,dd.typeIs,fun b e=>?_,Calls.callWith_builtin rfl (PySem.evalArgs_none ?_)⟩
 ·cases e
  exact⟨o,ho,h2.2.1⟩
 refine call_meetsIn PySem.F.slot_dict_items dd.typeIs PySem.F.entry_dict_items (PySem.F.args_dict_items_1 _) (meets_dict_items (mixKind X.prog X.w) a hsm) ⟨⟨vs,dd⟩,?_⟩
 have I3:Inv X pins σ _ {s1 with heap:=s1.heap.push {cls:=.type "dict_items",data:=.fields #[.ref a]}}:=I1.kept (t':=s1.toks) fun b o e=>Heap.get?_push_of_some _ e
 have hv:(s1.heap.push {cls:=.type "dict_items",data:=.fields #[.ref a]}).IsItemsView s1.heap.objs.size a:=⟨_,Heap.get?_push_size _ rfl,rfl,rfl⟩
 have da:(s1.heap.push {cls:=.type "dict_items",data:=.fields #[.ref a]}).DictAt (mixKind X.prog X.w) a vs ep:=⟨o,es,Heap.get?_push_of_some _ ho,h2,h3,r⟩
 refine wpAny_pyIter_items hv da ?_
 have hlen:=rel.length
 refine⟨_,[_],_,_,H1,rfl,I3.kept (t':=s1.toks) fun b o e=>Heap.get?_push_of_some _ e,turn_items a _ o kvs es ep h3,⟨_,_,by rw[hlen];exact Heap.get?_push_size _ rfl⟩,fun b hb=>?_,q⟩
 have e:b=(s1.heap.push {cls:=.type "dict_items",data:=.fields #[.ref a]}).objs.size:=by simpa using hb
 subst e
 exact I3.fpOk (Nat.le_refl _) (I3.hok.fresh (Nat.le_refl _))
theorem for_items {a:Addr}{o:Obj}{kvs:List (Key×V)}{g:TG}{tb:TS}{D:Ends}{σ:St}{H:Hp}(Pv:Nat→St→Hp→Prop)(h0:Pv 0 σ H)(hl:∀i σ H,i≤kvs.length→Pv i σ H→H a=some (.frz o (.dK kvs)))
  (hs:∀i k v σ H T,kvs[i]?=some (k,v)→Pv i σ H→H T=none→g (.ref T) σ (upd H T (.tup [kV k,v])) fun σ2 H2=>tb (D.lp (Pv (i+1))) σ2 H2) (hd:∀σ H,Pv kvs.length σ H→D.nx σ H):
  ∃W:Nat→Nat→St→Hp→Prop,(∃m,W 0 m σ H)∧∀i m σ H,W i m σ H→
   ((Itit a o kvs).stop i H∧D.nx σ H)∨((Itit a o kvs).go i H∧∃N:St→Hp→Prop,(∀σ' H',N σ' H'→∃m',m'<m∧W (i+1) m' σ' H')∧∀x H',(Itit a o kvs).yld i H x H'→g x σ H' fun σ2 H2=>tb (D.lp N) σ2 H2):=by
 refine⟨fun i m σ H=>m=kvs.length-i∧i≤kvs.length∧Pv i σ H,⟨kvs.length,by simp,Nat.zero_le _,h0⟩,?_⟩
 rintro i m σ H ⟨rfl,hi,p⟩
 have q:=hl i σ H hi p
 by_cases hlt:i<kvs.length
 ·refine .inr ⟨⟨q,hlt⟩,Pv (i+1),fun σ' H' p'=>⟨kvs.length-(i+1),by omega,rfl,hlt,p'⟩,fun x H' y=>?_⟩
  obtain⟨T,k,v,hk,hT,rfl,e⟩:=y
  subst e
  exact hs i k v σ _ T hk p hT
 ·have e:i=kvs.length:=by omega
  subst e
  exact .inl ⟨⟨q,Nat.le_refl _⟩,hd σ H p⟩
end L2
namespace Fw
open PySem PySem.Spec PyProof.Rows L2
inductive DpT:Nat→T→Prop where
 |str (n:Nat) (z:Str):DpT n (.str z)
 |int (n:Nat) (i:Int):DpT n (.int i)
 |tup {n:Nat} {l:List T} (h:∀t∈l,DpT n t):DpT (n+1) (.tup l)
theorem KD.dp {n:Nat}{t:T}(h:KD n t):DpT n t:=by
 induction h with
 |leaf=>exact .str _ _
 |tup h h1 h3 hk ih=>exact .tup fun t ht=>(List.mem_cons.mp ht).elim (fun e=>by rw[e];exact .str _ _) (ih t)
theorem DpT.words {n:Nat}{us:List Str}:DpT (n+1) (.tup (us.map T.str)):=.tup fun t ht=>by
 obtain⟨u,_,rfl⟩:=List.mem_map.mp ht
 exact .str _ _
theorem all_true (n:Nat):((List.range n).all fun _=>true)=true:=by simp
theorem eqAt_R {X:Cx}{pins:List (Addr×Obj)}{σ:L2.St}{H:Hp}{s:Shared}(I:Inv X pins σ H s):∀(n:Nat) {t:T} {x y:V} {u v:Value} {A:Around},DpT n t→Rep H x t→Rep H y t→A.units+n<cLine→RelV x u→RelV y v→SeqAt.EqAt A s u v true:=by
 intro n
 induction n with
 |zero=>
  intro t x y u v A hd hx hy hu rx ry
  cases hd with
  |str _ z=>
   cases hx
   cases hy
   have:=eqAt_V (A:=A) (s:=s) rx ry rfl rfl
   simpa[eqV] using this
  |int _ i=>
   cases hx
   cases hy
   have:=eqAt_V (A:=A) (s:=s) rx ry rfl rfl
   simpa[eqV] using this
 |succ n ih=>
  intro t x y u v A hd hx hy hu rx ry
  cases hd with
  |str _ z=>
   cases hx
   cases hy
   have:=eqAt_V (A:=A) (s:=s) rx ry rfl rfl
   simpa[eqV] using this
  |int _ i=>
   cases hx
   cases hy
   have:=eqAt_V (A:=A) (s:=s) rx ry rfl rfl
   simpa[eqV] using this
  |@tup _ l h=>
   cases hx with
   |@tup a vs _ ha ra=>
   cases hy with
   |@tup b ws _ hb rb=>
   cases rx
   cases ry
   by_cases e:a=b
   ·subst e;exact SeqAt.EqAt.same _
   ·obtain⟨its,r,ht,hz⟩:=I.tuple (SqT.of (K:=X.K) ha)
    obtain⟨its2,r2,ht2,hz2⟩:=I.tuple (SqT.of (K:=X.K) hb)
    have l1:=r.length
    have l2:=r2.length
    have l3:=ra.length
    have l4:=rb.length
    have q:=SeqAt.EqAt.of_refs e (SeqAt.RcAt.tuples (A:=A) (s:=s) (e:=fun _=>true) ht ht2 (by omega) fun j h1 h2=>?_)
    ·have e1:its.toArray.size=its2.toArray.size:=by simp;omega
     rw[all_true,e1,beq_self_eq_true]at q
     exact q
    ·have h1':j<its.length:=by simpa using h1
     have h2':j<its2.length:=by simpa using h2
     have hx':vs[j]?=some (vs[j]'(by omega)):=List.getElem?_eq_getElem _
     have hy':ws[j]?=some (ws[j]'(by omega)):=List.getElem?_eq_getElem _
     obtain⟨u1,hu1,ru1⟩:=r.get hx'
     obtain⟨u2,hu2,ru2⟩:=r2.get hy'
     obtain⟨t1,ht1,rt1⟩:=ra.at3 hx'
     obtain⟨t2,ht2',rt2⟩:=rb.at3 hy'
     rw[ht1]at ht2'
     cases ht2'
     have e1:its.toArray[j]=u1:=by
      have:=(List.getElem?_eq_some_iff.mp hu1).2
      simpa using this
     have e2:its2.toArray[j]=u2:=by
      have:=(List.getElem?_eq_some_iff.mp hu2).2
      simpa using this
     rw[e1,e2]
     exact ih (h _ (List.mem_of_getElem? ht1)) rt1 rt2 (by show A.units+1+n<cLine;omega) ru1 ru2
theorem op_neR {X:Cx}(hu:X.A.units+60<cLine):OpR X (compareOp .NotEq) (fun x y H Q=>∃(n:Nat) (a b:Addr) (ts:List T),x=.ref a∧y=.ref b∧Rep H x (.tup ts)∧Rep H y (.tup ts)∧(∀t∈ts,DpT n t)∧n≤50∧Q (.bl false) H):=by
 intro pins s σ H x y v u Q I rx ry h
 obtain⟨n,a,b,ts,rfl,rfl,hx,hy,hd,hn,q⟩:=h
 cases rx
 cases ry
 cases hx with
 |@tup _ vs _ ha ra=>
 cases hy with
 |@tup _ ws _ hb rb=>
 obtain⟨its,r,ht,hz⟩:=I.tuple (SqT.of (K:=X.K) ha)
 obtain⟨its2,r2,ht2,hz2⟩:=I.tuple (SqT.of (K:=X.K) hb)
 have l1:=r.length
 have l2:=r2.length
 have l3:=ra.length
 have l4:=rb.length
 have q':=SeqAt.RcNeAt.tuples (A:=X.A) (s:=s) (e:=fun _=>true) ht ht2 (by omega) fun j h1 h2=>?_
 ·have e1:its.toArray.size=its2.toArray.size:=by simp;omega
  rw[all_true,e1,beq_self_eq_true]at q'
  exact q' X.prog X.w _ _ ⟨.bl false,H,I,rfl,q⟩
 ·have h1':j<its.length:=by simpa using h1
  have h2':j<its2.length:=by simpa using h2
  have hx':vs[j]?=some (vs[j]'(by omega)):=List.getElem?_eq_getElem _
  have hy':ws[j]?=some (ws[j]'(by omega)):=List.getElem?_eq_getElem _
  obtain⟨u1,hu1,ru1⟩:=r.get hx'
  obtain⟨u2,hu2,ru2⟩:=r2.get hy'
  obtain⟨t1,ht1,rt1⟩:=ra.at3 hx'
  obtain⟨t2,ht2',rt2⟩:=rb.at3 hy'
  rw[ht1]at ht2'
  cases ht2'
  have e1:its.toArray[j]=u1:=by
   have:=(List.getElem?_eq_some_iff.mp hu1).2
   simpa using this
  have e2:its2.toArray[j]=u2:=by
   have:=(List.getElem?_eq_some_iff.mp hu2).2
   simpa using this
  rw[e1,e2]
  exact eqAt_R I n (hd _ (List.mem_of_getElem? ht1)) rt1 rt2 (by show X.A.units+1+n<cLine;omega) ru1 ru2
theorem lk_mem:∀{m:List (Str×T)},(m.map (·.1)).Nodup→∀{z:Str} {t:T},(z,t)∈m→m.lookup z=some t
 |[],_,_,_,h=>by cases h
 |p::r,nd,z,t,h=>by
  rw[List.map_cons,List.nodup_cons]at nd
  rw[List.lookup_cons]
  rcases List.mem_cons.mp h with e|h
  ·rw[←e];simp
  ·have:¬(z==p.1)=true:=fun e=>nd.1 (by rw[←eq_of_beq e];exact List.mem_map_of_mem (f:=(·.1)) h)
   rw[Bool.not_eq_true]at this
   rw[this]
   exact lk_mem nd.2 h
open PySem.W in
theorem hits_R {X:Cx}{pins:List (Addr×Obj)}{σ:L2.St}{H:Hp}{s:Shared}(I:Inv X pins σ H s){n:Nat}{A:Around}(hu:A.units+n<cLine){kb:List (Key×V)}{vb:List (Key×Value)}{m:List (Str×T)}(rel:KV kb vb)(db:DReps H kb m)(nd:(m.map (·.1)).Nodup)(hd:∀p∈m,DpT n p.2)
  {sub:List (Key×V)} {ms:List (Str×T)} (ds:DReps H sub ms):∀{va:List (Key×Value)},KV sub va→(∀p∈ms,p∈m)→KeqHits A s vb va true:=by
 induction ms generalizing sub with
 |nil=>
  intro va kv _
  cases ds
  cases kv
  exact .nil
 |cons p ms ih=>
  intro va kv hm
  obtain⟨z,t⟩:=p
  cases ds with
  |@cons _ x _ kvs _ r dq=>
  cases kv with
  |@cons _ q2 _ va1 h q=>
  obtain⟨k1,v1⟩:=q2
  obtain⟨h1,h2⟩:=h
  have h1':(Sum.inr z:Key)=k1:=h1
  subst h1'
  have h2':RelV x v1:=h2
  have ihh:=ih dq q fun p hp=>hm p (List.mem_cons_of_mem _ hp)
  have lk:m.lookup z=some t:=lk_mem nd (hm _ List.mem_cons_self)
  rcases db.get z with ⟨_,g⟩|⟨v',t',g1,g2,rv⟩
  ·rw[lk]at g;cases g
  rw[lk]at g2
  cases g2
  have hv:=rel.val (Sum.inr z)
  rw[g1]at hv
  cases hy:valueAt vb (Sum.inr z:Key) with
  |none=>rw[hy]at hv;exact hv.elim
  |some y=>
   rw[hy]at hv
   have hv':RelV v' y:=hv
   exact .hit (e:=true) (b:=true) hy (eqAt_R I n (hd _ (hm _ List.mem_cons_self)) r rv hu h2' hv') ihh
open PySem.W in
theorem op_neDR {X:Cx}(hu:X.A.units+60<cLine):OpR X (compareOp .NotEq) (fun x y H Q=>∃(n:Nat) (a b:Addr) (m:List (Str×T)),x=.ref a∧y=.ref b∧DictL H a m∧DictL H b m∧(∀p∈m,DpT n p.2)∧n≤50∧Q (.bl false) H):=by
 intro pins s σ H x y v u Q I rx ry h
 obtain⟨n,a,b,m,rfl,rfl,⟨ka,ha,da⟩,⟨kb,hb,db⟩,hd,hn,q⟩:=h
 cases rx
 cases ry
 obtain⟨z1,d1,va,rel1,dd1⟩:=dk_of I.hok ha
 obtain⟨z2,d2,vb,rel2,dd2⟩:=dk_of I.hok hb
 have l1:=rel1.length
 have l2:=rel2.length
 have l3:=da.length
 have l4:=db.length
 have nd:(m.map (·.1)).Nodup:=by
  obtain⟨ep,hat⟩:=dd2.dictAt
  have n0:=hat.nodup
  rw[←rel2.keys,db.keys]at n0
  have e:(m.map fun x=>(Sum.inr x.1:Key))=(m.map (·.1)).map (fun z=>(Sum.inr z:Key)):=by rw[List.map_map];rfl
  rw[e]at n0
  exact(List.pairwise_map.mp n0).imp fun h e=>h (by rw[e])
 refine keq_ne d1 d2 dd1 dd2 (by omega) (r:=true) (fun _=>hits_R I (n:=n) (by show X.A.units+1+n<cLine;omega) rel2 db nd hd da rel1 fun _ h=>h) ?_
 rw[show va.length=vb.length by omega,beq_self_eq_true]
 exact⟨.bl false,H,I,rfl,q⟩
def facesD (d:Dr3):List Dc:=[("face","Fa", .tup (([]:List (Str×T)).map gvT)::(itsOf d.h1 d.v1).map itT),("face","Fb", .tup (gsB.map gvT)::(itsOf d.h2 d.v2).map itT),("face","Fc", .tup (gsC.map gvT)::(itsOf d.h3 d.v3).map itT)]
theorem faces_dc (d:Dr3):(facesD d).map dcT=d.fs:=rfl
def progD (d:Dr3)(W:List Wt)(bs:List (List T))(b2 b3:List T)(p o:Str):List Dc:=sortsD++facesD d++rowsD W bs b2 b3 p o
theorem by_app (a b:List Dc)(z:Str):byName (a++b) z=byName a z++byName b z:=by unfold byName;rw[List.filter_append,List.map_append]
theorem by_part (xs:List (Wt×List T)){z:Str}(h:("part":Str)≠z):byName (xs.map partD) z=[]:=by
 unfold byName
 rw[List.map_eq_nil_iff,List.filter_eq_nil_iff]
 intro x hx
 obtain⟨y,_,rfl⟩:=List.mem_map.mp hx
 simp[partD,h]
theorem w_ne:("part":Str)≠"face"∧("part":Str)≠"maker":=by decide+kernel
theorem by_face (d:Dr3)(W:List Wt)(bs:List (List T))(b2 b3:List T)(p o:Str):byName (progD d W bs b2 b3 p o) "face"=[(("Fa":Str),faceT "Fa" [] d.h1 d.v1),(("Fb":Str),faceT "Fb" gsB d.h2 d.v2),(("Fc":Str),faceT "Fc" gsC d.h3 d.v3)]:=by
 unfold progD rowsD
 rw[by_app,by_app,by_app,by_app,by_part _ w_ne.1]
 rfl
theorem by_maker (d:Dr3)(W:List Wt)(bs:List (List T))(b2 b3:List T)(p o:Str):byName (progD d W bs b2 b3 p o) "maker"=[(("Ma":Str),dcT (mkrD "Ma" gsMa ["Fb","Y"] b2)),(("Mb":Str),dcT (mkrD "Mb" gsMb ["Fc","Z","X"] b3))]:=by
 unfold progD rowsD
 rw[by_app,by_app,by_app,by_app,by_part _ w_ne.2]
 rfl
def osD (W:List Wt)(p o:Str):List (Option (Str×T)):=([none,none,none]++[none,none,none])++((W.map fun w=>some (w.n,wF w))++[none,none]++[some (("Qa":Str),wF ⟨"Qa","Fb",[p]⟩),some (("Qb":Str),wF ⟨"Qb","Fc",[o,"Qa"]⟩)])
theorem os_due (W:List Wt)(p o:Str):(osD W p o).filterMap id=dueM (duesD W p o):=by
 unfold osD dueM duesD
 rw[List.filterMap_append,List.filterMap_append,List.filterMap_append,List.filterMap_append,List.map_append,List.filterMap_map]
 have e:(W.filterMap (id∘fun w=>some (w.n,wF w)))=W.map fun w=>(w.n,wF w):=by
  rw[←List.filterMap_eq_map]
  rfl
 rw[e]
 show[]++((W.map fun w=>(w.n,wF w))++[]++_)=_
 rw[List.nil_append,List.append_nil]
 rfl
theorem ap_a {p:Str}(h:p∈fB):apT gsMa [p] "Fb" "Y" []=wF ⟨"Qa","Fb",[p]⟩:=by
 rcases List.mem_cons.mp h with rfl|h
 ·first|rfl|(with_unfolding_all rfl)|kernel_rfl
 ·rcases List.mem_singleton.mp h with rfl
  first|rfl|(with_unfolding_all rfl)|kernel_rfl
theorem ap_b {o:Str}(h:o∈fB):apT gsMb [o,"Qa"] "Fc" "Z" ["X"]=wF ⟨"Qb","Fc",[o,"Qa"]⟩:=by
 rcases List.mem_cons.mp h with rfl|h
 ·first|rfl|(with_unfolding_all rfl)|kernel_rfl
 ·rcases List.mem_singleton.mp h with rfl
  first|rfl|(with_unfolding_all rfl)|kernel_rfl
theorem fb_pn:∀z∈fB,z∈PN∧z.length≤80:=by decide+kernel
theorem mkr_len:(∀u∈(["Fb","Y"]:List Str),u.length≤80)∧(∀u∈(["Fc","Z","X"]:List Str),u.length≤80)∧("Qa":Str).length≤80∧(gsMa.map (·.1)).Nodup∧(gsMb.map (·.1)).Nodup:=by decide+kernel
theorem sort_ne2:("kind":Str)≠"part"∧("kind":Str)≠"apply"∧("record":Str)≠"part"∧("record":Str)≠"apply"∧("face":Str)≠"part"∧("face":Str)≠"apply"∧("maker":Str)≠"part"∧("maker":Str)≠"apply":=by decide+kernel
theorem parts_dok (mm:List (Str×T)):∀(W:List Wt) (bs:List (List T)),bs.length=W.length→DOks mm ((W.zip bs).map partD) (W.map fun w=>some (w.n,wF w))
 |[],_,_=>.nil
 |w::W,[],h=>by simp at h
 |w::W,b::bs,h=>by
  refine .cons ?_ (parts_dok mm W bs (by simpa using h))
  have:=DOk.part (mm:=mm) (n:=w.n) (t:=toldT w.F w.us) (r:=b)
  rw[told_hd]at this
  exact this
theorem prog_dok {d:Dr3}{W:List Wt}{bs:List (List T)}{b2 b3:List T}{p o:Str}(lb:bs.length=W.length)(hp:p∈fB)(ho:o∈fB):DOks (byName (progD d W bs b2 b3 p o) "maker") (progD d W bs b2 b3 p o) (osD W p o):=by
 obtain⟨m1,m2,m3,m4,m5⟩:=mkr_len
 obtain⟨s1,s2,s3,s4,s5,s6,s7,s8⟩:=sort_ne2
 have hA:DOk (byName (progD d W bs b2 b3 p o) "maker") ("apply","Qa", .str "Ma"::([p]:List Str).map T.str) (some ("Qa",apT gsMa [p] "Fb" "Y" [])):=.app (r:=b2) (by rw[by_maker];rfl) rfl (by decide) m4 (fun u hu=>by rw[List.mem_singleton.mp hu];exact(fb_pn p hp).2) m1 (by decide)
 have hB:DOk (byName (progD d W bs b2 b3 p o) "maker") ("apply","Qb", .str "Mb"::([o,"Qa"]:List Str).map T.str) (some ("Qb",apT gsMb [o,"Qa"] "Fc" "Z" ["X"])):=.app (r:=b3) (by rw[by_maker];rfl) rfl (by decide) m5 (fun u hu=>by
  rcases List.mem_cons.mp hu with e|hu
  ·rw[e];exact(fb_pn o ho).2
  ·rw[List.mem_singleton.mp hu];exact m3) m2 (by decide)
 rw[ap_a hp]at hA
 rw[ap_b ho]at hB
 revert hA hB
 generalize byName (progD d W bs b2 b3 p o) "maker"=mm
 intro hA hB
 unfold progD osD rowsD
 refine DOks.append (DOks.append ?_ ?_) (DOks.append (DOks.append (parts_dok mm W bs lb) ?_) ?_)
 ·exact .cons (.other s1 s2) (.cons (.other s1 s2) (.cons (.other s3 s4) .nil))
 ·exact .cons (.other s5 s6) (.cons (.other s5 s6) (.cons (.other s5 s6) .nil))
 ·exact .cons (.other s7 s8) (.cons (.other s7 s8) .nil)
 ·exact .cons hA (.cons hB .nil)
theorem due_nd {W:List Wt}{p o:Str}(wok:WOk W):((dueM (duesD W p o)).map (·.1)).Nodup:=by
 obtain⟨h1,h2,h3,_⟩:=wn_nd wok
 have e:(dueM (duesD W p o)).map (·.1)=W.map (·.n)++(["Qa","Qb"]:List Str):=by
  unfold dueM duesD
  rw[List.map_map,List.map_append]
  rfl
 rw[e]
 refine List.nodup_append.mpr ⟨h1,by decide+kernel,fun a ha b hb e=>?_⟩
 rcases List.mem_cons.mp hb with z|hb
 ·rw[e,z]at ha;exact h2 ha
 ·rw[e,List.mem_singleton.mp hb]at ha;exact h3 ha
theorem due_fu {W:List Wt}{p o:Str}(wok:WOk W)(hp:p∈fB)(ho:o∈fB):∀w∈duesD W p o,FU w.F w.us∧w.n∈PN:=fun w hw=>by
 rcases List.mem_append.mp hw with h|h
 ·exact⟨wok.fu w h,(wn_nd wok).2.2.2 _ (List.mem_map_of_mem (f:=(·.n)) h)⟩
 ·rcases List.mem_cons.mp h with rfl|h
  ·exact⟨.b (fb_pn p hp).1,by show("Qa":Str)∈PN;decide+kernel⟩
  ·rcases List.mem_singleton.mp h with rfl
   exact⟨.c (fb_pn o ho).1 (by decide+kernel),by show("Qb":Str)∈PN;decide+kernel⟩
def spLaw (PtM Pt:Addr)(K:PySem.W.Frag):Sp:=fun vs H Q _=>∃(a:Addr) (ns:List Int),vs=[.ref a]∧SqL K H a (ns.map V.int)∧ns.length≤63∧H PtM=some (.tbl #[])∧H Pt=some (.tbl #[])∧∀H',Q (.bl true) H'
theorem sqL_same {K:PySem.W.Frag}{H H':Hp}{a:Addr}{xs:List V}(h:SqL K H a xs)(e:Same H H'):SqL K H' a xs:=by
 rcases h with (h|⟨o,h⟩)|h
 ·exact .inl (.inl (e _ _ h))
 ·exact .inl (.inr ⟨o,e _ _ h⟩)
 ·exact .inr h
theorem TbOk.keep {Pt d:Addr}{q:Str}{pos:Pos}{H H':Hp}{u:HO}(h:TbOk Pt q pos H)(e:H d=some u)(n1:∀ps,u≠.tbl ps)(n2:∀c o,u≠objO c o)(k:∀b o,b≠d→H b=some o→H' b=some o):TbOk Pt q pos H':=by
 rcases h with h|⟨c',oc,h1,h2,h3⟩
 ·exact .inl (k _ _ (fun z=>by rw[z,e]at h;exact n1 _ (Option.some.inj h)) h)
 ·exact .inr ⟨c',oc,k _ _ (fun z=>by rw[z,e]at h1;exact n1 _ (Option.some.inj h1)) h1,k _ _ (fun z=>by rw[z,e]at h2;exact n2 _ _ (Option.some.inj h2)) h2,h3⟩
theorem FU.get2 {F:Str}{us:List Str}(h:FU F us){d:Dr3}(ok:D3Ok d)(W:List Wt)(bs:List (List T))(b2 b3:List T)(p o:Str):∃gs at_ hds vals,(fmapD d).lookup F=some (fT gs hds vals)∧(byName (progD d W bs b2 b3 p o) "face").lookup F=some (faceT F gs hds vals)∧FaceD at_ hds vals∧gs.length=us.length∧gs.length≤100∧(gs.map (·.1)).Nodup∧(∀u∈us,u∈PN):=by
 rw[by_face]
 cases h with
 |a=>exact⟨_,_,_,_,rfl,rfl,ok.f1,rfl,by decide,by decide,fun _ h=>nomatch h⟩
 |b h=>exact⟨_,_,_,_,rfl,rfl,ok.f2,rfl,by decide,by decide,fun u hu=>by rw[List.mem_singleton.mp hu];exact h⟩
 |c h1 h2=>exact⟨_,_,_,_,rfl,rfl,ok.f3,rfl,by decide,by decide,fun u hu=>by
   rcases List.mem_cons.mp hu with e|hu
   ·rw[e];exact h1
   ·rw[List.mem_singleton.mp hu];exact h2⟩
theorem bd3:BD 3≤100000:=by decide
theorem kdH {at_ hds:List (Str×Nat)}{vals:List (Str×T)}(FD:FaceD at_ hds vals):∀x∈itemsM (itsOf hds vals) "val",KdOk (AtW (fun _=>True) (hidesOf (itsOf hds vals))) x.2:=fun x hx=>by
 rw[its_val]at hx
 obtain⟨k,s,at1⟩:=(FD.kd x hx).kd FD.A
 refine⟨3,k,Nat.le_trans s bd3,fun p hp z l e=>?_⟩
 unfold AtW
 split
 ·trivial
 ·exact at1 p hp z l e
theorem kd3 {at_ hds:List (Str×Nat)}{vals:List (Str×T)}(FD:FaceD at_ hds vals){name:Str}{gs:List (Str×T)}{us:List Str}(upn:∀u∈us,u∈PN)(hn:name∈PN)(hs:List Str):∀x∈vals,KD 3 (remT (gMd (gHd name) hs (byOf gs us)) x.2)∧(remT (gMd (gHd name) hs (byOf gs us)) x.2).sz≤100000:=fun x hx=>by
 obtain⟨k,s⟩:=remT_kd FD.A (gMd_ok (byOk_of upn) hn hs) (FD.kd x hx)
 exact⟨k,Nat.le_trans s bd3⟩
theorem kdM {at_ hds:List (Str×Nat)}{vals:List (Str×T)}(FD:FaceD at_ hds vals){name:Str}{gs:List (Str×T)}{us:List Str}(upn:∀u∈us,u∈PN)(hn:name∈PN):∀x∈kindsM (gHd name) (itsOf hds vals) gs us,∃n,KD n x.2∧x.2.sz≤100000:=fun x hx=>by
 unfold kindsM at hx
 rw[its_val]at hx
 obtain⟨y,hy,rfl⟩:=List.mem_map.mp hx
 exact⟨3,kd3 FD upn hn _ y hy⟩
theorem dpM {at_ hds:List (Str×Nat)}{vals:List (Str×T)}(FD:FaceD at_ hds vals){name:Str}{gs:List (Str×T)}{us:List Str}(upn:∀u∈us,u∈PN)(hn:name∈PN):∀x∈shownM name (itsOf hds vals) gs us,DpT 4 x.2:=fun x hx=>by
 rw[shown_eq]at hx
 obtain⟨y,hy,rfl⟩:=List.mem_map.mp hx
 refine .tup fun t ht=>?_
 rcases List.mem_cons.mp ht with e|ht
 ·rw[e];exact DpT.words
 ·rw[List.mem_singleton.mp ht];exact(kd3 FD upn hn _ y hy).1.dp
theorem kit_dict (K:PySem.W.Frag):PySem.W.kitOne K (.type "dict") (.type "dict")=some true:=by first|rfl|(with_unfolding_all rfl)|kernel_rfl
structure Fq where
 n:Str
 gs:List (Str×T)
 h:List (Str×Nat)
 v:List (Str×T)
def Fq.f (q:Fq):T:=faceT q.n q.gs q.h q.v
def Fq.p (q:Fq):Str×T:=(q.n,fT q.gs q.h q.v)
def Dr3.qs (d:Dr3):List Fq:=[⟨"Fa",[],d.h1,d.v1⟩,⟨"Fb",gsB,d.h2,d.v2⟩,⟨"Fc",gsC,d.h3,d.v3⟩]
theorem qs_f (d:Dr3):d.fs=d.qs.map Fq.f:=rfl
theorem qs_p (d:Dr3):fmapD d=d.qs.map Fq.p:=rfl
theorem qs_n (d:Dr3):(d.qs.map (·.n)).Nodup∧∀q∈d.qs,q.n.length≤80:=by
 have:d.qs.map (·.n)=(["Fa","Fb","Fc"]:List Str):=rfl
 refine⟨by rw[this];decide+kernel,fun q hq=>?_⟩
 have h:=List.mem_map_of_mem (f:=(·.n)) hq
 rw[this]at h
 revert h
 generalize q.n=z
 intro h
 have h0:∀z∈(["Fa","Fb","Fc"]:List Str),z.length≤80:=by decide+kernel
 exact h0 z h
theorem nodup_snoc {α β:Type}{l:List α}{i:Nat}{x:α}(f:α→β)(h:(l.map f).Nodup)(hx:l[i]?=some x):f x∉(l.take i).map f:=fun hm=>by
 have e2:l.map f=(l.take i).map f++(l.drop i).map f:=by rw[←List.map_append,List.take_append_drop]
 rw[e2]at h
 have e3:f x∈(l.drop i).map f:=by
  refine List.mem_map_of_mem ?_
  rw[List.mem_iff_getElem?]
  exact⟨0,by rw[List.getElem?_drop,Nat.add_zero];exact hx⟩
 exact(List.nodup_append.mp h).2.2 _ hm _ e3 rfl
section
variable {P:Program}{w:World}{K:PySem.W.Frag}{mg:Str→Option Value}{base:Heap}{f C fI fS fF PtM Pt:Addr}{fd gI gS gF:FuncData}
abbrev s_law:Stmt:=top 47
abbrev nLaw:List Str:=["_law_script","_law_state_here","_law_told_here","_law_faces","_law_row","_law_rows_here","_law_due","_law_program","_law_got","_law_turn","_law_name","_law_form","_law_seen_rows"]
theorem sc_law:FnScope nLaw ["_law_script"] (defScope s_law):=⟨rfl,rfl,rfl,by decide+kernel,rfl,by decide+kernel,by decide+kernel⟩
set_option maxHeartbeats 4000000 in
theorem ok_law (F:Fun K "law" "law" s_law f fd)(Tx:TxC K C)(Mm:Mk K C fI)(GI:FnOk P w K mg base CX0 4 fI gI ["self","program"] (spInit C))(bI:Binds K gI ["self","program"] [])(hC:mg "Faces"=some (.ref C))
  (MS:Meth K C "shows" fS) (GS:FnOk P w K mg base CX0 10 fS gS ["self","part"] (spShows C PtM Pt)) (bS:Binds K gS ["self","part"] []) (MF:Meth K C "face_of" fF) (GF:FnOk P w K mg base CX0 1 fF gF ["self","part"] (spFaceOf C)) (bF:Binds K gF ["self","part"] [])
  (mr:mg "range"=none) (ml:mg "len"=none) (mt:mg "tuple"=none) (mi:mg "isinstance"=none) (mD:mg "dict"=none) (h0:Has P w K mg base 1 "_law_state" ["_law_cell","_law_way"] spState) (h1:Has P w K mg base 1 "_law_sum" ["_law_script"] (spSum K))
  (h2:Has P w K mg base 7 "_law_drawn_faces" ["_law_state_here"] spFaces) (h3:Has P w K mg base 2 "_law_rows" ["_law_state_here","_law_faces"] spRows) (h4:Has P w K mg base 1 "_law_sorts" [] spSorts) (h5:Has P w K mg base 7 "_law_shown" ["_law_faces","_law_name","_law_form"] spShown):FnOk P w K mg base CX0 11 f fd ["_law_script"] (spLaw PtM Pt K):=by
 refine F.ok sc_law (len:=fun vs H Q E h=>(by obtain⟨a,ns,rfl,_⟩:=h;rfl)) (fun cdv A outer s H vs Q E hr h=>?_)
 obtain⟨a,ns,rfl,hS,h63,hPM,hPt,q⟩:=h
 have hu:=hu_of hr
 have hu60:∀{A:Around},Room 10 A→A.units+60<cLine:=fun{A} hr=>Nat.lt_of_le_of_lt (Nat.add_le_add_left (by decide) _) hr.units
 refine⟨_,pss_cons (pset 1 sc_law.nd (pcall h0 hr (by decide) rfl (pa_cons (pcall h1 hr (by decide) rfl (pa_cons (pv 0) pa_nil)) (pa_cons (pe_callB (clen K) rfl ml PySem.boot_len (pa_cons (pv 0) pa_nil)) pa_nil))))
  (pss_cons (pset 2 sc_law.nd (pcall h2 hr (by decide) rfl (pa_cons (pv 1) pa_nil)))
  (pss_cons (pset 3 sc_law.nd pe_dnewK)
  (pss_cons (ps_for PassesOwn.never rfl (piL K (pv 2)) (pg_name (i:=4) sc_law.nd rfl (Or.inl rfl))
   (pss_one (ps_dput hu (pv 3) (pe_ix (ixT K) (pv 4) pe_int) (pe_tup (pa_cons (pe_ix (ixT K) (pv 4) pe_int) (pa_cons (pe_slice sl_tup (pv 4) (po_some pe_int) po_none) pa_nil))) rfl)))
  (pss_cons (ps_asg (pcall h3 hr (by decide) rfl (pa_cons (pv 1) (pa_cons (pv 3) pa_nil))) (pgT K (n:=2) rfl (pgs_cons (pg_name (i:=5) sc_law.nd rfl (Or.inl rfl)) (pgs_cons (pg_name (i:=6) sc_law.nd rfl (Or.inl rfl)) pgs_nil))))
  (pss_cons (pset 7 sc_law.nd (pe_callTy (ctup K) rfl mt boot_tuple (pa_cons (pe_op op_cat (pe_op op_cat (pe_op op_cat (pcall0 h4 hr (by decide) rfl) (pv 2)) (pv 5)) (pe_lst (pa_cons (pe_tup (pa_cons pe_str (pa_cons pe_int pa_nil))) pa_nil))) pa_nil)))
  (pss_cons (pset 8 sc_law.nd (pe_make Mm GI (hr.mono (by decide)) rfl hC bI .nil pass0 (pa_cons (pv 7) pa_nil)))
  (pss_cons (ps_for PassesOwn.never rfl (pi_range1 rfl mr (pa_cons pe_int pa_nil)) (pg_name (i:=9) sc_law.nd rfl (Or.inl rfl))
   (pss_one (ps_frz (ps_for PassesOwn.never rfl (pi_items (pv 6)) (pgT K (n:=2) rfl (pgs_cons (pg_name (i:=10) sc_law.nd rfl (Or.inl rfl)) (pgs_cons (pg_name (i:=11) sc_law.nd rfl (Or.inl rfl)) pgs_nil)))
    (pss_cons (pset 12 sc_law.nd (pe_meth (pv 8) Tx.cs MS GS hr bS .nil pass0 (pa_cons (pv 10) pa_nil)))
    (pss_cons (ps_if (PW.pt (pw_or (pt_cmpR (op_neR (hu60 hr)) (pe_meth (pv 8) Tx.cs MF GF (hr.mono (by decide)) bF .nil pass0 (pa_cons (pv 10) pa_nil)) (pv 11) (nomark _)) (pw_or1 (pt_not (pt_val (pe_callB call_isi rfl mi boot_isinstance (pa_cons (pv 12) (pa_cons (pe_bltn (v:=.ty "dict") rfl mD boot_dict' rfl) pa_nil)))))))) (pss_one (ps_ret pe_bl)) pss_nil)
    (pss_cons (ps_if (pt_cmpR (op_neDR (hu60 hr)) (pv 12) (pcall h5 hr (by decide) rfl (pa_cons (pv 3) (pa_cons (pv 10) (pa_cons (pv 11) pa_nil)))) (nomark _)) (pss_one (ps_ret pe_bl)) pss_nil)
    (pss_one (ps_dput hu (pv 12) pe_str pe_int rfl)))))))))
  (pss_one (ps_ret pe_bl))))))))),?_⟩
 refine⟨_,rfl,a,ns,rfl,hS,h63,fun i H1 s1=>⟨_,rfl,a,_,rfl, .inl (sqL_same hS s1),i,_,rfl,fun st H2 s2 hst0 okst=>?_⟩⟩
 refine⟨_,rfl,st,rfl,okst,fun lt fvs d H3 g3 hlt nlt hlt0 rf D3=>?_⟩
 refine fun fa hfa=>?_
 obtain⟨H4,eH4,s4,hfa4⟩:=nw hfa (.dK [])
 rw[eH4]
 have ok3:=g3.ok
 have ok4:=ok3.same s4
 have hlt4:=s4 _ _ hlt
 have rf4:=rf.same s4
 rw[qs_f]at rf4
 have lfv:fvs.length=3:=rf4.length
 have nfa:fa≠st:=ok3.ne_none hfa
 have nltf:lt≠fa:=ne_of_none hlt hfa
 obtain⟨qn1,qn2⟩:=qs_n d
 refine⟨_,rfl,lt,rfl,⟨_,SqL.of hlt4⟩,for_list (xs:=fvs) (fun i σ H'=>∃(o4:Option V) (kf:List (Key×V)),σ=[some (.ref a),some (.ref st),some (.ref lt),some (.ref fa),o4,none,none,none,none,none,none,none,none]∧(∀c o,c≠fa→H4 c=some o→H' c=some o)∧H' fa=some (.dK kf)∧DReps H' kf ((d.qs.take i).map Fq.p))
  ⟨none,[],rfl,fun _ _ _ h=>h,hfa4, .nil⟩ ?_ ?_ ?_⟩
 ·rintro i σ H' hi ⟨o4,kf,rfl,g,_⟩
  exact SqL.of (g _ _ nltf hlt4)
 ·rintro i x σ H' hx ⟨o4,kf,rfl,g,hf,dr⟩
  obtain⟨t,ht,rt⟩:=rf4.at3 hx
  rw[List.getElem?_map]at ht
  cases hg:d.qs[i]? with
  |none=>rw[hg]at ht;cases ht
  |some q=>
  rw[hg]at ht
  cases ht
  have i3:i<3:=by have:=(List.getElem?_eq_some_iff.mp hx).1;omega
  have tup':∀b xs,H4 b=some (.tup xs)→H' b=some (.tup xs):=fun b xs e=>g b _ (ne_of e hfa4 (by intro z;cases z)) e
  have rt':=rt.mono tup'
  have ldr:=dr.length
  rw[List.length_map,List.length_take]at ldr
  cases rt' with
  |@tup c ys _ hc rys=>
  obtain⟨zs,ez,rz,lz⟩:=its_drop H' hc rys
  cases rys with
  |@cons x0 _ xr0 _ y0 yy0=>
  cases yy0 with
  |@cons x1 _ xr1 _ y1 yy1=>
  cases yy1 with
  |@cons x2 _ xr2 _ y2 yy2=>
  cases y1
  refine⟨_,rfl,c,_,2,x2,rfl,rfl,SqT.of hc,atI_nat (j:=2) rfl,_,rfl,3,rfl,c,_,rfl,SqT.of hc,cutq_not (n:=3) (by simp) (by decide),fun p1 hp1=>?_⟩
  rw[ez]
  have t1:=same_new hp1 (.tup zs)
  refine⟨sml 2,fun p2 hp2=>?_⟩
  have t2:=same_new hp2 (.tup [x2, .ref p1])
  have t12:=t1.trans t2
  have hf2:=t12 _ _ hf
  refine⟨_,rfl,_,rfl,c,_,1, .str q.n,rfl,rfl,SqT.of (t12 _ _ hc),atI_nat (j:=1) rfl,fa,_,rfl,DPut.k (k:=Sum.inr q.n) hf2 (small' (by omega)),?_⟩
  have nk:valV kf (Sum.inr q.n)=none:=by
   rcases dr.get q.n with ⟨h',_⟩|⟨v',t'',_,h',_⟩
   ·exact h'
   ·exfalso
    have hm:=List.mem_map_of_mem (f:=(·.1)) (mem_of_lookup' h')
    rw[List.map_map]at hm
    exact nodup_snoc (·.n) qn1 hg hm
  rw[putK_new _ nk]
  have tu:∀b xs,(upd (upd H' p1 (.tup zs)) p2 (.tup [x2, .ref p1])) b=some (.tup xs)→(upd (upd (upd H' p1 (.tup zs)) p2 (.tup [x2, .ref p1])) fa (.dK (kf++[((Sum.inr q.n:Key),V.ref p2)]))) b=some (.tup xs):=fun b xs e=>by rw[upd_ne (ne_of e hf2 (by intro z;cases z))];exact e
  refine⟨_,_,rfl,fun c' o n e=>by rw[upd_ne n];exact t12 _ _ (g c' o n e),upd_same,?_⟩
  rw[take_next hg,List.map_append]
  have rz2:=(rz.same t12).mono tu
  have ry2:=(y2.same t12).mono tu
  exact DReps.snoc (.tup (tu _ _ upd_same) (.cons ry2 (.cons (.tup (tu _ _ (t2 _ _ upd_same)) rz2) .nil))) ((dr.mono (Same.tups t12)).mono tu)
 rintro σ H5 ⟨o4,kf,rfl,g5,hf5,dr5⟩
 rw[List.take_of_length_le (by rw[lfv];exact Nat.le_refl _),←qs_p]at dr5
 have tup5:∀b xs,H4 b=some (.tup xs)→H5 b=some (.tup xs):=fun b xs e=>g5 b _ (ne_of e hfa4 (by intro z;cases z)) e
 have ok5:StOk H5 st:=by
  obtain⟨x,y,h⟩:=ok4
  exact⟨x,y,g5 _ _ (Ne.symm nfa) h⟩
 have hlt5:=g5 _ _ nltf hlt4
 have rf5:=rf4.mono tup5
 have Df5:DictL H5 fa (fmapD d):=⟨kf,hf5,dr5⟩
 refine⟨_,rfl,_,rfl,st,fa,d,rfl,ok5,Df5,D3,fun pt lr ld rvs W bs b2 b3 p o H6 g6 hpt hlr rr Dd wok lb hp ho nlr=>?_⟩
 refine⟨pt,_,rfl,SqT.of hpt,rfl,_,_,rfl,_,_,rfl,rfl,?_⟩
 have hlt6:=g6.1 _ _ nlt hlt5
 have rf6:=rf5.grow g6 ok5
 have Df6:DictL H6 fa (fmapD d):=⟨kf,g6.1 _ _ nfa hf5,dr5.mono (g6.tups ok5)⟩
 have ok6:=g6.ok
 have lrv:=rr.length
 have lW:W.length≤5:=by
  obtain⟨fs,ss,h1,h2,h3⟩:=wok.nm
  have h4:=congrArg List.length h3
  rw[List.length_map,List.length_append,List.length_append]at h4
  rcases h1 with rfl|rfl<;>rcases h2 with rfl|rfl<;>simp at h4<;>omega
 have lrv2:rvs.length≤9:=by
  rw[lrv,List.length_map]
  unfold rowsD apsD
  rw[List.length_append,List.length_append,List.length_map,List.length_zip]
  show _+2+2≤9
  omega
 refine⟨rfl,fun ls svs H7 s7 hls0 hls rs=>⟨_,rfl,ls,lt,_,_,rfl,rfl,hls,s7 _ _ hlt6,?_,fun l1 hl1=>?_⟩⟩
 ·have:=rs.length
  exact small (by rw[this,lfv];show 3+3≤1000000;decide)
 have lsv:svs.length=3:=rs.length
 have t8:=same_new hl1 (.lst (svs++fvs))
 obtain⟨H8,eH8,s8,hl18⟩:=nw hl1 (.lst (svs++fvs))
 rw[eH8]
 refine⟨_,rfl,l1,lr,_,_,rfl,rfl,hl18,s8 _ _ (s7 _ _ hlr),small (by rw[List.length_append,lsv,lfv];omega),fun l2 hl2=>?_⟩
 obtain⟨H9,eH9,s9,hl29⟩:=nw hl2 (.lst (svs++fvs++rvs))
 rw[eH9]
 refine⟨sml 2,fun pm hpm=>?_⟩
 obtain⟨H10,eH10,s10,hpm10⟩:=nw hpm (.tup [V.str "main",V.int 5])
 rw[eH10]
 refine⟨sml 1,fun lm hlm=>?_⟩
 obtain⟨H11,eH11,s11,hlm11⟩:=nw hlm (.lst [V.ref pm])
 rw[eH11]
 refine⟨l2,lm,_,_,rfl,rfl,s11 _ _ (s10 _ _ hl29),hlm11,small (by rw[List.length_append,List.length_append,lsv,lfv];show 3+3+rvs.length+1≤1000000;omega),fun l3 hl3=>?_⟩
 obtain⟨H12,eH12,s12,hl312⟩:=nw hl3 (.lst (svs++fvs++rvs++[V.ref pm]))
 rw[eH12]
 refine⟨l3,_,rfl, .inl ⟨SqL.of hl312,fun pp hpp=>?_⟩⟩
 obtain⟨H13,eH13,s13,hpp13⟩:=nw hpp (.tup (svs++fvs++rvs++[V.ref pm]))
 rw[eH13]
 have s6_13:Same H6 H13:=((((((s7.trans s8).trans s9).trans s10).trans s11).trans s12).trans s13)
 have rp:Reps H13 (svs++fvs++rvs++[V.ref pm]) ((progD d W bs b2 b3 p o).map dcT++[mainT]):=by
  unfold progD
  rw[List.map_append,List.map_append,faces_dc,qs_f]
  refine(((rs.same ?_).append (rf6.same s6_13)).append (rr.same s6_13)).append (.cons (.tup ((s11.trans (s12.trans s13)) _ _ hpm10) (.cons (.str _ (by decide+kernel)) (.cons (.int _) .nil))) .nil)
  exact((((s8.trans s9).trans s10).trans s11).trans s12).trans s13
 refine⟨_,rfl,fun got dx hgot hdx ngd=>⟨got,dx,pp,svs++fvs++rvs++[V.ref pm],progD d W bs b2 b3 p o,osD W p o,rfl,upd_same,?_,?_,?_,?_,?_,prog_dok lb hp ho,?_,fun H14 k14 LF=>⟨rfl,?_⟩⟩⟩
 ·rw[upd_ne (ne_of_none hpp13 hgot),upd_ne (ne_of_none hpp13 hdx)];exact hpp13
 ·refine rp.mono fun b xs e=>?_
  rw[upd_ne (ne_of_none e hgot),upd_ne (ne_of_none e hdx)];exact e
 ·have:=rp.length
  rw[List.length_append,List.length_append,List.length_append,List.length_append,List.length_map,lsv,lfv]at this
  show _≤1000
  change 3+3+rvs.length+1=_+1 at this
  omega
 ·rw[by_face];show(["Fa","Fb","Fc"]:List Str).Nodup;decide+kernel
 ·rw[by_maker];show(["Ma","Mb"]:List Str).Nodup;decide+kernel
 ·rw[os_due];exact due_nd wok
 rw[os_due]at LF
 obtain⟨dxg,dg1,dg2,dg3,hg0,hg1,hg2,hg3,fg1,fg2,fg3⟩:=LF.ob
 have s14:Same H13 H14:=fun b o h=>k14 b o (ne_of_none h hgot) (by rw[upd_ne (ne_of_none h hgot),upd_ne (ne_of_none h hdx)];exact h)
 have s6_14:=s6_13.trans s14
 have tbk:∀x,H x=some (.tbl #[])→H14 x=some (.tbl #[]):=fun x hx=>by
  have ns:∀{K:Hp},StOk K st→K x=some (.tbl #[])→x≠st:=fun k e z=>by obtain⟨_,_,h⟩:=k;rw[z,h]at e;cases e
  have x2:=s2 _ _ (s1 _ _ hx)
  have x4:=s4 _ _ (g3.1 _ _ (ns okst x2) x2)
  have x5:=g5 _ _ (ne_of x4 hfa4 (by intro z;cases z)) x4
  exact s6_14 _ _ (g6.1 _ _ (ns ok5 x5) x5)
 have tbM:TbOk PtM mdQ mdP H14:=.inl (tbk _ hPM)
 have tbL:TbOk Pt lamQ lamP H14:=.inl (tbk _ hPt)
 have Df14:=Df6.same s6_14
 obtain⟨kvs,hld,drd⟩:=Dd.same s6_14
 have lkv:=drd.length
 have hld13:=s6_13 _ _ (show H6 ld=some (.dK _) from Dd.choose_spec.1)
 have nld:∀x,(upd (upd H13 dx (.own got)) got (.ins C dx [])) x=none→x≠ld:=fun x hx z=>by
  rw[z,upd_ne (ne_of_none hld13 hgot),upd_ne (ne_of_none hld13 hdx),hld13]at hx
  cases hx
 have n1:=nld _ fg1
 have n2:=nld _ fg2
 have n3:=nld _ fg3
 have ngl:got≠ld:=fun z=>by rw[z,hld]at hg0;cases hg0
 have nfl:fa≠ld:=fun z=>by
  obtain⟨k,h1,h2⟩:=Df14
  rw[z,hld]at h1
  cases h1
  have l2:=h2.length
  have l3:(fmapD d).length=3:=rfl
  have l4:(dueM (duesD W p o)).length=W.length+2:=by
   unfold dueM duesD
   rw[List.length_map,List.length_append]
   rfl
  obtain⟨fs,ss,h3,h4,h5⟩:=wok.nm
  have h6:=congrArg List.length h5
  rw[List.length_map,List.length_append,List.length_append]at h6
  rcases h3 with rfl|rfl<;>rcases h4 with rfl|rfl<;>simp at h6<;>omega
 refine⟨(2:Int),rfl,by decide,by decide,for_range (n:=2) (fun i σ H'=>∃(o9 o10 o11 o12:Option V),σ=[some (.ref a),some (.ref st),some (.ref lt),some (.ref fa),o4,some (.ref lr),some (.ref ld),some (.ref pp),some (.ref got),o9,o10,o11,o12]∧SameT H14 H'∧TbOk PtM mdQ mdP H'∧TbOk Pt lamQ lamP H')
  ⟨_,_,_,_,rfl,SameT.refl,tbM,tbL⟩ ?_ ?_⟩
 ·rintro i' σ H' hi ⟨o9,o10,o11,o12,rfl,e',tM,tL⟩
  have hld':=e'.dK hld
  have nLM:∀{x:Addr} {q:Str} {ps:Pos},TbOk x q ps H'→∀o,TbOk x q ps (upd H' ld (.frz o (.dK kvs))):=fun h o=>h.keep hld' (by intro ps z;cases z) (by intro c o z;cases z) fun b o n e=>by rw[upd_ne n];exact e
  refine⟨ld,kvs,hld',fun fo=>⟨_,rfl,ld,fo,kvs,rfl,upd_same,for_items (fun i σ H2=>∃(o10 o11 o12:Option V),σ=[some (.ref a),some (.ref st),some (.ref lt),some (.ref fa),o4,some (.ref lr),some (.ref ld),some (.ref pp),some (.ref got),some (.int (0+(i':Int))),o10,o11,o12]∧SameT (upd H' ld (.frz fo (.dK kvs))) H2∧TbOk PtM mdQ mdP H2∧TbOk Pt lamQ lamP H2)
   ⟨_,_,_,rfl,SameT.refl,nLM tM fo,nLM tL fo⟩ ?_ ?_ ?_⟩⟩
  ·rintro j σ H2 hj ⟨o10',o11',o12',rfl,e2,_⟩
   exact e2 _ _ (by intro ps z;cases z) upd_same
  ·rintro j k v σ H2 Tp hk ⟨o10',o11',o12',rfl,e2,tM2,tL2⟩ hTp
   obtain⟨x,hx,rfl,rv⟩:=drd.at hk
   unfold dueM at hx
   rw[List.getElem?_map]at hx
   cases hg:(duesD W p o)[j]? with
   |none=>rw[hg]at hx;cases hx
   |some w1=>
   rw[hg]at hx
   cases hx
   obtain⟨fu1,n1P⟩:=due_fu wok hp ho w1 (List.mem_of_getElem? hg)
   have n1l:=(pn_of n1P).1
   obtain⟨gs,at_,hds,vals,lk1,lk2,FD,e1,e2g,ndg,upn⟩:=fu1.get2 D3 W bs b2 b3 p o
   have t1:=same_new hTp (.tup [kV (Sum.inr w1.n),v])
   obtain⟨H3,eH3,t3,hTp3⟩:=nw hTp (.tup [kV (Sum.inr w1.n),v])
   rw[eH3]
   have kp:∀{K:Hp},SameT H3 K→∀b oo,b≠ld→(∀ps,oo≠HO.tbl ps)→H14 b=some oo→K b=some oo:=fun eK b oo nb nt e=>eK b oo nt (t3 b oo (e2 b oo nt (by rw[upd_ne nb];exact e' b oo nt e)))
   have kpt:∀{K:Hp},SameT H3 K→∀b xs,H14 b=some (.tup xs)→K b=some (.tup xs):=fun eK b xs e=>kp eK b _ (ne_of e hld (by intro z;cases z)) (by intro ps z;cases z) e
   have kL:∀{K:Hp},SameT H3 K→FcL C K got (byName (progD d W bs b2 b3 p o) "face") (byName (progD d W bs b2 b3 p o) "maker") (dueM (duesD W p o)):=fun eK=>by
    have kd:∀{x:Addr} {m:List (Str×T)},x≠ld→DictL H14 x m→DictL _ x m:=fun nx h=>let ⟨k,h1,h2⟩:=h;⟨k,kp eK _ _ nx (by intro ps z;cases z) h1,h2.mono (kpt eK)⟩
    exact⟨dxg,dg1,dg2,dg3,kp eK _ _ ngl (by intro ps z;cases z) hg0,kd n1 hg1,kd n2 hg2,kd n3 hg3⟩
   have kD:∀{K:Hp},SameT H3 K→DictL K fa (fmapD d):=fun eK=>by
    obtain⟨k,h1,h2⟩:=Df14
    exact⟨k,kp eK _ _ nfl (by intro ps z;cases z) h1,h2.mono (kpt eK)⟩
   refine⟨Tp,_,rfl,SqT.of hTp3,rfl,_,_,rfl,_,_,rfl,rfl,?_⟩
   have rv3:Rep H3 v (wF w1):=rv.mono (kpt SameT.refl)
   obtain⟨dxh,dh1,dh2,dh3,q0,_⟩:=(kL SameT.refl).ob
   have tM3:=tM2.same t3
   have tL3:=tL2.same t3
   have lkp:(dueM (duesD W p o)).lookup w1.n=some (.tup ((w1.F::w1.us).map T.str)):=lk_mem (due_nd wok) (by
    unfold dueM
    exact List.mem_map.mpr ⟨w1,List.mem_of_getElem? hg,rfl⟩)
   have lits:(itsOf hds vals).length≤1000:=by
    unfold itsOf
    have:=FD.hl
    have:=FD.vl
    rw[List.length_append,List.length_map,List.length_map]
    omega
   have u80:∀u∈w1.us,u.length≤80:=fun u hu'=>by have:=(pn_of (upn u hu')).1;omega
   refine⟨_,rfl,got,dxh,_,rfl,q0,ff_sh.2.2,_,rfl,got,_,_,_,w1.F,w1.n,w1.us,gs,itsOf hds vals,rfl,lkp,kL SameT.refl,fun gvn hgv=>⟨kL SameT.refl,hgv,u80,⟨_,_,lk2⟩,e1,e2g,ndg,lits,by rw[hides_of];exact FD.nh,by rw[its_val];exact FD.nv,kdH FD⟩,by omega,fun x hx=>(by rw[its_val]at hx;have:=FD.lv x hx;omega),kdM FD upn n1P,tM3,tL3,fun sp H4' e4 tM4 tL4 hsp0 Dsp=>?_⟩
   have rv4:=rv3.mono e4.tups
   cases rv4 with
   |@tup fo2 fys _ hfo rfo=>
   have efy:fys=(w1.F::w1.us).map V.str:=Reps.texts rfo
   subst efy
   have rfoT:Rep H4' (.ref fo2) (.tup ((w1.F::w1.us).map T.str)):=.tup hfo rfo
   have wdp:∀t∈(w1.F::w1.us).map T.str,DpT 0 t:=fun t ht=>by
    obtain⟨z,_,rfl⟩:=List.mem_map.mp ht
    exact .str _ _
   obtain⟨dxk,dk1,dk2,dk3,r0,_⟩:=(kL e4).ob
   refine⟨_,rfl,got,dxk,_,rfl,r0,ff_sh.2.1,_,rfl,got,w1.n,_,_,_,_,rfl,kL e4,lkp,fun v5 rv5=>?_⟩
   cases rv5 with
   |@tup fo3 fys3 _ hfo3 rfo3=>
   refine⟨_,rfl,0,fo3,fo2,_,rfl,rfl, .tup hfo3 rfo3,rfoT,wdp,by decide,_,rfl,iteF ?_⟩
   obtain⟨ksp,hsp,drsp⟩:=Dsp
   refine⟨_,rfl,_,_,"dict",_,rfl, .dK hsp,kit_dict K,_,rfl,iteF ?_⟩
   refine⟨_,rfl,_,rfl,_,rfl,_,rfl,fa,fo2,w1.n,w1.F,w1.us,gs,at_,hds,vals,fmapD d,rfl,kD e4,lk1,hfo,upn,e1,e2g,ndg,FD,n1P,fun p5 H5' s5 hp50 Dp5=>?_⟩
   have hsp5:=s5 _ _ hsp
   refine⟨4,sp,p5,_,rfl,rfl,⟨ksp,hsp5,drsp.mono (Same.tups s5)⟩,Dp5,dpM FD upn n1P,by decide,_,rfl,iteF ?_⟩
   have lks:=drsp.length
   refine⟨_,rfl,sp,_,rfl,DPut.k (k:=Sum.inr "x") hsp5 (small' ?_),?_⟩
   ·rw[lks,shown_eq,List.length_map]
    have:=FD.vl
    omega
   ·refine⟨_,_,_,rfl,fun b oo nt e=>?_,?_,?_⟩
    ·have e3:=t3 _ _ (e2 b oo nt e)
     rw[upd_ne (ne_of_none e3 hsp0)]
     exact s5 _ _ (e4 b oo nt e3)
    ·exact(tM4.same s5).keep hsp5 (by intro ps z;cases z) (by intro c o z;cases z) fun b o n e=>by rw[upd_ne n];exact e
    ·exact(tL4.same s5).keep hsp5 (by intro ps z;cases z) (by intro c o z;cases z) fun b o n e=>by rw[upd_ne n];exact e
  ·rintro σ H2 ⟨o10',o11',o12',rfl,e2,tM2,tL2⟩
   refine⟨e2 _ _ (by intro ps z;cases z) upd_same,_,_,_,_,rfl,fun b oo nt e=>?_,?_,?_⟩
   ·by_cases z:b=ld
    ·rw[z,hld]at e
     cases e
     rw[z]
     exact upd_same
    ·rw[upd_ne z]
     exact e2 b oo nt (by rw[upd_ne z];exact e' b oo nt e)
   ·exact tM2.keep (e2 _ _ (by intro ps z;cases z) upd_same) (by intro ps z;cases z) (by intro c o z;cases z) fun b o n e=>by rw[upd_ne n];exact e
   ·exact tL2.keep (e2 _ _ (by intro ps z;cases z) upd_same) (by intro ps z;cases z) (by intro c o z;cases z) fun b o n e=>by rw[upd_ne n];exact e
 ·rintro σ H' ⟨o9,o10,o11,o12,rfl,_⟩
  exact q _
end
def DefIs (K:PySem.W.Frag)(x:Str)(st:Stmt):Prop:=∃f fd,PySem.W.nsIn K mainGlobals x=some (some (.ref f))∧Fun K x x st f fd
theorem def_mk {K:PySem.W.Frag}{x:Str}{st:Stmt}{f:Addr}{oc:Value}{od an:Option Addr}{osl:Array (Option Value)}{kV doc pm cdv ct:Value}(a:PySem.W.nsIn K mainGlobals x=some (some (.ref f)))
  (l:K.lookup f=some ⟨oc,od, .func (PySem.W.fnOf x x (defArgs st) (defBody st) (defScope st) .none kV doc pm an cdv ct),osl⟩) (c:PySem.W.codeIn K cdv x=true) (k:PySem.W.keepIn K (.ref f)=true):DefIs K x st:=⟨f,_,a,fun_mk l c k⟩
theorem val_str {K:PySem.W.Frag}{x z y:Str}{t:Tok}(a:PySem.W.nsIn K mainGlobals x=some (some (.str z t)))(e:z=y):∃t,PySem.W.nsIn K mainGlobals x=some (some (.str y t)):=⟨t,by rw[←e];exact a⟩
theorem val_int {K:PySem.W.Frag}{x:Str}{i j:Int}{t:Tok}(a:PySem.W.nsIn K mainGlobals x=some (some (.int i t)))(e:i=j):∃t,PySem.W.nsIn K mainGlobals x=some (some (.int j t)):=⟨t,by rw[←e];exact a⟩
theorem abs_rel {x:V}{u:Value}(h:absV u=some x):RelV x u:=by
 cases u<;>simp only[absV,Option.some.injEq,reduceCtorEq]at h
 all_goals first
  |(subst h;exact rfl)
  |(subst h;exact⟨_,rfl⟩)
theorem vals_abs:∀{xs:List V} {us:List Value},us.map absV=xs.map some→Vals xs us
 |[],[],_=>.nil
 |x::xs,u::us,h=>by
  simp only[List.map_cons,List.cons.injEq]at h
  exact .cons (abs_rel h.1) (vals_abs h.2)
 |[],_::_,h=>by simp at h
 |_::_,[],h=>by simp at h
theorem val_tup {K:PySem.W.Frag}{x:Str}{xs:List V}{a:Addr}{oc:Value}{od:Option Addr}{its:Array Value}{n:Nat}{sl:Array (Option Value)}(h1:PySem.W.nsIn K mainGlobals x=some (some (.ref a)))(h2:K.lookup a=some ⟨oc,od, .seq its n,sl⟩)
  (h3:oc=.type "tuple") (h4:its.size≤sizeLine) (h5:its.toList.map absV=xs.map some):∃a,PySem.W.nsIn K mainGlobals x=some (some (.ref a))∧∀H,SqT K H a xs:=⟨a,h1,fun H=>.inr ⟨_,its,n,h2,h3,rfl,h4,vals_abs h5⟩⟩
theorem law_binds {K:PySem.W.Frag}{x:Str}{st:Stmt}{f:Addr}{fd:FuncData}{p:Str}(F:Fun K x x st f fd)(h:∀(kV doc pm:Value) (an:Option Addr) (cdv ct:Value) (s:Shared) (v:Value),BindsTo s (PySem.W.fnOf x x (defArgs st) (defBody st) (defScope st) .none kV doc pm an cdv ct) ⟨[v],[]⟩ [(p,v)]):
  ∀(s:Shared) (v:Value),BindsTo s fd ⟨[v],[]⟩ [(p,v)]:=by
 obtain⟨oc,od,kV,doc,pm,an,cdv,ct,osl,rfl,lk,hcd⟩:=F.ex
 exact h kV doc pm an cdv ct
def MethIs (K:PySem.W.Frag)(C:Addr)(x q:Str)(st:Stmt):Prop:=∃f fd,Meth K C x f∧Fun K x q st f fd
theorem meth_mk {K:PySem.W.Frag}{C:Addr}{x q:Str}{st:Stmt}{f:Addr}{oc:Value}{od an:Option Addr}{osl:Array (Option Value)}{kV doc pm cdv ct:Value}(a:PySem.W.findIn K (.ref C) x=some (some (.ref f)))(i:PySem.W.isFn K (.ref f)=true)
  (l:K.lookup f=some ⟨oc,od, .func (PySem.W.fnOf x q (defArgs st) (defBody st) (defScope st) .none kV doc pm an cdv ct),osl⟩) (c:PySem.W.codeIn K cdv q=true) (k:PySem.W.keepIn K (.ref f)=true):MethIs K C x q st:=⟨f,_,⟨a,i,k⟩,fun_mk l c k⟩
theorem cls_mk {K:PySem.W.Frag}{C:Addr}(pg:PySem.W.plainGet K C Str.empty=true)(hd:PySem.W.hasDictIn K C=true)(po:PySem.W.plainOver K C=true)(sa:PySem.W.findIn K (.ref C) "__setattr__"=some (some (.builtin "object.__setattr__"))):Cls K C:=⟨pg,hd,po,sa⟩
theorem noat_mk {K:PySem.W.Frag}{C:Addr}{x:Str}(n:PySem.W.findIn K (.ref C) x=some none):NoAttr K C x:=n
def MethIsC (K:PySem.W.Frag)(C:Addr)(x q:Str)(st:Stmt)(cp:Addr):Prop:=∃f fd,Meth K C x f∧Fun K x q st f fd∧fd.code=.ref cp
theorem meth_mkC {K:PySem.W.Frag}{C cp:Addr}{x q:Str}{st:Stmt}{f:Addr}{oc:Value}{od an:Option Addr}{osl:Array (Option Value)}{kV doc pm ct:Value}(a:PySem.W.findIn K (.ref C) x=some (some (.ref f)))(i:PySem.W.isFn K (.ref f)=true)
  (l:K.lookup f=some ⟨oc,od, .func (PySem.W.fnOf x q (defArgs st) (defBody st) (defScope st) .none kV doc pm an (.ref cp) ct),osl⟩) (c:PySem.W.codeIn K (.ref cp) q=true) (k:PySem.W.keepIn K (.ref f)=true):MethIsC K C x q st cp:=⟨f,_,⟨a,i,k⟩,fun_mk l c k,rfl⟩
theorem codeHd_ext {b b':Heap}{c p:Addr}(h:PySem.W.CodeHd b c p)(e:∀x o,b.get? x=some o→b'.get? x=some o):PySem.W.CodeHd b' c p:=by
 obtain⟨o,vs,f1,t1,f2,t2,f3,t3,t4,h1,r⟩:=h
 exact⟨o,vs,f1,t1,f2,t2,f3,t3,t4,e _ _ h1,r⟩
theorem bmain_ext {mg:Str→Option Value}{b b':Heap}(h:BMain mg b)(e:∀x o,b.get? x=some o→b'.get? x=some o):BMain mg b':=by
 obtain⟨bm,ob,h1,h2,h3,r⟩:=h
 exact⟨bm,ob,h1,h2,e _ _ h3,r⟩
theorem us0 {C:List Value→Prop}(us:List Value)(h:us.length=0)(k:C []):C us:=List.eq_nil_of_length_eq_zero h ▸ k
theorem uss {n:Nat}{C:List Value→Prop}(us:List Value)(h:us.length=n+1)(k:∀a r,r.length=n→C (a::r)):C us:=by
 cases us with
 |nil=>exact absurd h.symm (Nat.succ_ne_zero n)
 |cons a r=>exact k a r (Nat.succ.inj h)
@[elab_as_elim] theorem us1 {C:List Value→Prop} (us:List Value) (h:us.length=1) (k:∀a0,C [a0]):C us:=uss us h fun a r h=>us0 (C:=fun r=>C (a::r)) r h (k a)
@[elab_as_elim] theorem us2 {C:List Value→Prop} (us:List Value) (h:us.length=2) (k:∀a0 a1,C [a0,a1]):C us:=uss us h fun a r h=>us1 (C:=fun r=>C (a::r)) r h (k a)
@[elab_as_elim] theorem us3 {C:List Value→Prop} (us:List Value) (h:us.length=3) (k:∀a0 a1 a2,C [a0,a1,a2]):C us:=uss us h fun a r h=>us2 (C:=fun r=>C (a::r)) r h (k a)
@[elab_as_elim] theorem us4 {C:List Value→Prop} (us:List Value) (h:us.length=4) (k:∀a0 a1 a2 a3,C [a0,a1,a2,a3]):C us:=uss us h fun a r h=>us3 (C:=fun r=>C (a::r)) r h (k a)
@[elab_as_elim] theorem us5 {C:List Value→Prop} (us:List Value) (h:us.length=5) (k:∀a0 a1 a2 a3 a4,C [a0,a1,a2,a3,a4]):C us:=uss us h fun a r h=>us4 (C:=fun r=>C (a::r)) r h (k a)
@[elab_as_elim] theorem us6 {C:List Value→Prop} (us:List Value) (h:us.length=6) (k:∀a0 a1 a2 a3 a4 a5,C [a0,a1,a2,a3,a4,a5]):C us:=uss us h fun a r h=>us5 (C:=fun r=>C (a::r)) r h (k a)
def AllOk (l:PySem.W.OpenLaw)(w:World)(K:PySem.W.Frag)(mg:Str→Option Value)(fa cpM PtM cpL PtL:Addr):Prop:=∃fd:FuncData,(∀(s:Shared) (v:Value),BindsTo s fd ⟨[v],[]⟩ [("_law_script",v)])∧∀base:Heap,K.In base→base.Ns mainGlobals mg→BMain mg base→Mod K mg base→(∀p∈([(cpM,PtM),(cpL,PtL)]:List (Addr×Addr)),PySem.W.CodeHd base p.1 p.2)→FnOk l.prog w K mg base CX0 11 fa fd ["_law_script"] (spLaw PtM PtL K)
set_option maxHeartbeats 2000000 in
theorem all_mk {l:PySem.W.OpenLaw}{w:World}{K:PySem.W.Frag}{h:Heap}{mg:Str→Option Value}{fa cpM PtM cpL PtL C:Addr}(X:K.In h)(G:h.Ns mainGlobals mg)(hfa:mg "law"=some (.ref fa))
  (z_len:PySem.W.nsIn K mainGlobals "len"=some none)
  (z_all:PySem.W.nsIn K mainGlobals "all"=some none)
  (z_isinstance:PySem.W.nsIn K mainGlobals "isinstance"=some none)
  (z_str:PySem.W.nsIn K mainGlobals "str"=some none)
  (z_tuple:PySem.W.nsIn K mainGlobals "tuple"=some none)
  (z_list:PySem.W.nsIn K mainGlobals "list"=some none)
  (z_reversed:PySem.W.nsIn K mainGlobals "reversed"=some none)
  (z_range:PySem.W.nsIn K mainGlobals "range"=some none)
  (z_int:PySem.W.nsIn K mainGlobals "int"=some none)
  (z_dict:PySem.W.nsIn K mainGlobals "dict"=some none)
  (z_zip:PySem.W.nsIn K mainGlobals "zip"=some none)
  (aC:PySem.W.nsIn K mainGlobals "Faces"=some (some (.ref C))) (cC:Cls K C) (mkC:PySem.W.makesIn K C=true) (kcC:PySem.W.keepIn K (.ref C)=true) (nC0:NoAttr K C "face_declarations") (nC1:NoAttr K C "maker_declarations") (nC2:NoAttr K C "part_faces")
  (mC0:MethIs K C "__init__" "Faces.__init__" s_init)
  (mC1:MethIs K C "face_of_applied" "Faces.face_of_applied" s_ap)
  (mC2:MethIs K C "face_of" "Faces.face_of" s_fo)
  (mC3:MethIs K C "givers_of_face" "Faces.givers_of_face" s_gv)
  (mC5:MethIs K C "items_of_face" "Faces.items_of_face" s_io)
  (mC6:MethIsC K C "kinds_of_vals" "Faces.kinds_of_vals" s_kv cpM)
  (mC7:MethIsC K C "shown_by" "Faces.shown_by" s_sb cpL)
  (mC8:MethIs K C "shows" "Faces.shows" s_sh)
  (v1:∃t,PySem.W.nsIn K mainGlobals "SMALL_LETTERS"=some (some (.str smallS t)))
  (v2:∃t,PySem.W.nsIn K mainGlobals "GREAT_LETTERS"=some (some (.str greatS t)))
  (v4:∃t,PySem.W.nsIn K mainGlobals "MOST_LETTERS"=some (some (.int 8 t)))
  (v5:∃a,PySem.W.nsIn K mainGlobals "KEPT"=some (some (.ref a))∧∀H,SqT K H a (keptL.map V.str))
  (nPt:PtL≠PtM)
  (d2:DefIs K "headed" s_headed)
  (d3:DefIs K "is_open" s_is_open)
  (d4:DefIs K "formed" s_formed)
  (d5:DefIs K "items_of" s_items)
  (d6:DefIs K "given_face" s_gf)
  (d7:DefIs K "named" s_named)
  (d8:DefIs K "by_givers" s_by)
  (d14:DefIs K "all_of" s_all_of)
  (d15:DefIs K "is_small" s_is_small)
  (d16:DefIs K "is_name" s_is_name)
  (d17:DefIs K "is_great" s_is_great)
  (d18:DefIs K "is_path" s_is_path)
  (d20:DefIs K "outer_first" s_outer)
  (d21:DefIs K "variables" s_variables)
  (d22:DefIs K "remade" s_remade)
  (d24:DefIs K "turned_face" s_tf)
  (d25:DefIs K "turned_word" s_tw)
  (d26:DefIs K "closed" s_closed)
  (d29:DefIs K "_law_state" s_state)
  (d30:DefIs K "_law_next" s_next)
  (d31:DefIs K "_law_sum" s_sum)
  (d32:DefIs K "_law_sorts" s_srt)
  (d33:DefIs K "_law_put" s_put)
  (d34:DefIs K "_law_word" s_lw)
  (d35:DefIs K "_law_turned" s_trn)
  (d36:DefIs K "_law_variables" s_lv)
  (d37:DefIs K "_law_scheme" s_sch)
  (d38:DefIs K "_law_path" s_pth)
  (d39:DefIs K "_law_by" s_lby)
  (d40:DefIs K "_law_shown" s_shn)
  (d41:DefIs K "_law_number_body" s_nb)
  (d42:DefIs K "_law_drawn_kind" s_dk)
  (d43:DefIs K "_law_items" s_itd)
  (d44:DefIs K "_law_drawn_faces" s_drf)
  (d45:DefIs K "_law_told" s_tld)
  (d46:DefIs K "_law_rows" s_rws)
  (d47:DefIs K "law" s_law):
  AllOk l w K mg fa cpM PtM cpL PtL:=by
 obtain⟨f2,g2,a2,F2⟩:=d2
 obtain⟨f3,g3,a3,F3⟩:=d3
 obtain⟨f4,g4,a4,F4⟩:=d4
 obtain⟨f5,g5,a5,F5⟩:=d5
 obtain⟨f6,g6,a6,F6⟩:=d6
 obtain⟨f7,g7,a7,F7⟩:=d7
 obtain⟨f8,g8,a8,F8⟩:=d8
 obtain⟨f14,g14,a14,F14⟩:=d14
 obtain⟨f15,g15,a15,F15⟩:=d15
 obtain⟨f16,g16,a16,F16⟩:=d16
 obtain⟨f17,g17,a17,F17⟩:=d17
 obtain⟨f18,g18,a18,F18⟩:=d18
 obtain⟨f20,g20,a20,F20⟩:=d20
 obtain⟨f21,g21,a21,F21⟩:=d21
 obtain⟨f22,g22,a22,F22⟩:=d22
 obtain⟨f24,g24,a24,F24⟩:=d24
 obtain⟨f25,g25,a25,F25⟩:=d25
 obtain⟨f26,g26,a26,F26⟩:=d26
 obtain⟨f29,g29,a29,F29⟩:=d29
 obtain⟨f30,g30,a30,F30⟩:=d30
 obtain⟨f31,g31,a31,F31⟩:=d31
 obtain⟨f32,g32,a32,F32⟩:=d32
 obtain⟨f33,g33,a33,F33⟩:=d33
 obtain⟨f34,g34,a34,F34⟩:=d34
 obtain⟨f35,g35,a35,F35⟩:=d35
 obtain⟨f36,g36,a36,F36⟩:=d36
 obtain⟨f37,g37,a37,F37⟩:=d37
 obtain⟨f38,g38,a38,F38⟩:=d38
 obtain⟨f39,g39,a39,F39⟩:=d39
 obtain⟨f40,g40,a40,F40⟩:=d40
 obtain⟨f41,g41,a41,F41⟩:=d41
 obtain⟨f42,g42,a42,F42⟩:=d42
 obtain⟨f43,g43,a43,F43⟩:=d43
 obtain⟨f44,g44,a44,F44⟩:=d44
 obtain⟨f45,g45,a45,F45⟩:=d45
 obtain⟨f46,g46,a46,F46⟩:=d46
 obtain⟨f47,g47,a47,F47⟩:=d47
 have e:=hfa.symm.trans (PySem.W.mg_of X G a47)
 cases e
 refine⟨g47,law_binds F47 fun _ _ _ _ _ _ _ _=>.of_eq rfl,fun base _ _ BM _ CH=>?_⟩
 have m_len:=PySem.W.mg_none_of X G z_len
 have m_all:=PySem.W.mg_none_of X G z_all
 have m_isinstance:=PySem.W.mg_none_of X G z_isinstance
 have m_str:=PySem.W.mg_none_of X G z_str
 have m_tuple:=PySem.W.mg_none_of X G z_tuple
 have m_list:=PySem.W.mg_none_of X G z_list
 have m_reversed:=PySem.W.mg_none_of X G z_reversed
 have m_range:=PySem.W.mg_none_of X G z_range
 have m_int:=PySem.W.mg_none_of X G z_int
 have m_dict:=PySem.W.mg_none_of X G z_dict
 have m_zip:=PySem.W.mg_none_of X G z_zip
 have mgC:=PySem.W.mg_of X G aC
 obtain⟨fC0,gC0,MC0,FC0⟩:=mC0
 have bC0:=FC0.binds (ps:=["self","program"]) fun _ _ _ _ _ _ us hl=>us2 us hl fun _ _=>rfl
 obtain⟨fC1,gC1,MC1,FC1⟩:=mC1
 have bC1:=FC1.binds (ps:=["self","declaration"]) fun _ _ _ _ _ _ us hl=>us2 us hl fun _ _=>rfl
 obtain⟨fC2,gC2,MC2,FC2⟩:=mC2
 have bC2:=FC2.binds (ps:=["self","part"]) fun _ _ _ _ _ _ us hl=>us2 us hl fun _ _=>rfl
 obtain⟨fC3,gC3,MC3,FC3⟩:=mC3
 have bC3:=FC3.binds (ps:=["self","name"]) fun _ _ _ _ _ _ us hl=>us2 us hl fun _ _=>rfl
 obtain⟨fC5,gC5,MC5,FC5⟩:=mC5
 have bC5:=FC5.binds (ps:=["self","name","sort"]) fun _ _ _ _ _ _ us hl=>us3 us hl fun _ _ _=>rfl
 obtain⟨fC6,gC6,MC6,FC6,cdC6⟩:=mC6
 have bC6:=FC6.binds (ps:=["self","given","kind_of_hide"]) fun _ _ _ _ _ _ us hl=>us3 us hl fun _ _ _=>rfl
 obtain⟨fC7,gC7,MC7,FC7,cdC7⟩:=mC7
 have bC7:=FC7.binds (ps:=["self","name","given"]) fun _ _ _ _ _ _ us hl=>us3 us hl fun _ _ _=>rfl
 obtain⟨fC8,gC8,MC8,FC8⟩:=mC8
 have bC8:=FC8.binds (ps:=["self","part"]) fun _ _ _ _ _ _ us hl=>us2 us hl fun _ _=>rfl
 have b2:=F2.binds (ps:=["thing"]) fun _ _ _ _ _ _ us hl=>us1 us hl fun _=>rfl
 have b3:=F3.binds (ps:=["thing"]) fun _ _ _ _ _ _ us hl=>us1 us hl fun _=>rfl
 have b4:=F4.binds (ps:=["head","inner"]) fun _ _ _ _ _ _ us hl=>us2 us hl fun _ _=>rfl
 have b5:=F5.binds (ps:=["items","sort"]) fun _ _ _ _ _ _ us hl=>us2 us hl fun _ _=>rfl
 have b6:=F6.binds (ps:=["declaration"]) fun _ _ _ _ _ _ us hl=>us1 us hl fun _=>rfl
 have b7:=F7.binds (ps:=["program","sort"]) fun _ _ _ _ _ _ us hl=>us2 us hl fun _ _=>rfl
 have b8:=F8.binds (ps:=["givers","parts"]) fun _ _ _ _ _ _ us hl=>us2 us hl fun _ _=>rfl
 have b14:=F14.binds (ps:=["text","signs"]) fun _ _ _ _ _ _ us hl=>us2 us hl fun _ _=>rfl
 have b15:=F15.binds (ps:=["thing"]) fun _ _ _ _ _ _ us hl=>us1 us hl fun _=>rfl
 have b16:=F16.binds (ps:=["thing"]) fun _ _ _ _ _ _ us hl=>us1 us hl fun _=>rfl
 have b17:=F17.binds (ps:=["thing"]) fun _ _ _ _ _ _ us hl=>us1 us hl fun _=>rfl
 have b18:=F18.binds (ps:=["thing"]) fun _ _ _ _ _ _ us hl=>us1 us hl fun _=>rfl
 have b20:=F20.binds (ps:=["kind"]) fun _ _ _ _ _ _ us hl=>us1 us hl fun _=>rfl
 have b21:=F21.binds (ps:=["kind"]) fun _ _ _ _ _ _ us hl=>us1 us hl fun _=>rfl
 have b22:=F22.binds (ps:=["kind","make"]) fun _ _ _ _ _ _ us hl=>us2 us hl fun _ _=>rfl
 have b24:=F24.binds (ps:=["given","by"]) fun _ _ _ _ _ _ us hl=>us2 us hl fun _ _=>rfl
 have b25:=F25.binds (ps:=["word","by"]) fun _ _ _ _ _ _ us hl=>us2 us hl fun _ _=>rfl
 have b26:=F26.binds (ps:=["kind"]) fun _ _ _ _ _ _ us hl=>us1 us hl fun _=>rfl
 have b29:=F29.binds (ps:=["_law_cell","_law_way"]) fun _ _ _ _ _ _ us hl=>us2 us hl fun _ _=>rfl
 have b30:=F30.binds (ps:=["_law_state_here","_law_many"]) fun _ _ _ _ _ _ us hl=>us2 us hl fun _ _=>rfl
 have b31:=F31.binds (ps:=["_law_script"]) fun _ _ _ _ _ _ us hl=>us1 us hl fun _=>rfl
 have b32:=F32.binds (ps:=[]) fun _ _ _ _ _ _ us hl=>by cases us with|nil=>rfl|cons a r=>cases hl
 have b33:=F33.binds (ps:=["_law_kind","_law_by_here"]) fun _ _ _ _ _ _ us hl=>us2 us hl fun _ _=>rfl
 have b34:=F34.binds (ps:=["_law_word_here","_law_by_here"]) fun _ _ _ _ _ _ us hl=>us2 us hl fun _ _=>rfl
 have b35:=F35.binds (ps:=["_law_kind","_law_by_here","_law_hides"]) fun _ _ _ _ _ _ us hl=>us3 us hl fun _ _ _=>rfl
 have b36:=F36.binds (ps:=["_law_kind"]) fun _ _ _ _ _ _ us hl=>us1 us hl fun _=>rfl
 have b37:=F37.binds (ps:=["_law_kind"]) fun _ _ _ _ _ _ us hl=>us1 us hl fun _=>rfl
 have b38:=F38.binds (ps:=["_law_name","_law_hide","_law_many"]) fun _ _ _ _ _ _ us hl=>us3 us hl fun _ _ _=>rfl
 have b39:=F39.binds (ps:=["_law_givers","_law_parts"]) fun _ _ _ _ _ _ us hl=>us2 us hl fun _ _=>rfl
 have b40:=F40.binds (ps:=["_law_faces","_law_name","_law_form"]) fun _ _ _ _ _ _ us hl=>us3 us hl fun _ _ _=>rfl
 have b41:=F41.binds (ps:=["_law_items_here"]) fun _ _ _ _ _ _ us hl=>us1 us hl fun _=>rfl
 have b42:=F42.binds (ps:=["_law_state_here","_law_atoms","_law_deep"]) fun _ _ _ _ _ _ us hl=>us3 us hl fun _ _ _=>rfl
 have b43:=F43.binds (ps:=["_law_state_here","_law_atoms"]) fun _ _ _ _ _ _ us hl=>us2 us hl fun _ _=>rfl
 have b44:=F44.binds (ps:=["_law_state_here"]) fun _ _ _ _ _ _ us hl=>us1 us hl fun _=>rfl
 have b45:=F45.binds (ps:=["_law_form"]) fun _ _ _ _ _ _ us hl=>us1 us hl fun _=>rfl
 have b46:=F46.binds (ps:=["_law_state_here","_law_faces"]) fun _ _ _ _ _ _ us hl=>us2 us hl fun _ _=>rfl
 obtain⟨tk1,v1⟩:=v1
 obtain⟨tk2,v2⟩:=v2
 obtain⟨tk4,v4⟩:=v4
 obtain⟨ka,v5,v5q⟩:=v5
 have GB:Gb K mg:=⟨m_len,m_all,m_isinstance,m_str,m_tuple,m_list,m_range,⟨_,(PySem.W.mg_of X G v1)⟩,⟨_,(PySem.W.mg_of X G v2)⟩,⟨_,(PySem.W.mg_of X G v4)⟩,⟨_,(PySem.W.mg_of X G v5),v5q⟩⟩
 have Tx:TxC K C:=⟨cC,nC0,nC1,nC2⟩
 have CM:=CH (cpM,PtM) (by simp)
 have CL:=CH (cpL,PtL) (by simp)
 have Y2:∀bb:Heap,Has l.prog w K mg bb 1 "headed" ["thing"] spHeaded:=fun bb=>⟨f2,g2,ok_headed F2 m_isinstance m_tuple,b2,F2.kp,PySem.W.mg_of X G a2⟩
 have Y3:∀bb:Heap,Has l.prog w K mg bb 1 "is_open" ["thing"] spOpen:=fun bb=>⟨f3,g3,ok_is_open F3 m_isinstance m_str,b3,F3.kp,PySem.W.mg_of X G a3⟩
 have Y4:∀bb:Heap,Has l.prog w K mg bb 1 "formed" ["head","inner"] spFormed:=fun bb=>⟨f4,g4,ok_formed F4 m_len m_tuple,b4,F4.kp,PySem.W.mg_of X G a4⟩
 have Y5:∀bb:Heap,Has l.prog w K mg bb 1 "items_of" ["items","sort"] spItems:=fun bb=>⟨f5,g5,ok_items F5,b5,F5.kp,PySem.W.mg_of X G a5⟩
 have Y6:∀bb:Heap,Has l.prog w K mg bb 1 "given_face" ["declaration"] spGiven:=fun bb=>⟨f6,g6,ok_gf F6,b6,F6.kp,PySem.W.mg_of X G a6⟩
 have Y7:∀bb:Heap,Has l.prog w K mg bb 1 "named" ["program","sort"] spNamed:=fun bb=>⟨f7,g7,ok_named F7 m_dict,b7,F7.kp,PySem.W.mg_of X G a7⟩
 have Y8:∀bb:Heap,Has l.prog w K mg bb 1 "by_givers" ["givers","parts"] spBy:=fun bb=>⟨f8,g8,ok_by F8 m_dict m_zip,b8,F8.kp,PySem.W.mg_of X G a8⟩
 have Y14:∀bb:Heap,Has l.prog w K mg bb 1 "all_of" ["text","signs"] spAllOf:=fun bb=>⟨f14,g14,ok_all_of F14 GB,b14,F14.kp,PySem.W.mg_of X G a14⟩
 have Y15:∀bb:Heap,Has l.prog w K mg bb 2 "is_small" ["thing"] (spT (onStr smallB)):=fun bb=>⟨f15,g15,ok_is_small F15 GB (Y14 bb),b15,F15.kp,PySem.W.mg_of X G a15⟩
 have Y16:∀bb:Heap,Has l.prog w K mg bb 3 "is_name" ["thing"] (spT (onStr nameB)):=fun bb=>⟨f16,g16,ok_is_name F16 GB (Y15 bb),b16,F16.kp,PySem.W.mg_of X G a16⟩
 have Y17:∀bb:Heap,Has l.prog w K mg bb 2 "is_great" ["thing"] (spT (onStr greatB)):=fun bb=>⟨f17,g17,ok_is_great F17 GB (Y14 bb),b17,F17.kp,PySem.W.mg_of X G a17⟩
 have Y18:∀bb:Heap,Has l.prog w K mg bb 4 "is_path" ["thing"] (spT (onStr pathB)):=fun bb=>⟨f18,g18,ok_is_path F18 GB (Y16 bb) (Y17 bb),b18,F18.kp,PySem.W.mg_of X G a18⟩
 have Y20:∀bb:Heap,Has l.prog w K mg bb 1 "outer_first" ["kind"] spOuter:=fun bb=>⟨f20,g20,ok_outer F20 m_len m_isinstance m_tuple m_list m_reversed,b20,F20.kp,PySem.W.mg_of X G a20⟩
 have Y21:∀bb:Heap,Has l.prog w K mg bb 2 "variables" ["kind"] spVars:=fun bb=>⟨f21,g21,ok_variables F21 m_list (Y3 bb) (Y20 bb),b21,F21.kp,PySem.W.mg_of X G a21⟩
 have Y24:∀bb:Heap,Has l.prog w K mg bb 2 "turned_face" ["given","by"] spTF:=fun bb=>⟨f24,g24,ok_tf F24 m_tuple (Y2 bb),b24,F24.kp,PySem.W.mg_of X G a24⟩
 have Y25:∀bb:Heap,Has l.prog w K mg bb 5 "turned_word" ["word","by"] spTW:=fun bb=>⟨f25,g25,ok_tw F25 (Y18 bb),b25,F25.kp,PySem.W.mg_of X G a25⟩
 have Y26:∀bb:Heap,Has l.prog w K mg bb 3 "closed" ["kind"] spClosed:=fun bb=>⟨f26,g26,ok_closed F26 m_tuple (Y21 bb),b26,F26.kp,PySem.W.mg_of X G a26⟩
 have YR:∀bb:Heap,FnOk l.prog w K mg bb CX0 7 f22 g22 ["kind","make"] (spRemade 6 l.prog w K mg bb):=fun bb=>ok_remade (kq:=6) (by decide) F22 m_len m_range m_reversed (Y2 bb) (Y20 bb)
 have G1:=ok_ap (P:=l.prog) (w:=w) (mg:=mg) (base:=base) FC1 Tx (Y24 base) (Y6 base) (Y8 base)
 have G0:=ok_init (P:=l.prog) (w:=w) (mg:=mg) (base:=base) FC0 Tx (Y7 base) (Y2 base) (Y6 base) MC1 G1 bC1
 have G2:=ok_fo (P:=l.prog) (w:=w) (mg:=mg) (base:=base) FC2 Tx
 have YG:∀bb:Heap,FnOk l.prog w K mg bb CX0 1 fC3 gC3 ["self","name"] (spGivers C):=fun bb=>ok_gv FC3 Tx
 have YI:∀bb:Heap,FnOk l.prog w K mg bb CX0 2 fC5 gC5 ["self","name","sort"] (spItemsOf C):=fun bb=>ok_io FC5 Tx m_dict (Y5 bb)
 have YK:∀bb:Heap,Grown K mg base bb→FnOk l.prog w K mg bb CX0 8 fC6 gC6 ["self","given","kind_of_hide"] (spKV 5 l.prog w K mg C PtM bb):=fun bb gr=>ok_kv (kk:=5) (by decide) FC6 cdC6 (codeHd_ext CM gr.ext) (bmain_ext BM gr.ext) Tx m_dict (Y8 bb) MC3 (YG bb) bC3 MC5 (YI bb) bC5 (fun b2 _=>Y4 b2) (fun b2 _=>Y25 b2) (fun b2 _=>YR b2) b22 F22.kp (PySem.W.mg_of X G a22)
 have G7:=ok_sb (P:=l.prog) (w:=w) (mg:=mg) (base:=base) FC7 cdC7 CL BM nPt Tx m_dict MC6 YK bC6 (fun b2 _=>Y4 b2) (Y26 base)
 have G8:=ok_sh (P:=l.prog) (w:=w) (mg:=mg) (base:=base) FC8 Tx MC2 G2 bC2 MC7 G7 bC7
 have Y29:∀bb:Heap,Has l.prog w K mg bb 1 "_law_state" ["_law_cell","_law_way"] spState:=fun bb=>⟨f29,g29,ok_state F29,b29,F29.kp,PySem.W.mg_of X G a29⟩
 have Y30:∀bb:Heap,Has l.prog w K mg bb 1 "_law_next" ["_law_state_here","_law_many"] spNext:=fun bb=>⟨f30,g30,ok_next F30,b30,F30.kp,PySem.W.mg_of X G a30⟩
 have Y31:∀bb:Heap,Has l.prog w K mg bb 1 "_law_sum" ["_law_script"] (spSum K):=fun bb=>⟨f31,g31,ok_sum F31 m_len,b31,F31.kp,PySem.W.mg_of X G a31⟩
 have Y32:∀bb:Heap,Has l.prog w K mg bb 1 "_law_sorts" [] spSorts:=fun bb=>⟨f32,g32,ok_srt F32,b32,F32.kp,PySem.W.mg_of X G a32⟩
 have H330:Has l.prog w K mg base 1 "_law_put" ["_law_kind","_law_by_here"] spPut0:=⟨f33,g33,ok_put0 F33 m_isinstance m_str m_tuple,b33,F33.kp,(PySem.W.mg_of X G a33)⟩
 have H331:Has l.prog w K mg base 2 "_law_put" ["_law_kind","_law_by_here"] spPut1:=⟨f33,g33,ok_put1 F33 m_isinstance m_str m_tuple H330,b33,F33.kp,(PySem.W.mg_of X G a33)⟩
 have Y34:∀bb:Heap,Has l.prog w K mg bb 1 "_law_word" ["_law_word_here","_law_by_here"] spLW:=fun bb=>⟨f34,g34,ok_lw F34,b34,F34.kp,PySem.W.mg_of X G a34⟩
 have H35:=trn_all (P:=l.prog) (w:=w) (mg:=mg) (base:=base) F35 b35 (PySem.W.mg_of X G a35) m_isinstance m_str m_tuple m_dict m_zip (Y34 base) H331 3
 have H36:=lv_all (P:=l.prog) (w:=w) (mg:=mg) (base:=base) F36 b36 (PySem.W.mg_of X G a36) m_isinstance m_str m_int 3
 have H37:Has l.prog w K mg base 5 "_law_scheme" ["_law_kind"] (spSch 3):=⟨f37,g37,ok_sch F37 m_tuple H36,b37,F37.kp,(PySem.W.mg_of X G a37)⟩
 have Y38:∀bb:Heap,Has l.prog w K mg bb 1 "_law_path" ["_law_name","_law_hide","_law_many"] spPath:=fun bb=>⟨f38,g38,ok_pth F38,b38,F38.kp,PySem.W.mg_of X G a38⟩
 have Y39:∀bb:Heap,Has l.prog w K mg bb 1 "_law_by" ["_law_givers","_law_parts"] spBy:=fun bb=>⟨f39,g39,ok_lby F39 m_zip,b39,F39.kp,PySem.W.mg_of X G a39⟩
 have H40:Has l.prog w K mg base 7 "_law_shown" ["_law_faces","_law_name","_law_form"] spShown:=⟨f40,g40,ok_shn F40 (Y39 base) (Y38 base) H37 H35,b40,F40.kp,(PySem.W.mg_of X G a40)⟩
 have Y41:∀bb:Heap,Has l.prog w K mg bb 1 "_law_number_body" ["_law_items_here"] spNb:=fun bb=>⟨f41,g41,ok_nb F41 m_len m_tuple,b41,F41.kp,PySem.W.mg_of X G a41⟩
 have H42:=dk_all (P:=l.prog) (w:=w) (mg:=mg) (base:=base) F42 b42 (PySem.W.mg_of X G a42) m_len m_range m_tuple (Y30 base) 3
 have H43:Has l.prog w K mg base 6 "_law_items" ["_law_state_here","_law_atoms"] spItemsD:=⟨f43,g43,ok_itd F43 m_range m_int (Y30 base) H42,b43,F43.kp,(PySem.W.mg_of X G a43)⟩
 have H44:Has l.prog w K mg base 7 "_law_drawn_faces" ["_law_state_here"] spFaces:=⟨f44,g44,ok_drf F44 m_tuple H43,b44,F44.kp,(PySem.W.mg_of X G a44)⟩
 have Y45:∀bb:Heap,Has l.prog w K mg bb 1 "_law_told" ["_law_form"] spTold:=fun bb=>⟨f45,g45,ok_tld F45 m_len,b45,F45.kp,PySem.W.mg_of X G a45⟩
 have Y46:∀bb:Heap,Has l.prog w K mg bb 2 "_law_rows" ["_law_state_here","_law_faces"] spRows:=fun bb=>⟨f46,g46,ok_rws F46 m_len (Y30 bb) (Y45 bb) (Y41 bb),b46,F46.kp,PySem.W.mg_of X G a46⟩
 exact ok_law F47 Tx ⟨mkC,MC0.at_,MC0.fn,kcC⟩ G0 bC0 mgC MC8 G8 bC8 MC2 G2 bC2 m_range m_len m_tuple m_isinstance m_dict (Y29 base) (Y31 base) H44 (Y46 base) (Y32 base) H40
theorem walk {l:PySem.W.OpenLaw}{q:Program}{loose:List Str}{XP:(Str→Option Value)→Heap→Prop}{YP:World→Heap→Prop}{d:DefRec}{K:Params→PySem.W.Frag}{cpM PtM cpL PtL:Addr}(hn:l.most=some 63)(hdf:d.params.defaults=[])
  (hY:∀(w:World) (h:Heap),YP w h→(K w.params).In h) (nT:∀w:World,PySem.W.noTabs (K w.params)=true) (hcd:∀w:World,∀p∈([(cpM,PtM),(cpL,PtL)]:List (Addr×Addr)),PySem.W.codeHdIn (K w.params) p.1 p.2=true) (hT:∀(w:World) (h:Heap),YP w h→∀p∈([(cpM,PtM),(cpL,PtL)]:List (Addr×Addr)),h.get? p.2=some (PySem.W.tabObj #[]))
  (F:∀(w:World) (mg:Str→Option Value) (fa:Addr) (h:Heap),(K w.params).In h→h.Ns mainGlobals mg→mg d.name=some (.ref fa)→AllOk l w (K w.params) mg fa cpM PtM cpL PtL):
  PySem.W.WalkO q loose XP YP l.row.toRowW d [] (fun f vs=>PySem.call f vs) :=
 L2.walk_ofTs (n:=63) (k:=11) (x:="_law_script") (sp:=spLaw PtM PtL) (ct:=[(cpM,PtM),(cpL,PtL)]) hn (by decide) hdf ⟨rfl,by decide,by decide⟩ hY nT hcd hT F (fun _ _ a ns hl hS hP=>⟨a,ns,rfl,hS,hl,hP (cpM,PtM) (by simp),hP (cpL,PtL) (by simp),fun _=>rfl⟩)
end Fw
open PySem PySem.W PyProof.Rows
structure PySem.W.Fast:Prop where(tw12679703918814615623 tw8907791047969731209 tw13492355493703846498 tw12636401508706456079 tw9191826458766760503 tw13006573448658111342 tw2916333426867474978 tw13786813796091923942 tw897642345729284880 tw9357986984385129956 tw1203423087670324230 tw10710080242261784552 tw2270608408298426776 tw11135884367617447767 tw8671185890182933930 tw11771721226794647481 tw3492005034488765499 tw17138268535839926393 tw18095521132667977763 tw6617775593555524196 tw2548210285867102583 tw15545986664834663608 tw15424305066073048828 tw1981321993985374071 tw2622203564222007916 tw12925323705160110320 tw8286111770636068249 tw12816726477444824747 tw10861655512448110955 tw1858060699130728944 tw5400296223987398785 tw5787212575993261475 tw2422172823776634917 tw9726527578099200356 tw8783086328910190802 tw3372457562007501662 tw16115417692814936305 tw1926774019781429368 tw6064100784219176841 tw10436318458494283127 tw8783543283245843121 tw8763409089125405970 tw16783836123664720152 tw13381062308440195976 tw8861823818692447239 tw13281977957630082944 tw3796917477932314700 tw1767761194070925176 tw3185737508316031224 tw20078275584714187 tw13995857063719706578 tw7918356988028828075 tw10439893758605150461 tw5791425864770574445 tw11689546294952678053 tw13708970561178871622 tw1251530555895446588 tw3639629637650222715 tw1642133710475881609 tw11276314804383850496 tw1905692098136156783 tw11265599567450127743 tw13872423327361161393 tw11889689702141673663 tw4764232246085176046 tw1589378125180157303 tw13628995568759651504 tw18325778417854794918 tw7887991167563132334 tw2140924595791324903 tw3001414150810898676 tw3857315903375032593 tw7644793341561929883 tw8520764383911930811 tw5987822150287422444 tw5136092318070038319 tw2182604591870170299 tw16452726592998434564 tw15624283238017295818 tw4541297762497708136 tw4614710623106059052 tw9312141363774324078 tw9670844481555385211 tw8353310671304773842 tw6515354843021283877 tw16062764088809730781 tw16609891102851541089 tw4030474354614857138 tw1788400104744178032 tw7275414109943441607 tw1479340762154901977 tw10172559183387599154 tw10072710426447899047 tw2242902602122097516 tw4895063180472138898 tw1768626009851728726 tw4885872257246650365 tw10462346825526207611 tw13898445944943205554 tw3520915867058125120 tw11385483293132781833 tw12772605704412601111 tw8856277391988244976 tw16414935110598443542 tw12598987804005567283 tw8065844694038786328 tw2061442999577022412 tw18049131689609901792 tw13703534418823763194 tw10082954142983716719 tw14213851297200660629 tw10145291395069518242 tw2877573976645606635 tw5129877629274720721 tw9715084902663374451 tw15106538381761755762 tw373681020006538669 tw3406074195239418002 tw9498793602211642345 tw1061262010759918598 tw12984394348382159279 tw2250670596761862001 tw16107476817610791715 tw6421597929192589956 tw16993510825856913211 tw12733208416966232590 tw5913761556616429311 tw13225278336351431696 tw17672761576974735288 tw10216509457130226477 tw13158101208010239020 tw8507158664657463450 tw7666930340425026374 tw12870930834108168664 tw5283121378240556803 tw9343920748329572816 tw13910222135781557596 tw10466690075052484259 tw14200809679489182124 tw6775346248875732273 tw786028450287988050 tw4008311672639488906 tw13729896417548096961 tw9930956292816669797 tw3245240458676792919 tw6860422833727799619 tw17409016784590798214 tw16697796045492901934 tw16690172134349633681 tw16344150231507737533 tw5454136952416938899 tw12105985276720660205 tw14279338734718519647 tw7349823807560868179 tw5729099306936385170 tw5352242352866975181 tw18317821128396237976 tw14094875541724111968 tw12058707400886724323 tw8696113119910229605 tw4422325754623967654 tw15353849266806800703 tw10494777297929691427 tw9861023454710097506 tw7295751968045873212 tw7232769057493388968 tw7142318103943381553 tw5774289542712791323 tw5099814029112706764 tw4736881292507959826 tw4632837511714219689 tw4347182252061686967 tw3614679332841340944 tw3452377234142964003 tw17301932977845856295 tw17278315299298730179 tw16136269224317456397 tw15208039016883717330 tw15103065131275958536 tw14911328181756799393 tw14652791788182351440 tw14649366901525082982 tw14329265499110415790 tw1371824875168351193 tw13483700563753831987 tw12411184558348779706 tw11240395238446572218 tw11090462161999560033 tw10249609231828604747 tw11567570936484000805 tw1978050624989988474 tw15457181600932777257 tw15730366927174025485 tw6075869199942051947 tw3912702021298498653 tw3644590315714426162 tw13351792147471419274 tw13264129962805328455 tw17413041873191001186 tw10706583683422994769 tw7850968306996224970 tw18409706046445930011 tw98054178469717467 tw8034295794641254239 tw4419460039307340859 tw16082169322565195209 tw15444076328746386089 tw1356055555160175004 tw7500612169267303858 tw14881153185247045584 tw4945606077181512525 tw16489333395023846667 tw2472098771132593863 tw10738958177262846898 tw14252575709776258347 tw8605184361168363052 tw3931200824348988215 tw2910742366427881497 tw2456227582414686970 tw17655562872019364100 tw1687478047396153060 tw14056858725659306195 tw13995100133846684019 tw12038270315292189676 tw10882355480520173162 tw9778386339599401729 tw9713985072209525632 tw9484488690890485572 tw9459911253838314116 tw9151294546990742841 tw9119867988979773009 tw8715254297033860399 tw856781351434305829 tw8551024957654179989 tw8541778896571290080 tw8518638129432706965 tw8258419773094114816 tw8100485927985027971 tw7972120857850184700 tw7622324631572144802 tw742337201361155421 tw6519933231934298612 tw6437674636659143894 tw6380861619487863604 tw6366991796738652663 tw5666936357140023628 tw535321642059610775 tw5347350999175974047 tw50874973380494483 tw5059982357026456883 tw4473155794251015242 tw4242063222086384777 tw3902381970473423839 tw3594071141592179004 tw3458357271321573909 tw3119639275643930982 tw18399839544891590108 tw17577278542437681832 tw17118657157724651467 tw16703187850164166399 tw16633235946389738085 tw16535980110498458759 tw16533269852685606819 tw16528949703801978578 tw16343683979983674672 tw1582553929910284743 tw15812161408525021714 tw15616753049729508078 tw15328652210566343937 tw15304011835776598700 tw15111716607164846145 tw14887788754897382086 tw14790159031562044745 tw14704005437989233919 tw14218153356704957920 tw13353654096448558164 tw13116686211735601819 tw13113680511449669342 tw13108717783915173308 tw12596226742849541674 tw12365019232547118737 tw12362408154839825606 tw12276338169330743665 tw11950082305296213967 tw11773444991213212532 tw11725730565304539814 tw11053579795280454892 tw10896110650884688339 tw10712315043204353082 tw104123693362632325 tw10068539089204589491 tw10037202793446757740:True)
set_option maxRecDepth 100000 in
set_option maxHeartbeats 0 in
theorem PySem.Challenge.cw_facework_k43_faces_shown_holds : PySem.Challenge.rw_facework_k43_faces_shown.Holds := by
 w_on;o_law;k_head;(case hw=>w_witness2)
 k_fill
 refine Fw.walk (l:=PySem.Challenge.rw_facework_k43_faces_shown) (cpM:=189) (PtM:=187) (cpL:=194) (PtL:=192) rfl rfl (fun w h Y=>PySem.W.km_in_of Y) (fun w=>by kernel_rfl) (fun w p hp=>?qcd) (fun w h Y p hp=>?qtb) ?F
 case qcd=>
  rcases List.mem_cons.mp hp with rfl|hp
  ·kernel_rfl
  ·rcases List.mem_singleton.mp hp with rfl
   kernel_rfl
 case qtb=>
  rcases List.mem_cons.mp hp with rfl|hp
  ·exact PySem.W.km_tabs_of Y 187 (by simp)
  ·rcases List.mem_singleton.mp hp with rfl
   exact PySem.W.km_tabs_of Y 192 (by simp)
 case F=>
  intro w mg fa h KX G hmg
  refine' Fw.all_mk KX G hmg ?z_len ?z_all ?z_isinstance ?z_str ?z_tuple ?z_list ?z_reversed ?z_range ?z_int ?z_dict ?z_zip ?aC ?cC ?mkC ?kcC ?nC0 ?nC1 ?nC2 ?mC0 ?mC1 ?mC2 ?mC3 ?mC5 ?mC6 ?mC7 ?mC8 ?v1 ?v2 ?v4 ?v5 ?nPt ?d2 ?d3 ?d4 ?d5 ?d6 ?d7 ?d8 ?d14 ?d15 ?d16 ?d17 ?d18 ?d20 ?d21 ?d22 ?d24 ?d25 ?d26 ?d29 ?d30 ?d31 ?d32 ?d33 ?d34 ?d35 ?d36 ?d37 ?d38 ?d39 ?d40 ?d41 ?d42 ?d43 ?d44 ?d45 ?d46 ?d47
  (case z_len=>k_is)
  (case z_all=>k_is)
  (case z_isinstance=>k_is)
  (case z_str=>k_is)
  (case z_tuple=>k_is)
  (case z_list=>k_is)
  (case z_reversed=>k_is)
  (case z_range=>k_is)
  (case z_int=>k_is)
  (case z_dict=>k_is)
  (case z_zip=>k_is)
  (case aC=>k_is)
  (case cC=>refine' Fw.cls_mk ?pg ?hd ?po ?sa;(case pg=>k_is);(case hd=>k_is);(case po=>k_is);(case sa=>k_is))
  (case mkC=>k_is)
  (case kcC=>k_is)
  (case nC0=>refine' Fw.noat_mk ?n;(case n=>k_is))
  (case nC1=>refine' Fw.noat_mk ?n;(case n=>k_is))
  (case nC2=>refine' Fw.noat_mk ?n;(case n=>k_is))
  (case mC0=>refine' Fw.meth_mk ?a ?i ?l ?c ?k;(case a=>k_is);(case i=>k_is);(case l=>k_is);(case c=>k_is);(case k=>k_is))
  (case mC1=>refine' Fw.meth_mk ?a ?i ?l ?c ?k;(case a=>k_is);(case i=>k_is);(case l=>k_is);(case c=>k_is);(case k=>k_is))
  (case mC2=>refine' Fw.meth_mk ?a ?i ?l ?c ?k;(case a=>k_is);(case i=>k_is);(case l=>k_is);(case c=>k_is);(case k=>k_is))
  (case mC3=>refine' Fw.meth_mk ?a ?i ?l ?c ?k;(case a=>k_is);(case i=>k_is);(case l=>k_is);(case c=>k_is);(case k=>k_is))
  (case mC5=>refine' Fw.meth_mk ?a ?i ?l ?c ?k;(case a=>k_is);(case i=>k_is);(case l=>k_is);(case c=>k_is);(case k=>k_is))
  (case mC6=>refine' Fw.meth_mkC ?a ?i ?l ?c ?k;(case a=>k_is);(case i=>k_is);(case l=>k_is);(case c=>k_is);(case k=>k_is))
  (case mC7=>refine' Fw.meth_mkC ?a ?i ?l ?c ?k;(case a=>k_is);(case i=>k_is);(case l=>k_is);(case c=>k_is);(case k=>k_is))
  (case mC8=>refine' Fw.meth_mk ?a ?i ?l ?c ?k;(case a=>k_is);(case i=>k_is);(case l=>k_is);(case c=>k_is);(case k=>k_is))
  (case v1=>refine' Fw.val_str ?a ?e;(case a=>k_is);(case e=>decide+kernel))
  (case v2=>refine' Fw.val_str ?a ?e;(case a=>k_is);(case e=>decide+kernel))
  (case v4=>refine' Fw.val_int ?a ?e;(case a=>k_is);(case e=>decide+kernel))
  (case v5=>refine' Fw.val_tup ?a ?b ?c ?d ?e;(case a=>k_is);(case b=>k_is);(case c=>rfl);(case d=>decide+kernel);(case e=>decide+kernel))
  (case nPt=>decide+kernel)
  (case d2=>refine' Fw.def_mk ?a ?l ?c ?k;(case a=>k_is);(case l=>k_is);(case c=>k_is);(case k=>k_is))
  (case d3=>refine' Fw.def_mk ?a ?l ?c ?k;(case a=>k_is);(case l=>k_is);(case c=>k_is);(case k=>k_is))
  (case d4=>refine' Fw.def_mk ?a ?l ?c ?k;(case a=>k_is);(case l=>k_is);(case c=>k_is);(case k=>k_is))
  (case d5=>refine' Fw.def_mk ?a ?l ?c ?k;(case a=>k_is);(case l=>k_is);(case c=>k_is);(case k=>k_is))
  (case d6=>refine' Fw.def_mk ?a ?l ?c ?k;(case a=>k_is);(case l=>k_is);(case c=>k_is);(case k=>k_is))
  (case d7=>refine' Fw.def_mk ?a ?l ?c ?k;(case a=>k_is);(case l=>k_is);(case c=>k_is);(case k=>k_is))
  (case d8=>refine' Fw.def_mk ?a ?l ?c ?k;(case a=>k_is);(case l=>k_is);(case c=>k_is);(case k=>k_is))
  (case d14=>refine' Fw.def_mk ?a ?l ?c ?k;(case a=>k_is);(case l=>k_is);(case c=>k_is);(case k=>k_is))
  (case d15=>refine' Fw.def_mk ?a ?l ?c ?k;(case a=>k_is);(case l=>k_is);(case c=>k_is);(case k=>k_is))
  (case d16=>refine' Fw.def_mk ?a ?l ?c ?k;(case a=>k_is);(case l=>k_is);(case c=>k_is);(case k=>k_is))
  (case d17=>refine' Fw.def_mk ?a ?l ?c ?k;(case a=>k_is);(case l=>k_is);(case c=>k_is);(case k=>k_is))
  (case d18=>refine' Fw.def_mk ?a ?l ?c ?k;(case a=>k_is);(case l=>k_is);(case c=>k_is);(case k=>k_is))
  (case d20=>refine' Fw.def_mk ?a ?l ?c ?k;(case a=>k_is);(case l=>k_is);(case c=>k_is);(case k=>k_is))
  (case d21=>refine' Fw.def_mk ?a ?l ?c ?k;(case a=>k_is);(case l=>k_is);(case c=>k_is);(case k=>k_is))
  (case d22=>refine' Fw.def_mk ?a ?l ?c ?k;(case a=>k_is);(case l=>k_is);(case c=>k_is);(case k=>k_is))
  (case d24=>refine' Fw.def_mk ?a ?l ?c ?k;(case a=>k_is);(case l=>k_is);(case c=>k_is);(case k=>k_is))
  (case d25=>refine' Fw.def_mk ?a ?l ?c ?k;(case a=>k_is);(case l=>k_is);(case c=>k_is);(case k=>k_is))
  (case d26=>refine' Fw.def_mk ?a ?l ?c ?k;(case a=>k_is);(case l=>k_is);(case c=>k_is);(case k=>k_is))
  (case d29=>refine' Fw.def_mk ?a ?l ?c ?k;(case a=>k_is);(case l=>k_is);(case c=>k_is);(case k=>k_is))
  (case d30=>refine' Fw.def_mk ?a ?l ?c ?k;(case a=>k_is);(case l=>k_is);(case c=>k_is);(case k=>k_is))
  (case d31=>refine' Fw.def_mk ?a ?l ?c ?k;(case a=>k_is);(case l=>k_is);(case c=>k_is);(case k=>k_is))
  (case d32=>refine' Fw.def_mk ?a ?l ?c ?k;(case a=>k_is);(case l=>k_is);(case c=>k_is);(case k=>k_is))
  (case d33=>refine' Fw.def_mk ?a ?l ?c ?k;(case a=>k_is);(case l=>k_is);(case c=>k_is);(case k=>k_is))
  (case d34=>refine' Fw.def_mk ?a ?l ?c ?k;(case a=>k_is);(case l=>k_is);(case c=>k_is);(case k=>k_is))
  (case d35=>refine' Fw.def_mk ?a ?l ?c ?k;(case a=>k_is);(case l=>k_is);(case c=>k_is);(case k=>k_is))
  (case d36=>refine' Fw.def_mk ?a ?l ?c ?k;(case a=>k_is);(case l=>k_is);(case c=>k_is);(case k=>k_is))
  (case d37=>refine' Fw.def_mk ?a ?l ?c ?k;(case a=>k_is);(case l=>k_is);(case c=>k_is);(case k=>k_is))
  (case d38=>refine' Fw.def_mk ?a ?l ?c ?k;(case a=>k_is);(case l=>k_is);(case c=>k_is);(case k=>k_is))
  (case d39=>refine' Fw.def_mk ?a ?l ?c ?k;(case a=>k_is);(case l=>k_is);(case c=>k_is);(case k=>k_is))
  (case d40=>refine' Fw.def_mk ?a ?l ?c ?k;(case a=>k_is);(case l=>k_is);(case c=>k_is);(case k=>k_is))
  (case d41=>refine' Fw.def_mk ?a ?l ?c ?k;(case a=>k_is);(case l=>k_is);(case c=>k_is);(case k=>k_is))
  (case d42=>refine' Fw.def_mk ?a ?l ?c ?k;(case a=>k_is);(case l=>k_is);(case c=>k_is);(case k=>k_is))
  (case d43=>refine' Fw.def_mk ?a ?l ?c ?k;(case a=>k_is);(case l=>k_is);(case c=>k_is);(case k=>k_is))
  (case d44=>refine' Fw.def_mk ?a ?l ?c ?k;(case a=>k_is);(case l=>k_is);(case c=>k_is);(case k=>k_is))
  (case d45=>refine' Fw.def_mk ?a ?l ?c ?k;(case a=>k_is);(case l=>k_is);(case c=>k_is);(case k=>k_is))
  (case d46=>refine' Fw.def_mk ?a ?l ?c ?k;(case a=>k_is);(case l=>k_is);(case c=>k_is);(case k=>k_is))
  (case d47=>refine' Fw.def_mk ?a ?l ?c ?k;(case a=>k_is);(case l=>k_is);(case c=>k_is);(case k=>k_is))
