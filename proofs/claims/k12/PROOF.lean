import PyProof.Rows.All
import Wide.All
import OpenK.AllK
import Wide.FinOn
import Lean
import PyProof.EqAt
import PyProof.EqKinds
import PyProof.TupleCall
import PyProof.StationsW
import OpenK.KOwn
import PyProof.ExcBaseAll.ValueError
import PyProof.NsDelKeeps
import PyProof.RulesAs
import KE.KLam
import KE.KNest
import KE.KIsAll
import PyProof.ExcArgs
import KE.KRevIter
import PyProof.CollectWalk
import PyProof.TupleOfSeq
import KE.KDictList
import PyProof.ZipIter
import KE.KDictLaws
import PyProof.CompUse
import PyProof.StrCalls6
import KE.KStrOpen
import PyProof.Rows.StrJoin2
import PyProof.Rows.FStr
import PyProof.TupleOfGen
import PyProof.SumWalk
import PyProof.Rows.CountFlat
import PyProof.FactsAll.list_3
import PySem.Challenge.RW_facework_k12_clause_by_clause
set_option Elab.async false
set_option linter.all false
set_option maxRecDepth 100000
namespace L2
open PySem PySem.Spec PyProof.Rows
abbrev Key:=Sum Int Str
def keyIs:Key→Value→Bool
 |.inl k,v=>Value.isInt k v
 |.inr x,v=>Value.isStrOf x v
def keyH (w:World):Key→Int
 |.inl k=>hashInt k
 |.inr x=>hashStr w x
theorem keyIs_shape:∀{k:Key} {v:Value},keyIs k v=true→(∃i t,k=Sum.inl i∧v=Value.int i t)∨(∃x t,k=Sum.inr x∧v=Value.str x t)
 |.inl i,v,h=>by
  obtain⟨t,e⟩:=Value.isInt_shape (k:=i) (v:=v) h
  exact .inl ⟨i,t,rfl,e⟩
 |.inr x,v,h=>by
  obtain⟨t,e⟩:=Value.isStrOf_shape (x:=x) (v:=v) h
  exact .inr ⟨x,t,rfl,e⟩
theorem keyIs_int (i:Int)(t:Tok):keyIs (.inl i) (.int i t)=true:=by simp[keyIs,Value.isInt]
theorem keyIs_str (x:Str)(t:Tok):keyIs (.inr x) (.str x t)=true:=by simp[keyIs,Value.isStrOf]
theorem key_ll (a b:Int):decide ((Sum.inl a:Key)=Sum.inl b)=(a==b):=by
 by_cases e:a=b
 ·subst e;simp
 ·have h:¬(Sum.inl a:Key)=Sum.inl b:=fun q=>e (Sum.inl.inj q)
  rw[decide_eq_false h]
  exact(beq_eq_false_iff_ne.mpr e).symm
theorem key_rr (a b:Str):decide ((Sum.inr a:Key)=Sum.inr b)=decide (a=b):=by
 by_cases e:a=b
 ·subst e;simp
 ·have h:¬(Sum.inr a:Key)=Sum.inr b:=fun q=>e (Sum.inr.inj q)
  rw[decide_eq_false h,decide_eq_false e]
theorem key_lr (a:Int)(b:Str):decide ((Sum.inl a:Key)=Sum.inr b)=false:=decide_eq_false (fun q=>nomatch q)
theorem key_rl (a:Str)(b:Int):decide ((Sum.inr a:Key)=Sum.inl b)=false:=decide_eq_false (fun q=>nomatch q)
def mixKind (prog:Program)(w:World):PySem.KeyKind prog w Key where
 is:=keyIs
 hash:=keyH w
 inj:=fun v a b ha hb=>by
  rcases keyIs_shape ha with ⟨i,t,rfl,rfl⟩|⟨x,t,rfl,rfl⟩
  ·rcases keyIs_shape hb with ⟨j,u,rfl,e⟩|⟨y,u,rfl,e⟩
   ·injection e with e1 _;rw[e1]
   ·exact nomatch e
  ·rcases keyIs_shape hb with ⟨j,u,rfl,e⟩|⟨y,u,rfl,e⟩
   ·exact nomatch e
   ·injection e with e1 _;rw[e1]
 byValue:=fun k v h=>by
  rcases keyIs_shape h with ⟨i,t,rfl,rfl⟩|⟨x,t,rfl,rfl⟩<;>rfl
 pyHash:=fun hv h=>by
  rcases keyIs_shape hv with ⟨i,t,rfl,rfl⟩|⟨x,t,rfl,rfl⟩
  ·exact wpAny_pyHash_int h
  ·exact wpAny_pyHash_str h
 eqBool:=fun hu hv h=>by
  rcases keyIs_shape hu with ⟨i,t,rfl,rfl⟩|⟨x,t,rfl,rfl⟩
  ·rcases keyIs_shape hv with ⟨j,u,rfl,rfl⟩|⟨y,u,rfl,rfl⟩
   ·rw[key_ll]at h;exact wpAny_eqBool_int h
   ·rw[key_lr]at h;exact SeqAt.EqAt.int_str i t y u _ _ _ _ h
  ·rcases keyIs_shape hv with ⟨j,u,rfl,rfl⟩|⟨y,u,rfl,rfl⟩
   ·rw[key_rl]at h;exact SeqAt.EqAt.str_int x t j u _ _ _ _ h
   ·rw[key_rr]at h;exact wpAny_eqBool_str h
 «strs»:=fun k x t v h=>by
  rcases keyIs_shape h with ⟨i,u,rfl,e⟩|⟨y,u,rfl,e⟩
  ·exact nomatch e
  ·injection e with e1 _
   subst e1
   cases v<;>rfl
theorem mixKind_int (prog:Program)(w:World)(i:Int)(t:Tok):(mixKind prog w).is (.inl i) (.int i t)=true:=keyIs_int i t
theorem mixKind_str (prog:Program)(w:World)(x:Str)(t:Tok):(mixKind prog w).is (.inr x) (.str x t)=true:=keyIs_str x t
inductive V where
 |non|bl (b:Bool)|int (i:Int)|str (x:Str)|byt (b:Array UInt8)|flt (b:UInt64)|ref (a:Addr)|ty (n:String)
 deriving DecidableEq
def RelV:V→Value→Prop
 |.non,u=>u=Value.none
 |.bl b,u=>u=Value.bool b
 |.int i,u=>∃t,u=Value.int i t
 |.str x,u=>∃t,u=Value.str x t
 |.byt b,u=>∃t,u=Value.bytes b t
 |.flt b,u=>∃t,u=Value.float b t
 |.ref a,u=>u=Value.ref a
 |.ty n,u=>u=Value.type n
abbrev Vals:List V→List Value→Prop:=Paired RelV
theorem Vals.length {xs:List V}{us:List Value}(r:Vals xs us):xs.length=us.length:=Paired.length r
theorem Vals.get {xs:List V}{us:List Value}{i:Nat}{x:V}(h:Vals xs us)(e:xs[i]?=some x):∃u,us[i]?=some u∧RelV x u:=by
 induction h generalizing i with
 |nil=>simp at e
 |cons r _ ih=>cases i with
  |zero=>cases e;exact⟨_,rfl,r⟩
  |succ i=>exact(ih (i:=i) e:)
theorem Vals.set {x:V}{u:Value}(r:RelV x u){xs:List V}{us:List Value}(i:Nat)(h:Vals xs us):Vals (xs.set i x) (us.set i u):=by
 induction h generalizing i with
 |nil=>exact .nil
 |cons q t ih=>cases i with
  |zero=>exact .cons r t
  |succ i=>exact .cons q (ih i)
theorem Vals.append {xs ys:List V}{us ws:List Value}(h:Vals xs us)(s:Vals ys ws):Vals (xs++ys) (us++ws):=by
 induction h with
 |nil=>exact s
 |cons r _ ih=>exact .cons r ih
theorem Vals.take {xs:List V}{us:List Value}(n:Nat)(h:Vals xs us):Vals (xs.take n) (us.take n):=by
 induction h generalizing n with
 |nil=>cases n<;>exact .nil
 |cons r _ ih=>cases n with
  |zero=>exact .nil
  |succ n=>exact .cons r (ih n)
theorem Vals.drop {xs:List V}{us:List Value}(n:Nat)(h:Vals xs us):Vals (xs.drop n) (us.drop n):=by
 induction h generalizing n with
 |nil=>cases n<;>exact .nil
 |cons r t ih=>cases n with
  |zero=>exact .cons r t
  |succ n=>exact ih n
def RelO:Option V→Option Value→Prop
 |some v,some u=>RelV v u
 |none,none=>True
 |_,_=>False
def KV {κ:Type}:List (κ×V)→List (κ×Value)→Prop:=Paired fun(p:κ×V) (q:κ×Value)=>p.1=q.1∧RelV p.2 q.2
def kV:Key→V
 |.inl i=>.int i
 |.inr x=>.str x
inductive HO where
 |lst (xs:List V)
 |tup (xs:List V)
 |dK (kvs:List (Key×V))|dT (kvs:List (List Key×V))
 |set (S:Int→Bool) (n:Nat)
 |ins (C dx:Addr) (fs:List (Str×V))
 |own (x:Addr)
 |xd (fs:List (Str×V))
 |met (f x:Addr)
 |rng (lo hi:Int)
 |frz (o:Obj) (u:HO)
 |tbl (ps:Array Value)
 |ext (φ:Heap→Prop)
abbrev Hp:=Addr→Option HO
def upd (H:Hp)(a:Addr)(o:HO):Hp:=fun b=>if b=a then some o else H b
theorem upd_same {H:Hp}{a:Addr}{o:HO}:upd H a o a=some o:=by unfold upd;rw[if_pos rfl]
theorem upd_ne {H:Hp}{a b:Addr}{o:HO}(h:b≠a):upd H a o b=H b:=by unfold upd;rw[if_neg h]
theorem ne_of {H:Hp}{a b:Addr}{o u:HO}(h:H a=some o)(h':H b=some u)(d:o≠u):a≠b:=by
 intro e;subst e;rw[h]at h';exact d (Option.some.inj h')
theorem ne_of_none {H:Hp}{a b:Addr}{o:HO}(h:H a=some o)(h':H b=none):a≠b:=by
 intro e;subst e;rw[h]at h';cases h'
section
variable (P:Program)(w:World)
def ObjOk (H:Hp)(h:Heap)(a:Addr):HO→Prop
 |.lst xs=>xs.length≤sizeLine∧∃(its:List Value) (n:Nat),Vals xs its∧h.get? a=some {cls:=.type "list",data:=.seq its.toArray n}
 |.tup xs=>xs.length≤sizeLine∧∃its:List Value,Vals xs its∧IsTup h a its.toArray
 |.dK kvs=>kvs.length≤sizeLine∧(a==sysModules)=false∧∃vs,KV kvs vs∧h.DictOf (mixKind P w) a vs
 |.dT kvs=>kvs.length≤sizeLine∧(a==sysModules)=false∧∃xs:List (List Key×Addr×Value),
   Paired (fun(p:List Key×V) (q:List Key×Addr×Value)=>p.1=q.1∧H q.2.1=some (.tup (p.1.map kV))∧RelV p.2 q.2.2) kvs xs∧
   ∃o es ep,h.get? a=some o∧o.ExactDict∧o.data=.dict es ep∧es.toList=xs.map (entryOfKey (tupleKind (mixKind P w)))∧(xs.map (·.1)).Nodup
 |.set S n=>h.SetOf (intKind P w) a S n
 |.ins C dx fs=>H dx=some (.own a)∧fs.length≤1000∧dx≠a∧h.get? a=some (PySem.W.instObj C dx)∧
   ∃mA,h.Ns1 dx mA∧(∀f,RelO (fs.lookup f) (mA f))∧PySem.Within mA (fs.map (·.1))
 |.own _=>∃o,h.get? a=some o
 |.xd fs=>∃mA,h.Ns1 a mA∧∀f,RelO (fs.lookup f) (mA f)
 |.rng lo hi=>∃t u v,h.get? a=some {cls:=.type "range",data:=.fields #[.int lo t, .int hi u, .int 1 v]}
 |.frz o u=>h.get? a=some o∧ObjOk H h a u
 |.tbl ps=>h.get? a=some {cls:=.none,data:=.fields ps}
 |.met f x=>h.get? a=some (PySem.W.methodObj (.ref f) (.ref x))
 |.ext φ=>φ h∧(∃o,h.get? a=some o)∧∀h1 h2:Heap,φ h1→(∀o,h1.get? a=some o→h2.get? a=some o)→φ h2
def HOk (H:Hp)(h:Heap):Prop:=∀a o,H a=some o→ObjOk P w H h a o
end
section
variable {P:Program}{w:World}{H H':Hp}{h h':Heap}{a:Addr}{o:HO}
theorem ObjOk.lt (x:ObjOk P w H h a o):a<h.objs.size:=by
 cases o with
 |lst xs=>obtain⟨_,_,_,_,e⟩:=x;exact Heap.lt_size e
 |tup xs=>obtain⟨_,_,_,p⟩:=x;exact p.lt
 |dK kvs=>obtain⟨_,_,_,_,o,_,_,e,_⟩:=x;exact Heap.lt_size e
 |dT kvs=>obtain⟨_,_,_,_,o,_,_,e,_⟩:=x;exact Heap.lt_size e
 |set S n=>obtain⟨o,_,_,_,e,_⟩:=x;exact Heap.lt_size e
 |ins C dx fs=>obtain⟨_,_,_,e,_⟩:=x;exact Heap.lt_size e
 |own y=>obtain⟨_,e⟩:=x;exact Heap.lt_size e
 |xd fs=>obtain⟨_,⟨_,_,_,e,_⟩,_⟩:=x;exact Heap.lt_size e
 |rng lo hi=>obtain⟨_,_,_,e⟩:=x;exact Heap.lt_size e
 |frz ob u=>obtain⟨e,_⟩:=x;exact Heap.lt_size e
 |tbl ps=>exact Heap.lt_size (show h.get? a=some _ from x)
 |met f y=>exact Heap.lt_size (show h.get? a=some _ from x)
 |ext φ=>obtain⟨_,⟨_,e⟩,_⟩:=x;exact Heap.lt_size e
theorem Paired.mapP {α β:Type}{F G:α→β→Prop}{l₁:List α}{l₂:List β}(h:Paired F l₁ l₂)(f:∀a b,F a b→G a b):Paired G l₁ l₂:=by
 induction h with
 |nil=>exact .nil
 |cons r _ ih=>exact .cons (f _ _ r) ih
theorem ObjOk.stay (x:ObjOk P w H h a o)(k:∀b u,(b=a∨H b=some (.own a))→h.get? b=some u→h'.get? b=some u)
  (ho:∀b,H b=some (.own a)→H' b=some (.own a)) (ht:∀b xs,H b=some (.tup xs)→H' b=some (.tup xs)):ObjOk P w H' h' a o:=by
 induction o with
 |lst xs=>obtain⟨z,its,n,r,e⟩:=x;exact⟨z,its,n,r,k _ _ (.inl rfl) e⟩
 |tup xs=>obtain⟨z,its,r,ob,e,c⟩:=x;exact⟨z,its,r,ob,k _ _ (.inl rfl) e,c⟩
 |dK kvs=>obtain⟨z,y,vs,r,ob,es,ep,e,c⟩:=x;exact⟨z,y,vs,r,ob,es,ep,k _ _ (.inl rfl) e,c⟩
 |dT kvs=>
  obtain⟨z,y,xs,r,ob,es,ep,e,c⟩:=x
  exact⟨z,y,xs,Paired.mapP r fun p q z=>⟨z.1,ht _ _ z.2.1,z.2.2⟩,ob,es,ep,k _ _ (.inl rfl) e,c⟩
 |set S n=>obtain⟨ob,es,ep,t,e,c⟩:=x;exact⟨ob,es,ep,t,k _ _ (.inl rfl) e,c⟩
 |ins C dx fs=>
  obtain⟨d,z,ne,e,mA,⟨od,es,ep,e2,c⟩,r⟩:=x
  exact⟨ho _ d,z,ne,k _ _ (.inl rfl) e,mA,⟨od,es,ep,k _ _ (.inr d) e2,c⟩,r⟩
 |own y=>obtain⟨ob,e⟩:=x;exact⟨ob,k _ _ (.inl rfl) e⟩
 |xd fs=>obtain⟨mA,⟨od,es,ep,e,c⟩,r⟩:=x;exact⟨mA,⟨od,es,ep,k _ _ (.inl rfl) e,c⟩,r⟩
 |rng lo hi=>obtain⟨t,u,v,e⟩:=x;exact⟨t,u,v,k _ _ (.inl rfl) e⟩
 |frz ob u ih=>obtain⟨e,q⟩:=x;exact⟨k _ _ (.inl rfl) e,ih q⟩
 |tbl ps=>
  have e:h.get? a=some {cls:=.none,data:=.fields ps}:=x
  show h'.get? a=some {cls:=.none,data:=.fields ps}
  exact k a _ (.inl rfl) e
 |met f y=>
  have e:h.get? a=some (PySem.W.methodObj (.ref f) (.ref y)):=x
  show h'.get? a=some (PySem.W.methodObj (.ref f) (.ref y))
  exact k a _ (.inl rfl) e
 |ext φ=>obtain⟨p,⟨o,e⟩,st⟩:=x;exact⟨st _ _ p fun o q=>k _ _ (.inl rfl) q,⟨o,k _ _ (.inl rfl) e⟩,st⟩
theorem HOk.lt (x:HOk P w H h)(e:H a=some o):a<h.objs.size:=(x a o e).lt
theorem HOk.fresh (x:HOk P w H h)(e:h.objs.size≤a):H a=none:=by
 cases q:H a with
 |none=>rfl
 |some u=>exact absurd (Nat.lt_of_lt_of_le (x.lt q) e) (Nat.lt_irrefl _)
theorem HOk.kept (x:HOk P w H h)(k:∀b u,h.get? b=some u→h'.get? b=some u):HOk P w H h':=fun a o e=>
 (x a o e).stay (fun b u _ q=>k b u q) (fun _ q=>q) fun _ _ q=>q
theorem HOk.laid (x:HOk P w H h)(k:∀b u,h.get? b=some u→h'.get? b=some u)(hp:h.objs.size≤a)(new:ObjOk P w (upd H a o) h' a o):HOk P w (upd H a o) h':=fun b u e=>by
 have hn:=x.fresh hp
 by_cases hb:b=a
 ·subst hb;rw[upd_same]at e;cases e;exact new
 ·rw[upd_ne hb]at e
  exact(x b u e).stay (fun c v _ q=>k c v q) (fun c q=>by rw[upd_ne (ne_of_none q hn)];exact q) fun c xs q=>by rw[upd_ne (ne_of_none q hn)];exact q
end
def Rd (H:Hp)(a:Addr)(u:HO):Prop:=H a=some u∨∃o,H a=some (.frz o u)
theorem Rd.ok {P:Program}{w:World}{H:Hp}{h:Heap}{a:Addr}{u:HO}(r:Rd H a u)(x:HOk P w H h):ObjOk P w H h a u:=by
 rcases r with r|⟨o,r⟩
 ·exact x a u r
 ·obtain⟨_,q⟩:=x a _ r
  exact q
def Mut:Option HO→Prop
 |some (.lst _)=>True
 |some (.dK _)=>True
 |some (.dT _)=>True
 |some (.set _ _)=>True
 |some (.ins _ _ _)=>True
 |some (.ext _)=>True
 |_=>False
section
variable {P:Program}{w:World}{H:Hp}{h h':Heap}{x e:Addr}{o':HO}
theorem HOk.write (ok:HOk P w H h)(mu:Mut (H x))(he:e=x∨H e=some (.own x))(k:∀b u,b≠e→h.get? b=some u→h'.get? b=some u)(heo:∃u,h'.get? e=some u)
  (new:ObjOk P w (upd H x o') h' x o'):HOk P w (upd H x o') h':=fun b u q=>by
 have nown:∀c y,H c=some (.own y)→c≠x:=fun c y r z=>by subst z;rw[r]at mu;exact mu
 have ntup:∀c xs,H c=some (.tup xs)→c≠x:=fun c xs r z=>by subst z;rw[r]at mu;exact mu
 by_cases hb:b=x
 ·subst hb;rw[upd_same]at q;cases q;exact new
 ·rw[upd_ne hb]at q
  by_cases hbe:b=e
  ·have q':H b=some (.own x):=by
    rcases he with z|z
    ·exact absurd (hbe.trans z) hb
    ·rw[hbe];exact z
   rw[q]at q';cases q'
   obtain⟨v,hv⟩:=heo
   exact⟨v,by rw[hbe];exact hv⟩
  ·refine(ok b u q).stay (fun c v hc r=>k c v ?_ r) (fun c r=>by rw[upd_ne (nown c b r)];exact r) fun c xs r=>by rw[upd_ne (ntup c xs r)];exact r
   rcases hc with rfl|hc
   ·exact hbe
   ·rintro rfl
    rcases he with z|z
    ·exact nown c b hc z
    ·rw[hc]at z;cases z;exact hb rfl
end
structure Un (fs ex:List Addr)(H H':Hp)(h h':Heap):Prop where
 keep:∀b o,h.get? b=some o→H b=none→b∉fs→b∉ex→h'.get? b=some o
 slot:∀b o,h.get? b=some o→H b=none→b∈fs→b∉ex→∃sl,h'.get? b=some {o with slots:=sl}
 free:∀b o,h.get? b=some o→H b=none→b∉ex→H' b=none
 there:∀b o,h.get? b=some o→b∉ex→∃o',h'.get? b=some o'
 tups:∀b xs,H b=some (.tup xs)→H' b=some (.tup xs)
 frzs:∀b o u,H b=some (.frz o u)→H' b=some (.frz o u)
 tbls:∀b ps,H b=some (.tbl ps)→∃more,H' b=some (.tbl (ps++more))
section
variable {fs fs' ex ex':List Addr}{H H1 H2:Hp}{h h1 h2 h':Heap}{a x e:Addr}{o:HO}
theorem Un.any (u:Un fs ex H H1 h h1){b:Addr}{ob:Obj}(q:h.get? b=some ob)(n:H b=none)(hx:b∉ex):∃sl,h1.get? b=some {ob with slots:=sl}:=by
 by_cases hb:b∈fs
 ·exact u.slot b ob q n hb hx
 ·exact⟨ob.slots,u.keep b ob q n hb hx⟩
theorem Un.kept (k:∀b u,h.get? b=some u→h'.get? b=some u):Un fs ex H H h h' :=
 ⟨fun b ob q _ _ _=>k b ob q,fun b ob q _ _ _=>⟨ob.slots,k b ob q⟩,fun _ _ _ n _=>n,fun b ob q _=>⟨ob,k b ob q⟩,fun _ _ q=>q,fun _ _ _ q=>q,fun _ ps q=>⟨#[],by rw[q];simp⟩⟩
theorem Un.refl:Un fs ex H H h h:=Un.kept fun _ _ q=>q
theorem Un.laid (k:∀b u,h.get? b=some u→h'.get? b=some u)(hp:h.objs.size≤a)(hn:H a=none):Un fs ex H (upd H a o) h h' where
 keep:=fun b u q _ _ _=>k b u q
 slot:=fun b u q _ _ _=>⟨u.slots,k b u q⟩
 free:=fun b u q n _=>by rw[upd_ne (Nat.ne_of_lt (Nat.lt_of_lt_of_le (Heap.lt_size q) hp))];exact n
 there:=fun b u q _=>⟨u,k b u q⟩
 tups:=fun b xs q=>by rw[upd_ne (ne_of_none q hn)];exact q
 frzs:=fun b u xs q=>by rw[upd_ne (ne_of_none q hn)];exact q
 tbls:=fun b ps q=>⟨#[],by rw[upd_ne (ne_of_none q hn),q];simp⟩
theorem Un.write (mu:Mut (H x))(he:e=x∨H e=some (.own x))(k:∀b u,b≠e→h.get? b=some u→h'.get? b=some u)(heo:∃u,h'.get? e=some u):Un fs ex H (upd H x o) h h':=by
 have hx:∀b,H b=none→b≠x:=fun b n z=>by subst z;rw[n]at mu;exact mu
 have hb:∀b,H b=none→b≠e:=fun b n z=>by
  subst z
  rcases he with r|r
  ·exact hx b n r
  ·rw[n]at r;cases r
 have hm:∀b u,H b=some u→¬Mut (some u)→b≠x:=fun b u q nm z=>by subst z;rw[q]at mu;exact nm mu
 refine⟨fun b u q n _ _=>k b u (hb b n) q,fun b u q n _ _=>⟨u.slots,k b u (hb b n) q⟩,fun b u q n _=>by rw[upd_ne (hx b n)];exact n,fun b u q _=>?_,
  fun b xs q=>by rw[upd_ne (hm b _ q fun z=>z)];exact q,fun b u xs q=>by rw[upd_ne (hm b _ q fun z=>z)];exact q,fun b ps q=>⟨#[],by rw[upd_ne (hm b _ q fun z=>z),q];simp⟩⟩
 by_cases hbe:b=e
 ·subst hbe;exact heo
 ·exact⟨u,k b u hbe q⟩
end
def trk (h:Heap)(H:Hp):List Addr:=(List.range h.objs.size).filter fun a=>(H a).isSome
def hidT (h:Heap)(H:Hp):Heap:=PySem.W.hideAll h (trk h H)
theorem hidT_size (h:Heap)(H:Hp):(hidT h H).objs.size=h.objs.size:=PySem.W.hideAll_size _ _
theorem hidT_get {h:Heap}{H:Hp}{b:Addr}{o:Obj}(e:h.get? b=some o)(n:H b=none):(hidT h H).get? b=some o :=
 PySem.W.hideAll_get _ e fun hm=>by
  have q:(H b).isSome=true:=(List.mem_filter.mp hm).2
  rw[n]at q;simp at q
theorem of_hidT {h:Heap}{H:Hp}{b:Addr}{o:Obj}(e:(hidT h H).get? b=some o):h.get? b=some o∧H b=none:=by
 have e':h.get? b=some o:=PySem.W.of_hideAll (trk h H) e
 refine⟨e',?_⟩
 cases q:H b with
 |none=>rfl
 |some x=>
  have hm:b∈trk h H:=List.mem_filter.mpr ⟨List.mem_range.mpr (Heap.lt_size e'),by simp[q]⟩
  have z:(hidT h H).get? b=none:=PySem.W.hideAll_none (trk h H) hm
  rw[z]at e;cases e
def allNews (g h:Heap)(L:Addr):List (Addr×Obj):=(List.range h.objs.size).filterMap fun a=>if a=L∨(g.get? a).isSome=true then none else(h.get? a).map fun o=>(a,o)
def rest (g h:Heap)(L d:Addr):List (Addr×Obj):=(allNews g h L).filter fun p=>decide (p.1≠d)
structure Mod (K:PySem.W.Frag)(mg:Str→Option Value)(base:Heap):Prop where
 kin:K.In base
 glob:base.Ns mainGlobals mg
 blt:∃mb,base.Ns builtinsNs mb∧∀x:Str,x≠"__name__"→mb x=bootBuiltins x
 nolimit:base.NoLimit
structure Cx where
 prog:Program
 w:World
 K:PySem.W.Frag
 mg:Str→Option Value
 base:Heap
 A:Around
 N:List Str
 s₀:Shared
 H₀:Hp
 env:Env
 outer:List Env
 stack:List Env
 ex:List Addr
 fn:Str→Bool
 calm:Bool
 pn:List (Addr×Obj)
 xe:Value→Shared→Prop
def frs (l:List Env):List Addr:=l.filterMap (·.frame)
abbrev Cx.fs (X:Cx):List Addr:=frs X.outer
def Vis (sc:Scope)(x:Str):Prop:=sc.names.lookup x=some .local∨sc.names.lookup x=some .cell∨sc.names.lookup x=some .free
def Loc (sc:Scope)(x:Str):Prop:=sc.names.lookup x=some .local∨sc.names.lookup x=some .cell
def Look (env:Env)(h:Heap)(m:Str→Option Value)(x:Str)(u:Value):Prop :=
 (env.kindOf x=some .local∧m x=some u)∨((env.kindOf x=some .cell∨env.kindOf x=some .free)∧∃c,env.cells.lookup x=some c∧h.IsCell c (some u))
structure Cx.Ok (X:Cx):Prop where
 mod:Mod X.K X.mg X.base
 kind:X.env.scope.kind=.function
 glob:X.env.globals=mainGlobals
 blt:X.env.builtins=builtinsNs
 above:X.s₀.heap.objs.size≤X.env.locals
 inj:∀x y c,X.env.cells.lookup x=some c→X.env.cells.lookup y=some c→x=y
 has:∀x,(X.env.kindOf x=some .cell∨X.env.kindOf x=some .free)→∃c,X.env.cells.lookup x=some c
 cab:∀x c,X.fn x=true→X.env.cells.lookup x=some c→X.s₀.heap.objs.size≤c
 hd:X.calm=true→X.A.handled=none
 frames:X.A.frames=some X.stack
 stk:X.stack=X.outer∨(X.stack=X.env::X.outer∧X.env.frame=some X.env.locals)
 exf:∀b∈X.ex,b≠X.env.locals∧∀x c,X.env.cells.lookup x=some c→c≠b
 bs:∀b o,X.base.get? b=some o→X.s₀.heap.get? b=some o∧X.H₀ b=none
 bsz:X.base.objs.size≤X.s₀.heap.objs.size
 noex:∀b o,X.base.get? b=some o→b∉X.ex
 exfs:∀b∈X.ex,b∉X.fs
 funs:X.s₀.heap.FunFrames X.base X.outer
 frf:∀b∈X.fs,X.H₀ b=none
structure Inv (X:Cx)(pins:List (Addr×Obj))(σ:List (Option V))(H:Hp)(s:Shared):Prop where
 ok:X.Ok
 os:s.os=X.s₀.os
 bare:AllBare s.gens
 base:Un X.fs X.ex X.H₀ H X.s₀.heap s.heap
 loc:∃m,s.heap.Ns X.env.locals m∧∀(i:Nat) (x:Str) (v:V),X.N[i]?=some x→σ[i]?=some (some v)→Vis X.env.scope x→∃u,RelV v u∧Look X.env s.heap m x u
 cell:∀x c,X.env.cells.lookup x=some c→∃v,s.heap.IsCell c v
 free:H X.env.locals=none
 freeC:∀x c,X.env.cells.lookup x=some c→H c=none
 pin:∀p∈X.pn++pins,s.heap.get? p.1=some p.2∧H p.1=none∧p.1≠X.env.locals∧p.1∉X.fs∧∀v,p.2.data≠.cell v
 hok:HOk X.prog X.w H s.heap
 len:σ.length=X.N.length
section
variable {X:Cx}{pins:List (Addr×Obj)}{σ:List (Option V)}{H H':Hp}{s:Shared}{h':Heap}
theorem Cx.Ok.nofr (ok:X.Ok){b:Addr}{o:Obj}(e:X.base.get? b=some o):b∉X.fs:=fun hb=>by
 have:=(ok.funs.mem hb).1
 rw[e]at this;cases this
theorem Inv.bs (I:Inv X pins σ H s):∀b o,X.base.get? b=some o→s.heap.get? b=some o∧H b=none:=fun b o e=>
 ⟨I.base.keep b o (I.ok.bs b o e).1 (I.ok.bs b o e).2 (I.ok.nofr e) (I.ok.noex b o e),I.base.free b o (I.ok.bs b o e).1 (I.ok.bs b o e).2 (I.ok.noex b o e)⟩
theorem Inv.bk (I:Inv X pins σ H s):∀b o,X.base.get? b=some o→s.heap.get? b=some o:=fun b o e=>(I.bs b o e).1
theorem Inv.mod (I:Inv X pins σ H s):Mod X.K X.mg X.base:=I.ok.mod
theorem Inv.kIn (I:Inv X pins σ H s):X.K.In s.heap:=I.ok.mod.kin.keeps I.bk
theorem Inv.lt (I:Inv X pins σ H s):X.env.locals<s.heap.objs.size:=let ⟨_,hn,_⟩:=I.loc;hn.lt
theorem Inv.sz (I:Inv X pins σ H s):X.s₀.heap.objs.size≤s.heap.objs.size:=Nat.le_trans I.ok.above (Nat.le_of_lt I.lt)
theorem Inv.nofs (I:Inv X pins σ H s){a:Addr}(h:s.heap.objs.size≤a):a∉X.fs:=fun hb=>by
 obtain⟨_,o,ho,_⟩:=I.ok.funs.mem hb
 exact absurd (Nat.lt_of_lt_of_le (Heap.lt_size ho) (Nat.le_trans I.sz h)) (Nat.lt_irrefl _)
theorem Inv.cne (I:Inv X pins σ H s):∀x c,X.env.cells.lookup x=some c→c≠X.env.locals:=fun x c e z=>by
 obtain⟨v,o,ho,hd⟩:=I.cell x c e
 obtain⟨m,⟨o',es,ep,ho',hd',_⟩,_⟩:=I.loc
 rw[z,ho']at ho;cases ho;rw[hd']at hd;cases hd
theorem Inv.funs (I:Inv X pins σ H s):s.heap.FunFrames X.base X.outer:=by
 have all:∀(l:List Env),(∀b∈frs l,b∈X.fs)→X.s₀.heap.FunFrames X.base l→s.heap.FunFrames X.base l:=by
  intro l
  induction l with
  |nil=>intro _ _;trivial
  |cons env r ih=>
   intro hs hl
   obtain⟨hk,⟨L,o,hf,hn,ho,hd⟩,hr⟩:=hl
   have hL:L∈X.fs:=hs L (by unfold frs;rw[List.filterMap_cons,hf];exact List.mem_cons_self)
   obtain⟨sl,e⟩:=I.base.slot L o ho (I.ok.frf L hL) hL fun z=>I.ok.exfs L z hL
   exact⟨hk,⟨L,_,hf,hn,e,hd⟩,ih (fun b hb=>hs b (by unfold frs;rw[List.filterMap_cons,hf];exact List.mem_cons_of_mem _ hb)) hr⟩
 exact all X.outer (fun _ hb=>hb) I.ok.funs
theorem Inv.stack (I:Inv X pins σ H s):s.heap.FunFrames X.base X.stack:=by
 rcases I.ok.stk with e|⟨e,hf⟩
 ·rw[e];exact I.funs
 ·rw[e]
  obtain⟨m,hn,_⟩:=I.loc
  refine .cons (by rw[I.ok.kind];decide) hf hn ?_ I.funs
  exact Heap.get?_none_of_le (Nat.le_trans I.ok.bsz I.ok.above)
theorem Inv.stkSub (I:Inv X pins σ H s):∀b∈frs X.stack,b∈X.env.locals::X.fs:=fun b hb=>by
 rcases I.ok.stk with e|⟨e,hf⟩
 ·rw[e]at hb;exact List.mem_cons_of_mem _ hb
 ·rw[e]at hb
  unfold frs at hb
  rw[List.filterMap_cons,hf]at hb
  exact hb
theorem Inv.stkFree (I:Inv X pins σ H s):∀b∈frs X.stack,H b=none:=fun b hb=>by
 rcases List.mem_cons.mp (I.stkSub b hb) with e|hb
 ·rw[e];exact I.free
 ·obtain⟨_,o,ho,_⟩:=I.ok.funs.mem hb
  exact I.base.free b o ho (I.ok.frf b hb) fun z=>I.ok.exfs b z hb
theorem Inv.step {g':Array GenState}{t':Nat}{d':Drawn}{ch:List Addr}(I:Inv X pins σ H s)
  (hch:∀b∈ch,(b∈X.ex∨X.s₀.heap.objs.size≤b)∧b≠X.env.locals∧(∀x c,X.env.cells.lookup x=some c→c≠b)∧∀p∈X.pn++pins,p.1≠b)
  (keep:∀b o,b≠X.env.locals→b∉X.fs→b∉ch→s.heap.get? b=some o→H b=none→h'.get? b=some o)
  (slot:∀b o,b≠X.env.locals→b∈X.fs→b∉ch→s.heap.get? b=some o→H b=none→∃sl,h'.get? b=some {o with slots:=sl}) (free:∀b o,b∉ch→s.heap.get? b=some o→H b=none→H' b=none)
  (there:∀b o,b∉ch→s.heap.get? b=some o→∃o',h'.get? b=some o')
  (tups:∀b xs,H b=some (.tup xs)→H' b=some (.tup xs)) (frzs:∀b o u,H b=some (.frz o u)→H' b=some (.frz o u)) (tbls:∀b ps,H b=some (.tbl ps)→∃more,H' b=some (.tbl (ps++more)))
  (ns:∀m,s.heap.Ns X.env.locals m→h'.Ns X.env.locals m) (hok:HOk X.prog X.w H' h') (hg:AllBare g'):
  Inv X pins σ H' {s with heap:=h',gens:=g',drawn:=d',toks:=t'}:=by
 have neL:∀b o,X.s₀.heap.get? b=some o→b≠X.env.locals:=fun b o e=>Nat.ne_of_lt (Nat.lt_of_lt_of_le (Heap.lt_size e) I.ok.above)
 have neC:∀b o,X.s₀.heap.get? b=some o→b∉X.ex→b∉ch:=fun b o e hx hb=>by
  rcases(hch b hb).1 with z|z
  ·exact hx z
  ·exact absurd (Nat.lt_of_lt_of_le (Heap.lt_size e) z) (Nat.lt_irrefl _)
 have cellK:∀x c,X.env.cells.lookup x=some c→∀v,s.heap.IsCell c v→h'.IsCell c v:=fun x c e v ⟨o,ho,hd⟩=>by
  have nch:c∉ch:=fun z=>(hch c z).2.2.1 x c e rfl
  by_cases hc:c∈X.fs
  ·obtain⟨sl,q⟩:=slot c o (I.cne x c e) hc nch ho (I.freeC x c e)
   exact⟨_,q,hd⟩
  ·exact⟨o,keep c o (I.cne x c e) hc nch ho (I.freeC x c e),hd⟩
 refine⟨I.ok,I.os,hg,⟨fun b o e n hb hx=>?_,fun b o e n hb hx=>?_,fun b o e n hx=>?_,fun b o e hx=>?_,fun b xs e=>tups b xs (I.base.tups b xs e),fun b o xs e=>frzs b o xs (I.base.frzs b o xs e),fun b ps e=>?_⟩,?_,fun x c e=>?_,?_,fun x c e=>?_,fun p hp=>?_,hok,I.len⟩
 ·exact keep b o (neL b o e) hb (neC b o e hx) (I.base.keep b o e n hb hx) (I.base.free b o e n hx)
 ·obtain⟨sl,e1⟩:=I.base.slot b o e n hb hx
  obtain⟨sl',e2⟩:=slot b _ (neL b o e) hb (neC b o e hx) e1 (I.base.free b o e n hx)
  exact⟨sl',e2⟩
 ·obtain⟨o',e1⟩:=I.base.there b o e hx
  exact free b o' (neC b o e hx) e1 (I.base.free b o e n hx)
 ·obtain⟨o',e1⟩:=I.base.there b o e hx
  exact there b o' (neC b o e hx) e1
 ·obtain⟨m1,e1⟩:=I.base.tbls b ps e
  obtain⟨m2,e2⟩:=tbls b _ e1
  exact⟨m1++m2,by rw[e2,Array.append_assoc]⟩
 ·obtain⟨m,hn,hl⟩:=I.loc
  refine⟨m,ns m hn,fun i x v e1 e2 e3=>?_⟩
  obtain⟨u,r,l⟩:=hl i x v e1 e2 e3
  refine⟨u,r,?_⟩
  rcases l with l|⟨k,c,e,z⟩
  ·exact .inl l
  ·exact .inr ⟨k,c,e,cellK x c e _ z⟩
 ·obtain⟨v,z⟩:=I.cell x c e
  exact⟨v,cellK x c e v z⟩
 ·obtain⟨m,⟨o,_,_,ho,_⟩,_⟩:=I.loc
  exact free _ o (fun z=>(hch _ z).2.1 rfl) ho I.free
 ·obtain⟨v,o,ho,hd⟩:=I.cell x c e
  exact free c o (fun z=>(hch c z).2.2.1 x c e rfl) ho (I.freeC x c e)
 ·obtain⟨e,n,ne,nf,d⟩:=I.pin p hp
  have nch:p.1∉ch:=fun z=>(hch p.1 z).2.2.2 p hp rfl
  exact⟨keep p.1 p.2 ne nf nch e n,free p.1 p.2 nch e n,ne,nf,d⟩
theorem Inv.un {t':Nat}(I:Inv X pins σ H s)(u:Un X.fs [] H H' s.heap h')(hok:HOk X.prog X.w H' h'):Inv X pins σ H' {s with heap:=h',toks:=t'}:=by
 obtain⟨m,⟨o,es,ep,ho,r⟩,_⟩:=id I.loc
 obtain⟨sl,hL⟩:=u.any ho I.free (by simp)
 exact I.step (g':=s.gens) (d':=s.drawn) (ch:=[]) (fun _ z=>nomatch z) (fun b o _ hb _ e n=>u.keep b o e n hb (by simp)) (fun b o _ hb _ e n=>u.slot b o e n hb (by simp)) (fun b o _ e n=>u.free b o e n (by simp)) (fun b o _ e=>u.there b o e (by simp)) u.tups u.frzs u.tbls (fun m' hm=>by
  obtain⟨o',es',ep',ho',r'⟩:=hm
  rw[ho]at ho';cases ho'
  exact⟨_,es',ep',hL,r'⟩) hok I.bare
theorem Inv.call {g':Array GenState}{t':Nat}{d':Drawn}{ch:List Addr}(I:Inv X pins σ H s)(u:Un (frs X.stack) ch H H' s.heap h')(hok:HOk X.prog X.w H' h')(hg:AllBare g')
  (hch:∀b∈ch,(b∈X.ex∨X.s₀.heap.objs.size≤b)∧b≠X.env.locals∧(∀x c,X.env.cells.lookup x=some c→c≠b)∧∀p∈X.pn++pins,p.1≠b):
  Inv X pins σ H' {s with heap:=h',gens:=g',drawn:=d',toks:=t'}:=by
 obtain⟨m,⟨o,es,ep,ho,r⟩,_⟩:=id I.loc
 obtain⟨sl,hL⟩:=u.any ho I.free fun z=>(hch _ z).2.1 rfl
 exact I.step (ch:=ch) hch (fun b o hL hb hc e n=>u.keep b o e n (fun z=>(List.mem_cons.mp (I.stkSub b z)).elim hL hb) hc) (fun b o _ _ hc e n=>u.any e n hc) (fun b o hc e n=>u.free b o e n hc) (fun b o hc e=>u.there b o e hc) u.tups u.frzs u.tbls (fun m' hm=>by
  obtain⟨o',es',ep',ho',r'⟩:=hm
  rw[ho]at ho';cases ho'
  exact⟨_,es',ep',hL,r'⟩) hok hg
theorem Inv.turned {t':Nat}{it:Addr}(I:Inv X pins σ H s)(k:∀b o,b≠it→s.heap.get? b=some o→h'.get? b=some o)(hn:H it=none)(hL:it≠X.env.locals)
  (h1:it∈X.ex∨X.s₀.heap.objs.size≤it) (h2:∀x c,X.env.cells.lookup x=some c→c≠it) (h3:∀p∈X.pn++pins,p.1≠it):Inv X pins σ H {s with heap:=h',toks:=t'}:=by
 have nit:∀b u,H b=some u→b≠it:=fun b u e z=>by rw[z,hn]at e;cases e
 refine I.step (g':=s.gens) (d':=s.drawn) (ch:=[it]) (fun b hb=>?_) (fun b o _ _ hc e _=>k b o (fun z=>hc (by simp[z])) e) (fun b o _ _ hc e _=>⟨o.slots,k b o (fun z=>hc (by simp[z])) e⟩) (fun _ _ _ _ n=>n)
  (fun b o hc e=>⟨o,k b o (fun z=>hc (by simp[z])) e⟩) (fun _ _ e=>e) (fun _ _ _ e=>e) (fun b ps e=>⟨#[],by rw[e];simp⟩) (fun m hm=>?_) (fun b u e=>?_) I.bare
 ·have e:b=it:=by simpa using hb
  subst e
  exact⟨h1,hL,h2,h3⟩
 ·obtain⟨o,es,ep,ho,r⟩:=hm
  exact⟨o,es,ep,k _ o (Ne.symm hL) ho,r⟩
 ·refine(I.hok b u e).stay (fun c v hc q=>k c v ?_ q) (fun _ q=>q) fun _ _ q=>q
  rcases hc with z|z
  ·rw[z];exact nit b u e
  ·exact nit c _ z
theorem Inv.tok (I:Inv X pins σ H s)(t:Nat):Inv X pins σ H {s with toks:=t}:=I.un (h':=s.heap) (t':=t) Un.refl I.hok
theorem Inv.kept {t':Nat}(I:Inv X pins σ H s)(k:∀b u,s.heap.get? b=some u→h'.get? b=some u):Inv X pins σ H {s with heap:=h',toks:=t'}:=I.un (Un.kept k) (I.hok.kept k)
theorem Inv.laid {a:Addr}{o:HO}{t':Nat}(I:Inv X pins σ H s)(k:∀b u,s.heap.get? b=some u→h'.get? b=some u)(hp:s.heap.objs.size≤a)(new:ObjOk X.prog X.w (upd H a o) h' a o):
  Inv X pins σ (upd H a o) {s with heap:=h',toks:=t'}:=I.un (Un.laid k hp (I.hok.fresh hp)) (I.hok.laid k hp new)
theorem Inv.write {x e:Addr}{o:HO}{t':Nat}(I:Inv X pins σ H s)(mu:Mut (H x))(he:e=x∨H e=some (.own x))(k:∀b u,b≠e→s.heap.get? b=some u→h'.get? b=some u)(heo:∃u,h'.get? e=some u)
  (new:ObjOk X.prog X.w (upd H x o) h' x o):Inv X pins σ (upd H x o) {s with heap:=h',toks:=t'}:=I.un (Un.write mu he k heo) (I.hok.write mu he k heo new)
theorem Inv.pins_of {pins':List (Addr×Obj)}(I:Inv X pins σ H s)(h:∀p∈pins',s.heap.get? p.1=some p.2∧H p.1=none∧p.1≠X.env.locals∧p.1∉X.fs∧∀v,p.2.data≠.cell v):Inv X pins' σ H s :=
 ⟨I.ok,I.os,I.bare,I.base,I.loc,I.cell,I.free,I.freeC,fun p hp=>(List.mem_append.mp hp).elim (fun z=>I.pin p (List.mem_append_left _ z)) (h p),I.hok,I.len⟩
theorem nodup_ix {N:List Str}(hN:N.Nodup){i j:Nat}{x:Str}(a:N[i]?=some x)(b:N[j]?=some x):i=j:=by
 obtain⟨h1,e1⟩:=List.getElem?_eq_some_iff.mp a
 obtain⟨h2,e2⟩:=List.getElem?_eq_some_iff.mp b
 exact(List.getElem_inj hN).mp (e1.trans e2.symm)
theorem store_ok2 {M:Model}{A:Around}{E:Value→Shared→Prop}{i:Nat}{x:Str}{v:V}{u:Value}{Q:Unit→Shared→Prop}(I:Inv X pins σ H s)(hN:X.N.Nodup)(hi:X.N[i]?=some x)(hx:Loc X.env.scope x)(r:RelV v u)
  (h:∀s',Inv X pins (σ.set i (some v)) H s'→(∃a,Heap.SameBut a s.heap s'.heap∧(a=X.env.locals∨X.env.cells.lookup x=some a))→Q () s') (hf:X.fn x=true∨X.env.scope.names.lookup x=some .local:=by first|exact .inl rfl|exact .inr rfl|assumption):wpAny M A (storeName X.env x u) Q E s:=by
 obtain⟨m,hn,hl⟩:=id I.loc
 have hcls:(X.env.scope.kind==.class||(X.env.scope.kind==.module&&X.env.locals !=X.env.globals))=false:=by rw[I.ok.kind];rfl
 have hiσ:i<σ.length:=by rw[I.len];exact(List.getElem?_eq_some_iff.mp hi).1
 have cne:=I.cne
 have tracked:∀{a:Addr} {h':Heap},(∃o,s.heap.get? a=some o∧H a=none)→Heap.SameBut a s.heap h'→HOk X.prog X.w H h':=fun{a h'} ha hs b ob e=>by
  obtain⟨_,_,hfree⟩:=ha
  refine(I.hok b ob e).stay (fun c w' hc q=>(hs.2 c ?_).trans q) (fun _ q=>q) fun _ _ q=>q
  rintro rfl
  rcases hc with rfl|hc
  ·rw[hfree]at e;cases e
  ·rw[hfree]at hc;cases hc
 rcases hx with hk|hk
 ·refine wpAny_storeName_local hk hn (fun h' hn' hs=>?_) hcls
  obtain⟨oL,_,_,hoL,_⟩:=id hn
  refine h _ ⟨I.ok,I.os,I.bare,⟨fun b o e n hb hx=>?_,fun b o e n hb hx=>?_,I.base.free,fun b o e hx=>?_,I.base.tups,I.base.frzs,I.base.tbls⟩,⟨_,hn',fun j y v' e1 e2 e3=>?_⟩,fun y c e=>?_,I.free,I.freeC,fun p hp=>?_,tracked ⟨oL,hoL,I.free⟩ hs,by simpa using I.len⟩ ⟨_,hs, .inl rfl⟩
  ·exact(hs.2 b (Nat.ne_of_lt (Nat.lt_of_lt_of_le (Heap.lt_size e) I.ok.above))).trans (I.base.keep b o e n hb hx)
  ·obtain⟨sl,e1⟩:=I.base.slot b o e n hb hx
   exact⟨sl,(hs.2 b (Nat.ne_of_lt (Nat.lt_of_lt_of_le (Heap.lt_size e) I.ok.above))).trans e1⟩
  ·obtain⟨o',e1⟩:=I.base.there b o e hx
   exact⟨o',(hs.2 b (Nat.ne_of_lt (Nat.lt_of_lt_of_le (Heap.lt_size e) I.ok.above))).trans e1⟩
  ·by_cases hj:j=i
   ·subst hj
    rw[hi]at e1;cases e1
    rw[List.getElem?_set_self hiσ]at e2
    cases e2
    exact⟨u,r, .inl ⟨hk,by simp⟩⟩
   ·rw[List.getElem?_set_ne (Ne.symm hj)]at e2
    obtain⟨u',r',q⟩:=hl j y v' e1 e2 e3
    refine⟨u',r',?_⟩
    rcases q with ⟨k,e⟩|⟨k,c,e,z⟩
    ·refine .inl ⟨k,?_⟩
     have:y≠x:=fun e=>hj (nodup_ix hN e1 (e ▸ hi))
     simp[this,e]
    ·exact .inr ⟨k,c,e,z.sameBut hs (cne y c e)⟩
  ·obtain⟨w',z⟩:=I.cell y c e
   exact⟨w',z.sameBut hs (cne y c e)⟩
  ·obtain⟨e,n,ne,nf,d⟩:=I.pin p hp
   exact⟨(hs.2 p.1 ne).trans e,n,ne,nf,d⟩
 ·have hfn:X.fn x=true:=by
   rcases hf with z|z
   ·exact z
   ·rw[z]at hk;cases hk
  obtain⟨c,hc⟩:=I.ok.has x (.inl hk)
  obtain⟨w',z⟩:=I.cell x c hc
  refine wpAny_storeName_cell I.ok.kind hk hc z (fun h' hc' hs=>?_)
  obtain⟨oc,hoc,hocd⟩:=id z
  refine h {s with heap:=h'} ⟨I.ok,I.os,I.bare,⟨fun b o e n hb hx=>?_,fun b o e n hb hx=>?_,I.base.free,fun b o e hx=>?_,I.base.tups,I.base.frzs,I.base.tbls⟩,⟨m,hn.sameBut hs (Ne.symm (cne x c hc)),fun j y v' e1 e2 e3=>?_⟩,fun y c' e=>?_,I.free,I.freeC,fun p hp=>?_,tracked ⟨oc,hoc,I.freeC x c hc⟩ hs,by simpa using I.len⟩ ⟨c,hs, .inr hc⟩
  ·exact(hs.2 b (Nat.ne_of_lt (Nat.lt_of_lt_of_le (Heap.lt_size e) (I.ok.cab x c hfn hc)))).trans (I.base.keep b o e n hb hx)
  ·obtain⟨sl,e1⟩:=I.base.slot b o e n hb hx
   exact⟨sl,(hs.2 b (Nat.ne_of_lt (Nat.lt_of_lt_of_le (Heap.lt_size e) (I.ok.cab x c hfn hc)))).trans e1⟩
  ·obtain⟨o',e1⟩:=I.base.there b o e hx
   exact⟨o',(hs.2 b (Nat.ne_of_lt (Nat.lt_of_lt_of_le (Heap.lt_size e) (I.ok.cab x c hfn hc)))).trans e1⟩
  ·by_cases hj:j=i
   ·subst hj
    rw[hi]at e1;cases e1
    rw[List.getElem?_set_self hiσ]at e2
    cases e2
    exact⟨u,r, .inr ⟨.inl hk,c,hc,hc'⟩⟩
   ·rw[List.getElem?_set_ne (Ne.symm hj)]at e2
    obtain⟨u',r',q⟩:=hl j y v' e1 e2 e3
    refine⟨u',r',?_⟩
    rcases q with q|⟨k,c',e,z'⟩
    ·exact .inl q
    ·refine .inr ⟨k,c',e,z'.sameBut hs ?_⟩
     rintro rfl
     exact hj (nodup_ix hN e1 (I.ok.inj _ _ _ e hc ▸ hi))
  ·by_cases hcc:c'=c
   ·subst hcc;exact⟨_,hc'⟩
   ·obtain⟨w2,z2⟩:=I.cell y c' e
    exact⟨w2,z2.sameBut hs hcc⟩
  ·obtain⟨e,n,ne,nf,d⟩:=I.pin p hp
   refine⟨(hs.2 p.1 ?_).trans e,n,ne,nf,d⟩
   intro q
   rw[q,hoc]at e
   have q':oc=p.2:=Option.some.inj e
   exact d w' (by rw[←q'];exact hocd)
theorem store_ok {M:Model}{A:Around}{E:Value→Shared→Prop}{i:Nat}{x:Str}{v:V}{u:Value}{Q:Unit→Shared→Prop}(I:Inv X pins σ H s)(hN:X.N.Nodup)(hi:X.N[i]?=some x)(hx:Loc X.env.scope x)(r:RelV v u)
  (h:∀s',Inv X pins (σ.set i (some v)) H s'→Q () s') (hf:X.fn x=true∨X.env.scope.names.lookup x=some .local:=by first|exact .inl rfl|exact .inr rfl|assumption):wpAny M A (storeName X.env x u) Q E s :=
 store_ok2 I hN hi hx r (fun s' I' _=>h s' I') hf
theorem Inv.call' {s':Shared}{ch:List Addr}(I:Inv X pins σ H s)(ho:s'.os=s.os)(u:Un (frs X.stack) ch H H' s.heap s'.heap)(hok:HOk X.prog X.w H' s'.heap)(hg:AllBare s'.gens)
  (hch:∀b∈ch,(b∈X.ex∨X.s₀.heap.objs.size≤b)∧b≠X.env.locals∧(∀x c,X.env.cells.lookup x=some c→c≠b)∧∀p∈X.pn++pins,p.1≠b):Inv X pins σ H' s':=by
 obtain⟨h',g',d',t',o'⟩:=s'
 have e:o'=s.os:=ho
 subst e
 exact I.call (g':=g') (t':=t') (d':=d') u hok hg hch
end
abbrev XK:=Value→Option Addr→Hp→Prop
abbrev St:=List (Option V)
abbrev VK:=V→Hp→Prop
abbrev TE:=St→Hp→VK→Prop
abbrev TT:=St→Hp→(Bool→Hp→Prop)→Prop
abbrev TA:=St→Hp→(List V→Hp→Prop)→Prop
structure Ends where
 nx:St→Hp→Prop
 rt:VK
 bk:St→Hp→Prop:=fun _ _=>False
 ct:St→Hp→Prop:=fun _ _=>False
abbrev TS:=Ends→St→Hp→Prop
def Ends.of (Q:VK):Ends:={nx:=fun _ H'=>Q .non H',rt:=Q}
def Ends.lp (D:Ends)(n:St→Hp→Prop):Ends:={D with nx:=n,ct:=n,bk:=D.nx}
def EP (X:Cx)(pins:List (Addr×Obj))(σ:St)(Q:VK)(u:Value)(s':Shared):Prop:=∃v H',Inv X pins σ H' s'∧RelV v u∧Q v H'
def TP (X:Cx)(pins:List (Addr×Obj))(σ:St)(Q:Bool→Hp→Prop)(b:Bool)(s':Shared):Prop:=∃H',Inv X pins σ H' s'∧Q b H'
def AP (X:Cx)(pins:List (Addr×Obj))(σ:St)(Q:List V→Hp→Prop)(us:List Value)(s':Shared):Prop:=∃vs H',Inv X pins σ H' s'∧Vals vs us∧Q vs H'
def SP (X:Cx)(pins:List (Addr×Obj))(D:Ends)(f:Flow)(s':Shared):Prop :=
 match f with
 |.next=>∃σ' H',Inv X pins σ' H' s'∧D.nx σ' H'
 |.brk=>∃σ' H',Inv X pins σ' H' s'∧D.bk σ' H'
 |.cont=>∃σ' H',Inv X pins σ' H' s'∧D.ct σ' H'
 |.ret u=>∃v σ' H',Inv X pins σ' H' s'∧RelV v u∧D.rt v H'
def PE (X:Cx)(e:Expr)(t:TE):Prop :=
 ∀(pins:List (Addr×Obj)) (s:Shared) (σ:St) (H:Hp) (Q:VK),Inv X pins σ H s→t σ H Q→wpAny (model X.prog X.w) X.A (eval e X.env) (EP X pins σ Q) X.xe s
def PT (X:Cx)(e:Expr)(t:TT):Prop :=
 ∀(pins:List (Addr×Obj)) (s:Shared) (σ:St) (H:Hp) (Q:Bool→Hp→Prop),Inv X pins σ H s→t σ H Q→wpAny (model X.prog X.w) X.A (isTrue e X.env (eval e X.env)) (TP X pins σ Q) X.xe s
def PW (X:Cx)(e:Expr)(t:TT):Prop :=
 ∀(whole:Sem Value) (pins:List (Addr×Obj)) (s:Shared) (σ:St) (H:Hp) (Q:Bool→Hp→Prop),Inv X pins σ H s→t σ H Q→wpAny (model X.prog X.w) X.A (isTrue e X.env whole) (TP X pins σ Q) X.xe s
theorem PW.pt {X:Cx}{e:Expr}{t:TT}(h:PW X e t):PT X e t:=h _
def PA (X:Cx)(es:List Expr)(t:TA):Prop :=
 ∀(pos:Pos) (pins:List (Addr×Obj)) (s:Shared) (σ:St) (H:Hp) (Q:List V→Hp→Prop),Inv X pins σ H s→t σ H Q→wpAny (model X.prog X.w) X.A (spliced (backTo pos (starEach es X.env))) (AP X pins σ Q) X.xe s
def PS (X:Cx)(st:Stmt)(t:TS):Prop :=
 ∀(pins:List (Addr×Obj)) (s:Shared) (σ:St) (H:Hp) (D:Ends),Inv X pins σ H s→t D σ H→wpAny (model X.prog X.w) X.A (exec st X.env) (SP X pins D) X.xe s
def PSs (X:Cx)(st:List Stmt)(t:TS):Prop :=
 ∀(pins:List (Addr×Obj)) (s:Shared) (σ:St) (H:Hp) (D:Ends),Inv X pins σ H s→t D σ H→wpAny (model X.prog X.w) X.A (execs st X.env) (SP X pins D) X.xe s
theorem thn {α:Type}{t:Sem α}{Q Q':α→Shared→Prop}{M:Model}{A:Around}{E:Value→Shared→Prop}{s:Shared}(h:wpAny M A t Q E s)(hQ:∀a s,Q a s→Q' a s):wpAny M A t Q' E s:=wpAny_mono h hQ fun _ _ x=>x
section
variable {X:Cx}
inductive tVar_ (i:Nat)(σ:St)(H:Hp)(Q:VK):Prop where
 |mk (v):(σ[i]?=some (some v))→(Q v H)→tVar_ i σ H Q
def tVar (i:Nat):TE:=tVar_ i
def tC (v:V):TE:=fun _ H Q=>Q v H
theorem pe_var {i:Nat}{x:Str}{pos:Pos}(hN:X.N[i]?=some x)(hv:Vis X.env.scope x)(hd:(x==("__debug__":Str))=false:=by decide)(hcd:(x==("__classdict__":Str))=false:=by decide):PE X (.Name x pos) (tVar i):=by
 intro pins s σ H Q I h
 obtain⟨v,e,h⟩:=h
 obtain⟨m,hn,hl⟩:=I.loc
 obtain⟨u,r,l⟩:=hl i x v hN e hv
 have fin:EP X pins σ Q u s:=⟨v,H,I,r,h⟩
 rcases l with ⟨hk,hm⟩|⟨hk,c,hc,hcell⟩
 ·exact wpAny_Name (wpAny_loadName_local I.ok.kind hk hn hm fin) hd
 ·rcases hk with hk|hk
  ·exact wpAny_Name (wpAny_loadName_cell I.ok.kind hk hc hcell fin) hd
  ·exact wpAny_Name (wpAny_loadName_free I.ok.kind hk hc hcell fin hcd) hd
theorem pe_int {i j pos}:PE X (.Constant (.int i) j pos) (tC (.int i)):=fun _ _ _ H _ I h=>wpAny_Constant_int ⟨.int i,H,I.tok _,⟨_,rfl⟩,h⟩
theorem pe_bl {b j pos}:PE X (.Constant (.bool b) j pos) (tC (.bl b)):=fun _ _ _ H _ I h=>Constant_bool ⟨.bl b,H,I,rfl,h⟩
theorem pe_non {j pos}:PE X (.Constant .none j pos) (tC .non):=fun _ _ _ H _ I h=>Constant_none ⟨.non,H,I,rfl,h⟩
theorem pe_str {x j pos}:PE X (.Constant (.str x) j pos) (tC (.str x)):=fun _ _ _ H _ I h=>Calls.Constant_str ⟨.str x,H,I.tok _,⟨_,rfl⟩,h⟩
def Gl (X:Cx)(x:Str):Prop:=X.env.kindOf x=some .globalImplicit
theorem ld_glob {E:Value→Shared→Prop}{pins:List (Addr×Obj)}{s:Shared}{σ:St}{H:Hp}{x:Str}{u:Value}{pos:Pos}{Q:Value→Shared→Prop}(I:Inv X pins σ H s)(hg:Gl X x)(hm:X.mg x=some u)(h:Q u s)
  (hd:(x==("__debug__":Str))=false:=by decide):wpAny (model X.prog X.w) X.A (eval (.Name x pos) X.env) Q E s :=
 Calls.Name_function_global I.ok.kind hg (Calls.loadGlobal_global (by rw[I.ok.glob];exact I.mod.glob.keeps I.bk) hm h) hd
theorem ld_blt {E:Value→Shared→Prop}{pins:List (Addr×Obj)}{s:Shared}{σ:St}{H:Hp}{x:Str}{u:Value}{pos:Pos}{Q:Value→Shared→Prop}(I:Inv X pins σ H s)(hg:Gl X x)(hm:X.mg x=none)(hv:bootBuiltins x=some u)(h:Q u s)
  (hn:x≠"__name__":=by decide) (hd:(x==("__debug__":Str))=false:=by decide):wpAny (model X.prog X.w) X.A (eval (.Name x pos) X.env) Q E s:=by
 obtain⟨mb,h1,h2⟩:=I.mod.blt
 exact Calls.Name_function_global I.ok.kind hg (Calls.loadGlobal_builtin (by rw[I.ok.glob];exact I.mod.glob.keeps I.bk) hm (by rw[I.ok.blt];exact h1.keeps I.bk) ((h2 x hn).trans hv) h) hd
theorem pe_glob {x:Str}{v:V}{u:Value}{pos:Pos}(hg:Gl X x)(hm:X.mg x=some u)(r:RelV v u)(hd:(x==("__debug__":Str))=false:=by decide):PE X (.Name x pos) (tC v) :=
 fun _ _ _ H _ I h=>ld_glob I hg hm ⟨v,H,I,r,h⟩ hd
theorem pe_bltn {x:Str}{v:V}{u:Value}{pos:Pos}(hg:Gl X x)(hm:X.mg x=none)(hv:bootBuiltins x=some u)(r:RelV v u)(hn:x≠"__name__":=by decide)(hd:(x==("__debug__":Str))=false:=by decide):PE X (.Name x pos) (tC v) :=
 fun _ _ _ H _ I h=>ld_blt I hg hm hv ⟨v,H,I,r,h⟩ hn hd
variable {a b:Expr}{ta tb:TE}{pos:Pos}
def PC (X:Cx)(op:CmpOp)(a b:Expr)(t:TE):Prop :=
 ∀(pins:List (Addr×Obj)) (s:Shared) (σ:St) (H:Hp) (Q:VK),Inv X pins σ H s→t σ H Q→
  wpAny (model X.prog X.w) X.A (eval a X.env) (fun v s₁=>wpAny (model X.prog X.w) X.A (eval b X.env) (fun u s₂=>wpAny (model X.prog X.w) X.A (compareOp op v u) (EP X pins σ Q) X.xe s₂) X.xe s₁) X.xe s
def tNotN (ta:TE):TE:=fun σ H Q=>ta σ H fun x H1=>Q (.bl (!decide (x=.non))) H1
theorem RelV.none_iff {x:V}{v:Value}(r:RelV x v):(v==Value.none)=decide (x=.non):=by
 cases x with
 |non=>cases r;rfl
 |bl _=>cases r;rfl
 |int _=>obtain⟨t,rfl⟩:=r;rfl
 |str _=>obtain⟨t,rfl⟩:=r;rfl
 |byt _=>obtain⟨t,rfl⟩:=r;rfl
 |flt _=>obtain⟨t,rfl⟩:=r;rfl
 |ref _=>cases r;rfl
 |ty _=>cases r;rfl
theorem pc_notN {j pos'}(ha:PE X a ta):PC X .IsNot a (.Constant .none j pos') (tNotN ta):=by
 intro pins s σ H Q I h
 refine thn (ha pins s σ H _ I h) fun v s1 ⟨x,H1,I1,r1,q1⟩=>?_
 exact Constant_none (isnot_none_gen ⟨.bl _,H1,I1,by rw[r1.none_iff];rfl,q1⟩)
def tB (t:TE):TT:=fun σ H Q=>t σ H fun x H1=>∃c,x=.bl c∧Q c H1
theorem pt_cmp {op:CmpOp}{t:TE}(h:PC X op a b t)(h1:behindInMarks op b=false):PT X (.Compare a [op] [b] pos) (tB t):=by
 intro pins s σ H Q I hw
 refine wpAny_isTrue_Compare1 (thn (h pins s σ H _ I hw) fun v s1 h1=>thn h1 fun u s2 h2=>thn h2 fun c s3 ⟨x,H1,I1,r1,q1⟩=>?_) h1
 obtain⟨d,rfl,q⟩:=q1
 cases r1
 exact wpAny_truthy_bool ⟨H1,I1,q⟩
theorem pt_val {e:Expr}{t:TE}(h:PE X e t)(he:∀whole,isTrue e X.env whole=(do let v ←whole;standAt e.pos;holding [v] (truthy v)):=by intro _;rfl):PT X e (tB t):=by
 intro pins s σ H Q I hw
 refine isTrue_plain (thn (h pins s σ H _ I hw) fun v s1 ⟨x,H1,I1,r1,q1⟩=>?_) (he _)
 obtain⟨d,rfl,q⟩:=q1
 cases r1
 exact wpAny_truthy_bool ⟨H1,I1,q⟩
variable {tA tB':TT}{rest:List Expr}
def tAnd (t u:TT):TT:=fun σ H Q=>t σ H fun c H1=>if c=true then u σ H1 Q else Q false H1
def tOr (t u:TT):TT:=fun σ H Q=>t σ H fun c H1=>if c=true then Q true H1 else u σ H1 Q
def tNot (t:TT):TT:=fun σ H Q=>t σ H fun c H1=>Q (!c) H1
theorem pw_and1 (ha:PT X a tA):PW X (.BoolOp .And [a] pos) tA:=by
 intro wh pins s σ H Q I h
 refine isTrue_and (thn (ha pins s σ H Q I h) fun c s1 e=>?_)
 cases c with
 |true=>exact isTrue_and_nil e
 |false=>exact e
theorem pw_or1 (ha:PT X a tA):PW X (.BoolOp .Or [a] pos) tA:=by
 intro wh pins s σ H Q I h
 refine isTrue_or (thn (ha pins s σ H Q I h) fun c s1 e=>?_)
 cases c with
 |false=>exact isTrue_or_nil e
 |true=>exact e
theorem pw_and (ha:PT X a tA)(hb:PW X (.BoolOp .And (b::rest) pos) tB'):PW X (.BoolOp .And (a::b::rest) pos) (tAnd tA tB'):=by
 intro wh pins s σ H Q I h
 refine isTrue_and (thn (ha pins s σ H _ I h) fun c s1 ⟨H1,I1,q1⟩=>?_)
 cases c with
 |true=>exact hb wh pins s1 σ H1 Q I1 q1
 |false=>exact⟨H1,I1,q1⟩
theorem pw_or (ha:PT X a tA)(hb:PW X (.BoolOp .Or (b::rest) pos) tB'):PW X (.BoolOp .Or (a::b::rest) pos) (tOr tA tB'):=by
 intro wh pins s σ H Q I h
 refine isTrue_or (thn (ha pins s σ H _ I h) fun c s1 ⟨H1,I1,q1⟩=>?_)
 cases c with
 |true=>exact⟨H1,I1,q1⟩
 |false=>exact hb wh pins s1 σ H1 Q I1 q1
theorem pt_not (ha:PT X a tA):PT X (.UnaryOp .Not a pos) (tNot tA):=by
 intro pins s σ H Q I h
 exact isTrue_not (ha pins s σ H (fun c H1=>Q (!c) H1) I h)
def tAndV (ta tb:TE):TE:=fun σ H Q=>ta σ H fun x H1=>∃c,x=.bl c∧if c=true then tb σ H1 Q else Q (.bl false) H1
theorem pe_one {op}{t:TE}(h:PE X a t):PE X (.BoolOp op [a] pos) t:=fun pins s σ H Q I hw=>BoolOp_one (h pins s σ H Q I hw)
theorem pe_and (ha:PE X a ta)(hb:PE X (.BoolOp .And (b::rest) pos) tb):PE X (.BoolOp .And (a::b::rest) pos) (tAndV ta tb):=by
 intro pins s σ H Q I h
 refine BoolOp_and (thn (ha pins s σ H _ I h) fun v s1 ⟨x,H1,I1,r1,q1⟩=>?_)
 obtain⟨c,rfl,q1⟩:=q1
 cases r1
 refine wpAny_truthy_bool ?_
 cases c with
 |true=>exact hb pins s1 σ H1 Q I1 q1
 |false=>exact⟨.bl false,H1,I1,rfl,q1⟩
def tIf (t:TT)(ta tb:TE):TE:=fun σ H Q=>t σ H fun c H1=>if c=true then ta σ H1 Q else tb σ H1 Q
theorem pe_ifExp {c:Expr}(hc:PT X c tA)(ha:PE X a ta)(hb:PE X b tb):PE X (.IfExp c a b pos) (tIf tA ta tb):=by
 intro pins s σ H Q I h
 refine wpAny_IfExp (thn (hc pins s σ H _ I h) fun d s1 ⟨H1,I1,q1⟩=>?_)
 cases d with
 |true=>exact ha pins s1 σ H1 Q I1 q1
 |false=>exact hb pins s1 σ H1 Q I1 q1
end
def SqL (K:PySem.W.Frag)(H:Hp)(a:Addr)(xs:List V):Prop :=
 Rd H a (.lst xs)∨
  ∃(o:Obj) (its:Array Value) (n:Nat),K.lookup a=some o∧o.cls=.type "list"∧o.dict=none∧o.data=.seq its n∧its.size≤sizeLine∧Vals xs its.toList
def SqT (K:PySem.W.Frag)(H:Hp)(a:Addr)(xs:List V):Prop :=
 Rd H a (.tup xs)∨
  ∃(o:Obj) (its:Array Value) (n:Nat),K.lookup a=some o∧o.cls=.type "tuple"∧o.data=.seq its n∧its.size≤sizeLine∧Vals xs its.toList
def absV:Value→Option V
 |.none=>some .non
 |.bool b=>some (.bl b)
 |.int i _=>some (.int i)
 |.str x _=>some (.str x)
 |.bytes b _=>some (.byt b)
 |.float b _=>some (.flt b)
 |.ref a=>some (.ref a)
 |.type n=>some (.ty n)
 |_=>none
theorem RelV.abs {x:V}{u:Value}(r:RelV x u):absV u=some x:=by
 cases x with
 |non=>cases r;rfl
 |bl _=>cases r;rfl
 |int _=>obtain⟨t,rfl⟩:=r;rfl
 |str _=>obtain⟨t,rfl⟩:=r;rfl
 |byt _=>obtain⟨t,rfl⟩:=r;rfl
 |flt _=>obtain⟨t,rfl⟩:=r;rfl
 |ref _=>cases r;rfl
 |ty _=>cases r;rfl
theorem RelV.inj {x y:V}{u:Value}(r:RelV x u)(q:RelV y u):x=y:=Option.some.inj (r.abs.symm.trans q.abs)
theorem Vals.inj {xs ys:List V}{us:List Value}(h:Vals xs us)(k:Vals ys us):xs=ys:=by
 induction h generalizing ys with
 |nil=>cases k;rfl
 |cons r _ ih=>cases k with
  |cons q t=>rw[r.inj q,ih t]
section
variable {X:Cx}{pins:List (Addr×Obj)}{σ:St}{H:Hp}{s:Shared}{a:Addr}{xs ys:List V}
theorem SqL.of {K:PySem.W.Frag}(h:H a=some (.lst xs)):SqL K H a xs:=.inl (.inl h)
theorem SqT.of {K:PySem.W.Frag}(h:H a=some (.tup xs)):SqT K H a xs:=.inl (.inl h)
theorem Inv.list (I:Inv X pins σ H s)(h:SqL X.K H a xs):∃its:List Value,Vals xs its∧PlainL s.heap a its.toArray∧xs.length≤sizeLine:=by
 rcases h with h|⟨o,its,n,hk,hc,hd,hs,hz,r⟩
 ·obtain⟨z,its,n,r,e⟩:=h.ok I.hok
  exact⟨its,r,⟨_,n,e,rfl,rfl,rfl⟩,z⟩
 ·refine⟨its.toList,r,⟨o,n,I.kIn a o hk,hc,hd,by simpa using hs⟩,?_⟩
  have e:=r.length
  simp only[Array.length_toList]at e
  omega
theorem Inv.tuple (I:Inv X pins σ H s)(h:SqT X.K H a xs):∃its:List Value,Vals xs its∧IsTup s.heap a its.toArray∧xs.length≤sizeLine:=by
 rcases h with h|⟨o,its,n,hk,hc,hs,hz,r⟩
 ·obtain⟨z,its,r,p⟩:=h.ok I.hok
  exact⟨its,r,p,z⟩
 ·refine⟨its.toList,r,⟨o,I.kIn a o hk,hc,n,by simpa using hs⟩,?_⟩
  have e:=r.length
  simp only[Array.length_toList]at e
  omega
theorem Inv.list_inj (I:Inv X pins σ H s)(h:SqL X.K H a xs)(h':SqL X.K H a ys):xs=ys:=by
 obtain⟨its,r,⟨o,n,e,_,_,d⟩,_⟩:=I.list h
 obtain⟨its',r',⟨o',n',e',_,_,d'⟩,_⟩:=I.list h'
 rw[e]at e';cases e'
 rw[d]at d'
 injection d' with d1 _
 have:its=its':=by simpa using congrArg Array.toList d1
 subst this
 exact r.inj r'
theorem Inv.tuple_inj (I:Inv X pins σ H s)(h:SqT X.K H a xs)(h':SqT X.K H a ys):xs=ys:=by
 obtain⟨its,r,⟨o,e,_,n,d⟩,_⟩:=I.tuple h
 obtain⟨its',r',⟨o',e',_,n',d'⟩,_⟩:=I.tuple h'
 rw[e]at e';cases e'
 rw[d]at d'
 injection d' with d1 _
 have:its=its':=by simpa using congrArg Array.toList d1
 subst this
 exact r.inj r'
end
abbrev Cx.wish (X:Cx)(E:Value→Shared→Prop):Cx:={X with xe:=E}
abbrev Cx.nox (X:Cx):Cx:=X.wish fun _ _=>False
theorem Cx.Ok.wish {X:Cx}(ok:X.Ok)(E:Value→Shared→Prop):(X.wish E).Ok :=
 ⟨ok.mod,ok.kind,ok.glob,ok.blt,ok.above,ok.inj,ok.has,ok.cab,ok.hd,ok.frames,ok.stk,ok.exf,ok.bs,ok.bsz,ok.noex,ok.exfs,ok.funs,ok.frf⟩
theorem Cx.Ok.unwish {X:Cx}{E:Value→Shared→Prop}(ok:(X.wish E).Ok):X.Ok :=
 ⟨ok.mod,ok.kind,ok.glob,ok.blt,ok.above,ok.inj,ok.has,ok.cab,ok.hd,ok.frames,ok.stk,ok.exf,ok.bs,ok.bsz,ok.noex,ok.exfs,ok.funs,ok.frf⟩
section
variable {X:Cx}{pins:List (Addr×Obj)}{σ:St}{H:Hp}{s:Shared}{E:Value→Shared→Prop}
theorem Inv.wish (I:Inv X pins σ H s)(E:Value→Shared→Prop):Inv (X.wish E) pins σ H s:=⟨I.ok.wish E,I.os,I.bare,I.base,I.loc,I.cell,I.free,I.freeC,I.pin,I.hok,I.len⟩
theorem Inv.unwish (I:Inv (X.wish E) pins σ H s):Inv X pins σ H s:=⟨I.ok.unwish,I.os,I.bare,I.base,I.loc,I.cell,I.free,I.freeC,I.pin,I.hok,I.len⟩
theorem SP.unwish {D:Ends}{f:Flow}{s':Shared}(h:SP (X.wish E) pins D f s'):SP X pins D f s':=by
 cases f with
 |next=>obtain⟨σ',H',I,q⟩:=h;exact⟨σ',H',I.unwish,q⟩
 |brk=>obtain⟨σ',H',I,q⟩:=h;exact⟨σ',H',I.unwish,q⟩
 |cont=>obtain⟨σ',H',I,q⟩:=h;exact⟨σ',H',I.unwish,q⟩
 |ret u=>obtain⟨v,σ',H',I,r,q⟩:=h;exact⟨v,σ',H',I.unwish,r,q⟩
theorem PSs.nox {st:List Stmt}{t:TS}(h:PSs X.nox st t):PSs X st t:=fun pins s σ H D I hw=>
 wpAny_mono (h pins s σ H D (I.wish _) hw) (fun _ _ q=>q.unwish) fun _ _ z=>False.elim z
end
section
variable {X:Cx}{st:Stmt}{rest:List Stmt}{t u:TS}{e:Expr}{te:TE}{pos:Pos}
def tNext:TS:=fun D σ H=>D.nx σ H
def Ends.to (D:Ends)(n:St→Hp→Prop):Ends:={D with nx:=n}
def tSeq (t u:TS):TS:=fun D σ H=>t (D.to (u D)) σ H
theorem pss_nil:PSs X [] tNext:=fun _ _ σ H _ I h=>wpAny_execs_nil ⟨σ,H,I,h⟩
theorem pss_cons (h1:PS X st t)(h2:PSs X rest u):PSs X (st::rest) (tSeq t u):=by
 intro pins s σ H D I h
 refine wpAny_execs_cons (thn (h1 pins s σ H {D with nx:=u D} I h) fun f s1 q=>?_)
 cases f with
 |next=>
  obtain⟨σ',H',I',q⟩:=q
  exact h2 pins s1 σ' H' D I' q
 |ret v=>exact q
 |brk=>exact q
 |cont=>exact q
theorem pss_one (h1:PS X st t):PSs X [st] t:=by
 intro pins s σ H D I h
 refine wpAny_execs_cons (thn (h1 pins s σ H D I h) fun f s1 q=>?_)
 cases f with
 |next=>exact wpAny_execs_nil q
 |ret v=>exact q
 |brk=>exact q
 |cont=>exact q
theorem Inv.quiet {pins:List (Addr×Obj)}{σ:St}{H:Hp}{s:Shared}(I:Inv X pins σ H s):interactive X.env=false:=by simp[interactive,I.ok.kind]
def tDrop (te:TE):TS:=fun D σ H=>te σ H fun _ H1=>D.nx σ H1
theorem ps_expr (he:PE X e te)(hs:swapsWith e none pos.line X.env=pure false:=by rfl):PS X (.Expr e pos) (tDrop te):=by
 intro pins s σ H D I h
 exact wpAny_Expr_any (thn (he pins s σ H _ I h) fun v s1 ⟨x,H1,I1,r1,q1⟩=>⟨σ,H1,I1,q1⟩) I.quiet hs
def tRet (te:TE):TS:=fun D σ H=>te σ H D.rt
theorem ps_ret (he:PE X e te):PS X (.Return (some e) pos) (tRet te):=by
 intro pins s σ H D I h
 exact wpAny_Return_some (thn (he pins s σ H _ I h) fun v s1 ⟨x,H1,I1,r1,q1⟩=>⟨x,σ,H1,I1,r1,q1⟩)
def tRetN:TS:=fun D _ H=>D.rt .non H
theorem ps_retN:PS X (.Return none pos) tRetN:=fun _ _ σ H _ I h=>wpAny_Return_none ⟨.non,σ,H,I,rfl,h⟩
def tIfS (c:TT)(t u:TS):TS:=fun D σ H=>c σ H fun b H1=>if b=true then t D σ H1 else u D σ H1
theorem ps_if {c:Expr}{a b:List Stmt}{tc:TT}(hc:PT X c tc)(ha:PSs X a t)(hb:PSs X b u):PS X (.If c a b pos) (tIfS tc t u):=by
 intro pins s σ H D I h
 refine wpAny_If (thn (hc pins s σ H _ I h) fun d s1 ⟨H1,I1,q1⟩=>?_)
 cases d with
 |true=>exact ha pins s1 σ H1 D I1 q1
 |false=>exact hb pins s1 σ H1 D I1 q1
def tNever:TS:=fun _ _ _=>False
theorem pss_never {sts:List Stmt}:PSs X sts tNever:=fun _ _ _ _ _ _ h=>h.elim
end
abbrev TG:=V→St→Hp→(St→Hp→Prop)→Prop
abbrev TGs:=List V→St→Hp→(St→Hp→Prop)→Prop
def PG (X:Cx)(target:Expr)(t:TG):Prop :=
 ∀(pins:List (Addr×Obj)) (s:Shared) (σ:St) (H:Hp) (v:V) (u:Value) (Q:St→Hp→Prop),Inv X pins σ H s→RelV v u→t v σ H Q→
  wpAny (model X.prog X.w) X.A (assign target X.env u) (fun _ s'=>∃σ' H',Inv X pins σ' H' s'∧Q σ' H') X.xe s
def PGs (X:Cx)(ts:List Expr)(t:TGs):Prop :=
 ∀(pins:List (Addr×Obj)) (s:Shared) (σ:St) (H:Hp) (vs:List V) (us:List Value) (Q:St→Hp→Prop),Inv X pins σ H s→Vals vs us→t vs σ H Q→
  wpAny (model X.prog X.w) X.A (assignInOrder ((assignEach ts X.env).map (·.2)) us) (fun _ s'=>∃σ' H',Inv X pins σ' H' s'∧Q σ' H') X.xe s
abbrev TSet:=V→V→V→Hp→(Hp→Prop)→Prop
def PSet (X:Cx)(t:TSet):Prop :=
 ∀(pins:List (Addr×Obj)) (s:Shared) (σ:St) (H:Hp) (o i v:V) (ov iv u:Value) (Q:Hp→Prop),Inv X pins σ H s→RelV o ov→RelV i iv→RelV v u→t o i v H Q→
  wpAny (model X.prog X.w) X.A (setItem ov iv u) (fun _ s'=>∃H',Inv X pins σ H' s'∧Q H') X.xe s
section
variable {X:Cx}{pos:Pos}
def gName (i:Nat):TG:=fun v σ H Q=>Q (σ.set i (some v)) H
theorem pg_name {i:Nat}{x:Str}(hN:X.N.Nodup)(hi:X.N[i]?=some x)(hx:Loc X.env.scope x)(hf:X.fn x=true∨X.env.scope.names.lookup x=some .local:=by first|exact .inl rfl|exact .inr rfl|assumption):PG X (.Name x pos) (gName i):=by
 intro pins s σ H v u Q I r h
 exact wpAny_assign_Name (store_ok I hN hi hx r (fun s' I'=>⟨_,H,I',h⟩) hf)
inductive gNil_ (vs:List V)(σ:St)(H:Hp)(Q:St→Hp→Prop):Prop where
 |mk:(vs=[])→(Q σ H)→gNil_ vs σ H Q
def gNil:TGs:=gNil_
inductive gCons_ (t:TG)(u:TGs)(vs:List V)(σ:St)(H:Hp)(Q:St→Hp→Prop):Prop where
 |mk (v) (r):(vs=v::r)→(t v σ H fun σ' H'=>u r σ' H' Q)→gCons_ t u vs σ H Q
def gCons (t:TG)(u:TGs):TGs:=gCons_ t u
theorem pgs_nil:PGs X [] gNil:=by
 intro pins s σ H vs us Q I r h
 obtain⟨e,h⟩:=h
 subst e
 cases r
 exact assignInOrder_nil ⟨σ,H,I,h⟩
theorem pgs_cons {e:Expr}{es:List Expr}{t:TG}{u:TGs}(h1:PG X e t)(h2:PGs X es u)
  (hs:(assignEach (e::es) X.env).map (·.2)=assign e X.env::(assignEach es X.env).map (·.2):=by rfl):PGs X (e::es) (gCons t u):=by
 intro pins s σ H vs us Q I r h
 obtain⟨v,vr,e1,h⟩:=h
 subst e1
 cases r with
 |cons r rr=>
  rw[hs]
  refine assignInOrder_cons (thn (h1 pins s σ H _ _ _ I r h) fun _ s1 ⟨σ1,H1,I1,q1⟩=>?_)
  exact h2 pins s1 σ1 H1 _ _ Q I1 rr q1
inductive gTup_ (K:PySem.W.Frag)(n:Nat)(t:TGs)(v:V)(σ:St)(H:Hp)(Q:St→Hp→Prop):Prop where
 |mk (a) (xs):(v=.ref a)→(SqT K H a xs)→(xs.length=n)→(t xs σ H Q)→gTup_ K n t v σ H Q
def gTup (K:PySem.W.Frag)(n:Nat)(t:TGs):TG:=gTup_ K n t
theorem pg_tup {es:List Expr}{k:Nat}{t:TGs}{n:Nat}(hc:X.calm=true)(h:PGs X es t)
  (hn:(assignEach es X.env).length=n:=by rfl) (hst:(assignEach es X.env).findIdx? (·.1)=none:=by rfl):PG X (.Tuple es k pos) (gTup X.K n t):=by
 intro pins s σ H v u Q I r hw
 obtain⟨a,xs,e1,hq,hl,hw⟩:=hw
 subst e1
 cases r
 obtain⟨its,rv,ht,hz⟩:=I.tuple hq
 refine assign_Tuple_tuple (I.ok.hd hc) ht (by simp[hn,←hl,rv.length]) hst fun h' hx=>?_
 have I1:Inv X pins σ H {s with heap:=h'}:=I.kept (t':=s.toks) fun b o e=>hx b o (Nat.ne_of_lt (Heap.lt_size e)) e
 exact h pins _ σ H xs _ Q I1 (by simpa using rv) hw
def gSub (to ti:TE)(t:TSet):TG:=fun v σ H Q=>to σ H fun o H1=>ti σ H1 fun i H2=>t o i v H2 fun H3=>Q σ H3
theorem pg_sub {o i:Expr}{to ti:TE}{t:TSet}(ho:PE X o to)(hi:PE X i ti)(hs:PSet X t)
  (ha:∀v,assign (.Subscript o i pos) X.env v=(do
   let ov ←holding [v] (eval o X.env)
   let iv ←holding [v,ov] (eval i X.env)
   standAt pos
   holding [v,ov,iv] (setItem ov iv v)
   release [v,ov,iv] []):=by intro _;rfl):PG X (.Subscript o i pos) (gSub to ti t):=by
 intro pins s σ H v u Q I r h
 rw[ha]
 refine wpAny_bind (wpAny_holding (thn (ho pins s σ H _ I h) fun ov s1 ⟨x,H1,I1,r1,q1⟩=>?_))
 refine wpAny_bind (wpAny_holding (thn (hi pins s1 σ H1 _ I1 q1) fun iv s2 ⟨y,H2,I2,r2,q2⟩=>?_))
 refine wpAny_bind (wpAny_standAt (wpAny_bind (wpAny_holding (thn (hs pins s2 σ H2 x y v ov iv u _ I2 r1 r2 r q2) fun _ s3 ⟨H3,I3,q3⟩=>?_))))
 exact wpAny_release ⟨σ,H3,I3,q3⟩
def tAsg (te:TE)(g:TG):TS:=fun D σ H=>te σ H fun x H1=>g x σ H1 D.nx
theorem ps_asg {tg e:Expr}{te:TE}{g:TG}(he:PE X e te)(hg:PG X tg g)(hs:swapsWithSole [tg] e pos.line X.env=pure false:=by rfl)(hw:swappedStores [tg] e X.env=pure none:=by rfl)
  (h1:(assignEach [tg] X.env).map (·.2)=[assign tg X.env]:=by rfl):PS X (.Assign [tg] e pos) (tAsg te g):=by
 intro pins s σ H D I h
 refine wpAny_Assign_stores (thn (he pins s σ H _ I h) fun v s1 ⟨x,H1,I1,r1,q1⟩=>?_) hs hw
 rw[h1]
 exact thn (hg pins s1 σ H1 x v _ I1 r1 q1) fun _ s2 q=>q
theorem ps_set {i:Nat}{x:Str}{e:Expr}{te:TE}{pos':Pos}(hN:X.N.Nodup)(hi:X.N[i]?=some x)(hx:Loc X.env.scope x)(he:PE X e te)(hs:swapsWith e (some (.Name x pos')) pos.line X.env=pure false:=by rfl)(hf:X.fn x=true∨X.env.scope.names.lookup x=some .local:=by first|exact .inl rfl|exact .inr rfl|assumption):
  PS X (.Assign [.Name x pos'] e pos) (tAsg te (gName i)):=by
 intro pins s σ H D I h
 refine wpAny_Assign_Name (thn (he pins s σ H _ I h) fun v s1 ⟨y,H1,I1,r1,q1⟩=>?_) hs
 exact store_ok I1 hN hi hx r1 (fun s2 I2=>⟨_,H1,I2,q1⟩) hf
inductive tPar_ (i:Nat)(j:Nat)(D:Ends)(σ:St)(vs:List V)(H1:Hp):Prop where
 |mk (v) (w):(vs=[v,w])→(D.nx ((σ.set i (some v)).set j (some w)) H1)→tPar_ i j D σ vs H1
end
section
variable {X:Cx}{pos:Pos}
def tWhile (c:TT)(tb:TS):TS:=fun D σ H=>∃W:Nat→St→Hp→Prop,(∃m,W m σ H)∧∀m σ H,W m σ H→
 c σ H fun b H1=>if b=true then ∃N:St→Hp→Prop,(∀σ' H',N σ' H'→∃m',m'<m∧W m' σ' H')∧tb (D.lp N) σ H1 else D.nx σ H1
theorem ps_while {c:Expr}{body:List Stmt}{tc:TT}{tb:TS}(hp:PassesOwn (model X.prog X.w) X.A X.env X.xe)(hc:PT X c tc)(hb:PSs X body tb):PS X (.While c body [] pos) (tWhile tc tb):=by
 intro pins s σ H D I h
 obtain⟨W,⟨m0,w0⟩,turn⟩:=h
 refine wpAny_While (codeAny_whileLoop (fun n s'=>∃σ' H',Inv X pins σ' H' s'∧W n σ' H') ?_ m0 ⟨σ,H,I,w0⟩)
 rintro n s1 ⟨σ1,H1,I1,w1⟩
 refine wpAny_passesOwn hp (thn (hc pins s1 σ1 H1 _ I1 (turn n σ1 H1 w1)) fun b s2 ⟨H2,I2,q2⟩=>?_)
 cases b with
 |true=>
  obtain⟨N,hN,q2⟩:=q2
  rw[if_pos rfl]
  refine wpAny_passesOwn hp (thn (hb pins s2 σ1 H2 _ I2 q2) fun f s3 q3=>?_)
  cases f with
  |next=>
   obtain⟨σ3,H3,I3,n3⟩:=q3
   obtain⟨m',hm,w3⟩:=hN σ3 H3 n3
   exact⟨m',hm,σ3,H3,I3,w3⟩
  |cont=>
   obtain⟨σ3,H3,I3,n3⟩:=q3
   obtain⟨m',hm,w3⟩:=hN σ3 H3 n3
   exact⟨m',hm,σ3,H3,I3,w3⟩
  |brk=>exact q3
  |ret v=>exact q3
 |false=>
  rw[if_neg Bool.false_ne_true]
  exact wpAny_execs_nil ⟨σ1,H2,I2,q2⟩
end
structure It where
 go:Nat→Hp→Prop
 yld:Nat→Hp→V→Hp→Prop
 stop:Nat→Hp→Prop
def FpOk (X:Cx)(pins:List (Addr×Obj))(H:Hp)(b:Addr):Prop :=
 H b=none∧b≠X.env.locals∧b∉X.fs∧(b∈X.ex∨X.s₀.heap.objs.size≤b)∧(∀x c,X.env.cells.lookup x=some c→c≠b)∧∀p∈X.pn++pins,p.1≠b
theorem Inv.fpOk {X:Cx}{pins:List (Addr×Obj)}{σ:St}{H H':Hp}{s:Shared}{b:Addr}(I:Inv X pins σ H s)(hb:s.heap.objs.size≤b)(hn:H' b=none):FpOk X pins H' b:=by
 refine⟨hn,Nat.ne_of_gt (Nat.lt_of_lt_of_le I.lt hb),I.nofs hb, .inr (Nat.le_trans I.sz hb),fun x c e z=>?_,fun p hp z=>?_⟩
 ·obtain⟨v,q⟩:=I.cell x c e
  exact absurd (Nat.lt_of_lt_of_le q.lt (by rw[z];exact hb)) (Nat.lt_irrefl _)
 ·exact absurd (Nat.lt_of_lt_of_le (Heap.lt_size (I.pin p hp).1) (by rw[z];exact hb)) (Nat.lt_irrefl _)
abbrev Calm:Cx→Prop:=fun X=>X.calm=true
structure TurnQ (qt:Cx→Prop)(P:Program)(w:World)(K:PySem.W.Frag)(tg:Expr)(J:It)(fp:List Addr)(it:Addr)(tn:Nat→Heap→Prop):Prop where
 mem:it∈fp
 obj:∀i h,tn i h→∀b∈fp,∃o,h.get? b=some o∧∀v,o.data≠.cell v
 keep:∀i h h',tn i h→(∀b∈fp,∀o,h.get? b=some o→h'.get? b=some o)→tn i h'
 item:∀(X:Cx),X.prog=P→X.w=w→X.K=K→qt X→∀(i:Nat) (pins:List (Addr×Obj)) (s:Shared) (σ:St) (H:Hp) (E:Value→Shared→Prop),Inv X pins σ H s→(∀b∈fp,FpOk X pins H b)→tn i s.heap→J.go i H→
  wpAny (model P w) X.A (pyNext (.ref it)) (fun r s1=>∃u,r=some u∧
   wpAny (model P w) X.A (letOwnedTupleGo tg (.ref it) u) (fun _ s2=>∃x H',Inv X pins σ H' s2∧RelV x u∧J.yld i H x H'∧tn (i+1) s2.heap∧∀b∈fp,H' b=none) E s1) E s
 done:∀(X:Cx),X.prog=P→X.w=w→X.K=K→qt X→∀(i:Nat) (pins:List (Addr×Obj)) (s:Shared) (σ:St) (H:Hp) (E:Value→Shared→Prop),Inv X pins σ H s→(∀b∈fp,FpOk X pins H b)→tn i s.heap→J.stop i H→
  wpAny (model P w) X.A (pyNext (.ref it)) (fun r s1=>r=none∧Inv X pins σ H s1) E s
 self:∀(A:Around) (i:Nat) (s:Shared) (Q:Value→Shared→Prop) (E:Value→Shared→Prop),tn i s.heap→Q (.ref it) s→wpAny (model P w) A (pyIter (.ref it)) Q E s
abbrev Turn:=TurnQ Calm
abbrev TI:=St→Hp→(It→Hp→Prop)→Prop
def PIEQ (qt:Cx→Prop)(X:Cx)(pins:List (Addr×Obj))(σ:St)(tg:Expr)(R:It→Hp→Prop)(itv:Value)(s2:Shared):Prop :=
 ∃(it:Addr) (fp:List Addr) (tn:Nat→Heap→Prop) (J:It) (H':Hp),itv=.ref it∧Inv X pins σ H' s2∧TurnQ qt X.prog X.w X.K tg J fp it tn∧tn 0 s2.heap∧(∀b∈fp,FpOk X pins H' b)∧R J H'
abbrev PIE:=PIEQ Calm
def PIQ (qt:Cx→Prop)(X:Cx)(tg iter:Expr)(wi:TI):Prop :=
 ∀(pins:List (Addr×Obj)) (s:Shared) (σ:St) (H:Hp) (R:It→Hp→Prop),Inv X pins σ H s→wi σ H R→
  wpAny (model X.prog X.w) X.A (eval iter X.env) (fun v s1=>wpAny (model X.prog X.w) X.A (pyIter v) (PIEQ qt X pins σ tg R) X.xe s1) X.xe s
abbrev PI:=PIQ Calm
theorem go_of {M:Model}{A:Around}{E:Value→Shared→Prop}{s:Shared}{tg:Expr}{it:Addr}{u:Value}{o:Obj}{n:String}{vs:Array Value}{Q:Unit→Shared→Prop}(ho:s.heap.get? it=some o)(hc:o.cls=.type n)(hd:o.data=.fields vs)
  (hn:["enumerate","zip","dict_itemiterator","dict_reverseitemiterator","odict_iterator","itertools.zip_longest","itertools.pairwise"].contains n=false) (hQ:Q () s):wpAny M A (letOwnedTupleGo tg (.ref it) u) Q E s:=by
 unfold letOwnedTupleGo
 cases tg<;>first
  |exact wpAny_pure hQ
  |(cases u<;>first
    |exact wpAny_pure hQ
    |(refine wpAny_bind (wpAny_load ho ?_)
      rw[hc,hd]
      show wpAny M A (if(["enumerate","zip","dict_itemiterator","dict_reverseitemiterator","odict_iterator","itertools.zip_longest","itertools.pairwise"].contains n&&vs[0]?==some (rawInt _))=true then _ else _) Q E s
      rw[if_neg (by intro h;rw[hn,Bool.false_and]at h;cases h)]
      exact wpAny_pure hQ))
def Itl (K:PySem.W.Frag)(a:Addr):It :=
 ⟨fun i H=>∃xs x,SqL K H a xs∧xs[i]?=some x,fun i H x H'=>H'=H∧∀xs,SqL K H a xs→xs[i]?=some x,fun i H=>∃xs,SqL K H a xs∧xs.length≤i⟩
def Itt (K:PySem.W.Frag)(a:Addr):It :=
 ⟨fun i H=>∃xs x,SqT K H a xs∧xs[i]?=some x,fun i H x H'=>H'=H∧∀xs,SqT K H a xs→xs[i]?=some x,fun i H=>∃xs,SqT K H a xs∧xs.length≤i⟩
def Itr (lo:Int)(n:Nat):It:=⟨fun i _=>i<n,fun i H x H'=>H'=H∧x=.int (lo+i),fun i _=>n≤i⟩
theorem turn_list {P:Program}{w:World}{K:PySem.W.Frag}{tg:Expr}(a it:Addr):Turn P w K tg (Itl K a) [it] it (fun i h=>h.IsListIter it a i) where
 mem:=by simp
 obj:=fun i h st b hb=>by
  have e:b=it:=by simpa using hb
  subst e
  obtain⟨o,e,c,d⟩:=st
  exact⟨o,e,fun v z=>by rw[d]at z;cases z⟩
 keep:=fun i h h' st k=>st.at fun o e=>k it (by simp) o e
 item:=by
  intro X hP hw hK hc i pins s σ H E I hf st hg
  subst hP hw hK
  obtain⟨xs,x,hq,hx⟩:=hg
  obtain⟨its,rv,p,hz⟩:=I.list hq
  obtain⟨u,hu,ru⟩:=rv.get hx
  obtain⟨f0,f1,f2,f3,f4,f5⟩:=hf it (by simp)
  refine wpAny_pyNext_list_item st p.isList (x:=u) (by simpa using hu) fun h' st' sb=>?_
  have I1:Inv X pins σ H {s with heap:=h'}:=I.turned (t':=s.toks) (fun b o hb e=>(sb.2 b hb).trans e) f0 f1 f3 f4 f5
  obtain⟨o,e,c,d⟩:=id st'
  exact⟨u,rfl,go_of (s:={s with heap:=h'}) e c d (by decide) ⟨x,H,I1,ru,⟨rfl,fun ys hy=>by rw[I.list_inj hy hq];exact hx⟩,st',fun b hb=>(hf b hb).1⟩⟩
 done:=by
  intro X hP hw hK hc i pins s σ H E I hf st hg
  subst hP hw hK
  obtain⟨xs,hq,hx⟩:=hg
  obtain⟨its,rv,p,hz⟩:=I.list hq
  obtain⟨f0,f1,f2,f3,f4,f5⟩:=hf it (by simp)
  have hl:=rv.length
  exact wpAny_pyNext_list_end (I.ok.hd hc) st p.isList (by simp;exact Nat.le_trans (Nat.le_of_eq hl.symm) hx) fun h' eb=>⟨rfl,I.turned (t':=s.toks) (fun b o hb e=>eb b o hb e) f0 f1 f3 f4 f5⟩
 self:=fun _ _ _ _ _ st h=>wpAny_pyIter_listiter st h
theorem turn_tuple {P:Program}{w:World}{K:PySem.W.Frag}{tg:Expr}(a it:Addr):Turn P w K tg (Itt K a) [it] it (fun i h=>h.IsTupleIter it a i) where
 mem:=by simp
 obj:=fun i h st b hb=>by
  have e:b=it:=by simpa using hb
  subst e
  obtain⟨o,e,c,d⟩:=st
  exact⟨o,e,fun v z=>by rw[d]at z;cases z⟩
 keep:=fun i h h' st k=>st.at fun o e=>k it (by simp) o e
 item:=by
  intro X hP hw hK hc i pins s σ H E I hf st hg
  subst hP hw hK
  obtain⟨xs,x,hq,hx⟩:=hg
  obtain⟨its,rv,p,hz⟩:=I.tuple hq
  obtain⟨u,hu,ru⟩:=rv.get hx
  obtain⟨f0,f1,f2,f3,f4,f5⟩:=hf it (by simp)
  refine wpAny_pyNext_tuple_item st (show s.heap.IsTuple a its.toArray from p) (x:=u) (by simpa using hu) fun h' st' sb=>?_
  have I1:Inv X pins σ H {s with heap:=h'}:=I.turned (t':=s.toks) (fun b o hb e=>(sb.2 b hb).trans e) f0 f1 f3 f4 f5
  obtain⟨o,e,c,d⟩:=id st'
  exact⟨u,rfl,go_of (s:={s with heap:=h'}) e c d (by decide) ⟨x,H,I1,ru,⟨rfl,fun ys hy=>by rw[I.tuple_inj hy hq];exact hx⟩,st',fun b hb=>(hf b hb).1⟩⟩
 done:=by
  intro X hP hw hK hc i pins s σ H E I hf st hg
  subst hP hw hK
  obtain⟨xs,hq,hx⟩:=hg
  obtain⟨its,rv,p,hz⟩:=I.tuple hq
  obtain⟨f0,f1,f2,f3,f4,f5⟩:=hf it (by simp)
  have hl:=rv.length
  exact wpAny_pyNext_tuple_end (I.ok.hd hc) st (show s.heap.IsTuple a its.toArray from p) (by simp;exact Nat.le_trans (Nat.le_of_eq hl.symm) hx) fun h' eb=>⟨rfl,I.turned (t':=s.toks) (fun b o hb e=>eb b o hb e) f0 f1 f3 f4 f5⟩
 self:=fun _ _ _ _ _ st h=>wpAny_pyIter_tupleiter st h
theorem turn_range {P:Program}{w:World}{K:PySem.W.Frag}{tg:Expr}(it:Addr)(lo:Int)(n:Nat):Turn P w K tg (Itr lo n) [it] it (fun i h=>IsRangeIter h it (lo+(i:Nat)*1) ((n:Int)-(i:Nat)) 1) where
 mem:=by simp
 obj:=fun i h st b hb=>by
  have e:b=it:=by simpa using hb
  subst e
  exact⟨_,st,fun v z=>by
   have z':Data.fields _=Data.cell v:=z
   cases z'⟩
 keep:=fun i h h' st k=>k it (by simp) _ st
 item:=by
  intro X hP hw hK hc i pins s σ H E I hf st hg
  subst hP hw hK
  obtain⟨f0,f1,f2,f3,f4,f5⟩:=hf it (by simp)
  have W:=Walks.range (prog:=X.prog) (w:=X.w) (I.ok.hd hc) it lo 1 n
  refine W.item i s _ _ hg st fun v h' tk hv st' kk=>?_
  obtain⟨t,rfl⟩:=hv
  have I1:Inv X pins σ H {s with heap:=h',toks:=tk}:=I.turned (fun b o hb e=>kk b o (by simpa using hb) e) f0 f1 f3 f4 f5
  refine⟨_,rfl,go_of (s:={s with heap:=h',toks:=tk}) (n:="range_iterator") st' rfl rfl (by decide) ⟨.int (lo+i),H,I1,⟨t,?_⟩,⟨rfl,rfl⟩,st',fun b hb=>(hf b hb).1⟩⟩
  rw[Int.mul_one]
 done:=by
  intro X hP hw hK hc i pins s σ H E I hf st hg
  subst hP hw hK
  obtain⟨f0,f1,f2,f3,f4,f5⟩:=hf it (by simp)
  exact wpAny_pyNext_range_end (I.ok.hd hc) st (by have:n≤i:=hg;omega) fun h' eb=>⟨rfl,I.turned (t':=s.toks) (fun b o hb e=>eb b o hb e) f0 f1 f3 f4 f5⟩
 self:=fun _ _ _ _ _ st h=>wpAny_pyIter_rangeiter st h
section
variable {X:Cx}{tg:Expr}
inductive iList_ (K:PySem.W.Frag)(R:It→Hp→Prop)(x:V)(H1:Hp):Prop where
 |mk (a):(x=.ref a)→((∃xs,SqL K H1 a xs))→(R (Itl K a) H1)→iList_ K R x H1
def iList (K:PySem.W.Frag)(tl:TE):TI:=fun σ H R=>tl σ H (iList_ K R)
inductive iTup_ (K:PySem.W.Frag)(R:It→Hp→Prop)(x:V)(H1:Hp):Prop where
 |mk (a):(x=.ref a)→((∃xs,SqT K H1 a xs))→(R (Itt K a) H1)→iTup_ K R x H1
def iTup (K:PySem.W.Frag)(tl:TE):TI:=fun σ H R=>tl σ H (iTup_ K R)
theorem pi_list {l:Expr}{tl:TE}(hl:PE X l tl):PI X tg l (iList X.K tl):=by
 intro pins s σ H R I h
 refine thn (hl pins s σ H _ I h) fun v s1 ⟨x,H1,I1,r1,q1⟩=>?_
 obtain⟨a,e,⟨xs,hq⟩,q⟩:=q1
 subst e
 cases r1
 obtain⟨its,rv,p,hz⟩:=I1.list hq
 refine wpAny_pyIter_list p.isList ?_
 refine⟨s1.heap.objs.size,[s1.heap.objs.size],_,_,H1,rfl,I1.kept (t':=s1.toks) fun b o e=>Heap.get?_push_of_some _ e,turn_list a _,⟨_,Heap.get?_push_size _ rfl,rfl,rfl⟩,fun b hb=>?_,q⟩
 have e:b=s1.heap.objs.size:=by simpa using hb
 subst e
 exact I1.fpOk (Nat.le_refl _) (I1.hok.fresh (Nat.le_refl _))
theorem pi_tup {l:Expr}{tl:TE}(hl:PE X l tl):PI X tg l (iTup X.K tl):=by
 intro pins s σ H R I h
 refine thn (hl pins s σ H _ I h) fun v s1 ⟨x,H1,I1,r1,q1⟩=>?_
 obtain⟨a,e,⟨xs,hq⟩,q⟩:=q1
 subst e
 cases r1
 obtain⟨its,rv,p,hz⟩:=I1.tuple hq
 refine wpAny_pyIter_tuple (show s1.heap.IsTuple a its.toArray from p) ?_
 refine⟨s1.heap.objs.size,[s1.heap.objs.size],_,_,H1,rfl,I1.kept (t':=s1.toks) fun b o e=>Heap.get?_push_of_some _ e,turn_tuple a _,⟨_,Heap.get?_push_size _ rfl,rfl,rfl⟩,fun b hb=>?_,q⟩
 have e:b=s1.heap.objs.size:=by simpa using hb
 subst e
 exact I1.fpOk (Nat.le_refl _) (I1.hok.fresh (Nat.le_refl _))
theorem range_it {pins:List (Addr×Obj)}{σ:St}{H:Hp}{s:Shared}{R:It→Hp→Prop}{E:Value→Shared→Prop}{lo hi:Int}{t u v:Tok}{tk:Nat}(I:Inv X pins σ H s)(h1: -(2^62)≤lo)(h2:lo<2^62)(h3: -(2^62)≤hi)(h4:hi<2^62)
  (q:R (Itr lo (hi-lo).toNat) H):wpAny (model X.prog X.w) X.A (pyIter (.ref s.heap.objs.size)) (PIE X pins σ tg R) E {s with heap:=s.heap.push {cls:=.type "range",data:=.fields #[.int lo t, .int hi u, .int 1 v]},toks:=tk}:=by
 refine wpAny_pyIter_range (IsRange.new ..) (small_one h1 h2 h3 h4) ?_
 have I1:Inv X pins σ H {s with heap:=s.heap.push {cls:=.type "range",data:=.fields #[.int lo t, .int hi u, .int 1 v]},toks:=tk}:=I.kept fun b o e=>Heap.get?_push_of_some _ e
 refine⟨(s.heap.push {cls:=.type "range",data:=.fields #[.int lo t, .int hi u, .int 1 v]}).objs.size,[(s.heap.push {cls:=.type "range",data:=.fields #[.int lo t, .int hi u, .int 1 v]}).objs.size],_,_,H,rfl,
  I1.kept (t':=tk) fun b o e=>Heap.get?_push_of_some _ e,turn_range _ lo (hi-lo).toNat,?_,fun b hb=>?_,q⟩
 ·have e1:lo+((0:Nat):Int)*1=lo:=by simp
  have e2:(((hi-lo).toNat:Nat):Int)-((0:Nat):Int)=Builtin.Range.rangeSize lo hi 1:=by rw[rangeSize_one];split<;>omega
  show IsRangeIter _ _ (lo+((0:Nat):Int)*1) ((((hi-lo).toNat:Nat):Int)-((0:Nat):Int)) 1
  rw[e1,e2]
  exact Heap.get?_push_size _ rfl
 ·have e:b=(s.heap.push {cls:=.type "range",data:=.fields #[.int lo t, .int hi u, .int 1 v]}).objs.size:=by simpa using hb
  subst e
  exact I1.fpOk (Nat.le_refl _) (I1.hok.fresh (Nat.le_refl _))
inductive iRng1_ (R:It→Hp→Prop)(vs:List V)(H1:Hp):Prop where
 |mk (j:Int):(vs=[.int j])→(-(2^62)≤j)→(j<2^62)→(R (Itr 0 j.toNat) H1)→iRng1_ R vs H1
def iRng1 (ta:TA):TI:=fun σ H R=>ta σ H (iRng1_ R)
def iRng2 (ta:TA):TI:=fun σ H R=>ta σ H fun vs H1=>∃i j:Int,vs=[.int i, .int j]∧(-(2^62)≤i∧i<2^62∧-(2^62)≤j∧j<2^62)∧R (Itr i (j-i).toNat) H1
theorem pi_range1 {a:Expr}{ta:TA}{p pos:Pos}(hg:Gl X "range")(hm:X.mg "range"=none)(ha:PA X [a] ta)(hs:starEach [a] X.env=[(false,eval a X.env)]:=by rfl):PI X tg (.Call (.Name "range" p) [a] [] pos) (iRng1 ta):=by
 intro pins s σ H R I h
 refine Call_ (ld_blt I hg hm boot_range (PyProof.Rows.callWith_type1 (thn (ha pos pins s σ H _ I h) fun us s1 ⟨vs,H1,I1,r1,q1⟩=>?_) hs rfl))
 obtain⟨j,e,q1,q2,q⟩:=q1
 subst e
 cases r1 with
 |cons r rr=>
  cases rr
  obtain⟨t,rfl⟩:=r
  exact call_range_1 (range_it I1 (by omega) (by omega) q1 q2 (by simpa using q))
theorem pi_range2 {a b:Expr}{ta:TA}{p pos:Pos}(hg:Gl X "range")(hm:X.mg "range"=none)(ha:PA X [a,b] ta)(hs:starEach [a,b] X.env=[(false,eval a X.env),(false,eval b X.env)]:=by rfl)(hs2:starEach [b] X.env=[(false,eval b X.env)]:=by rfl):
  PI X tg (.Call (.Name "range" p) [a,b] [] pos) (iRng2 ta):=by
 intro pins s σ H R I h
 refine Call_ (ld_blt I hg hm boot_range (PyProof.Rows.callWith_type1 (thn (ha pos pins s σ H _ I h) fun us s1 ⟨vs,H1,I1,r1,q1⟩=>?_) (by rw[hs,hs2]) (by rw[hs2];rfl)))
 obtain⟨i,j,e,⟨q1,q2,q3,q4⟩,q⟩:=q1
 subst e
 cases r1 with
 |cons r rr=>
  cases rr with
  |cons r' rr=>
   cases rr
   obtain⟨t,rfl⟩:=r
   obtain⟨t',rfl⟩:=r'
   exact call_range_2 (range_it I1 q1 q2 q3 q4 q)
def tFor (wi:TI)(g:TG)(tb:TS):TS:=fun D σ H=>wi σ H fun J H1=>∃W:Nat→Nat→St→Hp→Prop,(∃m,W 0 m σ H1)∧∀i m σ H,W i m σ H→
 (J.stop i H∧D.nx σ H)∨(J.go i H∧∃N:St→Hp→Prop,(∀σ' H',N σ' H'→∃m',m'<m∧W (i+1) m' σ' H')∧∀x H',J.yld i H x H'→g x σ H' fun σ2 H2=>tb (D.lp N) σ2 H2)
def pinsAt (fp:List Addr)(h:Heap):List (Addr×Obj):=fp.filterMap fun b=>(h.get? b).map fun o=>(b,o)
theorem mem_pinsAt {fp:List Addr}{h:Heap}{b:Addr}{o:Obj}(hb:b∈fp)(e:h.get? b=some o):(b,o)∈pinsAt fp h:=List.mem_filterMap.mpr ⟨b,hb,by rw[e];rfl⟩
theorem of_pinsAt {fp:List Addr}{h:Heap}{p:Addr×Obj}(hp:p∈pinsAt fp h):p.1∈fp∧h.get? p.1=some p.2:=by
 obtain⟨b,hb,e⟩:=List.mem_filterMap.mp hp
 cases q:h.get? b with
 |none=>rw[q]at e;cases e
 |some o=>
  rw[q]at e
  have e':(b,o)=p:=Option.some.inj e
  subst e'
  exact⟨hb,q⟩
theorem Inv.pinned {pins:List (Addr×Obj)}{σ:St}{H:Hp}{s:Shared}{fp:List Addr}(I:Inv X pins σ H s)(hf:∀b∈fp,FpOk X pins H b)(ho:∀b∈fp,∃o,s.heap.get? b=some o∧∀v,o.data≠.cell v):Inv X (pins++pinsAt fp s.heap) σ H s :=
 I.pins_of fun p hp=>(List.mem_append.mp hp).elim (fun z=>I.pin p (List.mem_append_right _ z)) fun z=>by
  obtain⟨hb,e⟩:=of_pinsAt z
  obtain⟨f0,f1,f2,_⟩:=hf p.1 hb
  obtain⟨o,e',d⟩:=ho p.1 hb
  rw[e]at e';cases e'
  exact⟨e,f0,f1,f2,d⟩
theorem Inv.unpinned {pins pl:List (Addr×Obj)}{σ:St}{H:Hp}{s:Shared}(I:Inv X (pins++pl) σ H s):Inv X pins σ H s:=I.pins_of fun p hp=>I.pin p (List.mem_append_right _ (List.mem_append_left _ hp))
theorem ps_for {iter:Expr}{body:List Stmt}{wi:TI}{g:TG}{tb:TS}{pos:Pos}(hp:PassesOwn (model X.prog X.w) X.A X.env X.xe)(hc:X.calm=true)(hi:PI X tg iter wi)(hg:PG X tg g)(hb:PSs X body tb)
  (hs:∀x,foldedSetIterable iter X.env x=pure x:=by intro _;rfl):PS X (.For tg iter body [] pos) (tFor wi g tb):=by
 intro pins s σ H D I h
 refine wpAny_For (thn (hi pins s σ H _ I h) fun v s1 h1=>thn h1 fun itv s2 h2=>?_) hs
 obtain⟨it,fp,tn,J,H2,e,I2,T,st2,f2,W,⟨m0,w0⟩,turn⟩:=h2
 subst e
 have stat:∀{H':Hp},(∀b∈fp,H' b=none)→∀b∈fp,FpOk X pins H' b:=fun hn b hb=>⟨hn b hb,(f2 b hb).2⟩
 refine codeAny_forLoop_any (fun n s'=>∃i σ' H',Inv X pins σ' H' s'∧tn i s'.heap∧(∀b∈fp,H' b=none)∧W i n σ' H') ?_ m0 ⟨0,σ,H2,I2,st2,fun b hb=>(f2 b hb).1,w0⟩
 rintro n s3 ⟨i,σ3,H3,I3,st3,fr3,w3⟩
 rcases turn i n σ3 H3 w3 with ⟨stop,qn⟩|⟨go,N,hN,step⟩
 ·refine wpAny_passesOwn hp (thn (T.done X rfl rfl rfl hc i pins s3 σ3 H3 X.xe I3 (stat fr3) st3 stop) fun r s4 ⟨hr,I4⟩=>?_)
  subst hr
  exact wpAny_execs_nil ⟨σ3,H3,I4,qn⟩
 ·refine wpAny_passesOwn hp (thn (T.item X rfl rfl rfl hc i pins s3 σ3 H3 X.xe I3 (stat fr3) st3 go) fun r s4 ⟨u,hr,h4⟩=>?_)
  subst hr
  refine wpAny_passesOwn hp (thn h4 fun _ s5 ⟨x,H5,I5,r5,y5,st5,fr5⟩=>?_)
  have I5':=I5.pinned (stat fr5) (T.obj _ _ st5)
  refine wpAny_passesOwn hp (thn (hg _ s5 σ3 H5 x u _ I5' r5 (step x H5 y5)) fun _ s6 ⟨σ6,H6,I6,q6⟩=>?_)
  refine wpAny_passesOwn hp (thn (hb _ s6 σ6 H6 _ I6 q6) fun f s7 q7=>?_)
  have again:∀{σ7:St} {H7:Hp},Inv X (pins++pinsAt fp s5.heap) σ7 H7 s7→N σ7 H7→∃m,m<n∧∃i σ' H',Inv X pins σ' H' s7∧tn i s7.heap∧(∀b∈fp,H' b=none)∧W i m σ' H':=fun{σ7 H7} I7 n7=>by
   obtain⟨m',hm,w7⟩:=hN σ7 H7 n7
   refine⟨m',hm,i+1,σ7,H7,I7.unpinned,T.keep _ _ _ st5 fun b hb o e=>(I7.pin (b,o) (List.mem_append_right _ (List.mem_append_right _ (mem_pinsAt hb e)))).1,fun b hb=>?_,w7⟩
   obtain⟨o,e,d⟩:=T.obj _ _ st5 b hb
   exact(I7.pin (b,o) (List.mem_append_right _ (List.mem_append_right _ (mem_pinsAt hb e)))).2.1
  cases f with
  |next=>obtain⟨σ7,H7,I7,n7⟩:=q7;exact again I7 n7
  |cont=>obtain⟨σ7,H7,I7,n7⟩:=q7;exact again I7 n7
  |brk=>obtain⟨σ7,H7,I7,q7⟩:=q7;exact⟨σ7,H7,I7.unpinned,q7⟩
  |ret v=>obtain⟨x7,σ7,H7,I7,r7,q7⟩:=q7;exact⟨x7,σ7,H7,I7.unpinned,r7,q7⟩
end
theorem for_list {K:PySem.W.Frag}{a:Addr}{xs:List V}{g:TG}{tb:TS}{D:Ends}{σ:St}{H:Hp}(Pv:Nat→St→Hp→Prop)(h0:Pv 0 σ H)(hl:∀i σ H,i≤xs.length→Pv i σ H→SqL K H a xs)
  (hs:∀i x σ H,xs[i]?=some x→Pv i σ H→g x σ H fun σ2 H2=>tb (D.lp (Pv (i+1))) σ2 H2) (hd:∀σ H,Pv xs.length σ H→D.nx σ H):
  ∃W:Nat→Nat→St→Hp→Prop,(∃m,W 0 m σ H)∧∀i m σ H,W i m σ H→
   ((Itl K a).stop i H∧D.nx σ H)∨((Itl K a).go i H∧∃N:St→Hp→Prop,(∀σ' H',N σ' H'→∃m',m'<m∧W (i+1) m' σ' H')∧∀x H',(Itl K a).yld i H x H'→g x σ H' fun σ2 H2=>tb (D.lp N) σ2 H2):=by
 refine⟨fun i m σ H=>m=xs.length-i∧i≤xs.length∧Pv i σ H,⟨xs.length,by simp,Nat.zero_le _,h0⟩,?_⟩
 rintro i m σ H ⟨rfl,hi,p⟩
 have q:=hl i σ H hi p
 by_cases hlt:i<xs.length
 ·refine .inr ⟨⟨xs,xs[i],q,by simp[hlt]⟩,Pv (i+1),fun σ' H' p'=>⟨xs.length-(i+1),by omega,rfl,hlt,p'⟩,fun x H' y=>?_⟩
  obtain⟨e,y⟩:=y
  subst e
  exact hs i x σ _ (y xs q) p
 ·have e:i=xs.length:=by exact Nat.le_antisymm hi (Nat.not_lt.mp hlt)
  subst e
  exact .inl ⟨⟨xs,q,Nat.le_refl _⟩,hd σ H p⟩
theorem for_tup {K:PySem.W.Frag}{a:Addr}{xs:List V}{g:TG}{tb:TS}{D:Ends}{σ:St}{H:Hp}(Pv:Nat→St→Hp→Prop)(h0:Pv 0 σ H)(hl:∀i σ H,i≤xs.length→Pv i σ H→SqT K H a xs)
  (hs:∀i x σ H,xs[i]?=some x→Pv i σ H→g x σ H fun σ2 H2=>tb (D.lp (Pv (i+1))) σ2 H2) (hd:∀σ H,Pv xs.length σ H→D.nx σ H):
  ∃W:Nat→Nat→St→Hp→Prop,(∃m,W 0 m σ H)∧∀i m σ H,W i m σ H→
   ((Itt K a).stop i H∧D.nx σ H)∨((Itt K a).go i H∧∃N:St→Hp→Prop,(∀σ' H',N σ' H'→∃m',m'<m∧W (i+1) m' σ' H')∧∀x H',(Itt K a).yld i H x H'→g x σ H' fun σ2 H2=>tb (D.lp N) σ2 H2):=by
 refine⟨fun i m σ H=>m=xs.length-i∧i≤xs.length∧Pv i σ H,⟨xs.length,by simp,Nat.zero_le _,h0⟩,?_⟩
 rintro i m σ H ⟨rfl,hi,p⟩
 have q:=hl i σ H hi p
 by_cases hlt:i<xs.length
 ·refine .inr ⟨⟨xs,xs[i],q,by simp[hlt]⟩,Pv (i+1),fun σ' H' p'=>⟨xs.length-(i+1),by omega,rfl,hlt,p'⟩,fun x H' y=>?_⟩
  obtain⟨e,y⟩:=y
  subst e
  exact hs i x σ _ (y xs q) p
 ·have e:i=xs.length:=by exact Nat.le_antisymm hi (Nat.not_lt.mp hlt)
  subst e
  exact .inl ⟨⟨xs,q,Nat.le_refl _⟩,hd σ H p⟩
theorem for_range {lo:Int}{n:Nat}{g:TG}{tb:TS}{D:Ends}{σ:St}{H:Hp}(Pv:Nat→St→Hp→Prop)(h0:Pv 0 σ H)
  (hs:∀i σ H,i<n→Pv i σ H→g (.int (lo+i)) σ H fun σ2 H2=>tb (D.lp (Pv (i+1))) σ2 H2) (hd:∀σ H,Pv n σ H→D.nx σ H):
  ∃W:Nat→Nat→St→Hp→Prop,(∃m,W 0 m σ H)∧∀i m σ H,W i m σ H→
   ((Itr lo n).stop i H∧D.nx σ H)∨((Itr lo n).go i H∧∃N:St→Hp→Prop,(∀σ' H',N σ' H'→∃m',m'<m∧W (i+1) m' σ' H')∧∀x H',(Itr lo n).yld i H x H'→g x σ H' fun σ2 H2=>tb (D.lp N) σ2 H2):=by
 refine⟨fun i m σ H=>m=n-i∧i≤n∧Pv i σ H,⟨n,by simp,Nat.zero_le _,h0⟩,?_⟩
 rintro i m σ H ⟨rfl,hi,p⟩
 by_cases hlt:i<n
 ·refine .inr ⟨hlt,Pv (i+1),fun σ' H' p'=>⟨n-(i+1),by omega,rfl,hlt,p'⟩,fun x H' y=>?_⟩
  obtain⟨e,y⟩:=y
  subst e y
  exact hs i σ _ hlt p
 ·have e:i=n:=by exact Nat.le_antisymm hi (Nat.not_lt.mp hlt)
  subst e
  exact .inl ⟨Nat.le_refl _,hd σ H p⟩
abbrev R2:=V→V→Hp→VK→Prop
def OpR (X:Cx)(f:Value→Value→Sem Value)(r:R2):Prop :=
 ∀(pins:List (Addr×Obj)) (s:Shared) (σ:St) (H:Hp) (x y:V) (v u:Value) (Q:VK),Inv X pins σ H s→RelV x v→RelV y u→r x y H Q→
  wpAny (model X.prog X.w) X.A (f v u) (EP X pins σ Q) X.xe s
def UnR (X:Cx)(f:Value→Sem Value)(r:V→Hp→VK→Prop):Prop :=
 ∀(pins:List (Addr×Obj)) (s:Shared) (σ:St) (H:Hp) (x:V) (v:Value) (Q:VK),Inv X pins σ H s→RelV x v→r x H Q→
  wpAny (model X.prog X.w) X.A (f v) (EP X pins σ Q) X.xe s
def CallR (X:Cx)(f:Value)(r:List V→Hp→VK→Prop):Prop :=
 ∀(pins:List (Addr×Obj)) (s:Shared) (σ:St) (H:Hp) (xs:List V) (us:List Value) (Q:VK),Inv X pins σ H s→Vals xs us→r xs H Q→
  wpAny (model X.prog X.w) X.A (call f us) (EP X pins σ Q) X.xe s
def tOp (r:R2)(ta tb:TE):TE:=fun σ H Q=>ta σ H fun x H1=>tb σ H1 fun y H2=>r x y H2 Q
def tUn (r:V→Hp→VK→Prop)(ta:TE):TE:=fun σ H Q=>ta σ H fun x H1=>r x H1 Q
inductive rI_ (C:Int→Int→Prop)(g:Int→Int→V)(x:V)(y:V)(H:Hp)(Q:VK):Prop where
 |mk (i) (j):(x=.int i)→(y=.int j)→(C i j)→(Q (g i j) H)→rI_ C g x y H Q
def rI (C:Int→Int→Prop)(g:Int→Int→V):R2:=rI_ C g
inductive rI0_ (g:Int→Int→V)(x:V)(y:V)(H:Hp)(Q:VK):Prop where
 |mk (i) (j):(x=.int i)→(y=.int j)→(Q (g i j) H)→rI0_ g x y H Q
def rI0 (g:Int→Int→V):R2:=rI0_ g
def rU (g:Int→V):V→Hp→VK→Prop:=fun x H Q=>∃i,x=.int i∧Q (g i) H
section
variable {X:Cx}{a b c:Expr}{ta tb tc:TE}{pos:Pos}
theorem binT (ha:PE X a ta)(hb:PE X b tb){pins:List (Addr×Obj)}{s:Shared}{σ:St}{H:Hp}{R:V→V→Hp→Prop}(I:Inv X pins σ H s)
  (h:ta σ H fun x H1=>tb σ H1 fun y H2=>R x y H2) {Q:Value→Shared→Prop} {f:Value→Value→Sem Value}
  (hf:∀v u s2 x y H2,Inv X pins σ H2 s2→RelV x v→RelV y u→R x y H2→wpAny (model X.prog X.w) X.A (f v u) Q X.xe s2):
  wpAny (model X.prog X.w) X.A (eval a X.env) (fun v s₁=>wpAny (model X.prog X.w) X.A (eval b X.env) (fun u s₂=>wpAny (model X.prog X.w) X.A (f v u) Q X.xe s₂) X.xe s₁) X.xe s:=by
 refine thn (ha pins s σ H _ I h) fun v s1 ⟨x,H1,I1,r1,q1⟩=>?_
 refine thn (hb pins s1 σ H1 _ I1 q1) fun u s2 ⟨y,H2,I2,r2,q2⟩=>?_
 exact hf v u s2 x y H2 I2 r1 r2 q2
theorem pe_op {op:Operator}{r:R2}(ho:OpR X (binaryOp op) r)(ha:PE X a ta)(hb:PE X b tb):PE X (.BinOp a op b pos) (tOp r ta tb):=by
 intro pins s σ H Q I h
 exact wpAny_BinOp (binT ha hb I h fun v u s2 x y H2 I2 rx ry q=>ho pins s2 σ H2 x y v u Q I2 rx ry q)
theorem pe_un {op:UnaryOp}{r:V→Hp→VK→Prop}(ho:UnR X (unaryOp op) r)(ha:PE X a ta):PE X (.UnaryOp op a pos) (tUn r ta):=by
 intro pins s σ H Q I h
 exact UnaryOp_ (thn (ha pins s σ H _ I h) fun v s1 ⟨x,H1,I1,r1,q1⟩=>ho pins s1 σ H1 x v Q I1 r1 q1)
theorem opI {f:Value→Value→Sem Value}{C:Int→Int→Prop}{g:Int→Int→Int}
  (rule:∀(i j:Int) (t u:Tok) (s:Shared) (Q:Value→Shared→Prop) (E:Value→Shared→Prop),C i j→Q (.int (g i j) s.toks) {s with toks:=s.toks+1}→wpAny (model X.prog X.w) X.A (f (.int i t) (.int j u)) Q E s):
  OpR X f (rI C fun i j=>.int (g i j)):=by
 intro pins s σ H x y v u Q I rx ry h
 obtain⟨i,j,rfl,rfl,hc,q⟩:=h
 obtain⟨t,rfl⟩:=rx
 obtain⟨t',rfl⟩:=ry
 exact rule i j t t' s _ _ hc ⟨.int (g i j),H,I.tok _,⟨_,rfl⟩,q⟩
theorem opI0 {f:Value→Value→Sem Value}{g:Int→Int→Int}
  (rule:∀(i j:Int) (t u:Tok) (s:Shared) (Q:Value→Shared→Prop) (E:Value→Shared→Prop),Q (.int (g i j) s.toks) {s with toks:=s.toks+1}→wpAny (model X.prog X.w) X.A (f (.int i t) (.int j u)) Q E s):
  OpR X f (rI0 fun i j=>.int (g i j)):=by
 intro pins s σ H x y v u Q I rx ry h
 obtain⟨i,j,rfl,rfl,q⟩:=h
 obtain⟨t,rfl⟩:=rx
 obtain⟨t',rfl⟩:=ry
 exact rule i j t t' s _ _ ⟨.int (g i j),H,I.tok _,⟨_,rfl⟩,q⟩
theorem opB0 {f:Value→Value→Sem Value}{g:Int→Int→Bool}
  (rule:∀(i j:Int) (t u:Tok) (s:Shared) (Q:Value→Shared→Prop) (E:Value→Shared→Prop),Q (.bool (g i j)) s→wpAny (model X.prog X.w) X.A (f (.int i t) (.int j u)) Q E s):
  OpR X f (rI0 fun i j=>.bl (g i j)):=by
 intro pins s σ H x y v u Q I rx ry h
 obtain⟨i,j,rfl,rfl,q⟩:=h
 obtain⟨t,rfl⟩:=rx
 obtain⟨t',rfl⟩:=ry
 exact rule i j t t' s _ _ ⟨.bl (g i j),H,I,rfl,q⟩
def CDiv (i j:Int):Prop:=0<j∧j<1073741824
def CPow (i j:Int):Prop:=0≤j∧j≤1000000∧i.natAbs<2^64
def CMul (i j:Int):Prop:=(-(2^64)<i∧i<2^64)∨(-(2^64)<j∧j<2^64)
theorem CMul.ok {i j:Int}(h:CMul i j):IntMulOk i j:=by
 rcases h with ⟨h1,h2⟩|⟨h1,h2⟩
 ·exact .of_left (intBits_le_64 h1 h2)
 ·exact .of_right (intBits_le_64 h1 h2)
theorem op_add:OpR X (binaryOp .Add) (rI0 fun i j=>.int (i+j)):=opI0 fun _ _ _ _ _ _ _ q=>add_int q
theorem op_sub:OpR X (binaryOp .Sub) (rI0 fun i j=>.int (i-j)):=opI0 fun _ _ _ _ _ _ _ q=>sub_int q
theorem op_mul:OpR X (binaryOp .Mult) (rI CMul fun i j=>.int (i*j)):=opI fun _ _ _ _ _ _ _ hc q=>mul_int q hc.ok
theorem op_fdiv:OpR X (binaryOp .FloorDiv) (rI CDiv fun i j=>.int (i / j)):=opI fun i j _ _ _ _ _ hc q=>by
 have h1:(0:Int)<j:=hc.1
 have h2:j<1073741824:=hc.2
 exact floordiv_int (by omega) (by rw[Int.fdiv_eq_ediv_of_nonneg i (by omega)];exact q) (.inl (PyProof.noPylong_small (by omega)))
theorem op_mod:OpR X (binaryOp .Mod) (rI (fun _ j=>0<j) fun i j=>.int (i%j)):=opI fun i j _ _ _ _ _ hc q=>by
 have h1:(0:Int)<j:=hc
 exact mod_int' (by omega) (by rw[Int.fmod_eq_emod_of_nonneg i (by omega)];exact q)
theorem op_pow:OpR X (binaryOp .Pow) (rI CPow fun i j=>.int (i^j.toNat)):=opI fun _ _ _ _ _ _ _ hc q=>pow_int_small hc.1 hc.2.1 hc.2.2 q
theorem unI {f:Value→Sem Value}{g:Int→Int}
  (rule:∀(i:Int) (t:Tok) (s:Shared) (Q:Value→Shared→Prop) (E:Value→Shared→Prop),Q (.int (g i) s.toks) {s with toks:=s.toks+1}→wpAny (model X.prog X.w) X.A (f (.int i t)) Q E s):
  UnR X f (rU fun i=>.int (g i)):=by
 intro pins s σ H x v Q I rx h
 obtain⟨i,rfl,q⟩:=h
 obtain⟨t,rfl⟩:=rx
 exact rule i t s _ _ ⟨.int (g i),H,I.tok _,⟨_,rfl⟩,q⟩
theorem un_neg:UnR X (unaryOp .USub) (rU fun i=>.int (-i)):=unI fun _ _ _ _ _ q=>neg_int q
end
def scal:V→V→Bool
 |.non, .non=>true|.non, .int _=>true|.int _, .non=>true|.non, .bl _=>true|.bl _, .non=>true|.non, .str _=>true|.str _, .non=>true
 |.int _, .int _=>true|.bl _, .bl _=>true|.str _, .str _=>true|.byt _, .byt _=>true
 |.int _, .str _=>true|.str _, .int _=>true|.bl _, .str _=>true|.str _, .bl _=>true
 |_,_=>false
inductive rEq_ (x:V)(y:V)(H:Hp)(Q:VK):Prop where
 |mk:(scal x y=true)→(Q (.bl (decide (x=y))) H)→rEq_ x y H Q
def rEq:R2:=rEq_
inductive rNe_ (x:V)(y:V)(H:Hp)(Q:VK):Prop where
 |mk:(scal x y=true)→(Q (.bl (!decide (x=y))) H)→rNe_ x y H Q
def rNe:R2:=rNe_
theorem dec_int {i j:Int}:decide (V.int i=V.int j)=(i==j):=by
 rw[Bool.eq_iff_iff]
 simp
theorem dec_bl {i j:Bool}:decide (V.bl i=V.bl j)=(i==j):=by
 rw[Bool.eq_iff_iff]
 simp
theorem dec_str {i j:Str}:decide (V.str i=V.str j)=(i==j):=by
 rw[Bool.eq_iff_iff]
 simp
theorem dec_byt {i j:Array UInt8}:decide (V.byt i=V.byt j)=(i.toList==j.toList):=by
 rw[Bool.eq_iff_iff]
 cases i
 cases j
 simp
section
variable {X:Cx}{a b c:Expr}{ta tb tc:TE}{pos:Pos}
theorem fin_bl {pins:List (Addr×Obj)}{σ:St}{H:Hp}{s:Shared}{Q:VK}{k k':Bool}(I:Inv X pins σ H s)(q:Q (.bl k) H)(e:k=k'):EP X pins σ Q (.bool k') s:=by
 subst e
 exact⟨.bl k,H,I,rfl,q⟩
theorem op_eq:OpR X (compareOp .Eq) rEq:=by
 intro pins s σ H x y v u Q I rx ry h
 obtain⟨hs,q⟩:=h
 cases x with
 |non=>
  cases rx
  cases y with
  |non=>cases ry;exact PySem.EqNone.eq_none_none (fin_bl I q (by simp))
  |bl j=>cases ry;exact PySem.EqNone.eq_none_bool (fin_bl I q (by simp))
  |int j=>obtain⟨t',rfl⟩:=ry;exact PySem.EqNone.eq_none_int (fin_bl I q (by simp))
  |str j=>obtain⟨t',rfl⟩:=ry;exact PySem.EqNone.eq_none_str (fin_bl I q (by simp))
  |_=>exact absurd (show false=true from hs) Bool.false_ne_true
 |bl i=>
  cases rx
  cases y with
  |non=>cases ry;exact PySem.EqNone.eq_bool_none (fin_bl I q (by simp))
  |bl j=>cases ry;exact eq_bool (fin_bl I q dec_bl)
  |str j=>obtain⟨t',rfl⟩:=ry;exact PySem.EqMixed.eq_bool_str (fin_bl I q (by simp))
  |_=>exact absurd (show false=true from hs) Bool.false_ne_true
 |int i=>
  obtain⟨t,rfl⟩:=rx
  cases y with
  |non=>cases ry;exact PySem.EqNone.eq_int_none (fin_bl I q (by simp))
  |int j=>obtain⟨t',rfl⟩:=ry;exact eq_int (fin_bl I q dec_int)
  |str j=>obtain⟨t',rfl⟩:=ry;exact PySem.EqMixed.eq_int_str (fin_bl I q (by simp))
  |_=>exact absurd (show false=true from hs) Bool.false_ne_true
 |str i=>
  obtain⟨t,rfl⟩:=rx
  cases y with
  |non=>cases ry;exact PySem.EqNone.eq_str_none (fin_bl I q (by simp))
  |bl j=>cases ry;exact PySem.EqMixed.eq_str_bool (fin_bl I q (by simp))
  |int j=>obtain⟨t',rfl⟩:=ry;exact PySem.EqMixed.eq_str_int (fin_bl I q (by simp))
  |str j=>obtain⟨t',rfl⟩:=ry;exact eq_str (fin_bl I q dec_str)
  |_=>exact absurd (show false=true from hs) Bool.false_ne_true
 |byt i=>
  obtain⟨t,rfl⟩:=rx
  cases y with
  |byt j=>obtain⟨t',rfl⟩:=ry;exact PySem.W.eq_bytes (fin_bl I q dec_byt)
  |_=>exact absurd (show false=true from hs) Bool.false_ne_true
 |_=>cases y<;>exact absurd (show false=true from hs) Bool.false_ne_true
theorem op_ne:OpR X (compareOp .NotEq) rNe:=by
 intro pins s σ H x y v u Q I rx ry h
 obtain⟨hs,q⟩:=h
 cases x with
 |non=>
  cases rx
  cases y with
  |non=>cases ry;exact PySem.EqNone.ne_none_none (fin_bl I q (by simp))
  |bl j=>cases ry;exact PySem.EqNone.ne_none_bool (fin_bl I q (by simp))
  |int j=>obtain⟨t',rfl⟩:=ry;exact PySem.EqNone.ne_none_int (fin_bl I q (by simp))
  |str j=>obtain⟨t',rfl⟩:=ry;exact PySem.EqNone.ne_none_str (fin_bl I q (by simp))
  |_=>exact absurd (show false=true from hs) Bool.false_ne_true
 |bl i=>
  cases rx
  cases y with
  |non=>cases ry;exact PySem.EqNone.ne_bool_none (fin_bl I q (by simp))
  |bl j=>cases ry;exact ne_bool (fin_bl I q (congrArg not dec_bl))
  |str j=>obtain⟨t',rfl⟩:=ry;exact PySem.EqMixed.ne_bool_str (fin_bl I q (by simp))
  |_=>exact absurd (show false=true from hs) Bool.false_ne_true
 |int i=>
  obtain⟨t,rfl⟩:=rx
  cases y with
  |non=>cases ry;exact PySem.EqNone.ne_int_none (fin_bl I q (by simp))
  |int j=>obtain⟨t',rfl⟩:=ry;exact ne_int (fin_bl I q (congrArg not dec_int))
  |str j=>obtain⟨t',rfl⟩:=ry;exact PySem.EqMixed.ne_int_str (fin_bl I q (by simp))
  |_=>exact absurd (show false=true from hs) Bool.false_ne_true
 |str i=>
  obtain⟨t,rfl⟩:=rx
  cases y with
  |non=>cases ry;exact PySem.EqNone.ne_str_none (fin_bl I q (by simp))
  |bl j=>cases ry;exact PySem.EqMixed.ne_str_bool (fin_bl I q (by simp))
  |int j=>obtain⟨t',rfl⟩:=ry;exact PySem.EqMixed.ne_str_int (fin_bl I q (by simp))
  |str j=>obtain⟨t',rfl⟩:=ry;exact ne_str (fin_bl I q (congrArg not dec_str))
  |_=>exact absurd (show false=true from hs) Bool.false_ne_true
 |byt i=>
  obtain⟨t,rfl⟩:=rx
  cases y with
  |byt j=>obtain⟨t',rfl⟩:=ry;exact PySem.W.ne_bytes (fin_bl I q (congrArg not dec_byt))
  |_=>exact absurd (show false=true from hs) Bool.false_ne_true
 |_=>cases y<;>exact absurd (show false=true from hs) Bool.false_ne_true
theorem op_le:OpR X (compareOp .LtE) (rI0 fun i j=>.bl (decide (i≤j))):=opB0 fun _ _ _ _ _ _ _ q=>le_int q
theorem op_gt:OpR X (compareOp .Gt) (rI0 fun i j=>.bl (decide (j<i))):=opB0 fun _ _ _ _ _ _ _ q=>gt_int q
theorem op_in_str:OpR X (compareOp .In) (fun x y H Q=>∃i j,x=.str i∧y=.str j∧Q (.bl (!(Builtin.Str.occurrences j i 0 j.length 1).isEmpty)) H):=by
 intro pins s σ H x y v u Q I rx ry h
 obtain⟨i,j,rfl,rfl,q⟩:=h
 obtain⟨t,rfl⟩:=rx
 obtain⟨t',rfl⟩:=ry
 exact in_str (fin_bl I q rfl)
theorem op_notN:OpR X (compareOp .IsNot) (fun x y H Q=>y=.non∧Q (.bl (!decide (x=.non))) H):=by
 intro pins s σ H x y v u Q I rx ry h
 obtain⟨rfl,q⟩:=h
 cases ry
 refine isnot_none_gen (fin_bl I q ?_)
 cases x<;>first
  |(cases rx;rfl)
  |(obtain⟨t,rfl⟩:=rx;rfl)
theorem OpR.or {f:Value→Value→Sem Value}{r r':R2}(h:OpR X f r)(h':OpR X f r'):OpR X f (fun x y H Q=>r x y H Q∨r' x y H Q):=by
 intro pins s σ H x y v u Q I rx ry q
 rcases q with q|q
 ·exact h pins s σ H x y v u Q I rx ry q
 ·exact h' pins s σ H x y v u Q I rx ry q
theorem nomark (b:Expr){op:CmpOp}(h:op≠.In:=by decide)(h2:op≠.NotIn:=by decide):behindInMarks op b=false:=by
 have e1:(op==CmpOp.In)=false:=by cases op<;>first|rfl|exact absurd rfl h
 have e2:(op==CmpOp.NotIn)=false:=by cases op<;>first|rfl|exact absurd rfl h2
 cases b<;>simp[behindInMarks,e1,e2]
theorem pe_cmpR {op:CmpOp}{r:R2}(ho:OpR X (compareOp op) r)(ha:PE X a ta)(hb:PE X b tb)(hm:behindInMarks op b=false:=by exact nomark _):PE X (.Compare a [op] [b] pos) (tOp r ta tb):=by
 intro pins s σ H Q I h
 exact wpAny_Compare1 (binT ha hb I h fun v u s2 x y H2 I2 rx ry q=>ho pins s2 σ H2 x y v u Q I2 rx ry q) hm
inductive tTest_ (Q:Bool→Hp→Prop)(x:V)(H':Hp):Prop where
 |mk (k):(x=.bl k)→(Q k H')→tTest_ Q x H'
def tTest (t:TE):TT:=fun σ H Q=>t σ H (tTest_ Q)
theorem pt_cmpR {op:CmpOp}{r:R2}(ho:OpR X (compareOp op) r)(ha:PE X a ta)(hb:PE X b tb)(hm:behindInMarks op b=false:=by exact nomark _):PT X (.Compare a [op] [b] pos) (tTest (tOp r ta tb)):=by
 intro pins s σ H Q I h
 refine wpAny_isTrue_Compare1 (thn (ha pins s σ H _ I h) fun v s1 ⟨x,H1,I1,r1,q1⟩=>thn (hb pins s1 σ H1 _ I1 q1) fun u s2 ⟨y,H2,I2,r2,q2⟩=>
  thn (ho pins s2 σ H2 x y v u _ I2 r1 r2 q2) fun c s3 ⟨z,H3,I3,r3,k,e,q3⟩=>?_) hm
 subst e
 cases r3
 exact wpAny_truthy_bool ⟨H3,I3,q3⟩
def tChain (r r':R2)(ta tb tc:TE):TE:=fun σ H Q=>ta σ H fun x H1=>tb σ H1 fun y H2=>r x y H2 fun z H3=>∃k,z=.bl k∧
 (if k=true then tc σ H3 fun w' H4=>r' y w' H4 Q else Q (.bl false) H3)
theorem pe_chain {op op':CmpOp}{r r':R2}(ho:OpR X (compareOp op) r)(ho':OpR X (compareOp op') r')(ha:PE X a ta)(hb:PE X b tb)(hc:PE X c tc)
  (hm:lastMarks [op,op'] [b,c]=false:=by with_unfolding_all rfl):PE X (.Compare a [op,op'] [b,c] pos) (tChain r r' ta tb tc):=by
 intro pins s σ H Q I h
 refine Compare_chain (thn (ha pins s σ H _ I h) fun v s1 ⟨x,H1,I1,r1,q1⟩=>chain_link (thn (hb pins s1 σ H1 _ I1 q1) fun u s2 ⟨y,H2,I2,r2,q2⟩=>
  thn (ho pins s2 σ H2 x y v u _ I2 r1 r2 q2) fun d s3 ⟨z,H3,I3,r3,k,e,q3⟩=>?_)) hm
 subst e
 cases r3
 refine wpAny_truthy_bool ?_
 cases k with
 |false=>exact ite_ff ⟨.bl false,H3,I3,rfl,q3⟩
 |true=>exact ite_tt (chain_last (thn (hc pins s3 σ H3 _ I3 q3) fun w' s4 ⟨z',H4,I4,r4,q4⟩=>ho' pins s4 σ H4 y z' u w' Q I4 r2 r4 q4))
theorem pt_chain {op op':CmpOp}{r r':R2}(ho:OpR X (compareOp op) r)(ho':OpR X (compareOp op') r')(ha:PE X a ta)(hb:PE X b tb)(hc:PE X c tc)
  (hm:lastMarks [op,op'] [b,c]=false:=by with_unfolding_all rfl):PT X (.Compare a [op,op'] [b,c] pos) (tTest (tChain r r' ta tb tc)):=by
 intro pins s σ H Q I h
 refine isTrue_chain (thn (ha pins s σ H _ I h) fun v s1 ⟨x,H1,I1,r1,q1⟩=>test_link (thn (hb pins s1 σ H1 _ I1 q1) fun u s2 ⟨y,H2,I2,r2,q2⟩=>
  thn (ho pins s2 σ H2 x y v u _ I2 r1 r2 q2) fun d s3 ⟨z,H3,I3,r3,k,e,q3⟩=>?_)) hm
 subst e
 cases r3
 refine wpAny_truthy_bool ?_
 cases k with
 |false=>
  obtain⟨k',e',q'⟩:=q3
  cases e'
  exact ite_ff ⟨H3,I3,q'⟩
 |true=>
  refine ite_tt (test_last (thn (hc pins s3 σ H3 _ I3 q3) fun w' s4 ⟨z',H4,I4,r4,q4⟩=>thn (ho' pins s4 σ H4 y z' u w' _ I4 r2 r4 q4) fun d' s5 ⟨z2,H5,I5,r5,k2,e2,q5⟩=>?_))
  subst e2
  cases r5
  exact wpAny_truthy_bool ⟨H5,I5,q5⟩
theorem line63:(sizeLine:Nat)<2^63:=by rw[sizeLine_eq];decide
inductive r_op_add_str (x:V)(y:V)(H:Hp)(Q:VK):Prop where
 |mk (i) (j):(x=.str i)→(y=.str j)→(i.length+j.length≤sizeLine)→(Q (.str (i++j)) H)→r_op_add_str x y H Q
theorem op_add_str:OpR X (binaryOp .Add) r_op_add_str:=by
 intro pins s σ H x y v u Q I rx ry h
 obtain⟨i,j,rfl,rfl,hz,q⟩:=h
 obtain⟨t,rfl⟩:=rx
 obtain⟨t',rfl⟩:=ry
 exact add_str (fun t' tk=>⟨.str (i++j),H,I.tok _,⟨_,rfl⟩,q⟩) hz
theorem vals1 {x:V}{us:List Value}(r:Vals [x] us):∃u,us=[u]∧RelV x u:=by
 cases r with
 |cons r1 r2=>cases r2;exact⟨_,rfl,r1⟩
theorem vals2 {x y:V}{us:List Value}(r:Vals [x,y] us):∃u w',us=[u,w']∧RelV x u∧RelV y w':=by
 cases r with
 |cons r1 r2=>
  cases r2 with
  |cons r3 r4=>cases r4;exact⟨_,_,rfl,r1,r3⟩
inductive r_call_str_int (xs:List V)(H:Hp)(Q:VK):Prop where
 |mk (i):(xs=[.int i])→(i.natAbs.log2<1920)→(Q (.str (toString i)) H)→r_call_str_int xs H Q
end
structure ObjM (h:Heap)(x dx C:Addr)(mA:Str→Option Value):Prop where
 obj:h.get? x=some (PySem.W.instObj C dx)
 ns:h.Ns1 dx mA
 ne:dx≠x
theorem lookIn_ns {h:Heap}{dx:Addr}{mA:Str→Option Value}(n:h.Ns1 dx mA):∃od,h.get? dx=some od∧∀name,PySem.W.lookIn name od=some (mA name):=by
 obtain⟨o,es,ep,ho,hd,hk,_,hm⟩:=n
 refine⟨o,ho,fun name=>?_⟩
 have e:=hm name
 unfold nsFind findBy at e
 rw[←Array.find?_toList]at e
 unfold PySem.W.lookIn
 rw[hd]
 dsimp only
 split
 ·rename_i y q
  rw[q]at e
  exact congrArg some e
 ·rename_i q
  rw[q]at e
  have a:es.toList.any (·.refKey)=false:=by
   rw[List.any_eq_false]
   intro y hy
   obtain⟨z,t,hkey⟩:=hk y (Array.mem_toList_iff.mp hy)
   simp[DictEntry.refKey,hkey]
  have a':¬es.toList.any (·.refKey)=true:=by rw[a];exact Bool.false_ne_true
  rw[if_neg a']
  exact congrArg some e
theorem ObjM.look {h:Heap}{x dx C:Addr}{mA:Str→Option Value}(I:ObjM h x dx C mA):∃od,PySem.W.InstAt h x (PySem.W.instObj C dx) C (some od)∧∀name,PySem.W.lookIn name od=some (mA name) :=
 let ⟨od,ho,hl⟩:=lookIn_ns I.ns
 ⟨od,⟨I.obj,rfl,rfl,ho⟩,hl⟩
section
variable {prog:Program}{w:World}{A:Around}{E:Value→Shared→Prop}{s:Shared}{K:PySem.W.Frag}{x dx C f:Addr}{mA:Str→Option Value}{name:Str}{v:Value}
theorem get_map {expr:Bool}{Q:Value→Shared→Prop}(X:K.In s.heap)(I:ObjM s.heap x dx C mA)(hg:PySem.W.plainGet K C name=true)(hh:PySem.W.hasDictIn K C=true)
  (ha:PySem.W.findIn K (.ref C) name=some none) (hv:mA name=some v) (hv':PySem.W.handedIn v=true) (h:Q v {s with toks:=s.toks+1}):
  wpAny (model prog w) A (getAttr (.ref x) name expr) Q E s:=by
 obtain⟨od,J,hl⟩:=I.look
 exact PySem.W.get_value X J (PySem.W.plainGet_of hg).1 (PySem.W.findObj_own hh ha rfl (by rw[hl,hv])) hv' h
theorem get_meth {pl:Sem Bool}{Q:Value×List Value→Shared→Prop}(X:K.In s.heap)(I:ObjM s.heap x dx C mA)(hg:PySem.W.plainGet K C name=true)
  (hf:PySem.W.findIn K (.ref C) name=some (some (.ref f))) (ht:PySem.W.isFn K (.ref f)=true) (hv:mA name=none) (h:Q (.ref f,[.ref x]) s):
  wpAny (model prog w) A (getMethod (.ref x) name pl) Q E s:=by
 obtain⟨od,J,hl⟩:=I.look
 exact PySem.W.method_fn X J (PySem.W.plainGet_of hg).1 (PySem.W.plainGet_of hg).2 hf (beq_iff_eq.mp ht) (by show(PySem.W.lookIn name od).map (·.isSome)=some false;rw[hl,hv];rfl) h
theorem set_map {ns:List Str}{Q:Unit→Shared→Prop}(X:K.In s.heap)(I:ObjM s.heap x dx C mA)
  (hs:PySem.W.findIn K (.ref C) "__setattr__"=some (some (.builtin "object.__setattr__"))) (hp:PySem.W.plainOver K C=true) (ht:PySem.W.takerIn K C name=some none) (hh:PySem.W.hasDictIn K C=true)
  (hw:PySem.Within mA ns) (hsz:ns.length≤sizeLine)
  (h:∀h',ObjM h' x dx C (fun y=>if y=name then some v else mA y)→Heap.SameBut dx s.heap h'→Q () {s with heap:=h',toks:=s.toks+2}):
  wpAny (model prog w) A (setAttr (.ref x) name v) Q E s:=by
 obtain⟨od,J,hl⟩:=I.look
 refine PySem.W.set_plain X J hs (PySem.W.osa_open (s:={s with toks:=s.toks+1}) (r:=none) X J hp ht fun b=>?_)
 obtain⟨cd,hc,hd'⟩:=PySem.W.any_some hh
 have hx:s.heap.get? x=some ⟨.ref C,some dx, .plain,#[]⟩:=I.obj
 refine wpAny_bind (wpAny_pure (wpAny_bind (wpAny_bind (wpAny_loadPart hx (wpAny_bind (PySem.W.Looks.here (s:={s with toks:=s.toks+1}) (PySem.W.looks_clsIn X hc) ?_))))))
 rw[hd']
 refine wpAny_pure (a:=some dx) (wpAny_bind (wpAny_pure (wpAny_bind ?_)))
 refine wpAny_nsSet1 (s:={s with toks:=s.toks+1}) I.ns fun h' hn2 hs2=>?_
 obtain⟨oD,esD,epD,hoD,hdD,hcD⟩:=hn2.count (PySem.Within.cons name v hw)
 refine wpAny_bind (wpAny_lookBehind hoD (by rw[hdD];exact pastItsLine_dict (Nat.le_trans hcD (by rw[List.length_cons];exact Nat.succ_le_succ hsz))) ?_)
 exact wpAny_pure (h _ ⟨(hs2.2 _ (Ne.symm I.ne)).trans I.obj,hn2,I.ne⟩ hs2)
theorem make_map {R:Result→Shared→Prop}{vs:List Value}{kw:List (Str×Value)}(X:K.In s.heap)(hm:PySem.W.makesIn K C=true)
  (hi:PySem.W.findIn K (.ref C) "__init__"=some (some (.ref f))) (hf:PySem.W.typeIn K (.ref f)=some (.type "function"))
  (h:codeAny (model prog w) (A.under (.builtin "type.__call__" ⟨.ref C::vs,kw⟩)) (.call (.ref f) ⟨.ref (s.heap.objs.size+1)::vs,kw⟩) (PySem.W.InitBack (s.heap.objs.size+1) R)
   {s with heap:=(s.heap.push PySem.W.emptyDict).push (PySem.W.instObj C s.heap.objs.size)}):
  codeAny (model prog w) A (.call (.ref C) ⟨vs,kw⟩) R s:=by
 obtain⟨hh,g,d,t,os⟩:=s
 exact PySem.W.make_core (PySem.W.makes_of X hm) (PySem.W.looks_findIn X hi) (fun self=>PySem.W.bind_fn X self hf) (.inl rfl) h
end
def putF (f:Str)(v:V):List (Str×V)→List (Str×V)
 |[]=>[(f,v)]
 |(g,x)::r=>if g=f then(g,v)::r else(g,x)::putF f v r
theorem lookup_putF (f g:Str)(v:V):∀fs:List (Str×V),(putF f v fs).lookup g=if g=f then some v else fs.lookup g
 |[]=>by
  show List.lookup g [(f,v)]=_
  by_cases h:g=f
  ·have hb:(g==f)=true:=beq_iff_eq.mpr h
   simp only[List.lookup,hb,if_pos h]
  ·have hb:(g==f)=false:=beq_eq_false_iff_ne.mpr h
   simp only[List.lookup,hb,if_neg h]
 |(k,x)::r=>by
  have ih:=lookup_putF f g v r
  rw[show putF f v ((k,x)::r)=(if k=f then(k,v)::r else(k,x)::putF f v r) from rfl]
  by_cases hk:k=f
  ·rw[if_pos hk]
   by_cases h:g=k
   ·have hb:(g==k)=true:=beq_iff_eq.mpr h
    simp only[List.lookup,hb,if_pos (h.trans hk)]
   ·have hb:(g==k)=false:=beq_eq_false_iff_ne.mpr h
    simp only[List.lookup,hb,if_neg (fun e:g=f=>h (e.trans hk.symm))]
  ·rw[if_neg hk]
   by_cases h:g=k
   ·have hb:(g==k)=true:=beq_iff_eq.mpr h
    simp only[List.lookup,hb,if_neg (fun e:g=f=>hk (h.symm.trans e))]
   ·have hb:(g==k)=false:=beq_eq_false_iff_ne.mpr h
    simp only[List.lookup,hb]
    exact ih
theorem keys_putF (f:Str)(v:V):∀fs:List (Str×V),f∈(putF f v fs).map (·.1)∧∀g,g∈fs.map (·.1)→g∈(putF f v fs).map (·.1)
 |[]=>⟨by simp[putF],fun g h=>by simp at h⟩
 |(k,x)::r=>by
  obtain⟨i1,i2⟩:=keys_putF f v r
  rw[show putF f v ((k,x)::r)=(if k=f then(k,v)::r else(k,x)::putF f v r) from rfl]
  by_cases hk:k=f
  ·rw[if_pos hk]
   subst hk
   exact⟨by simp,fun g h=>by simpa using h⟩
  ·rw[if_neg hk]
   refine⟨?_,fun g h=>?_⟩
   ·rw[List.map_cons]
    exact List.mem_cons_of_mem _ i1
   ·rw[List.map_cons]at h ⊢
    rcases List.mem_cons.mp h with e|e
    ·exact List.mem_cons.mpr (.inl e)
    ·exact List.mem_cons_of_mem _ (i2 g e)
theorem length_putF (f:Str)(v:V):∀fs:List (Str×V),(putF f v fs).length≤fs.length+1
 |[]=>by simp[putF]
 |(k,x)::r=>by
  have ih:=length_putF f v r
  rw[show putF f v ((k,x)::r)=(if k=f then(k,v)::r else(k,x)::putF f v r) from rfl]
  by_cases hk:k=f
  ·rw[if_pos hk,List.length_cons,List.length_cons];exact Nat.le_succ _
  ·rw[if_neg hk,List.length_cons,List.length_cons];exact Nat.succ_le_succ ih
theorem RelO.some_of {v:V}{o:Option Value}(r:RelO (some v) o):∃u,o=some u∧RelV v u:=by
 cases o with
 |none=>exact(show False from r).elim
 |some u=>exact⟨u,rfl,r⟩
theorem RelO.none_of {o:Option Value}(r:RelO none o):o=none:=by
 cases o with
 |none=>rfl
 |some u=>exact(show False from r).elim
theorem handed_of {v:V}{u:Value}(r:RelV v u):PySem.W.handedIn u=true:=by
 cases v with
 |non=>cases(show u=Value.none from r);rfl
 |bl b=>cases(show u=Value.bool b from r);rfl
 |int i=>obtain⟨t,e⟩:=(show ∃t,u=Value.int i t from r);cases e;rfl
 |str x=>obtain⟨t,e⟩:=(show ∃t,u=Value.str x t from r);cases e;rfl
 |byt b=>obtain⟨t,e⟩:=(show ∃t,u=Value.bytes b t from r);cases e;rfl
 |flt b=>obtain⟨t,e⟩:=(show ∃t,u=Value.float b t from r);cases e;rfl
 |ref a=>cases(show u=Value.ref a from r);rfl
 |ty n=>cases(show u=Value.type n from r);rfl
section
variable {P:Program}{w:World}{H H':Hp}{h h':Heap}{a C dx:Addr}{fs fs':List (Str×V)}
theorem ins_get (hok:HOk P w H h)(e:H a=some (.ins C dx fs)):∃mA,ObjM h a dx C mA∧(∀f,RelO (fs.lookup f) (mA f))∧PySem.Within mA (fs.map (·.1))∧fs.length≤1000∧H dx=some (.own a):=by
 obtain⟨d,z,ne,ob,mA,n,r,q⟩:=(show ObjOk P w H h a (.ins C dx fs) from hok a _ e)
 exact⟨mA,⟨ob,n,ne⟩,r,q,z,d⟩
end
structure Cls (K:PySem.W.Frag)(C:Addr):Prop where
 pg:PySem.W.plainGet K C Str.empty=true
 hd:PySem.W.hasDictIn K C=true
 po:PySem.W.plainOver K C=true
 sa:PySem.W.findIn K (.ref C) "__setattr__"=some (some (.builtin "object.__setattr__"))
theorem Cls.get {K:PySem.W.Frag}{C:Addr}(c:Cls K C)(f:Str):PySem.W.plainGet K C f=true:=c.pg
def NoAttr (K:PySem.W.Frag)(C:Addr)(f:Str):Prop:=PySem.W.findIn K (.ref C) f=some none
theorem NoAttr.taker {K:PySem.W.Frag}{C:Addr}{f:Str}(n:NoAttr K C f):PySem.W.takerIn K C f=some none:=by
 unfold PySem.W.takerIn
 rw[show PySem.W.findIn K (.ref C) f=some none from n]
 rfl
structure Meth (K:PySem.W.Frag)(C:Addr)(m:Str)(f:Addr):Prop where
 at_:PySem.W.findIn K (.ref C) m=some (some (.ref f))
 fn:PySem.W.isFn K (.ref f)=true
 kp:PySem.W.keepIn K (.ref f)=true
section
variable {X:Cx}{pins:List (Addr×Obj)}{σ:St}{H:Hp}{s:Shared}{a C dx:Addr}{fs:List (Str×V)}{f:Str}{v:V}{A:Around}{E:Value→Shared→Prop}
theorem getattr_ok {b:Bool}{Q:Value→Shared→Prop}(I:Inv X pins σ H s)(e:H a=some (.ins C dx fs))(c:Cls X.K C)(n:NoAttr X.K C f)(l:fs.lookup f=some v)
  (h:∀u s',Inv X pins σ H s'→RelV v u→Q u s'):wpAny (model X.prog X.w) A (getAttr (.ref a) f b) Q E s:=by
 obtain⟨mA,O,r,_,_,_⟩:=ins_get I.hok e
 obtain⟨u,hu,ru⟩:=RelO.some_of (v:=v) (o:=mA f) (by rw[←l];exact r f)
 exact get_map I.kIn O (c.get f) c.hd n hu (handed_of ru) (h u _ (I.tok _) ru)
theorem getmeth_ok {m:Str}{g:Addr}{pl:Sem Bool}{Q:Value×List Value→Shared→Prop}(I:Inv X pins σ H s)(e:H a=some (.ins C dx fs))(c:Cls X.K C)(k:Meth X.K C m g)(l:fs.lookup m=none)
  (h:Q (.ref g,[.ref a]) s):wpAny (model X.prog X.w) A (getMethod (.ref a) m pl) Q E s:=by
 obtain⟨mA,O,r,_,_,_⟩:=ins_get I.hok e
 have hn:mA m=none:=RelO.none_of (by rw[←l];exact r m)
 exact get_meth I.kIn O (c.get m) k.at_ k.fn hn h
theorem setattr_ok {y:V}{u:Value}{Q:Unit→Shared→Prop}(I:Inv X pins σ H s)(e:H a=some (.ins C dx fs))(c:Cls X.K C)(n:NoAttr X.K C f)(hl:fs.length<1000)(ry:RelV y u)
  (h:∀s',Inv X pins σ (upd H a (.ins C dx (putF f y fs))) s'→Q () s'):wpAny (model X.prog X.w) A (setAttr (.ref a) f u) Q E s:=by
 obtain⟨mA,O,r,wi,_,ho⟩:=ins_get I.hok e
 have hz:(fs.map (·.1)).length≤sizeLine:=by rw[List.length_map,sizeLine_eq];omega
 refine set_map I.kIn O c.sa c.po n.taker c.hd wi hz fun h' O' sb=>h _ ?_
 have hd:∃o,h'.get? dx=some o:=let ⟨o,_,_,e',_⟩:=O'.ns;⟨o,e'⟩
 refine I.write (x:=a) (e:=dx) (by rw[e];exact True.intro) (.inr ho) (fun b q hb z=>(sb.2 b hb).trans z) hd ?_
 refine⟨by rw[upd_ne O.ne];exact ho,?_,O.ne,O'.obj,_,O'.ns,fun g=>?_,fun g hg=>?_⟩
 ·have:=length_putF f y fs;exact Nat.le_trans this hl
 ·show RelO ((putF f y fs).lookup g) (if g=f then some u else mA g)
  rw[lookup_putF]
  by_cases q:g=f
  ·rw[if_pos q,if_pos q];exact ry
  ·rw[if_neg q,if_neg q];exact r g
 ·by_cases q:g=f
  ·rw[q];exact(keys_putF f y fs).1
  ·refine(keys_putF f y fs).2 g (wi g fun z=>hg ?_)
   show(if g=f then some u else mA g)=none
   rw[if_neg q];exact z
theorem Inv.made (I:Inv X pins σ H s):Inv X pins σ (upd (upd H s.heap.objs.size (.own (s.heap.objs.size+1))) (s.heap.objs.size+1) (.ins C s.heap.objs.size []))
  {s with heap:=(s.heap.push PySem.W.emptyDict).push (PySem.W.instObj C s.heap.objs.size)}:=by
 have e1:(s.heap.push PySem.W.emptyDict).get? s.heap.objs.size=some PySem.W.emptyDict:=Heap.get?_push_size s.heap rfl
 have e2:((s.heap.push PySem.W.emptyDict).push (PySem.W.instObj C s.heap.objs.size)).get? (s.heap.objs.size+1)=some (PySem.W.instObj C s.heap.objs.size):=by
  have:=Heap.get?_push_size (s.heap.push PySem.W.emptyDict) (o:=PySem.W.instObj C s.heap.objs.size) rfl
  rwa [Heap.size_push]at this
 have e3:(s.heap.push PySem.W.emptyDict).Ns s.heap.objs.size (fun _=>none):=⟨PySem.W.emptyDict,#[],_,e1,rfl,(fun e he=>absurd he (by simp)),fun _=>rfl⟩
 have I1:=I.laid (a:=s.heap.objs.size) (o:=.own (s.heap.objs.size+1)) (h':=s.heap.push PySem.W.emptyDict) (t':=s.toks) (fun b u q=>Heap.get?_push_of_some _ q) (Nat.le_refl _) ⟨_,e1⟩
 refine I1.laid (a:=s.heap.objs.size+1) (o:=.ins C s.heap.objs.size []) (t':=s.toks) (fun b u q=>Heap.get?_push_of_some _ q) (Nat.le_of_eq (Heap.size_push _ _)) ?_
 have ne:s.heap.objs.size≠s.heap.objs.size+1:=Nat.ne_of_lt (Nat.lt_succ_self _)
 refine⟨by rw[upd_ne ne,upd_same],Nat.zero_le _,ne,e2,fun _=>none,(Heap.Ns1.of_empty e3).at fun o q=>Heap.get?_push_of_some _ q,fun _=>True.intro,fun y hy=>absurd rfl hy⟩
theorem attr_of {prog:Program}{w:World}{env:Env}{e:Expr}{f:Str}{pos:Pos}{s:Shared}{Q:Value→Shared→Prop}(hb:attributeBase e f env (eval e env)=eval e env)
  (h:wpAny (model prog w) A (eval e env) (fun o s₁=>wpAny (model prog w) A (getAttr o f true) Q E s₁) E s):wpAny (model prog w) A (eval (.Attribute e f pos) env) Q E s :=
 Attribute_any_ h (by rw[arm_eval_Attribute,hb])
end
inductive tFld_ (K:PySem.W.Frag)(f:Str)(Q:VK)(x:V)(H1:Hp):Prop where
 |mk (a) (C) (dx) (fs) (v):(x=.ref a)→(H1 a=some (.ins C dx fs))→(Cls K C)→(NoAttr K C f)→(fs.lookup f=some v)→(Q v H1)→tFld_ K f Q x H1
def tFld (K:PySem.W.Frag)(ta:TE)(f:Str):TE:=fun σ H Q=>ta σ H (tFld_ K f Q)
inductive sFld_ (K:PySem.W.Frag)(f:Str)(D:Ends)(σ:St)(y:V)(x:V)(H2:Hp):Prop where
 |mk (a) (C) (dx) (fs):(x=.ref a)→(H2 a=some (.ins C dx fs))→(Cls K C)→(NoAttr K C f)→(fs.length<1000)→(D.nx σ (upd H2 a (.ins C dx (putF f y fs))))→sFld_ K f D σ y x H2
def sFld (K:PySem.W.Frag)(ta tv:TE)(f:Str):TS:=fun D σ H=>tv σ H fun y H1=>ta σ H1 (sFld_ K f D σ y)
section
variable {X:Cx}{o e value:Expr}{f:Str}{pos pos' tpos:Pos}{ta tv:TE}
theorem pe_fld (he:PE X e ta)(hb:attributeBase e f X.env (eval e X.env)=eval e X.env):PE X (.Attribute e f pos) (tFld X.K ta f):=by
 intro pins s σ H Q I h
 refine attr_of hb (thn (he pins s σ H _ I h) fun u s1 ⟨x,H1,I1,rx,a,C,dx,fs,v,ex,ea,c,n,l,q⟩=>?_)
 subst ex
 obtain rfl:u=Value.ref a:=rx
 exact getattr_ok I1 ea c n l fun u' s2 I2 ru=>⟨v,H1,I2,ru,q⟩
theorem ps_fld (ha:PE X o ta)(hv:PE X value tv)(hs:swapsWith value (some (.Attribute o f pos')) pos.line X.env=pure false):PS X (.Assign [.Attribute o f pos'] value pos) (sFld X.K ta tv f):=by
 intro pins s σ H D I h
 refine plainObj_wpAny_Assign_Attribute (thn (hv pins s σ H _ I h) fun u s1 ⟨y,H1,I1,ry,q⟩=>thn (ha pins s1 σ H1 _ I1 q) fun ov s2 ⟨x,H2,I2,rx,a,C,dx,fs,ex,ea,c,n,l,q2⟩=>?_) hs
 subst ex
 obtain rfl:ov=Value.ref a:=rx
 exact setattr_ok I2 ea c n l ry fun s3 I3=>⟨σ,_,I3,q2⟩
end
section
variable {X:Cx}{pins:List (Addr×Obj)}{σ:St}{H:Hp}{s:Shared}{A:Around}{E:Value→Shared→Prop}{Q:Value→Shared→Prop}{c:Value}{b:Bool}
inductive TyOf (K:PySem.W.Frag)(H:Hp):V→Value→Prop where
 |non:TyOf K H .non (.type "NoneType")
 |bl (x:Bool):TyOf K H (.bl x) (.type "bool")
 |int (i:Int):TyOf K H (.int i) (.type "int")
 |str (x:Str):TyOf K H (.str x) (.type "str")
 |flt (x:UInt64):TyOf K H (.flt x) (.type "float")
 |lst {a:Addr} {xs:List V} (e:H a=some (.lst xs)):TyOf K H (.ref a) (.type "list")
 |frz {a:Addr} {o:Obj} {xs:List V} (e:H a=some (.frz o (.lst xs))):TyOf K H (.ref a) (.type "list")
 |tup {a:Addr} {xs:List V} (e:H a=some (.tup xs)):TyOf K H (.ref a) (.type "tuple")
 |dK {a:Addr} {kvs:List (Key×V)} (e:H a=some (.dK kvs)):TyOf K H (.ref a) (.type "dict")
 |dT {a:Addr} {kvs:List (List Key×V)} (e:H a=some (.dT kvs)):TyOf K H (.ref a) (.type "dict")
 |ins {a C dx:Addr} {fs:List (Str×V)} (e:H a=some (.ins C dx fs)) (cl:Cls K C) (ha:PySem.W.findIn K (.ref C) "__class__"=some (some (.builtin "object.__class__")))
   (hn:PySem.W.specialIn K (.builtin "object.__class__") "__get__"=some (some (.builtin "getset_descriptor.__get__"))) (htk:PySem.W.takesIn K (.builtin "object.__class__")=some true)
   (hm:PySem.W.mroIn K C (.type "object")=some true):TyOf K H (.ref a) (.ref C)
theorem isinst_ok {x:V}{u t:Value}(I:Inv X pins σ H s)(rx:RelV x u)(ty:TyOf X.K H x t)(e:PySem.W.kitOne X.K t c=some b)(h:∀tk,Q (.bool b) {s with toks:=tk}):
  wpAny (model X.prog X.w) A (call (.builtin "isinstance") [u,c]) Q E s:=by
 cases ty with
 |non=>cases(show u=Value.none from rx);exact PySem.W.kia_one PySem.W.kitx_none I.kIn True.intro e (fun z=>nomatch z) h
 |bl y=>cases(show u=Value.bool y from rx);exact PySem.W.kia_one PySem.W.kitx_bool I.kIn True.intro e (fun z=>nomatch z) h
 |int i=>obtain⟨t,q⟩:=(show ∃t,u=Value.int i t from rx);cases q;exact PySem.W.kia_one PySem.W.kitx_int I.kIn True.intro e (fun z=>nomatch z) h
 |str y=>obtain⟨t,q⟩:=(show ∃t,u=Value.str y t from rx);cases q;exact PySem.W.kia_one PySem.W.kitx_str I.kIn True.intro e (fun z=>nomatch z) h
 |flt y=>obtain⟨t,q⟩:=(show ∃t,u=Value.float y t from rx);cases q;exact PySem.W.kia_one PySem.W.kitx_float I.kIn True.intro e (fun z=>nomatch z) h
 |@lst a xs ea=>
  cases(show u=Value.ref a from rx)
  obtain⟨_,_,n,_,h1⟩:=(show ObjOk X.prog X.w H s.heap a (.lst xs) from I.hok a _ ea)
  exact PySem.W.kia_one PySem.W.kitx_list I.kIn ⟨_,h1,rfl⟩ e (fun z=>nomatch z) h
 |@frz a ob xs ea=>
  cases(show u=Value.ref a from rx)
  obtain⟨_,_,_,n,_,h1⟩:=(show ObjOk X.prog X.w H s.heap a (.frz ob (.lst xs)) from I.hok a _ ea)
  exact PySem.W.kia_one PySem.W.kitx_list I.kIn ⟨_,h1,rfl⟩ e (fun z=>nomatch z) h
 |@tup a xs ea=>
  cases(show u=Value.ref a from rx)
  obtain⟨_,_,_,p⟩:=(show ObjOk X.prog X.w H s.heap a (.tup xs) from I.hok a _ ea)
  obtain⟨o,h1,h2,_⟩:=p
  exact PySem.W.kia_one PySem.W.kitx_tuple I.kIn ⟨o,h1,h2⟩ e (fun z=>nomatch z) h
 |@dK a kvs ea=>
  cases(show u=Value.ref a from rx)
  obtain⟨_,_,vs,_,p⟩:=(show ObjOk X.prog X.w H s.heap a (.dK kvs) from I.hok a _ ea)
  obtain⟨o,es,ep,h1,h2,_⟩:=p
  exact PySem.W.kia_one PySem.W.kitx_dict I.kIn ⟨o,h1,h2.1⟩ e (fun z=>nomatch z) h
 |@dT a kvs ea=>
  cases(show u=Value.ref a from rx)
  obtain⟨_,_,xs,_,o,es,ep,h1,h2,_⟩:=(show ObjOk X.prog X.w H s.heap a (.dT kvs) from I.hok a _ ea)
  exact PySem.W.kia_one PySem.W.kitx_dict I.kIn ⟨o,h1,h2.1⟩ e (fun z=>nomatch z) h
 |@ins a C dx fs ea cl ha hn htk hm=>
  cases(show u=Value.ref a from rx)
  obtain⟨mA,O,_⟩:=ins_get I.hok ea
  obtain⟨od,J,_⟩:=O.look
  exact PySem.W.kia_one (PySem.W.kitx_own (cl.get _) cl.hd ha hn htk hm) I.kIn J e (fun z=>nomatch z) h
end
structure Room (k:Nat)(A:Around):Prop where
 hd:A.handled=none
 dp:A.depth+3*k+5<recursionLimit
 un:A.units+16*k+200<cLine
theorem Room.mono {j k:Nat}{A:Around}(r:Room k A)(h:j≤k):Room j A:=⟨r.hd,by have:=r.dp;omega,by have:=r.un;omega⟩
theorem Room.deeper {k:Nat}{A:Around}(r:Room (k+1) A)(env:Env):Room k (A.deeper env) :=
 ⟨r.hd,by have:=r.dp;show A.depth+1+3*k+5<_;omega,by have:=r.un;show A.units+3+16*k+200<_;omega⟩
theorem make_depth {A:Around}{C:Addr}{us:List Value}{kw:List (Str×Value)}:(A.under (.builtin "type.__call__" ⟨.ref C::us,kw⟩)).depth=A.depth+1:=by
 first|rfl|simp[Around.under,Code.weight,Code.isCreation,Code.isGuard,Code.isCaller,Code.frames,Code.isFrame,guardIds]
theorem make_units {A:Around}{C:Addr}{us:List Value}{kw:List (Str×Value)}:(A.under (.builtin "type.__call__" ⟨.ref C::us,kw⟩)).units=A.units+1:=by
 first|rfl|simp[Around.under,Code.cUnits,Code.frames,Code.isFrame]
theorem Room.make {k:Nat}{A:Around}(r:Room (k+1) A)(C:Addr)(us:List Value)(kw:List (Str×Value)):Room k (A.under (.builtin "type.__call__" ⟨.ref C::us,kw⟩)) :=
 ⟨r.hd,by have:=r.dp;rw[make_depth];omega,by have:=r.un;rw[make_units];omega⟩
theorem Room.depth {k:Nat}{A:Around}(r:Room k A):A.depth<recursionLimit:=by have:=r.dp;omega
theorem Room.units {k:Nat}{A:Around}(r:Room k A):A.units+64<cLine:=by have:=r.un;omega
def tNil:TA:=fun _ H Q=>Q [] H
def tCons (ta:TE)(tr:TA):TA:=fun σ H Q=>ta σ H fun x H1=>tr σ H1 fun xs H2=>Q (x::xs) H2
section
variable {X:Cx}{e:Expr}{es:List Expr}{te:TE}{t:TA}{pos:Pos}
theorem pa_nil:PA X [] tNil:=fun _ _ _ _ H Q I h=>Calls.spliced_nil ⟨[],H,I, .nil,h⟩
theorem pa_cons (ha:PE X e te)(hr:PA X es t)(hs:starEach (e::es) X.env=(false,eval e X.env)::starEach es X.env:=by rfl):PA X (e::es) (tCons te t):=by
 intro pos pins s σ H Q I h
 rw[hs]
 show wpAny _ _ (spliced ((false,eval e X.env)::backTo pos (starEach es X.env))) _ _ s
 refine Calls.spliced_cons (thn (ha pins s σ H _ I h) fun u s1 ⟨x,H1,I1,r1,q1⟩=>?_)
 exact thn (hr pos pins s1 σ H1 _ I1 q1) fun us s2 ⟨xs,H2,I2,r2,q2⟩=>⟨x::xs,H2,I2, .cons r1 r2,q2⟩
inductive tTup_ (Q:VK)(xs:List V)(H1:Hp):Prop where
 |mk:(xs.length≤sizeLine)→(∀p,H1 p=none→Q (.ref p) (upd H1 p (.tup xs)))→tTup_ Q xs H1
def tTup (t:TA):TE:=fun σ H Q=>t σ H (tTup_ Q)
inductive tLst_ (Q:VK)(xs:List V)(H1:Hp):Prop where
 |mk:(xs.length≤sizeLine)→(∀p,H1 p=none→Q (.ref p) (upd H1 p (.lst xs)))→tLst_ Q xs H1
def tLst (t:TA):TE:=fun σ H Q=>t σ H (tLst_ Q)
theorem pe_tup {x1}(h:PA X es t):PE X (.Tuple es x1 pos) (tTup t):=by
 intro pins s σ H Q I hq
 refine wpAny_Tuple_spliced (thn (h pos pins s σ H _ I hq) fun us s1 ⟨xs,H1,I1,r,z,q⟩=>⟨by rw[←r.length];exact z,?_⟩)
 have hf:H1 s1.heap.objs.size=none:=I1.hok.fresh (Nat.le_refl _)
 refine⟨.ref s1.heap.objs.size,upd H1 s1.heap.objs.size (.tup xs),I1.laid (t':=s1.toks) (fun b u e=>Heap.get?_push_of_some _ e) (Nat.le_refl _) ?_,rfl,q _ hf⟩
 exact⟨z,us,r,⟨_,Heap.get?_push_size _ rfl,rfl,_,rfl⟩⟩
theorem pe_lst (h:PA X es t):PE X (.List es pos) (tLst t):=by
 intro pins s σ H Q I hq
 refine wpAny_List_spliced (thn (h pos pins s σ H _ I hq) fun us s1 ⟨xs,H1,I1,r,z,q⟩=>⟨by rw[←r.length];exact z,?_⟩)
 have hf:H1 s1.heap.objs.size=none:=I1.hok.fresh (Nat.le_refl _)
 refine⟨.ref s1.heap.objs.size,upd H1 s1.heap.objs.size (.lst xs),I1.laid (t':=s1.toks) (fun b u e=>Heap.get?_push_of_some _ e) (Nat.le_refl _) ?_,rfl,q _ hf⟩
 exact⟨z,us,0,r,Heap.get?_push_size _ rfl⟩
end
abbrev Sp:=List V→Hp→VK→XK→Prop
abbrev CXT:=List Env→Hp→Shared→XK→Value→Shared→Prop
structure Env0 (P:Program)(w:World)(K:PySem.W.Frag)(mg:Str→Option Value)(base:Heap)(A:Around)(outer:List Env)(s:Shared)(H:Hp):Prop where
 frames:A.frames=some outer
 mod:Mod K mg base
 bs:∀b o,base.get? b=some o→s.heap.get? b=some o∧H b=none
 bsz:base.objs.size≤s.heap.objs.size
 funs:s.heap.FunFrames base outer
 frf:∀b∈frs outer,H b=none
 hok:HOk P w H s.heap
 bare:AllBare s.gens
def CE (outer:List Env)(P:Program)(w:World)(H:Hp)(s:Shared)(Q:VK)(u:Value)(s':Shared):Prop :=
 ∃v H',s'.os=s.os∧AllBare s'.gens∧Un (frs outer) [] H H' s.heap s'.heap∧HOk P w H' s'.heap∧RelV v u∧Q v H'
def CR (CX:CXT)(outer:List Env)(P:Program)(w:World)(H:Hp)(s:Shared)(Q:VK)(E:XK)(r:Result)(s':Shared):Prop :=
 match r with
 |.ok (.ret u)=>CE outer P w H s Q u s'
 |.ok _=>False
 |.error e=>CX outer H s E e s'
structure FnOk (P:Program)(w:World)(K:PySem.W.Frag)(mg:Str→Option Value)(base:Heap)(CX:CXT)(k:Nat)(f:Addr)(fd:FuncData)(ps:List Str)(sp:Sp):Prop where
 len:∀vs H Q E,sp vs H Q E→vs.length=ps.length
 run:∀(A:Around) (outer:List Env) (s:Shared) (H:Hp) (args:Args) (us:List Value) (vs:List V) (Q:VK) (E:XK),Room k A→Env0 P w K mg base A outer s H→BindsTo s fd args (ps.zip us)→Vals vs us→sp vs H Q E→
  codeAny (model P w) A (.call (.ref f) args) (CR CX outer P w H s Q E) s
theorem FnOk.mono {P:Program}{w:World}{K:PySem.W.Frag}{mg:Str→Option Value}{base:Heap}{CX:CXT}{j k:Nat}{f:Addr}{fd:FuncData}{ps:List Str}{sp:Sp}(F:FnOk P w K mg base CX j f fd ps sp)(h:j≤k):
  FnOk P w K mg base CX k f fd ps sp:=⟨F.len,fun A outer s H args us vs Q E hr=>F.run A outer s H args us vs Q E (hr.mono h)⟩
theorem Env0.make {P:Program}{w:World}{K:PySem.W.Frag}{mg:Str→Option Value}{base:Heap}{A:Around}{outer:List Env}{s:Shared}{H:Hp}(e:Env0 P w K mg base A outer s H)(C:Addr)(us:List Value)(kw:List (Str×Value)):
  Env0 P w K mg base (A.under (.builtin "type.__call__" ⟨.ref C::us,kw⟩)) outer s H:=⟨by first|exact e.frames|(simpa[Around.under,Code.envs,Code.isFrame,pushEnvs] using e.frames),e.mod,e.bs,e.bsz,e.funs,e.frf,e.hok,e.bare⟩
section
variable {X:Cx}{pins:List (Addr×Obj)}{σ:St}{H:Hp}{s s':Shared}
theorem Inv.env0 (I:Inv X pins σ H s):Env0 X.prog X.w X.K X.mg X.base X.A X.stack s H :=
 ⟨I.ok.frames,I.ok.mod,I.bs,Nat.le_trans I.ok.bsz I.sz,I.stack,I.stkFree,I.hok,I.bare⟩
theorem Inv.after {Q:VK}{u:Value}(I:Inv X pins σ H s)(h:CE X.stack X.prog X.w H s Q u s'):EP X pins σ Q u s':=by
 obtain⟨v,H',os,bare,un,hok,r,q⟩:=h
 obtain⟨hh,g,d,t,os'⟩:=s'
 obtain rfl:os'=s.os:=os
 exact⟨v,H',I.call (h':=hh) (g':=g) (d':=d) (t':=t) (ch:=[]) un hok bare (fun b z=>absurd z (by simp)),r,q⟩
end
def tCall (sp:Sp)(dvs:List V)(E:XK)(t:TA):TE:=fun σ H Q=>t σ H fun vs H1=>sp (vs++dvs) H1 Q E
inductive tMeth_ (C:Addr)(m:Str)(sp:Sp)(dvs:List V)(E:XK)(t:TA)(σ:St)(Q:VK)(x:V)(H1:Hp):Prop where
 |mk (a) (dx) (fs):(x=.ref a)→(H1 a=some (.ins C dx fs))→(fs.lookup m=none)→(t σ H1 fun vs H2=>sp (x::(vs++dvs)) H2 Q E)→tMeth_ C m sp dvs E t σ Q x H1
def tMeth (C:Addr)(m:Str)(sp:Sp)(dvs:List V)(E:XK)(ta:TE)(t:TA):TE:=fun σ H Q=>ta σ H (tMeth_ C m sp dvs E t σ Q)
def tMake (C:Addr)(sp:Sp)(dvs:List V)(E:XK)(t:TA):TE:=fun σ H Q=>t σ H fun vs H1=>∀x dx,H1 x=none→H1 dx=none→dx≠x→
 sp (.ref x::(vs++dvs)) (upd (upd H1 dx (.own x)) x (.ins C dx [])) (fun v H2=>v=.non∧Q (.ref x) H2) E
def Binds (K:PySem.W.Frag)(fd:FuncData)(ps:List Str)(ds:List Value):Prop :=
 ∀(s:Shared) (us:List Value),K.In s.heap→(us++ds).length=ps.length→BindsTo s fd ⟨us,[]⟩ (ps.zip (us++ds))
theorem Binds.all {K:PySem.W.Frag}{fd:FuncData}{ps:List Str}(h:∀us:List Value,us.length=ps.length→bindArgs fd ⟨us,[]⟩=pure (ps.zip us)):Binds K fd ps []:=fun s us _ hl=>by
 rw[List.append_nil]at hl ⊢
 exact .of_eq (h us hl)
def Passes (CX:CXT)(X:Cx)(E:XK):Prop:=∀(pins:List (Addr×Obj)) (σ:St) (H:Hp) (s:Shared) (e:Value) (s':Shared),Inv X pins σ H s→CX X.stack H s E e s'→X.xe e s'
section
variable {X:Cx}{CX:CXT}{k:Nat}{f C:Addr}{fd:FuncData}{ps:List Str}{sp:Sp}{dvs:List V}{ds:List Value}{E:XK}{x m:Str}{p pos apos:Pos}{e o:Expr}{es:List Expr}{ta:TE}{t:TA}
theorem run_fn {pins:List (Addr×Obj)}{σ:St}{H:Hp}{s:Shared}{Q:VK}{us:List Value}{vs:List V}(F:FnOk X.prog X.w X.K X.mg X.base CX k f fd ps sp)(hr:Room k X.A)(hb:Binds X.K fd ps ds)(hd:Vals dvs ds)(hx:Passes CX X E)
  (I:Inv X pins σ H s) (r:Vals vs us) (h:sp (vs++dvs) H Q E):wpAny (model X.prog X.w) X.A (call (.ref f) us) (EP X pins σ Q) X.xe s:=by
 have r2:Vals (vs++dvs) (us++ds):=r.append hd
 have hl:(us++ds).length=ps.length:=by rw[←r2.length];exact F.len _ _ _ _ h
 refine wpAny_call (codeAny_mono (F.run X.A X.stack s H ⟨us,[]⟩ (us++ds) (vs++dvs) Q E hr I.env0 (hb s us I.kIn hl) r2 h) fun r s' hq=>?_)
 cases r with
 |error e=>exact hx pins σ H s e s' I hq
 |ok fl=>
  cases fl with
  |ret u=>exact I.after hq
  |next=>exact False.elim hq
  |brk=>exact False.elim hq
  |cont=>exact False.elim hq
theorem pe_call (F:FnOk X.prog X.w X.K X.mg X.base CX k f fd ps sp)(hr:Room k X.A)(hg:Gl X x)(hm:X.mg x=some (.ref f))(hk:PySem.W.keepIn X.K (.ref f)=true)(hb:Binds X.K fd ps ds)(hd:Vals dvs ds)(hx:Passes CX X E)
  (ha:PA X (e::es) t) (hdb:(x==("__debug__":Str))=false:=by decide) (he:starEach (e::es) X.env=(false,eval e X.env)::starEach es X.env:=by rfl) (hpl:(backTo pos (starEach es X.env)).any (·.1)=false:=by rfl):
  PE X (.Call (.Name x p) (e::es) [] pos) (tCall sp dvs E t):=by
 intro pins s σ H Q I h
 refine wpAny_Call_Name_kw (ld_glob I hg hm ?_ hdb)
 refine PySem.W.callWith_K (h₀:=X.base) I.ok.mod.kin hk (thn (ha pos pins s σ H _ I h) fun us s1 ⟨vs,H1,I1,r,q⟩=>⟨I1.kIn,?_⟩) he hpl
 exact run_fn F hr hb hd hx I1 r q
theorem pe_meth {pl:Sem Bool}(he:PE X o ta)(c:Cls X.K C)(hm:Meth X.K C m f)(F:FnOk X.prog X.w X.K X.mg X.base CX k f fd ps sp)(hr:Room k X.A)(hb:Binds X.K fd ps ds)(hd:Vals dvs ds)(hx:Passes CX X E)(ha:PA X (e::es) t)
  (hst:starEach (e::es) X.env=(false,eval e X.env)::starEach es X.env:=by rfl) (hpl:(backTo pos (starEach es X.env)).any (·.1)=false:=by rfl)
  (ht:eval (.Call (.Attribute o m apos) (e::es) [] pos) X.env=(do
   let ov ←eval o X.env
   standAt apos.atName
   let (f,first) ←holding [ov] (getMethod ov m pl)
   callWith pos f first (backTo pos (starEach (e::es) X.env)) (backToKw pos (keywordEach [] X.env))):=by rfl):
  PE X (.Call (.Attribute o m apos) (e::es) [] pos) (tMeth C m sp dvs E ta t):=by
 intro pins s σ H Q I h
 refine PySem.W.methodCall_KW (pl:=pl) (thn (he pins s σ H _ I h) fun u s1 ⟨x,H1,I1,rx,a,dx,fs,ex,ea,l,q⟩=>?_) ht
 subst ex
 obtain rfl:u=Value.ref a:=rx
 refine getmeth_ok I1 ea c hm l ?_
 refine PySem.W.callWith_K (first:=[.ref a]) (h₀:=X.base) I.ok.mod.kin hm.kp (thn (ha pos pins s1 σ H1 _ I1 q) fun us s2 ⟨vs,H2,I2,r,q2⟩=>⟨I2.kIn,?_⟩) hst hpl
 exact run_fn (us:=.ref a::us) (vs:=.ref a::vs) F hr hb hd hx I2 (.cons rfl r) q2
structure Mk (K:PySem.W.Frag)(C f:Addr):Prop where
 makes:PySem.W.makesIn K C=true
 init:PySem.W.findIn K (.ref C) "__init__"=some (some (.ref f))
 fn:PySem.W.isFn K (.ref f)=true
 kp:PySem.W.keepIn K (.ref C)=true
theorem run_make {pins:List (Addr×Obj)}{σ:St}{H:Hp}{s:Shared}{Q:VK}{us:List Value}{vs:List V}(M:Mk X.K C f)(F:FnOk X.prog X.w X.K X.mg X.base CX k f fd ps sp)(hr:Room (k+1) X.A)(hb:Binds X.K fd ps ds)(hd:Vals dvs ds)
  (hx:Passes CX X E) (I:Inv X pins σ H s) (r:Vals vs us)
  (h:∀x dx,H x=none→H dx=none→dx≠x→sp (.ref x::(vs++dvs)) (upd (upd H dx (.own x)) x (.ins C dx [])) (fun v H2=>v=.non∧Q (.ref x) H2) E):
  wpAny (model X.prog X.w) X.A (call (.ref C) us) (EP X pins σ Q) X.xe s:=by
 have hq:=h (s.heap.objs.size+1) s.heap.objs.size (I.hok.fresh (Nat.le_succ _)) (I.hok.fresh (Nat.le_refl _)) (Nat.ne_of_lt (Nat.lt_succ_self _))
 have I2:=Inv.made (C:=C) I
 have r2:Vals (V.ref (s.heap.objs.size+1)::(vs++dvs)) (Value.ref (s.heap.objs.size+1)::(us++ds)):=.cons rfl (r.append hd)
 have hl:(Value.ref (s.heap.objs.size+1)::us++ds).length=ps.length:=by
  have e:=r2.length
  rw[F.len _ _ _ _ hq]at e
  exact e.symm
 refine wpAny_call (make_map (f:=f) I.kIn M.makes M.init (beq_iff_eq.mp M.fn) (codeAny_mono (F.run _ X.stack _ _ ⟨Value.ref (s.heap.objs.size+1)::us,[]⟩ (Value.ref (s.heap.objs.size+1)::(us++ds)) _ _ E (hr.make C us [])
  (I2.env0.make C us []) (hb _ (Value.ref (s.heap.objs.size+1)::us) I2.kIn hl) r2 hq) fun r s' hq'=>?_))
 cases r with
 |error e=>exact hx pins σ _ _ e s' I2 hq'
 |ok fl=>
  cases fl with
  |ret u=>
   obtain⟨v,H',I3,rv,ev,q3⟩:=I2.after hq'
   subst ev
   exact⟨rv,⟨V.ref (s.heap.objs.size+1),H',I3,rfl,q3⟩⟩
  |next=>exact False.elim hq'
  |brk=>exact False.elim hq'
  |cont=>exact False.elim hq'
theorem pe_make0 (M:Mk X.K C f)(F:FnOk X.prog X.w X.K X.mg X.base CX k f fd ps sp)(hr:Room (k+1) X.A)(hg:Gl X x)(hm:X.mg x=some (.ref C))(hb:Binds X.K fd ps ds)(hd:Vals dvs ds)(hx:Passes CX X E)
  (hdb:(x==("__debug__":Str))=false:=by decide):PE X (.Call (.Name x p) [] [] pos) (tMake C sp dvs E tNil):=by
 intro pins s σ H Q I h
 refine wpAny_Call_Name_kw (ld_glob I hg hm ?_ hdb)
 exact PySem.W.callWith_K0 I.kIn M.kp (run_make (us:=[]) M F hr hb hd hx I .nil h)
end
section
variable {X:Cx}{CX:CXT}{k:Nat}{f C:Addr}{fd:FuncData}{ps ks:List Str}{sp:Sp}{E:XK}{x m:Str}{p pos apos kpos:Pos}{e o:Expr}{es:List Expr}{kws:List Keyword}{te ta:TE}{t tk:TA}{nm:Option Str}
variable {g:List Value→List Value→List Value}{gV:List V→List V→List V}
end
structure FnScope (N P:List Str)(sc:Scope):Prop where
 kind:sc.kind=.function
 co:sc.isCoroutine=false
 gen:sc.isGenerator=false
 nd:N.Nodup
 pre:N.take P.length=P
 par:∀x∈P,sc.names.lookup x=some .local∨sc.names.lookup x=some .cell
 nofree:∀y∈sc.names,y.2≠.free
theorem bindL_out {kindOf:Str→Option NameKind}{x:Str}:∀{binds:List (Str×Value)} {m:Str→Option Value},(∀v,(x,v)∉binds)→bindL kindOf binds m x=m x
 |[],_,_=>rfl
 |(n,v)::r,m,h=>by
  unfold bindL
  rw[bindL_out fun w hw=>h w (List.mem_cons_of_mem _ hw)]
  split
  ·have:x≠n:=by rintro rfl;exact h v List.mem_cons_self
   simp[this]
  ·rfl
theorem bindC_out {kindOf:Str→Option NameKind}{x:Str}:∀{binds:List (Str×Value)} {m:Str→Option Value},(∀v,(x,v)∉binds)→bindC kindOf binds m x=m x
 |[],_,_=>rfl
 |(n,v)::r,m,h=>by
  unfold bindC
  rw[bindC_out fun w hw=>h w (List.mem_cons_of_mem _ hw)]
  split
  ·rfl
  ·have:x≠n:=by rintro rfl;exact h v List.mem_cons_self
   simp[this]
theorem bindL_get {kindOf:Str→Option NameKind}{x:Str}{v:Value}{P:List Str}{vs:List Value}{i:Nat}{m:Str→Option Value}(nd:P.Nodup)(h1:P[i]?=some x)(h2:vs[i]?=some v)(hk:kindOf x=some .local):
  bindL kindOf (P.zip vs) m x=some v:=by
 induction P generalizing vs i m with
 |nil=>simp at h1
 |cons p P ih=>cases vs with
  |nil=>simp at h2
  |cons w vs=>
   show bindL kindOf ((p,w)::P.zip vs) m x=_
   unfold bindL
   cases i with
   |zero=>
    cases h1
    cases h2
    rw[bindL_out fun v hv=>(List.nodup_cons.mp nd).1 (List.of_mem_zip hv).1,if_pos hk]
    simp
   |succ i=>exact ih (i:=i) (List.nodup_cons.mp nd).2 h1 h2
theorem bindC_get {kindOf:Str→Option NameKind}{x:Str}{v:Value}{P:List Str}{vs:List Value}{i:Nat}{m:Str→Option Value}(nd:P.Nodup)(h1:P[i]?=some x)(h2:vs[i]?=some v)(hk:kindOf x≠some .local):
  bindC kindOf (P.zip vs) m x=some v:=by
 induction P generalizing vs i m with
 |nil=>simp at h1
 |cons p P ih=>cases vs with
  |nil=>simp at h2
  |cons w vs=>
   show bindC kindOf ((p,w)::P.zip vs) m x=_
   unfold bindC
   cases i with
   |zero=>
    cases h1
    cases h2
    rw[bindC_out fun v hv=>(List.nodup_cons.mp nd).1 (List.of_mem_zip hv).1,if_neg hk]
    simp
   |succ i=>exact ih (i:=i) (List.nodup_cons.mp nd).2 h1 h2
def start (N:List Str)(vs:List V):St:=vs.map some++List.replicate (N.length-vs.length) none
def cxOf (CX:CXT)(P:Program)(w:World)(K:PySem.W.Frag)(mg:Str→Option Value)(base:Heap)(N:List Str)(qual:Str)(scope:Scope)(f:Addr)(cd:Value)(A:Around)(outer:List Env)(s:Shared)(H:Hp)(E:XK):Cx where
 prog:=P
 w:=w
 K:=K
 mg:=mg
 base:=base
 A:=A.deeper (envOfC qual scope s.heap.objs.size f cd)
 N:=N
 s₀:=s
 H₀:=H
 env:=envOfC qual scope s.heap.objs.size f cd
 outer:=outer
 stack:=envOfC qual scope s.heap.objs.size f cd::outer
 ex:=[]
 calm:=true
 fn:=fun _=>true
 pn:=[]
 xe:=fun e s'=>wpAny (model P w) (A.deeper (envOfC qual scope s.heap.objs.size f cd)) (leaving (envOfC qual scope s.heap.objs.size f cd) e) (fun _ s''=>CX outer H s E e s'') (fun e' s''=>CX outer H s E e' s'') s'
theorem cell_has {sc:Scope}{n:Nat}{x:Str}(h:sc.names.lookup x=some .cell):∃c,(cellsFrom n sc.names []).lookup x=some c:=by
 have q:=PySem.W.cellsFrom_some sc.names n [] (.inl h)
 exact Option.isSome_iff_exists.mp q
theorem inv_start {CX:CXT}{P:Program}{w:World}{K:PySem.W.Frag}{mg:Str→Option Value}{base:Heap}{N ps:List Str}{qual:Str}{scope:Scope}{f:Addr}{cd:Value}{A:Around}{outer:List Env}{s s1:Shared}{H:Hp}{E:XK}{us:List Value}{vs:List V}
  (S:FnScope N ps scope) (hd:A.handled=none) (e0:Env0 P w K mg base A outer s H) (hl:vs.length=ps.length) (r:Vals vs us)
  (x:InCallC s s.heap.objs.size (bindL (envOfC qual scope s.heap.objs.size f cd).kindOf (ps.zip us) fun _=>none) (cellsFrom (s.heap.objs.size+1) scope.names []) (bindC (envOfC qual scope s.heap.objs.size f cd).kindOf (ps.zip us) fun _=>none) s1):
  Inv (cxOf CX P w K mg base N qual scope f cd A outer s H E) [] (start N vs) H s1:=by
 have hpl:ps.length≤N.length:=by have:=congrArg List.length S.pre;rw[List.length_take]at this;omega
 obtain⟨h1,tk,rfl,hk⟩:=x.done
 have noA:∀b:Addr,b∉(cxOf CX P w K mg base N qual scope f cd A outer s H E).ex:=fun b z=>absurd (show b∈([]:List Addr) from z) (by simp)
 refine⟨⟨e0.mod,S.kind,rfl,rfl,Nat.le_refl _,fun y z c h1 h2=>?_,fun y hy=>?_,fun y c _ h=>?_,fun _=>hd,Around.frames_deeper e0.frames, .inr ⟨rfl,rfl⟩,fun b z=>absurd z (noA b),e0.bs,e0.bsz,fun b _ _=>noA b,fun b z=>absurd z (noA b),e0.funs,e0.frf⟩,
  rfl,e0.bare,Un.kept hk,⟨_,x.toInCall.ns,fun i y v h1 h2 h3=>?_⟩,fun y c h=>⟨_,x.cell y c h⟩,e0.hok.fresh (Nat.le_refl _),fun y c h=>?_,fun p hp=>absurd (show p∈([]:List (Addr×Obj)) from hp) (by simp),e0.hok.kept hk,?_⟩
 ·exact name_of_addr x.apart (PySem.mem_of_lookup h1) (PySem.mem_of_lookup h2)
 ·have hy:scope.names.lookup y=some .cell∨scope.names.lookup y=some .free:=hy
  rcases hy with hy|hy
  ·exact cell_has hy
  ·exact absurd rfl (S.nofree _ (PySem.mem_of_lookup hy))
 ·exact Nat.le_of_lt (x.above y c (PySem.mem_of_lookup h))
 ·have hi:i<vs.length:=by
   unfold start at h2
   by_cases hi:i<vs.length
   ·exact hi
   ·rw[List.getElem?_append_right (by simpa using hi)]at h2
    rw[List.getElem?_replicate]at h2
    split at h2<;>cases h2
  have ha:vs[i]?=some v:=by
   unfold start at h2
   rw[List.getElem?_append_left (by simpa using hi),List.getElem?_map]at h2
   cases e:vs[i]? with
   |none=>rw[e]at h2;cases h2
   |some a=>rw[e]at h2;cases h2;rfl
  obtain⟨u,hu,rv⟩:=r.get ha
  have hp:ps[i]?=some y:=by
   rw[←S.pre,List.getElem?_take_of_lt (by exact Nat.lt_of_lt_of_eq hi hl)];exact h1
  have ndP:ps.Nodup:=by rw[←S.pre];exact S.nd.sublist (List.take_sublist _ _)
  refine⟨u,rv,?_⟩
  rcases S.par y (List.mem_of_getElem? hp) with k|k
  ·exact .inl ⟨k,bindL_get ndP hp hu k⟩
  ·obtain⟨c,e⟩:=cell_has (n:=s.heap.objs.size+1) k
   refine .inr ⟨.inl k,c,e,?_⟩
   have q:=x.cell y c e
   rw[bindC_get ndP hp hu (by show scope.names.lookup y≠_;rw[k];decide)]at q
   exact q
 ·exact e0.hok.fresh (Nat.le_of_lt (x.above y c (PySem.mem_of_lookup h)))
 ·unfold start
  show _=N.length
  rw[List.length_append,List.length_map,List.length_replicate]
  omega
theorem fn_of {CX:CXT}{P:Program}{w:World}{K:PySem.W.Frag}{mg:Str→Option Value}{base:Heap}{k:Nat}{f:Addr}{name qual:Str}{params:Arguments}{body:List Stmt}{scope:Scope}{dV kV doc pm cdv ct oc:Value}{an od:Option Addr}
  {osl:Array (Option Value)} {N ps:List Str} {sp:Sp} (lk:K.lookup f=some ⟨oc,od, .func (PySem.W.fnOf name qual params body scope dV kV doc pm an cdv ct),osl⟩) (hcd:PySem.W.codeIn K cdv qual=true) (S:FnScope N ps scope)
  (len:∀vs H Q E,sp vs H Q E→vs.length=ps.length)
  (hbody:∀(A:Around) (outer:List Env) (s:Shared) (H:Hp) (vs:List V) (Q:VK) (E:XK),Room k (A.deeper (envOfC qual scope s.heap.objs.size f cdv))→sp vs H Q E→
   ∃t,PSs (cxOf CX P w K mg base N qual scope f cdv A outer s H E) body t∧t (Ends.of Q) (start N vs) H):
  FnOk P w K mg base CX (k+1) f (PySem.W.fnOf name qual params body scope dV kV doc pm an cdv ct) ps sp:=by
 refine⟨len,fun A outer s H args us vs Q E hr e0 hb r hsp=>?_⟩
 have hl:=len _ _ _ _ hsp
 have KX:K.In s.heap:=e0.mod.kin.keeps fun b o e=>(e0.bs b o e).1
 have lim:s.heap.NoLimit:=e0.mod.nolimit.keeps fun b o e=>(e0.bs b o e).1
 have hkind:∀y∈ps.zip us,scope.names.lookup y.1=some .local∨(scope.names.lookup y.1=some .cell∧((cellsFrom (s.heap.objs.size+1) scope.names []).lookup y.1).isSome=true):=fun⟨n,v⟩ hy=>by
  rcases S.par n (List.of_mem_zip hy).1 with q|q
  ·exact .inl q
  ·exact .inr ⟨q,PySem.W.cellsFrom_some _ _ _ (.inl q)⟩
 refine codeAny_call_function hr.depth (KX _ _ lk) rfl S.co S.gen rfl (PySem.W.codeRec_of KX hcd) (hb _ _ _ _ ?_)
 refine wpAny_newFunctionEnv_cells S.kind hkind fun env he s1 x=>?_
 subst he
 refine⟨lim.keeps x.toInCall.keep,codeAny_func ?_⟩
 obtain⟨t,ht,hq⟩:=hbody A outer s H vs Q E (hr.deeper _) hsp
 have I:Inv (cxOf CX P w K mg base N qual scope f cdv A outer s H E) [] (start N vs) H s1:=inv_start S hr.hd e0 hl r x
 refine wpAny_mono (ht [] s1 (start N vs) H _ I hq) (fun fl s' hs=>?_) fun e s' hs=>hs
 have fin:∀{σ':St} {H':Hp} {v:V} {u:Value},Inv (cxOf CX P w K mg base N qual scope f cdv A outer s H E) [] σ' H' s'→RelV v u→Q v H'→CE outer P w H s Q u s' :=
  fun{σ' H' v u} J rv q=>⟨v,H',J.os,J.bare,J.base,J.hok,rv,q⟩
 cases fl with
 |ret u=>
  obtain⟨v,σ',H',J,rv,q⟩:=hs
  exact fin J rv q
 |next=>
  obtain⟨σ',H',J,q⟩:=hs
  exact fin (v:=V.non) (u:=Value.none) J rfl q
 |brk=>
  obtain⟨_,_,_,q⟩:=hs
  exact False.elim q
 |cont=>
  obtain⟨_,_,_,q⟩:=hs
  exact False.elim q
section
variable {X:Cx}{x:Str}{p pos:Pos}{e:Expr}{es:List Expr}{t:TA}{id T:String}{r:List V→Hp→VK→Prop}
def tCB (r:List V→Hp→VK→Prop)(t:TA):TE:=fun σ H Q=>t σ H fun vs H1=>r vs H1 Q
theorem pe_callB (hc:CallR X (.builtin id) r)(hg:Gl X x)(hm:X.mg x=none)(hv:bootBuiltins x=some (.builtin id))(ha:PA X (e::es) t)(hn:x≠"__name__":=by decide)(hdb:(x==("__debug__":Str))=false:=by decide)
  (he:starEach (e::es) X.env=(false,eval e X.env)::starEach es X.env:=by rfl) (hpl:(backTo pos (starEach es X.env)).any (·.1)=false:=by rfl):PE X (.Call (.Name x p) (e::es) [] pos) (tCB r t):=by
 intro pins s σ H Q I h
 refine wpAny_Call_Name_kw (ld_blt I hg hm hv ?_ hn hdb)
 exact PyProof.Rows.callWith_builtin1 (thn (ha pos pins s σ H _ I h) fun us s1 ⟨vs,H1,I1,r1,q1⟩=>hc pins s1 σ H1 vs us Q I1 r1 q1) he hpl
theorem pe_callTy (hc:CallR X (.type T) r)(hg:Gl X x)(hm:X.mg x=none)(hv:bootBuiltins x=some (.type T))(ha:PA X (e::es) t)(hn:x≠"__name__":=by decide)(hdb:(x==("__debug__":Str))=false:=by decide)
  (he:starEach (e::es) X.env=(false,eval e X.env)::starEach es X.env:=by rfl) (hpl:(backTo pos (starEach es X.env)).any (·.1)=false:=by rfl):PE X (.Call (.Name x p) (e::es) [] pos) (tCB r t):=by
 intro pins s σ H Q I h
 refine wpAny_Call_Name_kw (ld_blt I hg hm hv ?_ hn hdb)
 exact PyProof.Rows.callWith_type1 (thn (ha pos pins s σ H _ I h) fun us s1 ⟨vs,H1,I1,r1,q1⟩=>hc pins s1 σ H1 vs us Q I1 r1 q1) he hpl
end
end L2
namespace HT
open PySem PyProof.Rows
section
open PySem.SeqAt
open PySem.AutoSeq1 (wpAny_loadPart')
open PySem.MeetsSeq PySem.MeetsSeq2 PySem.MeetsSeq3
end
section
variable {prog:Program}{w:World}{A:Around}{E:Value→Shared→Prop}{s:Shared}
theorem cat_tup {t b:Addr}{vs ws:List Value}{Q:Value→Shared→Prop}(ht:IsTup s.heap t vs.toArray)(hb:IsTup s.heap b ws.toArray)(hv:vs≠[])
  (h1:ws=[]→Q (.ref t) s) (h2:ws≠[]→Q (.ref s.heap.objs.size) {s with heap:=s.heap.push {cls:=.type "tuple",data:=.seq (vs++ws).toArray}})
  (hsz:vs.length+ws.length≤sizeLine):wpAny (model prog w) A (binaryOp .Add (.ref t) (.ref b)) Q E s:=by
 obtain⟨⟨cls,dd,data,sl⟩,ho,hc,n,hd⟩:=id ht
 obtain⟨⟨cls2,dd2,data2,sl2⟩,ho2,hc2,n2,hd2⟩:=id hb
 simp only at hc hd hc2 hd2
 subst hc hd hc2 hd2
 have e:vs.toArray++ws.toArray=(vs++ws).toArray:=by simp
 by_cases hw:ws=[]
 ·exact concat_meets ⟨_,ho,rfl⟩ ⟨_,ho2,rfl⟩ noFill_tuple_add seq_tuple_add PySem.F.slot_tuple_add PySem.F.entry_tuple_add (PySem.F.args_tuple_add_2 _ _)
   (tuple_addW1 t b vs.toArray ws.toArray n n2 dd dd2 sl sl2 (by simpa using hv) (by simp[hw])) ⟨ho,ho2,h1 hw⟩
 ·refine concat_meets ⟨_,ho,rfl⟩ ⟨_,ho2,rfl⟩ noFill_tuple_add seq_tuple_add PySem.F.slot_tuple_add PySem.F.entry_tuple_add (PySem.F.args_tuple_add_2 _ _)
   (tuple_addW2 t b vs.toArray ws.toArray n n2 dd dd2 sl sl2 (by simpa using hv) (by simpa using hw) (by rw[List.size_toArray,List.size_toArray];exact hsz)) ⟨ho,ho2,?_⟩
  rw[e]
  exact h2 hw
def sIx (n d:Nat):Option Int→Nat
 |none=>d
 |some v=>if v<0 then(v+(n:Int)).toNat else min v.toNat n
theorem sIx_none (n d:Nat):sIx n d none=d:=rfl
theorem sIx_nat (n d k:Nat):sIx n d (some (k:Int))=min k n:=by
 show(if(k:Int)<0 then((k:Int)+(n:Int)).toNat else min (k:Int).toNat n)=min k n
 rw[if_neg (by omega),Int.toNat_natCast]
theorem sIx_le (n d:Nat)(hd:d≤n)(o:Option Int):sIx n d o≤n:=by
 cases o with
 |none=>exact hd
 |some v=>
  show(if v<0 then(v+(n:Int)).toNat else min v.toNat n)≤n
  by_cases hv:v<0
  ·rw[if_pos hv];omega
  ·rw[if_neg hv];exact Nat.min_le_right _ _
theorem clip_eq (v:Int)(n d:Nat):(if v<0 then max (v+(n:Int)) 0 else min v (n:Int))=((sIx n d (some v):Nat):Int):=by
 show(if v<0 then max (v+(n:Int)) 0 else min v (n:Int))=(((if v<0 then(v+(n:Int)).toNat else min v.toNat n):Nat):Int)
 by_cases hv:v<0
 ·simp only[if_pos hv];omega
 ·simp only[if_neg hv];omega
theorem adjust_gen (lo hi:Option Int)(n:Nat):Builtin.Slice.sliceAdjust lo hi 1 (n:Int)=(((sIx n 0 lo:Nat):Int),((sIx n n hi:Nat):Int)):=by
 have h1:¬((1:Int)<0):=by omega
 unfold Builtin.Slice.sliceAdjust
 simp only[h1,if_false]
 refine Prod.ext ?_ ?_
 ·cases lo with
  |none=>rfl
  |some v=>exact clip_eq v n 0
 ·cases hi with
  |none=>rfl
  |some v=>exact clip_eq v n n
theorem places_gen (i j:Nat):Builtin.Slice.slicePlaces (i:Int) (j:Int) 1=j-i:=by
 unfold Builtin.Slice.slicePlaces
 have h1:(1:Int)>0:=by omega
 simp only[h1,if_true,Int.ediv_one]
 split<;>omega
theorem slicePart_ {v:Value}{o:Option Int}{Q:Option Int→Shared→Prop}(p:IsPart v o)(h:Q o s):wpAny (model prog w) A (Builtin.Slice.slicePartIndex v) Q E s:=by
 cases p with
 |none=>exact slicePart_none h
 |int i t=>exact slicePart_int h
theorem sliceApplied_gen {sl:Addr}{vl vu:Value}{lo hi:Option Int}{n:Nat}{Q:Int×Int×Nat→Shared→Prop}(hs:s.heap.IsSliceOf sl vl vu .none)(pl:IsPart vl lo)(pu:IsPart vu hi)
  (h:Q (((sIx n 0 lo:Nat):Int),1,sIx n n hi-sIx n 0 lo) s):wpAny (model prog w) A (Builtin.Slice.sliceApplied (.ref sl) (pure (n:Int))) Q E s:=by
 obtain⟨os,hos,hcs,hds⟩:=id hs
 unfold Builtin.Slice.sliceApplied Builtin.Slice.sliceFields
 refine wpAny_bind (wpAny_bind (wpAny_field hos hds (x:=vl) rfl (wpAny_bind (wpAny_field hos hds (x:=vu) rfl (wpAny_bind (wpAny_field hos hds (x:=.none) rfl (wpAny_pure ?_)))))))
 refine wpAny_bind (slicePart_none ?_)
 show wpAny _ _ (if((1:Int)==0)=true then _ else _) _ _ s
 rw[if_neg (by decide)]
 refine wpAny_bind (slicePart_ pl (wpAny_bind (slicePart_ pu (wpAny_bind (wpAny_pure ?_)))))
 show wpAny _ _ (match Builtin.Slice.sliceAdjust lo hi 1 (n:Int) with|(lo,hi)=>pure (lo,(1:Int),Builtin.Slice.slicePlaces lo hi 1)) _ _ s
 rw[adjust_gen lo hi n]
 show wpAny _ _ (pure (((sIx n 0 lo:Nat):Int),(1:Int),Builtin.Slice.slicePlaces ((sIx n 0 lo:Nat):Int) ((sIx n n hi:Nat):Int) 1)) _ _ s
 rw[places_gen]
 exact wpAny_pure h
theorem pick_gen (xs:Array Value)(i k:Nat):((List.range k).filterMap fun(m:Nat)=>xs[((i:Int)+(m:Int)*1).toNat]?).toArray=((xs.toList.drop i).take k).toArray:=by
 have e:(fun(m:Nat)=>xs[((i:Int)+(m:Int)*1).toNat]?)=fun m=>xs[i+m]?:=by
  funext m
  have:((i:Int)+(m:Int)*1).toNat=i+m:=by omega
  rw[this]
 rw[e]
 have:=pick_run xs i k
 rw[List.filterMap_map]at this
 have e2:((fun x=>xs[x]?)∘fun x=>i+x)=fun m=>xs[i+m]?:=rfl
 rw[e2]at this
 rw[this]
theorem getItem_tuple_cut {t sl:Addr}{items:Array Value}{vl vu:Value}{lo hi:Option Int}{Q:Value→Shared→Prop}(ht:IsTup s.heap t items)(hs:s.heap.IsSliceOf sl vl vu .none)(pl:IsPart vl lo)(pu:IsPart vu hi)
  (hw:¬(sIx items.size 0 lo=0∧sIx items.size items.size hi=items.size))
  (h:Q (.ref s.heap.objs.size) {s with heap:=s.heap.push {cls:=.type "tuple",data:=.seq ((items.toList.drop (sIx items.size 0 lo)).take (sIx items.size items.size hi-sIx items.size 0 lo)).toArray}})
  (hsz:items.size≤sizeLine):wpAny (model prog w) A (getItem (.ref t) (.ref sl)) Q E s:=by
 have htake:sizeOk (.seq ((items.toList.drop (sIx items.size 0 lo)).take (sIx items.size items.size hi-sIx items.size 0 lo)).toArray):=by
  show((items.toList.drop (sIx items.size 0 lo)).take (sIx items.size items.size hi-sIx items.size 0 lo)).toArray.size≤sizeLine
  rw[List.size_toArray,List.length_take,List.length_drop,Array.length_toList]
  omega
 have hj:sIx items.size items.size hi≤items.size:=sIx_le _ _ (Nat.le_refl _) hi
 obtain⟨os,hos,hcs,hds⟩:=id hs
 have hTs:s.TypeIs (.ref sl) "slice":=⟨os,hos,hcs⟩
 unfold getItem
 try with_reducible refine wpAny_holding ?_
 first|refine wpAny_bind (wpAny_pure ?_)|skip
 refine wpAny_bind (wpAny_sequenceKey ht.typeIs (by decide) ?_)
 refine wpAny_bind (wpAny_callSpecial?_slot (name:=Str.ofString "__getitem__") ht.typeIs PyProof.Rows.slot_tuple_getitem
  (wpAny_call_entry PyProof.Rows.slot_tuple_getitem ht.typeIs entry_tuple_getitem ?_ (args_tuple_getitem _ _)))
 show wpAny _ _ (Builtin.Tuple.tupleItemsOf (.ref t)>>=_) _ _ s
 refine wpAny_bind (tupleItemsOf_ ht ?_)
 refine wpAny_bind (wpAny_typeOf hTs ?_)
 rw[if_pos (by decide)]
 refine wpAny_bind (sliceApplied_gen hs pl pu ?_)
 have hno:¬((((sIx items.size 0 lo:Nat):Int)==0&&(1:Int)==1&&(sIx items.size items.size hi-sIx items.size 0 lo)==items.size)=true):=by
  intro q
  rw[Bool.and_eq_true,Bool.and_eq_true]at q
  have q1:((sIx items.size 0 lo:Nat):Int)=0:=eq_of_beq q.1.1
  have q2:sIx items.size items.size hi-sIx items.size 0 lo=items.size:=eq_of_beq q.2
  exact hw ⟨by omega,by omega⟩
 show wpAny _ _ (if(((sIx items.size 0 lo:Nat):Int)==0&&(1:Int)==1&&(sIx items.size items.size hi-sIx items.size 0 lo)==items.size)=true then _ else _) _ _ s
 rw[if_neg hno,pick_gen]
 first
  |exact wpAny_bind (m:=Builtin.Tuple.tupleExact _) (wpAny_newObj_type (wpAny_pure ⟨_,rfl,wpAny_pure h⟩) htake)
  |exact wpAny_bind (m:=Builtin.Tuple.tupleExact _) (wpAny_newObj_type (wpAny_bind (wpAny_pure (wpAny_pure ⟨_,rfl,wpAny_pure h⟩))) htake)
  |exact wpAny_bind (wpAny_bind (m:=Builtin.Tuple.tupleExact _) (wpAny_newObj_type (wpAny_pure (wpAny_pure ⟨_,rfl,wpAny_pure h⟩)) htake))
  |exact wpAny_bind (wpAny_bind (m:=Builtin.Tuple.tupleExact _) (wpAny_newObj_type (wpAny_pure ⟨_,rfl,wpAny_pure h⟩) htake))
end
end HT
namespace L2
open PySem PySem.Spec PyProof.Rows
abbrev TO:=St→Hp→(Option Int→Hp→Prop)→Prop
def PO (X:Cx)(e:Option Expr)(t:TO):Prop :=
 ∀(pins:List (Addr×Obj)) (s:Shared) (σ:St) (H:Hp) (Q:Option Int→Hp→Prop),Inv X pins σ H s→t σ H Q→
  wpAny (model X.prog X.w) X.A (evalPart e X.env) (fun u s'=>∃o H',Inv X pins σ H' s'∧IsPart u o∧Q o H') X.xe s
def tNoPart:TO:=fun _ H Q=>Q none H
inductive tPart_ (Q:Option Int→Hp→Prop)(x:V)(H1:Hp):Prop where
 |mk (i):(x=.int i)→(Q (some i) H1)→tPart_ Q x H1
def tPart (t:TE):TO:=fun σ H Q=>t σ H (tPart_ Q)
section
variable {X:Cx}{e:Expr}{te:TE}{lo hi:Option Expr}{tl th:TO}{pos p2:Pos}
theorem po_none:PO X none tNoPart:=by
 intro pins s σ H Q I h
 rw[evalPart_none]
 exact wpAny_pure ⟨none,H,I, .none,h⟩
theorem po_some (h:PE X e te):PO X (some e) (tPart te):=by
 intro pins s σ H Q I hw
 rw[evalPart_some]
 refine thn (h pins s σ H _ I hw) fun u s1 ⟨x,H1,I1,r1,q1⟩=>?_
 obtain⟨i,rfl,q⟩:=q1
 obtain⟨t,rfl⟩:=r1
 exact⟨some i,H1,I1, .int i t,q⟩
def SlR (X:Cx)(r:V→Option Int→Option Int→Hp→VK→Prop):Prop :=
 ∀(pins:List (Addr×Obj)) (s:Shared) (σ:St) (H:Hp) (x:V) (v vl vu:Value) (lo hi:Option Int) (sl:Addr) (Q:VK),Inv X pins σ H s→RelV x v→s.heap.IsSliceOf sl vl vu .none→IsPart vl lo→IsPart vu hi→r x lo hi H Q→
  ∃T id,typeLookup (.type T) "__getitem__"=pure (some (.builtin id))∧s.TypeIs v T∧wpAny (model X.prog X.w) X.A (getItem v (.ref sl)) (EP X pins σ Q) X.xe s
theorem SlR.or {r r':V→Option Int→Option Int→Hp→VK→Prop}(h:SlR X r)(h':SlR X r'):SlR X (fun x lo hi H Q=>r x lo hi H Q∨r' x lo hi H Q):=by
 intro pins s σ H x v vl vu lo hi sl Q I rx hs pl pu q
 rcases q with q|q
 ·exact h pins s σ H x v vl vu lo hi sl Q I rx hs pl pu q
 ·exact h' pins s σ H x v vl vu lo hi sl Q I rx hs pl pu q
def tSl (r:V→Option Int→Option Int→Hp→VK→Prop)(te:TE)(tl th:TO):TE:=fun σ H Q=>te σ H fun x H1=>tl σ H1 fun l H2=>th σ H2 fun u H3=>r x l u H3 Q
theorem pe_slice {r:V→Option Int→Option Int→Hp→VK→Prop}(hr:SlR X r)(he:PE X e te)(hl:PO X lo tl)(hu:PO X hi th):PE X (.Subscript e (.Slice lo hi none p2) pos) (tSl r te tl th):=by
 intro pins s σ H Q I h
 refine Subscript_ (thn (he pins s σ H _ I h) fun v s1 ⟨x,H1,I1,r1,q1⟩=>?_)
 refine wpAny_Slice (thn (hl pins s1 σ H1 _ I1 q1) fun vl s2 ⟨l,H2,I2,pl,q2⟩=>thn (hu pins s2 σ H2 _ I2 q2) fun vu s3 ⟨u,H3,I3,pu,q3⟩=>?_)
 rw[evalPart_none]
 refine wpAny_pure ?_
 have I4:Inv X pins σ H3 {s3 with heap:=s3.heap.push {cls:=.type "slice",data:=.fields #[vl,vu, .none]}}:=I3.kept (t':=s3.toks) fun b ob q=>Heap.get?_push_of_some _ q
 obtain⟨T,id,hT,ht,hg⟩:=hr pins {s3 with heap:=s3.heap.push {cls:=.type "slice",data:=.fields #[vl,vu, .none]}} σ H3 x v vl vu l u s3.heap.objs.size Q I4 r1 (Heap.IsSliceOf.new ..) pl pu q3
 show wpAny (model X.prog X.w) X.A (subscriptTail e (.Slice lo hi none p2) v (.ref s3.heap.objs.size)) (EP X pins σ Q) X.xe {s3 with heap:=s3.heap.push {cls:=.type "slice",data:=.fields #[vl,vu, .none]}}
 exact tail_any (ops:=[.ref s3.heap.objs.size,v]) ht hT hg (by with_unfolding_all rfl)
def cutV (xs:List V)(lo hi:Option Int):List V:=(xs.drop (HT.sIx xs.length 0 lo)).take (HT.sIx xs.length xs.length hi-HT.sIx xs.length 0 lo)
theorem cutV_length (xs:List V)(lo hi:Option Int):(cutV xs lo hi).length≤xs.length:=by
 unfold cutV
 rw[List.length_take,List.length_drop]
 omega
inductive rSlT_ (K:PySem.W.Frag)(x:V)(lo:Option Int)(hi:Option Int)(H:Hp)(Q:VK):Prop where
 |mk (a) (xs):(x=.ref a)→(SqT K H a xs)→(¬(HT.sIx xs.length 0 lo=0∧HT.sIx xs.length xs.length hi=xs.length))→(∀p,H p=none→Q (.ref p) (upd H p (.tup (cutV xs lo hi))))→rSlT_ K x lo hi H Q
def rSlT (K:PySem.W.Frag):V→Option Int→Option Int→Hp→VK→Prop:=rSlT_ K
theorem sl_tup:SlR X (rSlT X.K):=by
 intro pins s σ H x v vl vu lo hi sl Q I rx hs pl pu h
 obtain⟨a,xs,rfl,hx,hw,q⟩:=h
 cases rx
 obtain⟨its,r,ht,hz⟩:=I.tuple hx
 have hlen:its.toArray.size=xs.length:=by rw[List.size_toArray];exact r.length.symm
 refine⟨"tuple",_,PyProof.Rows.slot_tuple_getitem.lookup,ht.typeIs,?_⟩
 refine HT.getItem_tuple_cut ht hs pl pu (by rw[hlen];exact hw) ?_ (by rw[hlen];exact hz)
 rw[hlen]
 refine⟨.ref s.heap.objs.size,_,I.laid (t':=s.toks) (o:=.tup (cutV xs lo hi)) (fun b ob q=>Heap.get?_push_of_some _ q) (Nat.le_refl _) ?_,rfl,q _ (I.hok.fresh (Nat.le_refl _))⟩
 exact⟨Nat.le_trans (cutV_length xs lo hi) hz,_,(r.drop (HT.sIx xs.length 0 lo)).take (HT.sIx xs.length xs.length hi-HT.sIx xs.length 0 lo),IsTup.new _ _⟩
inductive rCatT_ (K:PySem.W.Frag)(x:V)(y:V)(H:Hp)(Q:VK):Prop where
 |mk (a) (b) (xs) (ys):(x=.ref a)→(y=.ref b)→(SqT K H a xs)→(SqT K H b ys)→(xs≠[])→(xs.length+ys.length≤sizeLine)→((ys=[]→Q (.ref a) H))→((ys≠[]→∀p,H p=none→Q (.ref p) (upd H p (.tup (xs++ys)))))→rCatT_ K x y H Q
def rCatT (K:PySem.W.Frag):R2:=rCatT_ K
theorem Vals.nil_iff {xs:List V}{us:List Value}(r:Vals xs us):us=[]↔xs=[]:=by
 cases r with
 |nil=>simp
 |cons _ _=>simp
theorem op_catT:OpR X (binaryOp .Add) (rCatT X.K):=by
 intro pins s σ H x y v u Q I rx ry h
 obtain⟨a,b,xs,ys,rfl,rfl,ha,hb,hx,hz,q1,q2⟩:=h
 cases rx
 cases ry
 obtain⟨its,r1,p1,_⟩:=I.tuple ha
 obtain⟨its2,r2,p2,_⟩:=I.tuple hb
 refine HT.cat_tup p1 p2 (fun z=>hx (r1.nil_iff.mp z)) (fun z=>⟨.ref a,H,I,rfl,q1 (r2.nil_iff.mp z)⟩) (fun z=>?_) (by rw[←r1.length,←r2.length];exact hz)
 refine⟨.ref s.heap.objs.size,_,I.laid (t':=s.toks) (o:=.tup (xs++ys)) (fun b ob q=>Heap.get?_push_of_some _ q) (Nat.le_refl _) ?_,rfl,q2 (fun w=>z (r2.nil_iff.mpr w)) _ (I.hok.fresh (Nat.le_refl _))⟩
 exact⟨by rw[List.length_append];exact hz,_,r1.append r2,IsTup.new _ _⟩
end
def ixN (n:Nat)(i:Int):Option Nat:=if 0≤i then(if i<n then some i.toNat else none) else if -(n:Int)≤i then some (i+n).toNat else none
def atI {α:Type}(xs:List α)(i:Int):Option α:=(ixN xs.length i).bind fun j=>xs[j]?
theorem ixN_seq {n:Nat}{i:Int}{j:Nat}(h:ixN n i=some j):seqIndex? i n=some j∧j<n∧-(n:Int)≤i∧i<n:=by
 unfold ixN at h
 by_cases h0:0≤i
 ·rw[if_pos h0]at h
  by_cases h1:i<n
  ·rw[if_pos h1]at h
   have e:i.toNat=j:=Option.some.inj h
   exact⟨by rw[seqIndex_of h0 h1,e],by omega,by omega,h1⟩
  ·rw[if_neg h1]at h;cases h
 ·rw[if_neg h0]at h
  by_cases h1: -(n:Int)≤i
  ·rw[if_pos h1]at h
   have e:(i+n).toNat=j:=Option.some.inj h
   exact⟨by rw[seqIndex_neg (by omega) h1,e],by omega,h1,by omega⟩
  ·rw[if_neg h1]at h;cases h
theorem atI_get {α:Type}{xs:List α}{i:Int}{v:α}(h:atI xs i=some v):∃j,seqIndex? i xs.length=some j∧xs[j]?=some v∧j<xs.length∧-(xs.length:Int)≤i∧i<xs.length:=by
 unfold atI at h
 cases e:ixN xs.length i with
 |none=>rw[e]at h;cases h
 |some j=>
  rw[e]at h
  obtain⟨h1,h2,h3,h4⟩:=ixN_seq e
  exact⟨j,h1,h,h2,h3,h4⟩
theorem atI_nat {α:Type}{xs:List α}{j:Nat}{v:α}(h:xs[j]?=some v):atI xs (j:Int)=some v:=by
 have hj:j<xs.length:=(List.getElem?_eq_some_iff.mp h).1
 have e:ixN xs.length (j:Int)=some j:=by
  unfold ixN
  rw[if_pos (by omega),if_pos (by omega)];simp
 unfold atI;rw[e];exact h
theorem atI_last {α:Type}(xs:List α)(v:α):atI (xs++[v]) (-1)=some v:=by
 have hl:(xs++[v]).length=xs.length+1:=by simp
 have e:ixN (xs++[v]).length (-1)=some xs.length:=by
  unfold ixN
  rw[hl,if_neg (by decide),if_pos (by omega)]
  congr 1
  omega
 unfold atI
 rw[e]
 show(xs++[v])[xs.length]?=some v
 simp
def PlainIx (b:Expr):Prop:=∀o i,subscripted b false o i=operate [o,i] (getItem o i)
def IxR (X:Cx)(r:R2):Prop :=
 ∀(value slice:Expr) (pins:List (Addr×Obj)) (s:Shared) (σ:St) (H:Hp) (x y:V) (v u:Value) (Q:VK),Inv X pins σ H s→RelV x v→RelV y u→r x y H Q→
  subscripted slice false v u=operate [v,u] (getItem v u)→wpAny (model X.prog X.w) X.A (subscriptTail value slice v u) (EP X pins σ Q) X.xe s
def MtR (X:Cx)(id:String)(r:V→List V→Hp→VK→Prop):Prop :=
 ∀(pins:List (Addr×Obj)) (s:Shared) (σ:St) (H:Hp) (x:V) (xs:List V) (v:Value) (us:List Value) (Q:VK),Inv X pins σ H s→RelV x v→Vals xs us→r x xs H Q→
  wpAny (model X.prog X.w) X.A (call (.builtin id) (v::us)) (EP X pins σ Q) X.xe s
section
variable {X:Cx}{a b:Expr}{ta tb:TE}{pos:Pos}
theorem pe_ix {r:R2}(hr:IxR X r)(ha:PE X a ta)(hb:PE X b tb)(hs:PlainIx b:=by intro _ _;rfl):PE X (.Subscript a b pos) (tOp r ta tb):=by
 intro pins s σ H Q I h
 exact Subscript_ (binT ha hb I h fun v u s2 x y H2 I2 rx ry q=>hr a b pins s2 σ H2 x y v u Q I2 rx ry q (hs _ _))
inductive rIxL_ (K:PySem.W.Frag)(x:V)(y:V)(H:Hp)(Q:VK):Prop where
 |mk (p) (xs) (i) (v):(x=.ref p)→(y=.int i)→(SqL K H p xs)→(atI xs i=some v)→(Q v H)→rIxL_ K x y H Q
def rIxL (K:PySem.W.Frag):R2:=rIxL_ K
inductive rIxT_ (K:PySem.W.Frag)(x:V)(y:V)(H:Hp)(Q:VK):Prop where
 |mk (p) (xs) (i) (v):(x=.ref p)→(y=.int i)→(SqT K H p xs)→(atI xs i=some v)→(Q v H)→rIxT_ K x y H Q
def rIxT (K:PySem.W.Frag):R2:=rIxT_ K
def rIxS:R2:=fun x y H Q=>∃z i c,x=.str z∧y=.int i∧z.length≤sizeLine∧atI z.cps.toList i=some c∧Q (.str ⟨#[c]⟩) H
theorem ix_list:IxR X (rIxL X.K):=by
 intro value slice pins s σ H x y v u Q I rx ry h hs
 obtain⟨p,xs,i,z,rfl,rfl,hq,he,q⟩:=h
 cases rx
 obtain⟨t,rfl⟩:=ry
 obtain⟨its,r,pl,hz⟩:=I.list hq
 obtain⟨j,h1,h2,h3,h4,h5⟩:=atI_get he
 obtain⟨w,ew,rw'⟩:=r.get h2
 have hl:=r.length
 have hn:=line63
 have fin:EP X pins σ Q w s:=⟨z,H,I,rw',q⟩
 by_cases h0:0≤i
 ·have hj:i.toNat=j:=by
   rw[seqIndex_of h0 h5]at h1
   exact Option.some.inj h1
  exact item_listR pl.isList h0 (by omega) (by rw[hj];simpa using ew) fin hs
 ·have hj:(i+(its.toArray.size:Int)).toNat=j:=by
   rw[seqIndex_neg (by omega) h4]at h1
   rw[List.size_toArray,←hl]
   exact Option.some.inj h1
  exact subscriptTail_builtinR (x:=w) pl.isList.typeIs slot_list_getitem.lookup
   (wpAny_getItem_list_neg (Q:=fun r s'=>r=w∧EP X pins σ Q r s') pl.isList (by omega) (by rw[List.size_toArray]<;>omega) (by omega) (by rw[hj];simpa using ew) ⟨rfl,fin⟩) hs
theorem ix_tup:IxR X (rIxT X.K):=by
 intro value slice pins s σ H x y v u Q I rx ry h hs
 obtain⟨p,xs,i,z,rfl,rfl,hq,he,q⟩:=h
 cases rx
 obtain⟨t,rfl⟩:=ry
 obtain⟨its,r,pl,hz⟩:=I.tuple hq
 obtain⟨j,h1,h2,h3,h4,h5⟩:=atI_get he
 obtain⟨w,ew,rw'⟩:=r.get h2
 have hl:=r.length
 have hn:=line63
 have fin:EP X pins σ Q w s:=⟨z,H,I,rw',q⟩
 exact subscriptTail_builtinR (x:=w) pl.typeIs slot_tuple_getitem.lookup
  (getItem_tuple (j:=j) (Q:=fun r s'=>r=w∧EP X pins σ Q r s') pl (by omega) (by omega) (by rw[List.size_toArray,←hl];exact h1) (by simpa using ew) ⟨rfl,fin⟩) hs
theorem ix_str:IxR X rIxS:=by
 intro value slice pins s σ H x y v u Q I rx ry h hs
 obtain⟨z,i,c,rfl,rfl,hz,he,q⟩:=h
 obtain⟨t,rfl⟩:=rx
 obtain⟨t',rfl⟩:=ry
 obtain⟨j,h1,h2,h3,h4,h5⟩:=atI_get he
 have hl:z.cps.toList.length=z.length:=by simp[Str.length]
 rw[hl]at h1 h4 h5
 have hn:=line63
 exact tail_any (typeIs_str s z t) slot_str_getitem.lookup (getItem_str (c:=c) (by
  have e1:decide (i< -(2^63:Int))=false:=decide_eq_false (by omega)
  have e2:decide (i≥2^63)=false:=decide_eq_false (by omega)
  rw[e1,e2,Bool.or_false]) (by rw[h1];simpa using h2) ⟨.str ⟨#[c]⟩,H,I.tok _,⟨_,rfl⟩,q⟩) hs
theorem mapSeq_set (its:List Value)(n j:Nat)(u:Value):Obj.mapSeq (·.setIfInBounds j u) {cls:=.type "list",data:=.seq its.toArray n}={cls:=.type "list",data:=.seq (its.set j u).toArray n}:=by
 simp[Obj.mapSeq]
theorem Inv.lst {pins:List (Addr×Obj)}{σ:St}{H:Hp}{s:Shared}{p:Addr}{xs:List V}(I:Inv X pins σ H s)(h:H p=some (.lst xs)):
  ∃(its:List Value) (n:Nat),Vals xs its∧s.heap.get? p=some {cls:=.type "list",data:=.seq its.toArray n}∧xs.length≤sizeLine:=by
 obtain⟨z,its,n,r,e⟩:=I.hok p _ h
 exact⟨its,n,r,e,z⟩
theorem Inv.lstUpd {pins:List (Addr×Obj)}{σ:St}{H:Hp}{s:Shared}{p:Addr}{xs ys:List V}{its its':List Value}{n n':Nat}{f:Obj→Obj}(I:Inv X pins σ H s)(h:H p=some (.lst xs))
  (ho:s.heap.get? p=some {cls:=.type "list",data:=.seq its.toArray n}) (hf:f {cls:=.type "list",data:=.seq its.toArray n}={cls:=.type "list",data:=.seq its'.toArray n'}) (r:Vals ys its') (hz:ys.length≤sizeLine) (t:Nat):
  Inv X pins σ (upd H p (.lst ys)) {s with heap:=s.heap.update p f,toks:=t}:=by
 have e:(s.heap.update p f).get? p=some {cls:=.type "list",data:=.seq its'.toArray n'}:=by
  rw[Heap.get?_update_self f ho (by rw[hf]<;>rfl),hf]
 refine I.write (x:=p) (e:=p) (by rw[h];trivial) (.inl rfl) (fun b u hb q=>(Heap.get?_update_other _ _ (Ne.symm hb)).trans q) ⟨_,e⟩ ?_
 exact⟨hz,its',n',r,e⟩
inductive rSetL_ (o:V)(i:V)(v:V)(H:Hp)(Q:Hp→Prop):Prop where
 |mk (p) (xs) (k) (j):(o=.ref p)→(i=.int k)→(H p=some (.lst xs))→(ixN xs.length k=some j)→(Q (upd H p (.lst (xs.set j v))))→rSetL_ o i v H Q
def rSetL:V→V→V→Hp→(Hp→Prop)→Prop:=rSetL_
theorem set_list:PSet X rSetL:=by
 intro pins s σ H o i v ov iv u Q I ro ri rv h
 obtain⟨p,xs,k,j,rfl,rfl,hp,hj,q⟩:=h
 cases ro
 obtain⟨t,rfl⟩:=ri
 obtain⟨its,n,r,ho,hz⟩:=I.lst hp
 obtain⟨h1,h2,h3,h4⟩:=ixN_seq hj
 have hl:=r.length
 have hn:=line63
 have I':Inv X pins σ (upd H p (.lst (xs.set j v))) {s with heap:=s.heap.update p (Obj.mapSeq (·.setIfInBounds j u))} :=
  I.lstUpd hp ho (mapSeq_set its n j u) (r.set rv j) (by rw[List.length_set];exact hz) s.toks
 by_cases h0:0≤k
 ·have hk:k.toNat=j:=by
   rw[seqIndex_of h0 h4]at h1
   exact Option.some.inj h1
  exact PySem.W.ki_setAt ho h0 (by omega) (by rw[List.size_toArray,←hl];exact h4) (by rw[hk];exact⟨_,I',q⟩)
 ·have hk:(k+(its.toArray.size:Int)).toNat=j:=by
   rw[seqIndex_neg (by omega) h3]at h1
   rw[List.size_toArray,←hl]
   exact Option.some.inj h1
  exact PySem.W.ki_setBack ho (by omega) (by rw[List.size_toArray,←hl];exact h3) (by omega) (by rw[hk];exact⟨_,I',q⟩)
theorem slice_bounds (lo hi:Option Int)(n:Nat):(sliceBounds lo hi none n).1=((HT.sIx n 0 lo:Nat):Int)∧(sliceBounds lo hi none n).2.1=((HT.sIx n n hi:Nat):Int)∧(sliceBounds lo hi none n).2.2=1:=by
 refine⟨?_,?_,rfl⟩
 ·cases lo with
  |none=>simp[sliceBounds,HT.sIx]
  |some i=>
   simp only[sliceBounds,HT.sIx,Option.getD_none,show(1:Int)>0 by decide,if_true]
   by_cases h:i<0
   ·simp only[h,if_true]<;>omega
   ·simp only[h,if_false]<;>omega
 ·cases hi with
  |none=>simp[sliceBounds,HT.sIx]
  |some i=>
   simp only[sliceBounds,HT.sIx,Option.getD_none,show(1:Int)>0 by decide,if_true]
   by_cases h:i<0
   ·simp only[h,if_true]<;>omega
   ·simp only[h,if_false]<;>omega
theorem slicePick_cut (its:List Value)(lo hi:Option Int):slicePick its.toArray lo hi none=((its.drop (HT.sIx its.length 0 lo)).take (HT.sIx its.length its.length hi-HT.sIx its.length 0 lo)).toArray:=by
 obtain⟨h1,h2,h3⟩:=slice_bounds lo hi its.toArray.size
 unfold slicePick
 rw[h1,h2,h3]
 simp only[sliceRange_one,pick_run,List.size_toArray]<;>rfl
def rSlL (K:PySem.W.Frag):V→Option Int→Option Int→Hp→VK→Prop:=fun x lo hi H Q=>∃a xs,x=.ref a∧SqL K H a xs∧∀p,H p=none→Q (.ref p) (upd H p (.lst (cutV xs lo hi)))
theorem sl_list:SlR X (rSlL X.K):=by
 intro pins s σ H x v vl vu lo hi sl Q I rx hs pl pu h
 obtain⟨a,xs,rfl,hx,q⟩:=h
 cases rx
 obtain⟨its,r,ht,hz⟩:=I.list hx
 have hlen:=r.length
 refine⟨"list",_,slot_list_getitem.lookup,ht.isList.typeIs,?_⟩
 refine wpAny_getItem_list_slice ht.isList hs pl pu .none (by simp) ?_ (by rw[List.size_toArray]<;>omega)
 rw[slicePick_cut,←hlen]
 refine⟨.ref s.heap.objs.size,_,I.laid (t':=s.toks) (o:=.lst (cutV xs lo hi)) (fun b ob q=>Heap.get?_push_of_some _ q) (Nat.le_refl _) ?_,rfl,q _ (I.hok.fresh (Nat.le_refl _))⟩
 exact⟨Nat.le_trans (cutV_length xs lo hi) hz,_,0,(r.drop (HT.sIx xs.length 0 lo)).take (HT.sIx xs.length xs.length hi-HT.sIx xs.length 0 lo),Heap.get?_push_size _ rfl⟩
def flatV:V→Bool
 |.non=>true
 |.bl _=>true
 |.int _=>true
 |.str _=>true
 |_=>false
def eqV:V→V→Bool
 |.non, .non=>true
 |.bl a, .bl b=>a==b
 |.bl a, .int b=>(if a then 1 else 0)==b
 |.int a, .bl b=>a==(if b then 1 else 0)
 |.int a, .int b=>a==b
 |.str a, .str b=>a==b
 |_,_=>false
theorem eqAt_V {A:Around}{s:Shared}{y x:V}{u v:Value}(ry:RelV y u)(rx:RelV x v)(fy:flatV y=true)(fx:flatV x=true):SeqAt.EqAt A s u v (eqV y x):=by
 cases y with
 |non=>
  cases ry
  cases x with
  |non=>cases rx;exact SeqAt.EqAt.same _
  |bl b=>cases rx;exact SeqAt.EqAt.none_bool b
  |int b=>obtain⟨t,rfl⟩:=rx;exact SeqAt.EqAt.none_int b t
  |str b=>obtain⟨t,rfl⟩:=rx;exact SeqAt.EqAt.none_str b t
  |_=>exact absurd (show false=true from fx) Bool.false_ne_true
 |bl a=>
  cases ry
  cases x with
  |non=>cases rx;exact SeqAt.EqAt.bool_none a
  |bl b=>cases rx;exact SeqAt.EqAt.bool_bool a b
  |int b=>obtain⟨t,rfl⟩:=rx;exact SeqAt.EqAt.bool_int a b t
  |str b=>obtain⟨t,rfl⟩:=rx;exact SeqAt.EqAt.bool_str a b t
  |_=>exact absurd (show false=true from fx) Bool.false_ne_true
 |int a=>
  obtain⟨t',rfl⟩:=ry
  cases x with
  |non=>cases rx;exact SeqAt.EqAt.int_none a t'
  |bl b=>cases rx;exact SeqAt.EqAt.int_bool a t' b
  |int b=>obtain⟨t,rfl⟩:=rx;exact SeqAt.EqAt.int_int a t' b t
  |str b=>obtain⟨t,rfl⟩:=rx;exact SeqAt.EqAt.int_str a t' b t
  |_=>exact absurd (show false=true from fx) Bool.false_ne_true
 |str a=>
  obtain⟨t',rfl⟩:=ry
  cases x with
  |non=>cases rx;exact SeqAt.EqAt.str_none a t'
  |bl b=>cases rx;exact SeqAt.EqAt.str_bool a t' b
  |int b=>obtain⟨t,rfl⟩:=rx;exact SeqAt.EqAt.str_int a t' b t
  |str b=>obtain⟨t,rfl⟩:=rx;exact SeqAt.EqAt.str_str a t' b t
  |_=>exact absurd (show false=true from fx) Bool.false_ne_true
 |_=>exact absurd (show false=true from fy) Bool.false_ne_true
def eqU (x:V)(u:Value):Bool:=match u with
 |.none=>eqV .non x
 |.bool b=>eqV (.bl b) x
 |.int i _=>eqV (.int i) x
 |.str z _=>eqV (.str z) x
 |_=>false
theorem eqU_of {x y:V}{u:Value}(r:RelV y u)(f:flatV y=true):eqU x u=eqV y x:=by
 cases y with
 |non=>cases r;rfl
 |bl b=>cases r;rfl
 |int i=>obtain⟨t,rfl⟩:=r;rfl
 |str z=>obtain⟨t,rfl⟩:=r;rfl
 |_=>exact absurd (show false=true from f) Bool.false_ne_true
theorem any_eqU {x:V}{xs:List V}{us:List Value}(h:Vals xs us)(f:xs.all flatV=true):us.any (eqU x)=xs.any fun y=>eqV y x:=by
 induction h with
 |nil=>rfl
 |cons r _ ih=>
  rw[List.all_cons,Bool.and_eq_true]at f
  rw[List.any_cons,List.any_cons,eqU_of r f.1,ih f.2]
theorem mem_eqAt {A:Around}{s:Shared}{x:V}{v:Value}(rx:RelV x v)(fx:flatV x=true){xs:List V}{us:List Value}(h:Vals xs us)(f:xs.all flatV=true):∀u∈us,SeqAt.EqAt A s u v (eqU x u):=by
 induction h with
 |nil=>exact fun u hu=>by cases hu
 |cons r _ ih=>
  intro u' hu
  rw[List.all_cons,Bool.and_eq_true]at f
  rcases List.mem_cons.mp hu with rfl|hu
  ·rw[eqU_of r f.1];exact eqAt_V r rx f.1 fx
  ·exact ih f.2 u' hu
def inV (x:V)(xs:List V):Bool:=xs.any fun y=>eqV y x
inductive rIn_ (K:PySem.W.Frag)(neg:Bool)(x:V)(y:V)(H:Hp)(Q:VK):Prop where
 |mk (p) (xs):(y=.ref p)→((SqL K H p xs∨SqT K H p xs))→(flatV x=true)→(xs.all flatV=true)→(Q (.bl (if neg then !inV x xs else inV x xs)) H)→rIn_ K neg x y H Q
def rIn (K:PySem.W.Frag)(neg:Bool):R2:=rIn_ K neg
theorem op_in_seq:OpR X (compareOp .In) (rIn X.K false):=by
 intro pins s σ H x y v u Q I rx ry h
 obtain⟨p,xs,rfl,hq,fx,fs,q⟩:=h
 cases ry
 rcases hq with hq|hq
 ·obtain⟨its,r,pl,hz⟩:=I.list hq
  refine SeqAt.in_listAt (eqU x) pl.isList (fun w hw=>mem_eqAt rx fx r fs w (by simpa using hw)) ⟨.bl _,H,I,rfl,?_⟩
  rw[show its.toArray.any (eqU x)=its.any (eqU x) by simp,any_eqU r fs]
  exact q
 ·obtain⟨its,r,pl,hz⟩:=I.tuple hq
  refine SeqAt.in_tupleAt (eqU x) pl (fun w hw=>mem_eqAt rx fx r fs w (by simpa using hw)) ⟨.bl _,H,I,rfl,?_⟩
  rw[show its.toArray.any (eqU x)=its.any (eqU x) by simp,any_eqU r fs]
  exact q
theorem op_notIn_seq:OpR X (compareOp .NotIn) (rIn X.K true):=by
 intro pins s σ H x y v u Q I rx ry h
 obtain⟨p,xs,rfl,hq,fx,fs,q⟩:=h
 cases ry
 rcases hq with hq|hq
 ·obtain⟨its,r,pl,hz⟩:=I.list hq
  refine SeqAt.notIn_listAt (eqU x) pl.isList (fun w hw=>mem_eqAt rx fx r fs w (by simpa using hw)) ⟨.bl _,H,I,rfl,?_⟩
  rw[show its.toArray.any (eqU x)=its.any (eqU x) by simp,any_eqU r fs]
  exact q
 ·obtain⟨its,r,pl,hz⟩:=I.tuple hq
  refine SeqAt.notIn_tupleAt (eqU x) pl (fun w hw=>mem_eqAt rx fx r fs w (by simpa using hw)) ⟨.bl _,H,I,rfl,?_⟩
  rw[show its.toArray.any (eqU x)=its.any (eqU x) by simp,any_eqU r fs]
  exact q
inductive r_call_len_seq (K:PySem.W.Frag)(xs:List V)(H:Hp)(Q:VK):Prop where
 |mk (p) (ys):(xs=[.ref p])→((SqL K H p ys∨SqT K H p ys))→(Q (.int ys.length) H)→r_call_len_seq K xs H Q
theorem call_len_seq:CallR X (.builtin "len") (r_call_len_seq X.K):=by
 intro pins s σ H xs us Q I r h
 obtain⟨p,ys,rfl,hq,q⟩:=h
 obtain⟨u,rfl,rx⟩:=vals1 r
 cases rx
 have hn:=line63
 rcases hq with hq|hq
 ·obtain⟨its,r',pl,hz⟩:=I.list hq
  have hlen:=r'.length
  exact Calls.call_len_list pl.isList (by simp only[List.size_toArray]<;>omega) ⟨.int ys.length,H,I.tok _,⟨s.toks+1,by rw[List.size_toArray,hlen]⟩,q⟩
 ·obtain⟨its,r',pl,hz⟩:=I.tuple hq
  have hlen:=r'.length
  exact len_tuple pl (by simp only[List.size_toArray]<;>omega) ⟨.int ys.length,H,I.tok _,⟨s.toks+1,by rw[List.size_toArray,hlen]⟩,q⟩
theorem call_len_str:CallR X (.builtin "len") (fun xs H Q=>∃z,xs=[.str z]∧z.length≤sizeLine∧Q (.int z.length) H):=by
 intro pins s σ H xs us Q I r h
 obtain⟨z,rfl,hz,q⟩:=h
 obtain⟨u,rfl,t,rfl⟩:=vals1 r
 have hn:=line63
 exact len_str (by omega) ⟨.int z.length,H,I.tok _,⟨_,rfl⟩,q⟩
inductive r_call_list_of (K:PySem.W.Frag)(xs:List V)(H:Hp)(Q:VK):Prop where
 |mk (p) (ys):(xs=[.ref p])→((SqL K H p ys∨SqT K H p ys))→(∀l,H l=none→Q (.ref l) (upd H l (.lst ys)))→r_call_list_of K xs H Q
inductive r_call_tuple_of (K:PySem.W.Frag)(xs:List V)(H:Hp)(Q:VK):Prop where
 |mk (p) (ys):(xs=[.ref p])→(((SqL K H p ys∧∀l,H l=none→Q (.ref l) (upd H l (.tup ys)))∨(SqT K H p ys∧Q (.ref p) H)))→r_call_tuple_of K xs H Q
theorem call_tuple_of:CallR X (.type "tuple") (r_call_tuple_of X.K):=by
 intro pins s σ H xs us Q I r h
 obtain⟨p,ys,rfl,h⟩:=h
 obtain⟨u,rfl,rx⟩:=vals1 r
 cases rx
 rcases h with ⟨hq,q⟩|⟨hq,q⟩
 ·obtain⟨its,r',pl,hz⟩:=I.list hq
  have hlen:=r'.length
  refine call_tuple_list pl.isList (fun h' kp=>?_) (by simp only[List.size_toArray]<;>omega)
  have I1:Inv X pins σ H {s with heap:=h'}:=I.kept (t':=s.toks) kp
  have I2:Inv X pins σ (upd H h'.objs.size (.tup ys)) {s with heap:=h'.push {cls:=.type "tuple",data:=.seq its.toArray}} :=
   I1.laid (t':=s.toks) (fun b o e=>Heap.get?_push_of_some _ e) (Nat.le_refl _) (show ObjOk X.prog X.w _ _ _ (.tup ys) from⟨hz,its,r',IsTup.new _ _⟩)
  exact⟨.ref h'.objs.size,_,I2,rfl,q _ (I1.hok.fresh (Nat.le_refl _))⟩
 ·obtain⟨its,r',pl,hz⟩:=I.tuple hq
  exact call_tuple_same pl ⟨.ref p,H,I,rfl,q⟩
def tyV (K:PySem.W.Frag)(T:String)(x:V)(H:Hp):Prop:=match x with
 |.str _=>T="str"
 |.int _=>T="int"
 |.ref p=>(T="list"∧∃xs,SqL K H p xs)∨(T="tuple"∧∃o,K.lookup p=some o∧o.cls=.type "tuple"∧o.dict=none)∨
   (T="dict"∧((∃kvs,H p=some (.dK kvs))∨∃kvs,H p=some (.dT kvs)))∨(T="set"∧∃S n,H p=some (.set S n))
 |_=>False
theorem tyV_is {pins:List (Addr×Obj)}{σ:St}{H:Hp}{s:Shared}{T:String}{x:V}{v:Value}(I:Inv X pins σ H s)(r:RelV x v)(ty:tyV X.K T x H):
  s.TypeIs v T∧∀a,v=.ref a→∃ob,s.heap.get? a=some ob∧ob.dict=none:=by
 cases x with
 |str z=>
  obtain⟨t,rfl⟩:=r
  cases(show T="str" from ty)
  exact⟨typeIs_str s z t,fun _ e=>nomatch e⟩
 |int i=>
  obtain⟨t,rfl⟩:=r
  cases(show T="int" from ty)
  exact⟨typeIs_int s i t,fun _ e=>nomatch e⟩
 |ref p=>
  cases r
  rcases ty with ⟨rfl,xs,hq⟩|⟨rfl,o,hk,hc,hd⟩|⟨rfl,hk⟩|⟨rfl,S,n,hk⟩
  ·obtain⟨its,_,pl,_⟩:=I.list hq
   refine⟨pl.isList.typeIs,fun a e=>?_⟩
   cases e
   obtain⟨o,n,e,c,hd,_⟩:=pl
   exact⟨o,e,hd⟩
  ·refine⟨⟨o,I.kIn p o hk,hc⟩,fun a e=>?_⟩
   cases e
   exact⟨o,I.kIn _ o hk,hd⟩
  ·have z:∃o,s.heap.get? p=some o∧o.ExactDict:=by
    rcases hk with ⟨kvs,hk⟩|⟨kvs,hk⟩
    ·obtain⟨_,_,_,_,o,_,_,e,ex,_⟩:=I.hok p _ hk
     exact⟨o,e,ex⟩
    ·obtain⟨_,_,_,_,o,_,_,e,ex,_⟩:=I.hok p _ hk
     exact⟨o,e,ex⟩
   obtain⟨o,e,ex⟩:=z
   refine⟨⟨o,e,ex.1⟩,fun a e2=>?_⟩
   cases e2
   exact⟨o,e,ex.2.1⟩
  ·obtain⟨o,_,_,_,e,ex,_⟩:=I.hok p _ hk
   refine⟨⟨o,e,ex.1⟩,fun a e2=>?_⟩
   cases e2
   exact⟨o,e,ex.2.1⟩
 |_=>exact False.elim ty
inductive tBM0_ (K:PySem.W.Frag)(T:String)(r:V→List V→Hp→VK→Prop)(Q:VK)(x:V)(H1:Hp):Prop where
 |mk:(tyV K T x H1)→(r x [] H1 Q)→tBM0_ K T r Q x H1
def tBM0 (K:PySem.W.Frag)(T:String)(r:V→List V→Hp→VK→Prop)(to:TE):TE:=fun σ H Q=>to σ H (tBM0_ K T r Q)
inductive tBM_ (K:PySem.W.Frag)(T:String)(r:V→List V→Hp→VK→Prop)(t:TA)(σ:St)(Q:VK)(x:V)(H1:Hp):Prop where
 |mk:(tyV K T x H1)→(t σ H1 fun xs H2=>r x xs H2 Q)→tBM_ K T r t σ Q x H1
def tBM (K:PySem.W.Frag)(T:String)(r:V→List V→Hp→VK→Prop)(to:TE)(t:TA):TE:=fun σ H Q=>to σ H (tBM_ K T r t σ Q)
variable {o e:Expr}{es:List Expr}{to:TE}{t:TA}{name:Str}{apos cpos:Pos}{T id:String}{r:V→List V→Hp→VK→Prop}
theorem pe_bm0 (pa:PlainAttrs T)(slot:Slot T name id)(hty:typeOf (.builtin id)=pure (.type "method_descriptor"))(hm:MtR X id r)(ho:PE X o to)
  (hbase:attributeBase o name X.env (eval o X.env)=eval o X.env:=by rfl) (hline:(apos.endLine==cpos.line)=true:=by rfl):PE X (.Call (.Attribute o name apos) [] [] cpos) (tBM0 X.K T r to):=by
 intro pins s σ H Q I h
 refine wpAny_Call_method0_late hbase hline (thn (ho pins s σ H _ I h) fun v s1 ⟨x,H1,I1,r1,ty,q1⟩=>?_)
 obtain⟨h1,h2⟩:=tyV_is I1 r1 ty
 exact⟨T,id,pa,slot,hty,h1,h2,Calls.callWith_builtin rfl (PySem.evalArgs_none (hm pins s1 σ H1 x [] v [] Q I1 r1 .nil q1))⟩
theorem pe_bm (pa:PlainAttrs T)(slot:Slot T name id)(hty:typeOf (.builtin id)=pure (.type "method_descriptor"))(hm:MtR X id r)(ho:PE X o to)(ha:PA X (e::es) t)
  (hbase:attributeBase o name X.env (eval o X.env)=eval o X.env:=by rfl)
  (hfew:((backTo cpos (starEach (e::es) X.env)).all (fun x=>!x.1)&&(backToKw cpos (keywordEach [] X.env)).all (fun x=>x.1.isSome)
   &&decide ((e::es).length+([]:List Keyword).length+(if([]:List Keyword).isEmpty then 0 else 1)<30))=true:=by rfl)
  (hline:(apos.endLine==cpos.line)=true:=by rfl) (hs:starEach (e::es) X.env=(false,eval e X.env)::starEach es X.env:=by rfl) (hplain:(backTo cpos (starEach es X.env)).any (·.1)=false:=by rfl):
  PE X (.Call (.Attribute o name apos) (e::es) [] cpos) (tBM X.K T r to t):=by
 intro pins s σ H Q I h
 refine wpAny_Call_method_late hbase hfew hline rfl (thn (ho pins s σ H _ I h) fun v s1 ⟨x,H1,I1,r1,ty,q1⟩=>?_)
 obtain⟨h1,h2⟩:=tyV_is I1 r1 ty
 refine⟨T,id,pa,slot,hty,h1,h2,?_⟩
 have hA:=ha cpos pins s1 σ H1 _ I1 q1
 rw[hs]at hA ⊢
 refine Calls.callWith_builtin (by show(false||(backTo cpos (starEach es X.env)).any (·.1))=false;rw[hplain]<;>rfl) (Calls.evalArgs_plain ?_)
 exact thn hA fun us s2 ⟨vs,H2,I2,r2,q2⟩=>hm pins s2 σ H2 x vs v us Q I2 r1 r2 q2
end
def MtM (X:Cx)(id:String)(r:V→List V→Hp→VK→Prop):Prop :=
 ∀(pins:List (Addr×Obj)) (s:Shared) (σ:St) (H:Hp) (x:V) (xs:List V) (v:Value) (us:List Value) (Q:VK),Inv X pins σ H s→RelV x v→Vals xs us→r x xs H Q→
  wpAny (model X.prog X.w) X.A (call (.builtin id) (v::us)) (EP X pins σ Q) X.xe s
theorem Vals.one {x:V}{us:List Value}(h:Vals [x] us):∃u,us=[u]∧RelV x u:=by
 cases h with
 |cons r t=>cases t;exact⟨_,rfl,r⟩
theorem Vals.zero:∀{us:List Value},Vals [] us→us=[]
 |_, .nil=>rfl
theorem Vals.dropLast {xs:List V}{us:List Value}(h:Vals xs us):Vals xs.dropLast us.dropLast:=by
 induction h with
 |nil=>exact .nil
 |cons r t ih=>
  cases t with
  |nil=>exact .nil
  |cons q t'=>exact .cons r ih
theorem Vals.eraseIdx:∀{xs:List V} {us:List Value} (i:Nat),Vals xs us→Vals (xs.eraseIdx i) (us.eraseIdx i)
 |_,_,_, .nil=>.nil
 |_,_,0, .cons _ t=>t
 |_,_,i+1, .cons r t=>.cons r (Vals.eraseIdx i t)
theorem erase_last {α:Type}(l:List α):l.eraseIdx (l.length-1)=l.dropLast:=by
 induction l with
 |nil=>rfl
 |cons a r ih=>
  cases r with
  |nil=>rfl
  |cons b r=>
   have e:(a::b::r).length-1=((b::r).length-1)+1:=by
    have h1:(a::b::r).length=r.length+2:=rfl
    have h2:(b::r).length=r.length+1:=rfl
    exact rfl
   rw[e,List.eraseIdx_cons_succ,ih]
   all_goals rfl
theorem len_erase {α:Type}:∀(l:List α) (i:Nat),(l.eraseIdx i).length≤l.length
 |[],_=>Nat.le_refl _
 |_::_,0=>Nat.le_succ _
 |_::r,i+1=>Nat.succ_le_succ (len_erase r i)
section
variable {X:Cx}{pins:List (Addr×Obj)}{σ:St}{H:Hp}{s:Shared}{l b:Addr}{xs ys zs:List V}
theorem Inv.lset {its its':List Value}{n:Nat}{f:Array Value→Array Value}{t':Nat}(I:Inv X pins σ H s)(hH:H l=some (.lst xs))
  (e:s.heap.get? l=some {cls:=.type "list",data:=.seq its.toArray n}) (hf:f its.toArray=its'.toArray) (hv:Vals ys its') (hz:ys.length≤sizeLine):
  Inv X pins σ (upd H l (.lst ys)) {s with heap:=s.heap.update l (Obj.mapSeq f),toks:=t'}:=by
 have q:=PySem.IsL.update e f
 rw[hf]at q
 refine I.write (x:=l) (e:=l) (by rw[hH];exact trivial) (.inl rfl) (fun b' u hb hu=>(Heap.get?_update_other s.heap (Obj.mapSeq f) (Ne.symm hb)).trans hu) ⟨_,q⟩ ?_
 exact⟨hz,its',_,hv,q⟩
theorem Inv.lnew {its:List Value}{t':Nat}(I:Inv X pins σ H s)(hv:Vals ys its)(hz:ys.length≤sizeLine):
  Inv X pins σ (upd H s.heap.objs.size (.lst ys)) {s with heap:=s.heap.push {cls:=.type "list",data:=.seq its.toArray},toks:=t'} :=
 I.laid (fun _ _ q=>Heap.get?_push_of_some _ q) (Nat.le_refl _) ⟨hz,its,0,hv,Heap.get?_push_size _ rfl⟩
theorem Inv.fresh (I:Inv X pins σ H s):H s.heap.objs.size=none:=I.hok.fresh (Nat.le_refl _)
theorem Inv.lstM (I:Inv X pins σ H s)(hH:H l=some (.lst xs)):xs.length≤sizeLine∧∃(its:List Value) (n:Nat),Vals xs its∧xs.length=its.length∧s.heap.get? l=some {cls:=.type "list",data:=.seq its.toArray n}:=by
 obtain⟨z,its,n,r,e⟩:=I.hok l _ hH
 exact⟨z,its,n,r,r.length,e⟩
theorem notLongL {n:Nat}(h:n≤sizeLine):Builtin.List.listTooLong n=false:=by
 unfold Builtin.List.listTooLong
 exact decide_eq_false (by exact Nat.not_lt.mpr h)
end
section
variable {X:Cx}
inductive rAppend_ (x:V)(vs:List V)(H:Hp)(Q:VK):Prop where
 |mk (l) (xs) (y):(x=.ref l)→(vs=[y])→(H l=some (.lst xs))→(xs.length<sizeLine)→(Q .non (upd H l (.lst (xs++[y]))))→rAppend_ x vs H Q
inductive rExtend_ (x:V)(vs:List V)(H:Hp)(Q:VK):Prop where
 |mk (l) (b) (xs) (zs):(x=.ref l)→(vs=[.ref b])→(H l=some (.lst xs))→(H b=some (.lst zs))→(xs.length+zs.length≤sizeLine)→(Q .non (upd H l (.lst (xs++zs))))→rExtend_ x vs H Q
def rExtend:V→List V→Hp→VK→Prop:=rExtend_
theorem mt_extend:MtM X "list.extend" rExtend:=by
 intro pins s σ H x vs v us Q I rx rv h
 obtain⟨l,b,xs,zs,rfl,rfl,hH,hB,hz,q⟩:=h
 cases rx
 obtain⟨u,rfl,ru⟩:=rv.one
 cases ru
 obtain⟨z,its,n,r,hl,e⟩:=I.lstM hH
 obtain⟨z2,its2,n2,r2,hl2,e2⟩:=I.lstM hB
 have hsz:its.toArray.size+its2.toArray.size≤sizeLine:=by rw[List.size_toArray,List.size_toArray];omega
 have hlong:¬(!its.toArray.isEmpty&&Builtin.List.listTooLong (its.toArray.size+its2.toArray.size))=true:=by
  rw[notLongL hsz,Bool.and_false]
  exact Bool.false_ne_true
 refine call_meets F.slot_list_extend ⟨_,e,rfl⟩ F.entry_list_extend (F.args_list_extend_2 _ _)
  (AutoSeq1.list_extend_list_list_0 l its.toArray n b its2.toArray n2 hlong (by rw[List.size_toArray];exact Nat.le_trans (Nat.le_add_right _ _) hsz) (by exact Nat.le_succ_of_le hsz)) ⟨e,e2,?_⟩
 refine⟨.non,_,I.lset (its':=its++its2) hH e (by simp) (r.append r2) ?_,rfl,q⟩
 rw[List.length_append]
 exact hz
inductive rPop_ (x:V)(vs:List V)(H:Hp)(Q:VK):Prop where
 |mk (l) (xs) (y):(x=.ref l)→(vs=[])→(H l=some (.lst xs))→(xs[xs.length-1]?=some y)→(Q y (upd H l (.lst xs.dropLast)))→rPop_ x vs H Q
def rPop:V→List V→Hp→VK→Prop:=rPop_
theorem mt_pop:MtM X "list.pop" rPop:=by
 intro pins s σ H x vs v us Q I rx rv h
 obtain⟨l,xs,y,rfl,rfl,hH,hy,q⟩:=h
 cases rx
 have hus:=rv.zero
 subst hus
 obtain⟨z,its,n,r,hl,e⟩:=I.lstM hH
 obtain⟨u,hu,ru⟩:=r.get hy
 have hy':its.toArray[its.toArray.size-1]?=some u:=by
  show its.toArray[its.length-1]?=some u
  rw[←Array.getElem?_toList,←hl]
  exact hu
 refine call_meets F.slot_list_pop ⟨_,e,rfl⟩ F.entry_list_pop (F.args_list_pop_1 _) (MeetsSeq.list_pop_last l its.toArray n u hy' (by rw[List.size_toArray];omega)) ⟨e,?_⟩
 refine⟨y,_,I.lset (its':=its.dropLast) hH e ?_ r.dropLast ?_,ru,q⟩
 ·show its.toArray.eraseIdxIfInBounds (its.toArray.size-1)=its.dropLast.toArray
  rw[List.size_toArray,List.eraseIdxIfInBounds_toArray,erase_last]
 ·rw[List.length_dropLast]
  omega
def rPopAt:V→List V→Hp→VK→Prop:=fun x vs H Q=>∃l xs i k y,x=.ref l∧vs=[.int i]∧H l=some (.lst xs)∧-(2^63)≤i∧i<2^63∧seqIndex? i xs.length=some k∧xs[k]?=some y∧Q y (upd H l (.lst (xs.eraseIdx k)))
theorem mt_popAt:MtM X "list.pop" rPopAt:=by
 intro pins s σ H x vs v us Q I rx rv h
 obtain⟨l,xs,i,k,y,rfl,rfl,hH,h1,h2,hk,hy,q⟩:=h
 cases rx
 obtain⟨u,rfl,ru⟩:=rv.one
 obtain⟨t,rfl⟩:=ru
 obtain⟨z,its,n,r,hl,e⟩:=I.lstM hH
 obtain⟨w,hw,rw'⟩:=r.get hy
 refine call_meets F.slot_list_pop ⟨_,e,rfl⟩ F.entry_list_pop (F.args_list_pop_2 _ _)
  (MeetsSeq.list_pop_at l its.toArray n i t k w (fitsIndex_both h1 h2) (by rw[List.size_toArray,←hl];exact hk) (by rw[←Array.getElem?_toList];exact hw) (by rw[List.size_toArray];omega)) ⟨e,?_⟩
 refine⟨y,_,I.lset (its':=its.eraseIdx k) hH e ?_ (r.eraseIdx k) ?_,rw',q⟩
 ·show its.toArray.eraseIdxIfInBounds k=(its.eraseIdx k).toArray
  rw[List.eraseIdxIfInBounds_toArray]
 ·have:=len_erase xs k
  exact Nat.le_trans this z
inductive rReverse_ (x:V)(vs:List V)(H:Hp)(Q:VK):Prop where
 |mk (l) (xs):(x=.ref l)→(vs=[])→(H l=some (.lst xs))→(Q .non (upd H l (.lst xs.reverse)))→rReverse_ x vs H Q
inductive rCat_ (x:V)(y:V)(H:Hp)(Q:VK):Prop where
 |mk (l) (b) (xs) (zs):(x=.ref l)→(y=.ref b)→(H l=some (.lst xs))→(H b=some (.lst zs))→(xs.length+zs.length≤sizeLine)→(∀p,H p=none→Q (.ref p) (upd H p (.lst (xs++zs))))→rCat_ x y H Q
def rCat:R2:=rCat_
theorem op_cat:OpR X (binaryOp .Add) rCat:=by
 intro pins s σ H x y v u Q I rx ry h
 obtain⟨l,b,xs,zs,rfl,rfl,hH,hB,hz,q⟩:=h
 cases rx
 cases ry
 obtain⟨z,its,n,r,hl,e⟩:=I.lstM hH
 obtain⟨z2,its2,n2,r2,hl2,e2⟩:=I.lstM hB
 refine PySem.P.add_list e e2 ?_ (by rw[List.size_toArray,List.size_toArray];omega)
 have ea:its.toArray++its2.toArray=(its++its2).toArray:=by simp
 rw[ea]
 exact⟨.ref _,_,I.lnew (t':=s.toks) (r.append r2) (by rw[List.length_append];exact hz),rfl,q _ I.fresh⟩
inductive rRep_ (x:V)(y:V)(H:Hp)(Q:VK):Prop where
 |mk (l) (k) (xs):(x=.ref l)→(y=.int k)→(H l=some (.lst xs))→(-(2^63)≤k)→(k<2^63)→(xs.length*k.toNat≤sizeLine)→(∀p,H p=none→Q (.ref p) (upd H p (.lst (List.replicate k.toNat xs).flatten)))→rRep_ x y H Q
end
section
variable {prog:Program}{w:World}{A:Around}{E:Value→Shared→Prop}{s:Shared}
end
section
variable {X:Cx}
end
end L2
namespace Att
open PySem PySem.W PySem.Calls PyProof.Rows
theorem ints_of_wellAll {P:Params}{h:Heap}:∀(ns:List Int) (vs:List Value),WellAll P h vs (ns.map WData.int)→IntsAre vs ns:=by
 intro ns
 induction ns with
 |nil=>
  intro vs w
  rw[List.map_nil]at w
  cases w
  exact .nil
 |cons n ns ih=>
  intro vs w
  rw[List.map_cons]at w
  cases w with
  |cons a b=>
   cases a
   exact .cons _ _ (ih _ b)
theorem script_of {l:OpenLaw}{n:Nat}(hn:l.most=some n){P:Params}{h:Heap}{args:List WData}{vals:List Value}
  (hpre:l.row.toRowW.claim.pre args=true) (hwl:WellAll P h vals args):
  ∃a vs ns,vals=[Value.ref a]∧args=[WData.list (ns.map WData.int)]∧h.get? a=some {cls:=.type "list",data:=.seq vs.toArray}∧IntsAre vs ns∧ns.length≤n:=by
 have hsh:WShape.hasAll [] args [.list .int]=true:=(pre_splitW hpre).1
 have hc:l.pre.holds [] {args:=args}=true:=(pre_splitW hpre).2
 obtain⟨d,r,rfl,h1,h2⟩:=hasAllW_cons hsh
 obtain rfl:=hasAllW_nil h2
 obtain⟨xs,rfl,h3⟩:=hasW_list h1
 obtain⟨ns,rfl⟩:=items_int h3
 have hlen:ns.length≤n:=by
  unfold OpenLaw.pre at hc
  have h4:(WTm.not (.lt (.lit (.int (n:Int))) (.len (.arg 0)))).holds [] {args:=[.list (ns.map .int)]}=true:=by
   have h4:=(holds_andW hc).1
   rw[hn]at h4
   exact h4
  have h5:=condW_of h4 (w_not (w_lt w_lit (w_len_list (w_arg rfl))))
  rw[List.length_map]at h5
  refine Nat.le_of_not_lt fun q=>?_
  have q':(n:Int)<((ns.length:Nat):Int):=by omega
  first
   |(rw[decide_eq_true q']at h5;exact absurd h5 (by decide))
   |(simp at h5;omega)
 cases hwl with
 |cons w1 w2=>
  cases w2
  cases w1 with
  |list ho hall=>exact⟨_,_,ns,rfl,rfl,ho,ints_of_wellAll ns _ hall,hlen⟩
theorem post_true (l:OpenLaw)(args:List WData):l.row.toRowW.claim.post args (.bool true) args=true :=
 postW_of (r:=l.row.toRowW) (X:=(true==true))
  (show WShape.has [] (.bool true) .bool=true by first|rfl|decide|simp[WShape.has,WShape.arms,WShape.armsAll])
  (show(WTm.eq .res (.lit (.bool true))).value [] {args:=args,res:=some (.bool true),after:=args}=some (.bool (true==true)) from w_eq_bool (w_res rfl) w_lit) rfl
theorem attach_call {l:OpenLaw}{n:Nat}{q:Program}{loose:List Str}{XP:(Str→Option Value)→Heap→Prop}{YP:World→Heap→Prop}{d:DefRec}
  (hn:l.most=some n) (hdf:d.params.defaults=[])
  (call:∀(w:World) (s₀ s₁:Shared) (mg mb:Str→Option Value) (fa:Addr) (o:Obj) (pm cd doc:Value) (a:Addr) (vs:List Value) (ns:List Int),
   Ground q loose [] XP w s₀ mg mb s₁.heap→YP w s₁.heap→
   s₁.heap.get? fa=some o→o.data=.func (docDef d.name d.params d.body d.scope pm cd doc)→s₁.heap.CodeRec cd d.name→mg d.name=some (.ref fa)→
   s₁.heap.get? a=some {cls:=.type "list",data:=.seq vs.toArray}→IntsAre vs ns→ns.length≤n→s₁.gens=#[]→
   codeAny (model l.prog w) callerA (.call (.ref fa) ⟨[.ref a],[]⟩) (fun r s'=>r=.ok (.ret (.bool true))∧OldK s₁.heap s'.heap∧s'.os=s₁.os∧AllBare s'.gens) s₁):
  WalkO q loose XP YP l.row.toRowW d [] (fun f vs=>PySem.call f vs):=by
 intro w s₀ s₁ mg mb G Y fa o pm cd doc dV kV ho hd hcd hD hmg hg args vals as hpre hlay hrd hwl hlo
 obtain rfl:dV=.none:=Dflts.none hD hdf
 obtain rfl:kV=.none:=Dflts.noKw hD
 obtain⟨a,vs,ns,rfl,rfl,hobj,hints,hlen⟩:=script_of hn hpre hwl
 refine enter_call (codeAny_mono (call w s₀ s₁ mg mb fa o pm cd doc a vs ns G Y ho (fd_plain hd) hcd hmg hobj hints hlen hg) fun r s' hq=>?_)
 obtain⟨rfl,h2,h3,h4⟩:=hq
 exact⟨.inl ⟨.bool true, .bool true,[],rfl,fun _=>rfl, .bool true,post_true l _,fun _=>⟨List.Pairwise.nil,fun _ hm=>(nomatch hm)⟩⟩,h2,h3,h4⟩
section
variable {prog:Program}{w:World}{A:Around}{E:Value→Shared→Prop}{s:Shared}{K:Frag}
end
end Att
namespace L2
open PySem PySem.Spec PyProof.Rows
theorem vals_ints:∀{vs:List Value} {ns:List Int},IntsAre vs ns→Vals (ns.map V.int) vs
 |_,_, .nil=>.nil
 |_,_, .cons n t h=>.cons ⟨t,rfl⟩ (vals_ints h)
def Only (H:Hp):Prop:=∀b,H b=none∨∃o xs,H b=some (.frz o (.lst xs))
theorem law_call {P:Program}{w:World}{K:PySem.W.Frag}{mg mb:Str→Option Value}{CX:CXT}{k:Nat}{fa a:Addr}{fd:FuncData}{x:Str}{sp:Sp}{s₁:Shared}{vs:List Value}{ns:List Int}
  (KX:K.In s₁.heap) (hns:s₁.heap.Ns mainGlobals mg) (hb:s₁.heap.Ns builtinsNs mb) (hbb:∀x:Str,x≠"__name__"→mb x=bootBuiltins x) (hlim:s₁.heap.NoLimit) (hg:s₁.gens=#[])
  (ha:s₁.heap.get? a=some {cls:=.type "list",data:=.seq vs.toArray}) (hi:IntsAre vs ns) (hl:ns.length≤sizeLine) (hr:Room k callerA)
  (F:∀base:Heap,K.In base→base.Ns mainGlobals mg→FnOk P w K mg base CX k fa fd [x] sp) (hbind:∀(s:Shared) (u:Value),BindsTo s fd ⟨[u],[]⟩ [(x,u)])
  (hsp:∀H:Hp,Only H→SqL K H a (ns.map V.int)→sp [.ref a] H (fun v _=>v=.bl true) fun _ _ _=>False)
  (hCX:∀H e s',CX [] H s₁ (fun _ _ _=>False) e s'→False):
  codeAny (model P w) callerA (.call (.ref fa) ⟨[.ref a],[]⟩) (fun r s'=>r=.ok (.ret (.bool true))∧OldK s₁.heap s'.heap∧s'.os=s₁.os∧AllBare s'.gens) s₁:=by
 have rv:=vals_ints hi
 have lenV:=hi.length
 have core:∀H:Hp,Only H→SqL K H a (ns.map V.int)→HOk P w H s₁.heap→(∀b,H b≠none→b=a)→(H a≠none→K.lookup a=none)→
   codeAny (model P w) callerA (.call (.ref fa) ⟨[.ref a],[]⟩) (fun r s'=>r=.ok (.ret (.bool true))∧OldK s₁.heap s'.heap∧s'.os=s₁.os∧AllBare s'.gens) s₁:=by
  intro H hO hS hok hA hK
  have base_of:∀{b:Addr} {o:Obj},s₁.heap.get? b=some o→H b=none→(hidT s₁.heap H).get? b=some o:=fun e n=>hidT_get e n
  have noA:∀{b:Addr} {o:Obj} {es:Array DictEntry} {ep:Nat},s₁.heap.get? b=some o→o.data=.dict es ep→H b=none:=fun{b o es ep} e d=>by
   cases q:H b with
   |none=>rfl
   |some u=>
    have e':b=a:=hA b (by rw[q];simp)
    subst e'
    rw[ha]at e;cases e
    have d':Data.seq vs.toArray _=Data.dict es ep:=d
    cases d'
  have nsK:∀{b:Addr} {m:Str→Option Value},s₁.heap.Ns b m→(hidT s₁.heap H).Ns b m:=fun{b m} ⟨o,es,ep,e,d,r⟩=>⟨o,es,ep,base_of e (noA e d),d,r⟩
  have hKb:K.In (hidT s₁.heap H):=fun b o e=>base_of (KX b o e) (by
   cases q:H b with
   |none=>rfl
   |some u=>
    have e':b=a:=hA b (by rw[q];simp)
    subst e'
    rw[hK (by rw[q];simp)]at e;cases e)
  have hM:Mod K mg (hidT s₁.heap H):=⟨hKb,nsK hns,⟨mb,nsK hb,hbb⟩,let ⟨mc,h1,h2⟩:=hlim;⟨mc,nsK h1,h2⟩⟩
  have e0:Env0 P w K mg (hidT s₁.heap H) callerA [] s₁ H:=⟨rfl,hM,fun b o e=>of_hidT e,Nat.le_of_eq (hidT_size _ _),trivial,fun b hb=>absurd (show b∈([]:List Addr) from hb) (by simp),hok, .of_eq hg⟩
  refine codeAny_mono ((F _ hKb (nsK hns)).run callerA [] s₁ H ⟨[.ref a],[]⟩ [.ref a] [.ref a] _ _ hr e0 (hbind s₁ (.ref a)) (.cons rfl .nil) (hsp H hO hS)) fun r s' h=>?_
  cases r with
  |error e=>exact(hCX H e s' h).elim
  |ok fl=>
   cases fl with
   |next=>exact False.elim h
   |brk=>exact False.elim h
   |cont=>exact False.elim h
   |ret u=>
    obtain⟨v,H',os,bare,un,hok',r',q⟩:=h
    have q':v=.bl true:=q
    subst q'
    obtain rfl:u=Value.bool true:=r'
    refine⟨rfl,OldK.of_keep fun b o e=>?_,os,bare⟩
    cases q:H b with
    |none=>exact un.keep b o e q (by intro z;exact absurd (show b∈([]:List Addr) from z) (by simp)) (by simp)
    |some u=>
     rcases hO b with z|⟨ob,xs,z⟩
     ·rw[q]at z;cases z
     ·have z2:=un.frzs b ob _ z
      obtain⟨e1,_⟩:=hok b _ z
      obtain⟨e2,_⟩:=hok' b _ z2
      rw[e]at e1;cases e1
      exact e2
 cases hk:K.lookup a with
 |some o=>
  have e:=KX a o hk
  rw[ha]at e
  cases e
  refine core (fun _=>none) (fun _=>.inl rfl) (.inr ⟨_,vs.toArray,_,hk,rfl,rfl,rfl,by rw[List.size_toArray,lenV];exact hl,by simpa using rv⟩) (fun b u z=>by have z':(none:Option HO)=some u:=z;cases z') (fun b z=>absurd rfl z) fun z=>absurd rfl z
 |none=>
  refine core (fun b=>if b=a then some (.frz {cls:=.type "list",data:=.seq vs.toArray} (.lst (ns.map V.int))) else none) (fun b=>?_) (.inl (.inr ⟨{cls:=.type "list",data:=.seq vs.toArray},if_pos rfl⟩)) (fun b u z=>?_) (fun b z=>?_) fun _=>hk
  ·by_cases hb:b=a
   ·exact .inr ⟨_,_,if_pos hb⟩
   ·exact .inl (if_neg hb)
  ·by_cases hb:b=a
   ·have z':=(if_pos hb).symm.trans z
    cases z'
    subst hb
    exact⟨ha,by rw[List.length_map];exact hl,vs,_,rv,ha⟩
   ·have z':=(if_neg hb).symm.trans z
    cases z'
  ·by_cases hb:b=a
   ·exact hb
   ·exact absurd (if_neg hb) z
theorem walk_of {l:PySem.W.OpenLaw}{n k:Nat}{q:Program}{loose:List Str}{XP:(Str→Option Value)→Heap→Prop}{YP:World→Heap→Prop}{d:DefRec}{K:Params→PySem.W.Frag}{CX:World→CXT}{sp:World→Sp}{x:Str}
  (hn:l.most=some n) (hn2:n≤sizeLine) (hdf:d.params.defaults=[]) (hr:Room k callerA)
  (hY:∀(w:World) (h:Heap),YP w h→(K w.params).In h)
  (F:∀(w:World) (mg:Str→Option Value) (fa:Addr) (h:Heap),(K w.params).In h→h.Ns mainGlobals mg→mg d.name=some (.ref fa)→
   ∃fd:FuncData,(∀(s:Shared) (u:Value),BindsTo s fd ⟨[u],[]⟩ [(x,u)])∧
    ∀base:Heap,(K w.params).In base→base.Ns mainGlobals mg→FnOk l.prog w (K w.params) mg base (CX w) k fa fd [x] (sp w))
  (hsp:∀(w:World) (H:Hp) (a:Addr) (ns:List Int),ns.length≤n→Only H→SqL (K w.params) H a (ns.map V.int)→sp w [.ref a] H (fun v _=>v=.bl true) fun _ _ _=>False)
  (hCX:∀(w:World) (H:Hp) (s:Shared) (e:Value) (s':Shared),CX w [] H s (fun _ _ _=>False) e s'→False):
  PySem.W.WalkO q loose XP YP l.row.toRowW d [] (fun f vs=>PySem.call f vs):=by
 refine Att.attach_call hn hdf fun w s₀ s₁ mg mb fa o pm cd doc a vs ns G Y ho hd hcd hmg hobj hints hlen hg=>?_
 have KX:=hY w _ Y
 obtain⟨fd,hb,hF⟩:=F w mg fa _ KX G.T.g hmg
 exact law_call KX G.T.g G.T.b G.T.builtins G.T.nolimit hg hobj hints (Nat.le_trans hlen hn2) hr hF hb (fun H hO hS=>hsp w H a ns hlen hO hS) fun H e s'=>hCX w H s₁ e s'
def inClass (s:Stmt)(j:Nat):Stmt:=match s with
 |.ClassDef _ _ _ body _ _ _ _ _ _ _=>body.getD j (.Pass ⟨0,0,0,0⟩)
 |_=>.Pass ⟨0,0,0,0⟩
def defArgs (s:Stmt):Arguments:=match s with
 |.FunctionDef _ a _ _ _ _ _ _ _ _=>a
 |_=>{posonlyargs:=[],args:=[],vararg:=none,kwonlyargs:=[],kw_defaults:=[],kwarg:=none,defaults:=[]}
def defBody (s:Stmt):List Stmt:=match s with
 |.FunctionDef _ _ b _ _ _ _ _ _ _=>b
 |_=>[]
def defScope (s:Stmt):Scope:=match s with
 |.FunctionDef _ _ _ _ _ _ sc _ _ _=>sc
 |_=>{kind:=.function,names:=[],isGenerator:=false,isCoroutine:=false}
abbrev CX0:CXT:=fun _ _ _ _ _ _=>False
abbrev E0:XK:=fun _ _ _=>False
theorem pass0 {X:Cx}:Passes CX0 X E0:=fun _ _ _ _ _ _ _ h=>h.elim
structure Fun (K:PySem.W.Frag)(x qual:Str)(st:Stmt)(f:Addr)(fd:FuncData):Prop where
 ex:∃(oc:Value) (od:Option Addr) (kV doc pm:Value) (an:Option Addr) (cdv ct:Value) (osl:Array (Option Value)),
  fd=PySem.W.fnOf x qual (defArgs st) (defBody st) (defScope st) .none kV doc pm an cdv ct∧K.lookup f=some ⟨oc,od, .func fd,osl⟩∧PySem.W.codeIn K cdv qual=true
 kp:PySem.W.keepIn K (.ref f)=true
section
variable {P:Program}{w:World}{K:PySem.W.Frag}{mg:Str→Option Value}{base:Heap}
theorem Fun.ok {x qual:Str}{st:Stmt}{f:Addr}{fd:FuncData}{N ps:List Str}{k:Nat}{sp:Sp}(F:Fun K x qual st f fd)(S:FnScope N ps (defScope st))
  (hbody:∀(cdv:Value) (A:Around) (outer:List Env) (s:Shared) (H:Hp) (vs:List V) (Q:VK) (E:XK),Room k (A.deeper (envOfC qual (defScope st) s.heap.objs.size f cdv))→sp vs H Q E→
   ∃t,PSs (cxOf CX0 P w K mg base N qual (defScope st) f cdv A outer s H E).nox (defBody st) t∧t (Ends.of Q) (start N vs) H) (len:∀vs H Q E,sp vs H Q E→vs.length=ps.length:=by rintro _ _ _ _ ⟨⟩;subst_vars;rfl):FnOk P w K mg base CX0 (k+1) f fd ps sp:=by
 obtain⟨oc,od,kV,doc,pm,an,cdv,ct,osl,rfl,lk,hcd⟩:=F.ex
 refine fn_of lk hcd S len fun A outer s H vs Q E hr hsp=>?_
 obtain⟨t,h,q⟩:=hbody cdv A outer s H vs Q E hr hsp
 exact⟨t,h.nox,q⟩
theorem Fun.binds {x qual:Str}{st:Stmt}{f:Addr}{fd:FuncData}{ps:List Str}(F:Fun K x qual st f fd)
  (h:∀(kV doc pm:Value) (an:Option Addr) (cdv ct:Value) (us:List Value),us.length=ps.length→bindArgs (PySem.W.fnOf x qual (defArgs st) (defBody st) (defScope st) .none kV doc pm an cdv ct) ⟨us,[]⟩=pure (ps.zip us)):Binds K fd ps []:=by
 obtain⟨oc,od,kV,doc,pm,an,cdv,ct,osl,rfl,lk,hcd⟩:=F.ex
 exact .all (h kV doc pm an cdv ct)
theorem fun_mk {x qual:Str}{st:Stmt}{f:Addr}{oc:Value}{od an:Option Addr}{osl:Array (Option Value)}{kV doc pm cdv ct:Value}(l:K.lookup f=some ⟨oc,od, .func (PySem.W.fnOf x qual (defArgs st) (defBody st) (defScope st) .none kV doc pm an cdv ct),osl⟩)
  (c:PySem.W.codeIn K cdv qual=true) (k:PySem.W.keepIn K (.ref f)=true):Fun K x qual st f (PySem.W.fnOf x qual (defArgs st) (defBody st) (defScope st) .none kV doc pm an cdv ct):=⟨⟨oc,od,kV,doc,pm,an,cdv,ct,osl,rfl,l,c⟩,k⟩
end
theorem hu_of {A:Around}{k:Nat}(hr:Room k A):A.units+1<cLine:=Nat.lt_of_le_of_lt (Nat.add_le_add_left (by decide:1≤64) _) hr.units
section
variable {X:Cx}
theorem pv (i:Nat){x:Str}{pos:Pos}(hN:X.N[i]?=some x:=by rfl)(hv:Vis X.env.scope x:=by first|exact Or.inl rfl|exact Or.inr (Or.inl rfl)|exact Or.inr (Or.inr rfl))(hd:(x==("__debug__":Str))=false:=by decide)
  (hcd:(x==("__classdict__":Str))=false:=by decide):PE X (.Name x pos) (tVar i):=pe_var hN hv hd hcd
end
theorem iteF {A B:Prop}(h:B):if false=true then A else B:=by
 rw[if_neg Bool.false_ne_true]
 exact h
theorem iteT {A B:Prop}(h:A):if true=true then A else B:=by
 rw[if_pos rfl]
 exact h
theorem ite2 {c A B:Prop}[Decidable c](h1:c→A)(h2:¬c→B):if c then A else B:=by
 by_cases h:c
 ·rw[if_pos h]
  exact h1 h
 ·rw[if_neg h]
  exact h2 h
def Same (H H':Hp):Prop:=∀b o,H b=some o→H' b=some o
theorem Same.refl (H:Hp):Same H H:=fun _ _ h=>h
theorem Same.trans {H H1 H2:Hp}(a:Same H H1)(b:Same H1 H2):Same H H2:=fun c o h=>b c o (a c o h)
theorem Same.free {H H':Hp}(e:Same H H'){l:Addr}(h:H' l=Option.none):H l=Option.none:=by
 cases q:H l with
 |none=>rfl
 |some o=>
  rw[e l o q]at h
  cases h
theorem Same.seq {K:PySem.W.Frag}{H H':Hp}{a:Addr}{xs:List V}(e:Same H H')(h:SqL K H a xs):SqL K H' a xs:=by
 rcases h with (h|⟨o,h⟩)|h
 ·exact .inl (.inl (e _ _ h))
 ·exact .inl (.inr ⟨o,e _ _ h⟩)
 ·exact .inr h
def closL (cells:List (Str×Addr)):List (Str×NameKind)→List (Str×Addr)→List (Str×Addr)
 |[],acc=>acc
 |(n,k)::r,acc=>if k==.free then(match cells.lookup n with|some c=>closL cells r ((n,c)::acc)|none=>closL cells r acc) else closL cells r acc
theorem closL_forIn {env:Env}:∀(names:List (Str×NameKind)) (acc:List (Str×Addr)),(∀p∈names,p.2=.free→∃c,env.cells.lookup p.1=some c)→
  (forIn names acc fun(x:Str×NameKind) (r:List (Str×Addr))=>(if(x.2==NameKind.free)=true then(do let a ←cellOf env x.1;pure (ForInStep.yield ((x.1,a)::r))) else pure (ForInStep.yield r):Sem (ForInStep (List (Str×Addr)))))=pure (closL env.cells names acc):=by
 intro names
 induction names with
 |nil=>intro acc _;rfl
 |cons p r ih=>
  intro acc h
  obtain⟨n,k⟩:=p
  rw[List.forIn_cons]
  cases hk:k==NameKind.free with
  |false=>
   simp only[hk,Bool.false_eq_true,if_false,pure_bind,closL]
   exact ih acc fun q hq=>h q (List.mem_cons_of_mem _ hq)
  |true=>
   have e:k=.free:=by simpa using hk
   obtain⟨c,hc⟩:=h (n,k) List.mem_cons_self e
   simp only[hk,if_true,closL,cellOf,hc,pure_bind]
   exact ih _ fun q hq=>h q (List.mem_cons_of_mem _ hq)
theorem closL_eq {scope:Scope}{env:Env}(h:∀p∈scope.names,p.2=.free→∃c,env.cells.lookup p.1=some c):closureFor scope env=pure (closL env.cells scope.names []):=by
 have q:=closL_forIn (env:=env) scope.names [] h
 simp only[closureFor]
 first
  |exact q
  |(rw[←q];simp)
  |simpa using q
theorem closL_look {cells:List (Str×Addr)}:∀(names:List (Str×NameKind)) (acc:List (Str×Addr)) (y:Str) (c:Addr),(closL cells names acc).lookup y=some c→cells.lookup y=some c∨acc.lookup y=some c:=by
 intro names
 induction names with
 |nil=>intro acc y c h;exact .inr h
 |cons p r ih=>
  intro acc y c h
  obtain⟨n,k⟩:=p
  unfold closL at h
  split at h
  ·split at h
   ·rename_i c' hc
    rcases ih _ y c h with q|q
    ·exact .inl q
    ·rw[List.lookup_cons]at q
     cases e:y==n with
     |true=>
      rw[e]at q
      have e':y=n:=by simpa using e
      subst e'
      have q':some c'=some c:=q
      rw[←q'];exact .inl hc
     |false=>rw[e]at q;exact .inr q
   ·exact ih _ y c h
  ·exact ih _ y c h
theorem closL_acc {cells:List (Str×Addr)}:∀(names:List (Str×NameKind)) (acc:List (Str×Addr)) (y:Str),(∃c,acc.lookup y=some c)→∃c,(closL cells names acc).lookup y=some c:=by
 intro names
 induction names with
 |nil=>intro acc y h;exact h
 |cons p r ih=>
  intro acc y h
  obtain⟨n,k⟩:=p
  unfold closL
  split
  ·split
   ·refine ih _ y ?_
    rw[List.lookup_cons]
    cases e:y==n with
    |true=>exact⟨_,rfl⟩
    |false=>exact h
   ·exact ih _ y h
  ·exact ih _ y h
theorem closL_has {cells:List (Str×Addr)}:∀(names:List (Str×NameKind)) (acc:List (Str×Addr)) (y:Str),(y,NameKind.free)∈names→(∃c,cells.lookup y=some c)→∃c,(closL cells names acc).lookup y=some c:=by
 intro names
 induction names with
 |nil=>intro acc y h _;cases h
 |cons p r ih=>
  intro acc y h hc
  obtain⟨n,k⟩:=p
  unfold closL
  rcases List.mem_cons.mp h with e|h
  ·cases e
   obtain⟨c,hc⟩:=hc
   simp only[beq_self_eq_true,if_true,hc]
   exact closL_acc _ _ _ ⟨c,by rw[List.lookup_cons,beq_self_eq_true]⟩
  ·split
   ·split
    ·exact ih _ y h hc
    ·exact ih _ y h hc
   ·exact ih _ y h hc
def cxComp (X:Cx)(N':List Str)(scope:Scope)(C:Addr)(s₀:Shared)(H₀:Hp)(ex:List Addr):Cx :=
 {X with N:=N',s₀:=s₀,H₀:=H₀,env:=compEnvC scope (closL X.env.cells scope.names []) C X.env,outer:=X.stack,stack:=X.stack,ex:=ex,fn:=fun _=>false,xe:=fun _ _=>False}
def cxCompE (X:Cx)(N':List Str)(scope:Scope)(C:Addr)(s₀:Shared)(H₀:Hp)(ex:List Addr)(XE:Addr→Shared→Hp→List Addr→Value→Shared→Prop):Cx:={cxComp X N' scope C s₀ H₀ ex with xe:=XE C s₀ H₀ ex}
def noX:Addr→Shared→Hp→List Addr→Value→Shared→Prop:=fun _ _ _ _ _ _=>False
theorem cxE_no (X:Cx)(N':List Str)(scope:Scope)(C:Addr)(s₀:Shared)(H₀:Hp)(ex:List Addr):cxCompE X N' scope C s₀ H₀ ex noX=cxComp X N' scope C s₀ H₀ ex:=rfl
def PTs (X:Cx)(ifs:List Expr)(t:TT):Prop :=
 ∀(pins:List (Addr×Obj)) (s:Shared) (σ:St) (H:Hp) (Q:Bool→Hp→Prop),Inv X pins σ H s→t σ H Q→
  wpAny (model X.prog X.w) X.A (forIn ifs true fun c r=>if r=true then do let ok ←isTrue c X.env (eval c X.env);pure (ForInStep.yield ok) else pure (ForInStep.yield r)) (TP X pins σ Q) X.xe s
def tTrue:TT:=fun _ H Q=>Q true H
theorem pts_nil {X:Cx}:PTs X [] tTrue:=fun _ _ _ H _ I h=>wpAny_tests_nil ⟨H,I,h⟩
theorem pts_one {X:Cx}{c:Expr}{t:TT}(h:PT X c t):PTs X [c] t:=fun pins s σ H Q I q=>wpAny_tests_one (h pins s σ H Q I q)
section
variable {prog:Program}{w:World}{A:Around}{R:Result→Shared→Prop}{s:Shared}
theorem compLoop_go {elt target iter:Expr}{ifs:List Expr}{scope:Scope}{pos:Pos}{it acc:Value}{env:Env}(I:Nat→Shared→Prop)(E':Value→Shared→Prop)(hE:∀e s,E' e s→notedBy (model prog w) A env (fun x s'=>R (.error x) s') e s)
  (turn:∀n s,I n s→wpAny (model prog w) A (pyNext it) (fun r s₁=>match r with
   |none=>R (.ok .next) s₁
   |some v=>wpAny (model prog w) A (letOwnedTupleGo target it v) (fun _ s₀=>wpAny (model prog w) A (assign target env v) (fun _ s₂=>
     wpAny (model prog w) A (forIn ifs true fun c r=>if r=true then do let ok ←isTrue c env (eval c env);pure (ForInStep.yield ok) else pure (ForInStep.yield r)) (fun ok s₃=>
      if ok=true then wpAny (model prog w) A (eval elt env) (fun x s₄=>
       wpAny (model prog w) A (call (.builtin "list.append") [acc,x]) (fun _ s₅=>∃m,m<n∧I m s₅) E' s₄) E' s₃
      else ∃m,m<n∧I m s₃) E' s₂) E' s₀) E' s₁) E' s)
  (n:Nat) (h:I n s):
  codeAny (model prog w) A (.compLoop (.ListComp elt [⟨target,iter,ifs,0⟩] scope pos) 0 it acc env) R s:=by
 refine codeAny_loop rfl I (fun n s hI=>?_) n h
 show wpAny _ A ((compTurn (.ListComp elt [⟨target,iter,ifs,0⟩] scope pos) 0 it acc env).onRaise (fun x=>do noteFrame x env;theTreesLotGoes x)) _ _ s
 refine wpAny_noted ?_
 rw[compTurn_list]
 refine wpAny_bind (wpAny_standAt (wpAny_bind (wpAny_mono (turn n s hI) (fun r s₁ h₁=>?_) hE)))
 cases r with
 |none=>exact wpAny_pure h₁
 |some v=>
  refine wpAny_bind (wpAny_mono h₁ (fun _ s₀ h₀=>?_) hE)
  refine wpAny_bind (wpAny_mono h₀ (fun _ s₂ h₂=>wpAny_bind (wpAny_mono h₂ (fun ok s₃ h₃=>?_) hE)) hE)
  cases ok with
  |false=>exact wpAny_pure ⟨rfl,h₃⟩
  |true=>
   exact wpAny_bind (wpAny_bind (wpAny_mono h₃ (fun x s₄ h₄=>wpAny_bind (wpAny_mono h₄ (fun _ s₅ h₅=>wpAny_pure (wpAny_pure ⟨rfl,h₅⟩)) hE)) hE))
end
structure CompScope (X:Cx)(x:Str)(frees:List Str)(idx:List Nat)(scope:Scope):Prop where
 kind:scope.kind=.function
 nocell:∀y∈scope.names,y.2≠.cell
 loc:∀y∈scope.names,y.2=.local→scope.names.lookup y.1=some .local
 tgt:scope.names.lookup x=some .local
 nd:(x::frees).Nodup
 fr:∀y∈scope.names,y.2=.free→X.env.kindOf y.1=some .cell∨X.env.kindOf y.1=some .free
 ix:∀(j:Nat) (y:Str),frees[j]?=some y→∃k,idx[j]?=some k∧X.N[k]?=some y
 len:idx.length=frees.length
 cl:∀y∈frees,(y,NameKind.free)∈scope.names
def outs (σ:St)(idx:List Nat):St:=idx.map fun k=>(σ[k]?).join
def CompW (J:It)(tt:TT)(te:TE)(σ':St)(Q:VK)(H1:Hp):Prop:=∃W:Nat→Nat→List V→Hp→Prop,(∃m,W 0 m [] H1)∧∀i m vs H2,W i m vs H2→
 vs.length<sizeLine∧((J.stop i H2∧∀l,H2 l=none→Q (.ref l) (upd H2 l (.lst vs)))∨
  (J.go i H2∧∀x H3,J.yld i H2 x H3→tt (some x::σ') H3 fun b H4=>if b=true then te (some x::σ') H4 fun v H5=>∃m',m'<m∧W (i+1) m' (vs++[v]) H5 else ∃m',m'<m∧W (i+1) m' vs H4))
def tComp (idx:List Nat)(wi:TI)(tt:TT)(te:TE):TE:=fun σ H Q=>wi σ H fun J H1=>CompW J tt te (outs σ idx) Q H1
theorem Vals.snoc {xs:List V}{us:List Value}{x:V}{u:Value}(h:Vals xs us)(r:RelV x u):Vals (xs++[x]) (us++[u]):=Vals.append h (.cons r .nil)
theorem mem_of_lookup' {α β:Type}[BEq α][LawfulBEq α]{l:List (α×β)}{x:α}{b:β}(h:l.lookup x=some b):(x,b)∈l:=by
 induction l with
 |nil=>simp at h
 |cons p r ih=>
  obtain⟨n,k⟩:=p
  rw[List.lookup_cons]at h
  cases e:x==n with
  |true=>
   rw[e]at h
   have e':x=n:=by simpa using e
   have h':k=b:=Option.some.inj h
   subst e' h'
   exact List.mem_cons_self
  |false=>rw[e]at h;exact List.mem_cons_of_mem _ (ih h)
theorem relabel_free {scope:Scope}{env:Env}{y:Str}(h:(relabel scope env).names.lookup y=some .cell∨(relabel scope env).names.lookup y=some .free)(hc:∀y∈scope.names,y.2≠.cell):(y,NameKind.free)∈scope.names:=by
 have q:∃k,(y,k)∈(relabel scope env).names∧(k=.cell∨k=.free):=by
  rcases h with h|h
  ·exact⟨_,mem_of_lookup' h, .inl rfl⟩
  ·exact⟨_,mem_of_lookup' h, .inr rfl⟩
 obtain⟨k,hm,hk⟩:=q
 obtain⟨⟨n,k'⟩,hm',e⟩:=List.mem_map.mp hm
 dsimp only at e
 split at e
 ·rename_i hf
  cases e
  have:k'=.free:=by
   simp only[Bool.and_eq_true,beq_iff_eq]at hf
   exact hf.1.1
  subst this
  exact hm'
 ·cases e
  rcases hk with rfl|rfl
  ·exact absurd rfl (hc _ hm')
  ·exact hm'
theorem lookup_relabel_free {env:Env}:∀{names:List (Str×NameKind)} {x:Str},names.lookup x=some .free→
  ((names.map fun(n,k)=>if(k==NameKind.free&&env.scope.kind==.function&&env.kindOf n==some .cell) then(n,NameKind.cell) else(n,k)).lookup x=some .cell∨
   (names.map fun(n,k)=>if(k==NameKind.free&&env.scope.kind==.function&&env.kindOf n==some .cell) then(n,NameKind.cell) else(n,k)).lookup x=some .free)
 |[],_,h=>by simp at h
 |(n,k)::r,x,h=>by
  have ih:=@lookup_relabel_free env r x
  rw[List.map_cons]
  cases hx:x==n with
  |true=>
   simp only[List.lookup_cons,hx]at h
   have hk:k=.free:=Option.some.inj h
   subst hk
   by_cases hc:(NameKind.free==NameKind.free&&env.scope.kind==.function&&env.kindOf n==some .cell)=true
   ·left
    simp only[hc,if_true,List.lookup_cons,hx]
   ·right
    simp only[hc,if_false,List.lookup_cons,hx,Bool.false_eq_true]
  |false=>
   simp only[List.lookup_cons,hx]at h
   by_cases hc:(k==NameKind.free&&env.scope.kind==.function&&env.kindOf n==some .cell)=true
   ·simp only[hc,if_true,List.lookup_cons,hx];exact ih h
   ·simp only[hc,if_false,List.lookup_cons,hx,Bool.false_eq_true];exact ih h
theorem Inv.track {X:Cx}{pins:List (Addr×Obj)}{σ:St}{H:Hp}{s:Shared}{D:Addr}{vs:List V}{its:List Value}{k:Nat}(I:Inv X pins σ H s)(hD:H D=none)(hz:vs.length≤sizeLine)(hv:Vals vs its)
  (e:s.heap.get? D=some {cls:=.type "list",data:=.seq its.toArray k}) (h1:D∈X.ex∨X.s₀.heap.objs.size≤D) (h2:D≠X.env.locals) (h3:∀x c,X.env.cells.lookup x=some c→c≠D) (h4:∀p∈X.pn++pins,p.1≠D):
  Inv X pins σ (upd H D (.lst vs)) s:=by
 obtain⟨hh,g,d,t,o⟩:=s
 have nD:∀b u,H b=some u→b≠D:=fun b u q z=>by rw[z,hD]at q;cases q
 refine I.step (g':=g) (d':=d) (t':=t) (h':=hh) (ch:=[D]) (fun b hb=>?_) (fun b o _ _ _ q _=>q) (fun b o _ _ _ q _=>⟨o.slots,q⟩) (fun b o hb q n=>?_) (fun b o _ q=>⟨o,q⟩)
  (fun b xs q=>by rw[upd_ne (nD b _ q)];exact q) (fun b o u q=>by rw[upd_ne (nD b _ q)];exact q) (fun b ps q=>⟨#[],by rw[upd_ne (nD b _ q),q];simp⟩) (fun m q=>q) (fun b u q=>?_) I.bare
 ·have z:b=D:=by simpa using hb
  subst z
  exact⟨h1,h2,h3,h4⟩
 ·rw[upd_ne (by simpa using hb)];exact n
 ·by_cases z:b=D
  ·subst z
   rw[upd_same]at q;cases q
   exact⟨hz,its,k,hv,e⟩
  ·rw[upd_ne z]at q
   exact(I.hok b u q).stay (fun _ _ _ q=>q) (fun c q=>by rw[upd_ne (nD c _ q)];exact q) fun c xs q=>by rw[upd_ne (nD c _ q)];exact q
structure CompScopeM (X:Cx)(frees:List Str)(idx:List Nat)(scope:Scope):Prop where
 kind:scope.kind=.function
 nocell:∀y∈scope.names,y.2≠.cell
 loc:∀y∈scope.names,y.2=.local→scope.names.lookup y.1=some .local
 fr:∀y∈scope.names,y.2=.free→X.env.kindOf y.1=some .cell∨X.env.kindOf y.1=some .free
 ix:∀(j:Nat) (y:Str),frees[j]?=some y→∃k,idx[j]?=some k∧X.N[k]?=some y
 len:idx.length=frees.length
 cl:∀y∈frees,(y,NameKind.free)∈scope.names
def CompWM (n:Nat)(J:It)(g:TG)(tt:TT)(te:TE)(σ':St)(Q:VK)(H1:Hp):Prop:=∃W:Nat→Nat→List V→Hp→Prop,(∃m,W 0 m [] H1)∧∀i m vs H2,W i m vs H2→
 vs.length<sizeLine∧((J.stop i H2∧∀l,H2 l=none→Q (.ref l) (upd H2 l (.lst vs)))∨
  (J.go i H2∧∀(τ:St) x H3,τ.length=n→J.yld i H2 x H3→g x (τ++σ') H3 fun σ1 H4=>(∃τ':St,σ1=τ'++σ'∧τ'.length=n)∧
   tt σ1 H4 fun b H5=>if b=true then te σ1 H5 fun v H6=>∃m',m'<m∧W (i+1) m' (vs++[v]) H6 else ∃m',m'<m∧W (i+1) m' vs H5))
def tCompM (n:Nat)(idx:List Nat)(wi:TI)(g:TG)(tt:TT)(te:TE):TE:=fun σ H Q=>wi σ H fun J H1=>CompWM n J g tt te (outs σ idx) Q H1
theorem comp_core {X:Cx}{elt iter tg:Expr}{M:List Str}{g:TG}{pos p1:Pos}{ifs:List Expr}{scope:Scope}{frees:List Str}{idx:List Nat}{wi:TI}{tt:TT}{te:TE}{XE:Addr→Shared→Hp→List Addr→Value→Shared→Prop}
  {qt:Cx→Prop} (hc:∀C s₀ H₀ ex,qt (cxCompE X (M++frees) scope C s₀ H₀ ex XE)) (S:CompScopeM X frees idx scope) (hfl:∀y∈frees,scope.names.lookup y=some .free) (hi:PIQ qt X tg iter wi) (hg:∀C s₀ H₀ ex,PG (cxCompE X (M++frees) scope C s₀ H₀ ex XE) tg g)
  (ht:∀C s₀ H₀ ex,PTs (cxCompE X (M++frees) scope C s₀ H₀ ex XE) ifs tt) (he:∀C s₀ H₀ ex,PE (cxCompE X (M++frees) scope C s₀ H₀ ex XE) elt te)
  (hs:∀v,foldedSetIterable iter X.env v=pure v) {use:Option (Value→Sem Unit)} {Q':Value→Shared→Prop} {pins:List (Addr×Obj)} {s:Shared} {σ:St} {H:Hp} {Q:VK} (I:Inv X pins σ H s) (h:tCompM M.length idx wi g tt te σ H Q)
  (hxe:∀C s2 H2 ex D,Inv X pins σ H2 s2→(∀b∈ex,FpOk X pins H2 b)→s2.heap.objs.size≤C→D≠C→∀e s',XE C s2 H2 ex e s'→notedBy (model X.prog X.w) X.A (compEnvC scope (closL X.env.cells scope.names []) C X.env) (fun x s''=>compPost (model X.prog X.w) X.A X.xe use Q' (.ref D) C (.error x) s'') e s')
  (hpost:∀(D C:Addr) (H':Hp) m4 (s4:Shared),s4.heap.Ns C m4→(∀h',Heap.SameBut C s4.heap h'→Inv X pins σ H' {s4 with heap:=h'})→H' C=none→C≠X.env.locals→C∉X.fs→X.s₀.heap.objs.size≤C→(∀z c,X.env.cells.lookup z=some c→c≠C)→(∀p∈X.pn++pins,p.1≠C)→Q (.ref D) H'→
   compPost (model X.prog X.w) X.A X.xe use Q' (.ref D) C (.ok .next) s4):
  wpAny (model X.prog X.w) X.A (comprehension (.ListComp elt [⟨tg,iter,ifs,0⟩] scope pos) scope X.env p1 (newList []) (firstAsync [⟨tg,iter,ifs,0⟩]) (firstIter [⟨tg,iter,ifs,0⟩] X.env) use) Q' X.xe s:=by
 have hclos:=closL_eq (scope:=scope) (env:=X.env) fun p hp hf=>I.ok.has p.1 (S.fr p hp hf)
 refine wpAny_comprehension_free (use:=use) rfl hs hclos S.kind S.loc (thn (hi pins s σ H _ I h) fun v s1 h1=>thn h1 fun itv s2 h2=>?_)
 obtain⟨it,fp,tn,J,H2,rfl,I2,T,st2,f2,W,⟨m0,w0⟩,turn⟩:=h2
 refine wpAny_newObj_type (wpAny_newFunctionEnv S.nocell (by intro y hy;simp at hy) (fun h₁ hns₁ hsb₁=>?_) S.kind)
 dsimp only at hns₁ hsb₁ ⊢
 generalize hH2:s2.heap.push {cls:=.type "list",dict:=none,data:=.seq ([]:List Value).toArray}=G2 at hns₁ hsb₁ ⊢
 have hCe:G2.objs.size=s2.heap.objs.size+1:=by rw[←hH2,Heap.size_push]
 generalize hC:G2.objs.size=C at hns₁ hsb₁ hCe ⊢
 have hCle:s2.heap.objs.size≤C:=by omega
 have hDC:s2.heap.objs.size≠C:=by omega
 have below:∀b,b<s2.heap.objs.size→b≠C:=fun b hb=>by omega
 have old:∀b o,s2.heap.get? b=some o→h₁.get? b=some o:=fun b o e=>hsb₁.extBut b o (below b (Heap.lt_size e)) (Heap.get?_push_of_some _ (hH2 ▸ Heap.get?_push_of_some _ e))
 have hacc:∃k,h₁.get? s2.heap.objs.size=some {cls:=.type "list",data:=.seq ([]:List Value).toArray k}:=⟨_,hsb₁.extBut _ _ hDC (Heap.get?_push_of_some _ (hH2 ▸ Heap.get?_push_size _ rfl))⟩
 have look:∀y c,(closL X.env.cells scope.names []).lookup y=some c→X.env.cells.lookup y=some c:=fun y c e=>by
  rcases closL_look _ _ y c e with q|q
  ·exact q
  ·cases q
 have fpD:∀b∈fp,b<s2.heap.objs.size:=fun b hb=>by
  obtain⟨o,e,_⟩:=T.obj _ _ st2 b hb
  exact Heap.lt_size e
 have ok':(cxCompE X (M++frees) scope C s2 H2 fp XE).Ok:={
  mod:=I2.ok.mod
  kind:=S.kind
  glob:=I2.ok.glob
  blt:=I2.ok.blt
  above:=hCle
  inj:=fun y z c e1 e2=>I2.ok.inj y z c (look y c e1) (look z c e2)
  has:=fun y hy=>by
   have q:=relabel_free (scope:=scope) (env:=X.env) hy S.nocell
   exact closL_has _ _ y q (I2.ok.has y (S.fr _ q rfl))
  cab:=fun y c hf=>by cases hf
  hd:=I2.ok.hd
  frames:=I2.ok.frames
  stk:=.inl rfl
  exf:=fun b hb=>⟨below b (fpD b hb),fun y c e=>(f2 b hb).2.2.2.2.1 y c (look y c e)⟩
  bs:=I2.bs
  bsz:=Nat.le_trans I2.ok.bsz I2.sz
  noex:=fun b o e hb=>by
   rcases(f2 b hb).2.2.2.1 with z|z
   ·exact I2.ok.noex b o e z
   ·exact absurd (Nat.lt_of_lt_of_le (Heap.lt_size e) (Nat.le_trans I2.ok.bsz z)) (Nat.lt_irrefl _)
  exfs:=fun b hb hf=>by
   rcases List.mem_cons.mp (I2.stkSub b hf) with z|z
   ·exact(f2 b hb).2.1 z
   ·exact(f2 b hb).2.2.1 z
  funs:=I2.stack
  frf:=I2.stkFree}
 have Dfs:s2.heap.objs.size∉frs X.stack:=fun hb=>by
  rcases List.mem_cons.mp (I2.stkSub _ hb) with z|z
  ·have q:=I2.lt
   rw[←z]at q
   exact Nat.lt_irrefl _ q
  ·exact I2.nofs (Nat.le_refl _) z
 have Dcell:∀y c,X.env.cells.lookup y=some c→c≠s2.heap.objs.size:=fun y c e z=>by
  obtain⟨v,q⟩:=I2.cell y c e
  have q':=q.lt
  rw[z]at q'
  exact Nat.lt_irrefl _ q'
 have Dpin:∀p∈X.pn++pins,p.1≠s2.heap.objs.size:=fun p hp z=>by
  have q':=Heap.lt_size (I2.pin p hp).1
  rw[z]at q'
  exact Nat.lt_irrefl _ q'
 have I3:Inv (cxCompE X (M++frees) scope C s2 H2 fp XE) pins (List.replicate M.length none++outs σ idx) H2 {s2 with heap:=h₁,toks:=s2.toks+([]:List (Str×Value)).length}:={
  ok:=ok'
  os:=rfl
  bare:=I2.bare
  base:=Un.kept old
  loc:=by
   refine⟨_,hns₁,fun i y v e1 e2 e3=>?_⟩
   by_cases hi':i<M.length
   ·rw[List.getElem?_append_left (by rw[List.length_replicate];exact hi'),List.getElem?_replicate,if_pos hi']at e2
    cases e2
   ·obtain⟨j,rfl⟩:∃j,i=M.length+j:=⟨i-M.length,by omega⟩
    have e1':frees[j]?=some y:=by
     have e1'':(M++frees)[M.length+j]?=some y:=e1
     rw[List.getElem?_append_right (Nat.le_add_right _ _),Nat.add_sub_cancel_left]at e1''
     exact e1''
    have e2':(outs σ idx)[j]?=some (some v):=by
     rw[List.getElem?_append_right (by rw[List.length_replicate];exact Nat.le_add_right _ _),List.length_replicate,Nat.add_sub_cancel_left]at e2
     exact e2
    obtain⟨k,hk,hN⟩:=S.ix j y e1'
    have hy:y∈frees:=List.mem_of_getElem? e1'
    have e4:σ[k]?=some (some v):=by
     unfold outs at e2'
     rw[List.getElem?_map,hk]at e2'
     have e5:(σ[k]?).join=some v:=Option.some.inj e2'
     cases q:σ[k]? with
     |none=>rw[q]at e5;cases e5
     |some o=>rw[q]at e5;exact congrArg some e5
    obtain⟨m,hn,hl⟩:=I2.loc
    have kin:=S.fr _ (S.cl y hy) rfl
    have vis:Vis X.env.scope y:=by
     rcases kin with z|z
     ·exact .inr (.inl z)
     ·exact .inr (.inr z)
    obtain⟨u,r,l⟩:=hl k y v hN e4 vis
    refine⟨u,r, .inr ⟨lookup_relabel_free (env:=X.env) (hfl y hy),?_⟩⟩
    rcases l with ⟨z,_⟩|⟨_,c,ec,ic⟩
    ·rcases kin with z'|z'
     ·have z'':X.env.kindOf y=some .cell:=z'
      rw[z]at z'';cases z''
     ·have z'':X.env.kindOf y=some .free:=z'
      rw[z]at z'';cases z''
    ·obtain⟨c',ec'⟩:=closL_has (cells:=X.env.cells) scope.names [] y (S.cl y hy) ⟨c,ec⟩
     have:c'=c:=Option.some.inj ((look y c' ec').symm.trans ec)
     subst this
     obtain⟨o,ho,hd⟩:=ic
     exact⟨c',ec',o,old _ _ ho,hd⟩
  cell:=fun y c e=>by
   obtain⟨v,o,ho,hd⟩:=I2.cell y c (look y c e)
   exact⟨v,o,old _ _ ho,hd⟩
  free:=I2.hok.fresh hCle
  freeC:=fun y c e=>I2.freeC y c (look y c e)
  pin:=fun p hp=>by
   obtain⟨e,n,ne,nf,d⟩:=I2.pin p hp
   refine⟨old _ _ e,n,below _ (Heap.lt_size e),fun hb=>?_,d⟩
   rcases List.mem_cons.mp (I2.stkSub _ hb) with z|z
   ·exact ne z
   ·exact nf z
  hok:=I2.hok.kept old
  len:=by simp[cxCompE,cxComp,outs,S.len]}
 have fok:∀{pp:List (Addr×Obj)} {H':Hp},(∀b∈fp,H' b=none)→(∀p∈pp,p.1=s2.heap.objs.size)→∀b∈fp,FpOk (cxCompE X (M++frees) scope C s2 H2 fp XE) (pins++pp) H' b:=fun{pp H'} hn hp b hb=>by
  obtain⟨_,f1,f2',f3,f4,f5⟩:=f2 b hb
  refine⟨hn b hb,below b (fpD b hb),fun hf=>?_, .inl hb,fun y c e=>f4 y c (look y c e),fun p hpp z=>?_⟩
  ·rcases List.mem_cons.mp (I2.stkSub b hf) with z|z
   ·exact f1 z
   ·exact f2' z
  ·have hpp':p∈X.pn++(pins++pp):=hpp
   rw[←List.append_assoc]at hpp'
   rcases List.mem_append.mp hpp' with q|q
   ·exact f5 p q z
   ·have q':=fpD b hb
    rw[←z,hp p q]at q'
    exact Nat.lt_irrefl _ q'
 have loop:∀s3:Shared,s3={s2 with heap:=h₁,toks:=s2.toks+([]:List (Str×Value)).length}→
   codeAny (model X.prog X.w) X.A (.compLoop (.ListComp elt [⟨tg,iter,ifs,0⟩] scope pos) 0 (.ref it) (.ref s2.heap.objs.size) (compEnvC scope (closL X.env.cells scope.names []) C X.env))
    (compPost (model X.prog X.w) X.A X.xe use Q' (.ref s2.heap.objs.size) C) s3:=by
  rintro s3 rfl
  obtain⟨k0,hacc⟩:=hacc
  refine compLoop_go (fun n s'=>∃i τ vs H' its k,(τ:St).length=M.length∧Inv (cxCompE X (M++frees) scope C s2 H2 fp XE) pins (τ++outs σ idx) H' s'∧tn i s'.heap∧(∀b∈fp,H' b=none)∧H' s2.heap.objs.size=none∧
   s'.heap.get? s2.heap.objs.size=some {cls:=.type "list",data:=.seq its.toArray k}∧Vals vs its∧W i n vs H') (XE C s2 H2 fp) (hxe C s2 H2 fp s2.heap.objs.size I2 f2 hCle hDC) ?_ m0
   ⟨0,List.replicate M.length none,[],H2,[],k0,by simp,I3,T.keep _ _ _ st2 fun b _ o e=>old b o e,fun b hb=>(f2 b hb).1,I2.hok.fresh (Nat.le_refl _),hacc, .nil,w0⟩
  rintro n s' ⟨i,τ,vs,H',its,k,lτ,I',st',fr',hD',hg',hv',w'⟩
  obtain⟨hlen,alt⟩:=turn i n vs H' w'
  have IP:Inv (cxCompE X (M++frees) scope C s2 H2 fp XE) (pins++[(s2.heap.objs.size,{cls:=.type "list",data:=.seq its.toArray k})]) (τ++outs σ idx) H' s' :=
   I'.pins_of fun p hp=>(List.mem_append.mp hp).elim (fun z=>I'.pin p (List.mem_append_right _ z)) fun z=>by
    have z':p=(s2.heap.objs.size,{cls:=.type "list",data:=.seq its.toArray k}):=by simpa using z
    subst z'
    exact⟨hg',hD',hDC,Dfs,fun v q=>by cases q⟩
  have FP:=fok (pp:=[(s2.heap.objs.size,{cls:=.type "list",data:=.seq its.toArray k})]) fr' (fun p hp=>by
   have z':p=(s2.heap.objs.size,{cls:=.type "list",data:=.seq its.toArray k}):=by simpa using hp
   rw[z'])
  rcases alt with ⟨stop,qn⟩|⟨go,step⟩
  ·refine thn (T.done (cxCompE X (M++frees) scope C s2 H2 fp XE) rfl rfl rfl (hc C s2 H2 fp) i _ s' _ H' (XE C s2 H2 fp) IP FP st' stop) fun r s4 ⟨hr,I4⟩=>?_
   subst hr
   obtain⟨m4,hn4,_⟩:=id I4.loc
   refine hpost s2.heap.objs.size C (upd H' s2.heap.objs.size (.lst vs)) m4 s4 hn4 (fun h' hsb=>?_) (by rw[upd_ne (Ne.symm hDC)];exact I4.free) (fun z=>by have q:=I2.lt;rw[←z]at q;exact Nat.lt_irrefl _ (Nat.lt_of_lt_of_le q hCle)) (I2.nofs hCle) (Nat.le_trans I2.sz hCle) (fun z c e zz=>by
    obtain⟨v,q⟩:=I2.cell z c e
    have q':=q.lt
    rw[zz]at q'
    exact Nat.lt_irrefl _ (Nat.lt_of_lt_of_le q' hCle)) (fun p hp zz=>by
    have q':=Heap.lt_size (I2.pin p hp).1
    rw[zz]at q'
    exact Nat.lt_irrefl _ (Nat.lt_of_lt_of_le q' hCle)) (qn _ hD')
   have gD:s4.heap.get? s2.heap.objs.size=some {cls:=.type "list",data:=.seq its.toArray k}:=(I4.pin (s2.heap.objs.size,_) (List.mem_append_right _ (List.mem_append_right _ (List.mem_singleton.mpr rfl)))).1
   have hx:∀b o,b≠C→s4.heap.get? b=some o→h'.get? b=some o:=fun b o hb e=>(hsb.2 b hb).trans e
   have J1:Inv X pins σ H' {s4 with heap:=h'}:=by
    refine I2.call' (ch:=fp) I4.os ⟨fun b o e n hb hx'=>?_,fun b o e n hb hx'=>?_,I4.base.free,fun b o e hx'=>?_,I4.base.tups,I4.base.frzs,I4.base.tbls⟩ (fun b u e=>?_) I4.bare fun b hb=>?_
    ·exact hx b o (below b (Heap.lt_size e)) (I4.base.keep b o e n hb hx')
    ·obtain⟨sl,q⟩:=I4.base.slot b o e n hb hx'
     exact⟨sl,hx b _ (below b (Heap.lt_size e)) q⟩
    ·obtain⟨o',q⟩:=I4.base.there b o e hx'
     exact⟨o',hx b _ (below b (Heap.lt_size e)) q⟩
    ·refine(I4.hok b u e).stay (fun c v hcc q=>hx c v ?_ q) (fun _ q=>q) fun _ _ q=>q
     rintro rfl
     rcases hcc with z|z
     ·rw[←z]at e
      have:=I4.free
      rw[show H' c=none from this]at e;cases e
     ·have:=I4.free
      rw[show H' c=none from this]at z;cases z
    ·obtain⟨_,f1,f2',f3,f4,f5⟩:=f2 b hb
     exact⟨f3,f1,f4,f5⟩
   exact J1.track hD' (Nat.le_of_lt hlen) hv' (hx _ _ hDC gD) (.inr I2.sz) (fun z=>by have q:=I2.lt;rw[←z]at q;exact Nat.lt_irrefl _ q) Dcell Dpin
  ·refine thn (T.item (cxCompE X (M++frees) scope C s2 H2 fp XE) rfl rfl rfl (hc C s2 H2 fp) i _ s' _ H' (XE C s2 H2 fp) IP FP st' go) fun r s4 ⟨u,hr,h4⟩=>?_
   subst hr
   refine thn h4 fun _ s5 ⟨xv,H5,I5,r5,y5,st5,fr5⟩=>?_
   have I5':=I5.pinned (fok (pp:=[(s2.heap.objs.size,{cls:=.type "list",data:=.seq its.toArray k})]) fr5 (fun p hp=>by
    have z':p=(s2.heap.objs.size,{cls:=.type "list",data:=.seq its.toArray k}):=by simpa using hp
    rw[z'])) (T.obj _ _ st5)
   have q6:=step τ xv H5 lτ y5
   refine thn (hg C s2 H2 fp _ s5 _ H5 xv _ _ I5' r5 q6) fun _ s6 ⟨σ6,H6,I6,⟨τ6,e6,l6⟩,q6'⟩=>?_
   subst e6
   refine thn (ht C s2 H2 fp _ s6 _ H6 _ I6 q6') fun b s7 ⟨H7,I7,q7⟩=>?_
   have keepT:∀{s8:Shared} {σ8:St} {H8:Hp},Inv (cxCompE X (M++frees) scope C s2 H2 fp XE) ((pins++[(s2.heap.objs.size,{cls:=.type "list",data:=.seq its.toArray k})])++pinsAt fp s5.heap) σ8 H8 s8→
     tn (i+1) s8.heap∧(∀b∈fp,H8 b=none)∧H8 s2.heap.objs.size=none∧s8.heap.get? s2.heap.objs.size=some {cls:=.type "list",data:=.seq its.toArray k}:=fun{s8 σ8 H8} I8=>by
    refine⟨T.keep _ _ _ st5 fun b hb o e=>(I8.pin (b,o) (List.mem_append_right _ (List.mem_append_right _ (mem_pinsAt hb e)))).1,fun b hb=>?_,?_,?_⟩
    ·obtain⟨o,e,d⟩:=T.obj _ _ st5 b hb
     exact(I8.pin (b,o) (List.mem_append_right _ (List.mem_append_right _ (mem_pinsAt hb e)))).2.1
    ·exact(I8.pin (s2.heap.objs.size,_) (List.mem_append_right _ (List.mem_append_left _ (List.mem_append_right _ (List.mem_singleton.mpr rfl))))).2.1
    ·exact(I8.pin (s2.heap.objs.size,_) (List.mem_append_right _ (List.mem_append_left _ (List.mem_append_right _ (List.mem_singleton.mpr rfl))))).1
   cases b with
   |false=>
    rw[if_neg Bool.false_ne_true]at q7 ⊢
    obtain⟨m',hm,w7⟩:=q7
    obtain⟨a1,a2,a3,a4⟩:=keepT I7
    exact⟨m',hm,i+1,τ6,vs,H7,its,k,l6,I7.unpinned.unpinned,a1,a2,a3,a4,hv',w7⟩
   |true=>
    rw[if_pos rfl]at q7 ⊢
    refine thn (he C s2 H2 fp _ s7 _ H7 _ I7 q7) fun u8 s8 ⟨v8,H8,I8,r8,m',hm,w8⟩=>?_
    obtain⟨a1,a2,a3,a4⟩:=keepT I8
    refine wpAny_list_append_plain (items:=its.toArray) ⟨k,a4⟩ (fun h9 pl sb=>?_) (by rw[List.size_toArray,←hv'.length];exact Nat.le_of_lt hlen)
    obtain⟨k9,e9⟩:=pl
    have ne:∀b∈fp,b≠s2.heap.objs.size:=fun b hb=>Nat.ne_of_lt (fpD b hb)
    have I9:Inv (cxCompE X (M++frees) scope C s2 H2 fp XE) pins (τ6++outs σ idx) H8 {s8 with heap:=h9} :=
     I8.unpinned.unpinned.turned (t':=s8.toks) (fun b o hb e=>(sb.2 b hb).trans e) a3 hDC (.inr (Nat.le_refl _)) (fun y c e=>Dcell y c (look y c e)) Dpin
    refine⟨m',hm,i+1,τ6,vs++[v8],H8,its++[u8],k9,l6,I9,T.keep _ _ _ a1 fun b hb o e=>(sb.2 b (ne b hb)).trans e,a2,a3,?_,hv'.snoc r8,w8⟩
    rw[List.push_toArray]at e9
    exact e9
 exact codeAny_compStart_list (loop _ rfl) (T.self _ 0 _ _ _ (T.keep _ _ _ st2 fun b _ o e=>old b o e) (loop _ rfl))
theorem pe_lcompM {X:Cx}{elt iter tg:Expr}{M:List Str}{g:TG}{pos:Pos}{ifs:List Expr}{scope:Scope}{frees:List Str}{idx:List Nat}{wi:TI}{tt:TT}{te:TE}
  {qt:Cx→Prop} (hc:∀C s₀ H₀ ex,qt (cxComp X (M++frees) scope C s₀ H₀ ex)) (S:CompScopeM X frees idx scope) (hfl:∀y∈frees,scope.names.lookup y=some .free) (hi:PIQ qt X tg iter wi) (hg:∀C s₀ H₀ ex,PG (cxComp X (M++frees) scope C s₀ H₀ ex) tg g)
  (ht:∀C s₀ H₀ ex,PTs (cxComp X (M++frees) scope C s₀ H₀ ex) ifs tt) (he:∀C s₀ H₀ ex,PE (cxComp X (M++frees) scope C s₀ H₀ ex) elt te)
  (hs:∀v,foldedSetIterable iter X.env v=pure v:=by intro _;rfl):PE X (.ListComp elt [⟨tg,iter,ifs,0⟩] scope pos) (tCompM M.length idx wi g tt te):=by
 intro pins s σ H Q I h
 rw[eval_ListComp]
 exact comp_core (M:=M) (g:=g) (XE:=noX) (use:=none) (Q':=EP X pins σ Q) (fun C s₀ H₀ ex=>by rw[cxE_no];exact hc C s₀ H₀ ex) S hfl hi (fun C s₀ H₀ ex=>by rw[cxE_no];exact hg C s₀ H₀ ex) (fun C s₀ H₀ ex=>by rw[cxE_no];exact ht C s₀ H₀ ex) (fun C s₀ H₀ ex=>by rw[cxE_no];exact he C s₀ H₀ ex) hs I h (fun _ _ _ _ _ _ _ _ _ _ _ (z:False)=>z.elim) fun D C H' m4 s4 hn hJ _ _ _ _ _ _ q=>by
  show ∃m,s4.heap.Ns C m∧∀h',Heap.SameBut C s4.heap h'→EP X pins σ Q (.ref D) {s4 with heap:=h'}
  exact⟨m4,hn,fun h' hsb=>⟨.ref D,H',hJ h' hsb,rfl,q⟩⟩
theorem compW_M {J:It}{tt:TT}{te:TE}{σ':St}{Q:VK}{H1:Hp}:CompWM 1 J (gName 0) tt te σ' Q H1=CompW J tt te σ' Q H1:=by
 refine propext ⟨fun⟨W,h0,h⟩=>⟨W,h0,fun i m vs H2 w=>?_⟩,fun⟨W,h0,h⟩=>⟨W,h0,fun i m vs H2 w=>?_⟩⟩
 ·obtain⟨l,h⟩:=h i m vs H2 w
  exact⟨l,h.imp id fun⟨go,st⟩=>⟨go,fun x H3 y=>(st [none] x H3 rfl y).2⟩⟩
 ·obtain⟨l,h⟩:=h i m vs H2 w
  refine⟨l,h.imp id fun⟨go,st⟩=>⟨go,fun τ x H3 lτ y=>?_⟩⟩
  match τ,lτ with
  |[o],_=>exact⟨⟨[some x],rfl,rfl⟩,st x H3 y⟩
theorem tComp_M {idx:List Nat}{wi:TI}{tt:TT}{te:TE}:tCompM 1 idx wi (gName 0) tt te=tComp idx wi tt te:=by
 funext σ H Q
 unfold tCompM tComp
 exact congrArg (wi σ H) (funext fun J=>funext fun H1=>compW_M)
theorem pe_lcomp {X:Cx}{elt iter:Expr}{x:Str}{px pos:Pos}{ifs:List Expr}{scope:Scope}{frees:List Str}{idx:List Nat}{wi:TI}{tt:TT}{te:TE}
  {qt:Cx→Prop} (hc:∀C s₀ H₀ ex,qt (cxComp X (x::frees) scope C s₀ H₀ ex)) (S:CompScope X x frees idx scope) (hfl:∀y∈frees,scope.names.lookup y=some .free) (hi:PIQ qt X (.Name x px) iter wi)
  (ht:∀C s₀ H₀ ex,PTs (cxComp X (x::frees) scope C s₀ H₀ ex) ifs tt) (he:∀C s₀ H₀ ex,PE (cxComp X (x::frees) scope C s₀ H₀ ex) elt te)
  (hs:∀v,foldedSetIterable iter X.env v=pure v:=by intro _;rfl):PE X (.ListComp elt [⟨.Name x px,iter,ifs,0⟩] scope pos) (tComp idx wi tt te):=by
 have h:=pe_lcompM (M:=[x]) (g:=gName 0) (pos:=pos) hc ⟨S.kind,S.nocell,S.loc,S.fr,S.ix,S.len,S.cl⟩ hfl hi (fun C s₀ H₀ ex=>pg_name (i:=0) S.nd rfl (.inl (lookup_relabel_local S.tgt)) (.inr (lookup_relabel_local S.tgt))) ht he hs
 exact tComp_M ▸ h
def Its (x:Str):It:=⟨fun i _=>i<x.cps.size,fun i H v H'=>H'=H∧∃c,x.cps[i]?=some c∧v=.str ⟨#[c]⟩,fun i _=>i=x.cps.size⟩
theorem turn_str {P:Program}{w:World}{K:PySem.W.Frag}{tg:Expr}(it:Addr)(x:Str)(t:Tok)(ty:String)(hty:ty="str_ascii_iterator"∨ty="str_iterator"):
  Turn P w K tg (Its x) [it] it (fun i h=>h.IsStrIter it ty x t i) where
 mem:=by simp
 obj:=fun i h st b hb=>by
  have e:b=it:=by simpa using hb
  subst e
  obtain⟨o,e,c,d⟩:=st
  exact⟨o,e,fun v z=>by rw[d]at z;cases z⟩
 keep:=fun i h h' st k=>by
  obtain⟨o,e,r⟩:=st
  exact⟨o,k it (by simp) o e,r⟩
 item:=by
  intro X hP hw hK hc i pins s σ H E I hf st hg
  subst hP hw hK
  obtain⟨f0,f1,f2,f3,f4,f5⟩:=hf it (by simp)
  have go:∀W:Walks X.prog X.w X.A it [it] [it] x.cps.size (SignAt x) (fun i h=>h.IsStrIter it ty x t i),wpAny (model X.prog X.w) X.A (pyNext (.ref it)) (fun r s1=>∃u,r=some u∧
    wpAny (model X.prog X.w) X.A (letOwnedTupleGo tg (.ref it) u) (fun _ s2=>∃v H',Inv X pins σ H' s2∧RelV v u∧(Its x).yld i H v H'∧s2.heap.IsStrIter it ty x t (i+1)∧∀b∈[it],H' b=none) E s1) E s:=fun W=>by
   refine W.item i s _ _ hg st fun v h' tk hv st' kk=>?_
   obtain⟨c,u,hcx,rfl⟩:=hv
   have I1:Inv X pins σ H {s with heap:=h',toks:=tk}:=I.turned (fun b o hb e=>kk b o (by simpa using hb) e) f0 f1 f3 f4 f5
   obtain⟨o,e,hcl,d⟩:=id st'
   refine⟨_,rfl,go_of (s:={s with heap:=h',toks:=tk}) (n:=ty) e hcl d ?_ ⟨.str ⟨#[c]⟩,H,I1,⟨u,rfl⟩,⟨rfl,c,hcx,rfl⟩,st',fun b hb=>(hf b hb).1⟩⟩
   rcases hty with rfl|rfl<;>decide
  rcases hty with rfl|rfl
  ·exact go (Walks.strAscii (I.ok.hd hc) it x t)
  ·exact go (Walks.strWide (I.ok.hd hc) it x t)
 done:=by
  intro X hP hw hK hc i pins s σ H E I hf st hg
  subst hP hw hK
  obtain⟨f0,f1,f2,f3,f4,f5⟩:=hf it (by simp)
  have hg':i=x.cps.size:=hg
  subst hg'
  rcases hty with rfl|rfl
  ·exact(Walks.strAscii (prog:=X.prog) (w:=X.w) (I.ok.hd hc) it x t).done s _ _ st fun h' tk kk=>⟨rfl,I.turned (fun b o hb e=>kk b o (by simpa using hb) e) f0 f1 f3 f4 f5⟩
  ·exact(Walks.strWide (prog:=X.prog) (w:=X.w) (I.ok.hd hc) it x t).done s _ _ st fun h' tk kk=>⟨rfl,I.turned (fun b o hb e=>kk b o (by simpa using hb) e) f0 f1 f3 f4 f5⟩
 self:=fun _ _ _ _ _ st h=>by
  rcases hty with rfl|rfl
  ·exact wpAny_pyIter_striter_ascii st h
  ·exact wpAny_pyIter_striter_wide st h
def iStr (tl:TE):TI:=fun σ H R=>tl σ H fun v H1=>∃x,v=.str x∧R (Its x) H1
theorem pi_str {X:Cx}{tg l:Expr}{tl:TE}(hl:PE X l tl):PI X tg l (iStr tl):=by
 intro pins s σ H R I h
 refine thn (hl pins s σ H _ I h) fun v s1 ⟨y,H1,I1,r1,q1⟩=>?_
 obtain⟨x,e,q⟩:=q1
 subst e
 obtain⟨t,rfl⟩:=r1
 have go:∀(ty:String) (o:Obj),(ty="str_ascii_iterator"∨ty="str_iterator")→(s1.heap.push o).IsStrIter s1.heap.objs.size ty x t 0→PIE X pins σ tg R (.ref s1.heap.objs.size) {s1 with heap:=s1.heap.push o}:=fun ty o hty st=>by
  refine⟨s1.heap.objs.size,[s1.heap.objs.size],_,_,H1,rfl,I1.kept (t':=s1.toks) fun b o e=>Heap.get?_push_of_some _ e,turn_str _ x t ty hty,st,fun b hb=>?_,q⟩
  have e:b=s1.heap.objs.size:=by simpa using hb
  subst e
  exact I1.fpOk (Nat.le_refl _) (I1.hok.fresh (Nat.le_refl _))
 cases ha:x.cps.all (·<128)
 ·exact wpAny_pyIter_wide ha (go "str_iterator" _ (.inr rfl) ⟨_,Heap.get?_push_size _ rfl,rfl,rfl⟩)
 ·exact wpAny_pyIter_ascii ha (go "str_ascii_iterator" _ (.inl rfl) ⟨_,Heap.get?_push_size _ rfl,rfl,rfl⟩)
section
variable {X:Cx}
theorem call_isi:CallR X (.builtin "isinstance") (fun xs H Q=>∃x t T b,xs=[x, .ty T]∧TyOf X.K H x t∧PySem.W.kitOne X.K t (.type T)=some b∧Q (.bl b) H):=by
 intro pins s σ H xs us Q I r h
 obtain⟨x,t,T,b,rfl,ty,e,q⟩:=h
 obtain⟨u,w',rfl,rx,ry⟩:=vals2 r
 cases(show w'=Value.type T from ry)
 exact isinst_ok I rx ty e fun tk=>⟨.bl b,H,I.tok tk,rfl,q⟩
theorem sl_str:SlR X (fun x lo hi H Q=>∃z,x=.str z∧z.length≤sizeLine∧Q (.str (Txt.slice z lo hi)) H):=by
 intro pins s σ H x v vl vu lo hi sl Q I rx hs pl pu h
 obtain⟨z,rfl,hz,q⟩:=h
 obtain⟨t,rfl⟩:=rx
 refine⟨"str",_,F.slot_str_getitem.lookup,typeIs_str _ _ _,?_⟩
 have fin:∀l u:Option (Int×Tok),vl=partValue l→vu=partValue u→l.map (·.1)=lo→u.map (·.1)=hi→wpAny (model X.prog X.w) X.A (getItem (.str z t) (.ref sl)) (EP X pins σ Q) X.xe s:=fun l u e1 e2 e3 e4=>by
  subst e1 e2 e3 e4
  refine wpAny_getItem_str_slice (l:=l) (u:=u) (st:=none) hs rfl (post_val_or_str ⟨Nat.le_trans (Txt.slice_le z _ _) hz,fun t' k=>⟨.str _,H,I.tok k,⟨t',rfl⟩,q⟩⟩)
 cases pl<;>cases pu<;>first
  |exact fin none none rfl rfl rfl rfl
  |exact fin none (some (_,_)) rfl rfl rfl rfl
  |exact fin (some (_,_)) none rfl rfl rfl rfl
  |exact fin (some (_,_)) (some (_,_)) rfl rfl rfl rfl
theorem mt_startswith:MtR X "str.startswith" (fun x xs H Q=>∃z y,x=.str z∧xs=[.str y]∧Q (.bl (Txt.startswith z y)) H):=by
 intro pins s σ H x xs v us Q I rx rs h
 obtain⟨z,y,rfl,rfl,q⟩:=h
 obtain⟨t,rfl⟩:=rx
 obtain⟨u,rfl,t',rfl⟩:=vals1 rs
 exact SC.startswith ⟨.bl _,H,I,rfl,q⟩
theorem vals_strValues:∀l:List (Str×Tok),Vals ((l.map (·.1)).map V.str) (strValues l)
 |[]=>.nil
 |(x,t)::r=>.cons ⟨t,rfl⟩ (vals_strValues r)
theorem mt_split:MtR X "str.split" (fun x xs H Q=>∃z y,x=.str z∧xs=[.str y]∧z.length≤sizeLine∧1≤y.length∧(Txt.split z y).length≤sizeLine∧∀l,H l=none→Q (.ref l) (upd H l (.lst ((Txt.split z y).map V.str)))):=by
 intro pins s σ H x xs v us Q I rx rs h
 obtain⟨z,y,rfl,rfl,hz,hy,hn,q⟩:=h
 obtain⟨t,rfl⟩:=rx
 obtain⟨u,rfl,t',rfl⟩:=vals1 rs
 have hy':(y.length==0)=false:=by simp;exact Nat.ne_of_gt hy
 have fin:∀(l:List (Str×Tok)) (k:Nat),l.map (·.1)=Txt.split z y→EP X pins σ Q (.ref s.heap.objs.size) {s with toks:=k,heap:=s.heap.push {cls:=.type "list",data:=.seq (strValues l).toArray}}:=fun l k e=>by
  have hv:=vals_strValues l
  rw[e]at hv
  refine⟨.ref s.heap.objs.size,_,I.lnew (t':=k) hv (by rw[List.length_map];exact hn),rfl,q _ I.fresh⟩
 cases h1:(decide (z.length<y.length)||decide (Builtin.Str.strKind z<Builtin.Str.strKind y))
 ·cases hf:(Builtin.Str.occurrences z y 0 z.length (z.length+1)).isEmpty
  ·have e:Txt.split z y=Builtin.Str.partsBetween z (Builtin.Str.occurrences z y 0 z.length (z.length+1)) y.length:=(if_neg (ne_true_of_eq_false h1)).trans (if_neg (ne_true_of_eq_false hf))
   refine call_meets F.slot_str_split (typeIs_str _ _ _) F.entry_str_split (F.args_str_split_2 _ _) (meets_str_split_sep z y t t' h1 hy' hf hz (by rw[←e];exact hn)) ?_
   show EP X pins σ Q _ {s with toks:=_,heap:=s.heap.push {cls:=.type "list",data:=.seq (strsFrom s.toks (Builtin.Str.partsBetween z (Builtin.Str.occurrences z y 0 z.length (z.length+1)) y.length)).toArray}}
   rw[strsFrom_eq]
   exact fin (numbered s.toks _) _ ((numbered_texts _ _).trans e.symm)
  ·exact call_meets F.slot_str_split (typeIs_str _ _ _) F.entry_str_split (F.args_str_split_2 _ _) (meets_str_split_not_found z y t t' h1 hy' hf) (fin [(z,t)] s.toks ((if_neg (ne_true_of_eq_false h1)).trans (if_pos hf)).symm)
 ·exact call_meets F.slot_str_split (typeIs_str _ _ _) F.entry_str_split (F.args_str_split_2 _ _) (meets_str_split_cannot_occur z y t t' h1) (fin [(z,t)] s.toks (if_pos h1).symm)
end
def compOk (osc:Scope)(N:List Str)(x:Str)(frees:List Str)(idx:List Nat)(scope:Scope):Bool :=
 scope.kind==.function&&(scope.names.all (fun y=>y.2 !=.cell)&&(scope.names.all (fun y=>y.2 !=.local||scope.names.lookup y.1==some .local)&&(scope.names.all (fun y=>y.2 !=.free||(osc.names.lookup y.1==some .cell||osc.names.lookup y.1==some .free))&&
 (scope.names.lookup x==some .local&&(decide (x::frees).Nodup&&(idx.length==frees.length&&((idx.zip frees).all (fun p=>N[p.1]?==some p.2)&&frees.all (fun y=>scope.names.lookup y==some .free))))))))
theorem zip_get {α β:Type}{l:List α}{r:List β}{j:Nat}{y:β}(e:l.length=r.length)(h:r[j]?=some y):∃k,l[j]?=some k∧(k,y)∈l.zip r:=by
 induction l generalizing r j with
 |nil=>cases r with
  |nil=>simp at h
  |cons=>cases e
 |cons a l ih=>cases r with
  |nil=>cases e
  |cons b r=>cases j with
   |zero=>cases h;exact⟨a,rfl,by simp⟩
   |succ j=>
    obtain⟨k,h1,h2⟩:=ih (j:=j) (Nat.succ.inj e) h
    exact⟨k,h1,List.mem_cons_of_mem _ h2⟩
theorem compOk_scope {X:Cx}{osc:Scope}{N:List Str}{x:Str}{frees:List Str}{idx:List Nat}{scope:Scope}(h:compOk osc N x frees idx scope=true)(ho:X.env.scope=osc)(hN:X.N=N):
  CompScope X x frees idx scope∧∀y∈frees,scope.names.lookup y=some .free:=by
 unfold compOk at h
 simp only[Bool.and_eq_true,List.all_eq_true,Bool.or_eq_true,bne_iff_ne,beq_iff_eq,decide_eq_true_eq]at h
 obtain⟨h1,h2,h3,h4,h5,h6,h7,h8,h9⟩:=h
 have fl:∀y∈frees,scope.names.lookup y=some .free:=fun y hy=>h9 y hy
 refine⟨⟨h1,h2,fun y hy e=>?_,h5,h6,fun y hy e=>?_,fun j y hj=>?_,h7,fun y hy=>mem_of_lookup' (fl y hy)⟩,fl⟩
 ·rcases h3 y hy with q|q
  ·exact absurd e q
  ·exact q
 ·have q:osc.names.lookup y.1=some .cell∨osc.names.lookup y.1=some .free:=by
   rcases h4 y hy with q|q
   ·exact absurd e q
   ·exact q
  rw[←ho]at q
  exact q
 ·obtain⟨k,e1,e2⟩:=zip_get h7 hj
  exact⟨k,e1,by rw[hN];exact h8 (k,y) e2⟩
theorem pe_lc {X:Cx}{elt iter:Expr}{x:Str}{px pos:Pos}{ifs:List Expr}{scope:Scope}{wi:TI}{tt:TT}{te:TE}(osc:Scope)(N:List Str)(frees:List Str)(idx:List Nat)
  (hk:compOk osc N x frees idx scope=true) (hi:PI X (.Name x px) iter wi)
  (ht:∀C s₀ H₀ ex,PTs (cxComp X (x::frees) scope C s₀ H₀ ex) ifs tt) (he:∀C s₀ H₀ ex,PE (cxComp X (x::frees) scope C s₀ H₀ ex) elt te)
  (ho:X.env.scope=osc:=by rfl) (hN:X.N=N:=by rfl) (hc:X.calm=true:=by rfl) (hs:∀v,foldedSetIterable iter X.env v=pure v:=by intro _;rfl):PE X (.ListComp elt [⟨.Name x px,iter,ifs,0⟩] scope pos) (tComp idx wi tt te):=by
 obtain⟨S,fl⟩:=compOk_scope (X:=X) hk ho hN
 exact pe_lcomp (qt:=Calm) (fun _ _ _ _=>hc) S fl hi ht he hs
def Nx (n i:Nat)(p:Prop):Prop:=∃m',m'<n-i∧m'=n-(i+1)∧i+1≤n∧p
theorem nx {n i:Nat}{p:Prop}(h:i<n)(q:p):Nx n i p:=⟨n-(i+1),by omega,rfl,h,q⟩
theorem comp_str {x:Str}{tt:TT}{te:TE}{σ':St}{Q:VK}{H:Hp}(Pv:Nat→List V→Hp→Prop)(h0:Pv 0 [] H)(hlen:∀i vs H2,i≤x.cps.size→Pv i vs H2→vs.length<sizeLine)
  (hs:∀i vs H2 c,i<x.cps.size→x.cps[i]?=some c→Pv i vs H2→tt (some (.str ⟨#[c]⟩)::σ') H2 fun b H4=>if b=true then te (some (.str ⟨#[c]⟩)::σ') H4 fun v H5=>Nx x.cps.size i (Pv (i+1) (vs++[v]) H5) else Nx x.cps.size i (Pv (i+1) vs H4))
  (hd:∀vs H2,Pv x.cps.size vs H2→∀l,H2 l=none→Q (.ref l) (upd H2 l (.lst vs))):CompW (Its x) tt te σ' Q H:=by
 refine⟨fun i m vs H=>m=x.cps.size-i∧i≤x.cps.size∧Pv i vs H,⟨x.cps.size,by simp,Nat.zero_le _,h0⟩,?_⟩
 rintro i m vs H2 ⟨rfl,hi,p⟩
 refine⟨hlen i vs H2 hi p,?_⟩
 by_cases hlt:i<x.cps.size
 ·refine .inr ⟨hlt,?_⟩
  rintro v H3 ⟨rfl,c,hc,rfl⟩
  exact hs i vs H3 c hlt hc p
 ·have e:i=x.cps.size:=by exact Nat.le_antisymm hi (Nat.not_lt.mp hlt)
  subst e
  exact .inl ⟨rfl,hd vs H2 p⟩
theorem comp_range {lo:Int}{n:Nat}{tt:TT}{te:TE}{σ':St}{Q:VK}{H:Hp}(Pv:Nat→List V→Hp→Prop)(h0:Pv 0 [] H)(hlen:∀i vs H2,i≤n→Pv i vs H2→vs.length<sizeLine)
  (hs:∀i vs H2,i<n→Pv i vs H2→tt (some (.int (lo+i))::σ') H2 fun b H4=>if b=true then te (some (.int (lo+i))::σ') H4 fun v H5=>Nx n i (Pv (i+1) (vs++[v]) H5) else Nx n i (Pv (i+1) vs H4))
  (hd:∀vs H2,Pv n vs H2→∀l,H2 l=none→Q (.ref l) (upd H2 l (.lst vs))):CompW (Itr lo n) tt te σ' Q H:=by
 refine⟨fun i m vs H=>m=n-i∧i≤n∧Pv i vs H,⟨n,by simp,Nat.zero_le _,h0⟩,?_⟩
 rintro i m vs H2 ⟨rfl,hi,p⟩
 refine⟨hlen i vs H2 hi p,?_⟩
 by_cases hlt:i<n
 ·refine .inr ⟨hlt,?_⟩
  rintro v H3 ⟨rfl,rfl⟩
  exact hs i vs H3 hlt p
 ·have e:i=n:=by exact Nat.le_antisymm hi (Nat.not_lt.mp hlt)
  subst e
  exact .inl ⟨Nat.le_refl _,hd vs H2 p⟩
def EntryIs (w:World)(p:Str×V)(e:DictEntry):Prop:=e.hash=hashStr w p.1∧(∃t,e.key=.str p.1 t)∧RelV p.2 e.val
def StrDict (K:PySem.W.Frag)(w:World)(a:Addr)(fs:List (Str×V)):Prop :=
 (a==sysModules)=false∧∃o es ep,K.lookup a=some o∧o.ExactDict∧o.data=.dict es ep∧Paired (EntryIs w) fs es.toList
theorem entries_find {w:World}{P:Program}{fs:List (Str×V)}{es:List DictEntry}(k:Str)(hh:Paired (EntryIs w) fs es):RelO (fs.lookup k) ((es.find? fun e=>(strKind P w).is k e.key).map (·.val)):=by
 induction hh with
 |nil=>trivial
 |@cons p e _ _ h t ih=>
  obtain⟨h1,⟨t',h2⟩,h3⟩:=h
  obtain⟨x,v⟩:=p
  rw[List.lookup_cons,List.find?_cons]
  have q:(strKind P w).is k e.key=(k==x):=by
   show Value.isStrOf k e.key=_
   rw[h2]
   show Value.isStrOf k (.str x t')=_
   rw[Bool.eq_iff_iff]
   simp[Value.isStrOf]
   first|done|(constructor<;>intro z<;>first|exact z|exact z.symm)
  rw[q]
  cases k==x with
  |true=>exact h3
  |false=>exact ih
section
variable {X:Cx}{pins:List (Addr×Obj)}{σ:St}{H:Hp}{s:Shared}
theorem Inv.strDict {a:Addr}{fs:List (Str×V)}(I:Inv X pins σ H s)(d:StrDict X.K X.w a fs):∃f,s.heap.MapOf (strKind X.prog X.w) a f∧∀k,RelO (fs.lookup k) (f k):=by
 obtain⟨_,o,es,ep,h1,h2,h3,h4⟩:=d
 refine⟨fun k=>findBy (strKind X.prog X.w).is es k,⟨o,es,ep,I.kIn _ _ h1,h2,h3,fun e he=>?_,fun k=>rfl⟩,fun k=>?_⟩
 ·have key:∀{fs:List (Str×V)} {l:List DictEntry},Paired (EntryIs X.w) fs l→e∈l→∃k,(strKind X.prog X.w).is k e.key=true∧e.hash=(strKind X.prog X.w).hash k:=by
   intro fs l p
   induction p with
   |nil=>intro hm;cases hm
   |@cons p e' l₁ l₂ h t ih=>
    intro hm
    rcases List.mem_cons.mp hm with rfl|hm
    ·obtain⟨q1,⟨t',q2⟩,_⟩:=h
     refine⟨p.1,?_,q1⟩
     show Value.isStrOf p.1 e.key=true
     rw[q2]
     simp[Value.isStrOf]
    ·exact ih hm
  exact key h4 (Array.mem_toList_iff.mpr he)
 ·have q:=entries_find (P:=X.prog) k h4
  show RelO (fs.lookup k) ((Array.find? (fun e=>(strKind X.prog X.w).is k e.key) es).map (·.val))
  rw[←Array.find?_toList]
  exact q
theorem op_in_dict:OpR X (compareOp .In) (fun x y H Q=>∃z a fs,x=.str z∧y=.ref a∧StrDict X.K X.w a fs∧Q (.bl (fs.lookup z).isSome) H):=by
 intro pins s σ H x y v u Q I rx ry h
 obtain⟨z,a,fs,rfl,rfl,d,q⟩:=h
 obtain⟨t,rfl⟩:=rx
 cases ry
 obtain⟨f,hm,hf⟩:=I.strDict d
 refine wpAny_in_of (knd:=strKind X.prog X.w) (k:=z) (by show Value.isStrOf z (.str z t)=true;simp[Value.isStrOf]) d.1 hm ?_
 have e:(f z).isSome=(fs.lookup z).isSome:=by
  have:=hf z
  cases h1:fs.lookup z with
  |none=>rw[h1]at this;rw[RelO.none_of this];rfl
  |some v=>rw[h1]at this;obtain⟨u,e,_⟩:=RelO.some_of this;rw[e];rfl
 rw[e]
 exact⟨.bl _,H,I.tok _,rfl,q⟩
theorem ix_dict:IxR X (fun x y H Q=>∃z a fs v,x=.ref a∧y=.str z∧StrDict X.K X.w a fs∧fs.lookup z=some v∧Q v H):=by
 intro value slice pins s σ H x y v u Q I rx ry h hs
 obtain⟨z,a,fs,r,rfl,rfl,d,hl,q⟩:=h
 cases rx
 obtain⟨t,rfl⟩:=ry
 obtain⟨f,hm,hf⟩:=I.strDict d
 have:=hf z
 rw[hl]at this
 obtain⟨w',e,rw'⟩:=RelO.some_of this
 exact tail_any (ops:=[.ref a, .str z t]) hm.typeIs PySem.F.slot_dict_getitem.lookup (wpAny_getItem_of (knd:=strKind X.prog X.w) (k:=z) (by show Value.isStrOf z (.str z t)=true;simp[Value.isStrOf]) hm e ⟨r,H,I.tok _,rw',q⟩) hs
theorem pe_callE {CX:CXT}{func:Expr}{tf:TE}{pos:Pos}{e:Expr}{es:List Expr}{t:TA}{E:XK}(ok:Addr→Sp→Prop)
  (hok:∀f sp,ok f sp→∃k fd ps,FnOk X.prog X.w X.K X.mg X.base CX k f fd ps sp∧Room k X.A∧PySem.W.keepIn X.K (.ref f)=true∧Binds X.K fd ps []) (hf:PE X func tf) (hx:Passes CX X E)
  (ha:PA X (e::es) t) (hev:eval (.Call func (e::es) [] pos) X.env=(do callWith pos (←eval func X.env) [] (backTo pos (starEach (e::es) X.env)) (backToKw pos (keywordEach [] X.env))):=by rfl)
  (he:starEach (e::es) X.env=(false,eval e X.env)::starEach es X.env:=by rfl) (hpl:(backTo pos (starEach es X.env)).any (·.1)=false:=by rfl):
  PE X (.Call func (e::es) [] pos) (fun σ H Q=>tf σ H fun x H1=>∃f sp,x=.ref f∧ok f sp∧tCall sp [] E t σ H1 Q):=by
 intro pins s σ H Q I h
 refine Call_ (thn (hf pins s σ H _ I h) fun u s1 ⟨x,H1,I1,r1,f,sp,ex,hfo,q⟩=>?_) hev
 subst ex
 cases r1
 obtain⟨k,fd,ps,F,hr,hk,hb⟩:=hok f sp hfo
 refine PySem.W.callWith_K (h₀:=X.base) I1.ok.mod.kin hk (thn (ha pos pins s1 σ H1 _ I1 q) fun us s2 ⟨vs,H2,I2,r,q2⟩=>⟨I2.kIn,?_⟩) he hpl
 exact run_fn F hr hb .nil hx I2 r q2
end
section
variable {X:Cx}
end
end L2
namespace Fw
open PySem PySem.Spec PyProof.Rows L2
def splL (c:Nat):List Nat→List (List Nat)
 |[]=>[[]]
 |a::r=>if a=c then[]::splL c r else match splL c r with
  |p::ps=>(a::p)::ps
  |[]=>[[a]]
theorem splL_free {c:Nat}:∀{l:List Nat},c∉l→splL c l=[l]
 |[],_=>rfl
 |a::r,h=>by
  have h1:a≠c:=fun e=>h (by simp[e])
  have h2:c∉r:=fun e=>h (List.mem_cons_of_mem _ e)
  unfold splL
  rw[if_neg h1,splL_free h2]
theorem splL_app {c:Nat}:∀{l:List Nat} (r:List Nat),c∉l→splL c (l++c::r)=l::splL c r
 |[],r,_=>by simp[splL]
 |a::l,r,h=>by
  have h1:a≠c:=fun e=>h (by simp[e])
  have h2:c∉l:=fun e=>h (List.mem_cons_of_mem _ e)
  rw[List.cons_append]
  conv=>lhs;unfold splL
  rw[if_neg h1,splL_app r h2]
theorem splL_join (c:Nat):∀(ps:List Str),ps≠[]→(∀p∈ps,c∉p.cps.toList)→splL c (Str.join ⟨#[c]⟩ ps).cps.toList=ps.map (·.cps.toList)
 |[],h,_=>absurd rfl h
 |[p],_,hf=>by
  show splL c p.cps.toList=[p.cps.toList]
  exact splL_free (hf p (by simp))
 |p::q::r,_,hf=>by
  have ih:=splL_join c (q::r) (by simp) fun x hx=>hf x (List.mem_cons_of_mem _ hx)
  show splL c (p++⟨#[c]⟩++Str.join ⟨#[c]⟩ (q::r)).cps.toList=_
  have e:(p++⟨#[c]⟩++Str.join ⟨#[c]⟩ (q::r)).cps.toList=p.cps.toList++c::(Str.join ⟨#[c]⟩ (q::r)).cps.toList:=by
   show((p.cps++#[c])++(Str.join ⟨#[c]⟩ (q::r)).cps).toList=_
   simp
  rw[e,splL_app _ (hf p (by simp)),ih]
  rfl
theorem cnt_nn (c:Nat):∀l,(0:Int)≤cnt c l
 |[]=>Int.le_refl 0
 |n::r=>by
  have:=cnt_nn c r
  rw[cnt_cons]
  split<;>omega
theorem split_eq (x:Str)(c:Nat):(Txt.split x ⟨#[c]⟩).map (·.cps.toList)=splL c x.cps.toList:=by
 have h1:=StrLaws.join_split x ⟨#[c]⟩
 have h2:=StrLaws.split_free x c
 by_cases e:Txt.split x ⟨#[c]⟩=[]
 ·exfalso
  have:=split_len x c
  rw[e]at this
  have h3:=cnt_nn c x.cps.toList
  simp at this
  omega
 ·have:=splL_join c _ e h2
  rw[h1]at this
  exact this.symm
theorem slice1 (x:Str)(h:1≤x.length):Txt.slice x (some 1) none=⟨(x.cps.toList.drop 1).toArray⟩:=by
 have q:=slice_closes_fromL (x:=x) (i:=1) (b:=x.length) (by omega) (by omega) rfl
 have q':=eq_of_beq q
 rw[q']
 have e:((x.length:Int)-1).toNat=(x.cps.toList.drop 1).length:=by
  rw[List.length_drop]
  show _=x.cps.toList.length-1
  have:x.cps.toList.length=x.length:=by simp[Str.length]
  omega
 have e2:((x.cps.toList.drop (1:Int).toNat).take ((x.length:Int)-1).toNat)=x.cps.toList.drop 1:=by
  rw[e]
  show(x.cps.toList.drop 1).take (x.cps.toList.drop 1).length=_
  exact List.take_length
 first
  |exact congrArg (fun l=>(⟨l.toArray⟩:Str)) e2
  |(rw[e2])
def smallS:Str:="abcdefghijklmnopqrstuvwxyz"
def greatS:Str:="ABCDEFGHIJKLMNOPQRSTUVWXYZ"
def keptL:List Str:=["num","fun","call","let","ring","case","make","pick","plus","minus","times","less","if","kind","record","face","hide","val","part","maker","apply","main"]
def inS (y:Str)(c:Nat):Bool:=decide (c∈y.cps.toList)
def allS (z y:Str):Bool:=z.cps.toList.all (inS y)
def okLen (z:Str):Bool:=decide (1≤z.length)&&decide (z.length≤8)
def smallB (z:Str):Bool:=okLen z&&allS z smallS
def nameB (z:Str):Bool:=smallB z&& !decide (z∈keptL)
def restS (z:Str):Str:=⟨(z.cps.toList.drop 1).toArray⟩
def greatB (z:Str):Bool:=okLen z&&(inS greatS (z.cps.toList.getD 0 0)&&allS (restS z) smallS)
def pathB (z:Str):Bool:=match splL 46 z.cps.toList with
 |[a,b]=>greatB ⟨a.toArray⟩&&nameB ⟨b.toArray⟩
 |_=>false
theorem len_toList (z:Str):z.cps.toList.length=z.length:=by simp[Str.length]
theorem str_ext {a b:Str}(h:a.cps.toList=b.cps.toList):a=b:=by
 cases a;cases b
 simp only[Str.mk.injEq]
 exact Array.toList_inj.mp h
theorem small_range {c:Nat}(h:inS smallS c=true):97≤c∧c≤122:=by
 have h':c∈smallS.cps.toList:=of_decide_eq_true h
 have:∀d∈smallS.cps.toList,97≤d∧d≤122:=by decide+kernel
 exact this c h'
theorem great_range {c:Nat}(h:inS greatS c=true):65≤c∧c≤90:=by
 have h':c∈greatS.cps.toList:=of_decide_eq_true h
 have:∀d∈greatS.cps.toList,65≤d∧d≤90:=by decide+kernel
 exact this c h'
theorem smallS_len:smallS.length=26:=by decide+kernel
theorem greatS_len:greatS.length=26:=by decide+kernel
structure IsLet (z:Str)(n:Nat):Prop where
 len:z.length=n
 all:allS z smallS=true
theorem cps_app (a b:Str):(a++b).cps.toList=a.cps.toList++b.cps.toList:=by
 show(a.cps++b.cps).toList=_
 simp
theorem len_app (a b:Str):(a++b).length=a.length+b.length:=by
 rw[←len_toList,cps_app,List.length_append,len_toList,len_toList]
theorem name_let {z:Str}(h:nameB z=true):∃n,IsLet z n∧1≤n∧n≤8∧z∉keptL:=by
 unfold nameB smallB okLen at h
 simp only[Bool.and_eq_true,decide_eq_true_eq,Bool.not_eq_true',decide_eq_false_iff_not]at h
 exact⟨z.length,⟨rfl,h.1.2⟩,h.1.1.1,h.1.1.2,h.2⟩
theorem great_parts {z:Str}(h:greatB z=true):∃c r,z.cps.toList=c::r∧65≤c∧c≤90∧(∀d∈r,97≤d∧d≤122)∧r.length≤7:=by
 unfold greatB okLen at h
 simp only[Bool.and_eq_true,decide_eq_true_eq]at h
 obtain⟨⟨h1,h2⟩,h3,h4⟩:=h
 cases e:z.cps.toList with
 |nil=>rw[←len_toList,e]at h1;simp at h1
 |cons c r=>
  rw[e]at h3
  have h3':inS greatS c=true:=h3
  refine⟨c,r,rfl,(great_range h3').1,(great_range h3').2,fun d hd=>?_,?_⟩
  ·unfold allS restS at h4
   rw[e]at h4
   exact small_range (List.all_eq_true.mp h4 d (by simpa using hd))
  ·rw[←len_toList,e]at h2
   simp at h2
   exact h2
inductive T where
 |int (i:Int)
 |str (x:Str)
 |tup (l:List T)
mutual
def T.sz:T→Nat
 |.int _=>1
 |.str _=>1
 |.tup l=>1+szs l
def szs:List T→Nat
 |[]=>0
 |t::r=>t.sz+szs r
end
theorem sz_pos:∀t:T,1≤t.sz
 |.int _=>by simp[T.sz]
 |.str _=>by simp[T.sz]
 |.tup l=>by simp[T.sz]
theorem szs_app:∀(a b:List T),szs (a++b)=szs a+szs b
 |[],b=>by simp[szs]
 |t::r,b=>by simp[szs,szs_app r b,Nat.add_assoc]
theorem len_szs:∀l:List T,l.length≤szs l
 |[]=>by simp[szs]
 |t::r=>by
  have:=len_szs r
  have:=sz_pos t
  simp[szs]
  omega
mutual
inductive Rep (H:Hp):V→T→Prop where
 |int (i:Int):Rep H (.int i) (.int i)
 |str (x:Str) (h:x.length≤100000):Rep H (.str x) (.str x)
 |tup {a:Addr} {vs:List V} {ts:List T} (h:H a=some (.tup vs)) (r:Reps H vs ts):Rep H (.ref a) (.tup ts)
inductive Reps (H:Hp):List V→List T→Prop where
 |nil:Reps H [] []
 |cons {v:V} {t:T} {vs:List V} {ts:List T} (r:Rep H v t) (q:Reps H vs ts):Reps H (v::vs) (t::ts)
end
mutual
theorem Rep.mono {H H':Hp}(e:∀b xs,H b=some (.tup xs)→H' b=some (.tup xs)):∀{v:V} {t:T},Rep H v t→Rep H' v t
 |_,_, .int i=>.int i
 |_,_, .str x h=>.str x h
 |_,_, .tup h r=>.tup (e _ _ h) (Reps.mono e r)
theorem Reps.mono {H H':Hp}(e:∀b xs,H b=some (.tup xs)→H' b=some (.tup xs)):∀{vs:List V} {ts:List T},Reps H vs ts→Reps H' vs ts
 |_,_, .nil=>.nil
 |_,_, .cons r q=>.cons (Rep.mono e r) (Reps.mono e q)
end
theorem Rep.same {H H':Hp}(e:Same H H'){v:V}{t:T}(r:Rep H v t):Rep H' v t:=r.mono fun b xs h=>e b _ h
theorem Reps.same {H H':Hp}(e:Same H H'){vs:List V}{ts:List T}(r:Reps H vs ts):Reps H' vs ts:=r.mono fun b xs h=>e b _ h
theorem Reps.length {H:Hp}:∀{vs:List V} {ts:List T},Reps H vs ts→vs.length=ts.length
 |_,_, .nil=>rfl
 |_,_, .cons _ q=>congrArg (·+1) q.length
theorem Reps.append {H:Hp}:∀{vs ws:List V} {ts us:List T},Reps H vs ts→Reps H ws us→Reps H (vs++ws) (ts++us)
 |_,_,_,_, .nil,q=>q
 |_,_,_,_, .cons r p,q=>.cons r (Reps.append p q)
theorem Reps.snoc_inv {H:Hp}{vs:List V}{ts:List T}(r:Reps H vs ts)(h:vs≠[]):∃ws us v t,vs=ws++[v]∧ts=us++[t]∧Reps H ws us∧Rep H v t:=by
 induction vs generalizing ts with
 |nil=>exact absurd rfl h
 |cons v vs ih=>
  cases r with
  |@cons _ t _ ts' r q=>
   by_cases e:vs=[]
   ·subst e
    cases q
    exact⟨[],[],v,t,rfl,rfl, .nil,r⟩
   ·obtain⟨ws,us,v',t',rfl,rfl,q1,q2⟩:=ih q e
    exact⟨v::ws,t::us,v',t',rfl,rfl, .cons r q1,q2⟩
theorem same_new {H:Hp}{p:Addr}(h:H p=none)(o:HO):Same H (upd H p o):=fun b u q=>by rw[upd_ne (ne_of_none q h)];exact q
section
variable (kids:T→Option (List T))
inductive Good:T→Prop where
 |mk {t:T} {l:List T} (h:kids t=some l) (q:∀k∈l,Good k):Good t
inductive Bad:T→Prop where
 |none {t:T} (h:kids t=none):Bad t
 |kid {t:T} {l:List T} {k:T} (h:kids t=some l) (m:k∈l) (q:Bad k):Bad t
end
def onStr (f:Str→Bool):T→Bool
 |.str z=>f z
 |_=>false
def Has (P:Program)(w:World)(K:PySem.W.Frag)(mg:Str→Option Value)(base:Heap)(k:Nat)(x:Str)(ps:List Str)(sp:Sp):Prop :=
 ∃f fd,FnOk P w K mg base CX0 k f fd ps sp∧Binds K fd ps []∧PySem.W.keepIn K (.ref f)=true∧mg x=some (.ref f)
theorem pcall {X:Cx}{k j:Nat}{x:Str}{ps:List Str}{sp:Sp}{p pos:Pos}{e:Expr}{es:List Expr}{t:TA}(h:Has X.prog X.w X.K X.mg X.base k x ps sp)(hr:Room j X.A)(hkj:k≤j)(hg:Gl X x)(ha:PA X (e::es) t)
  (hdb:(x==("__debug__":Str))=false:=by decide) (he:starEach (e::es) X.env=(false,eval e X.env)::starEach es X.env:=by rfl) (hpl:(backTo pos (starEach es X.env)).any (·.1)=false:=by rfl):
  PE X (.Call (.Name x p) (e::es) [] pos) (tCall sp [] E0 t):=by
 obtain⟨f,fd,h1,h2,h3,h4⟩:=h
 exact pe_call h1 (hr.mono hkj) hg h4 h3 h2 .nil pass0 ha hdb he hpl
def spT (f:T→Bool):Sp:=fun vs H Q _=>∃v t,vs=[v]∧Rep H v t∧∀H',Same H H'→Q (.bl (f t)) H'
def spAllOf:Sp:=fun vs H Q _=>∃x y,vs=[.str x, .str y]∧x.length≤100000∧∀H',Same H H'→Q (.bl (allS x y)) H'
def tyT:T→Value
 |.int _=>.type "int"
 |.str _=>.type "str"
 |.tup _=>.type "tuple"
def isStrT:T→Bool
 |.str _=>true
 |_=>false
def isTupT:T→Bool
 |.tup _=>true
 |_=>false
theorem rep_ty {K:PySem.W.Frag}{H:Hp}{v:V}{t:T}(r:Rep H v t):TyOf K H v (tyT t):=by
 cases r with
 |int i=>exact .int i
 |str x h=>exact .str x
 |tup h q=>exact .tup h
theorem kit_str (K:PySem.W.Frag)(t:T):PySem.W.kitOne K (tyT t) (.type "str")=some (isStrT t):=by
 cases t with
 |int i=>first|rfl|(with_unfolding_all rfl)|kernel_rfl
 |str x=>first|rfl|(with_unfolding_all rfl)|kernel_rfl
 |tup l=>first|rfl|(with_unfolding_all rfl)|kernel_rfl
theorem kit_tup (K:PySem.W.Frag)(t:T):PySem.W.kitOne K (tyT t) (.type "tuple")=some (isTupT t):=by
 cases t with
 |int i=>first|rfl|(with_unfolding_all rfl)|kernel_rfl
 |str x=>first|rfl|(with_unfolding_all rfl)|kernel_rfl
 |tup l=>first|rfl|(with_unfolding_all rfl)|kernel_rfl
structure Gb (K:PySem.W.Frag)(mg:Str→Option Value):Prop where
 len:mg "len"=none
 all:mg "all"=none
 isi:mg "isinstance"=none
 str:mg "str"=none
 tuple:mg "tuple"=none
 list:mg "list"=none
 range:mg "range"=none
 small:∃t,mg "SMALL_LETTERS"=some (.str smallS t)
 great:∃t,mg "GREAT_LETTERS"=some (.str greatS t)
 most:∃t,mg "MOST_LETTERS"=some (.int 8 t)
 kept:∃a,mg "KEPT"=some (.ref a)∧∀H,SqT K H a (keptL.map V.str)
theorem tt1 {σ:L2.St}{H:Hp}{Q:Bool→Hp→Prop}(h:Q true H):tTrue σ H Q:=h
theorem small {n:Nat}(h:n≤1000000):n≤sizeLine:=Nat.le_trans h (by decide)
theorem small' {n:Nat}(h:n≤1000000):n<sizeLine:=Nat.lt_of_le_of_lt h (by decide)
theorem sml (n:Nat)(h:n≤1000000:=by decide):n≤sizeLine:=small h
theorem n4 {n:Nat}(h:n<4):n=0∨n=1∨n=2∨n=3:=by
 have k:∀n,n<4→(n=0∨n=1∨n=2∨n=3):=by decide
 exact k n h
theorem n5 {n:Nat}(h:n<5):n=0∨n=1∨n=2∨n=3∨n=4:=by
 have k:∀n,n<5→(n=0∨n=1∨n=2∨n=3∨n=4):=by decide
 exact k n h
theorem n6 {n:Nat}(h:n<6):n=0∨n=1∨n=2∨n=3∨n=4∨n=5:=by
 have k:∀n,n<6→(n=0∨n=1∨n=2∨n=3∨n=4∨n=5):=by decide
 exact k n h
theorem n7 {n:Nat}(h:n<7):n=0∨n=1∨n=2∨n=3∨n=4∨n=5∨n=6:=by
 have k:∀n,n<7→(n=0∨n=1∨n=2∨n=3∨n=4∨n=5∨n=6):=by decide
 exact k n h
theorem eqV_str (a b:Str):eqV (.str a) (.str b)=decide (a=b):=by
 show(a==b)=_
 rw[Bool.eq_iff_iff]
 simp
theorem inV_str (z:Str):∀l:List Str,inV (.str z) (l.map V.str)=decide (z∈l)
 |[]=>by simp[inV]
 |a::r=>by
  have ih:=inV_str z r
  unfold inV at ih ⊢
  rw[List.map_cons,List.any_cons,ih,eqV_str,Bool.eq_iff_iff]
  simp only[Bool.or_eq_true,decide_eq_true_eq,List.mem_cons]
  constructor
  ·rintro(h|h)
   ·exact .inl h.symm
   ·exact .inr h
  ·rintro(h|h)
   ·exact .inl h.symm
   ·exact .inr h
theorem flat_strs:∀l:List Str,(l.map V.str).all flatV=true
 |[]=>rfl
 |a::r=>by rw[List.map_cons,List.all_cons,flat_strs r];rfl
theorem dot_eq:(Str.ofString ".":Str)=⟨#[46]⟩:=by decide+kernel
theorem qm_eq:(Str.ofString "?":Str)=⟨#[63]⟩:=by decide+kernel
theorem starts_qm (z:Str):Txt.startswith z "?"=decide (z.cps.toList.head?=some 63):=by
 rw[qm_eq]
 unfold Txt.startswith
 obtain⟨a⟩:=z
 obtain⟨l⟩:=a
 cases l with
 |nil=>rfl
 |cons c r=>
  simp[Builtin.Str.subAt,Str.length,Nat.all]
  rw[Bool.eq_iff_iff]
  simp
theorem smallB_lo {z:Str}(h:¬1≤z.length):smallB z=false:=by
 unfold smallB okLen
 rw[decide_eq_false h]
 rfl
theorem smallB_hi {z:Str}(h:¬z.length≤8):smallB z=false:=by
 unfold smallB okLen
 rw[decide_eq_false h]
 simp
theorem smallB_in {z:Str}(h1:1≤z.length)(h2:z.length≤8):smallB z=allS z smallS:=by
 unfold smallB okLen
 rw[decide_eq_true h1,decide_eq_true h2]
 simp
theorem greatB_lo {z:Str}(h:¬1≤z.length):greatB z=false:=by
 unfold greatB okLen
 rw[decide_eq_false h]
 rfl
theorem greatB_hi {z:Str}(h:¬z.length≤8):greatB z=false:=by
 unfold greatB okLen
 rw[decide_eq_false h]
 simp
theorem greatB_in {z:Str}(h1:1≤z.length)(h2:z.length≤8):greatB z=(inS greatS (z.cps.toList.getD 0 0)&&allS (restS z) smallS):=by
 unfold greatB okLen
 rw[decide_eq_true h1,decide_eq_true h2]
 simp
theorem rest_slice {z:Str}(h:1≤z.length):Txt.slice z (some 1) none=restS z:=slice1 z h
theorem rest_len (z:Str):(restS z).length≤z.length:=by
 rw[←len_toList,←len_toList]
 unfold restS
 simp
theorem first_at {z:Str}(h:1≤z.length):atI z.cps.toList (0:Int)=some (z.cps.toList.getD 0 0):=by
 refine atI_nat (j:=0) ?_
 have:0<z.cps.toList.length:=by rw[len_toList];exact h
 rw[List.getElem?_eq_getElem this]
 simp[List.getD_eq_getElem?_getD,List.getElem?_eq_getElem this]
theorem cut1 (vs:List V):cutV vs (some 1) none=vs.drop 1:=by
 unfold cutV
 rw[HT.sIx_none]
 have e:HT.sIx vs.length 0 (some 1)=min 1 vs.length:=HT.sIx_nat vs.length 0 1
 rw[e]
 cases vs with
 |nil=>rfl
 |cons a r=>
  have:min 1 (a::r).length=1:=by simp
  rw[this]
  simp
theorem cut1_not {vs:List V}(h:vs≠[]):¬(HT.sIx vs.length 0 (some 1)=0∧HT.sIx vs.length vs.length none=vs.length):=by
 have e:HT.sIx vs.length 0 (some 1)=min 1 vs.length:=HT.sIx_nat vs.length 0 1
 rw[e]
 have:0<vs.length:=List.length_pos_iff.mpr h
 omega
theorem pathB_two {z a b:Str}(h:Txt.split z "."=[a,b]):pathB z=(greatB a&&nameB b):=by
 have q:=split_eq z 46
 rw[←dot_eq,h]at q
 unfold pathB
 rw[←q]
 show(greatB ⟨a.cps.toList.toArray⟩&&nameB ⟨b.cps.toList.toArray⟩)=_
 have e1:(⟨a.cps.toList.toArray⟩:Str)=a:=str_ext (by simp)
 have e2:(⟨b.cps.toList.toArray⟩:Str)=b:=str_ext (by simp)
 rw[e1,e2]
theorem pathB_other {z:Str}(h:(Txt.split z ".").length≠2):pathB z=false:=by
 have q:=split_eq z 46
 rw[←dot_eq]at q
 have q2:=congrArg List.length q
 rw[List.length_map]at q2
 unfold pathB
 split
 ·rename_i a b e
  rw[e]at q2
  exact absurd q2 h
 ·rfl
theorem split_short (z:Str):(Txt.split z ".").length≤z.length+1:=by
 have:=split_weight z "." (by decide+kernel)
 exact Nat.le_trans (Nat.le_add_left _ _) this
section
variable {ta tb tc:TE}{t u:TT}{σ:L2.St}{H:Hp}{v x y z:V}{c c1 c2:Bool}{K:PySem.W.Frag}
end
end Fw
namespace L2
open PySem PySem.Spec PyProof.Rows
section
variable {X:Cx}
end
end L2
namespace PySem
namespace Heap
def TracedAtX (g bse:Heap)(e:Addr)(cls a0 fl:Value):Prop :=
 ∃ob ws T oT ts,g.get? e=some ob∧(ob.cls=cls∧ws[0]?=some a0∧ws[2]?=some .none)∧ob.data=.fields ws∧ws[1]?=some (.ref T)∧bse.get? T=none∧T≠e∧g.get? T=some oT∧oT.data=.fields ts∧ts[3]?=some fl
def FlyingX (bse:Heap)(l:List Env)(e:Addr)(cls a0:Value)(g:Heap):Prop:=bse.StaysIn g∧bse.get? e=none∧g.FunFrames bse l∧g.TracedAtX bse e cls a0 .none
def HeldX (bse:Heap)(l:List Env)(e:Addr)(cls a0:Value)(L:Addr)(g:Heap):Prop:=bse.StaysIn g∧bse.get? e=none∧g.FunFrames bse l∧g.TracedAtX bse e cls a0 (rawInt L)
theorem FlyingX.there {bse g:Heap}{l:List Env}{e:Addr}{cls a0:Value}(x:FlyingX bse l e cls a0 g):∃ob,g.get? e=some ob∧ob.cls=cls :=
 x.2.2.2.elim fun ob h=>h.elim fun _ h=>h.elim fun _ h=>h.elim fun _ h=>h.elim fun _ h=>⟨ob,h.1,h.2.1.1⟩
end Heap
section
variable {M:Model}{A:Around}{E:Value→Shared→Prop}{s:Shared}{bse:Heap}{env:Env}{outer:List Env}{L e:Addr}{cls a0 fl:Value}{Q:Unit→Shared→Prop}
theorem entryX {ob:Obj}{ws:Array Value}{hd:Value}{hn:Bool}(hfr:A.frames=some (env::outer))(f3:s.heap.FunFrames bse (env::outer))(hf:env.frame=some L)(ge:s.heap.get? e=some ob)(f1:bse.StaysIn s.heap)(f2:bse.get? e=none)(gd:ob.data=.fields ws)(z1:1<ws.size)(g0:ws[0]?=some a0∧ws[2]?=some .none)
  (hQ:∀g,bse.StaysIn g→g.FunFrames bse (env::outer)→g.TracedAtX bse e ob.cls a0 (rawInt L)→s.heap.UpToSlots g→Q () {s with heap:=g}):
  wpAny M A (do
   let x ←frameOf env
   let y ←entryPlaceOf L hn
   let z ←EntryCells.newEntry hd x .none (rawInt L) .none y
   setField (.ref e) 1 z) Q E s:=by
 refine wpAny_bind (wpAny_frameOf_fun hfr f3 hf fun g1 so=>wpAny_bind (wpAny_entryPlaceOf fun y iy=>?_))
 unfold EntryCells.newEntry newFields
 refine wpAny_bind (wpAny_newObj_type ?_ (iy.sizeOk5 _ _ _ _ _))
 have nfe:e∉(env::outer).filterMap (·.frame):=fun z=>by
  obtain⟨_,o,q,n⟩:=f3.mem z
  rw[ge]at q
  cases q
  exact n ws gd
 have e1:g1.get? e=some ob:=(so.2.1 e nfe).trans ge
 have f1':bse.StaysIn g1:=fun b o q=>(so.2.1 b fun z=>by rw[(f3.mem z).1]at q;cases q).trans (f1 b o q)
 have t3:(([hd, .ref L, .none,rawInt L, .none]++(if y.isEmpty then List.replicate 6 Value.none else y)).toArray)[3]?=some (rawInt L):=by simp
 generalize ([hd, .ref L, .none,rawInt L, .none]++(if y.isEmpty then List.replicate 6 Value.none else y)).toArray=ts at t3 ⊢
 have nT:g1.objs.size≠e:=Nat.ne_of_gt (Heap.lt_size e1)
 have e2:=Heap.get?_push_of_some (h:=g1) {cls:=.type "traceback",dict:=none,data:=.fields ts} e1
 have gd3:=Obj.data_mapFields gd (·.setIfInBounds 1 (Value.ref g1.objs.size))
 have off:∀b o,b≠e→g1.get? b=some o→((g1.push {cls:=.type "traceback",dict:=none,data:=.fields ts}).update e (Obj.mapFields (·.setIfInBounds 1 (Value.ref g1.objs.size)))).get? b=some o:=fun b o n q=>by
  rw[Heap.get?_update_other _ _ (Ne.symm n)]
  exact Heap.get?_push_of_some _ q
 have nrec:∀b o,s.heap.get? b=some o→(∀vs,o.data≠.fields vs)→b≠e:=fun b o q n z=>by
  subst z
  rw[ge]at q
  cases q
  exact n ws gd
 have upto:∀b o,s.heap.get? b=some o→(∀vs,o.data≠.fields vs)→∃sl,((g1.push {cls:=.type "traceback",dict:=none,data:=.fields ts}).update e (Obj.mapFields (·.setIfInBounds 1 (Value.ref g1.objs.size)))).get? b=some {o with slots:=sl}:=fun b o q n=>by
  obtain⟨sl,q'⟩:=so.2.2 b o q
  exact⟨sl,off b _ (nrec b o q n) q'⟩
 refine wpAny_setField e2 gd z1 (hQ _ (fun b o q=>off b o (fun z=>by rw[z,f2]at q;cases q) (f1' b o q)) (f3.of_keeps fun b o q n=>?_) ?_ upto)
 ·obtain⟨sl,q'⟩:=upto b o q n
  exact⟨_,q',rfl⟩
 ·refine⟨_,_,g1.objs.size,_,ts,Heap.get?_update_self _ e2 (Obj.isFreed_of_fields gd3),⟨Obj.cls_mapFields _ _,?_,?_⟩,gd3,by simp[z1],f1'.fresh,nT,(Heap.get?_update_other _ _ (Ne.symm nT)).trans (Heap.get?_push_size g1 rfl),rfl,t3⟩
  ·rw[Array.getElem?_setIfInBounds_ne (by decide)];exact g0.1
  ·rw[Array.getElem?_setIfInBounds_ne (by decide)];exact g0.2
theorem flight_at {l:List Env}(fr:Option Addr)(f1:bse.StaysIn s.heap)(f3:s.heap.FunFrames bse l)(f4:s.heap.TracedAtX bse e cls a0 fl)
  (hQ:∀h',bse.StaysIn h'→h'.FunFrames bse l→h'.TracedAtX bse e cls a0 (fr.elim Value.none fun f=>rawInt f)→(∀b o,s.heap.get? b=some o→(∀vs,o.data≠.fields vs)→h'.get? b=some o)→Q () {s with heap:=h'}):
  wpAny M A (setFlight (.ref e) fr) Q E s:=by
 obtain⟨ob,ws,T,oT,ts,ge,gc,gd,g1,gn,gne,gT,gdT,g3⟩:=f4
 have sz:3<ts.size:=(Array.getElem?_eq_some_iff.mp g3).1
 have off:∀b,b≠T→(s.heap.update T (Obj.mapFields (·.setIfInBounds 3 (fr.elim Value.none fun f=>rawInt f)))).get? b=s.heap.get? b:=fun b z=>Heap.get?_update_other _ _ (Ne.symm z)
 have nrec:∀b o,s.heap.get? b=some o→(∀vs,o.data≠.fields vs)→b≠T:=fun b o q n z=>by
  subst z
  rw[gT]at q
  cases q
  exact n ts gdT
 unfold setFlight
 refine wpAny_bind (wpAny_field ge gd g1 ?_)
 rw[if_pos (by simp)]
 refine wpAny_setField gT gdT sz (hQ _ (fun b o q=>?_) (f3.of_keeps fun b o q n=>⟨o,(off b (nrec b o q n)).trans q,rfl⟩) ?_ fun b o q n=>(off b (nrec b o q n)).trans q)
 ·rw[off b (fun z=>by rw[z,gn]at q;cases q)]
  exact f1 b o q
 ·exact⟨ob,ws,T,_,_,(off e (Ne.symm gne)).trans ge,gc,gd,g1,gn,gne,Heap.get?_update_self _ gT (Obj.isFreed_of_fields (Obj.data_mapFields gdT _)),Obj.data_mapFields gdT _,by simp[sz]⟩
theorem notesX (hfr:A.frames=some (env::outer))(hf:env.frame=some L)(f1:bse.StaysIn s.heap)(f2:bse.get? e=none)(f3:s.heap.FunFrames bse (env::outer))(f4:s.heap.TracedAtX bse e cls a0 fl)
  (hQ:∀g,Heap.HeldX bse (env::outer) e cls a0 L g→s.heap.UpToSlots g→Q () {s with heap:=g}):wpAny M A (noteFrame (.ref e) env) Q E s:=by
 by_cases hb:(fl==rawInt L)=true
 ·obtain⟨ob,ws,T,oT,ts,ge,gc,gd,g1,gn,gne,gT,gdT,g3⟩:=id f4
  have ef:fl=rawInt L:=by simpa using hb
  unfold noteFrame
  simp only[hf]
  refine wpAny_bind (wpAny_field ge gd g1 ?_)
  rw[if_pos (by simp)]
  refine wpAny_bind (wpAny_field gT gdT g3 ?_)
  rw[if_pos hb]
  exact wpAny_pure (hQ s.heap ⟨f1,f2,f3,ef ▸ f4⟩ (Heap.UpToSlots.refl _))
 ·obtain⟨ob,ws,T,oT,ts,ge,⟨gc,g0⟩,gd,g1,gn,gne,gT,gdT,g3⟩:=f4
  subst gc
  unfold noteFrame
  simp only[hf]
  refine wpAny_bind (wpAny_field ge gd g1 ?_)
  rw[if_pos (by simp)]
  refine wpAny_bind (wpAny_field gT gdT g3 ?_)
  rw[if_neg hb]
  refine wpAny_bind (wpAny_setField gT gdT (Array.getElem?_eq_some_iff.mp g3).1 ?_)
  have off:∀b,b≠T→(s.heap.update T (Obj.mapFields (·.setIfInBounds 3 Value.none))).get? b=s.heap.get? b:=fun b z=>Heap.get?_update_other _ _ (Ne.symm z)
  have nrec:∀b o,s.heap.get? b=some o→(∀vs,o.data≠.fields vs)→b≠T:=fun b o q n z=>by
   subst z
   rw[gT]at q
   cases q
   exact n ts gdT
  refine entryX hfr (f3.of_keeps fun b o q n=>⟨o,(off b (nrec b o q n)).trans q,rfl⟩) hf ((off e (Ne.symm gne)).trans ge) (fun b o q=>?_) f2 gd (Array.getElem?_eq_some_iff.mp g1).1 g0 fun h' k1 k2 k3 k4=>hQ h' ⟨k1,f2,k2,k3⟩ fun b o q n=>k4 b o ((off b (nrec b o q n)).trans q) n
  rw[off b (fun z=>by rw[z,gn]at q;cases q)]
  exact f1 b o q
theorem leaves_any (hfr:A.frames=some (env::outer))(hf:env.frame=some L)(f1:bse.StaysIn s.heap)(f2:bse.get? e=none)(f3:s.heap.FunFrames bse (env::outer))(f4:s.heap.TracedAtX bse e cls a0 fl)
  (hQ:∀h',Heap.FlyingX bse outer e cls a0 h'→s.heap.UpToSlots h'→Q () {s with heap:=h'}):wpAny M A (leaving env (.ref e)) Q E s:=by
 unfold leaving
 refine wpAny_bind (notesX hfr hf f1 f2 f3 f4 fun g ⟨a1,a2,a3,a4⟩ up=>flight_at (s:={s with heap:=g}) none a1 a3 a4 fun h' k1 k2 k3 k4=>hQ h' ⟨k1,f2,k2.2.2,k3⟩ (up.trans fun b o q n=>⟨o.slots,k4 b o q n⟩))
theorem leaves_onX (hfr:A.frames=some (env::outer))(hf:env.frame=some L)(x:Heap.FlyingX bse (env::outer) e cls a0 s.heap)(hQ:∀h',Heap.FlyingX bse outer e cls a0 h'→s.heap.UpToSlots h'→Q () {s with heap:=h'}):wpAny M A (leaving env (.ref e)) Q E s:=leaves_any hfr hf x.1 x.2.1 x.2.2.1 x.2.2.2 hQ
theorem looks_onX (hfr:A.frames=some (env::outer))(hf:env.frame=some L)(x:Heap.FlyingX bse (env::outer) e cls a0 s.heap)(hQ:∀g,Heap.HeldX bse (env::outer) e cls a0 L g→s.heap.UpToSlots g→Q () {s with heap:=g}):wpAny M A (noteFrame (.ref e) env) Q E s:=notesX hfr hf x.1 x.2.1 x.2.2.1 x.2.2.2 hQ
theorem landsX {l:List Env}(x:Heap.HeldX bse l e cls a0 L s.heap)(hQ:∀h',Heap.FlyingX bse l e cls a0 h'→s.heap.UpToSlots h'→Q () {s with heap:=h'}):wpAny M A (setFlight (.ref e) none) Q E s :=
 flight_at none x.1 x.2.2.1 x.2.2.2 fun h' k1 k2 k3 k4=>hQ h' ⟨k1,x.2.1,k2,k3⟩ fun b o q n=>⟨o.slots,k4 b o q n⟩
theorem lands_againX {l:List Env}(x:Heap.FlyingX bse l e cls a0 s.heap)(hQ:∀h',Heap.FlyingX bse l e cls a0 h'→s.heap.UpToSlots h'→Q () {s with heap:=h'}):wpAny M A (setFlight (.ref e) none) Q E s :=
 flight_at none x.1 x.2.2.1 x.2.2.2 fun h' k1 k2 k3 k4=>hQ h' ⟨k1,x.2.1,k2,k3⟩ fun b o q n=>⟨o.slots,k4 b o q n⟩
theorem looks_made {h:Heap}{args:List Value}(hfr:A.frames=some (env::outer))(hf:env.frame=some L)(hkb:bse.StaysIn h)(hl:h.FunFrames bse (env::outer))(hx:Heap.MadeExcOf h s.heap e cls args)
  (hQ:∀h' t,Heap.HeldX bse (env::outer) e cls (.ref t) L h'→s.heap.UpToSlots h'→Q () {s with heap:=h'}):wpAny M A (noteFrame (.ref e) env) Q E s:=by
 obtain⟨t,he,htn,ht⟩:=hx.there
 have fresh:bse.get? e=none:=by
  cases hq:bse.get? e with
  |none=>rfl
  |some o'=>have:=hkb e o' hq;rw[hx.new]at this;cases this
 unfold noteFrame
 simp only[hf]
 refine wpAny_bind (wpAny_field he rfl (x:=.none) rfl ?_)
 rw[if_neg (by decide)]
 exact entryX (a0:=.ref t) hfr (hl.of_keeps fun b o hb _=>⟨o,hx.keeps b o hb,rfl⟩) hf he (fun b o hb=>hx.keeps b o (hkb b o hb)) fresh rfl (by show 1<6;decide) ⟨rfl,rfl⟩ fun h' k1 k2 k3 k4=>hQ h' t ⟨k1,fresh,k2,k3⟩ k4
theorem leaves_madeX {h:Heap}{args:List Value}(hfr:A.frames=some (env::outer))(hf:env.frame=some L)(hkb:bse.StaysIn h)(hl:h.FunFrames bse (env::outer))(hx:Heap.MadeExcOf h s.heap e cls args)
  (hQ:∀h' t,Heap.FlyingX bse outer e cls (.ref t) h'→s.heap.UpToSlots h'→Q () {s with heap:=h'}):wpAny M A (leaving env (.ref e)) Q E s:=by
 unfold leaving
 exact wpAny_bind (looks_made hfr hf hkb hl hx fun g t ⟨a1,a2,a3,a4⟩ up=>flight_at (s:={s with heap:=g}) none a1 a3 a4 fun h' k1 k2 k3 k4=>hQ h' t ⟨k1,a2,k2.2.2,k3⟩ (up.trans fun b o q n=>⟨o.slots,k4 b o q n⟩))
end
end PySem
namespace L2
open PySem PySem.Spec PyProof.Rows
def Flies (P:Program)(w:World)(l:List Env)(H:Hp)(s:Shared)(C ea:Addr)(H':Hp)(s':Shared):Prop :=
 s'.os=s.os∧AllBare s'.gens∧Un (frs l) [] H H' s.heap s'.heap∧HOk P w H' s'.heap∧H' ea=none∧
 ∃(B:Heap) (t:Addr),Heap.FlyingX B l ea (.ref C) (.ref t) s'.heap∧∀b o,s'.heap.get? b=some o→b∉frs l→(H' b≠none∨∃o',s.heap.get? b=some o')→B.get? b=some o
def CXF (P:Program)(w:World):CXT:=fun l H s E e s'=>∃ea C H',e=.ref ea∧Flies P w l H s C ea H' s'∧E (.ref C) (some ea) H'
section
variable {P:Program}{w:World}{K:PySem.W.Frag}{mg:Str→Option Value}{base:Heap}{N:List Str}{qual:Str}{scope:Scope}{f:Addr}{cd:Value}{A:Around}{outer:List Env}{s:Shared}{H:Hp}{E:XK}{CX:CXT}
theorem HOk.keptT {H:Hp}{h h':Heap}(ok:HOk P w H h)(k:∀b u,H b≠none→h.get? b=some u→h'.get? b=some u):HOk P w H h':=fun a o e=>
 (ok a o e).stay (fun b u hb q=>k b u (by
  rcases hb with z|z
  ·rw[z,e];simp
  ·rw[z];simp) q) (fun _ q=>q) fun _ _ q=>q
theorem ObjOk.there {H:Hp}{h:Heap}{a:Addr}{o:HO}(x:ObjOk P w H h a o):∃ob,h.get? a=some ob:=by
 cases o with
 |lst xs=>obtain⟨_,_,_,_,e⟩:=x;exact⟨_,e⟩
 |tup xs=>obtain⟨_,_,_,ob,e,_⟩:=x;exact⟨_,e⟩
 |dK kvs=>obtain⟨_,_,_,_,o,_,_,e,_⟩:=x;exact⟨_,e⟩
 |dT kvs=>obtain⟨_,_,_,_,o,_,_,e,_⟩:=x;exact⟨_,e⟩
 |set S n=>obtain⟨o,_,_,_,e,_⟩:=x;exact⟨_,e⟩
 |ins C dx fs=>obtain⟨_,_,_,e,_⟩:=x;exact⟨_,e⟩
 |own y=>exact x
 |xd fs=>obtain⟨mA,⟨o,es,ep,e,_⟩,_⟩:=x;exact⟨_,e⟩
 |rng lo hi=>obtain⟨_,_,_,e⟩:=x;exact⟨_,e⟩
 |frz o u=>exact⟨_,x.1⟩
 |tbl ps=>exact⟨_,x⟩
 |met f y=>exact⟨_,x⟩
 |ext φ=>exact x.2.1
theorem left_unF {X:Cx}{pins:List (Addr×Obj)}{σ:St}{H1:Hp}{s1:Shared}{h':Heap}(hex:X.ex=[])(I:Inv X pins σ H1 s1)
  (kp:∀b o,s1.heap.get? b=some o→b∉frs X.stack→(H1 b≠none∨∃o',X.s₀.heap.get? b=some o')→h'.get? b=some o)
  (sl:∀b o,b∈X.fs→s1.heap.get? b=some o→(∀vs,o.data≠.fields vs)→∃sl,h'.get? b=some {o with slots:=sl}):Un X.fs [] X.H₀ H1 X.s₀.heap h'∧HOk X.prog X.w H1 h':=by
 have nx:∀b:Addr,b∉X.ex:=fun b z=>by rw[hex]at z;cases z
 have nostk:∀{b o},X.s₀.heap.get? b=some o→b∉X.fs→b∉frs X.stack:=fun{b o} e hb z=>by
  rcases List.mem_cons.mp (I.stkSub b z) with q|q
  ·have h1:=Heap.lt_size e
   have h2:=I.ok.above
   rw[q]at h1
   exact absurd (Nat.lt_of_lt_of_le h1 h2) (Nat.lt_irrefl _)
  ·exact hb q
 have trk:∀{b},H1 b≠none→b∉frs X.stack:=fun{b} n z=>n (I.stkFree b z)
 have frame:∀{b o},X.s₀.heap.get? b=some o→X.H₀ b=none→b∈X.fs→∃sl',h'.get? b=some {o with slots:=sl'}:=fun{b o} e n hb=>by
  obtain⟨s2,q⟩:=I.base.slot b o e n hb (nx b)
  obtain⟨_,o',ho',hnf⟩:=I.ok.funs.mem hb
  rw[e]at ho';cases ho'
  obtain⟨s3,q3⟩:=sl b _ hb q hnf
  exact⟨s3,q3⟩
 refine⟨⟨fun b o e n hb _=>kp b o (I.base.keep b o e n hb (nx b)) (nostk e hb) (.inr ⟨o,e⟩),fun b o e n hb _=>frame e n hb,fun b o e n _=>I.base.free b o e n (nx b),fun b o e _=>?_,I.base.tups,I.base.frzs,I.base.tbls⟩,I.hok.keptT fun b u n q=>kp b u q (trk n) (.inl n)⟩
 by_cases hb:b∈X.fs
 ·obtain⟨s3,q3⟩:=frame e (I.ok.frf b hb) hb
  exact⟨_,q3⟩
 ·obtain⟨o',q⟩:=I.base.there b o e (nx b)
  exact⟨o',kp b o' q (nostk e hb) (.inr ⟨o,e⟩)⟩
theorem left_un {X:Cx}{pins:List (Addr×Obj)}{σ:St}{H1:Hp}{s1:Shared}{h':Heap}(hex:X.ex=[])(I:Inv X pins σ H1 s1)
  (kp:∀b o,s1.heap.get? b=some o→b∉frs X.stack→(H1 b≠none∨∃o',X.s₀.heap.get? b=some o')→h'.get? b=some o)
  (sl:s1.heap.UpToSlots h'):Un X.fs [] X.H₀ H1 X.s₀.heap h'∧HOk X.prog X.w H1 h':=left_unF hex I kp fun b o _=>sl b o
theorem passes_up:Passes (CXF P w) (cxOf (CXF P w) P w K mg base N qual scope f cd A outer s H E) E:=by
 intro pins σ H1 s1 e s' I h
 obtain⟨ea,C,H',rfl,⟨os,bare,un,hok,nea,B,t,fl,keepB⟩,hE⟩:=h
 have J:Inv (cxOf (CXF P w) P w K mg base N qual scope f cd A outer s H E) pins σ H' s':=I.call' os un hok bare (fun b z=>absurd z (by simp))
 show wpAny _ _ (leaving _ (.ref ea)) _ _ s'
 refine leaves_onX I.ok.frames rfl fl fun h' x1 x2=>?_
 have kp:∀b o,s'.heap.get? b=some o→b∉frs (cxOf (CXF P w) P w K mg base N qual scope f cd A outer s H E).stack→(H' b≠none∨∃o',s.heap.get? b=some o')→h'.get? b=some o:=fun b o q hb hc=>x1.1 b o (keepB b o q hb (by
  rcases hc with z|⟨o',z⟩
  ·exact .inl z
  ·exact .inr (I.base.there b o' z (by intro q;cases q))))
 obtain⟨un',hok'⟩:=left_un rfl J kp x2
 refine⟨ea,C,H',rfl,⟨J.os,J.bare,un',hok',nea,B,t,x1,fun b o q hb hc=>?_⟩,hE⟩
 have nst:b∉frs (cxOf (CXF P w) P w K mg base N qual scope f cd A outer s H E).stack:=fun z=>by
  rcases List.mem_cons.mp (J.stkSub b z) with z1|z1
  ·rcases hc with z2|⟨o',z2⟩
   ·exact z2 (J.stkFree b z)
   ·have h1:=Heap.lt_size z2
    have h2:=J.ok.above
    rw[z1]at h1
    exact absurd (Nat.lt_of_lt_of_le h1 h2) (Nat.lt_irrefl _)
  ·exact hb z1
 obtain⟨o2,q2⟩:∃o2,s'.heap.get? b=some o2:=by
  rcases hc with z|⟨o',z⟩
  ·cases hz:H' b with
   |none=>exact absurd hz z
   |some u=>exact(J.hok b u hz).there
  ·exact J.base.there b o' z (by intro q;cases q)
 have q3:=kp b o2 q2 nst hc
 rw[q]at q3
 cases q3
 refine keepB b o q2 nst ?_
 rcases hc with z|⟨o',z⟩
 ·exact .inl z
 ·exact .inr (I.base.there b o' z (by intro q;cases q))
end
section
variable {P:Program}{w:World}{K:PySem.W.Frag}{mg:Str→Option Value}{base:Heap}{N:List Str}{qual:Str}{scope:Scope}{f:Addr}{cd:Value}{A:Around}{outer:List Env}{s:Shared}{H:Hp}{E:XK}
def tRaise (C:Addr)(E:XK)(t:TA):TS:=fun _ σ H=>t σ H fun vs H1=>vs.length≤sizeLine∧∀ea,H1 ea=none→E (.ref C) (some ea) H1
theorem ps_raise {x:Str}{C:Addr}{np cpos pos:Pos}{e₀:Expr}{rest:List Expr}{t:TA}{bm:List Value}{newId B initId:String}(O:OwnCls x C bm newId mg base)(FB:ExcBaseFacts B newId initId bm)
  (hg:Gl (cxOf (CXF P w) P w K mg base N qual scope f cd A outer s H E) x) (ha:PA (cxOf (CXF P w) P w K mg base N qual scope f cd A outer s H E) (e₀::rest) t) (hdb:(x==("__debug__":Str))=false:=by decide)
  (he:starEach (e₀::rest) (cxOf (CXF P w) P w K mg base N qual scope f cd A outer s H E).env=(false,eval e₀ (cxOf (CXF P w) P w K mg base N qual scope f cd A outer s H E).env)::starEach rest (cxOf (CXF P w) P w K mg base N qual scope f cd A outer s H E).env:=by rfl)
  (hpl:(backTo cpos (starEach rest (cxOf (CXF P w) P w K mg base N qual scope f cd A outer s H E).env)).any (·.1)=false:=by rfl):
  PS (cxOf (CXF P w) P w K mg base N qual scope f cd A outer s H E) (.Raise (some (.Call (.Name x np) (e₀::rest) [] cpos)) none pos) (tRaise C E t):=by
 intro pins s1 σ H1 D I h
 obtain⟨tl,Nn,nm,q,bs,hdct,sn,sub,ab,col,dd,k0,k1,k2,k3,k5,mN,hC,hN,hni,T⟩:=O.obj
 refine wpAny_Raise_call_subT (C:=C) (nm:=nm) (q:=q) (N:=Nn) (bs:=bs) (bm:=tl) (hdct:=hdct) (sn:=sn) (sub:=sub) (ab:=ab) (col:=col) (dd:=dd) (k0:=k0) (k1:=k1) (k2:=k2) (k3:=k3) (k5:=k5)
  FB (mN:=mN) (T.hasType FB.hasBase) (I.ok.hd rfl) (by rw[he];show(false||(backTo cpos (starEach rest _)).any (·.1))=false;rw[hpl];rfl) hni (ld_glob I hg O.bound ⟨rfl,?_⟩ hdb)
 have hA:=ha cpos pins s1 σ H1 _ I h
 rw[he]at hA ⊢
 refine Calls.evalArgs_plain (thn hA fun us s2 ⟨vs,H2,I2,r,hl,hE⟩=>⟨rfl,by rw[←r.length];exact hl,I2.bk _ _ hC,hN.keeps I2.bk,T.keeps I2.bk,fun h' e hm=>?_⟩)
 show wpAny _ _ (leaving _ (.ref e)) _ _ _
 have hin:∀env∈(cxOf (CXF P w) P w K mg base N qual scope f cd A outer s H E).stack,∀b,env.frame=some b→b∈frs (cxOf (CXF P w) P w K mg base N qual scope f cd A outer s H E).stack:=fun env he b hb=>List.mem_filterMap.mpr ⟨env,he,hb⟩
 have nea:H2 e=none:=by
  cases hz:H2 e with
  |none=>rfl
  |some u=>
   obtain⟨ob,q⟩:=(I2.hok e u hz).there
   have:=hm.new
   rw[q]at this;cases this
 refine leaves_madeX (bse:=PySem.W.hideAll s2.heap (frs (cxOf (CXF P w) P w K mg base N qual scope f cd A outer s H E).stack)) (h:=s2.heap) I2.ok.frames rfl (fun b o q=>PySem.W.of_hideAll _ q) (PySem.W.funFrames_hide I2.stack hin) hm fun h'' t' x1 x4=>?_
 have up:s2.heap.UpToSlots h'':=(Heap.UpToSlots.of_keeps hm.keeps).trans x4
 have kp:∀b o,s2.heap.get? b=some o→b∉frs (cxOf (CXF P w) P w K mg base N qual scope f cd A outer s H E).stack→h''.get? b=some o:=fun b o q hb=>x1.1 b o (PySem.W.hideAll_get _ q hb)
 obtain⟨un',hok'⟩:=left_un rfl I2 (fun b o q hb _=>kp b o q hb) up
 refine⟨e,C,H2,rfl,⟨I2.os,I2.bare,un',hok',nea,_,t',x1,fun b o q hb hc=>?_⟩,hE e nea⟩
 have nst:b∉frs (cxOf (CXF P w) P w K mg base N qual scope f cd A outer s H E).stack:=fun z=>by
  rcases List.mem_cons.mp (I2.stkSub b z) with z1|z1
  ·rcases hc with z2|⟨o',z2⟩
   ·exact z2 (I2.stkFree b z)
   ·have h1:=Heap.lt_size z2
    have h2:=I2.ok.above
    rw[z1]at h1
    exact absurd (Nat.lt_of_lt_of_le h1 h2) (Nat.lt_irrefl _)
  ·exact hb z1
 obtain⟨o2,q2⟩:∃o2,s2.heap.get? b=some o2:=by
  rcases hc with z|⟨o',z⟩
  ·cases hz:H2 b with
   |none=>exact absurd hz z
   |some u=>exact(I2.hok b u hz).there
  ·exact I2.base.there b o' z (by intro q;cases q)
 have q3:=kp b o2 q2 nst
 rw[q]at q3
 cases q3
 exact PySem.W.hideAll_get _ q2 nst
theorem Fun.okX {x:Str}{st:Stmt}{fd:FuncData}{ps:List Str}{k:Nat}{sp:Sp}(F:Fun K x qual st f fd)(S:FnScope N ps (defScope st))
  (hbody:∀(cdv:Value) (A:Around) (outer:List Env) (s:Shared) (H:Hp) (vs:List V) (Q:VK) (E:XK),Room k (A.deeper (envOfC qual (defScope st) s.heap.objs.size f cdv))→sp vs H Q E→
   ∃t,PSs (cxOf (CXF P w) P w K mg base N qual (defScope st) f cdv A outer s H E) (defBody st) t∧t (Ends.of Q) (start N vs) H) (len:∀vs H Q E,sp vs H Q E→vs.length=ps.length:=by rintro _ _ _ _ ⟨⟩;subst_vars;rfl):FnOk P w K mg base (CXF P w) (k+1) f fd ps sp:=by
 obtain⟨oc,od,kV,doc,pm,an,cdv,ct,osl,rfl,lk,hcd⟩:=F.ex
 exact fn_of lk hcd S len fun A outer s H vs Q E hr hsp=>hbody cdv A outer s H vs Q E hr hsp
end
end L2
namespace PySem
theorem wpAny_excMatches_own {M:Model}{A:Around}{E:Value→Shared→Prop}{nm q nm' q':Str}{C N D N':Addr}{bs bm bs' bm':List Value}{hdct hdct':Bool}{sn sn':List Str}{sub sub':List Value}{ab ab':Bool}{col col':Option Bool}{dd dd':Option Addr}{k0 k1 k2 k3 k5 j0 j1 j2 j3 j5:Option Value}{newId newId':String}
  {h:Heap} {g:Array GenState} {d:Drawn} {t:Nat} {os:OsState} {e:Addr} {oe:Obj} {Q:Bool→Shared→Prop}
  (hC:h.get? C=some (excClassObj nm q C N bs bm hdct sn sub ab col dd k0 k1 k2 k3 k5 newId)) (hD:h.get? D=some (excClassObj nm' q' D N' bs' bm' hdct' sn' sub' ab' col' dd' j0 j1 j2 j3 j5 newId')) (he:h.get? e=some oe) (hcls:oe.cls=.ref C) (hbase:bm'.contains (.type "BaseException")=true) (hsub:(Value.ref C::bm).contains (.ref D)=true)
  (hq:Q true ⟨h,g,d,t,os⟩):wpAny M A (excMatches (.ref e) (.ref D)) Q E ⟨h,g,d,t,os⟩:=by
 have hcB:(Value.ref D::bm').contains (.type "BaseException")=true:=by rw[List.contains_cons,hbase,Bool.or_true]
 have f:=tc_notTuple
 unfold excMatches
 repeat (first|(with_reducible refine wpAny_loadPart_at he ?_;rw[hcls])|with_reducible refine wpAny_loadPart_at hD ?_|(with_reducible refine wpAny_isSubtype_exc hD ?_;rw[hcB])|(with_reducible refine wpAny_isSubtype_exc hC ?_;rw[hsub])|wp_step)
 exact hq
end PySem
namespace L2
open PySem PySem.Spec PyProof.Rows
def cxTry (X:Cx)(pins:List (Addr×Obj))(xe:Value→Shared→Prop):Cx:={X with pn:=X.pn++pins,xe:=xe}
section
variable {X:Cx}{pins p2:List (Addr×Obj)}{σ:St}{H:Hp}{s:Shared}{xe:Value→Shared→Prop}
theorem cxTry_ok (ok:X.Ok):(cxTry X pins xe).Ok:=⟨ok.mod,ok.kind,ok.glob,ok.blt,ok.above,ok.inj,ok.has,ok.cab,ok.hd,ok.frames,ok.stk,ok.exf,ok.bs,ok.bsz,ok.noex,ok.exfs,ok.funs,ok.frf⟩
theorem cxTry_ko (ok:(cxTry X pins xe).Ok):X.Ok:=⟨ok.mod,ok.kind,ok.glob,ok.blt,ok.above,ok.inj,ok.has,ok.cab,ok.hd,ok.frames,ok.stk,ok.exf,ok.bs,ok.bsz,ok.noex,ok.exfs,ok.funs,ok.frf⟩
theorem Inv.toTry (I:Inv X pins σ H s):Inv (cxTry X pins xe) [] σ H s :=
 ⟨cxTry_ok I.ok,I.os,I.bare,I.base,I.loc,I.cell,I.free,I.freeC,fun p hp=>I.pin p (by
  have:p∈(X.pn++pins)++[]:=hp
  rwa [List.append_nil]at this),I.hok,I.len⟩
theorem Inv.ofTry (I:Inv (cxTry X pins xe) p2 σ H s):Inv X pins σ H s :=
 ⟨cxTry_ko I.ok,I.os,I.bare,I.base,I.loc,I.cell,I.free,I.freeC,fun p hp=>I.pin p (List.mem_append_left _ hp),I.hok,I.len⟩
theorem Inv.stays {h':Heap}(hex:X.ex=[])(I:Inv X pins σ H s)
  (kp:∀b o,s.heap.get? b=some o→b∉frs X.stack→(H b≠none∨(∃o',X.s₀.heap.get? b=some o')∨b∈(X.pn++pins).map (·.1))→h'.get? b=some o) (sl:s.heap.UpToSlots h'):Inv X pins σ H {s with heap:=h'}:=by
 obtain⟨un,hok⟩:=left_un hex I (fun b o q hb hc=>kp b o q hb (hc.elim .inl fun z=>.inr (.inl z))) sl
 obtain⟨m,hn,hl⟩:=I.loc
 have cel:∀{c v},s.heap.IsCell c v→h'.IsCell c v:=fun{c v} ⟨o,q,hd⟩=>by
  obtain⟨sl',q'⟩:=sl c o q (fun vs z=>by rw[hd]at z;cases z)
  exact⟨_,q',hd⟩
 have un2:Un X.fs X.ex X.H₀ H X.s₀.heap h':=by rw[hex];exact un
 refine⟨I.ok,I.os,I.bare,un2,⟨m,sl.ns hn,fun i x v q1 q2 q3=>?_⟩,fun x c q=>?_,I.free,I.freeC,fun p hp=>?_,hok,I.len⟩
 ·obtain⟨u,r,l⟩:=hl i x v q1 q2 q3
  refine⟨u,r,?_⟩
  rcases l with l|⟨l1,c,l2,l3⟩
  ·exact .inl l
  ·exact .inr ⟨l1,c,l2,cel l3⟩
 ·obtain⟨v,q'⟩:=I.cell x c q
  exact⟨v,cel q'⟩
 ·obtain⟨p1,p2,p3,p4,p5⟩:=I.pin p hp
  refine⟨kp _ _ p1 (fun z=>?_) (.inr (.inr (List.mem_map_of_mem hp))),p2,p3,p4,p5⟩
  rcases List.mem_cons.mp (I.stkSub _ z) with z1|z1
  ·exact p3 z1
  ·exact p4 z1
end
def XT (X:Cx)(pins:List (Addr×Obj))(EX:St→XK):Value→Shared→Prop:=fun e s'=>∃ea C σ H',e=.ref ea∧Inv X pins σ H' s'∧H' ea=none∧
 (∃(B:Heap) (t:Addr),Heap.FlyingX B X.stack ea (.ref C) (.ref t) s'.heap∧(∀p∈X.pn++pins,p.1≠ea)∧∀b o,s'.heap.get? b=some o→b∉frs X.stack→(H' b≠none∨(∃o',X.s₀.heap.get? b=some o')∨b∈(X.pn++pins).map (·.1))→B.get? b=some o)∧EX σ (.ref C) (some ea) H'
def tCallT (sp:Sp)(EX:St→XK)(t:TA):TE:=fun σ H Q=>t σ H fun vs H1=>sp vs H1 Q (EX σ)
def cxSuite (X:Cx)(ea:Addr)(pins:List (Addr×Obj)):Cx:={X with A:=X.A.mark (some (.ref ea)),calm:=false,pn:=X.pn++pins,xe:=fun _ _=>False}
section
variable {X:Cx}{pins p2:List (Addr×Obj)}{σ:St}{H:Hp}{s:Shared}{ea:Addr}
theorem Inv.toSuite (I:Inv X pins σ H s):Inv (cxSuite X ea pins) [] σ H s :=
 ⟨⟨I.ok.mod,I.ok.kind,I.ok.glob,I.ok.blt,I.ok.above,I.ok.inj,I.ok.has,I.ok.cab,(fun z=>by cases z),I.ok.frames,I.ok.stk,I.ok.exf,I.ok.bs,I.ok.bsz,I.ok.noex,I.ok.exfs,I.ok.funs,I.ok.frf⟩,
  I.os,I.bare,I.base,I.loc,I.cell,I.free,I.freeC,fun p hp=>I.pin p (by
  have:p∈(X.pn++pins)++[]:=hp
  rwa [List.append_nil]at this),I.hok,I.len⟩
theorem Inv.ofSuite (hd:X.calm=true→X.A.handled=none)(I:Inv (cxSuite X ea pins) p2 σ H s):Inv X pins σ H s :=
 ⟨⟨I.ok.mod,I.ok.kind,I.ok.glob,I.ok.blt,I.ok.above,I.ok.inj,I.ok.has,I.ok.cab,hd,I.ok.frames,I.ok.stk,I.ok.exf,I.ok.bs,I.ok.bsz,I.ok.noex,I.ok.exfs,I.ok.funs,I.ok.frf⟩,
  I.os,I.bare,I.base,I.loc,I.cell,I.free,I.freeC,fun p hp=>I.pin p (List.mem_append_left _ hp),I.hok,I.len⟩
theorem Inv.morePin {o:Obj}(I:Inv X pins σ H s)(e:s.heap.get? ea=some o)(n:H ea=none)(nl:ea≠X.env.locals)(nf:ea∉X.fs)(nc:∀v,o.data≠.cell v):Inv X (pins++[(ea,o)]) σ H s :=
 ⟨I.ok,I.os,I.bare,I.base,I.loc,I.cell,I.free,I.freeC,fun p hp=>by
  rw[←List.append_assoc]at hp
  rcases List.mem_append.mp hp with hp|hp
  ·exact I.pin p hp
  ·rw[List.mem_singleton]at hp
   subst hp
   exact⟨e,n,nl,nf,nc⟩,I.hok,I.len⟩
theorem Inv.lessPin (I:Inv X (pins++p2) σ H s):Inv X pins σ H s :=
 ⟨I.ok,I.os,I.bare,I.base,I.loc,I.cell,I.free,I.freeC,fun p hp=>I.pin p (by rw[←List.append_assoc];exact List.mem_append_left _ hp),I.hok,I.len⟩
theorem name_gone {M:Model}{A:Around}{E:Value→Shared→Prop}{i:Nat}{n:Str}{pos:Pos}{Q:Unit→Shared→Prop}(I:Inv X pins σ H s)(hN:X.N.Nodup)(hi:X.N[i]?=some n)(hn:X.env.scope.names.lookup n=some .local)
  (h:∀s',Inv X pins (σ.set i none) H s'→Q () s'):wpAny M A (do bindName X.env n .none;unbindBehindTheSuite X.env n pos) Q E s:=by
 obtain⟨m,hns,hl⟩:=I.loc
 refine wpAny_nameGoes_keeps (m:=m) hn hns (by rw[I.ok.kind];rfl) fun h' v hns' hsb=>h _ ?_
 have same:∀{b},b≠X.env.locals→h'.get? b=s.heap.get? b:=fun nb=>hsb.2 _ nb
 have old:∀{b o},X.s₀.heap.get? b=some o→b≠X.env.locals:=fun{b o} e z=>by
  have h1:=Heap.lt_size e
  have h2:=I.ok.above
  rw[z]at h1
  exact absurd (Nat.lt_of_lt_of_le h1 h2) (Nat.lt_irrefl _)
 have cel:∀{c u},c≠X.env.locals→s.heap.IsCell c u→h'.IsCell c u:=fun nc ⟨o,q,hd⟩=>⟨o,(same nc).trans q,hd⟩
 refine⟨I.ok,I.os,I.bare,⟨fun b o e n' hb hx=>(same (old e)).trans (I.base.keep b o e n' hb hx),fun b o e n' hb hx=>?_,I.base.free,fun b o e hx=>?_,I.base.tups,I.base.frzs,I.base.tbls⟩,⟨_,hns',fun j y u e1 e2 e3=>?_⟩,fun x c q=>?_,I.free,I.freeC,fun p hp=>?_,I.hok.keptT fun b u nb q=>?_,by rw[List.length_set];exact I.len⟩
 ·obtain⟨sl,q⟩:=I.base.slot b o e n' hb hx
  exact⟨sl,(same (old e)).trans q⟩
 ·obtain⟨o',q⟩:=I.base.there b o e hx
  exact⟨o',(same (old e)).trans q⟩
 ·have hji:j≠i:=fun z=>by
   rw[z,List.getElem?_set]at e2
   simp only[if_true]at e2
   split at e2<;>cases e2
  rw[List.getElem?_set_ne (Ne.symm hji)]at e2
  have hyn:y≠n:=fun z=>by
   rw[z]at e1
   obtain⟨l1,q1⟩:=List.getElem?_eq_some_iff.mp e1
   obtain⟨l2,q2⟩:=List.getElem?_eq_some_iff.mp hi
   rcases Nat.lt_or_gt_of_ne hji with lt|lt
   ·exact List.pairwise_iff_getElem.mp hN _ _ l1 l2 lt (q1.trans q2.symm)
   ·exact List.pairwise_iff_getElem.mp hN _ _ l2 l1 lt (q2.trans q1.symm)
  obtain⟨w',r,l⟩:=hl j y u e1 e2 e3
  refine⟨w',r,?_⟩
  rcases l with ⟨l1,l2⟩|⟨l1,c,l2,l3⟩
  ·exact .inl ⟨l1,by show(if y=n then v else m y)=some w';rw[if_neg hyn];exact l2⟩
  ·exact .inr ⟨l1,c,l2,cel (I.cne y c l2) l3⟩
 ·obtain⟨v',q'⟩:=I.cell x c q
  exact⟨v',cel (I.cne x c q) q'⟩
 ·obtain⟨p1,p2',p3,p4,p5⟩:=I.pin p hp
  exact⟨(same p3).trans p1,p2',p3,p4,p5⟩
 ·exact(same (fun z=>nb (by rw[z];exact I.free))).trans q
end
def CatchOk (h:Heap)(C D:Addr):Prop:=∃(nm q nm' q':Str) (N N':Addr) (bs bm bs' bm':List Value) (hdct hdct':Bool) (sn sn':List Str) (sub sub':List Value) (ab ab':Bool) (col col':Option Bool) (dd dd':Option Addr) (k0 k1 k2 k3 k5 j0 j1 j2 j3 j5:Option Value) (newId newId':String),
 h.get? C=some (excClassObj nm q C N bs bm hdct sn sub ab col dd k0 k1 k2 k3 k5 newId)∧h.get? D=some (excClassObj nm' q' D N' bs' bm' hdct' sn' sub' ab' col' dd' j0 j1 j2 j3 j5 newId')∧bm'.contains (.type "BaseException")=true∧(Value.ref C::bm).contains (.ref D)=true
def endsLess (i:Nat)(D:Ends):Ends:={nx:=fun σ H=>D.nx (σ.set i none) H,rt:=D.rt,bk:=fun σ H=>D.bk (σ.set i none) H,ct:=fun σ H=>D.ct (σ.set i none) H}
def tTry (i:Nat)(EX:St→XK)(tb:TS)(ts:Addr→Addr→TS):TS:=fun D σ H=>tb D σ H∧∀σ' C ea H',EX σ' (.ref C) (some ea) H'→H' ea=none→ts ea C (endsLess i D) (σ'.set i (some (.ref ea))) H'
section
variable {P:Program}{w:World}{H H':Hp}{h h':Heap}{a b c:Addr}{o:Obj}
end
open PySem PySem.Spec PyProof.Rows PySem.Builtin.Getset_descriptor
section
variable {K:PySem.W.Frag}{M:Model}{h:Heap}{x C:Addr}{name:Str}{ax gx:Value}
theorem exc_ty {ob:Obj}(e:h.get? x=some ob)(c:ob.cls=.ref C):PySem.W.Looks M h (typeOf (.ref x)) (.ref C):=by
 rw[←c]
 exact(PySem.W.Looks.ld e).andThen .now
theorem find_data (X:K.In h)(h1:PySem.W.findIn K (.ref C) name=some (some ax))(h2:PySem.W.specialIn K ax "__get__"=some (some gx))(h3:PySem.W.takesIn K ax=some true):
  PySem.W.Looks M h (Builtin.ObjectAttr.find (.ref x) (.ref C) name) (.bind gx ax):=by
 have e1:=PySem.W.looks_findIn (M:=M) X h1
 have e2:PySem.W.Looks M h (Builtin.ObjectAttr.getOf (some ax)) (some gx):=PySem.W.looks_specialIn X h2
 have e3:PySem.W.Looks M h (Builtin.ObjectAttr.dataDescriptor? (some ax) (some gx)) (some (gx,ax)):=(PySem.W.looks_takesIn X h3).andThen .now
 exact e1.andThen (e2.andThen (e3.andThen (.tag .now)))
end
section
variable {prog:Program}{w:World}{A:Around}{E:Value→Shared→Prop}{s:Shared}{K:PySem.W.Frag}{x C:Addr}{ob:Obj}
theorem exc_class_get {R:Result→Shared→Prop}{tp:Value}(X:K.In s.heap)(e:s.heap.get? x=some ob)(c:ob.cls=.ref C)(hm:PySem.W.mroIn K C (.type "object")=some true)(q:R (.ok (.ret (.ref C))) s):
  codeAny (model prog w) A (.call (.builtin "getset_descriptor.__get__") ⟨[.builtin "object.__class__", .ref x,tp],[]⟩) R s:=by
 obtain⟨hp,gn,dr,tk,os⟩:=s
 have y1:=exc_ty (M:=model prog w) e c
 have y2:=PySem.W.looks_mroIn (M:=model prog w) X hm
 refine codeAny_call_builtin PySem.W.KF.slot_gs.plain PySem.W.KF.entry_gs ?_
 refine PySem.W.KF.slot_gs.check _ _ _ _ _ _ _ _ PySem.W.KF.type_class (PySem.W.KF.args_gs _ _ _) ?_
 unfold Builtin.«getset_descriptor.__get__»
 unfold descrGet
 rw[PySem.W.dga_obj]
 refine wpAny_bind (wpAny_pure ?_)
 unfold descrGetter descrCheckInstance
 unfold descrNameAndClass isInstance
 simp only[PySem.W.KF.owner_class]
 repeat lk
 refine⟨Code.quiet_builtin _ (by decide+kernel),?_⟩
 refine codeAny_builtin PySem.W.KF.entry_class ?_
 unfold Builtin.«object.__class__»
 unfold shownTypeOf
 repeat lk
 exact q
theorem exc_check {Q:Unit→Shared→Prop}{nameV:Value}(X:K.In s.heap)(e:s.heap.get? x=some ob)(c:ob.cls=.ref C)(gb:PySem.W.mroIn K C (.type "BaseException")=some true)(q:Q () s):
  wpAny (model prog w) A (checkBuiltinCall "BaseException.__getattribute__" ⟨[.ref x,nameV],[]⟩) Q E s:=by
 obtain⟨hp,gn,dr,tk,os⟩:=s
 have y1:=exc_ty (M:=model prog w) e c
 have y2:=PySem.W.looks_mroIn (M:=model prog w) X gb
 have k1:builtinKind "BaseException.__getattribute__"=some .slot:=by decide+kernel
 have k2:splitId "BaseException.__getattribute__"=some ("BaseException","__getattribute__"):=by decide+kernel
 have k3:=F.args_bexc_ga (.ref x) nameV
 simp only[checkBuiltinCall,k1,k2]
 unfold isInstance
 refine wpAny_bind (wpAny_bind (y1.at (y2.at ?_)))
 rw[if_neg (by decide)]
 cases hz:Manifest.signature? "BaseException.__getattribute__" with
 |none=>exact wpAny_pure q
 |some sig=>
  simp only[argsOk,hz]at k3
  have k4:Bind.checkArgs "BaseException.__getattribute__" sig ⟨[.ref x,nameV],[]⟩=pure ():=k3
  show wpAny _ _ (Bind.checkArgs "BaseException.__getattribute__" sig ⟨[.ref x,nameV],[]⟩) _ _ _
  rw[k4]
  exact wpAny_pure q
variable (g0:PySem.W.findIn K (.ref C) "__getattribute__"=some (some (.builtin "BaseException.__getattribute__")))(g1:PySem.W.findIn K (.ref C) "__getattr__"=some none)(gb:PySem.W.mroIn K C (.type "BaseException")=some true)
 (g2:PySem.W.findIn K (.ref C) "__class__"=some (some (.builtin "object.__class__"))) (g3:PySem.W.specialIn K (.builtin "object.__class__") "__get__"=some (some (.builtin "getset_descriptor.__get__")))
 (g4:PySem.W.takesIn K (.builtin "object.__class__")=some true) (g5:PySem.W.mroIn K C (.type "object")=some true)
include g0 g1 gb g2 g3 g4 g5
theorem exc_class {Q:Option Value→Shared→Prop}(X:K.In s.heap)(e:s.heap.get? x=some ob)(c:ob.cls=.ref C)(q:Q (some (.ref C)) {s with toks:=s.toks+1}):wpAny (model prog w) A (getAttr? (.ref x) "__class__") Q E s:=by
 obtain⟨hp,gn,dr,tk,os⟩:=s
 have y1:=exc_ty (M:=model prog w) e c
 have y2:=PySem.W.looks_findIn (M:=model prog w) X g0
 have y3:=PySem.W.looks_findIn (M:=model prog w) X g1
 have y4:=find_data (M:=model prog w) (x:=x) X g2 g3 g4
 unfold getAttr? getAttrBy?
 unfold getAttrBy
 refine wpAny_bind (wpAny_mkText ?_)
 refine wpAny_bind (wpAny_attempt (wpAny_holding ?_))
 refine wpAny_bind (y1.at ?_)
 refine wpAny_bind (y2.at ?_)
 show wpAny _ _ (getAttrByItsOwn _ _ _ _ _ _) _ _ _
 unfold getAttrByItsOwn
 refine wpAny_bind ((show PySem.W.Looks (model prog w) hp (hookBefore (.ref C)) none from y3).at ?_)
 refine wpAny_bind (wpAny_attempt (wpAny_holding ?_))
 show wpAny _ _ (boundAndCalled _ _ _) _ _ _
 unfold boundAndCalled
 rw[F.excAttr_ValueError.ga.bind]
 refine wpAny_bind (wpAny_pure (wpAny_call (codeAny_call_builtin F.excAttr_ValueError.ga.plain F.entry_bexc_ga (exc_check X e c gb ?_))))
 unfold Builtin.«object.__getattribute__»
 refine wpAny_bind (wpAny_pure (wpAny_bind (wpAny_pure (wpAny_bind (y1.at (wpAny_bind (y4.at ?_)))))))
 show wpAny _ _ (holding [_] (call _ [_,_,_])>>=ret) _ _ _
 refine wpAny_bind (wpAny_holding (wpAny_call (exc_class_get X e c g5 ?_)))
 refine wpAny_pure ?_
 exact PySem.W.handed_on rfl (wpAny_pure q)
end
structure ExcCls (K:PySem.W.Frag)(C:Addr):Prop where
 g0:PySem.W.findIn K (.ref C) "__getattribute__"=some (some (.builtin "BaseException.__getattribute__"))
 g1:PySem.W.findIn K (.ref C) "__getattr__"=some none
 gb:PySem.W.mroIn K C (.type "BaseException")=some true
 g2:PySem.W.findIn K (.ref C) "__class__"=some (some (.builtin "object.__class__"))
 g3:PySem.W.specialIn K (.builtin "object.__class__") "__get__"=some (some (.builtin "getset_descriptor.__get__"))
 g4:PySem.W.takesIn K (.builtin "object.__class__")=some true
 g5:PySem.W.mroIn K C (.type "object")=some true
 lk:∃c0 d0 cd sl,K.lookup C=some ⟨c0,d0, .cls cd,sl⟩
theorem kitx_exc {K:PySem.W.Frag}{x C:Addr}(S:ExcCls K C):PySem.W.KitX K (.ref x) (.ref C) (fun h=>∃ob,h.get? x=some ob∧ob.cls=.ref C) where
 ty:=fun _ _ _ ⟨ob,e,c⟩=>exc_ty e c
 it:=fun M h X _=>by
  obtain⟨c0,d0,cd,sl,q⟩:=S.lk
  intro A' Q' E' s' k z
  unfold isType
  unfold loadHead
  exact wpAny_bind (wpAny_loadPart (k _ _ (X _ _ q)) (wpAny_pure z))
 ne:=fun h tp dd its n sl X e=>by
  obtain⟨c0,d0,cd,sl',q⟩:=S.lk
  cases hz:(Value.ref C==Value.ref tp) with
  |false=>rfl
  |true=>
   have z:C=tp:=by simpa using hz
   have e2:=X _ _ q
   rw[z,e]at e2
   cases e2
 ca:=fun{prog w A E Q s} X ⟨ob,e,c⟩ k=>exc_class S.g0 S.g1 S.gb S.g2 S.g3 S.g4 S.g5 X e c k
section
variable {X:Cx}
theorem vals_refs:∀{ds:List Addr} {us:List Value},Vals (ds.map V.ref) us→us=ds.map Value.ref
 |[],us,r=>by cases r;rfl
 |d::ds,us,r=>by
  cases r with
  |cons a b=>rw[List.map_cons,←vals_refs b];cases(show _=Value.ref d from a);rfl
end
def HT (X:Cx)(pins:List (Addr×Obj))(EX:St→XK):Value→Shared→Prop:=fun e s2=>∃(ea C:Addr) (σ:St) (H':Hp) (s1:Shared) (B:Heap) (t:Addr) (h4:Heap),e=.ref ea∧s2={s1 with heap:=h4}∧Inv X pins σ H' s1∧H' ea=none∧
 Heap.HeldX B (X.env::X.outer) ea (.ref C) (.ref t) X.env.locals h4∧s1.heap.UpToSlots h4∧(∀p∈X.pn++pins,p.1≠ea)∧
 (∀b o,s1.heap.get? b=some o→b∉frs X.stack→(H' b≠none∨(∃o',X.s₀.heap.get? b=some o')∨b∈(X.pn++pins).map (·.1))→B.get? b=some o)∧EX σ (.ref C) (some ea) H'
def LT (X:Cx)(pins:List (Addr×Obj))(EX:St→XK):Value→Shared→Prop:=fun e s=>wpAny (model X.prog X.w) X.A (noteFrame e X.env) (fun _ s2=>HT X pins EX e s2) (fun _ _=>False) s
theorem xt_lt {X:Cx}{pins:List (Addr×Obj)}{EX:St→XK}{e:Value}{s1:Shared}(hst:X.stack=X.env::X.outer)(hfr:X.env.frame=some X.env.locals)(q:XT X pins EX e s1):LT X pins EX e s1:=by
 obtain⟨ea,C,σ',H',rfl,J,nea,⟨B,t,fl,npin,keepB⟩,hE⟩:=q
 have fl':Heap.FlyingX B (X.env::X.outer) ea (.ref C) (.ref t) s1.heap:=by rw[←hst];exact fl
 have hfrm:X.A.frames=some (X.env::X.outer):=by rw[←hst];exact J.ok.frames
 exact looks_onX hfrm hfr fl' fun h4 held4 sm4=>⟨ea,C,σ',H',s1,B,t,h4,rfl,rfl,J,nea,held4,sm4,npin,keepB,hE⟩
theorem pe_callTL {X:Cx}{pins0:List (Addr×Obj)}{EX:St→XK}{k:Nat}{x:Str}{ps:List Str}{sp:Sp}{p pos:Pos}{e:Expr}{es:List Expr}{t:TA}{f:Addr}{fd:FuncData}(hst:X.stack=X.env::X.outer)(hfr:X.env.frame=some X.env.locals)(hex:X.ex=[])(F:FnOk X.prog X.w X.K X.mg X.base (CXF X.prog X.w) k f fd ps sp)(hb:Binds X.K fd ps [])(hk:PySem.W.keepIn X.K (.ref f)=true)(hm:X.mg x=some (.ref f))(hr:Room k X.A)(hg:Gl X x)
  (ha:PA (cxTry X pins0 (LT X pins0 EX)) (e::es) t) (hdb:(x==("__debug__":Str))=false:=by decide) (he:starEach (e::es) X.env=(false,eval e X.env)::starEach es X.env:=by rfl) (hpl:(backTo pos (starEach es X.env)).any (·.1)=false:=by rfl):
  PE (cxTry X pins0 (LT X pins0 EX)) (.Call (.Name x p) (e::es) [] pos) (tCallT sp EX t):=by
 intro pins s σ H Q I h
 refine wpAny_Call_Name_kw (ld_glob I hg hm ?_ hdb)
 refine PySem.W.callWith_K (h₀:=X.base) I.ok.mod.kin hk (thn (ha pos pins s σ H _ I h) fun us s1 ⟨vs,H1,I1,r,q⟩=>⟨I1.kIn,?_⟩) he hpl
 have hl':us.length=ps.length:=by rw[←r.length];exact F.len _ _ _ _ q
 have bt:BindsTo s1 fd ⟨us,[]⟩ (ps.zip us):=by
  have:=hb s1 us I1.kIn (by rw[List.append_nil];exact hl')
  rw[List.append_nil]at this
  exact this
 refine wpAny_call (codeAny_mono (F.run X.A X.stack s1 H1 ⟨us,[]⟩ us vs Q (EX σ) hr I1.env0 bt r q) fun r' s' hq=>?_)
 cases r' with
 |error e=>
  obtain⟨ea,C,H',rfl,⟨os,bare,un,hok,nea,B,tt,fl,keepB⟩,hE⟩:=hq
  have J0:Inv (cxTry X pins0 (LT X pins0 EX)) pins σ H' s':=I1.call' os un hok bare (fun b z=>absurd z (by simp))
  have J:=J0.ofTry
  have I1':=I1.ofTry
  have nfr:∀{b},b∈(X.pn++pins0).map (·.1)→b∉frs X.stack:=fun{b} hb z=>by
   obtain⟨p,hp,rfl⟩:=List.mem_map.mp hb
   obtain⟨p1,p2,p3,p4,p5⟩:=I1'.pin p hp
   rcases List.mem_cons.mp (I1'.stkSub _ z) with z1|z1
   ·exact p3 z1
   ·exact p4 z1
  refine xt_lt hst hfr ⟨ea,C,σ,H',rfl,J,nea,⟨B,tt,fl,fun p hp z=>?_,fun b o q hb hc=>keepB b o q hb ?_⟩,hE⟩
  ·obtain⟨p1,_⟩:=I1'.pin p hp
   have j1:=(J.pin p hp).1
   have:=keepB p.1 p.2 j1 (nfr (List.mem_map_of_mem hp)) (.inr ⟨_,p1⟩)
   rw[z,fl.2.1]at this
   cases this
  ·rcases hc with z|⟨o',z⟩|z
   ·exact .inl z
   ·exact .inr (I1'.base.there b o' z (by rw[hex];simp))
   ·obtain⟨p,hp,rfl⟩:=List.mem_map.mp z
    exact .inr ⟨_,(I1'.pin p hp).1⟩
 |ok fl=>
  cases fl with
  |ret u=>exact I1.after hq
  |next=>exact False.elim hq
  |brk=>exact False.elim hq
  |cont=>exact False.elim hq
def Alone (oe:Obj):Prop:=∃ws,oe.data=.fields ws∧ws[2]?=some .none
theorem ps_tryQ {X:Cx}{body suite:List Stmt}{b₀:Stmt}{y n:Str}{np hpos pos:Pos}{tb:TS}{ts:Addr→Addr→TS}{EX:St→XK}{D:Addr}{i:Nat}(hex:X.ex=[])(hst:X.stack=X.env::X.outer)(hfr:X.env.frame=some X.env.locals)
  (hN:X.N.Nodup) (hi:X.N[i]?=some n) (hn:X.env.scope.names.lookup n=some .local) (hg:Gl X y) (hm:X.mg y=some (.ref D)) (hcls:∀σ C ea H',EX σ (.ref C) ea H'→CatchOk X.base C D)
  (hb:∀pins,PSs (cxTry X pins (LT X pins EX)) body tb) (hs:∀ea C oe pins,(ea,oe)∈pins→oe.cls=.ref C→X.base.get? ea=none→Alone oe→PSs (cxSuite X ea pins) (b₀::suite) (ts ea C)) (hdb:(y==("__debug__":Str))=false:=by decide):
  PS X (.Try body [.ExceptHandler (some (.Name y np)) (some n) (b₀::suite) hpos] [] [] pos) (tTry i EX tb ts):=by
 intro pins s σ H De I h
 obtain⟨h1,h2⟩:=h
 refine wpAny_Try_except (wpAny_mono (hb pins [] s σ H De I.toTry h1) (fun f s1 q=>?_) (fun e s1 q=>?_))
 ·cases f with
  |next=>obtain⟨σ',H',J,q⟩:=q;exact wpAny_execs_nil ⟨σ',H',J.ofTry,q⟩
  |ret u=>obtain⟨v,σ',H',J,r,q⟩:=q;exact⟨v,σ',H',J.ofTry,r,q⟩
  |brk=>obtain⟨σ',H',J,q⟩:=q;exact⟨σ',H',J.ofTry,q⟩
  |cont=>obtain⟨σ',H',J,q⟩:=q;exact⟨σ',H',J.ofTry,q⟩
 ·refine wpAny_mono q (fun _ s2 hq=>?_) (fun _ _ z=>z.elim)
  obtain⟨ea,C,σ',H',s1,B,t,h4,rfl,rfl,J,nea,held4,sm4,npin,keepB,hE⟩:=hq
  refine landsX held4 fun h5 fl5 sm5=>?_
  have J5:Inv X pins σ' H' {s1 with heap:=h5}:=J.stays hex (fun b o q hb hc=>fl5.1 b o (keepB b o q hb hc)) (sm4.trans sm5)
  have rel:∀{b},(H' b≠none∨(∃o',X.s₀.heap.get? b=some o')∨b∈(X.pn++pins).map (·.1))→∃o1,s1.heap.get? b=some o1:=fun{b} hc=>by
   rcases hc with z|⟨o',z⟩|z
   ·cases hz:H' b with
    |none=>exact absurd hz z
    |some u=>exact(J.hok b u hz).there
   ·exact J.base.there b o' z (by rw[hex];simp)
   ·obtain⟨p,hp,rfl⟩:=List.mem_map.mp z
    exact⟨_,(J.pin p hp).1⟩
  obtain⟨oe,hoe,hoec⟩:=fl5.there
  obtain⟨nm,q,nm',q',N,N',bs,bm,bs',bm',hdct,hdct',sn,sn',sub,sub',ab,ab',col,col',dd,dd',k0,k1,k2,k3,k5,j0,j1,j2,j3,j5,newId,newId',hC,hD,hbase,hsub⟩:=hcls σ' C _ H' hE
  refine wpAny_handleBy_cons (codeAny_handlers_test (ld_glob (X:=cxSuite X ea pins) J5.toSuite hg hm ?_ hdb)) (by intro q;cases q)
  refine wpAny_excMatches_own (J5.bk _ _ hC) (J5.bk _ _ hD) hoe hoec hbase hsub ?_
  refine codeAny_handlers_suite_as ?_
  refine lands_againX fl5 fun h6 fl6 sm6=>?_
  have J6:Inv X pins σ' H' {s1 with heap:=h6}:=Inv.stays (s:={s1 with heap:=h5}) hex J5 (fun b o q hb hc=>by
   obtain⟨o1,q1⟩:=rel hc
   have k1':=keepB b o1 q1 hb hc
   have k2':=fl5.1 b o1 k1'
   have q':h5.get? b=some o:=q
   rw[k2']at q'
   cases q'
   exact fl6.1 b o k1') sm6
  obtain⟨oe6,hoe6,hoec6⟩:=fl6.there
  obtain⟨_,_,_,oe7,ws7,_,_,_,hoe7,hoec7,hoed7,_⟩:=fl6
  have nst:ea∉frs X.stack:=fun z=>by
   obtain⟨_,o,ho,hnf⟩:=J6.stack.mem z
   have e1:h6.get? ea=some oe7:=hoe7
   have e2:h6.get? ea=some o:=ho
   rw[e1]at e2
   cases e2
   exact hnf _ hoed7
  have nl:ea≠X.env.locals:=fun z=>nst (by rw[hst,z];unfold frs;rw[List.filterMap_cons,hfr];exact List.mem_cons_self)
  have nf:ea∉X.fs:=fun z=>nst (by rw[hst];unfold frs;rw[List.filterMap_cons,hfr];exact List.mem_cons_of_mem _ z)
  have hcl7:oe7.cls=.ref C:=by
   have e1:h6.get? ea=some oe7:=hoe7
   have e2:h6.get? ea=some oe6:=hoe6
   rw[e1]at e2
   cases e2
   exact hoec6
  have nb:X.base.get? ea=none:=by
   cases hz:X.base.get? ea with
   |none=>rfl
   |some o=>
    have k1':=keepB ea o (J.bk _ _ hz) nst (.inr (.inl ⟨o,(J.ok.bs _ _ hz).1⟩))
    rw[held4.2.1]at k1'
    cases k1'
  have Jp:Inv X (pins++[(ea,oe7)]) σ' H' {s1 with heap:=h6}:=J6.morePin hoe7 nea nl nf (fun v z=>by rw[hoed7]at z;cases z)
  refine store_ok (X:=cxSuite X ea (pins++[(ea,oe7)])) Jp.toSuite hN hi (Or.inl hn) (v:=.ref ea) rfl (fun s7 J7=>?_) (.inr hn)
  refine wpAny_mono (hs ea C oe7 (pins++[(ea,oe7)]) (List.mem_append_right _ List.mem_cons_self) hcl7 nb ⟨ws7,hoed7,hoec7.2.2⟩ [] s7 (σ'.set i (some (.ref ea))) H' (endsLess i De) J7 (h2 σ' C ea H' hE nea)) (fun f s8 q8=>?_) (fun _ _ z=>False.elim z)
  cases f with
  |next=>
   obtain⟨σ8,H8,J8,q⟩:=q8
   exact name_gone (J8.ofSuite I.ok.hd).lessPin hN hi hn fun s9 J9=>⟨_,H8,J9,q⟩
  |ret u=>
   obtain⟨v,σ8,H8,J8,r,q⟩:=q8
   exact name_gone (J8.ofSuite I.ok.hd).lessPin hN hi hn fun s9 J9=>⟨v,_,H8,J9,r,q⟩
  |brk=>
   obtain⟨σ8,H8,J8,q⟩:=q8
   exact name_gone (J8.ofSuite I.ok.hd).lessPin hN hi hn fun s9 J9=>⟨_,H8,J9,q⟩
  |cont=>
   obtain⟨σ8,H8,J8,q⟩:=q8
   exact name_gone (J8.ofSuite I.ok.hd).lessPin hN hi hn fun s9 J9=>⟨_,H8,J9,q⟩
structure PSx (X:Cx)(st:Stmt)(t:TS):Prop where
 h:PS X st t
section
variable {X:Cx}
theorem x_weak {b:Stmt}{t t':TS}(h:PSx X b t)(k:∀D σ H,t' D σ H→t D σ H):PSx X b t':=⟨fun pins s σ H D I q=>h.h pins s σ H D I (k D σ H q)⟩
end
section
variable {κ:Type}[DecidableEq κ]
def valV (kvs:List (κ×V))(k:κ):Option V:=(kvs.find? fun kv=>decide (kv.1=k)).map (·.2)
def putK (kvs:List (κ×V))(k:κ)(v:V):List (κ×V) :=
 if(kvs.any fun kv=>decide (kv.1=k))=true then kvs.map (fun kv=>if kv.1=k then(kv.1,v) else kv) else kvs++[(k,v)]
theorem valV_pos {p:κ×V}{r:List (κ×V)}{k:κ}(e:p.1=k):valV (p::r) k=some p.2:=by simp[valV,List.find?_cons,e]
theorem valV_neg {p:κ×V}{r:List (κ×V)}{k:κ}(e:¬p.1=k):valV (p::r) k=valV r k:=by simp[valV,List.find?_cons,e]
theorem valV_any (k:κ):∀kvs:List (κ×V),(kvs.any fun kv=>decide (kv.1=k))=(valV kvs k).isSome
 |[]=>rfl
 |p::r=>by
  rw[List.any_cons]
  by_cases e:p.1=k
  ·simp only[valV_pos e,decide_eq_true e,Bool.true_or,Option.isSome_some]
  ·rw[valV_neg e,decide_eq_false e,Bool.false_or];exact valV_any k r
theorem length_putK (kvs:List (κ×V))(k:κ)(v:V):(putK kvs k v).length≤kvs.length+1:=by
 unfold putK
 split
 ·rw[List.length_map];exact Nat.le_succ _
 ·rw[List.length_append,List.length_cons,List.length_nil];exact Nat.le_refl _
theorem RelO.isSome_eq {o:Option V}{u:Option Value}(r:RelO o u):o.isSome=u.isSome:=by
 cases o with
 |none=>cases u with
  |none=>rfl
  |some _=>exact(show False from r).elim
 |some _=>cases u with
  |none=>exact(show False from r).elim
  |some _=>rfl
theorem KV.val {kvs:List (κ×V)}{vs:List (κ×Value)}(r:KV kvs vs)(k:κ):RelO (valV kvs k) (valueAt vs k):=by
 unfold KV at r
 induction r with
 |nil=>exact True.intro
 |@cons p q ps qs h t ih=>
  obtain⟨h1,h2⟩:=h
  by_cases e:p.1=k
  ·have e':q.1=k:=h1.symm.trans e
   have b:valueAt (q::qs) k=some q.2:=by simp[valueAt,List.find?_cons,e']
   rw[valV_pos e,b];exact h2
  ·have e':¬q.1=k:=fun z=>e (h1.trans z)
   have b:valueAt (q::qs) k=valueAt qs k:=by simp[valueAt,List.find?_cons,e']
   rw[valV_neg e,b];exact ih
theorem KV.any {kvs:List (κ×V)}{vs:List (κ×Value)}(r:KV kvs vs)(k:κ):(kvs.any fun kv=>decide (kv.1=k))=vs.any fun kv=>decide (kv.1=k):=by
 unfold KV at r
 induction r with
 |nil=>rfl
 |cons h t ih=>rw[List.any_cons,List.any_cons,ih,h.1]
theorem KV.repl {kvs:List (κ×V)}{vs:List (κ×Value)}(r:KV kvs vs)(k:κ){y:V}{u:Value}(ry:RelV y u):
  KV (kvs.map fun kv=>if kv.1=k then(kv.1,y) else kv) (vs.map fun kv=>if kv.1=k then(kv.1,u) else kv):=by
 unfold KV at r ⊢
 induction r with
 |nil=>exact .nil
 |@cons p q ps qs h t ih=>
  rw[List.map_cons,List.map_cons]
  refine .cons ?_ ih
  obtain⟨h1,h2⟩:=h
  by_cases e:p.1=k
  ·rw[if_pos e,if_pos (h1.symm.trans e)];exact⟨h1,ry⟩
  ·rw[if_neg e,if_neg (fun z=>e (h1.trans z))];exact⟨h1,h2⟩
theorem KV.put {kvs:List (κ×V)}{vs:List (κ×Value)}(r:KV kvs vs)(k:κ){y:V}{u:Value}(ry:RelV y u):KV (putK kvs k y) (stored vs k u):=by
 unfold putK stored
 rw[r.any k]
 by_cases e:(vs.any fun kv=>decide (kv.1=k))=true
 ·rw[if_pos e,if_pos e];exact r.repl k ry
 ·rw[if_neg e,if_neg e];exact Paired.snoc r ⟨rfl,ry⟩
theorem KV.length {kvs:List (κ×V)}{vs:List (κ×Value)}(r:KV kvs vs):kvs.length=vs.length:=Paired.length r
end
theorem kV_is {P:Program}{w:World}{k:Key}{u:Value}(r:RelV (kV k) u):(mixKind P w).is k u=true:=by
 cases k with
 |inl i=>obtain⟨t,e⟩:=(show ∃t,u=Value.int i t from r);subst e;exact mixKind_int P w i t
 |inr x=>obtain⟨t,e⟩:=(show ∃t,u=Value.str x t from r);subst e;exact mixKind_str P w x t
theorem items_are {P:Program}{w:World}:∀{ks:List Key} {us:List Value},Vals (ks.map kV) us→ItemsAre (mixKind P w) ks us
 |[],_,r=>by rw[List.map_nil]at r;cases r;exact .nil
 |k::ks,_,r=>by
  rw[List.map_cons]at r
  cases r with
  |cons h t=>exact .cons (kV_is h) (items_are t)
abbrev KT (H:Hp):List (List Key×V)→List (List Key×Addr×Value)→Prop:=Paired fun p q=>p.1=q.1∧H q.2.1=some (.tup (p.1.map kV))∧RelV p.2 q.2.2
theorem KT.val {H:Hp}{kvs:List (List Key×V)}{xs:List (List Key×Addr×Value)}(r:KT H kvs xs)(k:List Key):RelO (valV kvs k) ((atKey xs k).map (·.2)):=by
 induction r with
 |nil=>exact True.intro
 |@cons p q ps qs h t ih=>
  obtain⟨h1,_,h2⟩:=h
  by_cases e:p.1=k
  ·have e':q.1=k:=h1.symm.trans e
   have b:atKey (q::qs) k=some q.2:=by simp[atKey,List.find?_cons,e']
   rw[valV_pos e,b];exact h2
  ·have e':¬q.1=k:=fun z=>e (h1.trans z)
   have b:atKey (q::qs) k=atKey qs k:=by simp[atKey,List.find?_cons,e']
   rw[valV_neg e,b];exact ih
theorem KT.repl {H:Hp}{kvs:List (List Key×V)}{xs:List (List Key×Addr×Value)}(r:KT H kvs xs)(k:List Key){y:V}{u:Value}(ry:RelV y u):
  KT H (kvs.map fun kv=>if kv.1=k then(kv.1,y) else kv) (xs.map (putAt k u)):=by
 induction r with
 |nil=>exact .nil
 |@cons p q ps qs h t ih=>
  rw[List.map_cons,List.map_cons]
  refine .cons ?_ ih
  obtain⟨h1,h2,h3⟩:=h
  unfold putAt
  by_cases e:p.1=k
  ·rw[if_pos e,if_pos (h1.symm.trans e)];exact⟨h1,h2,ry⟩
  ·rw[if_neg e,if_neg (fun z=>e (h1.trans z))];exact⟨h1,h2,h3⟩
theorem KT.put {H:Hp}{kvs:List (List Key×V)}{xs:List (List Key×Addr×Value)}(r:KT H kvs xs)(k:List Key){b:Addr}{y:V}{u:Value}(hb:H b=some (.tup (k.map kV)))(ry:RelV y u):
  KT H (putK kvs k y) (storedH xs k b u):=by
 have e:(kvs.any fun kv=>decide (kv.1=k))=(atKey xs k).isSome:=by
  rw[valV_any,(r.val k).isSome_eq,Option.isSome_map]
 unfold putK storedH
 rw[e]
 by_cases q:(atKey xs k).isSome=true
 ·rw[if_pos q,if_pos q];exact r.repl k ry
 ·rw[if_neg q,if_neg q];exact Paired.snoc r ⟨rfl,hb,ry⟩
theorem KT.keeps {H H':Hp}{kvs:List (List Key×V)}{xs:List (List Key×Addr×Value)}(r:KT H kvs xs)(ht:∀b ys,H b=some (.tup ys)→H' b=some (.tup ys)):KT H' kvs xs :=
 Paired.mapP r fun _ _ z=>⟨z.1,ht _ _ z.2.1,z.2.2⟩
section
variable {P:Program}{w:World}{H:Hp}{h:Heap}{a:Addr}
theorem rd_of {u:HO}(ok:HOk P w H h)(e:Rd H a u):ObjOk P w H h a u:=e.ok ok
theorem dk_rd {kvs:List (Key×V)}(ok:HOk P w H h)(e:Rd H a (.dK kvs)):kvs.length≤sizeLine∧(a==sysModules)=false∧∃vs,KV kvs vs∧h.DictOf (mixKind P w) a vs :=
 show ObjOk P w H h a (.dK kvs) from rd_of ok e
theorem dk_of {kvs:List (Key×V)}(ok:HOk P w H h)(e:H a=some (.dK kvs)):kvs.length≤sizeLine∧(a==sysModules)=false∧∃vs,KV kvs vs∧h.DictOf (mixKind P w) a vs:=dk_rd ok (.inl e)
theorem key_of {ks:List Key}(ok:HOk P w H h)(e:H a=some (.tup (ks.map kV))):(tupleKind (mixKind P w)).is h ks a:=by
 obtain⟨_,its,r,o,h1,h2,n,h3⟩:=(show ObjOk P w H h a (.tup (ks.map kV)) from ok a _ e)
 exact⟨o,its.toArray,n,h1,h2,h3,by simpa using items_are r⟩
theorem dt_rd {kvs:List (List Key×V)}(ok:HOk P w H h)(e:Rd H a (.dT kvs)):kvs.length≤sizeLine∧(a==sysModules)=false∧
  ∃xs,KT H kvs xs∧h.DictOfH (tupleKind (mixKind P w)) a xs:=by
 obtain⟨z,y,xs,r,o,es,ep,h1,h2,h3,h4,h5⟩:=(show ObjOk P w H h a (.dT kvs) from rd_of ok e)
 refine⟨z,y,xs,r,o,es,ep,h1,h2,h3,h4,fun x hx=>?_,h5⟩
 have all:∀{l:List (List Key×V)} {m:List (List Key×Addr×Value)},KT H l m→∀x∈m,(tupleKind (mixKind P w)).is h x.1 x.2.1:=by
  intro l m q
  induction q with
  |nil=>intro x hx;exact nomatch hx
  |@cons p q ps qs hq t ih=>
   intro x hx
   rcases List.mem_cons.mp hx with e|hx
   ·subst e
    exact key_of ok (by rw[←hq.1];exact hq.2.1)
   ·exact ih x hx
 exact all r x hx
theorem dt_of {kvs:List (List Key×V)}(ok:HOk P w H h)(e:H a=some (.dT kvs)):kvs.length≤sizeLine∧(a==sysModules)=false∧
  ∃xs,KT H kvs xs∧h.DictOfH (tupleKind (mixKind P w)) a xs:=dt_rd ok (.inl e)
end
def DGet (H:Hp)(a:Addr)(y:V)(r:Option V):Prop :=
 (∃kvs k,Rd H a (.dK kvs)∧y=kV k∧r=valV kvs k)∨∃kvs k b,Rd H a (.dT kvs)∧y=.ref b∧H b=some (.tup (k.map kV))∧r=valV kvs k
def DPut (H:Hp)(a:Addr)(y v:V)(H':Hp):Prop :=
 (∃kvs k,H a=some (.dK kvs)∧y=kV k∧kvs.length<sizeLine∧H'=upd H a (.dK (putK kvs k v)))∨
 ∃kvs k b,H a=some (.dT kvs)∧y=.ref b∧H b=some (.tup (k.map kV))∧kvs.length<sizeLine∧H'=upd H a (.dT (putK kvs k v))
theorem DPut.k {H:Hp}{a:Addr}{kvs:List (Key×V)}{k:Key}{v:V}(e:H a=some (.dK kvs))(hl:kvs.length<sizeLine):DPut H a (kV k) v (upd H a (.dK (putK kvs k v))):=.inl ⟨kvs,k,e,rfl,hl,rfl⟩
section
variable {X:Cx}{pins:List (Addr×Obj)}{σ:St}{H:Hp}{s:Shared}{a:Addr}{y v:V}{u r:Value}{o:Option V}{A:Around}{E:Value→Shared→Prop}
theorem Inv.big (I:Inv X pins σ H s):sysModules<s.heap.objs.size:=by
 have h:mainGlobals<s.heap.objs.size:=(I.mod.glob.keeps I.bk).lt
 exact Nat.lt_trans (by decide) h
theorem d_getItem {Q:Value→Shared→Prop}(hu:A.units+1<cLine)(I:Inv X pins σ H s)(g:DGet H a y (some v))(ry:RelV y u)(h:∀w' s',Inv X pins σ H s'→RelV v w'→Q w' s'):
  wpAny (model X.prog X.w) A (getItem (.ref a) u) Q E s:=by
 rcases g with ⟨kvs,k,e,ey,l⟩|⟨kvs,k,b,e,ey,eb,l⟩
 ·subst ey
  obtain⟨z,hd,vs,rel,dd⟩:=dk_rd I.hok e
  obtain⟨w',hw,rw'⟩:=RelO.some_of (v:=v) (o:=valueAt vs k) (by rw[l];exact rel.val k)
  exact wpAny_getItem_of (kV_is ry) dd.mapOf hw (h w' _ (I.tok _) rw')
 ·subst ey
  cases(show u=Value.ref b from ry)
  obtain⟨z,hd,xs,rel,dd⟩:=dt_rd I.hok e
  obtain⟨w',hw,rw'⟩:=RelO.some_of (v:=v) (o:=(atKey xs k).map (·.2)) (by rw[l];exact rel.val k)
  obtain⟨p,hp,hp2⟩:=Option.map_eq_some_iff.mp hw
  refine wpAny_getItem_heap (tupleKind_room_in1 hu) (key_of I.hok eb) dd hp ?_
  rw[hp2]
  exact h w' _ (I.tok _) rw'
theorem d_in {Q:Value→Shared→Prop}(hu:A.units+1<cLine)(I:Inv X pins σ H s)(g:DGet H a y o)(ry:RelV y u)(h:∀s',Inv X pins σ H s'→Q (.bool o.isSome) s'):
  wpAny (model X.prog X.w) A (compareOp .In u (.ref a)) Q E s:=by
 rcases g with ⟨kvs,k,e,ey,l⟩|⟨kvs,k,b,e,ey,eb,l⟩
 ·subst ey
  obtain⟨z,hd,vs,rel,dd⟩:=dk_rd I.hok e
  refine wpAny_in_of (kV_is ry) hd dd.mapOf ?_
  rw[←(rel.val k).isSome_eq,←l]
  exact h _ (I.tok _)
 ·subst ey
  cases(show u=Value.ref b from ry)
  obtain⟨z,hd,xs,rel,dd⟩:=dt_rd I.hok e
  refine wpAny_in_heap (tupleKind_room_in1 hu) (key_of I.hok eb) hd dd ?_
  have q:=(rel.val k).isSome_eq
  rw[Option.isSome_map]at q
  rw[←q,←l]
  exact h _ (I.tok _)
theorem d_notIn {Q:Value→Shared→Prop}(hu:A.units+1<cLine)(I:Inv X pins σ H s)(g:DGet H a y o)(ry:RelV y u)(h:∀s',Inv X pins σ H s'→Q (.bool (!o.isSome)) s'):
  wpAny (model X.prog X.w) A (compareOp .NotIn u (.ref a)) Q E s:=by
 rcases g with ⟨kvs,k,e,ey,l⟩|⟨kvs,k,b,e,ey,eb,l⟩
 ·subst ey
  obtain⟨z,hd,vs,rel,dd⟩:=dk_rd I.hok e
  refine wpAny_notIn_of (kV_is ry) hd dd.mapOf ?_
  rw[←(rel.val k).isSome_eq,←l]
  exact h _ (I.tok _)
 ·subst ey
  cases(show u=Value.ref b from ry)
  obtain⟨z,hd,xs,rel,dd⟩:=dt_rd I.hok e
  refine wpAny_notIn_heap (tupleKind_room_in1 hu) (key_of I.hok eb) hd dd ?_
  have q:=(rel.val k).isSome_eq
  rw[Option.isSome_map]at q
  rw[←q,←l]
  exact h _ (I.tok _)
theorem d_write {h':Heap}{t':Nat}{ob:HO}(I:Inv X pins σ H s)(mu:Mut (H a))(hs:Heap.SameBut a s.heap h')(he:∃q,h'.get? a=some q)(new:ObjOk X.prog X.w (upd H a ob) h' a ob):
  Inv X pins σ (upd H a ob) {s with heap:=h',toks:=t'} :=
 I.write (x:=a) (e:=a) mu (.inl rfl) (fun b q hb z=>(hs.2 b hb).trans z) he new
theorem dk_new {P:Program}{w:World}{H':Hp}{h':Heap}{kvs:List (Key×V)}{vs:List (Key×Value)}(z:kvs.length≤sizeLine)(hd:(a==sysModules)=false)(rel:KV kvs vs)(dd:h'.DictOf (mixKind P w) a vs):
  ObjOk P w H' h' a (.dK kvs):=⟨z,hd,vs,rel,dd⟩
theorem d_setItem {H':Hp}{Q:Unit→Shared→Prop}(hu:A.units+1<cLine)(I:Inv X pins σ H s)(g:DPut H a y v H')(ry:RelV y u)(rv:RelV v r)(h:∀s',Inv X pins σ H' s'→Q () s'):
  wpAny (model X.prog X.w) A (setItem (.ref a) u r) Q E s:=by
 rcases g with ⟨kvs,k,e,ey,l,eH⟩|⟨kvs,k,b,e,ey,eb,l,eH⟩
 ·subst ey eH
  obtain⟨z,hd,vs,rel,dd⟩:=dk_of I.hok e
  have hz:vs.length≤sizeLine:=by rw[←rel.length];exact z
  have hl:(putK kvs k v).length≤sizeLine:=by have:=length_putK kvs k v;exact Nat.le_trans this l
  refine wpAny_setItem_pairs (hsz:=hz) (kV_is ry) dd fun h' dd' hs=>h _ ?_
  have he:∃q,h'.get? a=some q:=let ⟨q,_,_,hq,_⟩:=dd';⟨q,hq⟩
  exact d_write I (by rw[e];exact True.intro) hs he (dk_new hl hd (rel.put k rv) dd')
 ·subst ey eH
  cases(show u=Value.ref b from ry)
  obtain⟨z,hd,xs,rel,dd⟩:=dt_of I.hok e
  have hz:xs.length≤sizeLine:=by rw[←Paired.length rel];exact z
  have hl:(putK kvs k v).length≤sizeLine:=by have:=length_putK kvs k v;exact Nat.le_trans this l
  refine wpAny_setItem_heap (hsz:=hz) (tupleKind_room_in1 hu) (key_of I.hok eb) dd fun h' dd' hs=>h _ ?_
  obtain⟨q,es,ep,hq,h2,h3,h4,_,h5⟩:=dd'
  refine d_write I (by rw[e];exact True.intro) hs ⟨q,hq⟩ ⟨hl,hd,_,(rel.put k eb rv).keeps fun c ys ec=>?_,q,es,ep,hq,h2,h3,h4,h5⟩
  rw[upd_ne (ne_of ec e (fun z=>nomatch z))]
  exact ec
end
section
variable {X:Cx}{pins:List (Addr×Obj)}{σ:St}{H:Hp}{s:Shared}{a:Addr}{kvs:List (Key×V)}{k:Key}{u:Value}{A:Around}{E:Value→Shared→Prop}
end
def NoSl (i:Expr):Prop:=∀ov iv,subscripted i false ov iv=operate [ov,iv] (getItem ov iv)
theorem subD_of {prog:Program}{w:World}{A:Around}{E:Value→Shared→Prop}{s:Shared}{env:Env}{value slice:Expr}{pos:Pos}{T id:String}{Q:Value→Shared→Prop}
  (hl:typeLookup (.type T) "__getitem__"=pure (some (.builtin id))) (hs:NoSl slice)
  (h:wpAny (model prog w) A (eval value env) (fun o s₁=>wpAny (model prog w) A (eval slice env) (fun i s₂=>s₂.TypeIs o T∧wpAny (model prog w) A (getItem o i) Q E s₂) E s₁) E s):
  wpAny (model prog w) A (eval (.Subscript value slice pos) env) Q E s:=by
 refine Subscript_ (wpAny_mono h (fun o s₁ h₁=>wpAny_mono h₁ (fun i s₂ h₂=>?_) fun _ _ x=>x) fun _ _ x=>x)
 obtain⟨hT,h₂⟩:=h₂
 unfold subscriptTail
 refine wpAny_bind ?_
 rw[getitemInPython_of_ne hT.not_modules]
 refine wpAny_bind (wpAny_specialOf hT hl ?_)
 have fin:wpAny (model prog w) A (subscripted slice false o i) (fun r s₃=>wpAny (model prog w) A (letTemporaryGo value o r>>=fun _=>pure r) Q E s₃) E s₂:=by
  rw[hs o i]
  exact wpAny_operating (wpAny_mono h₂ (fun r s₃ h₃=>wpAny_bind (wpAny_letTemporaryGo (wpAny_pure h₃))) fun _ _ x=>x)
 first
  |exact wpAny_pure (wpAny_bind fin)
  |exact wpAny_bind (wpAny_pure (wpAny_bind fin))
  |exact wpAny_bind fin
theorem dict_typeIs {X:Cx}{pins:List (Addr×Obj)}{σ:St}{H:Hp}{s:Shared}{a:Addr}{y:V}{o:Option V}(I:Inv X pins σ H s)(g:DGet H a y o):s.TypeIs (.ref a) "dict":=by
 rcases g with ⟨kvs,k,e,_,_⟩|⟨kvs,k,b,e,_,_,_⟩
 ·obtain⟨_,_,vs,_,dd⟩:=dk_rd I.hok e
  exact dd.typeIs
 ·obtain⟨_,_,xs,_,dd⟩:=dt_rd I.hok e
  exact dd.typeIs
inductive tDGet_ (Q:VK)(x:V)(y:V)(H2:Hp):Prop where
 |mk (a) (v):(x=.ref a)→(DGet H2 a y (some v))→(Q v H2)→tDGet_ Q x y H2
def tDGet (td ty:TE):TE:=fun σ H Q=>td σ H fun x H1=>ty σ H1 (tDGet_ Q x)
def tDIn (ty td:TE):TE:=fun σ H Q=>ty σ H fun y H1=>td σ H1 fun x H2=>∃a o,x=.ref a∧DGet H2 a y o∧Q (.bl o.isSome) H2
inductive sDPut_ (D:Ends)(σ:St)(v:V)(x:V)(y:V)(H3:Hp):Prop where
 |mk (a) (H4):(x=.ref a)→(DPut H3 a y v H4)→(D.nx σ H4)→sDPut_ D σ v x y H3
def sDPut (td ty tv:TE):TS:=fun D σ H=>tv σ H fun v H1=>td σ H1 fun x H2=>ty σ H2 (sDPut_ D σ v x)
section
variable {X:Cx}{o i e value:Expr}{pos pos' tpos:Pos}{td ty tv:TE}
theorem pe_dget (hu:X.A.units+1<cLine)(ho:PE X o td)(hi:PE X i ty)(hs:NoSl i:=by intro _ _;rfl):PE X (.Subscript o i pos) (tDGet td ty):=by
 intro pins s σ H Q I h
 refine subD_of PySem.F.slot_dict_getitem.lookup hs (thn (ho pins s σ H _ I h) fun u s1 ⟨x,H1,I1,rx,q1⟩=>thn (hi pins s1 σ H1 _ I1 q1) fun iv s2 ⟨y,H2,I2,ry,a,v,ex,g,q2⟩=>?_)
 subst ex
 obtain rfl:u=Value.ref a:=rx
 exact⟨dict_typeIs I2 g,d_getItem hu I2 g ry fun w' s3 I3 rw'=>⟨v,H2,I3,rw',q2⟩⟩
theorem pc_din (hu:X.A.units+1<cLine)(hi:PE X i ty)(ho:PE X o td):PC X .In i o (tDIn ty td):=by
 intro pins s σ H Q I h
 refine thn (hi pins s σ H _ I h) fun iv s1 ⟨y,H1,I1,ry,q1⟩=>thn (ho pins s1 σ H1 _ I1 q1) fun u s2 ⟨x,H2,I2,rx,a,ov,ex,g,q2⟩=>?_
 subst ex
 obtain rfl:u=Value.ref a:=rx
 exact d_in hu I2 g ry fun s3 I3=>⟨.bl ov.isSome,H2,I3,rfl,q2⟩
theorem ps_dput (hu:X.A.units+1<cLine)(ho:PE X o td)(hi:PE X i ty)(hv:PE X value tv)(hs:swapsWith value (some (.Subscript o i pos')) pos.line X.env=pure false):
  PS X (.Assign [.Subscript o i pos'] value pos) (sDPut td ty tv):=by
 intro pins s σ H D I h
 refine wpAny_Assign_Subscript (thn (hv pins s σ H _ I h) fun r s1 ⟨v,H1,I1,rv,q1⟩=>thn (ho pins s1 σ H1 _ I1 q1) fun u s2 ⟨x,H2,I2,rx,q2⟩=>thn (hi pins s2 σ H2 _ I2 q2) fun iv s3 ⟨y,H3,I3,ry,a,H4,ex,g,q3⟩=>?_) hs
 subst ex
 obtain rfl:u=Value.ref a:=rx
 exact d_setItem hu I3 g ry rv fun s4 I4=>⟨σ,H4,I4,q3⟩
end
theorem dk_empty {P:Program}{w:World}{H:Hp}(h:Heap)(hb:sysModules<h.objs.size):ObjOk P w H (h.push {cls:=.type "dict",data:=.dict #[]}) h.objs.size (.dK []) :=
 ⟨Nat.zero_le _,beq_eq_false_iff_ne.mpr (Ne.symm (Nat.ne_of_lt hb)),[], .nil,Heap.DictOf.new h⟩
def tDNewK:TE:=fun _ H Q=>∀p,H p=none→Q (.ref p) (upd H p (.dK []))
section
variable {X:Cx}{pos:Pos}
theorem pe_dnewK:PE X (.Dict [] [] pos) tDNewK:=fun pins s σ H Q I h=>
 wpAny_Dict_empty ⟨.ref s.heap.objs.size,_,I.laid (a:=s.heap.objs.size) (o:=.dK []) (t':=s.toks) (fun _ _ q=>Heap.get?_push_of_some _ q) (Nat.le_refl _) (dk_empty s.heap I.big),rfl,h _ (I.hok.fresh (Nat.le_refl _))⟩
end
def tPairs:List (TE×TE)→St→Hp→(List (V×V)→Hp→Prop)→Prop
 |[],_,H,Q=>Q [] H
 |(tk,tv)::r,σ,H,Q=>tk σ H fun x H1=>tv σ H1 fun y H2=>tPairs r σ H2 fun ps H3=>Q ((x,y)::ps) H3
abbrev VV:List (V×V)→List (Value×Value)→Prop:=Paired fun p q=>RelV p.1 q.1∧RelV p.2 q.2
def PPs (X:Cx)(pos:Pos)(keys:List (Option Expr))(values:List Expr)(trs:List (TE×TE)):Prop :=
 ∀(pins:List (Addr×Obj)) (s:Shared) (σ:St) (H:Hp) (Q:List (V×V)→Hp→Prop),Inv X pins σ H s→tPairs trs σ H Q→
  wpAny (model X.prog X.w) X.A (evalPairs (pairTrees keys values X.env pos)) (fun vs s'=>∃ps H',Inv X pins σ H' s'∧VV ps vs∧Q ps H') X.xe s
theorem pps_nil {X:Cx}{pos:Pos}:PPs X pos [] [] []:=fun pins s σ H Q I h=>pairTrees_nil_walk ⟨[],H,I, .nil,h⟩
theorem pps_cons {X:Cx}{pos:Pos}{k v:Expr}{ks:List (Option Expr)}{vs:List Expr}{tk tv:TE}{trs:List (TE×TE)}(hk:PE X k tk)(hv:PE X v tv)(hr:PPs X pos ks vs trs):
  PPs X pos (some k::ks) (v::vs) ((tk,tv)::trs):=fun pins s σ H Q I h=>
 pairTrees_cons_walk (thn (hk pins s σ H _ I h) fun u s1 ⟨x,H1,I1,rx,q1⟩=>thn (hv pins s1 σ H1 _ I1 q1) fun w2 s2 ⟨y,H2,I2,ry,q2⟩=>
  thn (hr pins s2 σ H2 _ I2 q2) fun ws s3 ⟨ps,H3,I3,rel,q3⟩=>⟨(x,y)::ps,H3,I3, .cons ⟨rx,ry⟩ rel,q3⟩)
def mergeK (kvs more:List (Key×V)):List (Key×V):=more.foldl (fun acc kv=>putK acc kv.1 kv.2) kvs
theorem KV.merge:∀{more:List (Key×V)} {rs:List (Key×Value)} {kvs:List (Key×V)} {vs:List (Key×Value)},KV more rs→KV kvs vs→KV (mergeK kvs more) (merged vs rs):=by
 intro more rs kvs vs r
 unfold KV at r
 induction r generalizing kvs vs with
 |nil=>intro q;exact q
 |@cons p q ps qs h t ih=>
  intro r0
  have e:KV (putK kvs p.1 p.2) (stored vs q.1 q.2):=by
   have:=r0.put p.1 h.2
   rw[←h.1];exact this
  exact ih e
theorem length_mergeK:∀(more kvs:List (Key×V)),(mergeK kvs more).length≤kvs.length+more.length
 |[],kvs=>by show kvs.length≤kvs.length+0;exact Nat.le_refl _
 |p::r,kvs=>by
  have h1:=length_mergeK r (putK kvs p.1 p.2)
  have h2:=length_putK kvs p.1 p.2
  show(mergeK (putK kvs p.1 p.2) r).length≤_
  rw[List.length_cons];omega
theorem carries_of {P:Program}{w:World}{kvs:List (Key×V)}{ws:List (Value×Value)}(r:VV (kvs.map fun kv=>(kV kv.1,kv.2)) ws):∃rs,Carries (mixKind P w) ws rs∧KV kvs rs:=by
 induction kvs generalizing ws with
 |nil=>rw[List.map_nil]at r;cases r;exact⟨[],True.intro, .nil⟩
 |cons p kvs ih=>
  rw[List.map_cons]at r
  cases r with
  |@cons a b as bs h t=>
   obtain⟨rs,c,q⟩:=ih t
   obtain⟨b1,b2⟩:=b
   exact⟨(p.1,b2)::rs,⟨kV_is h.1,rfl,c⟩, .cons ⟨rfl,h.2⟩ q⟩
def tDisp (trs:List (TE×TE)):TE:=fun σ H Q=>∀p,H p=none→tPairs trs σ (upd H p (.dK [])) fun ps H2=>H2 p=some (.dK [])∧∃kvs:List (Key×V),ps=kvs.map (fun kv=>(kV kv.1,kv.2))∧kvs.length≤15∧Q (.ref p) (upd H2 p (.dK (mergeK [] kvs)))
theorem pe_disp {X:Cx}{pos:Pos}{keys:List (Option Expr)}{values:List Expr}{trs:List (TE×TE)}(h:PPs X pos keys values trs)(hall:keys.all (·.isSome)=true)(hl:keys.length=values.length)(h0:keys≠[])
  (h15:keys.length≤15):PE X (.Dict keys values pos) (tDisp trs):=by
 intro pins s σ H Q I q
 have hn:=I.hok.fresh (Nat.le_refl s.heap.objs.size)
 have I1:=I.laid (a:=s.heap.objs.size) (o:=.dK []) (h':=s.heap.push {cls:=.type "dict",data:=.dict #[]}) (t':=s.toks) (fun _ _ q=>Heap.get?_push_of_some _ q) (Nat.le_refl _) (dk_empty s.heap I.big)
 refine wpAny_Dict_walk (knd:=mixKind X.prog X.w) hall hl h0 h15 (thn (h pins _ σ _ _ I1 (q _ hn)) fun ws s2 ⟨ps,H2,I2,rel,e,kvs,ep,lk,q2⟩=>?_)
 subst ep
 obtain⟨rs,c,rk⟩:=carries_of (P:=X.prog) (w:=X.w) rel
 obtain⟨z,hd,vs0,r0,dd⟩:=dk_of I2.hok e
 cases r0
 refine⟨rs,c,dd,fun h' dd' hs=>⟨.ref s.heap.objs.size,_,?_,rfl,q2⟩⟩
 have hz:(mergeK [] kvs).length≤sizeLine:=by
  have h1:=length_mergeK kvs []
  rw[List.length_nil]at h1
  rw[sizeLine_eq];omega
 have he:∃q,h'.get? s.heap.objs.size=some q:=let ⟨q,_,_,hq,_⟩:=dd';⟨q,hq⟩
 exact d_write I2 (by rw[e];exact True.intro) hs he (dk_new hz hd (rk.merge .nil) dd')
section
variable {X:Cx}{pins:List (Addr×Obj)}{σ:St}{H:Hp}{s:Shared}{a:Addr}{y d:V}{u r:Value}{o:Option V}{A:Around}{E:Value→Shared→Prop}
end
section
variable {X:Cx}{o e f:Expr}{apos cpos:Pos}{td ty tx:TE}
end
section
variable {X:Cx}{pins:List (Addr×Obj)}{σ:St}{H:Hp}{s:Shared}{a:Addr}{kvs:List (Key×V)}{A:Around}{E:Value→Shared→Prop}
end
section
variable {X:Cx}{pins:List (Addr×Obj)}{σ:St}{H:Hp}{s:Shared}{a:Addr}{y:V}{u:Value}{A:Around}{E:Value→Shared→Prop}
end
section
variable {X:Cx}
end
section
variable {κ:Type}[DecidableEq κ]
end
section
variable {X:Cx}
end
section
variable {K:PySem.W.Frag}{i:Nat}{w z:Str}{t u e:TS}{D:Ends}{σ:St}{H:Hp}{a:Addr}{xs:List V}
end
section
variable {X:Cx}
theorem ixT (K:PySem.W.Frag)(h:X.K=K:=by rfl):IxR X (rIxT K):=h ▸ ix_tup
theorem ixL (K:PySem.W.Frag)(h:X.K=K:=by rfl):IxR X (rIxL K):=h ▸ ix_list
theorem clen (K:PySem.W.Frag)(h:X.K=K:=by rfl):CallR X (.builtin "len") (r_call_len_seq K):=h ▸ call_len_seq
theorem piL (K:PySem.W.Frag){tg l:Expr}{tl:TE}(hl:PE X l tl)(h:X.K=K:=by rfl):PI X tg l (iList K tl):=h ▸ pi_list hl
theorem piT (K:PySem.W.Frag){tg l:Expr}{tl:TE}(hl:PE X l tl)(h:X.K=K:=by rfl):PI X tg l (iTup K tl):=h ▸ pi_tup hl
theorem fldK (K:PySem.W.Frag){e:Expr}{f:Str}{pos:Pos}{ta:TE}(he:PE X e ta)(hb:attributeBase e f X.env (eval e X.env)=eval e X.env)(h:X.K=K:=by rfl):PE X (.Attribute e f pos) (tFld K ta f):=h ▸ pe_fld he hb
theorem sfldK (K:PySem.W.Frag){o value:Expr}{f:Str}{pos pos':Pos}{ta tv:TE}(ha:PE X o ta)(hv:PE X value tv)(hs:swapsWith value (some (.Attribute o f pos')) pos.line X.env=pure false)(h:X.K=K:=by rfl):PS X (.Assign [.Attribute o f pos'] value pos) (sFld K ta tv f):=h ▸ ps_fld ha hv hs
theorem pgT (K:PySem.W.Frag){es:List Expr}{k:Nat}{t:TGs}{n:Nat}{pos:Pos}(hc:X.calm=true)(hq:PGs X es t)(hn:(assignEach es X.env).length=n:=by rfl)(hst:(assignEach es X.env).findIdx? (·.1)=none:=by rfl)(h:X.K=K:=by rfl):PG X (.Tuple es k pos) (gTup K n t):=h ▸ pg_tup hc hq hn hst
theorem ctup (K:PySem.W.Frag)(h:X.K=K:=by rfl):CallR X (.type "tuple") (r_call_tuple_of K):=h ▸ call_tuple_of
theorem ppop (K:PySem.W.Frag){o:Expr}{apos cpos:Pos}{to:TE}(ho:PE X o to)(hbase:attributeBase o "pop" X.env (eval o X.env)=eval o X.env:=by rfl)(hline:(apos.endLine==cpos.line)=true:=by rfl)(h:X.K=K:=by rfl):
  PE X (.Call (.Attribute o "pop" apos) [] [] cpos) (tBM0 K "list" rPop to):=h ▸ pe_bm0 PySem.F.plainAttrs_list PySem.F.slot_list_pop PySem.F.type_list_pop mt_pop ho hbase hline
theorem pset (i:Nat){x:Str}{e:Expr}{te:TE}{pos pos':Pos}(hN:X.N.Nodup)(he:PE X e te)(hi:X.N[i]?=some x:=by rfl)(hx:Loc X.env.scope x:=by exact Or.inl rfl)(hs:swapsWith e (some (.Name x pos')) pos.line X.env=pure false:=by rfl)(hf:X.fn x=true∨X.env.scope.names.lookup x=some .local:=by first|exact .inl rfl|exact .inr rfl):
  PS X (.Assign [.Name x pos'] e pos) (tAsg te (gName i)):=ps_set hN hi hx he hs hf
end
end L2
namespace PySem
open PyProof.Rows
namespace F
theorem owner_rvt:Manifest.owners.lookup (String.ofList ['d','e','s','r','e','v','e','r'].reverse)=some Manifest.sig_reversed:=by kernel_rfl
theorem slot_rvt_next:Slot "reversed" "__next__" "reversed.__next__" :=
 .of (owner:="reversed") (n:="__next__") (by rw[typeLookup_type,builtinLookup_eq_fast];kernel_rfl) (by decide+kernel) (by decide+kernel) (by decide+kernel)
  (by first|exact .inl (by decide+kernel)|exact .inr (by decide+kernel)) (by rw[isSubtype_type];kernel_rfl)
theorem entry_rvt_next:entryFor table "reversed.__next__"=some Builtin.«reversed.__next__»:=entryFor_of_tree (by kernel_rfl)
theorem args_rvt_next (a:Value):argsOk "reversed.__next__" ⟨[a],[]⟩:=by
 unfold argsOk;rw[signature?_of (id:="reversed.__next__") (n:=['_','_','t','x','e','n','_','_']) (o:=['d','e','s','r','e','v','e','r']) (by kernel_rfl) owner_rvt];kernel_rfl
theorem slot_rvt_iter:Slot "reversed" "__iter__" "reversed.__iter__" :=
 .of (owner:="reversed") (n:="__iter__") (by rw[typeLookup_type,builtinLookup_eq_fast];kernel_rfl) (by decide+kernel) (by decide+kernel) (by decide+kernel)
  (by first|exact .inl (by decide+kernel)|exact .inr (by decide+kernel)) (by rw[isSubtype_type];kernel_rfl)
theorem args_rvt_iter (a:Value):argsOk "reversed.__iter__" ⟨[a],[]⟩:=by
 unfold argsOk;rw[signature?_of (id:="reversed.__iter__") (n:=['_','_','r','e','t','i','_','_']) (o:=['d','e','s','r','e','v','e','r']) (by kernel_rfl) owner_rvt];kernel_rfl
theorem entry_rvt_iter:entryFor table "reversed.__iter__"=some Builtin.«dict_keyiterator.__iter__» :=
 entryFor_alias (id':="dict_keyiterator.__iter__") (by kernel_rfl) (by first|rfl|decide+kernel|(unfold String.splitOn;simp+decide [String.splitOnAux])) (by decide+kernel) (by kernel_rfl)
theorem slot_rvt_hint:Slot "reversed" "__length_hint__" "reversed.__length_hint__" :=
 .of (owner:="reversed") (n:="__length_hint__") (by rw[typeLookup_type,builtinLookup_eq_fast];kernel_rfl) (by decide+kernel) (by decide+kernel) (by decide+kernel)
  (by first|exact .inl (by decide+kernel)|exact .inr (by decide+kernel)) (by rw[isSubtype_type];kernel_rfl)
theorem entry_rvt_hint:entryFor table "reversed.__length_hint__"=some Builtin.«reversed.__length_hint__»:=entryFor_of_tree (by kernel_rfl)
theorem args_rvt_hint (a:Value):argsOk "reversed.__length_hint__" ⟨[a],[]⟩:=by
 unfold argsOk;rw[signature?_of (id:="reversed.__length_hint__") (n:=['_','_','t','n','i','h','_','h','t','g','n','e','l','_','_']) (o:=['d','e','s','r','e','v','e','r']) (by kernel_rfl) owner_rvt];kernel_rfl
theorem nolen_rvt:typeLookup (.type "reversed") "__len__"=pure none:=by rw[typeLookup_type,builtinLookup_eq_fast];kernel_rfl
theorem tup_norev:typeLookup (.type "tuple") "__reversed__"=pure none:=by rw[typeLookup_type,builtinLookup_eq_fast];kernel_rfl
theorem slot_rvt_init:Slot "reversed" "__init__" "object.__init__" :=
 .of (owner:="object") (n:="__init__") (by rw[typeLookup_type,builtinLookup_eq_fast];kernel_rfl) (by decide+kernel) (by decide+kernel) (by decide+kernel)
  (by first|exact .inl (by decide+kernel)|exact .inr (by decide+kernel)) (by rw[isSubtype_type];kernel_rfl)
theorem called_reversed:TypeCalled "reversed" "reversed.__new__" "object.__init__" :=
 ⟨by decide+kernel,by decide+kernel,⟨_,_,mro_reversed⟩,made_reversed,by decide+kernel,by rw[isSubtype_type];kernel_rfl,slot_rvt_init⟩
end F
def rvtObj (l:Addr)(i:Int):Obj:={cls:=.type "reversed",data:=.fields #[.ref l,rawInt i]}
def Heap.IsRvt (h:Heap)(a l:Addr)(i:Int):Prop:=h.get? a=some (rvtObj l i)
theorem Heap.IsRvt.typeIs {s:Shared}{a l:Addr}{i:Int}(x:s.heap.IsRvt a l i):s.TypeIs (.ref a) "reversed":=⟨_,x,rfl⟩
section
variable {prog:Program}{w:World}{A:Around}{E:Value→Shared→Prop}{s:Shared}
theorem meets_rvt_new (l:Addr)(xs:Array Value)(hz:(xs.size:Int)<2^63):
  Meets (Builtin.«reversed.__new__» ⟨[.type "reversed", .ref l],[]⟩) (fun _ R s=>IsTup s.heap l xs∧
   R (.ok (.ret (.ref s.heap.objs.size))) {s with heap:=s.heap.push (rvtObj l ((xs.size:Int)-1)),toks:=s.toks+1+1}) :=
 .of_wp fun prog w A R s h=>by
  obtain⟨hl,h⟩:=h
  unfold Builtin.«reversed.__new__»
  refine wpAny_bind (wpAny_of_eq (newClass_reversed _) ?_)
  try dsimp only
  refine wpAny_bind (wpAny_of_eq (a:=()) (by first|rfl|kernel_rfl) ?_)
  refine wpAny_bind (wpAny_of_eq (a:=()) (by first|rfl|kernel_rfl) ?_)
  try dsimp only
  refine wpAny_bind (wpAny_specialOf hl.typeIs F.tup_norev ?_)
  try dsimp only
  refine wpAny_bind ?_
  show wpAny _ _ (isInstance (.ref l) (.type "dict")>>=_) _ _ _
  refine wpAny_bind (wpAny_isInstance (b:=false) hl.typeIs F.sub_tuple_dict ?_)
  rw[if_neg Bool.false_ne_true]
  show wpAny _ _ (specialOf (Value.ref l) (Str.ofString "__getitem__")>>=_) _ _ _
  refine wpAny_bind (wpAny_specialOf hl.typeIs F.slot_tuple_getitem.lookup ?_)
  dsimp only
  rw[if_pos (by decide)]
  refine wpAny_pure ?_
  rw[if_neg (by decide)]
  refine wpAny_bind (len_tuple hl hz ?_)
  refine wpAny_bind (m:=asInt? (.int _ _)) (wpAny_pure ?_)
  dsimp only
  refine wpAny_bind ?_
  show wpAny _ _ (newObj (.type "reversed") (.fields #[Value.ref l,rawInt ((xs.size:Int)-1)])) _ _ _
  refine wpAny_newObj_type ?_
  exact wpAny_pure ⟨_,rfl,h⟩
theorem call_reversed_tuple {l:Addr}{xs:Array Value}{Q:Value→Shared→Prop}(hl:IsTup s.heap l xs)(hz:(xs.size:Int)<2^63)
  (h:Q (.ref s.heap.objs.size) {s with heap:=s.heap.push (rvtObj l ((xs.size:Int)-1)),toks:=s.toks+1+1}):wpAny (model prog w) A (call (.type "reversed") [.ref l]) Q E s :=
 callType_new F.called_reversed (by decide) (F.typeCall_reversed_1 _) (F.newCall_reversed_1 _) (fun obj=>F.args_object_init_2 obj _) F.entry_reversed_new (meets_rvt_new l xs hz)
  ⟨hl,⟨_,Heap.get?_push_size _ rfl,rfl⟩,h⟩
theorem wpAny_pyNext_rvt_item {it l:Addr}{i:Nat}{xs:Array Value}{x:Value}{Q:Option Value→Shared→Prop}(hit:s.heap.IsRvt it l (i:Int))(hl:IsTup s.heap l xs)(hz:(xs.size:Int)<2^63)(hx:xs[i]?=some x)
  (hQ:∀h' tk,s.toks≤tk→h'.IsRvt it l ((i:Int)-1)→Heap.SameBut it s.heap h'→Q (some x) {s with heap:=h',toks:=tk}):wpAny (model prog w) A (pyNext (.ref it)) Q E s:=by
 have hlt:i<xs.size:=(Array.getElem?_eq_some_iff.mp hx).1
 unfold pyNext
 refine wpAny_bind (wpAny_attempt (wpAny_callSpecial?_slot (name:=Str.ofString "__next__") hit.typeIs F.slot_rvt_next
  (wpAny_call_entry F.slot_rvt_next hit.typeIs F.entry_rvt_next ?_ (F.args_rvt_next _))))
 unfold Builtin.«reversed.__next__»
 refine wpAny_bind (wpAny_of_eq (a:=(Value.ref it,[])) rfl ?_)
 try dsimp only
 refine wpAny_bind (wpAny_field hit rfl (x:=.ref l) rfl ?_)
 show wpAny _ _ (field (.ref it) 1>>=_) _ _ s
 refine wpAny_bind (wpAny_field hit rfl (x:=rawInt (i:Int)) rfl ?_)
 show wpAny _ _ (if(i:Int)<0 then _ else _) _ _ s
 rw[if_neg (by omega)]
 refine wpAny_bind (wpAny_specialOf hl.typeIs F.slot_tuple_getitem.lookup ?_)
 rw[if_neg (by simp)]
 refine wpAny_bind (wpAny_mkInt ?_)
 refine wpAny_bind (wpAny_attempt ?_)
 refine getItem_tuple (j:=i) (x:=x) hl (by omega) (by omega) (by unfold seqIndex?;simp;omega) hx ?_
 dsimp only
 refine wpAny_bind (wpAny_field (s:={s with toks:=_}) hit rfl (x:=rawInt (i:Int)) rfl ?_)
 show wpAny _ _ (setField (Value.ref it) 1 (rawInt ((i:Int)-1))>>=fun _=>ret x) _ _ _
 refine wpAny_bind (wpAny_setField_rec (s:={s with toks:=s.toks+1}) hit (by simp) fun h' e1 e2=>?_)
 exact wpAny_pure ⟨x,rfl,wpAny_pure (hQ h' (s.toks+1) (Nat.le_succ _) e1 e2)⟩
theorem wpAny_pyNext_rvt_end {it l:Addr}{Q:Option Value→Shared→Prop}(hh:A.handled=none)(hit:s.heap.IsRvt it l (-1))
  (hQ:∀h',Heap.ExtBut it s.heap h'→Q none {s with heap:=h'}):wpAny (model prog w) A (pyNext (.ref it)) Q E s:=by
 unfold pyNext
 refine wpAny_bind (wpAny_attempt (wpAny_callSpecial?_slot (name:=Str.ofString "__next__") hit.typeIs F.slot_rvt_next
  (wpAny_call_entry F.slot_rvt_next hit.typeIs F.entry_rvt_next ?_ (F.args_rvt_next _))))
 unfold Builtin.«reversed.__next__»
 refine wpAny_bind (wpAny_of_eq (a:=(Value.ref it,[])) rfl ?_)
 try dsimp only
 refine wpAny_bind (wpAny_field hit rfl (x:=.ref l) rfl ?_)
 show wpAny _ _ (field (.ref it) 1>>=_) _ _ s
 refine wpAny_bind (wpAny_field hit rfl (x:=rawInt (-1)) rfl ?_)
 show wpAny _ _ (if(-1:Int)<0 then _ else _) _ _ s
 rw[if_pos (by decide)]
 refine wpAny_bind (wpAny_rule ?_)
 refine wpAny_bind ?_
 show wpAny _ _ (setField (.ref it) 1 (rawInt (-1))>>=fun _=>setField (.ref it) 0 .none) _ _ _
 refine wpAny_bind (wpAny_setField_rec hit (by simp) fun h1 e1 f1=>?_)
 refine wpAny_setField_rec (s:={s with heap:=h1}) e1 (by simp) fun h2 e2 f2=>?_
 first
 |show wpAny _ _ (newExc (.type "StopIteration") []>>=_) _ _ _
 |(refine wpAny_bind ?_;show wpAny _ _ (newExc (.type "StopIteration") []>>=_) _ _ _)
 refine wpAny_bind ?_
 simp only[newExc,newTuple]
 refine wpAny_bind (wpAny_newObj_type ?_ (by size_fits))
 refine wpAny_bind (m:=firstArgMember _ _) (wpAny_of_eq (a:=Value.none) (by first|rfl|(simp only[firstArgMember];rfl)) ?_)
 refine wpAny_newObj_type ?_ (by size_fits)
 simp only[raiseNew]
 refine wpAny_bind (wpAny_handled ?_)
 first|rw[show A.in1.handled=none from hh]|rw[hh]
 refine wpAny_bind (wpAny_pure (wpAny_throw ?_))
 refine wpAny_bind (wpAny_isInstance (T:="StopIteration") (b:=true) ⟨_,Heap.get?_push_size _ rfl,rfl⟩ isSubtype_stop ?_)
 exact wpAny_pure (hQ _ (fun b o hb e=>Heap.get?_push_of_some _ (Heap.get?_push_of_some _ (f2.extBut b o hb (f1.extBut b o hb e)))))
theorem wpAny_pyIter_rvt {it l:Addr}{i:Int}{Q:Value→Shared→Prop}(hit:s.heap.IsRvt it l i)(h:Q (.ref it) s):wpAny (model prog w) A (pyIter (.ref it)) Q E s:=by
 refine wpAny_pyIter_slot hit.typeIs F.slot_rvt_iter (wpAny_call_entry F.slot_rvt_iter hit.typeIs F.entry_rvt_iter ?_ (F.args_rvt_iter _))
 show wpAny _ _ (ret (.ref it)) _ _ s
 exact wpAny_pure ⟨_,rfl,"reversed",_,hit.typeIs,F.slot_rvt_next.lookup,h⟩
theorem WalksS.rvt (hh:A.handled=none)(I l:Addr)(hne:l≠I)(xs:Array Value)(hz:(xs.size:Int)<2^63):
  WalksS prog w A I [I,l] [I] (fun a b=>a=b) xs.size (fun i v=>xs[xs.size-1-i]?=some v) (fun i s=>s.heap.IsRvt I l ((xs.size:Int)-1-(i:Int))∧IsTup s.heap l xs) where
 sub:=fun b hb=>by simp at hb;simp[hb]
 grefl:=fun _=>rfl
 gtrans:=fun _ _ _ a b=>a.trans b
 frame:=fun i s h' tk x _ hk=>⟨hk I (by simp) _ x.1,by obtain⟨o,ho,r⟩:=x.2;exact⟨o,hk l (by simp) _ ho,r⟩⟩
 item:=fun i s Q E hi x hQ=>by
  have e:(xs.size:Int)-1-(i:Int)=((xs.size-1-i:Nat):Int):=by omega
  have hit:=x.1
  rw[e]at hit
  have hx:xs[xs.size-1-i]?=some (xs[xs.size-1-i]'(by omega)):=Array.getElem?_eq_getElem (by omega)
  refine wpAny_pyNext_rvt_item hit x.2 hz hx fun h' tk ht hit' hs'=>?_
  have e2:((xs.size-1-i:Nat):Int)-1=(xs.size:Int)-1-((i+1:Nat):Int):=by omega
  rw[e2]at hit'
  refine hQ _ {s with heap:=h',toks:=tk} hx ⟨hit',x.2.extBut hs'.extBut hne⟩ ⟨fun b o hb eo=>hs'.extBut b o (fun h=>hb (by simp[h])) eo,rfl,rfl,rfl,ht⟩
 done:=fun s Q E x hQ=>by
  have e:(xs.size:Int)-1-(xs.size:Int)= -1:=by omega
  have hit:=x.1
  rw[e]at hit
  exact wpAny_pyNext_rvt_end hh hit fun h' he'=>hQ {s with heap:=h'} ⟨fun b o hb eo=>he' b o (fun h=>hb (by simp[h])) eo,rfl,rfl,rfl,Nat.le_refl _⟩
 self:=fun _ _ _ _ x hQ=>wpAny_pyIter_rvt x.1 hQ
end
end PySem
namespace PySem
open PyProof.Rows
section
variable {prog:Program}{w:World}{A:Around}{E:Value→Shared→Prop}{s:Shared}
theorem call_rvt_hint {it l:Addr}{i:Int}{xs:Array Value}{Q:Value→Shared→Prop}(hit:s.heap.IsRvt it l i)(hl:IsTup s.heap l xs)(hz:(xs.size:Int)<2^63)(hi:i+1≤xs.size)
  (hQ:∀u tk,s.toks≤tk→Q (.int (i+1) u) {s with toks:=tk}):wpAny (model prog w) A (call (.builtin "reversed.__length_hint__") [.ref it]) Q E s:=by
 refine wpAny_call_entry F.slot_rvt_hint hit.typeIs F.entry_rvt_hint ?_ (F.args_rvt_hint _)
 unfold Builtin.«reversed.__length_hint__»
 refine wpAny_bind (wpAny_of_eq (a:=Value.ref it) rfl ?_)
 refine wpAny_bind (wpAny_field hit rfl (x:=.ref l) rfl ?_)
 rw[if_neg (show ¬((Value.ref l==Value.none)=true) from Bool.false_ne_true)]
 refine wpAny_bind (len_tuple hl hz ?_)
 refine wpAny_bind (m:=asInt? (.int _ _)) (wpAny_pure ?_)
 dsimp only
 refine wpAny_bind (wpAny_field (s:={s with toks:=_}) hit rfl (x:=rawInt i) rfl ?_)
 show wpAny _ _ (if((xs.size:Nat):Int)<i+1 then _ else retInt (i+1)) _ _ _
 rw[if_neg (by omega)]
 refine wpAny_bind (wpAny_mkInt (wpAny_pure ⟨_,rfl,?_⟩))
 exact hQ _ _ (by show s.toks≤s.toks+1+1+1;omega)
end
section
variable {prog:Program}{w:World}{A:Around}{s:Shared}{R:Result→Shared→Prop}
theorem wpAny_extend_rvt (hh:A.handled=none)(S I l:Addr)(res:Value)(c₀:Nat){xs:Array Value}(hn:xs.size≤sizeLine)(hlI:l≠I)(hSI:S≠I)(hSl:S≠l)(hit:s.heap.IsRvt I l ((xs.size:Int)-1))(hl:IsTup s.heap l xs)
  (hS:s.heap.get? S=some {cls:=.type "list",data:=.seq #[] c₀})
  (hR:∀s' acc' c',Moved [S,I] (fun a b=>a=b) s s'→s'.heap.get? S=some {cls:=.type "list",dict:=none,data:=.seq acc' c',slots:=#[]}→ItemsOf (fun i v=>xs[xs.size-1-i]?=some v) acc' xs.size→R (.ok (.ret res)) s'):
  wpAny (model prog w) A.in1 (Builtin.List.listExtendWith (.ref S) (.ref I) res)
   (fun fin s'=>match fin with|.done f=>R (.ok f) s'|.again c'=>c'.quiet=true∧codeAny (model prog w) A c' R s') (fun e s'=>R (.error e) s') s:=by
 have l63:=L2.line63
 have hz:(xs.size:Int)<2^63:=by omega
 have W:=WalksS.rvt (prog:=prog) (w:=w) (A:=A.in1) hh I l hlI xs hz
 have hSf:S∉[I,l]:=by simp[hSI,hSl]
 unfold Builtin.List.listExtendWith
 refine wpAny_bind (wpAny_typeOf hit.typeIs ?_)
 have h1:Builtin.List.listSameRef (.ref S) (.ref I)=false:=by simp[Builtin.List.listSameRef,hSI]
 have h2:(Value.type "reversed"==Value.type "list")=false:=by decide
 have h3:(Value.type "reversed"==Value.type "tuple")=false:=by decide
 simp only[h1,h2,h3,Bool.or_false,Bool.false_eq_true,if_false]
 refine wpAny_bind (wpAny_pyIter_rvt hit ?_)
 refine wpAny_bind (wpAny_holding ?_)
 unfold Builtin.List.listLengthHint
 refine wpAny_bind (wpAny_specialOf hit.typeIs F.nolen_rvt ?_)
 show wpAny _ A.in1 (specialOf (Value.ref I) (Str.ofString "__length_hint__")>>=_) _ _ _
 refine wpAny_bind (wpAny_specialOf hit.typeIs F.slot_rvt_hint.lookup ?_)
 (generalize hid:("reversed.__length_hint__":String)=id0;(fail_if_success (clear hid id0));wp_delta;rw[show splitId id0=some ("reversed","__length_hint__") from by subst hid;decide+kernel];subst hid)
 refine wpAny_bind (wpAny_isInstance (b:=true) hit.typeIs (by rw[isSubtype_type];kernel_rfl) ?_)
 rw[if_neg (by decide)]
 dsimp only
 rw[if_neg (by decide+kernel)]
 refine wpAny_bind (wpAny_rule ?_)
 refine wpAny_bind (wpAny_of_eq (F.slot_rvt_hint.bind _) ?_)
 dsimp only
 refine wpAny_bind (wpAny_attempt (call_rvt_hint hit hl hz (by omega) fun u tk htk=>?_))
 dsimp only
 refine wpAny_bind (m:=asInt? (.int _ _)) (wpAny_pure ?_)
 dsimp only
 have ei:((xs.size:Int)-1+1)=xs.size:=by omega
 rw[ei]
 have f1:Builtin.List.listFitsIndex (xs.size:Int)=true:=by unfold Builtin.List.listFitsIndex;simp;exact hz
 have f2:Builtin.List.listTooLong (xs.size:Int).toNat=false:=by unfold Builtin.List.listTooLong;simp;exact hn
 rw[if_neg (by rw[f1];decide),if_neg (by omega),if_neg (by rw[f2];decide)]
 refine wpAny_pure ?_
 have hit':Heap.IsRvt ({s with toks:=tk}:Shared).heap I l ((xs.size:Int)-1):=hit
 have key:∀(h':Heap) (c₁:Nat),h'.get? S=some {cls:=.type "list",data:=.seq #[] c₁}→(∀b o,b≠S→s.heap.get? b=some o→h'.get? b=some o)→
   codeAny (model prog w) A (.builtin "list.extend.loop" ⟨[.ref S, .ref I,res],[]⟩) R {s with heap:=h',toks:=tk}:=fun h' c₁ hS' kp=>by
  have st:(fun(i:Nat) (s:Shared)=>s.heap.IsRvt I l ((xs.size:Int)-1-(i:Int))∧IsTup s.heap l xs) 0 {s with heap:=h',toks:=tk}:=by
   refine⟨?_,?_⟩
   ·have e:(xs.size:Int)-1-((0:Nat):Int)=(xs.size:Int)-1:=by omega
    show Heap.IsRvt h' I l ((xs.size:Int)-1-((0:Nat):Int))
    rw[e]
    exact kp I _ (Ne.symm hSI) hit
   ·obtain⟨o,ho,r⟩:=hl
    exact⟨o,kp l _ (Ne.symm hSl) ho,r⟩
  refine codeAny_extend_loopS W hn S hSf res xs.size 0 _ #[] c₁ rfl (Nat.zero_le _) st hS' (ItemsOf.nil _) fun s' acc' c' hm hS'' hacc=>?_
  exact hR s' acc' c' ⟨fun b o hb e=>hm.heap b o hb (kp b o (fun z=>hb (by simp[z])) e),hm.gens,hm.drawn,hm.os,Nat.le_trans htk hm.toks⟩ hS'' hacc
 split
 ·refine wpAny_bind (wpAny_rule ?_)
  refine wpAny_bind ?_
  show wpAny _ A.in1 (updateSeq S (·.push .none)>>=fun _=>updateSeq S (·.pop)) _ _ _
  clear l63 hz f1 f2 ei hn
  refine wpAny_bind (wpAny_updateSeq (s:={s with toks:=tk}) hS rfl ?_)
  have hS₂:=Heap.get?_update_self (Obj.mapSeq (·.push Value.none)) hS rfl
  refine wpAny_updateSeq (hz:=by seq_fits) hS₂ rfl ?_
  have hS₃:=Heap.get?_update_self (Obj.mapSeq (·.pop)) hS₂ rfl
  exact wpAny_pure ⟨plainId_quiet F.plain_extend_loop _,key _ _ hS₃ fun b o hb e=>(Heap.get?_update_other _ _ (Ne.symm hb)).trans ((Heap.get?_update_other _ _ (Ne.symm hb)).trans e)⟩
 ·exact wpAny_pure ⟨plainId_quiet F.plain_extend_loop _,key _ _ hS fun b o _ e=>e⟩
theorem wpAny_list_init_rvt (hh:A.handled=none)(S I l:Addr){xs:Array Value}(hn:xs.size≤sizeLine)(hlI:l≠I)(hSI:S≠I)(hSl:S≠l)(hit:s.heap.IsRvt I l ((xs.size:Int)-1))(hl:IsTup s.heap l xs)
  (hS:s.heap.get? S=some {cls:=.type "list",data:=.seq #[]})
  (hR:∀s' acc' c',Moved [S,I] (fun a b=>a=b) s s'→s'.heap.get? S=some {cls:=.type "list",dict:=none,data:=.seq acc' c',slots:=#[]}→ItemsOf (fun i v=>xs[xs.size-1-i]?=some v) acc' xs.size→R (.ok (.ret .none)) s'):
  wpAny (model prog w) A.in1 (Builtin.«list.__init__» ⟨[.ref S, .ref I],[]⟩)
   (fun fin s'=>match fin with|.done f=>R (.ok f) s'|.again c'=>c'.quiet=true∧codeAny (model prog w) A c' R s') (fun e s'=>R (.error e) s') s:=by
 show wpAny _ A.in1 (do let old ←Builtin.List.listItems (.ref S);Builtin.List.listUpdate (.ref S) (fun _=>#[]);letGo old.toList.reverse;Builtin.List.listExtendWith (.ref S) (.ref I) .none) _ _ s
 refine wpAny_bind ?_
 unfold Builtin.List.listItems
 refine wpAny_bind (wpAny_seqItems hS rfl (wpAny_pure ?_))
 show wpAny _ A.in1 (updateSeq S (fun _=>#[])>>=fun _=>letGo (#[]:Array Value).toList.reverse>>=fun _=>Builtin.List.listExtendWith (.ref S) (.ref I) .none) _ _ s
 refine wpAny_bind (wpAny_updateSeq hS rfl ?_)
 have hS₂:=Heap.get?_update_self (Obj.mapSeq (fun _=>(#[]:Array Value))) hS rfl
 have oth:∀b o,b≠S→s.heap.get? b=some o→(s.heap.update S (Obj.mapSeq (fun _=>(#[]:Array Value)))).get? b=some o :=
  fun b o hb e=>(Heap.get?_update_other _ _ (Ne.symm hb)).trans e
 refine wpAny_bind (wpAny_letGo ?_)
 refine wpAny_extend_rvt hh S I l .none _ hn hlI hSI hSl (oth _ _ (Ne.symm hSI) hit) (by obtain⟨o,ho,r⟩:=hl;exact⟨o,oth _ _ (Ne.symm hSl) ho,r⟩) hS₂ fun s' acc' c' hm hS' hacc=>?_
 exact hR s' acc' c' ⟨fun b o hb e=>hm.heap b o hb (oth b o (fun z=>hb (by simp[z])) e),hm.gens,hm.drawn,hm.os,hm.toks⟩ hS' hacc
end
section
variable {prog:Program}{w:World}{A:Around}{E:Value→Shared→Prop}{s:Shared}
theorem call_list_rvt {Q:Value→Shared→Prop}(hh:A.handled=none)(I l:Addr){xs:Array Value}(hn:xs.size≤sizeLine)(hlI:l≠I)(hit:s.heap.IsRvt I l ((xs.size:Int)-1))(hl:IsTup s.heap l xs)
  (hQ:∀s' acc' c',Moved [s.heap.objs.size,I] (fun a b=>a=b) s s'→s'.heap.get? s.heap.objs.size=some {cls:=.type "list",dict:=none,data:=.seq acc' c',slots:=#[]}→ItemsOf (fun i v=>xs[xs.size-1-i]?=some v) acc' xs.size→Q (.ref s.heap.objs.size) s'):
  wpAny (model prog w) A (call (.type "list") [.ref I]) Q E s:=by
 refine callType_codes (Q₁:=fun obj s₁=>obj=.ref s.heap.objs.size∧s₁={s with heap:=s.heap.push {cls:=.type "list",data:=.seq #[]}}) F.called_list (F.typeCall_list_1 _) F.entry_list_init
  (code_list_new _ ⟨rfl,rfl⟩) fun obj s₁ h₁=>?_
 obtain⟨rfl,rfl⟩:=h₁
 have hS:(s.heap.push {cls:=.type "list",data:=.seq #[]}).get? s.heap.objs.size=some {cls:=.type "list",data:=.seq #[]}:=Heap.get?_push_size _ rfl
 have hSI:s.heap.objs.size≠I:=fun e=>Nat.lt_irrefl _ (by have:=Heap.lt_size hit;rw[←e]at this;exact this)
 have hSl:s.heap.objs.size≠l:=fun e=>by
  obtain⟨o,ho,_⟩:=hl
  have:=Heap.lt_size ho
  rw[←e]at this
  exact Nat.lt_irrefl _ this
 refine⟨⟨_,hS,rfl⟩,F.args_list_init_2 _ _,wpAny_list_init_rvt (A:=A.in1) (s:={s with heap:=s.heap.push {cls:=.type "list",data:=.seq #[]}}) hh _ I l hn hlI hSI hSl (Heap.get?_push_of_some _ hit) (hl.push _) hS fun s' acc' c' hm hS' hacc=>?_⟩
 exact⟨rfl,hQ s' acc' c' ⟨fun b o hb e=>hm.heap b o hb (Heap.get?_push_of_some _ e),hm.gens,hm.drawn,hm.os,hm.toks⟩ hS' hacc⟩
end
end PySem
namespace L2
open PySem PySem.Spec PyProof.Rows
section
variable {X:Cx}
theorem boot_rev:bootBuiltins "reversed"=some (.type "reversed"):=PyProof.Rows.boot_reversed
def tListRev (K:PySem.W.Frag)(te:TE):TE:=fun σ H Q=>te σ H fun x H1=>∃a xs,x=.ref a∧SqT K H1 a xs∧∀l,H1 l=none→Q (.ref l) (upd H1 l (.lst xs.reverse))
theorem Vals.of_get:∀{xs:List V} {us:List Value},xs.length=us.length→(∀(i:Nat) (x:V) (u:Value),xs[i]?=some x→us[i]?=some u→RelV x u)→Vals xs us
 |[],[],_,_=>.nil
 |[],_::_,h,_=>by simp at h
 |_::_,[],h,_=>by simp at h
 |x::xs,u::us,h,g=>.cons (g 0 x u rfl rfl) (Vals.of_get (by simpa using h) fun i a b e f=>g (i+1) a b (by simpa using e) (by simpa using f))
theorem pe_listRev {e:Expr}{te:TE}{p pos p2 pos2:Pos}(hc:X.calm=true)(hgl:Gl X "list")(hml:X.mg "list"=none)(hgr:Gl X "reversed")(hmr:X.mg "reversed"=none)(he:PE X e te)
  (hs1:starEach [Expr.Call (.Name "reversed" p2) [e] [] pos2] X.env=[(false,eval (Expr.Call (.Name "reversed" p2) [e] [] pos2) X.env)]:=by rfl) (hs2:starEach [e] X.env=[(false,eval e X.env)]:=by rfl):
  PE X (.Call (.Name "list" p) [.Call (.Name "reversed" p2) [e] [] pos2] [] pos) (tListRev X.K te):=by
 intro pins s σ H Q I h
 refine wpAny_Call_Name_kw (ld_blt I hgl hml boot_list ?_ (by decide) (by decide))
 refine PyProof.Rows.callWith_type1 ?_ hs1 rfl
 rw[hs1]
 refine Calls.spliced_cons ?_
 refine wpAny_Call_Name_kw (ld_blt I hgr hmr boot_rev ?_ (by decide) (by decide))
 refine PyProof.Rows.callWith_type1 ?_ hs2 rfl
 rw[hs2]
 refine Calls.spliced_cons (thn (he pins s σ H _ I h) fun u s1 ⟨x,H1,I1,r1,q1⟩=>?_)
 refine Calls.spliced_nil ?_
 obtain⟨a,xs,rfl,hq,q⟩:=q1
 cases r1
 obtain⟨its,rv,pt,hz⟩:=I1.tuple hq
 have hlen:=rv.length
 have h63:=line63
 refine call_reversed_tuple pt (by simp;omega) ?_
 refine Calls.spliced_nil ?_
 have ha:a<s1.heap.objs.size:=by obtain⟨o,ho,_⟩:=pt;exact Heap.lt_size ho
 refine call_list_rvt (I1.ok.hd hc) s1.heap.objs.size a (xs:=its.toArray) (by simp;omega) (Nat.ne_of_lt ha) (Heap.get?_push_size _ rfl) (pt.push _) fun s' acc c hm hS hacc=>?_
 obtain⟨h',g',d',t',o'⟩:=s'
 have eg:s1.gens=g':=hm.gens
 have ed:d'=s1.drawn:=hm.drawn
 have eo:o'=s1.os:=hm.os
 subst eg ed eo
 have sz:(s1.heap.push (rvtObj a (((its.toArray).size:Int)-1))).objs.size=s1.heap.objs.size+1:=Heap.size_push ..
 have kp:∀b o,s1.heap.get? b=some o→h'.get? b=some o:=fun b o e=>by
  have hb:=Heap.lt_size e
  refine hm.heap b o ?_ (Heap.get?_push_of_some _ e)
  simp only[List.mem_cons,List.not_mem_nil,or_false,not_or]
  exact⟨Nat.ne_of_lt (Nat.lt_of_lt_of_le hb (Nat.le_of_lt (by rw[sz];exact Nat.lt_succ_self _))),Nat.ne_of_lt hb⟩
 have va:Vals xs.reverse acc.toList:=by
  refine Vals.of_get (by rw[List.length_reverse,hlen];have:=hacc.1;simp at this;simp[this]) fun i x u e f=>?_
  have hi:i<xs.length:=by have:=(List.getElem?_eq_some_iff.mp e).1;simpa using this
  rw[List.getElem?_reverse hi]at e
  have f':acc[i]?=some u:=by simpa using f
  have g:=hacc.2 i u f'
  have g':its[xs.length-1-i]?=some u:=by
   have:its.toArray[its.toArray.size-1-i]?=some u:=g
   simp only[List.size_toArray,List.getElem?_toArray]at this
   rw[hlen];exact this
  obtain⟨u',hu',ru⟩:=rv.get e
  rw[g']at hu'
  cases hu'
  exact ru
 have ea:acc.toList.toArray=acc:=by simp
 refine⟨.ref _,_,I1.laid (t':=t') kp (a:=(s1.heap.push (rvtObj a (((its.toArray).size:Int)-1))).objs.size) (by rw[sz];exact Nat.le_succ _) (show ObjOk X.prog X.w _ h' _ (.lst xs.reverse) from⟨by simpa using hz,acc.toList,c,va,by rw[ea];exact hS⟩),rfl,q _ (I1.hok.fresh (by rw[sz];exact Nat.le_succ _))⟩
end
open PySem PySem.Spec PyProof.Rows PySem.W
inductive r_call_list_d (xs:List V)(H:Hp)(Q:VK):Prop where
 |mk (a) (kvs):(xs=[V.ref a])→(H a=some (.dK kvs))→(∀l,H l=none→Q (.ref l) (upd H l (.lst (kvs.map fun kv=>kV kv.1))))→r_call_list_d xs H Q
end L2
namespace PySem
open PyProof.Rows
section
variable {prog:Program}{w:World}{A:Around}{E:Value→Shared→Prop}{s:Shared}
end
end PySem
namespace L2
open PySem PySem.Spec PyProof.Rows PySem.W
theorem op_inD {X:Cx}(hu:X.A.units+1<cLine):OpR X (compareOp .In) (fun x y H Q=>∃a o,y=V.ref a∧DGet H a x o∧Q (.bl o.isSome) H):=by
 intro pins s σ H x y v u Q I rx ry h
 obtain⟨a,o,rfl,g,q⟩:=h
 cases ry
 exact d_in hu I g rx fun s' I'=>⟨.bl o.isSome,H,I',rfl,q⟩
theorem op_notInD {X:Cx}(hu:X.A.units+1<cLine):OpR X (compareOp .NotIn) (fun x y H Q=>∃a o,y=V.ref a∧DGet H a x o∧Q (.bl (!o.isSome)) H):=by
 intro pins s σ H x y v u Q I rx ry h
 obtain⟨a,o,rfl,g,q⟩:=h
 cases ry
 exact d_notIn hu I g rx fun s' I'=>⟨.bl (!o.isSome),H,I',rfl,q⟩
open PySem PySem.Spec PyProof.Rows
theorem ps_lcompM {X:Cx}{elt iter tg:Expr}{M:List Str}{g gy:TG}{y:Str}{py pos pos0:Pos}{ifs:List Expr}{scope:Scope}{frees:List Str}{idx:List Nat}{wi:TI}{tt:TT}{te:TE}
  (hc:X.calm=true) (S:CompScopeM X frees idx scope) (hfl:∀y∈frees,scope.names.lookup y=some .free) (hi:PI X tg iter wi) (hgy:PG X (.Name y py) gy) (hg:∀C s₀ H₀ ex,PG (cxComp X (M++frees) scope C s₀ H₀ ex) tg g)
  (ht:∀C s₀ H₀ ex,PTs (cxComp X (M++frees) scope C s₀ H₀ ex) ifs tt) (he:∀C s₀ H₀ ex,PE (cxComp X (M++frees) scope C s₀ H₀ ex) elt te)
  (hsw:swapsWith (.ListComp elt [⟨tg,iter,ifs,0⟩] scope pos) (some (.Name y py)) pos0.line X.env=pure true)
  (hs:∀v,foldedSetIterable iter X.env v=pure v:=by intro _;rfl):PS X (.Assign [.Name y py] (.ListComp elt [⟨tg,iter,ifs,0⟩] scope pos) pos0) (tAsg (tCompM M.length idx wi g tt te) gy):=by
 intro pins s σ H D I h
 rw[exec_Assign_Name_used _ _ _ _ hsw]
 refine wpAny_bind (wpAny_standAt ?_)
 refine wpAny_bind ?_
 show wpAny _ _ (comprehension (.ListComp elt [⟨tg,iter,ifs,0⟩] scope pos) scope X.env _ (newList []) _ _ (some (assign (.Name y py) X.env))>>=fun _=>pure ()) _ _ s
 refine wpAny_bind (wpAny_mono (Q:=fun _ s'=>∃σ' H',Inv X pins σ' H' s'∧D.nx σ' H') ?_ (fun _ s' h'=>wpAny_pure (wpAny_pure h')) fun _ _ h'=>h')
 refine comp_core (M:=M) (g:=g) (XE:=noX) (use:=some (assign (.Name y py) X.env)) (Q':=fun _ s'=>∃σ' H',Inv X pins σ' H' s'∧D.nx σ' H') (qt:=Calm) (fun _ _ _ _=>hc) S hfl hi (fun C s₀ H₀ ex=>by rw[cxE_no];exact hg C s₀ H₀ ex) (fun C s₀ H₀ ex=>by rw[cxE_no];exact ht C s₀ H₀ ex) (fun C s₀ H₀ ex=>by rw[cxE_no];exact he C s₀ H₀ ex) hs I h (fun _ _ _ _ _ _ _ _ _ _ _ (z:False)=>z.elim) fun Dd C H' m4 s4 hn4 hJ HC nC nfC szC celC pinC q=>?_
 show wpAny _ _ (assign (.Name y py) X.env (.ref Dd)) _ _ s4
 have I5:=hJ s4.heap ⟨rfl,fun _ _=>rfl⟩
 obtain⟨oC,es,ep,gC,rC⟩:=id hn4
 have IPn:Inv X (pins++[(C,oC)]) σ H' s4:=I5.pins_of fun p hp=>(List.mem_append.mp hp).elim (fun z=>I5.pin p (List.mem_append_right _ z)) fun z=>by
  have z':p=(C,oC):=by simpa using z
  subst z'
  exact⟨gC,HC,nC,nfC,fun v q=>by have q2:oC.data=.cell v:=q;have q3:=rC.1;rw[q2]at q3;cases q3⟩
 refine thn (hgy _ s4 σ _ (.ref Dd) _ _ IPn rfl q) fun _ s6 ⟨σ6,H6,I6,q6⟩=>?_
 have pC:=I6.pin (C,oC) (List.mem_append_right _ (List.mem_append_right _ (List.mem_singleton.mpr rfl)))
 exact⟨m4,hn4.at' (fun o e=>by rw[gC]at e;cases e;exact pC.1),fun h'' sb=>⟨σ6,H6,I6.unpinned.turned (t':=s6.toks) (fun b o hb e=>(sb.2 b hb).trans e) pC.2.1 nC (.inr szC) celC pinC,q6⟩⟩
theorem ps_lcomp {X:Cx}{elt iter:Expr}{x y:Str}{px py pos pos0:Pos}{ifs:List Expr}{scope:Scope}{frees:List Str}{idx:List Nat}{wi:TI}{tt:TT}{te:TE}{g:TG}
  (hc:X.calm=true) (S:CompScope X x frees idx scope) (hfl:∀y∈frees,scope.names.lookup y=some .free) (hi:PI X (.Name x px) iter wi) (hgy:PG X (.Name y py) g)
  (ht:∀C s₀ H₀ ex,PTs (cxComp X (x::frees) scope C s₀ H₀ ex) ifs tt) (he:∀C s₀ H₀ ex,PE (cxComp X (x::frees) scope C s₀ H₀ ex) elt te)
  (hsw:swapsWith (.ListComp elt [⟨.Name x px,iter,ifs,0⟩] scope pos) (some (.Name y py)) pos0.line X.env=pure true)
  (hs:∀v,foldedSetIterable iter X.env v=pure v:=by intro _;rfl):PS X (.Assign [.Name y py] (.ListComp elt [⟨.Name x px,iter,ifs,0⟩] scope pos) pos0) (tAsg (tComp idx wi tt te) g):=by
 have h:=ps_lcompM (M:=[x]) (g:=gName 0) hc ⟨S.kind,S.nocell,S.loc,S.fr,S.ix,S.len,S.cl⟩ hfl hi hgy (fun C s₀ H₀ ex=>pg_name (i:=0) S.nd rfl (.inl (lookup_relabel_local S.tgt)) (.inr (lookup_relabel_local S.tgt))) ht he hsw hs
 exact tComp_M ▸ h
theorem ps_lc {X:Cx}{elt iter:Expr}{x y:Str}{px py pos pos0:Pos}{ifs:List Expr}{scope:Scope}{wi:TI}{tt:TT}{te:TE}{g:TG}(osc:Scope)(N:List Str)(frees:List Str)(idx:List Nat)
  (hk:compOk osc N x frees idx scope=true) (hi:PI X (.Name x px) iter wi) (hgy:PG X (.Name y py) g)
  (ht:∀C s₀ H₀ ex,PTs (cxComp X (x::frees) scope C s₀ H₀ ex) ifs tt) (he:∀C s₀ H₀ ex,PE (cxComp X (x::frees) scope C s₀ H₀ ex) elt te)
  (hsw:swapsWith (.ListComp elt [⟨.Name x px,iter,ifs,0⟩] scope pos) (some (.Name y py)) pos0.line X.env=pure true)
  (ho:X.env.scope=osc:=by rfl) (hN:X.N=N:=by rfl) (hc:X.calm=true:=by rfl) (hs:∀v,foldedSetIterable iter X.env v=pure v:=by intro _;rfl):
  PS X (.Assign [.Name y py] (.ListComp elt [⟨.Name x px,iter,ifs,0⟩] scope pos) pos0) (tAsg (tComp idx wi tt te) g):=by
 obtain⟨S,fl⟩:=compOk_scope (X:=X) hk ho hN
 exact ps_lcomp hc S fl hi hgy ht he hsw hs
section
variable {X:Cx}{st:Stmt}{rest:List Stmt}{t u:TS}
inductive tRep_ (y z:Str)(Q:VK)(x:V)(H1:Hp):Prop where
 |mk (w:Str):x=.str w→w.length+(w.length+1)*z.length≤16777216→Q (.str (Txt.replace w y z)) H1→tRep_ y z Q x H1
end
section
variable {X:Cx}{CX:CXT}{k:Nat}{f C:Addr}{fd:FuncData}{ps:List Str}{sp:Sp}{dvs:List V}{ds:List Value}{E:XK}{x m:Str}{p pos apos:Pos}{e o:Expr}{es:List Expr}{ta:TE}{t:TA}
end
section
variable {X:Cx}{tg:Expr}
end
section
variable {P:Program}{w:World}{K:PySem.W.Frag}{mg:Str→Option Value}{base:Heap}
end
section
variable {X:Cx}{x:Str}{p pos:Pos}{e a b:Expr}{es:List Expr}{t:TA}{ta tb:TE}
end
section
variable {X:Cx}{o e:Expr}{es:List Expr}{to:TE}{t:TA}
theorem strsAre_of:∀{zs:List Str} {us:List Value},Vals (zs.map V.str) us→StrsAre us zs
 |[],_, .nil=>.nil
 |_::_,_, .cons r q=>by
  obtain⟨t,rfl⟩:=r
  exact .cons _ t (strsAre_of q)
theorem mt_join:MtR X "str.join" (fun x xs H Q=>∃(y:Str) (l:Addr) (zs:List Str),x=.str y∧xs=[.ref l]∧H l=some (.lst (zs.map V.str))∧(zs.map (·.length)).sum+zs.length*y.length≤16000000∧Q (.str (Txt.join y zs)) H):=by
 intro pins s σ H x xs v us Q I rx rs h
 obtain⟨y,l,zs,rfl,rfl,hl,hb,q⟩:=h
 obtain⟨t,rfl⟩:=rx
 obtain⟨u,rfl,ru⟩:=vals1 rs
 cases ru
 obtain⟨z1,its1,n1,v1,p1⟩:=I.hok l _ hl
 exact join_list ⟨_,p1,rfl,_,rfl⟩ (strsAre_of v1) (by omega) fun t' k=>⟨.str _,H,I.tok _,⟨_,rfl⟩,q⟩
end
inductive tFs_ (a:Str)(Q:VK)(x:V)(H1:Hp):Prop where
 |mk (z:Str):x=.str z→a.length+z.length≤1000000→Q (.str (a++z)) H1→tFs_ a Q x H1
def tFs (a:Str)(te:TE):TE:=fun σ H Q=>te σ H (tFs_ a Q)
theorem pe_fs {X:Cx}{e:Expr}{te:TE}{a:Str}{j p1 p2 pos}(he:PE X e te)(hev:evalEach [.Constant (.str a) j p1, .FormattedValue e (-1) none p2] X.env=[eval (.Constant (.str a) j p1) X.env,eval (.FormattedValue e (-1) none p2) X.env]:=by rfl)(ha:a.length≤1000000:=by decide+kernel):
  PE X (.JoinedStr [.Constant (.str a) j p1, .FormattedValue e (-1) none p2] pos) (tFs a te):=by
 intro pins s σ H Q I h
 refine PyProof.Rows.JoinedStr_many ?_
 have el:∀x y:Str,(x++y).length=x.length+y.length:=fun x y=>strLen_append x y
 refine PyProof.Rows.joinParts_cons (Calls.Constant_str ⟨?_,?_⟩)
 ·rw[el]
  exact Nat.le_trans (show 0+a.length≤1000000 by omega) (by decide)
 refine PyProof.Rows.joinParts_cons (PyProof.Rows.FormattedValue_plain (thn (he pins _ σ H _ (I.tok _) h) fun v s1 ⟨x,H1,I1,r1,q1⟩=>?_))
 obtain⟨z,rfl,hl,q⟩:=q1
 obtain⟨t,rfl⟩:=r1
 have e0:(Str.empty++a:Str)=a:=by
  cases a
  show Str.mk (#[]++_)=_
  simp
 have hz:(Str.empty++a++z).length≤sizeLine:=by
  rw[e0,el]
  exact Nat.le_trans hl (by decide)
 refine PyProof.Rows.formatField_str (fun t' tk=>⟨hz,?_⟩) (Nat.le_trans (show z.length≤1000000 by omega) (by decide))
 refine PyProof.Rows.joinParts_nil ?_ hz
 rw[e0]
 exact⟨.str (a++z),H1,(I1.tok tk).tok _,⟨_,rfl⟩,q⟩
section
variable {X:Cx}
theorem catT (K:PySem.W.Frag)(h:X.K=K:=by rfl):OpR X (binaryOp .Add) (rCatT K):=h ▸ op_catT
theorem slT (K:PySem.W.Frag)(h:X.K=K:=by rfl):SlR X (rSlT K):=h ▸ sl_tup
end
section
variable {prog:Program}{w:World}{A:Around}{E:Value→Shared→Prop}{s:Shared}
theorem getItem_tuple_whole {t sl:Addr}{items:Array Value}{vl vu:Value}{lo hi:Option Int}{Q:Value→Shared→Prop}(ht:IsTup s.heap t items)(hs:s.heap.IsSliceOf sl vl vu .none)(pl:IsPart vl lo)(pu:IsPart vu hi)
  (h1:HT.sIx items.size 0 lo=0) (h2:HT.sIx items.size items.size hi=items.size) (h:Q (.ref t) s):wpAny (model prog w) A (getItem (.ref t) (.ref sl)) Q E s:=by
 obtain⟨os,hos,hcs,hds⟩:=id hs
 have hTs:s.TypeIs (.ref sl) "slice":=⟨os,hos,hcs⟩
 unfold getItem
 try with_reducible refine wpAny_holding ?_
 first|refine wpAny_bind (wpAny_pure ?_)|skip
 refine wpAny_bind (wpAny_sequenceKey ht.typeIs (by decide) ?_)
 refine wpAny_bind (wpAny_callSpecial?_slot (name:=Str.ofString "__getitem__") ht.typeIs PyProof.Rows.slot_tuple_getitem
  (wpAny_call_entry PyProof.Rows.slot_tuple_getitem ht.typeIs entry_tuple_getitem ?_ (args_tuple_getitem _ _)))
 show wpAny _ _ (Builtin.Tuple.tupleItemsOf (.ref t)>>=_) _ _ s
 refine wpAny_bind (tupleItemsOf_ ht ?_)
 refine wpAny_bind (wpAny_typeOf hTs ?_)
 rw[if_pos (by decide)]
 refine wpAny_bind (HT.sliceApplied_gen hs pl pu ?_)
 have hyes:(((HT.sIx items.size 0 lo:Nat):Int)==0&&(1:Int)==1&&(HT.sIx items.size items.size hi-HT.sIx items.size 0 lo)==items.size)=true:=by
  rw[h1,h2]
  simp
 show wpAny _ _ (if(((HT.sIx items.size 0 lo:Nat):Int)==0&&(1:Int)==1&&(HT.sIx items.size items.size hi-HT.sIx items.size 0 lo)==items.size)=true then _ else _) _ _ s
 rw[if_pos hyes]
 refine wpAny_bind (m:=Builtin.Tuple.tupleIsExact _) (wpAny_bind (wpAny_typeOf ht.typeIs (wpAny_pure ?_)))
 show wpAny _ _ (if _ then _ else _) _ _ s
 rw[if_pos (by decide)]
 refine wpAny_bind (wpAny_rule ?_)
 first
  |exact wpAny_pure ⟨_,rfl,wpAny_pure h⟩
  |exact wpAny_bind (wpAny_pure (wpAny_pure ⟨_,rfl,wpAny_pure h⟩))
end
section
variable {X:Cx}
inductive rSlW_ (K:PySem.W.Frag)(x:V)(lo:Option Int)(hi:Option Int)(H:Hp)(Q:VK):Prop where
 |mk (a) (xs):(x=.ref a)→(SqT K H a xs)→(HT.sIx xs.length 0 lo=0)→(HT.sIx xs.length xs.length hi=xs.length)→(Q (.ref a) H)→rSlW_ K x lo hi H Q
def rSlW (K:PySem.W.Frag):V→Option Int→Option Int→Hp→VK→Prop:=rSlW_ K
theorem sl_whole:SlR X (rSlW X.K):=by
 intro pins s σ H x v vl vu lo hi sl Q I rx hs pl pu h
 obtain⟨a,xs,rfl,hx,h1,h2,q⟩:=h
 cases rx
 obtain⟨its,r,ht,hz⟩:=I.tuple hx
 have hlen:its.toArray.size=xs.length:=by rw[List.size_toArray];exact r.length.symm
 refine⟨"tuple",_,PyProof.Rows.slot_tuple_getitem.lookup,ht.typeIs,?_⟩
 exact getItem_tuple_whole ht hs pl pu (by rw[hlen];exact h1) (by rw[hlen];exact h2) ⟨.ref _,_,I,rfl,q⟩
theorem slW (K:PySem.W.Frag)(h:X.K=K:=by rfl):SlR X (rSlW K):=h ▸ sl_whole
end
theorem HT.cat_tup0 {prog:Program}{w:World}{A:Around}{E:Value→Shared→Prop}{s:Shared}{t b:Addr}{ws:List Value}{Q:Value→Shared→Prop}(ht:IsTup s.heap t [].toArray)(hb:IsTup s.heap b ws.toArray)
  (h1:Q (.ref b) s):wpAny (model prog w) A (binaryOp .Add (.ref t) (.ref b)) Q E s:=by
 obtain⟨⟨cls,dd,data,sl⟩,ho,hc,n,hd⟩:=id ht
 obtain⟨⟨cls2,dd2,data2,sl2⟩,ho2,hc2,n2,hd2⟩:=id hb
 simp only at hc hd hc2 hd2
 subst hc hd hc2 hd2
 exact concat_meets ⟨_,ho,rfl⟩ ⟨_,ho2,rfl⟩ noFill_tuple_add seq_tuple_add PySem.F.slot_tuple_add PySem.F.entry_tuple_add (PySem.F.args_tuple_add_2 _ _)
   (tuple_addW0 t b _ ws.toArray n n2 dd dd2 sl sl2 rfl) ⟨ho,ho2,h1⟩
theorem catT0 (K:PySem.W.Frag){X:Cx}(h:X.K=K:=by rfl):OpR X (binaryOp .Add) (fun x y H Q=>∃a b ys,x=.ref a∧y=.ref b∧SqT K H a []∧SqT K H b ys∧Q (.ref b) H):=by
 intro pins s σ H x y v u Q I rx ry q
 subst h
 obtain⟨a,b,ys,rfl,rfl,ha,hb,q⟩:=q
 cases rx
 cases ry
 obtain⟨its,r1,p1,_⟩:=I.tuple ha
 obtain⟨its2,r2,p2,_⟩:=I.tuple hb
 cases r1
 exact HT.cat_tup0 p1 p2 ⟨.ref b,H,I,rfl,q⟩
end L2
namespace Fw
open PySem PySem.Spec PyProof.Rows L2
def top (i:Nat):Stmt:=PySem.Challenge.pw_facework_k12_clause_by_clause.main.body.getD i (.Pass ⟨0,0,0,0⟩)
end Fw
namespace L2
open PySem PySem.Spec PyProof.Rows
theorem mt_stripC {X:Cx}:MtR X "str.strip" (fun x xs H Q=>∃z y,x=V.str z∧xs=[.str y]∧z.length≤sizeLine∧Q (.str (Txt.stripChars z y)) H):=by
 intro pins s σ H x xs v us Q I rx rs h
 obtain⟨z,y,rfl,rfl,hz,q⟩:=h
 obtain⟨t,rfl⟩:=rx
 obtain⟨u,rfl,ru⟩:=vals1 rs
 obtain⟨t',rfl⟩:=ru
 exact SCL.stripChars (fun t2 k _=>⟨.str (Txt.stripChars z y),H,I.tok k,⟨t2,rfl⟩,q⟩) hz
end L2
namespace Fw
open PySem PySem.Spec PyProof.Rows L2
theorem empty_len {x:Str}(h:x.length=0):x="":=by
 obtain⟨c⟩:=x
 have e:c=#[]:=Array.eq_empty_of_size_eq_zero h
 rw[e]
 decide+kernel
theorem tw_all {α:Type}(p:α→Bool):∀l:List α,l.all p=true→l.takeWhile p=l
 |[],_=>rfl
 |a::r,h=>by
  rw[List.all_cons,Bool.and_eq_true]at h
  rw[List.takeWhile_cons,if_pos h.1,tw_all p r h.2]
theorem tw_len {α:Type}(p:α→Bool):∀l:List α,l.all p=false→(l.takeWhile p).length<l.length
 |[],h=>by cases h
 |a::r,h=>by
  rw[List.takeWhile_cons]
  by_cases c:p a=true
  ·rw[if_pos c]
   rw[List.all_cons,c,Bool.true_and]at h
   exact Nat.succ_lt_succ (tw_len p r h)
  ·rw[if_neg c]
   exact Nat.succ_pos _
theorem tw_drop {α:Type}(p:α→Bool):∀l:List α,l.all p=false→(l.drop (l.takeWhile p).length).all p=false
 |[],h=>by cases h
 |a::r,h=>by
  rw[List.takeWhile_cons]
  by_cases c:p a=true
  ·rw[if_pos c]
   rw[List.all_cons,c,Bool.true_and]at h
   exact tw_drop p r h
  ·rw[if_neg c]
   exact h
theorem strip_len (x y:Str):(Txt.stripChars x y).length=0↔allS x y=true:=by
 have hn:x.cps.toList.length=x.length:=len_toList x
 have ep:∀c,y.cps.contains c=inS y c:=fun c=>by
  unfold inS
  rw[←Array.contains_toList]
  exact List.contains_eq_mem c y.cps.toList
 have ef:(fun c=>y.cps.contains c)=inS y:=funext ep
 unfold Txt.stripChars Txt.stripBy stripSame stripped stripHi stripLo
 simp only[if_true]
 have ef':y.cps.contains=inS y:=ef
 rw[ef']
 have ea:allS x y=x.cps.toList.all (inS y):=rfl
 rw[ea]
 generalize x.cps.toList=l at hn
 by_cases h:l.all (inS y)=true
 ·rw[tw_all _ l h,List.drop_eq_nil_of_le (Nat.le_refl _)]
  refine⟨fun _=>h,fun _=>?_⟩
  show(if(l.length==0&&x.length-0==x.length)=true then x else Builtin.Str.strSub x l.length (x.length-0)).length=0
  by_cases hc:(l.length==0&&x.length-0==x.length)=true
  ·rw[if_pos hc]
   rw[Bool.and_eq_true,beq_iff_eq,beq_iff_eq]at hc
   omega
  ·rw[if_neg hc]
   show(x.cps.extract l.length (x.length-0)).size=0
   rw[Array.size_extract]
   omega
 ·have h':l.all (inS y)=false:=by simpa using h
  have a1:=tw_len _ l h'
  have a2:=tw_drop _ l h'
  rw[←List.all_reverse]at a2
  have a3:=tw_len _ _ a2
  rw[List.length_reverse,List.length_drop]at a3
  refine⟨fun hz=>?_,fun h2=>absurd h2 h⟩
  exfalso
  split at hz
  ·omega
  ·have hz':(x.cps.extract (List.takeWhile (inS y) l).length (x.length-(List.takeWhile (inS y) (List.drop (List.takeWhile (inS y) l).length l).reverse).length)).size=0:=hz
   rw[Array.size_extract]at hz'
   have hs:x.cps.size=x.length:=rfl
   omega
theorem strip_is (x y:Str):decide (V.str (Txt.stripChars x y)=V.str "")=allS x y:=by
 have h:=strip_len x y
 by_cases c:allS x y=true
 ·rw[c]
  exact decide_eq_true (congrArg V.str (empty_len (h.mpr c)))
 ·have c':allS x y=false:=by simpa using c
  rw[c']
  refine decide_eq_false fun e=>c (h.mp ?_)
  injection e with e'
  rw[e']
  decide+kernel
abbrev s_all_of:Stmt:=top 30
abbrev s_is_small:Stmt:=top 31
abbrev s_is_name:Stmt:=top 32
abbrev s_is_great:Stmt:=top 33
abbrev s_is_path:Stmt:=top 34
section
variable {P:Program}{w:World}{K:PySem.W.Frag}{mg:Str→Option Value}{base:Heap}{f:Addr}{fd:FuncData}
theorem sc_all_of:FnScope ["text","signs"] ["text","signs"] (defScope s_all_of):=⟨rfl,rfl,rfl,by decide+kernel,rfl,by decide+kernel,by decide+kernel⟩
theorem ok_all_of (F:Fun K "all_of" "all_of" s_all_of f fd)(G:Gb K mg):FnOk P w K mg base CX0 1 f fd ["text","signs"] spAllOf:=by
 refine F.ok sc_all_of (len:=fun vs H Q E h=>(by obtain⟨x,y,rfl,_⟩:=h;rfl)) (fun cdv A outer s H vs Q E hr h=>?_)
 obtain⟨x,y,rfl,hx,q⟩:=h
 refine⟨_,pss_one (ps_ret (pe_cmpR op_eq (pe_bm PySem.F.plainAttrs_str PySem.F.slot_str_strip PySem.F.type_str_strip mt_stripC (pv 0) (pa_cons (pv 1) pa_nil)) pe_str (nomark _))),?_⟩
 refine⟨_,rfl,rfl,_,rfl,x,y,rfl,rfl,small (by omega),rfl,?_⟩
 rw[strip_is]
 exact q H (Same.refl H)
theorem sc_is_small:FnScope ["thing"] ["thing"] (defScope s_is_small):=⟨rfl,rfl,rfl,by decide+kernel,rfl,by decide+kernel,by decide+kernel⟩
theorem ok_is_small (F:Fun K "is_small" "is_small" s_is_small f fd)(G:Gb K mg)(h1:Has P w K mg base 1 "all_of" ["text","signs"] spAllOf):FnOk P w K mg base CX0 2 f fd ["thing"] (spT (onStr smallB)):=by
 refine F.ok sc_is_small (len:=fun vs H Q E h=>(by obtain⟨v,t,rfl,_⟩:=h;rfl)) (fun cdv A outer s H vs Q E hr h=>?_)
 obtain⟨v,t,rfl,rt,q⟩:=h
 obtain⟨t1,hsm⟩:=G.small
 obtain⟨t2,hmo⟩:=G.most
 refine⟨_,pss_one (ps_ret (pe_and (pe_callB call_isi rfl G.isi boot_isinstance (pa_cons (pv 0) (pa_cons (pe_bltn (v:=.ty "str") rfl G.str boot_str rfl) pa_nil)))
  (pe_and (pe_chain op_le op_le pe_int (pe_callB call_len_str rfl G.len PySem.boot_len (pa_cons (pv 0) pa_nil)) (pe_glob (v:=.int 8) rfl hmo ⟨_,rfl⟩))
   (pe_one (pcall h1 hr (by decide) rfl (pa_cons (pv 0) (pa_cons (pe_glob (v:=.str smallS) rfl hsm ⟨_,rfl⟩) pa_nil))))))),?_⟩
 refine⟨_,rfl,_,_,_,_,rfl,rep_ty rt,kit_str K t,_,rfl,?_⟩
 cases rt with
 |int i=>exact iteF (q H (Same.refl H))
 |tup h r=>exact iteF (q H (Same.refl H))
 |str z hz=>
  have q':∀H',Same H H'→Q (.bl (smallB z)) H':=q
  refine iteT ⟨_,rfl,z,rfl,small (by omega),1,z.length,rfl,rfl,_,rfl,?_⟩
  refine ite2 (fun c=>?_) (fun c=>?_)
  ·have c1:(1:Int)≤z.length:=of_decide_eq_true c
   refine⟨_,_,rfl,rfl,_,rfl,?_⟩
   refine ite2 (fun d=>?_) (fun d=>?_)
   ·have d1:(z.length:Int)≤8:=of_decide_eq_true d
    rw[smallB_in (by omega) (by omega)]at q'
    exact⟨_,rfl,z,smallS,rfl,hz,q'⟩
   ·have d1:¬(z.length:Int)≤8:=of_decide_eq_false (Bool.eq_false_iff.mpr d)
    rw[smallB_hi (by omega)]at q'
    exact q' H (Same.refl H)
  ·have c1:¬(1:Int)≤z.length:=of_decide_eq_false (Bool.eq_false_iff.mpr c)
   rw[smallB_lo (by omega)]at q'
   exact⟨_,rfl,iteF (q' H (Same.refl H))⟩
theorem sc_is_name:FnScope ["thing"] ["thing"] (defScope s_is_name):=⟨rfl,rfl,rfl,by decide+kernel,rfl,by decide+kernel,by decide+kernel⟩
theorem ok_is_name (F:Fun K "is_name" "is_name" s_is_name f fd)(G:Gb K mg)(h1:Has P w K mg base 2 "is_small" ["thing"] (spT (onStr smallB))):FnOk P w K mg base CX0 3 f fd ["thing"] (spT (onStr nameB)):=by
 refine F.ok sc_is_name (len:=fun vs H Q E h=>(by obtain⟨v,t,rfl,_⟩:=h;rfl)) (fun cdv A outer s H vs Q E hr h=>?_)
 obtain⟨v,t,rfl,rt,q⟩:=h
 obtain⟨a,hke,hkt⟩:=G.kept
 refine⟨_,pss_one (ps_ret (pe_and (pcall h1 hr (by decide) rfl (pa_cons (pv 0) pa_nil)) (pe_one (pe_cmpR op_notIn_seq (pv 0) (pe_glob (v:=.ref a) rfl hke rfl) (by with_unfolding_all rfl))))),?_⟩
 refine⟨_,rfl,v,t,rfl,rt,fun H' e=>⟨_,rfl,?_⟩⟩
 cases rt with
 |int i=>exact iteF (q H' e)
 |tup h r=>exact iteF (q H' e)
 |str z hz=>
  have q':∀H',Same H H'→Q (.bl (nameB z)) H':=q
  show if smallB z=true then _ else _
  cases hs:smallB z with
  |false=>
   unfold nameB at q'
   rw[hs]at q'
   exact iteF (q' H' e)
  |true=>
   unfold nameB at q'
   rw[hs]at q'
   refine iteT ⟨_,rfl,a,keptL.map V.str,rfl, .inr (hkt H'),rfl,flat_strs _,?_⟩
   rw[if_pos rfl,inV_str]
   exact q' H' e
theorem sc_is_great:FnScope ["thing"] ["thing"] (defScope s_is_great):=⟨rfl,rfl,rfl,by decide+kernel,rfl,by decide+kernel,by decide+kernel⟩
theorem ok_is_great (F:Fun K "is_great" "is_great" s_is_great f fd)(G:Gb K mg)(h1:Has P w K mg base 1 "all_of" ["text","signs"] spAllOf):FnOk P w K mg base CX0 2 f fd ["thing"] (spT (onStr greatB)):=by
 refine F.ok sc_is_great (len:=fun vs H Q E h=>(by obtain⟨v,t,rfl,_⟩:=h;rfl)) (fun cdv A outer s H vs Q E hr h=>?_)
 obtain⟨v,t,rfl,rt,q⟩:=h
 obtain⟨t1,hsm⟩:=G.small
 obtain⟨t2,hmo⟩:=G.most
 obtain⟨t3,hgr⟩:=G.great
 refine⟨_,pss_cons (ps_if (PW.pt (pw_or (pt_not (pt_val (pe_callB call_isi rfl G.isi boot_isinstance (pa_cons (pv 0) (pa_cons (pe_bltn (v:=.ty "str") rfl G.str boot_str rfl) pa_nil)))))
   (pw_or1 (pt_not (pt_chain op_le op_le pe_int (pe_callB call_len_str rfl G.len PySem.boot_len (pa_cons (pv 0) pa_nil)) (pe_glob (v:=.int 8) rfl hmo ⟨_,rfl⟩)))))) (pss_one (ps_ret pe_bl)) pss_nil)
  (pss_one (ps_ret (pe_and (pe_cmpR op_in_str (pe_ix ix_str (pv 0) pe_int (fun _ _=>rfl)) (pe_glob (v:=.str greatS) rfl hgr ⟨_,rfl⟩) (by with_unfolding_all rfl))
   (pe_one (pcall h1 hr (by decide) rfl (pa_cons (pe_slice sl_str (pv 0) (po_some pe_int) po_none) (pa_cons (pe_glob (v:=.str smallS) rfl hsm ⟨_,rfl⟩) pa_nil))))))),?_⟩
 refine⟨_,rfl,_,_,_,_,rfl,rep_ty rt,kit_str K t,_,rfl,?_⟩
 cases rt with
 |int i=>exact iteT (iteT (q H (Same.refl H)))
 |tup h r=>exact iteT (iteT (q H (Same.refl H)))
 |str z hz=>
  have q':∀H',Same H H'→Q (.bl (greatB z)) H':=q
  refine iteF ⟨_,rfl,z,rfl,small (by omega),1,z.length,rfl,rfl,_,rfl,?_⟩
  refine ite2 (fun c=>?_) (fun c=>?_)
  ·have c1:(1:Int)≤z.length:=of_decide_eq_true c
   refine⟨_,_,rfl,rfl,_,rfl,?_⟩
   refine ite2 (fun d=>?_) (fun d=>?_)
   ·have d1:¬(z.length:Int)≤8:=of_decide_eq_false (by simpa using d)
    rw[greatB_hi (by omega)]at q'
    exact q' H (Same.refl H)
   ·have d1:(z.length:Int)≤8:=of_decide_eq_true (by simpa using d)
    rw[greatB_in (by omega) (by omega)]at q'
    refine⟨_,rfl,z,0,_,rfl,rfl,small (by omega),first_at (by omega),_,_,rfl,rfl,_,rfl,?_⟩
    rw[StrLaws.found_one]
    show if inS greatS (z.cps.toList.getD 0 0)=true then _ else _
    cases hg:inS greatS (z.cps.toList.getD 0 0) with
    |false=>
     rw[hg]at q'
     exact iteF (q' H (Same.refl H))
    |true=>
     rw[hg,Bool.true_and]at q'
     refine iteT ⟨_,rfl,1,rfl,z,rfl,small (by omega),?_⟩
     have rl:=rest_len z
     refine⟨restS z,smallS,?_,by omega,q'⟩
     rw[rest_slice (by omega)]
     rfl
  ·have c1:¬(1:Int)≤z.length:=of_decide_eq_false (Bool.eq_false_iff.mpr c)
   rw[greatB_lo (by omega)]at q'
   exact⟨_,rfl,iteT (q' H (Same.refl H))⟩
theorem sc_is_path:FnScope ["thing","sides"] ["thing"] (defScope s_is_path):=⟨rfl,rfl,rfl,by decide+kernel,rfl,by decide+kernel,by decide+kernel⟩
theorem ok_is_path (F:Fun K "is_path" "is_path" s_is_path f fd)(G:Gb K mg)(h1:Has P w K mg base 3 "is_name" ["thing"] (spT (onStr nameB)))(h2:Has P w K mg base 2 "is_great" ["thing"] (spT (onStr greatB))):FnOk P w K mg base CX0 4 f fd ["thing"] (spT (onStr pathB)):=by
 refine F.ok sc_is_path (len:=fun vs H Q E h=>(by obtain⟨v,t,rfl,_⟩:=h;rfl)) (fun cdv A outer s H vs Q E hr h=>?_)
 obtain⟨v,t,rfl,rt,q⟩:=h
 refine⟨_,pss_cons (ps_if (pt_not (pt_val (pe_callB call_isi rfl G.isi boot_isinstance (pa_cons (pv 0) (pa_cons (pe_bltn (v:=.ty "str") rfl G.str boot_str rfl) pa_nil))))) (pss_one (ps_ret pe_bl)) pss_nil)
  (pss_cons (ps_set (i:=1) sc_is_path.nd rfl (Or.inl rfl) (pe_bm PySem.F.plainAttrs_str PySem.F.slot_str_split PySem.F.type_str_split mt_split (pv 0) (pa_cons pe_str pa_nil)))
   (pss_one (ps_ret (pe_and (pe_cmpR op_eq (pe_callB call_len_seq rfl G.len PySem.boot_len (pa_cons (pv 1) pa_nil)) pe_int (nomark _))
    (pe_and (pcall h2 hr (by decide) rfl (pa_cons (pe_ix ix_list (pv 1) pe_int (fun _ _=>rfl)) pa_nil))
     (pe_one (pcall h1 hr (by decide) rfl (pa_cons (pe_ix ix_list (pv 1) pe_int (fun _ _=>rfl)) pa_nil)))))))),?_⟩
 refine⟨_,rfl,_,_,_,_,rfl,rep_ty rt,kit_str K t,_,rfl,?_⟩
 cases rt with
 |int i=>exact iteT (q H (Same.refl H))
 |tup h r=>exact iteT (q H (Same.refl H))
 |str z hz=>
  have q':∀H',Same H H'→Q (.bl (pathB z)) H':=q
  have sl:=split_short z
  refine iteF ⟨_,rfl,rfl,z,".",rfl,rfl,small (by omega),by decide+kernel,small (by omega),fun l hl=>?_⟩
  have g1:=same_new hl (.lst ((Txt.split z ".").map V.str))
  refine⟨_,rfl,l,_,rfl, .inl (SqL.of upd_same),rfl,_,rfl,?_⟩
  refine ite2 (fun c=>?_) (fun c=>?_)
  ·have c1:(Txt.split z ".").length=2:=by
    have:=of_decide_eq_true c
    injection this with e
    rw[List.length_map]at e
    omega
   obtain⟨a,b,e⟩:∃a b,Txt.split z "."=[a,b]:=by
    match hh:Txt.split z ".",c1 with
    |[a,b],_=>exact⟨a,b,rfl⟩
   have la:a.length≤z.length:=part_short (y:=".") (by rw[e];simp)
   have lb:b.length≤z.length:=part_short (y:=".") (by rw[e];simp)
   rw[pathB_two e]at q'
   refine⟨_,rfl,l,_,0, .str a,rfl,rfl,SqL.of upd_same,atI_nat (j:=0) (by rw[e];rfl), .str a, .str a,rfl, .str a (by omega),fun H2 e2=>⟨_,rfl,?_⟩⟩
   show if greatB a=true then _ else _
   cases hg:greatB a with
   |false=>
    rw[hg]at q'
    exact iteF (q' H2 (g1.trans e2))
   |true=>
    rw[hg,Bool.true_and]at q'
    refine iteT ⟨_,rfl,l,_,1, .str b,rfl,rfl,SqL.of (e2 _ _ upd_same),atI_nat (j:=1) (by rw[e];rfl), .str b, .str b,rfl, .str b (by omega),fun H3 e3=>q' H3 (g1.trans (e2.trans e3))⟩
  ·have c1:(Txt.split z ".").length≠2:=fun e=>c (by rw[List.length_map,e];rfl)
   rw[pathB_other c1]at q'
   exact q' _ g1
end
end Fw
namespace L2
open PySem PySem.Spec PyProof.Rows
theorem nat_text {n:Nat}(h:n<1000000):(Str.ofString (toString (n:Int))).length≤10:=by
 have e:toString (n:Int)=Nat.repr n:=rfl
 rw[e]
 have:=(Nat.length_repr_le_iff (n:=n) (k:=6) (by decide)).mpr (by omega)
 have e2:(Str.ofString (Nat.repr n)).length=(Nat.repr n).length:=by
  rw[Str.ofString_eq_toList,←String.length_toList]
  simp[Str.length]
 omega
def tFs3 (tx ty tz:TE):TE:=fun σ H Q=>tx σ H fun x H1=>∃t,x=.str t∧t.length≤100000∧ty σ H1 fun y H2=>∃i:Nat,y=.int i∧i<1000000∧tz σ H2 fun z H3=>∃j:Nat,z=.int j∧j<1000000∧∀u:Str,u.length≤105000→Q (.str u) H3
theorem log_small {i:Nat}(h:i<1000000):(i:Int).natAbs.log2<1920:=by
 have e:(i:Int).natAbs=i:=rfl
 rw[e]
 by_cases c:i=0
 ·subst c;decide
 ·exact(Nat.log2_lt c).mpr (Nat.lt_of_lt_of_le h (Nat.le_trans (by decide:1000000≤2^20) (Nat.pow_le_pow_right (by decide) (by decide))))
theorem pe_fs3 {X:Cx}{e1 e2 e3:Expr}{t1 t2 t3:TE}{a b:Str}{j1 j2 p1 p2 p3 p4 p5 pos}(h1:PE X e1 t1)(h2:PE X e2 t2)(h3:PE X e3 t3)
  (hev:evalEach [.FormattedValue e2 (-1) none p3, .Constant (.str b) j2 p4, .FormattedValue e3 (-1) none p5] X.env=[eval (.FormattedValue e2 (-1) none p3) X.env,eval (.Constant (.str b) j2 p4) X.env,eval (.FormattedValue e3 (-1) none p5) X.env]:=by rfl)
  (ha:a.length≤1000:=by decide+kernel) (hb:b.length≤1000:=by decide+kernel):
  PE X (.JoinedStr [.FormattedValue e1 (-1) none p1, .Constant (.str a) j1 p2, .FormattedValue e2 (-1) none p3, .Constant (.str b) j2 p4, .FormattedValue e3 (-1) none p5] pos) (tFs3 t1 t2 t3):=by
 intro pins s σ H Q I h
 refine PyProof.Rows.JoinedStr_many ?_
 rw[hev]
 have el:∀x y:Str,(x++y).length=x.length+y.length:=fun x y=>strLen_append x y
 have e0:Str.empty.length=0:=rfl
 have sz:∀{n:Nat},n≤200000→n≤sizeLine:=fun h=>Nat.le_trans h (by decide)
 refine PyProof.Rows.joinParts_cons (PyProof.Rows.FormattedValue_plain (thn (h1 pins _ σ H _ I h) fun v s1 ⟨x,H1,I1,r1,t,ex,ht,q1⟩=>?_))
 subst ex
 obtain⟨tt,rfl⟩:=r1
 have l1:(Str.empty++t).length≤100000:=by rw[el,e0];omega
 refine PyProof.Rows.formatField_str (fun t' tk=>⟨sz (by omega),?_⟩) (sz (by omega))
 have l2:(Str.empty++t++a).length≤101000:=by rw[el];omega
 refine PyProof.Rows.joinParts_cons (Calls.Constant_str ⟨sz (by omega),?_⟩)
 refine PyProof.Rows.joinParts_cons (PyProof.Rows.FormattedValue_plain (thn (h2 pins _ σ H1 _ ((I1.tok _).tok _) q1) fun v2 s2 ⟨y,H2,I2,r2,i,ey,hi,q2⟩=>?_))
 subst ey
 obtain⟨tt2,rfl⟩:=r2
 have n1:=nat_text hi
 have l3:(Str.empty++t++a++Str.ofString (toString (i:Int))).length≤101010:=by rw[el];omega
 refine PyProof.Rows.formatField_int_small (log_small hi) ⟨sz (by omega),?_⟩
 have l4:(Str.empty++t++a++Str.ofString (toString (i:Int))++b).length≤102010:=by rw[el];omega
 refine PyProof.Rows.joinParts_cons (Calls.Constant_str ⟨sz (by omega),?_⟩)
 refine PyProof.Rows.joinParts_cons (PyProof.Rows.FormattedValue_plain (thn (h3 pins _ σ H2 _ ((I2.tok _).tok _) q2) fun v3 s3 ⟨z,H3,I3,r3,j,ez,hj,q3⟩=>?_))
 subst ez
 obtain⟨tt3,rfl⟩:=r3
 have n2:=nat_text hj
 have l5:(Str.empty++t++a++Str.ofString (toString (i:Int))++b++Str.ofString (toString (j:Int))).length≤102020:=by rw[el];omega
 refine PyProof.Rows.formatField_int_small (log_small hj) ⟨sz (by omega),?_⟩
 refine PyProof.Rows.joinParts_nil ?_ (sz (by omega))
 exact⟨.str _,H3,(I3.tok _).tok _,⟨_,rfl⟩,q3 _ (by omega)⟩
end L2
namespace Fw
open PySem PySem.Spec PyProof.Rows L2
inductive Flt where
 |tw
 |nn
 |nc
structure FaceR where
 n:Nat
 hides:List (Str×Nat)
 vals:List Str
structure Sn where
 sorts:List (Str×Nat):=[]
 ksize:List (Str×Nat):=[]
 tkind:List (Str×Str):=[]
 tsize:List (Str×Nat):=[]
 rsize:List (Str×Nat):=[]
 fields:List Str:=[]
 faces:List (Str×FaceR):=[]
 parts:List (Str×Str):=[]
 givers:List (Str×Str):=[]
 makers:List (Str×(Nat×Str)):=[]
abbrev Ex (α:Type):=Except Flt α
def look {α:Type}(f:Flt):Option α→Ex α
 |some x=>.ok x
 |none=>.error f
def onceM (b:Bool):Ex Unit:=if b=true then .error .tw else .ok ()
def thereM (b:Bool):Ex Unit:=if b=true then .ok () else .error .nn
def sameM (a b:Nat):Ex Unit:=if a=b then .ok () else .error .nc
def faceOf (s:Sn)(p:Str):Ex Str:=match s.givers.lookup p with
 |some f=>.ok f
 |none=>look .nn (s.parts.lookup p)
def pathL (z:Str):Str×Str:=match splL 46 z.cps.toList with
 |[a,b]=>(⟨a.toArray⟩,⟨b.toArray⟩)
 |_=>(z,z)
def hideM (s:Sn)(z:Str):Ex Nat:=(faceOf s (pathL z).1).bind fun f=>match s.faces.lookup f with
 |some r=>look .nn (r.hides.lookup (pathL z).2)
 |none=>.error .nn
def valM (s:Sn)(z:Str):Ex Unit:=(faceOf s (pathL z).1).bind fun f=>match s.faces.lookup f with
 |some r=>thereM (decide ((pathL z).2∈r.vals))
 |none=>.error .nn
def kvN (l:List (Str×Nat)):List (Key×V):=l.map fun p=>(Sum.inr p.1,V.int p.2)
def kvS (l:List (Str×Str)):List (Key×V):=l.map fun p=>(Sum.inr p.1,V.str p.2)
def kvB (l:List Str):List (Key×V):=l.map fun p=>(Sum.inr p,V.bl true)
theorem val_map {α:Type}(g:α→V)(z:Str):∀l:List (Str×α),valV (l.map fun p=>((Sum.inr p.1:Key),g p.2)) (Sum.inr z)=(l.lookup z).map g
 |[]=>rfl
 |(x,a)::l=>by
  rw[List.map_cons,List.lookup_cons]
  cases e:z==x with
  |true=>
   have:x=z:=(beq_iff_eq.mp e).symm
   rw[valV_pos (by rw[this])];rfl
  |false=>
   have:x≠z:=fun h=>by rw[h]at e;simp at e
   rw[valV_neg (fun h=>this (Sum.inr.inj h)),val_map g z l]
theorem val_kvN (z:Str)(l:List (Str×Nat)):valV (kvN l) (Sum.inr z)=(l.lookup z).map fun n:Nat=>V.int n:=val_map (fun n:Nat=>V.int n) z l
theorem val_kvS (z:Str)(l:List (Str×Str)):valV (kvS l) (Sum.inr z)=(l.lookup z).map V.str:=val_map V.str z l
def keysK (kvs:List (Key×V))(zs:List Str):Prop:=kvs.map (·.1)=zs.map Sum.inr
theorem keys_val {kvs:List (Key×V)}:∀{zs:List Str},keysK kvs zs→∀z,(valV kvs (Sum.inr z)).isSome=decide (z∈zs):=by
 induction kvs with
 |nil=>intro zs h z;cases zs with
  |nil=>rfl
  |cons a r=>cases h
 |cons p r ih=>
  intro zs h z
  cases zs with
  |nil=>cases h
  |cons a zs=>
   have h1:p.1=Sum.inr a:=(List.cons.inj h).1
   have h2:keysK r zs:=(List.cons.inj h).2
   by_cases e:a=z
   ·rw[valV_pos (by rw[h1,e])];simp[e]
   ·rw[valV_neg (by rw[h1];exact fun h=>e (Sum.inr.inj h)),ih h2 z]
    simp[Ne.symm e]
theorem keys_map {α:Type}(g:α→V)(l:List (Str×α)):keysK (l.map fun p=>((Sum.inr p.1:Key),g p.2)) (l.map (·.1)):=by
 unfold keysK
 rw[List.map_map,List.map_map];rfl
theorem keys_kvB (l:List Str):keysK (kvB l) l:=by
 unfold keysK kvB
 rw[List.map_map];rfl
inductive MemV (H:Hp):V→List Str→Prop
 |dk {a:Addr} {kvs:List (Key×V)} {zs:List Str} (h:H a=some (.dK kvs)) (k:keysK kvs zs):MemV H (.ref a) zs
 |tp {a:Addr} {zs:List Str} (h:H a=some (.tup (zs.map V.str))):MemV H (.ref a) zs
 |ls {a:Addr} {zs:List Str} (h:H a=some (.lst (zs.map V.str))):MemV H (.ref a) zs
theorem MemV.read {K:PySem.W.Frag}{H:Hp}{v:V}{zs:List Str}(h:MemV H v zs){z:Str}{Q:VK}(q:Q (.bl (decide (z∈zs))) H):(∃a o,v=V.ref a∧DGet H a (.str z) o∧Q (.bl o.isSome) H)∨rIn K false (.str z) v H Q:=by
 cases h with
 |@dk a kvs _ h k=>exact .inl ⟨a,_,rfl, .inl ⟨kvs,Sum.inr z, .inl h,rfl,rfl⟩,by rw[keys_val k];exact q⟩
 |@tp a _ h=>exact .inr ⟨a,_,rfl, .inr (SqT.of h),rfl,flat_strs _,by rw[inV_str];exact q⟩
 |@ls a _ h=>exact .inr ⟨a,_,rfl, .inl (SqL.of h),rfl,flat_strs _,by rw[inV_str];exact q⟩
theorem MemV.readN {K:PySem.W.Frag}{H:Hp}{v:V}{zs:List Str}(h:MemV H v zs){z:Str}{Q:VK}(q:Q (.bl (!decide (z∈zs))) H):(∃a o,v=V.ref a∧DGet H a (.str z) o∧Q (.bl (!o.isSome)) H)∨rIn K true (.str z) v H Q:=by
 cases h with
 |@dk a kvs _ h k=>exact .inl ⟨a,_,rfl, .inl ⟨kvs,Sum.inr z, .inl h,rfl,rfl⟩,by rw[keys_val k];exact q⟩
 |@tp a _ h=>exact .inr ⟨a,_,rfl, .inr (SqT.of h),rfl,flat_strs _,by rw[inV_str];exact q⟩
 |@ls a _ h=>exact .inr ⟨a,_,rfl, .inl (SqL.of h),rfl,flat_strs _,by rw[inV_str];exact q⟩
def Out {α:Type}(CL:Flt→Addr)(H:Hp)(E:XK)(r:Ex α)(ok:α→Hp→Prop):Prop:=match r with
 |.ok x=>∀H',Same H H'→ok x H'
 |.error f=>∀ea H',Same H H'→E (.ref (CL f)) (some ea) H'
def HasX (P:Program)(w:World)(K:PySem.W.Frag)(mg:Str→Option Value)(base:Heap)(k:Nat)(x:Str)(ps:List Str)(sp:Sp):Prop :=
 ∃f fd,FnOk P w K mg base (CXF P w) k f fd ps sp∧Binds K fd ps []∧PySem.W.keepIn K (.ref f)=true∧mg x=some (.ref f)
structure Cl3 (CL:Flt→Addr)(bm:List Value)(newId:String)(B initId:String)(mg:Str→Option Value)(base:Heap):Prop where
 tw:OwnCls "Twice" (CL .tw) bm newId mg base
 nn:OwnCls "NoName" (CL .nn) bm newId mg base
 nc:OwnCls "NoCount" (CL .nc) bm newId mg base
 fs:ExcBaseFacts B newId initId bm
inductive spOnce (CL:Flt→Addr)(vs:List V)(H:Hp)(Q:VK)(E:XK):Prop where
 |mk (z:Str) (v:V) (zs:List Str):vs=[.str z,v]→z.length≤100000→MemV H v zs→Out CL H E (onceM (decide (z∈zs))) (fun _ H'=>Q .non H')→spOnce CL vs H Q E
inductive spThere (CL:Flt→Addr)(vs:List V)(H:Hp)(Q:VK)(E:XK):Prop where
 |mk (z:Str) (v:V) (zs:List Str):vs=[.str z,v]→z.length≤100000→MemV H v zs→Out CL H E (thereM (decide (z∈zs))) (fun _ H'=>Q .non H')→spThere CL vs H Q E
inductive spUse (CL:Flt→Addr)(vs:List V)(H:Hp)(Q:VK)(E:XK):Prop where
 |mk (z:Str) (a:Addr) (kvs:List (Key×V)) (zs:List Str):vs=[.str z, .ref a]→z.length≤100000→H a=some (.dK kvs)→keysK kvs zs→Out CL H E (look .nn (valV kvs (Sum.inr z))) (fun u H'=>Q u H')→spUse CL vs H Q E
inductive spCount (CL:Flt→Addr)(vs:List V)(H:Hp)(Q:VK)(E:XK):Prop where
 |mk (z:Str) (i j:Nat):vs=[.str z, .int i, .int j]→z.length≤100000→i<1000000→j<1000000→Out CL H E (sameM i j) (fun _ H'=>Q .non H')→spCount CL vs H Q E
section
variable {P:Program}{w:World}{K:PySem.W.Frag}{mg:Str→Option Value}{base:Heap}{f:Addr}{CL:Flt→Addr}{fd:FuncData}{bm:List Value}{newId B initId:String}
abbrev s_once:Stmt:=top 20
abbrev s_there:Stmt:=top 21
abbrev s_use:Stmt:=top 22
abbrev s_count:Stmt:=top 23
theorem sc_once:FnScope ["word","there"] ["word","there"] (defScope s_once):=⟨rfl,rfl,rfl,by decide+kernel,rfl,by decide+kernel,by decide+kernel⟩
theorem sc_there:FnScope ["word","there"] ["word","there"] (defScope s_there):=⟨rfl,rfl,rfl,by decide+kernel,rfl,by decide+kernel,by decide+kernel⟩
theorem sc_use:FnScope ["word","there"] ["word","there"] (defScope s_use):=⟨rfl,rfl,rfl,by decide+kernel,rfl,by decide+kernel,by decide+kernel⟩
theorem sc_count:FnScope ["word","wanted","count"] ["word","wanted","count"] (defScope s_count):=⟨rfl,rfl,rfl,by decide+kernel,rfl,by decide+kernel,by decide+kernel⟩
theorem inK (K:PySem.W.Frag){X:Cx}(h:X.K=K:=by rfl):OpR X (compareOp .In) (rIn K false):=h ▸ op_in_seq
theorem notInK (K:PySem.W.Frag){X:Cx}(h:X.K=K:=by rfl):OpR X (compareOp .NotIn) (rIn K true):=h ▸ op_notIn_seq
theorem ok_once (F:Fun K "name_once" "name_once" s_once f fd)(C:Cl3 CL bm newId B initId mg base):FnOk P w K mg base (CXF P w) 1 f fd ["word","there"] (spOnce CL):=by
 refine F.okX sc_once (fun cdv A outer s H vs Q E hr h=>?_)
 have hu:=hu_of hr
 obtain⟨z,v,zs,rfl,hz,hm,q⟩:=h
 refine⟨_,pss_one (ps_if (pt_cmpR ((op_inD hu).or (inK K)) (pv 0) (pv 1) (by with_unfolding_all rfl)) (pss_one (ps_raise C.tw C.fs rfl (pa_cons (pe_fs (pv 0)) pa_nil))) pss_nil),?_⟩
 refine⟨_,rfl,_,rfl,hm.read ⟨_,rfl,?_⟩⟩
 unfold onceM at q
 cases c:decide (z∈zs) with
 |true=>
  rw[c,if_pos rfl]at q
  refine iteT ⟨_,rfl,z,rfl,?_,?_⟩
  ·have:("named twice: ":Str).length≤100:=by decide+kernel
   omega
  ·exact⟨sml 1,fun ea _=>q ea _ (Same.refl H)⟩
 |false=>
  rw[c,if_neg Bool.false_ne_true]at q
  exact iteF (q H (Same.refl H))
theorem ok_there (F:Fun K "be_there" "be_there" s_there f fd)(C:Cl3 CL bm newId B initId mg base):FnOk P w K mg base (CXF P w) 1 f fd ["word","there"] (spThere CL):=by
 refine F.okX sc_there (fun cdv A outer s H vs Q E hr h=>?_)
 have hu:=hu_of hr
 obtain⟨z,v,zs,rfl,hz,hm,q⟩:=h
 refine⟨_,pss_one (ps_if (pt_cmpR ((op_notInD hu).or (notInK K)) (pv 0) (pv 1) (by with_unfolding_all rfl)) (pss_one (ps_raise C.nn C.fs rfl (pa_cons (pe_fs (pv 0)) pa_nil))) pss_nil),?_⟩
 refine⟨_,rfl,_,rfl,hm.readN ⟨_,rfl,?_⟩⟩
 unfold thereM at q
 cases c:decide (z∈zs) with
 |true=>
  rw[c,if_pos rfl]at q
  exact iteF (q H (Same.refl H))
 |false=>
  rw[c,if_neg Bool.false_ne_true]at q
  refine iteT ⟨_,rfl,z,rfl,?_,?_⟩
  ·have:("not there: ":Str).length≤100:=by decide+kernel
   omega
  ·exact⟨sml 1,fun ea _=>q ea _ (Same.refl H)⟩
theorem ok_use (F:Fun K "use" "use" s_use f fd)(h1:HasX P w K mg base 1 "be_there" ["word","there"] (spThere CL)):FnOk P w K mg base (CXF P w) 2 f fd ["word","there"] (spUse CL):=by
 refine F.okX sc_use (fun cdv A outer s H vs Q E hr h=>?_)
 have hu:=hu_of hr
 obtain⟨z,a,kvs,zs,rfl,hz,ha,hk,q⟩:=h
 obtain⟨f1,g1,G1,b1,k1,m1⟩:=h1
 refine⟨_,pss_cons (ps_expr (pe_call G1 hr rfl m1 k1 b1 .nil passes_up (pa_cons (pv 0) (pa_cons (pv 1) pa_nil)))) (pss_one (ps_ret (pe_dget hu (pv 1) (pv 0)))),?_⟩
 have e:=keys_val hk z
 refine⟨_,rfl,_,rfl,z,_,zs,rfl,hz, .dk ha hk,?_⟩
 unfold thereM
 rw[←e]
 cases c:valV kvs (Sum.inr z) with
 |none=>
  rw[c]at q
  exact fun ea H' s'=>q ea H' s'
 |some u=>
  rw[c]at q
  exact fun H' s'=>⟨_,rfl,_,rfl,a,u,rfl, .inl ⟨kvs,Sum.inr z, .inl (s' _ _ ha),rfl,c.symm⟩,q H' s'⟩
theorem ok_count (F:Fun K "count_same" "count_same" s_count f fd)(C:Cl3 CL bm newId B initId mg base):FnOk P w K mg base (CXF P w) 1 f fd ["word","wanted","count"] (spCount CL):=by
 refine F.okX sc_count (fun cdv A outer s H vs Q E hr h=>?_)
 obtain⟨z,i,j,rfl,hz,hi,hj,q⟩:=h
 refine⟨_,pss_one (ps_if (pt_cmpR op_ne (pv 1) (pv 2) (nomark _)) (pss_one (ps_raise C.nc C.fs rfl (pa_cons (pe_fs3 (pv 0) (pv 1) (pv 2)) pa_nil))) pss_nil),?_⟩
 refine⟨_,rfl,_,rfl,rfl,_,rfl,?_⟩
 unfold sameM at q
 by_cases c:i=j
 ·rw[if_pos c]at q
  subst c
  have e:(!decide (V.int (i:Int)=V.int i))=false:=by simp
  rw[e]
  exact iteF (q H (Same.refl H))
 ·rw[if_neg c]at q
  have e:(!decide (V.int (i:Int)=V.int j))=true:=by
   rw[decide_eq_false (fun h=>c (by have:=V.int.inj h;omega))];rfl
  rw[e]
  refine iteT ⟨_,rfl,z,rfl,hz,_,rfl,i,rfl,hi,_,rfl,j,rfl,hj,fun u _=>?_⟩
  exact⟨sml 1,fun ea _=>q ea _ (Same.refl H)⟩
end
structure SD where
 s:Addr
 dx:Addr
 d1:Addr
 d2:Addr
 d3:Addr
 d4:Addr
 d5:Addr
 d6:Addr
 d7:Addr
 d8:Addr
 d9:Addr
 d10:Addr
def SD.dl (D:SD):List Addr:=[D.d1,D.d2,D.d3,D.d4,D.d5,D.d6,D.d7,D.d8,D.d9,D.d10]
def sfl (D:SD):List (Str×V):=[("sort_counts", .ref D.d1),("kind_sizes", .ref D.d2),("tag_kinds", .ref D.d3),("tag_sizes", .ref D.d4),("record_sizes", .ref D.d5),("field_names", .ref D.d6),("face_rows", .ref D.d7),("part_faces", .ref D.d8),("giver_faces", .ref D.d9),("maker_rows", .ref D.d10)]
section
variable (D:SD)
theorem fl1:(sfl D).lookup ("sort_counts":Str)=some (V.ref D.d1):=by first|rfl|(with_unfolding_all rfl)|kernel_rfl
theorem fl2:(sfl D).lookup ("kind_sizes":Str)=some (V.ref D.d2):=by first|rfl|(with_unfolding_all rfl)|kernel_rfl
theorem fl3:(sfl D).lookup ("tag_kinds":Str)=some (V.ref D.d3):=by first|rfl|(with_unfolding_all rfl)|kernel_rfl
theorem fl4:(sfl D).lookup ("tag_sizes":Str)=some (V.ref D.d4):=by first|rfl|(with_unfolding_all rfl)|kernel_rfl
theorem fl5:(sfl D).lookup ("record_sizes":Str)=some (V.ref D.d5):=by first|rfl|(with_unfolding_all rfl)|kernel_rfl
theorem fl6:(sfl D).lookup ("field_names":Str)=some (V.ref D.d6):=by first|rfl|(with_unfolding_all rfl)|kernel_rfl
theorem fl7:(sfl D).lookup ("face_rows":Str)=some (V.ref D.d7):=by first|rfl|(with_unfolding_all rfl)|kernel_rfl
theorem fl8:(sfl D).lookup ("part_faces":Str)=some (V.ref D.d8):=by first|rfl|(with_unfolding_all rfl)|kernel_rfl
theorem fl9:(sfl D).lookup ("giver_faces":Str)=some (V.ref D.d9):=by first|rfl|(with_unfolding_all rfl)|kernel_rfl
theorem fl10:(sfl D).lookup ("maker_rows":Str)=some (V.ref D.d10):=by first|rfl|(with_unfolding_all rfl)|kernel_rfl
end
structure TxS (K:PySem.W.Frag)(CS:Addr):Prop where
 cs:Cls K CS
 n1:NoAttr K CS "sort_counts"
 n2:NoAttr K CS "kind_sizes"
 n3:NoAttr K CS "tag_kinds"
 n4:NoAttr K CS "tag_sizes"
 n5:NoAttr K CS "record_sizes"
 n6:NoAttr K CS "field_names"
 n7:NoAttr K CS "face_rows"
 n8:NoAttr K CS "part_faces"
 n9:NoAttr K CS "giver_faces"
 n10:NoAttr K CS "maker_rows"
inductive FacesL (H:Hp)(dl:List Addr):List (Key×V)→List (Str×FaceR)→Prop
 |nil:FacesL H dl [] []
 |cons {z:Str} {r:FaceR} {a h v:Addr} {kvs:List (Key×V)} {l:List (Str×FaceR)} (h1:H a=some (.tup [.int r.n, .ref h, .ref v])) (h2:H h=some (.dK (kvN r.hides))) (h3:H v=some (.dK (kvB r.vals))) (n2:h∉dl) (n3:v∉dl) (q:FacesL H dl kvs l):FacesL H dl ((Sum.inr z, .ref a)::kvs) ((z,r)::l)
inductive MakersL (H:Hp):List (Key×V)→List (Str×(Nat×Str))→Prop
 |nil:MakersL H [] []
 |cons {z:Str} {n:Nat} {f:Str} {a:Addr} {kvs:List (Key×V)} {l:List (Str×(Nat×Str))} (h1:H a=some (.tup [.int n, .str f])) (q:MakersL H kvs l):MakersL H ((Sum.inr z, .ref a)::kvs) ((z,(n,f))::l)
def KpS (D:SD)(H H':Hp):Prop:=∀b o,b≠D.s→b∉D.dl→H b=some o→H' b=some o
theorem KpS.refl {D:SD}{H:Hp}:KpS D H H:=fun _ _ _ _ e=>e
theorem KpS.trans {D:SD}{H H1 H2:Hp}(a:KpS D H H1)(b:KpS D H1 H2):KpS D H H2:=fun c o h1 h2 e=>b c o h1 h2 (a c o h1 h2 e)
theorem kps_same {D:SD}{H H':Hp}(e:Same H H'):KpS D H H':=fun b o _ _ h=>e b o h
structure SnL (CS:Addr)(H:Hp)(D:SD)(sn:Sn):Prop where
 ob:H D.s=some (.ins CS D.dx (sfl D))
 nd:(D.s::D.dl).Nodup
 h1:H D.d1=some (.dK (kvN sn.sorts))
 h2:H D.d2=some (.dK (kvN sn.ksize))
 h3:H D.d3=some (.dK (kvS sn.tkind))
 h4:H D.d4=some (.dK (kvN sn.tsize))
 h5:H D.d5=some (.dK (kvN sn.rsize))
 h6:H D.d6=some (.dK (kvB sn.fields))
 h7:∃kvs,H D.d7=some (.dK kvs)∧FacesL H D.dl kvs sn.faces
 h8:H D.d8=some (.dK (kvS sn.parts))
 h9:H D.d9=some (.dK (kvS sn.givers))
 h10:∃kvs,H D.d10=some (.dK kvs)∧MakersL H kvs sn.makers
theorem FacesL.keys {H:Hp}{dl:List Addr}{kvs:List (Key×V)}{l:List (Str×FaceR)}(h:FacesL H dl kvs l):keysK kvs (l.map (·.1)):=by
 unfold keysK
 induction h with
 |nil=>rfl
 |cons _ _ _ _ _ _ ih=>rw[List.map_cons,List.map_cons,List.map_cons,ih]
theorem MakersL.keys {H:Hp}{kvs:List (Key×V)}{l:List (Str×(Nat×Str))}(h:MakersL H kvs l):keysK kvs (l.map (·.1)):=by
 unfold keysK
 induction h with
 |nil=>rfl
 |cons _ _ ih=>rw[List.map_cons,List.map_cons,List.map_cons,ih]
theorem FacesL.keep {H H':Hp}{dl:List Addr}{kvs:List (Key×V)}{l:List (Str×FaceR)}(h:FacesL H dl kvs l)(k:∀b xs,H b=some (.tup xs)→H' b=some (.tup xs))(k2:∀b kv,b∉dl→H b=some (.dK kv)→H' b=some (.dK kv)):FacesL H' dl kvs l:=by
 induction h with
 |nil=>exact .nil
 |cons h1 h2 h3 n2 n3 _ ih=>exact .cons (k _ _ h1) (k2 _ _ n2 h2) (k2 _ _ n3 h3) n2 n3 ih
theorem MakersL.keep {H H':Hp}{kvs:List (Key×V)}{l:List (Str×(Nat×Str))}(h:MakersL H kvs l)(k:∀b xs,H b=some (.tup xs)→H' b=some (.tup xs)):MakersL H' kvs l:=by
 induction h with
 |nil=>exact .nil
 |cons h1 _ ih=>exact .cons (k _ _ h1) ih
theorem SnL.same {CS:Addr}{H H':Hp}{D:SD}{sn:Sn}(S:SnL CS H D sn)(e:Same H H'):SnL CS H' D sn:=by
 obtain⟨k7,h7,f7⟩:=S.h7
 obtain⟨k10,h10,f10⟩:=S.h10
 exact⟨e _ _ S.ob,S.nd,e _ _ S.h1,e _ _ S.h2,e _ _ S.h3,e _ _ S.h4,e _ _ S.h5,e _ _ S.h6,⟨k7,e _ _ h7,f7.keep (fun b xs h=>e b _ h) (fun b kv _ h=>e b _ h)⟩,e _ _ S.h8,e _ _ S.h9,⟨k10,e _ _ h10,f10.keep fun b xs h=>e b _ h⟩⟩
theorem FacesL.val {H:Hp}{dl:List Addr}{kvs:List (Key×V)}{l:List (Str×FaceR)}(h:FacesL H dl kvs l)(z:Str):
  (l.lookup z=none∧valV kvs (Sum.inr z)=none)∨∃(r:FaceR) (a hh v:Addr),l.lookup z=some r∧valV kvs (Sum.inr z)=some (.ref a)∧H a=some (.tup [.int r.n, .ref hh, .ref v])∧H hh=some (.dK (kvN r.hides))∧H v=some (.dK (kvB r.vals))∧hh∉dl∧v∉dl:=by
 induction h with
 |nil=>exact .inl ⟨rfl,rfl⟩
 |@cons x r a hh v kvs l h1 h2 h3 n2 n3 _ ih=>
  rw[List.lookup_cons]
  cases e:z==x with
  |true=>
   have:x=z:=(beq_iff_eq.mp e).symm
   exact .inr ⟨r,a,hh,v,rfl,by rw[valV_pos (by rw[this])],h1,h2,h3,n2,n3⟩
  |false=>
   have:x≠z:=fun h=>by rw[h]at e;simp at e
   rw[valV_neg (fun h=>this (Sum.inr.inj h))]
   exact ih
theorem MakersL.val {H:Hp}{kvs:List (Key×V)}{l:List (Str×(Nat×Str))}(h:MakersL H kvs l)(z:Str):
  (l.lookup z=none∧valV kvs (Sum.inr z)=none)∨∃(n:Nat) (f:Str) (a:Addr),l.lookup z=some (n,f)∧valV kvs (Sum.inr z)=some (.ref a)∧H a=some (.tup [.int n, .str f]):=by
 induction h with
 |nil=>exact .inl ⟨rfl,rfl⟩
 |@cons x n f a kvs l h1 _ ih=>
  rw[List.lookup_cons]
  cases e:z==x with
  |true=>
   have:x=z:=(beq_iff_eq.mp e).symm
   exact .inr ⟨n,f,a,rfl,by rw[valV_pos (by rw[this])],h1⟩
  |false=>
   have:x≠z:=fun h=>by rw[h]at e;simp at e
   rw[valV_neg (fun h=>this (Sum.inr.inj h))]
   exact ih
def greatM (sn:Sn)(z:Str):Ex Unit:=onceM (decide (z∈sn.faces.map (·.1))||(decide (z∈sn.parts.map (·.1))||(decide (z∈sn.makers.map (·.1))||decide (z∈sn.givers.map (·.1)))))
inductive spGreatN (CS:Addr)(CL:Flt→Addr)(vs:List V)(H:Hp)(Q:VK)(E:XK):Prop where
 |mk (D:SD) (sn:Sn) (z:Str):vs=[.ref D.s, .str z]→SnL CS H D sn→z.length≤100000→Out CL H E (greatM sn z) (fun _ H'=>Q .non H')→spGreatN CS CL vs H Q E
inductive spFaceOf (CS:Addr)(CL:Flt→Addr)(vs:List V)(H:Hp)(Q:VK)(E:XK):Prop where
 |mk (D:SD) (sn:Sn) (z:Str):vs=[.ref D.s, .str z]→SnL CS H D sn→z.length≤100000→Out CL H E (faceOf sn z) (fun f H'=>Q (.str f) H')→spFaceOf CS CL vs H Q E
structure PthOk (z:Str):Prop where
 len:z.length≤100000
 spl:Txt.split z "."=[(pathL z).1,(pathL z).2]
 l1:(pathL z).1.length≤100000
 l2:(pathL z).2.length≤100000
def FcOk (sn:Sn)(z:Str):Prop:=∀f,faceOf sn z=.ok f→(sn.faces.lookup f).isSome=true
inductive spHideC (CS:Addr)(CL:Flt→Addr)(vs:List V)(H:Hp)(Q:VK)(E:XK):Prop where
 |mk (D:SD) (sn:Sn) (z:Str):vs=[.ref D.s, .str z]→SnL CS H D sn→PthOk z→FcOk sn (pathL z).1→Out CL H E (hideM sn z) (fun n H'=>Q (.int (n:Int)) H')→spHideC CS CL vs H Q E
inductive spUsesV (CS:Addr)(CL:Flt→Addr)(vs:List V)(H:Hp)(Q:VK)(E:XK):Prop where
 |mk (D:SD) (sn:Sn) (z:Str):vs=[.ref D.s, .str z]→SnL CS H D sn→PthOk z→FcOk sn (pathL z).1→Out CL H E (valM sn z) (fun _ H'=>Q .non H')→spUsesV CS CL vs H Q E
section
variable {P:Program}{w:World}{K:PySem.W.Frag}{mg:Str→Option Value}{base:Heap}{f CS fF:Addr}{CL:Flt→Addr}{fd gF:FuncData}{bm:List Value}{newId B initId:String}
abbrev s_ng:Stmt:=inClass (top 19) 1
abbrev s_fo:Stmt:=inClass (top 19) 2
abbrev s_ch:Stmt:=inClass (top 19) 3
abbrev s_uv:Stmt:=inClass (top 19) 4
theorem sc_ng:FnScope ["self","word","there"] ["self","word"] (defScope s_ng):=⟨rfl,rfl,rfl,by decide+kernel,rfl,by decide+kernel,by decide+kernel⟩
theorem sc_fo:FnScope ["self","part"] ["self","part"] (defScope s_fo):=⟨rfl,rfl,rfl,by decide+kernel,rfl,by decide+kernel,by decide+kernel⟩
theorem sc_ch:FnScope ["self","path","sides"] ["self","path"] (defScope s_ch):=⟨rfl,rfl,rfl,by decide+kernel,rfl,by decide+kernel,by decide+kernel⟩
theorem sc_uv:FnScope ["self","path","sides"] ["self","path"] (defScope s_uv):=⟨rfl,rfl,rfl,by decide+kernel,rfl,by decide+kernel,by decide+kernel⟩
theorem ok_fo (F:Fun K "face_of" "Seen.face_of" s_fo f fd)(Tx:TxS K CS)(h1:HasX P w K mg base 2 "use" ["word","there"] (spUse CL)):FnOk P w K mg base (CXF P w) 3 f fd ["self","part"] (spFaceOf CS CL):=by
 refine F.okX sc_fo (fun cdv A outer s H vs Q E hr h=>?_)
 have hu:=hu_of hr
 obtain⟨D,sn,z,rfl,S,hz,q⟩:=h
 obtain⟨f1,g1,G1,b1,k1,m1⟩:=h1
 refine⟨_,pss_cons (ps_if (pt_cmp (pc_din hu (pv 1) (fldK K (pv 0) rfl)) rfl) (pss_one (ps_ret (pe_dget hu (fldK K (pv 0) rfl) (pv 1)))) pss_nil)
  (pss_one (ps_ret (pe_call G1 (hr.mono (by decide)) rfl m1 k1 b1 .nil passes_up (pa_cons (pv 1) (pa_cons (fldK K (pv 0) rfl) pa_nil))))),?_⟩
 refine⟨_,rfl,_,rfl,D.s,CS,D.dx,_,_,rfl,S.ob,Tx.cs,Tx.n9,fl9 D,D.d9,_,rfl, .inl ⟨_,Sum.inr z, .inl S.h9,rfl,rfl⟩,_,rfl,?_⟩
 rw[val_kvS]
 unfold faceOf at q
 cases e:sn.givers.lookup z with
 |some f=>
  rw[e]at q
  exact iteT ⟨_,rfl,D.s,CS,D.dx,_,_,rfl,S.ob,Tx.cs,Tx.n9,fl9 D,_,rfl,D.d9, .str f,rfl, .inl ⟨_,Sum.inr z, .inl S.h9,rfl,by rw[val_kvS,e];rfl⟩,q H (Same.refl H)⟩
 |none=>
  rw[e]at q
  refine iteF ⟨_,rfl,_,rfl,D.s,CS,D.dx,_,_,rfl,S.ob,Tx.cs,Tx.n8,fl8 D,z,D.d8,_,_,rfl,hz,S.h8,keys_map V.str sn.parts,?_⟩
  rw[val_kvS]
  cases e2:sn.parts.lookup z with
  |none=>rw[e2]at q;exact q
  |some f=>rw[e2]at q;exact q
theorem ok_ng (F:Fun K "names_great" "Seen.names_great" s_ng f fd)(Tx:TxS K CS)(h1:HasX P w K mg base 1 "name_once" ["word","there"] (spOnce CL)):FnOk P w K mg base (CXF P w) 2 f fd ["self","word"] (spGreatN CS CL):=by
 refine F.okX sc_ng (fun cdv A outer s H vs Q E hr h=>?_)
 obtain⟨D,sn,z,rfl,S,hz,q⟩:=h
 obtain⟨f1,g1,G1,b1,k1,m1⟩:=h1
 refine⟨_,pss_one (ps_for PassesOwn.leaving rfl (piT K (pe_tup (pa_cons (fldK K (pv 0) rfl) (pa_cons (fldK K (pv 0) rfl) (pa_cons (fldK K (pv 0) rfl) (pa_cons (fldK K (pv 0) rfl) pa_nil)))))) (pg_name (i:=2) sc_ng.nd rfl (Or.inl rfl))
  (pss_one (ps_expr (pe_call G1 (hr.mono (by decide)) rfl m1 k1 b1 .nil passes_up (pa_cons (pv 1) (pa_cons (pv 2) pa_nil)))))),?_⟩
 obtain⟨k7,h7,f7⟩:=S.h7
 obtain⟨k10,h10,f10⟩:=S.h10
 refine⟨_,rfl,D.s,CS,D.dx,_,_,rfl,S.ob,Tx.cs,Tx.n7,fl7 D,_,rfl,D.s,CS,D.dx,_,_,rfl,S.ob,Tx.cs,Tx.n8,fl8 D,_,rfl,D.s,CS,D.dx,_,_,rfl,S.ob,Tx.cs,Tx.n10,fl10 D,_,rfl,D.s,CS,D.dx,_,_,rfl,S.ob,Tx.cs,Tx.n9,fl9 D,sml 4,fun p hp=>⟨p,rfl,⟨_,SqT.of upd_same⟩,?_⟩⟩
 have e0:=same_new hp (.tup [V.ref D.d7, .ref D.d8, .ref D.d10, .ref D.d9])
 have k0:(upd H p (.tup [V.ref D.d7, .ref D.d8, .ref D.d10, .ref D.d9])) p=some (.tup [V.ref D.d7, .ref D.d8, .ref D.d10, .ref D.d9]):=upd_same
 revert e0 k0
 show Same H (upd H p (.tup [V.ref D.d7, .ref D.d8, .ref D.d10, .ref D.d9]))→_
 generalize upd H p (.tup [V.ref D.d7, .ref D.d8, .ref D.d10, .ref D.d9])=H0
 intro e0 k0
 have M:∀{H':Hp},Same H H'→MemV H' (.ref D.d7) (sn.faces.map (·.1))∧MemV H' (.ref D.d8) (sn.parts.map (·.1))∧MemV H' (.ref D.d10) (sn.makers.map (·.1))∧MemV H' (.ref D.d9) (sn.givers.map (·.1)):=fun e=>⟨.dk (e _ _ h7) f7.keys, .dk (e _ _ S.h8) (keys_map V.str _), .dk (e _ _ h10) f10.keys, .dk (e _ _ S.h9) (keys_map V.str _)⟩
 have bad:∀{zs:List Str},(greatM sn z=.error .tw∨z∉zs)→∀{H':Hp} {v:V} {W:VK},Same H H'→MemV H' v zs→(z∉zs→∀H2,Same H' H2→W .non H2)→spOnce CL [.str z,v] H' W E:=fun{zs} hh {H' v W} e m hW=>by
  refine .mk z v zs rfl hz m ?_
  unfold onceM
  by_cases c:z∈zs
  ·rw[decide_eq_true c,if_pos rfl]
   rcases hh with hh|hh
   ·rw[hh]at q
    exact fun ea H2 s2=>q ea H2 (e.trans s2)
   ·exact absurd c hh
  ·rw[decide_eq_false c,if_neg Bool.false_ne_true]
   exact fun H2 s2=>hW c H2 s2
 have gt:∀{b:Bool},b=true→onceM b=.error .tw:=fun h=>by rw[h];rfl
 refine for_tup (xs:=[V.ref D.d7, .ref D.d8, .ref D.d10, .ref D.d9]) (fun i σ H'=>Same H H'∧H' p=some (.tup [V.ref D.d7, .ref D.d8, .ref D.d10, .ref D.d9])∧(∃o,σ=[some (.ref D.s),some (.str z),o])∧(1≤i→z∉sn.faces.map (·.1))∧(2≤i→z∉sn.parts.map (·.1))∧(3≤i→z∉sn.makers.map (·.1))∧(4≤i→z∉sn.givers.map (·.1)))
  ⟨e0,k0,⟨_,rfl⟩,fun h=>by omega,fun h=>by omega,fun h=>by omega,fun h=>by omega⟩ ?_ ?_ ?_
 ·rintro i σ H' _ ⟨e,k,_⟩
  exact SqT.of k
 ·rintro i x σ H' hx ⟨e,k,⟨o,rfl⟩,c1,c2,c3,c4⟩
  have hh:∀{zs:List Str},(z∈zs→(decide (z∈sn.faces.map (·.1))||(decide (z∈sn.parts.map (·.1))||(decide (z∈sn.makers.map (·.1))||decide (z∈sn.givers.map (·.1)))))=true)→(greatM sn z=.error .tw∨z∉zs):=fun{zs} h=>by
   by_cases c:z∈zs
   ·exact .inl (gt (h c))
   ·exact .inr c
  obtain⟨m1,m2,m3,m4⟩:=M e
  match i,hx,c1,c2,c3,c4 with
  |0,hx,c1,c2,c3,c4=>
   cases hx
   exact⟨_,rfl,_,rfl,bad (hh fun c=>by simp only[decide_eq_true c,Bool.true_or]) e m1 fun n H2 s2=>⟨e.trans s2,s2 _ _ k,⟨_,rfl⟩,fun _=>n,fun h=>by omega,fun h=>by omega,fun h=>by omega⟩⟩
  |1,hx,c1,c2,c3,c4=>
   cases hx
   exact⟨_,rfl,_,rfl,bad (hh fun c=>by simp only[decide_eq_true c,Bool.true_or,Bool.or_true]) e m2 fun n H2 s2=>⟨e.trans s2,s2 _ _ k,⟨_,rfl⟩,fun _=>c1 (by omega),fun _=>n,fun h=>by omega,fun h=>by omega⟩⟩
  |2,hx,c1,c2,c3,c4=>
   cases hx
   exact⟨_,rfl,_,rfl,bad (hh fun c=>by simp only[decide_eq_true c,Bool.true_or,Bool.or_true]) e m3 fun n H2 s2=>⟨e.trans s2,s2 _ _ k,⟨_,rfl⟩,fun _=>c1 (by omega),fun _=>c2 (by omega),fun _=>n,fun h=>by omega⟩⟩
  |3,hx,c1,c2,c3,c4=>
   cases hx
   exact⟨_,rfl,_,rfl,bad (hh fun c=>by simp only[decide_eq_true c,Bool.true_or,Bool.or_true]) e m4 fun n H2 s2=>⟨e.trans s2,s2 _ _ k,⟨_,rfl⟩,fun _=>c1 (by omega),fun _=>c2 (by omega),fun _=>c3 (by omega),fun _=>n⟩⟩
  |i+4,hx,_,_,_,_=>cases hx
 ·rintro σ H' ⟨e,k,_,c1,c2,c3,c4⟩
  have:greatM sn z=.ok ():=by
   unfold greatM
   rw[decide_eq_false (c1 (show 1≤4 by decide)),decide_eq_false (c2 (show 2≤4 by decide)),decide_eq_false (c3 (show 3≤4 by decide)),decide_eq_false (c4 (show 4≤4 by decide))]
   rfl
  rw[this]at q
  exact q H' e
end
theorem nfl1 (D:SD):(sfl D).lookup ("face_of":Str)=none:=by first|rfl|(with_unfolding_all rfl)|kernel_rfl
theorem nfl2 (D:SD):(sfl D).lookup ("names_great":Str)=none:=by first|rfl|(with_unfolding_all rfl)|kernel_rfl
theorem nfl3 (D:SD):(sfl D).lookup ("count_of_hide":Str)=none:=by first|rfl|(with_unfolding_all rfl)|kernel_rfl
theorem nfl4 (D:SD):(sfl D).lookup ("uses_val":Str)=none:=by first|rfl|(with_unfolding_all rfl)|kernel_rfl
theorem nw {H:Hp}{p:Addr}(h:H p=none)(o:HO):∃H1,upd H p o=H1∧Same H H1∧H1 p=some o:=⟨_,rfl,same_new h o,upd_same⟩
theorem path_ok {z:Str}(h:pathB z=true)(hl:z.length≤100000):PthOk z∧greatB (pathL z).1=true∧nameB (pathL z).2=true:=by
 unfold pathB at h
 have es:=split_eq z 46
 cases e:splL 46 z.cps.toList with
 |nil=>rw[e]at h;cases h
 |cons a r=>
  cases r with
  |nil=>rw[e]at h;cases h
  |cons b r=>
   cases r with
   |cons c r=>rw[e]at h;cases h
   |nil=>
    rw[e]at h es
    have h:(greatB ⟨a.toArray⟩&&nameB ⟨b.toArray⟩)=true:=h
    rw[Bool.and_eq_true]at h
    have ep:pathL z=(⟨a.toArray⟩,⟨b.toArray⟩):=by unfold pathL;rw[e]
    have spl:Txt.split z "."=[⟨a.toArray⟩,⟨b.toArray⟩]:=by
     have ed:(".":Str)=⟨#[46]⟩:=by decide+kernel
     rw[ed]
     match hx:Txt.split z ⟨#[46]⟩,es with
     |[x,y],es=>
      have e1:x.cps.toList=a:=(List.cons.inj es).1
      have e2:y.cps.toList=b:=(List.cons.inj (List.cons.inj es).2).1
      rw[show x=⟨a.toArray⟩ from str_ext (by rw[e1]),show y=⟨b.toArray⟩ from str_ext (by rw[e2])]
     |[],es=>cases es
     |[x],es=>cases es
     |x::y::u::r,es=>cases es
    have g8:(⟨a.toArray⟩:Str).length≤100000:=by
     obtain⟨c,r,e1,_,_,_,hl⟩:=great_parts h.1
     rw[←len_toList,e1,List.length_cons];omega
    have n8:(⟨b.toArray⟩:Str).length≤100000:=by
     obtain⟨n,hl,_,h8,_⟩:=name_let h.2
     rw[hl.len];omega
    exact⟨⟨hl,by rw[ep];exact spl,by rw[ep];exact g8,by rw[ep];exact n8⟩,by rw[ep];exact h.1,by rw[ep];exact h.2⟩
section
variable {P:Program}{w:World}{K:PySem.W.Frag}{mg:Str→Option Value}{base:Heap}{f CS fF:Addr}{CL:Flt→Addr}{fd gF:FuncData}{bm:List Value}{newId B initId:String}
set_option maxHeartbeats 1000000 in
theorem ok_ch (F:Fun K "count_of_hide" "Seen.count_of_hide" s_ch f fd)(Tx:TxS K CS)(h1:HasX P w K mg base 2 "use" ["word","there"] (spUse CL))(MF:Meth K CS "face_of" fF)(GF:FnOk P w K mg base (CXF P w) 3 fF gF ["self","part"] (spFaceOf CS CL))(bF:Binds K gF ["self","part"] []):
  FnOk P w K mg base (CXF P w) 4 f fd ["self","path"] (spHideC CS CL):=by
 refine F.okX sc_ch (fun cdv A outer s H vs Q E hr h=>?_)
 have hu:=hu_of hr
 obtain⟨D,sn,z,rfl,S,pz,fc,q⟩:=h
 obtain⟨f1,g1,G1,b1,k1,m1⟩:=h1
 refine⟨_,pss_cons (pset 2 sc_ch.nd (pe_bm PySem.F.plainAttrs_str PySem.F.slot_str_split PySem.F.type_str_split mt_split (pv 1) (pa_cons pe_str pa_nil)))
  (pss_one (ps_ret (pe_call G1 (hr.mono (by decide)) rfl m1 k1 b1 .nil passes_up (pa_cons (pe_ix (ixL K) (pv 2) pe_int) (pa_cons (pe_ix (ixT K) (pe_dget hu (fldK K (pv 0) rfl) (pe_meth (pv 0) Tx.cs MF GF hr bF .nil passes_up (pa_cons (pe_ix (ixL K) (pv 2) pe_int) pa_nil))) pe_int) pa_nil))))),?_⟩
 refine⟨_,rfl,rfl,z,".",rfl,rfl,small (Nat.le_trans pz.len (by decide)),by decide+kernel,by rw[pz.spl];exact sml 2,fun l hl=>?_⟩
 rw[pz.spl]
 obtain⟨H1,eN,s1,b1'⟩:=nw hl (.lst ([(pathL z).1,(pathL z).2].map V.str))
 rw[eN]
 have S1:=S.same s1
 have bl:SqL K H1 l [.str (pathL z).1, .str (pathL z).2]:=SqL.of b1'
 refine⟨_,rfl,l,_,1, .str (pathL z).2,rfl,rfl,bl,rfl,?_⟩
 refine⟨_,rfl,D.s,CS,D.dx,_,_,rfl,S1.ob,Tx.cs,Tx.n7,fl7 D,?_⟩
 refine⟨_,rfl,D.s,D.dx,_,rfl,S1.ob,nfl1 D,_,rfl,l,_,0, .str (pathL z).1,rfl,rfl,bl,rfl,D,sn,_,rfl,S1,pz.l1,?_⟩
 unfold hideM at q
 cases e:faceOf sn (pathL z).1 with
 |error fl=>
  rw[e]at q
  exact fun ea H2 s2=>q ea H2 (s1.trans s2)
 |ok fc'=>
  rw[e]at q
  have hs:=fc _ e
  intro H2 s2
  have S2:=S1.same s2
  obtain⟨k7,h7,f7⟩:=S2.h7
  rcases f7.val fc' with ⟨n1,_⟩|⟨r,a,hh,v,l1,l2,t1,t2,t3,_⟩
  ·rw[n1]at hs;cases hs
  ·refine⟨D.d7, .ref a,rfl, .inl ⟨k7,Sum.inr fc', .inl h7,rfl,l2.symm⟩,a,_,1, .ref hh,rfl,rfl,SqT.of t1,rfl,?_⟩
   refine⟨(pathL z).2,hh,_,_,rfl,pz.l2,t2,keys_map (fun n:Nat=>V.int n) r.hides,?_⟩
   rw[val_kvN]
   have q:Out CL H E (match sn.faces.lookup fc' with|some r=>look .nn (r.hides.lookup (pathL z).2)|none=>.error .nn) (fun n H'=>Q (.int (n:Int)) H'):=q
   rw[l1]at q
   have q:Out CL H E (look .nn (r.hides.lookup (pathL z).2)) (fun n H'=>Q (.int (n:Int)) H'):=q
   cases e3:r.hides.lookup (pathL z).2 with
   |none=>rw[e3]at q;exact fun ea H3 s3=>q ea H3 ((s1.trans s2).trans s3)
   |some n=>rw[e3]at q;exact fun H3 s3=>q H3 ((s1.trans s2).trans s3)
set_option maxHeartbeats 1000000 in
theorem ok_uv (F:Fun K "uses_val" "Seen.uses_val" s_uv f fd)(Tx:TxS K CS)(h1:HasX P w K mg base 1 "be_there" ["word","there"] (spThere CL))(MF:Meth K CS "face_of" fF)(GF:FnOk P w K mg base (CXF P w) 3 fF gF ["self","part"] (spFaceOf CS CL))(bF:Binds K gF ["self","part"] []):
  FnOk P w K mg base (CXF P w) 4 f fd ["self","path"] (spUsesV CS CL):=by
 refine F.okX sc_uv (fun cdv A outer s H vs Q E hr h=>?_)
 have hu:=hu_of hr
 obtain⟨D,sn,z,rfl,S,pz,fc,q⟩:=h
 obtain⟨f1,g1,G1,b1,k1,m1⟩:=h1
 refine⟨_,pss_cons (pset 2 sc_uv.nd (pe_bm PySem.F.plainAttrs_str PySem.F.slot_str_split PySem.F.type_str_split mt_split (pv 1) (pa_cons pe_str pa_nil)))
  (pss_one (ps_expr (pe_call G1 (hr.mono (by decide)) rfl m1 k1 b1 .nil passes_up (pa_cons (pe_ix (ixL K) (pv 2) pe_int) (pa_cons (pe_ix (ixT K) (pe_dget hu (fldK K (pv 0) rfl) (pe_meth (pv 0) Tx.cs MF GF hr bF .nil passes_up (pa_cons (pe_ix (ixL K) (pv 2) pe_int) pa_nil))) pe_int) pa_nil))))),?_⟩
 refine⟨_,rfl,rfl,z,".",rfl,rfl,small (Nat.le_trans pz.len (by decide)),by decide+kernel,by rw[pz.spl];exact sml 2,fun l hl=>?_⟩
 rw[pz.spl]
 obtain⟨H1,eN,s1,b1'⟩:=nw hl (.lst ([(pathL z).1,(pathL z).2].map V.str))
 rw[eN]
 have S1:=S.same s1
 have bl:SqL K H1 l [.str (pathL z).1, .str (pathL z).2]:=SqL.of b1'
 refine⟨_,rfl,l,_,1, .str (pathL z).2,rfl,rfl,bl,rfl,?_⟩
 refine⟨_,rfl,D.s,CS,D.dx,_,_,rfl,S1.ob,Tx.cs,Tx.n7,fl7 D,?_⟩
 refine⟨_,rfl,D.s,D.dx,_,rfl,S1.ob,nfl1 D,_,rfl,l,_,0, .str (pathL z).1,rfl,rfl,bl,rfl,D,sn,_,rfl,S1,pz.l1,?_⟩
 unfold valM at q
 cases e:faceOf sn (pathL z).1 with
 |error fl=>
  rw[e]at q
  exact fun ea H2 s2=>q ea H2 (s1.trans s2)
 |ok fc'=>
  rw[e]at q
  have hs:=fc _ e
  intro H2 s2
  have S2:=S1.same s2
  obtain⟨k7,h7,f7⟩:=S2.h7
  rcases f7.val fc' with ⟨n1,_⟩|⟨r,a,hh,v,l1,l2,t1,t2,t3,_⟩
  ·rw[n1]at hs;cases hs
  ·refine⟨D.d7, .ref a,rfl, .inl ⟨k7,Sum.inr fc', .inl h7,rfl,l2.symm⟩,a,_,2, .ref v,rfl,rfl,SqT.of t1,rfl,?_⟩
   refine⟨(pathL z).2, .ref v,_,rfl,pz.l2, .dk t3 (keys_kvB r.vals),?_⟩
   have q:Out CL H E (match sn.faces.lookup fc' with|some r=>thereM (decide ((pathL z).2∈r.vals))|none=>.error .nn) (fun _ H'=>Q .non H'):=q
   rw[l1]at q
   have q:Out CL H E (thereM (decide ((pathL z).2∈r.vals))) (fun _ H'=>Q .non H'):=q
   cases e3:thereM (decide ((pathL z).2∈r.vals)) with
   |error n=>rw[e3]at q;exact fun ea H3 s3=>q ea H3 ((s1.trans s2).trans s3)
   |ok n=>rw[e3]at q;exact fun H3 s3=>q H3 ((s1.trans s2).trans s3)
end
def headT:T→List T
 |.tup l=>l
 |t=>[t]
def openB (z:Str):Bool:=decide (z.cps.toList.head?=some 63)
def takenM (sn:Sn)(hl:List (Str×Nat))(z:Str):Ex Nat :=
 if pathB z=true then hideM sn z else match hl.lookup z with
  |some n=>.ok n
  |none=>look .nn (sn.sorts.lookup z)
def kwM (sn:Sn)(hl:List (Str×Nat))(vars:Option (List Str))(z:Str)(n:Nat):Ex Unit :=
 if(decide (z="num")||decide (z="->"))=true then .ok ()
 else if openB z=true then(match vars with|none=>.ok ()|some vs=>thereM (decide (z∈vs)))
 else(takenM sn hl z).bind fun m=>sameM m n
inductive WfK:T→Prop where
 |w {z:Str}:z.length≤100000→WfK (.str z)
 |a {z:Str} {l:List T}:z.length≤100000→l≠[]→(∀t∈l,WfK t)→WfK (.tup (.str z::l))
def runK (sn:Sn)(hl:List (Str×Nat))(vars:Option (List Str)):Nat→List T→Option (Ex Unit)
 |0,_=>none
 |_+1,[]=>some (.ok ())
 |n+1,t::r=>match headT t with
  |.str z::l=>(match kwM sn hl vars z l.length with
   |.ok _=>runK sn hl vars n (l++r)
   |.error f=>some (.error f))
  |_=>none
inductive spHd (vs:List V)(H:Hp)(Q:VK)(E_:XK):Prop where
 |mk (v:V) (t:T):vs=[v]→Rep H v t→(∀p us H',Same H H'→H' p=some (.tup us)→Reps H' us (headT t)→(us≠[v]→v=.ref p)→Q (.ref p) H')→spHd vs H Q E_
inductive spOpen (vs:List V)(H:Hp)(Q:VK)(E_:XK):Prop where
 |mk (z:Str):vs=[.str z]→(∀H',Same H H'→Q (.bl (openB z)) H')→spOpen vs H Q E_
def VarsV (H:Hp)(v:V):Option (List Str)→Prop
 |none=>v=.non
 |some vs=>∃a,v=.ref a∧H a=some (.dK (kvB vs))
theorem VarsV.same {H H':Hp}{v:V}{o:Option (List Str)}(h:VarsV H v o)(e:Same H H'):VarsV H' v o:=by
 cases o with
 |none=>exact h
 |some vs=>obtain⟨a,h1,h2⟩:=h;exact⟨a,h1,e _ _ h2⟩
inductive spTaken (CS:Addr)(CL:Flt→Addr)(vs:List V)(H:Hp)(Q:VK)(E:XK):Prop where
 |mk (D:SD) (sn:Sn) (z:Str) (h:Addr) (hl:List (Str×Nat)):vs=[.ref D.s, .str z, .ref h]→SnL CS H D sn→z.length≤100000→H h=some (.dK (kvN hl))→(pathB z=true→FcOk sn (pathL z).1)→Out CL H E (takenM sn hl z) (fun n H'=>Q (.int (n:Int)) H')→spTaken CS CL vs H Q E
inductive spKw (CS:Addr)(CL:Flt→Addr)(vs:List V)(H:Hp)(Q:VK)(E:XK):Prop where
 |mk (D:SD) (sn:Sn) (z:Str) (n:Nat) (h:Addr) (hl:List (Str×Nat)) (v:V) (vars:Option (List Str)):vs=[.ref D.s, .str z, .int (n:Int), .ref h,v]→SnL CS H D sn→z.length≤100000→n<1000000→(∀m,takenM sn hl z=.ok m→m<1000000)→H h=some (.dK (kvN hl))→VarsV H v vars→(pathB z=true→FcOk sn (pathL z).1)→Out CL H E (kwM sn hl vars z n) (fun _ H'=>Q .non H')→spKw CS CL vs H Q E
section
variable {P:Program}{w:World}{K:PySem.W.Frag}{mg:Str→Option Value}{base:Heap}{f CS fC:Addr}{CL:Flt→Addr}{fd gC:FuncData}{bm:List Value}{newId B initId:String}
abbrev s_headed:Stmt:=top 1
abbrev s_open:Stmt:=top 2
abbrev s_taken:Stmt:=top 36
abbrev s_kw:Stmt:=top 37
abbrev s_kind:Stmt:=top 38
theorem sc_headed:FnScope ["thing"] ["thing"] (defScope s_headed):=⟨rfl,rfl,rfl,by decide+kernel,rfl,by decide+kernel,by decide+kernel⟩
theorem sc_open:FnScope ["thing"] ["thing"] (defScope s_open):=⟨rfl,rfl,rfl,by decide+kernel,rfl,by decide+kernel,by decide+kernel⟩
theorem sc_taken:FnScope ["seen","word","hides"] ["seen","word","hides"] (defScope s_taken):=⟨rfl,rfl,rfl,by decide+kernel,rfl,by decide+kernel,by decide+kernel⟩
theorem sc_kw:FnScope ["seen","word","count","hides","variables"] ["seen","word","count","hides","variables"] (defScope s_kw):=⟨rfl,rfl,rfl,by decide+kernel,rfl,by decide+kernel,by decide+kernel⟩
theorem sc_kind:FnScope ["seen","kind","hides","variables","waiting","thing"] ["seen","kind","hides","variables"] (defScope s_kind):=⟨rfl,rfl,rfl,by decide+kernel,rfl,by decide+kernel,by decide+kernel⟩
theorem ok_headed (F:Fun K "headed" "headed" s_headed f fd)(mi:mg "isinstance"=none)(mt:mg "tuple"=none):FnOk P w K mg base CX0 1 f fd ["thing"] spHd:=by
 refine F.ok sc_headed (fun cdv A outer s H vs Q E hr h=>?_)
 obtain⟨v,t,rfl,rt,q⟩:=h
 refine⟨_,pss_one (ps_ret (pe_ifExp (pt_val (pe_callB call_isi rfl mi boot_isinstance (pa_cons (pv 0) (pa_cons (pe_bltn (v:=.ty "tuple") rfl mt boot_tuple rfl) pa_nil)))) (pv 0) (pe_tup (pa_cons (pv 0) pa_nil)))),?_⟩
 refine⟨_,rfl,v,_,"tuple",_,rfl,rep_ty rt,kit_tup K t,_,rfl,?_⟩
 cases rt with
 |int i=>exact iteF ⟨_,rfl,sml 1,fun p hp=>q p _ _ (same_new hp _) upd_same (.cons (.int i) .nil) (fun h=>absurd rfl h)⟩
 |str z hz=>exact iteF ⟨_,rfl,sml 1,fun p hp=>q p _ _ (same_new hp _) upd_same (.cons (.str z hz) .nil) (fun h=>absurd rfl h)⟩
 |@tup a us ts ha r=>exact iteT ⟨_,rfl,q a us H (Same.refl H) ha r fun _=>rfl⟩
theorem ok_open (F:Fun K "is_open" "is_open" s_open f fd)(mi:mg "isinstance"=none)(ms:mg "str"=none):FnOk P w K mg base CX0 1 f fd ["thing"] spOpen:=by
 refine F.ok sc_open (fun cdv A outer s H vs Q E hr h=>?_)
 obtain⟨z,rfl,q⟩:=h
 refine⟨_,pss_one (ps_ret (pe_and (pe_callB call_isi rfl mi boot_isinstance (pa_cons (pv 0) (pa_cons (pe_bltn (v:=.ty "str") rfl ms boot_str rfl) pa_nil)))
  (pe_one (pe_bm PySem.F.plainAttrs_str PySem.F.slot_str_startswith PySem.F.type_str_startswith mt_startswith (pv 0) (pa_cons pe_str pa_nil))))),?_⟩
 refine⟨_,rfl, .str z,_,"str",_,rfl, .str z,kit_str K (.str z),true,rfl,iteT ?_⟩
 refine⟨_,rfl,rfl,z,_,rfl,rfl,?_⟩
 rw[starts_qm]
 exact q H (Same.refl H)
theorem ok_taken (F:Fun K "kinds_taken" "kinds_taken" s_taken f fd)(Tx:TxS K CS)(h1:Has P w K mg base 4 "is_path" ["thing"] (spT (onStr pathB)))(h2:HasX P w K mg base 2 "use" ["word","there"] (spUse CL))(MC:Meth K CS "count_of_hide" fC)(GC:FnOk P w K mg base (CXF P w) 4 fC gC ["self","path"] (spHideC CS CL))(bC:Binds K gC ["self","path"] []):
  FnOk P w K mg base (CXF P w) 5 f fd ["seen","word","hides"] (spTaken CS CL):=by
 refine F.okX sc_taken (fun cdv A outer s H vs Q E hr h=>?_)
 have hu:=hu_of hr
 obtain⟨D,sn,z,h,hl,rfl,S,hz,hh,fc,q⟩:=h
 obtain⟨f1,g1,G1,b1,k1,m1⟩:=h2
 refine⟨_,pss_cons (ps_if (pt_val (pcall h1 hr (by decide) rfl (pa_cons (pv 1) pa_nil))) (pss_one (ps_ret (pe_meth (pv 0) Tx.cs MC GC hr bC .nil passes_up (pa_cons (pv 1) pa_nil)))) pss_nil)
  (pss_cons (ps_if (pt_cmp (pc_din hu (pv 1) (pv 2)) rfl) (pss_one (ps_ret (pe_dget hu (pv 2) (pv 1)))) pss_nil)
  (pss_one (ps_ret (pe_call G1 (hr.mono (by decide)) rfl m1 k1 b1 .nil passes_up (pa_cons (pv 1) (pa_cons (fldK K (pv 0) rfl) pa_nil)))))),?_⟩
 refine⟨_,rfl,_, .str z,rfl, .str z (by omega),fun H1 s1=>⟨_,rfl,?_⟩⟩
 have S1:=S.same s1
 unfold takenM at q
 show if pathB z=true then _ else _
 cases c:pathB z with
 |true=>
  rw[c,if_pos rfl]at q
  refine iteT ⟨_,rfl,D.s,D.dx,_,rfl,S1.ob,nfl3 D,_,rfl,D,sn,z,rfl,S1,(path_ok c hz).1,fc c,?_⟩
  cases e:hideM sn z with
  |ok n=>rw[e]at q;exact fun H2 s2=>q H2 (s1.trans s2)
  |error n=>rw[e]at q;exact fun ea H2 s2=>q ea H2 (s1.trans s2)
 |false=>
  rw[c,if_neg Bool.false_ne_true]at q
  refine iteF ⟨_,rfl,_,rfl,h,_,rfl, .inl ⟨_,Sum.inr z, .inl (s1 _ _ hh),rfl,rfl⟩,_,rfl,?_⟩
  rw[val_kvN]
  cases e:hl.lookup z with
  |some n=>
   rw[e]at q
   exact iteT ⟨_,rfl,_,rfl,h, .int n,rfl, .inl ⟨_,Sum.inr z, .inl (s1 _ _ hh),rfl,by rw[val_kvN,e];rfl⟩,q H1 s1⟩
  |none=>
   rw[e]at q
   refine iteF ⟨_,rfl,_,rfl,D.s,CS,D.dx,_,_,rfl,S1.ob,Tx.cs,Tx.n1,fl1 D,z,D.d1,_,_,rfl,hz,S1.h1,keys_map (fun n:Nat=>V.int n) _,?_⟩
   rw[val_kvN]
   cases e2:sn.sorts.lookup z with
   |none=>rw[e2]at q;exact fun ea H2 s2=>q ea H2 (s1.trans s2)
   |some n=>rw[e2]at q;exact fun H2 s2=>q H2 (s1.trans s2)
theorem ok_kw (F:Fun K "look_at_kind_word" "look_at_kind_word" s_kw f fd)(va:∃t,mg "ARROW"=some (.str "->" t))(h1:Has P w K mg base 1 "is_open" ["thing"] spOpen)(h2:HasX P w K mg base 1 "count_same" ["word","wanted","count"] (spCount CL))(h3:HasX P w K mg base 5 "kinds_taken" ["seen","word","hides"] (spTaken CS CL))(h4:HasX P w K mg base 1 "be_there" ["word","there"] (spThere CL)):
  FnOk P w K mg base (CXF P w) 6 f fd ["seen","word","count","hides","variables"] (spKw CS CL):=by
 refine F.okX sc_kw (fun cdv A outer s H vs Q E hr h=>?_)
 obtain⟨D,sn,z,n,h,hl,v,vars,rfl,S,hz,hn,hm,hh,hv,fc,q⟩:=h
 obtain⟨f2,g2,G2,b2,k2,m2⟩:=h2
 obtain⟨f3,g3,G3,b3,k3,m3⟩:=h3
 obtain⟨f4,g4,G4,b4,k4,m4⟩:=h4
 obtain⟨t,va⟩:=va
 refine⟨_,pss_cons (ps_if (PW.pt (pw_or (pt_cmpR op_eq (pv 1) pe_str (nomark _)) (pw_or1 (pt_cmpR op_eq (pv 1) (pe_glob (v:=.str "->") rfl va ⟨_,rfl⟩) (nomark _))))) (pss_one ps_retN) pss_nil)
  (pss_one (ps_if (pt_not (pt_val (pcall h1 hr (by decide) rfl (pa_cons (pv 1) pa_nil)))) (pss_one (ps_expr (pe_call G2 (hr.mono (by decide)) rfl m2 k2 b2 .nil passes_up (pa_cons (pv 1) (pa_cons (pe_call G3 (hr.mono (by decide)) rfl m3 k3 b3 .nil passes_up (pa_cons (pv 0) (pa_cons (pv 1) (pa_cons (pv 3) pa_nil)))) (pa_cons (pv 2) pa_nil))))))
   (pss_one (ps_if (pt_cmp (pc_notN (pv 4)) rfl) (pss_one (ps_expr (pe_call G4 (hr.mono (by decide)) rfl m4 k4 b4 .nil passes_up (pa_cons (pv 1) (pa_cons (pv 4) pa_nil))))) pss_nil)))),?_⟩
 unfold kwM at q
 refine⟨_,rfl,rfl,_,rfl,?_⟩
 have rest:z≠"num"→z≠"->"→Out CL H E (if openB z=true then(match vars with|none=>.ok ()|some vs=>thereM (decide (z∈vs))) else(takenM sn hl z).bind fun m=>sameM m n) (fun _ H'=>Q .non H')→tIfS (tNot (tB (tCall spOpen [] E0 (tCons (tVar 1) tNil)))) (tDrop (tCall (spCount CL) [] E (tCons (tVar 1) (tCons (tCall (spTaken CS CL) [] E (tCons (tVar 0) (tCons (tVar 1) (tCons (tVar 3) tNil)))) (tCons (tVar 2) tNil))))) (tIfS (tB (tNotN (tVar 4))) (tDrop (tCall (spThere CL) [] E (tCons (tVar 1) (tCons (tVar 4) tNil)))) tNext) (Ends.of Q) [some (.ref D.s),some (.str z),some (.int (n:Int)),some (.ref h),some v] H:=by
  intro n1 n2 q
  refine⟨_,rfl,z,rfl,fun H1 s1=>⟨_,rfl,?_⟩⟩
  have S1:=S.same s1
  cases c:openB z with
  |true=>
   rw[c,if_pos rfl]at q
   refine iteF ?_
   have hv1:=hv.same s1
   cases vars with
   |none=>
    cases hv1
    exact⟨_,rfl,_,rfl,iteF (q H1 s1)⟩
   |some vs=>
    obtain⟨a,rfl,ha⟩:=hv1
    refine⟨_,rfl,_,rfl,iteT ⟨_,rfl,_,rfl,z, .ref a,vs,rfl,hz, .dk ha (keys_kvB vs),?_⟩⟩
    have q:Out CL H E (thereM (decide (z∈vs))) (fun _ H'=>Q .non H'):=q
    cases e:thereM (decide (z∈vs)) with
    |ok n=>rw[e]at q;exact fun H2 s2=>q H2 (s1.trans s2)
    |error n=>rw[e]at q;exact fun ea H2 s2=>q ea H2 (s1.trans s2)
  |false=>
   rw[c,if_neg Bool.false_ne_true]at q
   refine iteT ⟨_,rfl,_,rfl,_,rfl,_,rfl,D,sn,z,h,hl,rfl,S1,hz,s1 _ _ hh,fc,?_⟩
   cases e:takenM sn hl z with
   |error fl=>rw[e]at q;exact fun ea H2 s2=>q ea H2 (s1.trans s2)
   |ok m=>
    rw[e]at q
    refine fun H2 s2=>⟨_,rfl,z,m,n,rfl,hz,hm m e,hn,?_⟩
    have q:Out CL H E (sameM m n) (fun _ H'=>Q .non H'):=q
    cases e:sameM m n with
    |ok n=>rw[e]at q;exact fun H3 s3=>q H3 ((s1.trans s2).trans s3)
    |error n=>rw[e]at q;exact fun ea H3 s3=>q ea H3 ((s1.trans s2).trans s3)
 by_cases c1:z="num"
 ·subst c1
  have e:decide (V.str "num"=V.str "num")=true:=by simp
  rw[e]
  rw[if_pos (by decide+kernel)]at q
  exact iteT (iteT (q H (Same.refl H)))
 ·have e:decide (V.str z=V.str "num")=false:=decide_eq_false fun h=>c1 (V.str.inj h)
  rw[e]
  refine iteF ⟨_,rfl,rfl,_,rfl,?_⟩
  by_cases c2:z="->"
  ·subst c2
   have e:decide (V.str "->"=V.str "->")=true:=by simp
   rw[e]
   rw[if_pos (by decide+kernel)]at q
   exact iteT (q H (Same.refl H))
  ·have e:decide (V.str z=V.str "->")=false:=decide_eq_false fun h=>c2 (V.str.inj h)
   rw[e]
   rw[if_neg (by rw[decide_eq_false c1,decide_eq_false c2];decide)]at q
   exact iteF (rest c1 c2 q)
end
structure SnG (sn:Sn)(hl:List (Str×Nat)):Prop where
 tk:∀z m,takenM sn hl z=.ok m→m<1000000
 fc:∀p,FcOk sn p
inductive spKind (CS:Addr)(CL:Flt→Addr)(vs:List V)(H:Hp)(Q:VK)(E:XK):Prop where
 |mk (D:SD) (sn:Sn) (v:V) (t:T) (h:Addr) (hl:List (Str×Nat)) (vv:V) (vars:Option (List Str)) (n:Nat) (R:Ex Unit):vs=[.ref D.s,v, .ref h,vv]→SnL CS H D sn→Rep H v t→WfK t→t.sz≤100000→H h=some (.dK (kvN hl))→VarsV H vv vars→SnG sn hl→runK sn hl vars n [t]=some R→Out CL H E R (fun _ H'=>Q .non H')→spKind CS CL vs H Q E
theorem WfK.head {t:T}(h:WfK t):∃z l,headT t=.str z::l∧z.length≤100000∧(∀x∈l,WfK x)∧1+szs l≤t.sz∧(t=.str z∨∃l',t=.tup l'):=by
 cases h with
 |@w z h=>exact⟨z,[],rfl,h,fun x hx=>(by cases hx),(by simp[szs,T.sz]), .inl rfl⟩
 |@a z l h _ q=>exact⟨z,l,rfl,h,q,by simp only[T.sz,szs];omega, .inr ⟨_,rfl⟩⟩
section
variable {P:Program}{w:World}{K:PySem.W.Frag}{mg:Str→Option Value}{base:Heap}{f CS:Addr}{CL:Flt→Addr}{fd:FuncData}
set_option maxHeartbeats 2000000 in
theorem ok_kind (F:Fun K "look_at_kind" "look_at_kind" s_kind f fd)(ml:mg "len"=none)(mL:mg "list"=none)(mr:mg "reversed"=none)(h1:Has P w K mg base 1 "headed" ["thing"] spHd)(h2:HasX P w K mg base 6 "look_at_kind_word" ["seen","word","count","hides","variables"] (spKw CS CL)):
  FnOk P w K mg base (CXF P w) 7 f fd ["seen","kind","hides","variables"] (spKind CS CL):=by
 refine F.okX sc_kind (fun cdv A outer s H vs Q E hr h=>?_)
 obtain⟨D,sn,v,t,h,hl,vv,vars,n,R,rfl,S,rt,wf,hsz,hh,hv,sg,hR,q⟩:=h
 obtain⟨f2,g2,G2,b2,k2,m2⟩:=h2
 refine⟨_,pss_cons (pset 4 sc_kind.nd (pe_lst (pa_cons (pv 1) pa_nil)))
  (pss_one (ps_while PassesOwn.leaving (pt_cmpR op_gt (pe_callB (clen K) rfl ml PySem.boot_len (pa_cons (pv 4) pa_nil)) pe_int (nomark _))
   (pss_cons (pset 5 sc_kind.nd (pcall h1 hr (by decide) rfl (pa_cons (ppop K (pv 4)) pa_nil)))
   (pss_cons (ps_expr (pe_call G2 (hr.mono (by decide)) rfl m2 k2 b2 .nil passes_up (pa_cons (pv 0) (pa_cons (pe_ix (ixT K) (pv 5) pe_int) (pa_cons (pe_op op_sub (pe_callB (clen K) rfl ml PySem.boot_len (pa_cons (pv 5) pa_nil)) pe_int) (pa_cons (pv 2) (pa_cons (pv 3) pa_nil)))))))
   (pss_one (ps_expr (pe_bm PySem.F.plainAttrs_list PySem.F.slot_list_extend PySem.F.type_list_extend mt_extend (pv 4) (pa_cons (pe_listRev rfl rfl mL rfl mr (pe_slice (slT K) (pv 5) (po_some pe_int) po_none)) pa_nil)))))))),?_⟩
 refine⟨_,rfl,sml 1,fun lw hlw=>?_⟩
 have e0:=same_new hlw (.lst [v])
 refine⟨fun m σ H'=>∃(o:Option V) (ws:List V) (ts:List T) (n:Nat),σ=[some (.ref D.s),some v,some (.ref h),some vv,some (.ref lw),o]∧H' lw=some (.lst ws)∧Reps H' ws.reverse ts∧(∀x∈ts,WfK x)∧szs ts≤100000∧runK sn hl vars n ts=some R∧m=szs ts∧Same H H',
  ⟨_,none,[v],[t],n,rfl,upd_same, .cons (rt.same e0) .nil,fun x hx=>by rw[List.mem_singleton.mp hx];exact wf,by simpa[szs] using hsz,hR,rfl,e0⟩,?_⟩
 rintro m σ H1 ⟨o,ws,ts,n1,rfl,hw1,r1,wf1,hs1,hR1,rfl,e1⟩
 have lr:=r1.length
 rw[List.length_reverse]at lr
 have lts:=len_szs ts
 refine⟨_,rfl,lw,ws,rfl, .inl (SqL.of hw1),_,_,rfl,rfl,_,rfl,ite2 (fun c=>?_) (fun c=>?_)⟩
 ·have c1:(0:Int)<ws.length:=of_decide_eq_true c
  cases ts with
  |nil=>exact absurd lr (by intro e;rw[List.length_nil]at e;omega)
  |cons t1 ts=>
  have wsE:∃ws' v1,ws=ws'++[v1]:=by
   rcases List.eq_nil_or_concat ws with e|⟨l,x,e⟩
   ·rw[e]at c1;simp at c1
   ·exact⟨l,x,by rw[e,List.concat_eq_append]⟩
  obtain⟨ws',v1,rfl⟩:=wsE
  rw[List.reverse_append]at r1
  cases r1 with
  |@cons _ _ _ _ rv1 r1=>
  obtain⟨z,l,hd,hz,wl,hszl,_⟩:=(wf1 t1 (by simp)).head
  refine⟨_,fun _ _ h=>h,?_⟩
  refine⟨_,rfl, .inl ⟨rfl,_,SqL.of hw1⟩,lw,_,v1,rfl,rfl,hw1,by simp,?_⟩
  rw[List.dropLast_concat]
  have nlw:H lw=none:=hlw
  have sU:∀(o:HO),Same H (upd H1 lw o):=fun o b x hb=>by
   rw[upd_ne (ne_of_none hb nlw)];exact e1 _ _ hb
  have tU:∀b xs,H1 b=some (.tup xs)→(upd H1 lw (.lst ws')) b=some (.tup xs):=fun b xs hb=>by
   rw[upd_ne (ne_of hb hw1 (by intro z;cases z))];exact hb
  have k2':(upd H1 lw (.lst ws')) lw=some (.lst ws'):=upd_same
  have s2:=sU (.lst ws')
  have rv2:=rv1.mono tU
  have r2:=r1.mono tU
  revert k2' s2 rv2 r2
  generalize upd H1 lw (.lst ws')=H2
  intro k2' s2 rv2 r2
  refine⟨v1,t1,rfl,rv2,fun p us H3 s3 hp rus _=>?_⟩
  rw[hd]at rus
  cases rus with
  |@cons u0 _ us _ ru0 rus=>
  cases ru0 with
  |str _ hz'=>
  have S3:=S.same (s2.trans s3)
  have lus:=rus.length
  have ll:=len_szs l
  have szE:szs (t1::ts)=t1.sz+szs ts:=rfl
  have en:((V.str z::us).length:Int)-1=(l.length:Int):=by rw[List.length_cons];omega
  refine⟨_,rfl,_,rfl,p,_,0, .str z,rfl,rfl,SqT.of hp,atI_nat (j:=0) rfl,_,rfl,p,_,rfl, .inr (SqT.of hp),_,1,rfl,rfl,_,rfl,_,rfl, .mk D sn z l.length h hl vv vars (by rw[←en];rfl) S3 hz (by omega) (sg.tk z) ((s2.trans s3) _ _ hh) (hv.same (s2.trans s3)) (fun _=>sg.fc _) ?_⟩
  cases n1 with
  |zero=>cases hR1
  |succ n1=>
  have hR2:(match headT t1 with
   |.str z::l=>(match kwM sn hl vars z l.length with
    |.ok _=>runK sn hl vars n1 (l++ts)
    |.error f=>some (.error f))
   |_=>none)=some R:=hR1
  rw[hd]at hR2
  cases e:kwM sn hl vars z l.length with
  |error fl=>
   have hR3:(match kwM sn hl vars z l.length with
    |.ok _=>runK sn hl vars n1 (l++ts)
    |.error f=>some (.error f))=some R:=hR2
   rw[e]at hR3
   cases hR3
   exact fun ea H4 s4=>q ea H4 ((s2.trans s3).trans s4)
  |ok u=>
   have hR3:(match kwM sn hl vars z l.length with
    |.ok _=>runK sn hl vars n1 (l++ts)
    |.error f=>some (.error f))=some R:=hR2
   rw[e]at hR3
   have hR3:runK sn hl vars n1 (l++ts)=some R:=hR3
   intro H4 s4
   have hw4:=s4 _ _ (s3 _ _ k2')
   refine⟨_,rfl, .inl ⟨rfl,_,SqL.of hw4⟩,_,rfl,1,rfl,p,_,rfl,SqT.of (s4 _ _ hp),cut1_not (by simp),fun p2 hp2=>?_⟩
   rw[cut1,show List.drop 1 (V.str z::us)=us from rfl]
   obtain⟨H5,eN,s5,k5⟩:=nw hp2 (.tup us)
   rw[eN]
   refine⟨p2,us,rfl,SqT.of k5,fun l3 hl3=>?_⟩
   obtain⟨H6,eN6,s6,k6⟩:=nw hl3 (.lst us.reverse)
   rw[eN6]
   have s46:=(s4.trans s5).trans s6
   have hw6:=(s5.trans s6) _ _ hw4
   have lws:ws'.reverse.length=ts.length:=r1.length
   rw[List.length_reverse]at lws
   have lts2:=len_szs ts
   refine⟨lw,l3,ws',us.reverse,rfl,rfl,hw6,k6,?_,?_⟩
   ·refine Nat.le_trans (m:=200000) ?_ (small (by decide))
    rw[List.length_reverse];omega
   have tU6:∀b xs,H6 b=some (.tup xs)→(upd H6 lw (.lst (ws'++us.reverse))) b=some (.tup xs):=fun b xs hb=>by
    rw[upd_ne (ne_of hb hw6 (by intro z;cases z))];exact hb
   refine⟨szs (l++ts),by rw[szs_app];omega,_,_,l++ts,n1,rfl,upd_same,?_,?_,by rw[szs_app];omega,hR3,rfl,?_⟩
   ·rw[List.reverse_append,List.reverse_reverse]
    exact((rus.same s46).append (r2.same (s3.trans s46))).mono tU6
   ·intro x hx
    rcases List.mem_append.mp hx with hx|hx
    ·exact wl x hx
    ·exact wf1 x (List.mem_cons_of_mem _ hx)
   ·intro b o hb
    rw[upd_ne (ne_of_none hb nlw)]
    exact(s2.trans (s3.trans s46)) _ _ hb
 ·have c1:¬(0:Int)<ws.length:=fun h=>c (decide_eq_true h)
  cases ts with
  |cons t1 ts=>rw[List.length_cons]at lr;omega
  |nil=>
   cases n1 with
   |zero=>cases hR1
   |succ n1=>
    cases hR1
    exact q H1 e1
end
structure Stp where
 k:Nat
 t:T
 ns:List Str
abbrev ph (ns:List Str)(t:T):Stp:=⟨0,t,ns⟩
def fnNm:T→Option Str
 |.tup (.str g::_)=>some g
 |_=>none
def mapO {α β:Type}(f:α→Option β):List α→Option (List β)
 |[]=>some []
 |a::r=>match f a,mapO f r with
  |some b,some bs=>some (b::bs)
  |_,_=>none
def strT:T→Option Str
 |.str z=>some z
 |_=>none
def heads (l:List T):List T:=(List.range l.length).map fun k=>.tup (l.take (k+1))
def tagM (sn:Sn)(z:Str)(n:Nat):Ex Unit:=(look .nn (sn.tsize.lookup z)).bind fun m=>sameM m n
abbrev Rs:=Option (Ex (List Stp))
def okS (r:Ex Unit)(ss:List Stp):Rs:=some (match r with|.ok _=>.ok ss|.error f=>.error f)
def formM (sn:Sn)(ns:List Str):Nat→List T→Rs
 |0, .str x::r=>some (.ok (r.map (ph (ns++[x]))))
 |1, .str x::a::r=>some (.ok (ph ns a::r.map (ph (ns++[x]))))
 |2, .tup fs::r=>match mapO fnNm fs with
  |some gs=>some (.ok ((heads fs).map (fun t=>⟨1,t,ns++gs⟩)++r.map (ph (ns++gs))))
  |none=>none
 |3,a::arms=>some (.ok (ph ns a::((heads arms).map (fun t=>⟨2,t,ns⟩)++[⟨3, .tup arms,ns⟩])))
 |4, .str x::r=>okS ((look .nn (sn.rsize.lookup x)).bind fun m=>sameM m r.length) (r.map (ph ns))
 |5, .str x::r=>okS (thereM (decide (x∈sn.fields))) (r.map (ph ns))
 |_,_=>none
def formsP:List (Str×Nat):=[("fun",0),("let",1),("ring",2),("case",3),("make",4),("pick",5)]
def wordM (sn:Sn)(ns:List Str)(z:Str):Ex Unit:=if pathB z=true then valM sn z else thereM (decide (z∈ns))
def stepP (sn:Sn)(ns:List Str):T→Rs
 |.int _=>some (.ok [])
 |.str z=>if greatB z=true then okS (tagM sn z 0) [] else okS (wordM sn ns z) []
 |.tup (.str z::l)=>if greatB z=true then okS (tagM sn z l.length) (l.map (ph ns)) else match formsP.lookup z with
  |some n=>formM sn ns n l
  |none=>some (.ok (l.map (ph ns)))
 |.tup _=>none
def stepF (ns:List Str)(fs:List T):Rs:=match fs.getLast?,mapO fnNm fs.dropLast with
 |some (.tup (.str g::.str x::r)),some gs=>okS (onceM (decide (g∈gs))) (r.map (ph (ns++[x])))
 |_,_=>none
def armTg:T→Option Str
 |.tup (.tup (.str g::_)::_)=>some g
 |_=>none
def rowM:List Str→List Str→Ex Unit
 |_,[]=>.ok ()
 |seen,x::r=>(onceM (decide (x∈seen))).bind fun _=>rowM (seen++[x]) r
def stepA2 (sn:Sn)(ns:List Str)(g:Str)(gs:List Str)(l:List T)(xs:List Str)(r:List T)(kd:Str):Rs:=match sn.tkind.lookup (gs.headD g),sn.tsize.lookup g with
 |some k0,some m=>if kd=k0 then okS ((sameM m l.length).bind fun _=>rowM [] xs) (r.map (ph (ns++xs))) else some (.error .nc)
 |_,_=>none
def stepA1 (sn:Sn)(ns:List Str)(g:Str)(gs:List Str)(l:List T)(xs:List Str)(r:List T):Rs:=match sn.tkind.lookup g with
 |none=>some (.error .nn)
 |some kd=>stepA2 sn ns g gs l xs r kd
def stepA (sn:Sn)(ns:List Str)(arms:List T):Rs:=match arms.getLast?,mapO armTg arms.dropLast with
 |some (.tup (.tup (.str g::l)::r)),some gs=>match mapO strT l with
  |some xs=>match onceM (decide (g∈gs)) with
   |.error f=>some (.error f)
   |.ok _=>stepA1 sn ns g gs l xs r
  |none=>none
 |_,_=>none
def stepL (sn:Sn)(arms:List T):Rs:=match arms with
 |a::_=>match armTg a with
  |some g=>match sn.tkind.lookup g with
   |some kd=>match sn.ksize.lookup kd with
    |some m=>okS (sameM m arms.length) []
    |none=>none
   |none=>none
  |none=>none
 |[]=>none
def stepM (sn:Sn)(s:Stp):Rs:=match s.k,s.t with
 |0,t=>stepP sn s.ns t
 |1, .tup fs=>stepF s.ns fs
 |2, .tup arms=>stepA sn s.ns arms
 |3, .tup arms=>stepL sn arms
 |_,_=>none
def runS (sn:Sn):Nat→List Stp→Option (Ex Unit)
 |0,_=>none
 |_+1,[]=>some (.ok ())
 |n+1,s::r=>if s.ns.length≤100000 then(match stepM sn s with
  |some (.ok ss)=>if(ss++r).length≤1000000 then runS sn n (ss++r) else none
  |some (.error f)=>some (.error f)
  |none=>none) else none
structure AS where
 a0:Addr
 a1:Addr
 a2:Addr
 a3:Addr
def AS.at (A:AS):Nat→Addr
 |0=>A.a0
 |1=>A.a1
 |2=>A.a2
 |_=>A.a3
abbrev NmL (H:Hp)(d:Addr)(ns:List Str):Prop:=H d=some (.tup (ns.map V.str))
inductive StL (A:AS)(H:Hp):V→Stp→Prop
 |mk {q d:Addr} {v:V} {k:Nat} {t:T} {ns:List Str} (h:H q=some (.tup [.ref (A.at k),v, .ref d])) (hk:k≤3) (r:Rep H v t) (hd:NmL H d ns) (hz:t.sz≤100000) (hn:ns.length≤200000) (hl:∀x∈ns,x.length≤100000):StL A H (.ref q) ⟨k,t,ns⟩
inductive StsL (A:AS)(H:Hp):List V→List Stp→Prop
 |nil:StsL A H [] []
 |cons {v:V} {s:Stp} {vs:List V} {ss:List Stp} (h:StL A H v s) (q:StsL A H vs ss):StsL A H (v::vs) (s::ss)
theorem StL.mono {A:AS}{H H':Hp}(e:∀b xs,H b=some (.tup xs)→H' b=some (.tup xs)){v:V}{s:Stp}(h:StL A H v s):StL A H' v s:=by
 cases h with
 |mk h hk r hd hz hn hl=>exact .mk (e _ _ h) hk (r.mono e) (e _ _ hd) hz hn hl
theorem StsL.mono {A:AS}{H H':Hp}(e:∀b xs,H b=some (.tup xs)→H' b=some (.tup xs)){vs:List V}{ss:List Stp}(h:StsL A H vs ss):StsL A H' vs ss:=by
 induction h with
 |nil=>exact .nil
 |cons h _ ih=>exact .cons (h.mono e) ih
theorem StsL.append {A:AS}{H:Hp}{vs ws:List V}{ss ts:List Stp}(h:StsL A H vs ss)(q:StsL A H ws ts):StsL A H (vs++ws) (ss++ts):=by
 induction h with
 |nil=>exact q
 |cons h _ ih=>exact .cons h ih
theorem StsL.length {A:AS}{H:Hp}{vs:List V}{ss:List Stp}(h:StsL A H vs ss):vs.length=ss.length:=by
 induction h with
 |nil=>rfl
 |cons _ _ ih=>simp[ih]
theorem StsL.reverse {A:AS}{H:Hp}{vs:List V}{ss:List Stp}(h:StsL A H vs ss):StsL A H vs.reverse ss.reverse:=by
 induction h with
 |nil=>exact .nil
 |cons h _ ih=>rw[List.reverse_cons,List.reverse_cons];exact ih.append (.cons h .nil)
abbrev RetS (A:AS)(H:Hp)(Q:VK)(ss:List Stp):Prop:=∀(l:Addr) (vs:List V) (H':Hp),Same H H'→H' l=some (.lst vs)→StsL A H' vs ss→Q (.ref l) H'
inductive spSo (A:AS)(vs:List V)(H:Hp)(Q:VK)(E_:XK):Prop where
 |mk (t d:Addr) (us:List V) (ts:List T) (ns:List Str):vs=[.ref t, .ref d]→H t=some (.tup us)→Reps H us ts→NmL H d ns→szs ts≤100000→ns.length≤200000→(∀x∈ns,x.length≤100000)→RetS A H Q (ts.map (ph ns))→spSo A vs H Q E_
inductive spSoF (A:AS)(vs:List V)(H:Hp)(Q:VK)(E_:XK):Prop where
 |mk (t d:Addr) (us:List V) (ts:List T) (ns:List Str):vs=[.ref t, .ref d]→H t=some (.tup us)→Reps H us ts→NmL H d ns→szs ts≤100000→ns.length≤200000→(∀x∈ns,x.length≤100000)→(∀(l:Addr) (vs:List V) (H':Hp),H l=none→Same H H'→H' l=some (.lst vs)→StsL A H' vs (ts.map (ph ns))→Q (.ref l) H')→spSoF A vs H Q E_
theorem same_free {H H':Hp}{p:Addr}(e:Same H H')(h:H' p=none):H p=none:=by
 cases c:H p with
 |none=>rfl
 |some o=>rw[e _ _ c]at h;cases h
section
variable {P:Program}{w:World}{K:PySem.W.Frag}{mg:Str→Option Value}{base:Heap}{f:Addr}{fd:FuncData}{A:AS}
abbrev s_so:Stmt:=top 39
abbrev pSo:List Str:=["phrases","names"]
theorem sc_so:FnScope pSo pSo (defScope s_so):=⟨rfl,rfl,rfl,by decide+kernel,rfl,by decide+kernel,by decide+kernel⟩
theorem comp_tup {H:Hp}{a:Addr}{xs:List V}{tt:L2.TT}{te:TE}{σ':L2.St}{Q:VK}(Pv:Nat→List V→Hp→Prop)(h0:Pv 0 [] H)(hl:∀i vs H,i≤xs.length→Pv i vs H→SqT K H a xs∧vs.length<sizeLine)
  (hs:∀i x vs H2,i<xs.length→xs[i]?=some x→Pv i vs H2→tt (some x::σ') H2 fun b H4=>if b=true then te (some x::σ') H4 fun v H5=>Nx xs.length i (Pv (i+1) (vs++[v]) H5) else Nx xs.length i (Pv (i+1) vs H4))
  (hd:∀vs H2,Pv xs.length vs H2→∀l,H2 l=none→Q (.ref l) (upd H2 l (.lst vs))):CompW (Itt K a) tt te σ' Q H:=by
 refine⟨fun i m vs H=>m=xs.length-i∧i≤xs.length∧Pv i vs H,⟨xs.length,by simp,Nat.zero_le _,h0⟩,?_⟩
 rintro i m vs H2 ⟨rfl,hi,p⟩
 obtain⟨q1,q2⟩:=hl i vs H2 hi p
 refine⟨q2,?_⟩
 by_cases hlt:i<xs.length
 ·refine .inr ⟨⟨xs,xs[i],q1,by simp[hlt]⟩,?_⟩
  rintro x H3 ⟨e,y⟩
  subst e
  exact hs i x vs _ hlt (y xs q1) p
 ·have e:i=xs.length:=by omega
  subst e
  exact .inl ⟨⟨xs,q1,Nat.le_refl _⟩,hd vs H2 p⟩
theorem Reps.at_ {H:Hp}{vs:List V}{ts:List T}(r:Reps H vs ts):∀{i:Nat} {v:V},vs[i]?=some v→∃t,ts[i]?=some t∧Rep H v t:=by
 induction vs generalizing ts with
 |nil=>intro i v h;cases h
 |cons a vs ih=>
  cases r with
  |cons r1 r2=>
  intro i v h
  cases i with
  |zero=>cases h;exact⟨_,rfl,r1⟩
  |succ i=>exact ih r2 h
theorem sz_at {ts:List T}{i:Nat}{t:T}(h:ts[i]?=some t):t.sz≤szs ts:=by
 induction ts generalizing i with
 |nil=>cases h
 |cons a ts ih=>
  simp only[szs]
  cases i with
  |zero=>cases h;omega
  |succ i=>have:=ih h;omega
theorem take_next {α:Type}{l:List α}{i:Nat}{x:α}(h:l[i]?=some x):l.take (i+1)=l.take i++[x]:=by rw[List.take_add_one,h];rfl
theorem ok_soF (F:Fun K "steps_of" "steps_of" s_so f fd)(mP:mg "look_at_phrase"=some (.ref A.a0)):FnOk P w K mg base CX0 1 f fd pSo (spSoF A):=by
 refine F.ok sc_so (fun cdv A' outer s H vs Q E hr h=>?_)
 obtain⟨t,d,us,ts,ns,rfl,ht,r,hd,hz,hn,hl,q⟩:=h
 refine⟨_,pss_one (ps_ret (pe_lc (te:=tTup (tCons (tC (.ref A.a0)) (tCons (tVar 0) (tCons (tVar 1) tNil)))) (defScope s_so) pSo ["names"] [1] (by decide+kernel) (piT K (pv 0)) (fun C s₀ H₀ ex=>pts_nil)
  (fun C s₀ H₀ ex=>pe_tup (pa_cons (pe_glob (v:=.ref A.a0) rfl mP rfl) (pa_cons (pv 0) (pa_cons (pv 1) pa_nil)))))),?_⟩
 have lr:=r.length
 have ll:=len_szs ts
 refine⟨_,rfl,t,rfl,⟨_,SqT.of ht⟩,comp_tup (xs:=us) (fun i vs H'=>Same H H'∧StsL A H' vs ((ts.take i).map (ph ns))) ⟨Same.refl _, .nil⟩ ?_ ?_ ?_⟩
 ·rintro i vs H' hi ⟨s1,st⟩
  have:=st.length
  rw[List.length_map,List.length_take]at this
  exact⟨SqT.of (s1 _ _ ht),small' (by omega)⟩
 ·rintro i x vs H' hi hx ⟨s1,st⟩
  obtain⟨t1,ht1,rt⟩:=(r.same s1).at_ hx
  refine tt1 (iteT ?_)
  refine⟨_,rfl,_,rfl,sml 3,fun p hp=>nx hi ⟨s1.trans (same_new hp _),?_⟩⟩
  rw[take_next ht1,List.map_append]
  have e:=same_new hp (.tup [V.ref A.a0,x, .ref d])
  exact(st.mono fun b xs h=>e b _ h).append (.cons (.mk (k:=0) upd_same (by decide) (rt.same e) (e _ _ (s1 _ _ hd)) (by have:=sz_at ht1;omega) hn hl) .nil)
 ·rintro vs H' ⟨s1,st⟩ l hlf
  have e:=same_new hlf (.lst vs)
  rw[List.take_of_length_le (by omega)]at st
  exact q l vs _ (same_free s1 hlf) (s1.trans e) upd_same (st.mono fun b xs h=>e b _ h)
theorem ok_so (F:FnOk P w K mg base CX0 1 f fd pSo (spSoF A)):FnOk P w K mg base CX0 1 f fd pSo (spSo A) :=
 ⟨fun vs H Q E h=>(by obtain⟨t,d,us,ts,ns,rfl,_⟩:=h;rfl),fun A' outer s H args us vs Q E hr e0 hb r h=>F.run A' outer s H args us vs Q E hr e0 hb r (by
  obtain⟨t,d,us,ts,ns,e,h1,h2,h3,h4,h5,h6,q⟩:=h
  exact⟨t,d,us,ts,ns,e,h1,h2,h3,h4,h5,h6,fun l vs H' _=>q l vs H'⟩)⟩
end
structure SnW (sn:Sn):Prop where
 fc:∀p,FcOk sn p
 rs:∀z m,sn.rsize.lookup z=some m→m<1000000
 ts:∀z m,sn.tsize.lookup z=some m→m<1000000
 ks:∀z m,sn.ksize.lookup z=some m→m<1000000
 st:∀z m,sn.sorts.lookup z=some m→m<1000000
 fh:∀f r,sn.faces.lookup f=some r→∀z m,r.hides.lookup z=some m→m<1000000
inductive spFm (CS:Addr)(CL:Flt→Addr)(A:AS)(n:Nat)(vs:List V)(H:Hp)(Q:VK)(E:XK):Prop where
 |mk (D:SD) (sn:Sn) (p d:Addr) (z:Str) (us:List V) (l:List T) (ns:List Str) (R:Ex (List Stp)):vs=[.ref D.s, .ref p, .ref d]→SnL CS H D sn→SnW sn→H p=some (.tup (.str z::us))→Reps H us l→NmL H d ns→1+szs l≤100000→ns.length≤100000→(∀x∈ns,x.length≤100000)→z.length≤100000→formM sn ns n l=some R→Out CL H E R (fun ss H'=>RetS A H' Q ss)→spFm CS CL A n vs H Q E
inductive spPl (CS:Addr)(A:AS)(vs:List V)(H:Hp)(Q:VK)(E:XK):Prop where
 |mk (D:SD) (p d:Addr) (v:V) (us:List V) (l:List T) (ns:List Str):vs=[.ref D.s, .ref p, .ref d]→H p=some (.tup (v::us))→Reps H us l→NmL H d ns→1+szs l≤100000→ns.length≤100000→(∀x∈ns,x.length≤100000)→RetS A H Q (l.map (ph ns))→spPl CS A vs H Q E
inductive spTag (CS:Addr)(CL:Flt→Addr)(A:AS)(vs:List V)(H:Hp)(Q:VK)(E:XK):Prop where
 |mk (D:SD) (sn:Sn) (p d:Addr) (z:Str) (us:List V) (l:List T) (ns:List Str):vs=[.ref D.s, .ref p, .ref d]→SnL CS H D sn→SnW sn→H p=some (.tup (.str z::us))→Reps H us l→NmL H d ns→1+szs l≤100000→ns.length≤100000→(∀x∈ns,x.length≤100000)→z.length≤100000→Out CL H E (tagM sn z l.length) (fun _ H'=>RetS A H' Q (l.map (ph ns)))→spTag CS CL A vs H Q E
theorem sIx_from {n k:Nat}(h:k≤n):HT.sIx n 0 (some (k:Int))=k∧HT.sIx n n none=n:=⟨by unfold HT.sIx;simp;split<;>omega,by unfold HT.sIx;rfl⟩
theorem sl_from {K:PySem.W.Frag}{H:Hp}{Q:VK}{p:Addr}{xs:List V}{k:Nat}(hp:H p=some (.tup xs))(h0:0<k)(hk:k≤xs.length)(q:∀p' H',Same H H'→H' p'=some (.tup (xs.drop k))→Q (.ref p') H'):rSlT K (.ref p) (some (k:Int)) none H Q:=by
 obtain⟨e1,e2⟩:=sIx_from hk
 refine⟨p,xs,rfl,SqT.of hp,fun c=>?_,fun p' hp'=>?_⟩
 ·rw[e1]at c;omega
 ·have ec:cutV xs (some (k:Int)) none=xs.drop k:=by
   unfold cutV
   rw[e1,e2,←List.length_drop,List.take_length]
  rw[ec]
  exact q p' _ (same_new hp' _) upd_same
theorem sl_mid {K:PySem.W.Frag}{H:Hp}{Q:VK}{p:Addr}{xs:List V}{k j:Nat}(hp:H p=some (.tup xs))(h0:0<k)(hk:k≤xs.length)(q:∀p' H',Same H H'→H' p'=some (.tup ((xs.drop k).take (min j xs.length-k)))→Q (.ref p') H'):rSlT K (.ref p) (some (k:Int)) (some (j:Int)) H Q:=by
 refine⟨p,xs,rfl,SqT.of hp,fun c=>?_,fun p' hp'=>?_⟩
 ·rw[(sIx_from hk).1]at c;omega
 ·have ec:cutV xs (some (k:Int)) (some (j:Int))=(xs.drop k).take (min j xs.length-k):=by
   unfold cutV
   rw[HT.sIx_nat,HT.sIx_nat,show min k xs.length=k by omega]
  rw[ec]
  exact q p' _ (same_new hp' _) upd_same
theorem cat_nm {K:PySem.W.Frag}{H:Hp}{Q:VK}{d b:Addr}{ns xs:List Str}(hd:NmL H d ns)(hb:NmL H b xs)(hn:ns.length+xs.length≤1000000)(q:∀d' H',Same H H'→NmL H' d' (ns++xs)→Q (.ref d') H'):
  rCatT K (.ref d) (.ref b) H Q∨∃a b' ys,V.ref d=.ref a∧V.ref b=.ref b'∧SqT K H a []∧SqT K H b' ys∧Q (.ref b') H:=by
 cases ns with
 |nil=>exact .inr ⟨d,b,_,rfl,rfl,SqT.of hd,SqT.of hb,q b H (Same.refl H) hb⟩
 |cons n ns=>
  refine .inl ⟨d,b,_,_,rfl,rfl,SqT.of hd,SqT.of hb,by simp,?_,fun e=>?_,fun e p hp=>?_⟩
  ·rw[List.length_map,List.length_map];exact small hn
  ·have:xs=[]:=List.map_eq_nil_iff.mp e
   subst this
   exact q d H (Same.refl H) (by rw[List.append_nil];exact hd)
  ·refine q p _ (same_new hp _) ?_
   show _=some (HO.tup (List.map V.str (n::ns++xs)))
   rw[List.map_append]
   exact upd_same
theorem names_add {ns xs:List Str}(h:∀x∈ns,x.length≤100000)(h2:∀x∈xs,x.length≤100000):∀x∈ns++xs,x.length≤100000:=fun x hx=>(List.mem_append.mp hx).elim (h x) (h2 x)
section
variable {P:Program}{w:World}{K:PySem.W.Frag}{mg:Str→Option Value}{base:Heap}{f CS:Addr}{CL:Flt→Addr}{fd:FuncData}{A:AS}
abbrev pLk:List Str:=["seen","phrase","names"]
abbrev s_pl:Stmt:=top 40
abbrev s_fu:Stmt:=top 41
abbrev s_le:Stmt:=top 42
abbrev s_ma:Stmt:=top 48
abbrev s_pi:Stmt:=top 49
abbrev s_tg:Stmt:=top 50
theorem sc_pl:FnScope pLk pLk (defScope s_pl):=⟨rfl,rfl,rfl,by decide+kernel,rfl,by decide+kernel,by decide+kernel⟩
theorem sc_fu:FnScope pLk pLk (defScope s_fu):=⟨rfl,rfl,rfl,by decide+kernel,rfl,by decide+kernel,by decide+kernel⟩
theorem sc_le:FnScope pLk pLk (defScope s_le):=⟨rfl,rfl,rfl,by decide+kernel,rfl,by decide+kernel,by decide+kernel⟩
theorem sc_ma:FnScope pLk pLk (defScope s_ma):=⟨rfl,rfl,rfl,by decide+kernel,rfl,by decide+kernel,by decide+kernel⟩
theorem sc_pi:FnScope pLk pLk (defScope s_pi):=⟨rfl,rfl,rfl,by decide+kernel,rfl,by decide+kernel,by decide+kernel⟩
theorem sc_tg:FnScope pLk pLk (defScope s_tg):=⟨rfl,rfl,rfl,by decide+kernel,rfl,by decide+kernel,by decide+kernel⟩
theorem ok_pl (F:Fun K "look_at_plain" "look_at_plain" s_pl f fd)(h1:Has P w K mg base 1 "steps_of" pSo (spSo A)):FnOk P w K mg base (CXF P w) 2 f fd pLk (spPl CS A):=by
 refine F.okX sc_pl (fun cdv A' outer s H vs Q E hr h=>?_)
 obtain⟨D,p,d,v,us,l,ns,rfl,hp,r,hd,hz,hn,hl,q⟩:=h
 refine⟨_,pss_one (ps_ret (pcall h1 hr (by decide) rfl (pa_cons (pe_slice (slT K) (pv 1) (po_some pe_int) po_none) (pa_cons (pv 2) pa_nil)))),?_⟩
 refine⟨_,rfl,1,rfl,sl_from (k:=1) hp (by decide) (by simp) fun p' H1 s1 hp1=>⟨_,rfl,p',d,us,l,ns,rfl,hp1,r.same s1,s1 _ _ hd,by omega,by omega,hl,fun ll vs H2 s2 h2 st=>q ll vs H2 (s1.trans s2) h2 st⟩⟩
theorem ok_fu (F:Fun K "look_at_fun" "look_at_fun" s_fu f fd)(h1:Has P w K mg base 1 "steps_of" pSo (spSo A)):FnOk P w K mg base (CXF P w) 2 f fd pLk (spFm CS CL A 0):=by
 refine F.okX sc_fu (fun cdv A' outer s H vs Q E hr h=>?_)
 obtain⟨D,sn,p,d,z,us,l,ns,R,rfl,S,sw,hp,r,hd,hz,hn,hl,lz,hR,q⟩:=h
 refine⟨_,pss_one (ps_ret (pcall h1 hr (by decide) rfl (pa_cons (pe_slice (slT K) (pv 1) (po_some pe_int) po_none) (pa_cons (pe_op ((catT K).or (catT0 K)) (pv 2) (pe_tup (pa_cons (pe_ix (ixT K) (pv 1) pe_int) pa_nil))) pa_nil)))),?_⟩
 cases r with
 |nil=>cases hR
 |@cons v1 t1 us l rv r=>
 cases rv with
 |int i=>cases hR
 |tup _ _=>cases hR
 |str x lx=>
 cases hR
 refine⟨_,rfl,2,rfl,sl_from (k:=2) hp (by decide) (by simp) fun p' H1 s1 hp1=>⟨_,rfl,_,rfl,p,_,1, .str x,rfl,rfl,SqT.of (s1 _ _ hp),atI_nat (j:=1) rfl,sml 1,fun p2 hp2=>?_⟩⟩
 obtain⟨H2,eN,s2,k2⟩:=nw hp2 (.tup [V.str x])
 rw[eN]
 have s12:=s1.trans s2
 have lsz:=len_szs l
 refine cat_nm (xs:=[x]) (s12 _ _ hd) k2 (by simp;omega) fun d' H3 s3 hd3=>?_
 have s13:=s12.trans s3
 have e:szs (T.str x::l)=1+szs l:=rfl
 exact⟨p',d',us,l,ns++[x],rfl,(s2.trans s3) _ _ hp1,r.same s13,hd3,by omega,by simp;omega,names_add hl (fun y hy=>by rw[List.mem_singleton.mp hy];exact lx),fun ll vs H4 s4 h4 st=>q H4 (s13.trans s4) ll vs H4 (Same.refl _) h4 st⟩
end
section
variable {P:Program}{w:World}{K:PySem.W.Frag}{mg:Str→Option Value}{base:Heap}{f CS:Addr}{CL:Flt→Addr}{fd:FuncData}{A:AS}
theorem ok_le (F:Fun K "look_at_let" "look_at_let" s_le f fd)(h1:Has P w K mg base 1 "steps_of" pSo (spSo A)):FnOk P w K mg base (CXF P w) 2 f fd pLk (spFm CS CL A 1):=by
 refine F.okX sc_le (fun cdv A' outer s H vs Q E hr h=>?_)
 obtain⟨D,sn,p,d,z,us,l,ns,R,rfl,S,sw,hp,r,hd,hz,hn,hl,lz,hR,q⟩:=h
 refine⟨_,pss_one (ps_ret (pe_op op_cat (pcall h1 hr (by decide) rfl (pa_cons (pe_slice (slT K) (pv 1) (po_some pe_int) (po_some pe_int)) (pa_cons (pv 2) pa_nil)))
  (pcall h1 hr (by decide) rfl (pa_cons (pe_slice (slT K) (pv 1) (po_some pe_int) po_none) (pa_cons (pe_op ((catT K).or (catT0 K)) (pv 2) (pe_tup (pa_cons (pe_ix (ixT K) (pv 1) pe_int) pa_nil))) pa_nil))))),?_⟩
 cases r with
 |nil=>cases hR
 |@cons v1 t1 us l rv r=>
 cases rv with
 |int i=>cases hR
 |tup _ _=>cases hR
 |str x lx=>
 cases r with
 |nil=>cases hR
 |@cons v2 t2 us l rv2 r=>
 cases hR
 have lsz:=len_szs l
 have e:szs (T.str x::t2::l)=1+(t2.sz+szs l):=rfl
 refine⟨_,rfl,2,rfl,3,rfl,sl_mid (k:=2) (j:=3) hp (by decide) (by simp) fun p' H1 s1 hp1=>⟨_,rfl,p',d,[v2],[t2],ns,rfl,?_, .cons (rv2.same s1) .nil,s1 _ _ hd,by show t2.sz+0≤_;omega,by omega,hl,fun l1 vs1 H2 s2 h2 st1=>?_⟩⟩
 ·rw[hp1]
  have e3:min 3 (V.str z::.str x::v2::us).length-2=1:=by simp only[List.length_cons];omega
  rw[e3];rfl
 have s12:=s1.trans s2
 refine⟨_,rfl,3,rfl,sl_from (k:=3) (s12 _ _ hp) (by decide) (by simp) fun p3 H3 s3 hp3=>⟨_,rfl,_,rfl,p,_,1, .str x,rfl,rfl,SqT.of ((s12.trans s3) _ _ hp),atI_nat (j:=1) rfl,sml 1,fun p4 hp4=>?_⟩⟩
 obtain⟨H4,eN,s4,k4⟩:=nw hp4 (.tup [V.str x])
 rw[eN]
 have s14:=(s12.trans s3).trans s4
 refine cat_nm (xs:=[x]) (s14 _ _ hd) k4 (by simp;omega) fun d' H5 s5 hd5=>?_
 have s15:=s14.trans s5
 refine⟨p3,d',us,l,ns++[x],rfl,(s4.trans s5) _ _ hp3,r.same s15,hd5,by omega,by simp;omega,names_add hl (fun y hy=>by rw[List.mem_singleton.mp hy];exact lx),fun l2 vs2 H6 s6 h6 st2=>?_⟩
 have s26:=((s3.trans s4).trans s5).trans s6
 have k1:=st1.length
 have k2:=st2.length
 rw[List.length_map]at k1 k2
 refine⟨l1,l2,vs1,vs2,rfl,rfl,s26 _ _ h2,h6,?_,fun p7 hp7=>?_⟩
 ·rw[k1,k2];exact Nat.le_trans (m:=200000) (by simp;omega) (small (by decide))
 ·have s7:=same_new hp7 (.lst (vs1++vs2))
  have s67:=s6.trans s7
  refine q _ (s15.trans s67) p7 _ _ (Same.refl _) upd_same ?_
  exact(st1.mono fun b xs h=>(s26.trans s7) b _ h).append (st2.mono fun b xs h=>s7 b _ h)
theorem ok_ma (F:Fun K "look_at_make" "look_at_make" s_ma f fd)(ml:mg "len"=none)(Tx:TxS K CS)(h1:Has P w K mg base 1 "steps_of" pSo (spSo A))(h2:HasX P w K mg base 1 "count_same" ["word","wanted","count"] (spCount CL))(h3:HasX P w K mg base 2 "use" ["word","there"] (spUse CL)):FnOk P w K mg base (CXF P w) 3 f fd pLk (spFm CS CL A 4):=by
 refine F.okX sc_ma (fun cdv A' outer s H vs Q E hr h=>?_)
 obtain⟨D,sn,p,d,z,us,l,ns,R,rfl,S,sw,hp,r,hd,hz,hn,hl,lz,hR,q⟩:=h
 obtain⟨f2,g2,G2,b2,k2,m2⟩:=h2
 obtain⟨f3,g3,G3,b3,k3,m3⟩:=h3
 refine⟨_,pss_cons (ps_expr (pe_call G2 (hr.mono (by decide)) rfl m2 k2 b2 .nil passes_up (pa_cons (pe_ix (ixT K) (pv 1) pe_int) (pa_cons (pe_call G3 (hr.mono (by decide)) rfl m3 k3 b3 .nil passes_up (pa_cons (pe_ix (ixT K) (pv 1) pe_int) (pa_cons (fldK K (pv 0) rfl) pa_nil))) (pa_cons (pe_op op_sub (pe_callB (clen K) rfl ml PySem.boot_len (pa_cons (pv 1) pa_nil)) pe_int) pa_nil)))))
  (pss_one (ps_ret (pcall h1 hr (by decide) rfl (pa_cons (pe_slice (slT K) (pv 1) (po_some pe_int) po_none) (pa_cons (pv 2) pa_nil))))),?_⟩
 cases r with
 |nil=>cases hR
 |@cons v1 t1 us l rv r=>
 cases rv with
 |int i=>cases hR
 |tup _ _=>cases hR
 |str x lx=>
 have hR:okS ((look .nn (sn.rsize.lookup x)).bind fun m=>sameM m l.length) (l.map (ph ns))=some R:=hR
 have lsz:=len_szs l
 have lr:=r.length
 have e:szs (T.str x::l)=1+szs l:=rfl
 have en:((V.str z::.str x::us).length:Int)-2=(l.length:Int):=by simp only[List.length_cons];omega
 refine⟨_,rfl,p,_,1, .str x,rfl,rfl,SqT.of hp,atI_nat (j:=1) rfl,_,rfl,p,_,1, .str x,rfl,rfl,SqT.of hp,atI_nat (j:=1) rfl,_,rfl,D.s,CS,D.dx,_,_,rfl,S.ob,Tx.cs,Tx.n5,fl5 D,x,D.d5,_,_,rfl,lx,S.h5,keys_map (fun n:Nat=>V.int n) _,?_⟩
 rw[val_kvN]
 cases e2:sn.rsize.lookup x with
 |none=>
  rw[e2]at hR
  cases hR
  exact fun ea H1 s1=>q ea H1 s1
 |some m=>
  rw[e2]at hR
  have hR:okS (sameM m l.length) (l.map (ph ns))=some R:=hR
  refine fun H1 s1=>⟨_,rfl,p,_,rfl, .inr (SqT.of (s1 _ _ hp)),_,2,rfl,rfl, .mk x m l.length (by rw[←en];rfl) lx (sw.rs x m e2) (by omega) ?_⟩
  cases e3:sameM m l.length with
  |error fl=>
   rw[e3]at hR
   cases hR
   exact fun ea H2 s2=>q ea H2 (s1.trans s2)
  |ok u=>
   rw[e3]at hR
   cases hR
   exact fun H2 s2=>⟨_,rfl,2,rfl,sl_from (k:=2) ((s1.trans s2) _ _ hp) (by decide) (by simp) fun p' H3 s3 hp3=>⟨_,rfl,p',d,us,l,ns,rfl,hp3,r.same ((s1.trans s2).trans s3),((s1.trans s2).trans s3) _ _ hd,by omega,by omega,hl,fun l1 vs1 H4 s4 h4 st=>q H4 (((s1.trans s2).trans s3).trans s4) l1 vs1 H4 (Same.refl _) h4 st⟩⟩
theorem ok_pi (F:Fun K "look_at_pick" "look_at_pick" s_pi f fd)(Tx:TxS K CS)(h1:Has P w K mg base 1 "steps_of" pSo (spSo A))(h2:HasX P w K mg base 1 "be_there" ["word","there"] (spThere CL)):FnOk P w K mg base (CXF P w) 2 f fd pLk (spFm CS CL A 5):=by
 refine F.okX sc_pi (fun cdv A' outer s H vs Q E hr h=>?_)
 obtain⟨D,sn,p,d,z,us,l,ns,R,rfl,S,sw,hp,r,hd,hz,hn,hl,lz,hR,q⟩:=h
 obtain⟨f2,g2,G2,b2,k2,m2⟩:=h2
 refine⟨_,pss_cons (ps_expr (pe_call G2 hr rfl m2 k2 b2 .nil passes_up (pa_cons (pe_ix (ixT K) (pv 1) pe_int) (pa_cons (fldK K (pv 0) rfl) pa_nil))))
  (pss_one (ps_ret (pcall h1 hr (by decide) rfl (pa_cons (pe_slice (slT K) (pv 1) (po_some pe_int) po_none) (pa_cons (pv 2) pa_nil))))),?_⟩
 cases r with
 |nil=>cases hR
 |@cons v1 t1 us l rv r=>
 cases rv with
 |int i=>cases hR
 |tup _ _=>cases hR
 |str x lx=>
 have hR:okS (thereM (decide (x∈sn.fields))) (l.map (ph ns))=some R:=hR
 have lsz:=len_szs l
 have e:szs (T.str x::l)=1+szs l:=rfl
 refine⟨_,rfl,p,_,1, .str x,rfl,rfl,SqT.of hp,atI_nat (j:=1) rfl,_,rfl,D.s,CS,D.dx,_,_,rfl,S.ob,Tx.cs,Tx.n6,fl6 D,x,_,_,rfl,lx, .dk S.h6 (keys_kvB _),?_⟩
 cases e3:thereM (decide (x∈sn.fields)) with
 |error fl=>
  rw[e3]at hR
  cases hR
  exact fun ea H2 s2=>q ea H2 s2
 |ok u=>
  rw[e3]at hR
  cases hR
  exact fun H2 s2=>⟨_,rfl,2,rfl,sl_from (k:=2) (s2 _ _ hp) (by decide) (by simp) fun p' H3 s3 hp3=>⟨_,rfl,p',d,us,l,ns,rfl,hp3,r.same (s2.trans s3),(s2.trans s3) _ _ hd,by omega,by omega,hl,fun l1 vs1 H4 s4 h4 st=>q H4 ((s2.trans s3).trans s4) l1 vs1 H4 (Same.refl _) h4 st⟩⟩
theorem ok_tg (F:Fun K "look_at_tag" "look_at_tag" s_tg f fd)(ml:mg "len"=none)(Tx:TxS K CS)(h1:Has P w K mg base 1 "steps_of" pSo (spSo A))(h2:HasX P w K mg base 1 "count_same" ["word","wanted","count"] (spCount CL))(h3:HasX P w K mg base 2 "use" ["word","there"] (spUse CL)):FnOk P w K mg base (CXF P w) 3 f fd pLk (spTag CS CL A):=by
 refine F.okX sc_tg (fun cdv A' outer s H vs Q E hr h=>?_)
 obtain⟨D,sn,p,d,z,us,l,ns,rfl,S,sw,hp,r,hd,hz,hn,hl,lz,q⟩:=h
 obtain⟨f2,g2,G2,b2,k2,m2⟩:=h2
 obtain⟨f3,g3,G3,b3,k3,m3⟩:=h3
 refine⟨_,pss_cons (ps_expr (pe_call G2 (hr.mono (by decide)) rfl m2 k2 b2 .nil passes_up (pa_cons (pe_ix (ixT K) (pv 1) pe_int) (pa_cons (pe_call G3 (hr.mono (by decide)) rfl m3 k3 b3 .nil passes_up (pa_cons (pe_ix (ixT K) (pv 1) pe_int) (pa_cons (fldK K (pv 0) rfl) pa_nil))) (pa_cons (pe_op op_sub (pe_callB (clen K) rfl ml PySem.boot_len (pa_cons (pv 1) pa_nil)) pe_int) pa_nil)))))
  (pss_one (ps_ret (pcall h1 hr (by decide) rfl (pa_cons (pe_slice (slT K) (pv 1) (po_some pe_int) po_none) (pa_cons (pv 2) pa_nil))))),?_⟩
 have lsz:=len_szs l
 have lr:=r.length
 have en:((V.str z::us).length:Int)-1=(l.length:Int):=by simp only[List.length_cons];omega
 refine⟨_,rfl,p,_,0, .str z,rfl,rfl,SqT.of hp,atI_nat (j:=0) rfl,_,rfl,p,_,0, .str z,rfl,rfl,SqT.of hp,atI_nat (j:=0) rfl,_,rfl,D.s,CS,D.dx,_,_,rfl,S.ob,Tx.cs,Tx.n4,fl4 D,z,D.d4,_,_,rfl,lz,S.h4,keys_map (fun n:Nat=>V.int n) _,?_⟩
 rw[val_kvN]
 unfold tagM at q
 cases e2:sn.tsize.lookup z with
 |none=>
  rw[e2]at q
  exact fun ea H1 s1=>q ea H1 s1
 |some m=>
  rw[e2]at q
  have q:Out CL H E (sameM m l.length) (fun _ H'=>RetS A H' Q (l.map (ph ns))):=q
  refine fun H1 s1=>⟨_,rfl,p,_,rfl, .inr (SqT.of (s1 _ _ hp)),_,1,rfl,rfl, .mk z m l.length (by rw[←en];rfl) lz (sw.ts z m e2) (by omega) ?_⟩
  cases e3:sameM m l.length with
  |error fl=>
   rw[e3]at q
   exact fun ea H2 s2=>q ea H2 (s1.trans s2)
  |ok u=>
   rw[e3]at q
   exact fun H2 s2=>⟨_,rfl,1,rfl,sl_from (k:=1) ((s1.trans s2) _ _ hp) (by decide) (by simp) fun p' H3 s3 hp3=>⟨_,rfl,p',d,us,l,ns,rfl,hp3,r.same ((s1.trans s2).trans s3),((s1.trans s2).trans s3) _ _ hd,by omega,by omega,hl,fun l1 vs1 H4 s4 h4 st=>q H4 (((s1.trans s2).trans s3).trans s4) l1 vs1 H4 (Same.refl _) h4 st⟩⟩
end
inductive spStep (CS:Addr)(CL:Flt→Addr)(A:AS)(k:Nat)(vs:List V)(H:Hp)(Q:VK)(E:XK):Prop where
 |mk (D:SD) (sn:Sn) (v:V) (d:Addr) (t:T) (ns:List Str) (R:Ex (List Stp)):vs=[.ref D.s,v, .ref d]→SnL CS H D sn→SnW sn→Rep H v t→NmL H d ns→t.sz≤100000→ns.length≤100000→(∀x∈ns,x.length≤100000)→stepM sn ⟨k,t,ns⟩=some R→Out CL H E R (fun ss H'=>RetS A H' Q ss)→spStep CS CL A k vs H Q E
theorem mapO_len {α β:Type}{f:α→Option β}:∀{l:List α} {bs:List β},mapO f l=some bs→bs.length=l.length
 |[],bs,h=>by cases h;rfl
 |a::r,bs,h=>by
  unfold mapO at h
  split at h
  ·rename_i b bs' e1 e2
   cases h
   simp[mapO_len e2]
  ·cases h
theorem mapO_at {α β:Type}{f:α→Option β}:∀{l:List α} {bs:List β} {i:Nat} {a:α},mapO f l=some bs→l[i]?=some a→∃b,f a=some b∧bs[i]?=some b
 |[],bs,i,a,h,e=>by cases e
 |x::r,bs,i,a,h,e=>by
  unfold mapO at h
  split at h
  ·rename_i b bs' e1 e2
   cases h
   cases i with
   |zero=>cases e;exact⟨b,e1,rfl⟩
   |succ i=>exact mapO_at (l:=r) (i:=i) e2 e
  ·cases h
theorem cut_init (vs:List V)(v:V):cutV (vs++[v]) none (some (-1))=vs:=by
 unfold cutV
 have e1:HT.sIx (vs++[v]).length 0 none=0:=HT.sIx_none _ _
 have e2:HT.sIx (vs++[v]).length (vs++[v]).length (some (-1))=vs.length:=by
  unfold HT.sIx
  simp
  omega
 rw[e1,e2]
 simp
theorem cut_init_not (vs:List V)(v:V):¬(HT.sIx (vs++[v]).length 0 none=0∧HT.sIx (vs++[v]).length (vs++[v]).length (some (-1))=(vs++[v]).length):=by
 have e2:HT.sIx (vs++[v]).length (vs++[v]).length (some (-1))=vs.length:=by
  unfold HT.sIx
  simp
  omega
 intro h
 rw[e2]at h
 simp at h
theorem sl_init {K:PySem.W.Frag}{H:Hp}{Q:VK}{p:Addr}{vs:List V}{v:V}(hp:H p=some (.tup (vs++[v])))(q:∀p' H',Same H H'→H' p'=some (.tup vs)→Q (.ref p') H'):rSlT K (.ref p) none (some (-1)) H Q :=
 ⟨p,_,rfl,SqT.of hp,cut_init_not _ _,fun p' hp'=>by rw[cut_init];exact q p' _ (same_new hp' _) upd_same⟩
theorem sl_to {K:PySem.W.Frag}{H:Hp}{Q:VK}{p:Addr}{xs:List V}{k:Nat}(hp:H p=some (.tup xs))(hk:k≤xs.length)(q:∀p' H',Same H H'→H' p'=some (.tup (xs.take k))→Q (.ref p') H'):rSlT K (.ref p) none (some (k:Int)) H Q∨rSlW K (.ref p) none (some (k:Int)) H Q:=by
 have e1:HT.sIx xs.length 0 none=0:=HT.sIx_none _ _
 have e2:HT.sIx xs.length xs.length (some (k:Int))=k:=by unfold HT.sIx;simp;split<;>omega
 by_cases c:k=xs.length
 ·refine .inr ⟨p,xs,rfl,SqT.of hp,e1,by rw[e2];exact c,q p H (Same.refl H) ?_⟩
  rw[c,List.take_length];exact hp
 ·refine .inl ⟨p,xs,rfl,SqT.of hp,fun h=>c (by rw[←e2];exact h.2),fun p' hp'=>?_⟩
  have ec:cutV xs none (some (k:Int))=xs.take k:=by
   unfold cutV
   rw[e1,e2];simp
  rw[ec]
  exact q p' _ (same_new hp' _) upd_same
theorem Reps.take' {H:Hp}:∀(k:Nat) {vs:List V} {ts:List T},Reps H vs ts→Reps H (vs.take k) (ts.take k)
 |0,_,_,_=>.nil
 |k+1,_,_, .nil=>.nil
 |k+1,_,_, .cons r q=>.cons r (Reps.take' k q)
theorem szs_take' (k:Nat)(l:List T):szs (l.take k)≤szs l:=by
 induction l generalizing k with
 |nil=>simp
 |cons a l ih=>
  cases k with
  |zero=>exact Nat.zero_le _
  |succ k=>have:=ih k;simp only[List.take_succ_cons,szs];omega
theorem fnNm_eq {t:T}{g:Str}(h:fnNm t=some g):∃r,t=.tup (.str g::r):=by
 unfold fnNm at h
 split at h
 ·cases h;exact⟨_,rfl⟩
 ·cases h
theorem str_len {H:Hp}{v:V}{z:Str}(r:Rep H v (.str z)):v=.str z∧z.length≤100000:=by
 cases r with
 |str _ h=>exact⟨rfl,h⟩
theorem tup_at {H:Hp}{v:V}{l:List T}(r:Rep H v (.tup l)):∃a us,v=.ref a∧H a=some (.tup us)∧Reps H us l:=by
 cases r with
 |tup h r=>exact⟨_,_,rfl,h,r⟩
theorem names_of {K:PySem.W.Frag}{H:Hp}{Q:VK}{p:Addr}{us:List V}{fs:List T}{gs:List Str}{σ':L2.St}(hp:H p=some (.tup us))(r:Reps H us fs)(hg:mapO fnNm fs=some gs)(hz:szs fs≤100000)
  (q:∀l H',Same H H'→H' l=some (.lst (gs.map V.str))→(∀x∈gs,x.length≤100000)→Q (.ref l) H'):CompW (Itt K p) tTrue (tOp (rIxT K) (tVar 0) (tC (.int 0))) σ' Q H:=by
 have lr:=r.length
 have lg:=mapO_len hg
 have ll:=len_szs fs
 refine comp_tup (xs:=us) (fun i vs H'=>Same H H'∧vs=(gs.take i).map V.str∧∀x∈gs.take i,x.length≤100000) ⟨Same.refl _,rfl,fun x hx=>by cases hx⟩ ?_ ?_ ?_
 ·rintro i vs H' hi ⟨s1,rfl,_⟩
  exact⟨SqT.of (s1 _ _ hp),by rw[List.length_map,List.length_take];exact small' (by omega)⟩
 ·rintro i x vs H' hi hx ⟨s1,rfl,hb⟩
  obtain⟨t1,ht1,rt⟩:=(r.same s1).at_ hx
  obtain⟨g,hf,hgi⟩:=mapO_at hg ht1
  obtain⟨rr,rfl⟩:=fnNm_eq hf
  obtain⟨a,ws,rfl,ha,rw1⟩:=tup_at rt
  cases rw1 with
  |@cons w0 _ ws _ rg rw1=>
  obtain⟨rfl,lg1⟩:=str_len rg
  refine tt1 (iteT ⟨_,rfl,a,_,0, .str g,rfl,rfl,SqT.of ha,atI_nat (j:=0) rfl,nx hi ⟨s1,?_,?_⟩⟩)
  ·rw[take_next hgi,List.map_append];rfl
  ·rw[take_next hgi]
   exact names_add hb (fun y hy=>by rw[List.mem_singleton.mp hy];exact lg1)
 ·rintro vs H' ⟨s1,rfl,hb⟩ l hl
  rw[List.take_of_length_le (by omega)]at hb ⊢
  exact q l _ (s1.trans (same_new hl _)) upd_same hb
section
variable {P:Program}{w:World}{K:PySem.W.Frag}{mg:Str→Option Value}{base:Heap}{f CS:Addr}{CL:Flt→Addr}{fd:FuncData}{A:AS}
abbrev s_fn:Stmt:=top 43
abbrev nFn:List Str:=["seen","functions","names","function"]
theorem sc_fn:FnScope nFn ["seen","functions","names"] (defScope s_fn):=⟨rfl,rfl,rfl,by decide+kernel,rfl,by decide+kernel,by decide+kernel⟩
theorem ok_fn (F:Fun K "look_at_function" "look_at_function" s_fn f fd)(h1:Has P w K mg base 1 "steps_of" pSo (spSo A))(h2:HasX P w K mg base 1 "name_once" ["word","there"] (spOnce CL)):FnOk P w K mg base (CXF P w) 2 f fd ["seen","functions","names"] (spStep CS CL A 1):=by
 refine F.okX sc_fn (fun cdv A' outer s H vs Q E hr h=>?_)
 obtain⟨D,sn,v,d,t,ns,R,rfl,S,sw,rt,hd,hz,hn,hl,hR,q⟩:=h
 obtain⟨f2,g2,G2,b2,k2,m2⟩:=h2
 refine⟨_,pss_cons (pset 3 sc_fn.nd (pe_ix (ixT K) (pv 1) (pe_un un_neg pe_int)))
  (pss_cons (ps_expr (pe_call G2 hr rfl m2 k2 b2 .nil passes_up (pa_cons (pe_ix (ixT K) (pv 3) pe_int) (pa_cons (pe_lc (te:=tOp (rIxT K) (tVar 0) (tC (.int 0))) (defScope s_fn) nFn [] [] (by decide+kernel) (piT K (pe_slice (slT K) (pv 1) po_none (po_some (pe_un un_neg pe_int)))) (fun C s₀ H₀ ex=>pts_nil)
   (fun C s₀ H₀ ex=>pe_ix (ixT K) (pv 0) pe_int)) pa_nil))))
  (pss_one (ps_ret (pcall h1 hr (by decide) rfl (pa_cons (pe_slice (slT K) (pv 3) (po_some pe_int) po_none) (pa_cons (pe_op ((catT K).or (catT0 K)) (pv 2) (pe_tup (pa_cons (pe_ix (ixT K) (pv 3) pe_int) pa_nil))) pa_nil)))))),?_⟩
 cases t with
 |int i=>cases hR
 |str z=>cases hR
 |tup fs=>
 change stepF ns fs=some R at hR
 obtain⟨p,us,rfl,hp,r⟩:=tup_at rt
 unfold stepF at hR
 split at hR
 ·rename_i g x rr gs eL eG
  have efs:fs=fs.dropLast++[.tup (.str g::.str x::rr)]:=by
   have hne:fs≠[]:=by intro e;rw[e]at eL;cases eL
   have:=List.getLast?_eq_some_getLast hne
   rw[this]at eL
   rw[←Option.some.inj eL,List.dropLast_concat_getLast hne]
  generalize fs.dropLast=fs0 at efs eG
  subst efs
  have rne:us≠[]:=by intro e;rw[e]at r;cases fs0<;>cases r
  obtain⟨us0,fs1,um,m',rfl,e,r0,rm⟩:=r.snoc_inv rne
  obtain⟨ea,eb⟩:=List.append_inj' e rfl
  subst ea
  have eb:=(List.cons.inj eb).1
  subst eb
  obtain⟨a,ws,rfl,ha,rws⟩:=tup_at rm
  cases rws with
  |@cons w0 _ ws _ rg rws=>
  cases rws with
  |@cons w1 _ ws _ rx rws=>
  obtain⟨rfl,lg⟩:=str_len rg
  obtain⟨rfl,lx⟩:=str_len rx
  have ez:szs (fs0++[.tup (.str g::.str x::rr)])=szs fs0+(1+(1+(1+szs rr))):=by rw[szs_app];simp only[szs,T.sz];omega
  simp only[T.sz]at hz
  rw[ez]at hz
  refine⟨_,rfl,1,rfl,p,_,-1, .ref a,rfl,rfl,SqT.of hp,atI_last us0 _,?_⟩
  refine⟨_,rfl,a,_,0, .str g,rfl,rfl,SqT.of ha,atI_nat (j:=0) rfl,?_⟩
  refine⟨_,rfl,1,rfl,-1,rfl,sl_init hp fun p' H1 s1 hp1=>⟨p',rfl,⟨_,SqT.of hp1⟩,names_of hp1 (r0.same s1) eG (by omega) fun l H2 s2 hl2 _=>?_⟩⟩
  have s12:=s1.trans s2
  refine⟨g, .ref l,gs,rfl,lg, .ls hl2,?_⟩
  cases e3:onceM (decide (g∈gs)) with
  |error fl=>
   rw[e3]at hR
   cases hR
   exact fun ea H3 s3=>q ea H3 (s12.trans s3)
  |ok u=>
   rw[e3]at hR
   cases hR
   intro H3 s3
   have s13:=s12.trans s3
   refine⟨_,rfl,2,rfl,sl_from (k:=2) (s13 _ _ ha) (by decide) (by simp) fun p3 H4 s4 hp4=>⟨_,rfl,_,rfl,a,_,1, .str x,rfl,rfl,SqT.of ((s13.trans s4) _ _ ha),atI_nat (j:=1) rfl,sml 1,fun p5 hp5=>?_⟩⟩
   obtain⟨H5,eN,s5,k5⟩:=nw hp5 (.tup [V.str x])
   rw[eN]
   have s15:=(s13.trans s4).trans s5
   refine cat_nm (xs:=[x]) (s15 _ _ hd) k5 (by simp;omega) fun d' H6 s6 hd6=>?_
   exact⟨p3,d',ws,rr,ns++[x],rfl,(s5.trans s6) _ _ hp4,rws.same (s15.trans s6),hd6,by omega,by simp;omega,names_add hl (fun y hy=>by rw[List.mem_singleton.mp hy];exact lx),fun ll vs H7 s7 h7 st=>q H7 ((s15.trans s6).trans s7) ll vs H7 (Same.refl _) h7 st⟩
 ·cases hR
end
theorem heads_sz {fs:List T}{k:Nat}:(T.tup (fs.take k)).sz≤1+szs fs:=by
 have:=szs_take' k fs
 simp only[T.sz];omega
theorem heads_of {K:PySem.W.Frag}{A:AS}{k:Nat}{a p d:Addr}{us:List V}{fs:List T}{ns:List Str}{H:Hp}{Q:VK}(hk:k≤3)(hA:A.at k=a)(hp:H p=some (.tup us))(r:Reps H us fs)(hd:NmL H d ns)(hz:1+szs fs≤100000)(hn:ns.length≤200000)(hl:∀x∈ns,x.length≤100000)
  (q:∀l vs H',Same H H'→H' l=some (.lst vs)→StsL A H' vs ((heads fs).map fun t=>⟨k,t,ns⟩)→Q (.ref l) H'):
  CompW (Itr 0 fs.length) tTrue (tTup (tCons (tC (.ref a)) (tCons (tSl (fun x lo hi H Q=>rSlT K x lo hi H Q∨rSlW K x lo hi H Q) (tVar 1) tNoPart (tPart (tOp (rI0 fun i j=>.int (i+j)) (tVar 0) (tC (.int 1))))) (tCons (tVar 2) tNil)))) [some (.ref p),some (.ref d)] Q H:=by
 have lr:=r.length
 have ll:=len_szs fs
 refine comp_range (fun i vs H'=>Same H H'∧StsL A H' vs (((heads fs).take i).map fun t=>⟨k,t,ns⟩)) ⟨Same.refl _, .nil⟩ ?_ ?_ ?_
 ·rintro i vs H' hi ⟨s1,st⟩
  have:=st.length
  rw[List.length_map,List.length_take]at this
  exact small' (by omega)
 ·rintro i vs H' hi ⟨s1,st⟩
  refine tt1 (iteT ?_)
  refine⟨_,rfl,_,rfl,_,1,rfl,rfl,(((i+1:Nat)):Int),by show V.int (0+(i:Int)+1)=_;congr 1;omega,sl_to (k:=i+1) (s1 _ _ hp) (by omega) fun p' H2 s2 hp2=>⟨_,rfl,sml 3,fun p3 hp3=>nx hi ⟨(s1.trans s2).trans (same_new hp3 _),?_⟩⟩⟩
  have e3:=same_new hp3 (.tup [V.ref a, .ref p', .ref d])
  have hh:(heads fs)[i]?=some (.tup (fs.take (i+1))):=by
   unfold heads
   rw[List.getElem?_map,List.getElem?_range hi];rfl
  rw[take_next hh,List.map_append]
  have s13:=(s1.trans s2).trans e3
  refine(st.mono fun b xs h=>(s2.trans e3) b _ h).append (.cons (.mk (k:=k) ?_ hk (.tup (e3 _ _ hp2) (Reps.take' (i+1) (r.same s13))) (s13 _ _ hd) (Nat.le_trans heads_sz hz) hn hl) .nil)
  rw[hA];exact upd_same
 ·rintro vs H' ⟨s1,st⟩ l hlf
  have e:=same_new hlf (.lst vs)
  rw[List.take_of_length_le (by unfold heads;simp)]at st
  exact q l vs _ (s1.trans e) upd_same (st.mono fun b xs h=>e b _ h)
section
variable {P:Program}{w:World}{K:PySem.W.Frag}{mg:Str→Option Value}{base:Heap}{f CS:Addr}{CL:Flt→Addr}{fd:FuncData}{A:AS}
abbrev s_ri:Stmt:=top 44
abbrev s_ca:Stmt:=top 47
abbrev nRi:List Str:=["seen","phrase","names","functions","inner","steps"]
abbrev nCa:List Str:=["seen","phrase","names","arms","steps"]
theorem sc_ri:FnScope nRi pLk (defScope s_ri):=⟨rfl,rfl,rfl,by decide+kernel,rfl,by decide+kernel,by decide+kernel⟩
theorem sc_ca:FnScope nCa pLk (defScope s_ca):=⟨rfl,rfl,rfl,by decide+kernel,rfl,by decide+kernel,by decide+kernel⟩
set_option maxHeartbeats 1000000 in
theorem ok_ri (F:Fun K "look_at_ring" "look_at_ring" s_ri f fd)(ml:mg "len"=none)(mr:mg "range"=none)(mt:mg "tuple"=none)(m1:mg "look_at_function"=some (.ref A.a1))(h1:Has P w K mg base 1 "steps_of" pSo (spSo A)):FnOk P w K mg base (CXF P w) 2 f fd pLk (spFm CS CL A 2):=by
 refine F.okX sc_ri (fun cdv A' outer s H vs Q E hr h=>?_)
 obtain⟨D,sn,p,d,z,us,l,ns,R,rfl,S,sw,hp,r,hd,hz,hn,hl,lz,hR,q⟩:=h
 refine⟨_,pss_cons (ps_set (i:=3) sc_ri.nd rfl (Or.inr rfl) (pe_ix (ixT K) (pv 1) pe_int))
  (pss_cons (ps_set (i:=4) sc_ri.nd rfl (Or.inr rfl) (pe_op ((catT K).or (catT0 K)) (pv 2) (pe_callTy (ctup K) rfl mt boot_tuple (pa_cons (pe_lc (te:=tOp (rIxT K) (tVar 0) (tC (.int 0))) (defScope s_ri) nRi [] [] (by decide+kernel) (piT K (pv 3)) (fun C s₀ H₀ ex=>pts_nil) (fun C s₀ H₀ ex=>pe_ix (ixT K) (pv 0) pe_int)) pa_nil))))
  (pss_cons (ps_lc (te:=tTup (tCons (tC (.ref A.a1)) (tCons (tSl (fun x lo hi H Q=>rSlT K x lo hi H Q∨rSlW K x lo hi H Q) (tVar 1) tNoPart (tPart (tOp (rI0 fun i j=>.int (i+j)) (tVar 0) (tC (.int 1))))) (tCons (tVar 2) tNil)))) (defScope s_ri) nRi ["functions","inner"] [3,4] (by decide+kernel) (pi_range1 rfl mr (pa_cons (pe_callB (clen K) rfl ml PySem.boot_len (pa_cons (pv 3) pa_nil)) pa_nil)) (pg_name (i:=5) sc_ri.nd rfl (Or.inl rfl)) (fun C s₀ H₀ ex=>pts_nil)
   (fun C s₀ H₀ ex=>pe_tup (pa_cons (pe_glob (v:=.ref A.a1) rfl m1 rfl) (pa_cons (pe_slice ((slT K).or (slW K)) (pv 1) po_none (po_some (pe_op op_add (pv 0) pe_int))) (pa_cons (pv 2) pa_nil)))) rfl)
  (pss_one (ps_ret (pe_op op_cat (pv 5) (pcall h1 hr (by decide) rfl (pa_cons (pe_slice (slT K) (pv 1) (po_some pe_int) po_none) (pa_cons (pv 4) pa_nil)))))))),?_⟩
 cases r with
 |nil=>cases hR
 |@cons v1 t1 us l rv r=>
 cases t1 with
 |int i=>cases hR
 |str x=>cases hR
 |tup fs=>
 obtain⟨b,ws,rfl,hb,rb⟩:=tup_at rv
 change (match mapO fnNm fs with
  |some gs=>some (.ok ((heads fs).map (fun t=>(⟨1,t,ns++gs⟩:Stp))++l.map (ph (ns++gs))))
  |none=>none)=some R at hR
 cases e:mapO fnNm fs with
 |none=>rw[e]at hR;cases hR
 |some gs=>
 rw[e]at hR
 cases hR
 have lg:=mapO_len e
 have lb:=rb.length
 have lfs:=len_szs fs
 have ll:=len_szs l
 have ez:szs (T.tup fs::l)=1+szs fs+szs l:=by simp only[szs,T.sz]
 rw[ez]at hz
 refine⟨_,rfl,p,_,1, .ref b,rfl,rfl,SqT.of hp,atI_nat (j:=1) rfl,?_⟩
 refine⟨_,rfl,_,rfl,b,rfl,⟨_,SqT.of hb⟩,names_of hb rb e (by omega) fun l1 H1 s1 hl1 gl=>⟨l1,_,rfl, .inl ⟨SqL.of hl1,fun p2 hp2=>?_⟩⟩⟩
 obtain⟨H2,eN,s2,k2⟩:=nw hp2 (.tup (gs.map V.str))
 rw[eN]
 have s12:=s1.trans s2
 refine cat_nm (xs:=gs) (s12 _ _ hd) k2 (by omega) fun d' H3 s3 hd3=>?_
 have s13:=s12.trans s3
 have gl':=names_add hl gl
 have ln:(ns++gs).length≤200000:=by rw[List.length_append];omega
 refine⟨_,rfl,b,_,rfl, .inr (SqT.of (s13 _ _ hb)),(ws.length:Int),rfl,by omega,by omega,?_⟩
 rw[Int.toNat_natCast,lb]
 refine heads_of (A:=A) (k:=1) (by decide) rfl (s13 _ _ hb) (rb.same s13) hd3 (by omega) ln gl' fun l4 vs4 H4 s4 h4 st4=>?_
 have s14:=s13.trans s4
 refine⟨_,rfl,_,rfl,2,rfl,sl_from (k:=2) (s14 _ _ hp) (by decide) (by simp) fun p5 H5 s5 hp5=>⟨_,rfl,p5,d',us,l,ns++gs,rfl,hp5,r.same (s14.trans s5),(s4.trans s5) _ _ hd3,by omega,ln,gl',fun l6 vs6 H6 s6 h6 st6=>?_⟩⟩
 have s46:=s5.trans s6
 have k4:=st4.length
 have k6:=st6.length
 rw[List.length_map]at k4 k6
 have lh:(heads fs).length=fs.length:=by unfold heads;simp
 refine⟨l4,l6,vs4,vs6,rfl,rfl,s46 _ _ h4,h6,?_,fun p7 hp7=>?_⟩
 ·rw[k4,k6,lh];exact Nat.le_trans (m:=300000) (by omega) (small (by decide))
 ·have s7:=same_new hp7 (.lst (vs4++vs6))
  refine q _ ((s14.trans s46).trans s7) p7 _ _ (Same.refl _) upd_same ?_
  exact(st4.mono fun b xs h=>(s46.trans s7) b _ h).append (st6.mono fun b xs h=>s7 b _ h)
set_option maxHeartbeats 1000000 in
theorem ok_ca (F:Fun K "look_at_case" "look_at_case" s_ca f fd)(ml:mg "len"=none)(mr:mg "range"=none)(m2:mg "look_at_arm"=some (.ref A.a2))(m3:mg "look_at_all_arms"=some (.ref A.a3))(h1:Has P w K mg base 1 "steps_of" pSo (spSo A)):FnOk P w K mg base (CXF P w) 2 f fd pLk (spFm CS CL A 3):=by
 refine F.okX sc_ca (fun cdv A' outer s H vs Q E hr h=>?_)
 obtain⟨D,sn,p,d,z,us,l,ns,R,rfl,S,sw,hp,r,hd,hz,hn,hl,lz,hR,q⟩:=h
 refine⟨_,pss_cons (ps_set (i:=3) sc_ca.nd rfl (Or.inr rfl) (pe_slice (slT K) (pv 1) (po_some pe_int) po_none))
  (pss_cons (ps_lc (te:=tTup (tCons (tC (.ref A.a2)) (tCons (tSl (fun x lo hi H Q=>rSlT K x lo hi H Q∨rSlW K x lo hi H Q) (tVar 1) tNoPart (tPart (tOp (rI0 fun i j=>.int (i+j)) (tVar 0) (tC (.int 1))))) (tCons (tVar 2) tNil)))) (defScope s_ca) nCa ["arms","names"] [3,2] (by decide+kernel) (pi_range1 rfl mr (pa_cons (pe_callB (clen K) rfl ml PySem.boot_len (pa_cons (pv 3) pa_nil)) pa_nil)) (pg_name (i:=4) sc_ca.nd rfl (Or.inl rfl)) (fun C s₀ H₀ ex=>pts_nil)
   (fun C s₀ H₀ ex=>pe_tup (pa_cons (pe_glob (v:=.ref A.a2) rfl m2 rfl) (pa_cons (pe_slice ((slT K).or (slW K)) (pv 1) po_none (po_some (pe_op op_add (pv 0) pe_int))) (pa_cons (pv 2) pa_nil)))) rfl)
  (pss_one (ps_ret (pe_op op_cat (pe_op op_cat (pcall h1 hr (by decide) rfl (pa_cons (pe_slice (slT K) (pv 1) (po_some pe_int) (po_some pe_int)) (pa_cons (pv 2) pa_nil))) (pv 4)) (pe_lst (pa_cons (pe_tup (pa_cons (pe_glob (v:=.ref A.a3) rfl m3 rfl) (pa_cons (pv 3) (pa_cons (pv 2) pa_nil)))) pa_nil)))))),?_⟩
 cases r with
 |nil=>cases hR
 |@cons v1 t1 us l rv r=>
 cases hR
 have lr:=r.length
 have ll:=len_szs l
 have ez:szs (t1::l)=t1.sz+szs l:=rfl
 rw[ez]at hz
 refine⟨_,rfl,2,rfl,sl_from (k:=2) hp (by decide) (by simp) fun b H1 s1 hb=>?_⟩
 have hb:H1 b=some (.tup us):=hb
 have rb:=r.same s1
 refine⟨_,rfl,b,_,rfl, .inr (SqT.of hb),(us.length:Int),rfl,by omega,by omega,?_⟩
 rw[Int.toNat_natCast,lr]
 refine heads_of (A:=A) (k:=2) (by decide) rfl hb rb (s1 _ _ hd) (by omega) (by omega) hl fun l4 vs4 H4 s4 h4 st4=>?_
 have s14:=s1.trans s4
 refine⟨_,rfl,1,rfl,2,rfl,sl_mid (k:=1) (j:=2) (s14 _ _ hp) (by decide) (by simp) fun p5 H5 s5 hp5=>⟨_,rfl,p5,d,[v1],[t1],ns,rfl,?_, .cons (rv.same (s14.trans s5)) .nil,(s14.trans s5) _ _ hd,by show t1.sz+0≤_;omega,by omega,hl,fun l6 vs6 H6 s6 h6 st6=>?_⟩⟩
 ·rw[hp5]
  have e3:min 2 (V.str z::v1::us).length-1=1:=by simp only[List.length_cons];omega
  rw[e3];rfl
 have s46:=s5.trans s6
 have k4:=st4.length
 have k6:=st6.length
 rw[List.length_map]at k4 k6
 have lh:(heads l).length=l.length:=by unfold heads;simp
 refine⟨_,rfl,l6,l4,vs6,vs4,rfl,rfl,h6,s46 _ _ h4,?_,fun p7 hp7=>?_⟩
 ·rw[k4,k6,lh];exact Nat.le_trans (m:=300000) (by simp;omega) (small (by decide))
 obtain⟨H7,eN,s7,k7⟩:=nw hp7 (.lst (vs6++vs4))
 rw[eN]
 have s17:=(s14.trans s46).trans s7
 refine⟨_,rfl,_,rfl,sml 3,fun p8 hp8=>?_⟩
 obtain⟨H8,eN8,s8,k8⟩:=nw hp8 (.tup [V.ref A.a3, .ref b, .ref d])
 rw[eN8]
 refine⟨sml 1,fun p9 hp9=>?_⟩
 obtain⟨H9,eN9,s9,k9⟩:=nw hp9 (.lst [V.ref p8])
 rw[eN9]
 refine⟨p7,p9,_,_,rfl,rfl,(s8.trans s9) _ _ k7,k9,?_,fun p10 hp10=>?_⟩
 ·rw[List.length_append,k4,k6,lh];exact Nat.le_trans (m:=300000) (by simp;omega) (small (by decide))
 have s10:=same_new hp10 (.lst (vs6++vs4++[V.ref p8]))
 have s19:=(s17.trans s8).trans s9
 have s7t:=((s7.trans s8).trans s9).trans s10
 refine q _ (s19.trans s10) p10 _ _ (Same.refl _) upd_same ?_
 have stA:StL A (upd H9 p10 (.lst (vs6++vs4++[V.ref p8]))) (.ref p8) ⟨3, .tup l,ns⟩ :=
  .mk (k:=3) (s10 _ _ (s9 _ _ k8)) (by decide) (.tup ((s4.trans (s46.trans s7t)) _ _ hb) (rb.same (s4.trans (s46.trans s7t)))) ((s19.trans s10) _ _ hd) (by simp only[T.sz];omega) (by omega) hl
 have:=((st6.mono fun b xs h=>s7t b _ h).append (st4.mono fun b xs h=>(s46.trans s7t) b _ h)).append (.cons stA .nil)
 rw[List.append_assoc (List.map (ph ns) [t1])]at this
 exact this
end
theorem armTg_eq {t:T}{g:Str}(h:armTg t=some g):∃r r',t=.tup (.tup (.str g::r)::r'):=by
 unfold armTg at h
 split at h
 ·cases h;exact⟨_,_,rfl⟩
 ·cases h
theorem arm_at {H:Hp}{v:V}{t:T}{g:Str}(r:Rep H v t)(h:armTg t=some g):∃b ws c xs,v=.ref b∧H b=some (.tup (.ref c::ws))∧H c=some (.tup (.str g::xs))∧g.length≤100000:=by
 obtain⟨r1,r2,rfl⟩:=armTg_eq h
 obtain⟨b,us,rfl,hb,rb⟩:=tup_at r
 cases rb with
 |cons rb1 _=>
 obtain⟨c,xs,rfl,hc,rc⟩:=tup_at rb1
 cases rc with
 |cons rg _=>
 obtain⟨rfl,lg⟩:=str_len rg
 exact⟨b,_,c,_,rfl,hb,hc,lg⟩
theorem reps_strs {H:Hp}:∀{l:List T} {vs:List V} {xs:List Str},Reps H vs l→mapO strT l=some xs→vs=xs.map V.str∧∀x∈xs,x.length≤100000
 |[],vs,xs,r,h=>by cases h;cases r;exact⟨rfl,fun x hx=>by cases hx⟩
 |t::l,vs,xs,r,h=>by
  unfold mapO at h
  split at h
  ·rename_i b bs e1 e2
   cases h
   cases r with
   |cons r1 r2=>
   obtain⟨e3,e4⟩:=reps_strs (l:=l) r2 e2
   have:t=.str b:=by
    unfold strT at e1
    split at e1
    ·cases e1;rfl
    ·cases e1
   subst this
   obtain⟨rfl,lb⟩:=str_len r1
   exact⟨by rw[e3];rfl,fun x hx=>(List.mem_cons.mp hx).elim (fun h=>by rw[h];exact lb) (e4 x)⟩
  ·cases h
theorem tags_of {K:PySem.W.Frag}{H:Hp}{Q:VK}{p:Addr}{us:List V}{fs:List T}{gs:List Str}{σ':L2.St}(hp:H p=some (.tup us))(r:Reps H us fs)(hg:mapO armTg fs=some gs)(hz:szs fs≤100000)
  (q:∀l H',Same H H'→H' l=some (.lst (gs.map V.str))→Q (.ref l) H'):CompW (Itt K p) tTrue (tOp (rIxT K) (tOp (rIxT K) (tVar 0) (tC (.int 0))) (tC (.int 0))) σ' Q H:=by
 have lr:=r.length
 have lg:=mapO_len hg
 have ll:=len_szs fs
 refine comp_tup (xs:=us) (fun i vs H'=>Same H H'∧vs=(gs.take i).map V.str) ⟨Same.refl _,rfl⟩ ?_ ?_ ?_
 ·rintro i vs H' hi ⟨s1,rfl⟩
  exact⟨SqT.of (s1 _ _ hp),by rw[List.length_map,List.length_take];exact small' (by omega)⟩
 ·rintro i x vs H' hi hx ⟨s1,rfl⟩
  obtain⟨t1,ht1,rt⟩:=(r.same s1).at_ hx
  obtain⟨g,hf,hgi⟩:=mapO_at hg ht1
  obtain⟨b,ws,c,xs,rfl,hb,hc,_⟩:=arm_at rt hf
  refine tt1 (iteT ⟨_,rfl,b,_,0, .ref c,rfl,rfl,SqT.of hb,atI_nat (j:=0) rfl,c,_,0, .str g,rfl,rfl,SqT.of hc,atI_nat (j:=0) rfl,nx hi ⟨s1,?_⟩⟩)
  rw[take_next hgi,List.map_append];rfl
 ·rintro vs H' ⟨s1,rfl⟩ l hl
  rw[List.take_of_length_le (by omega)]
  exact q l _ (s1.trans (same_new hl _)) upd_same
theorem split_last {fs:List T}{x:T}(h:fs.getLast?=some x):fs=fs.dropLast++[x]:=by
 have hne:fs≠[]:=by intro e;rw[e]at h;cases h
 rw[List.getLast?_eq_some_getLast hne]at h
 rw[←Option.some.inj h,List.dropLast_concat_getLast hne]
section
variable {P:Program}{w:World}{K:PySem.W.Frag}{mg:Str→Option Value}{base:Heap}{f CS:Addr}{CL:Flt→Addr}{fd:FuncData}{A:AS}{bm:List Value}{newId B initId:String}
abbrev s_al:Stmt:=top 46
abbrev s_ar:Stmt:=top 45
abbrev pAr:List Str:=["seen","arms","names"]
abbrev nAr:List Str:=["seen","arms","names","row","tag","place"]
theorem sc_al:FnScope pAr pAr (defScope s_al):=⟨rfl,rfl,rfl,by decide+kernel,rfl,by decide+kernel,by decide+kernel⟩
theorem sc_ar:FnScope nAr pAr (defScope s_ar):=⟨rfl,rfl,rfl,by decide+kernel,rfl,by decide+kernel,by decide+kernel⟩
theorem ok_al (F:Fun K "look_at_all_arms" "look_at_all_arms" s_al f fd)(ml:mg "len"=none)(Tx:TxS K CS)(h2:HasX P w K mg base 1 "count_same" ["word","wanted","count"] (spCount CL)):FnOk P w K mg base (CXF P w) 2 f fd pAr (spStep CS CL A 3):=by
 refine F.okX sc_al (fun cdv A' outer s H vs Q E hr h=>?_)
 have hu:=hu_of hr
 obtain⟨D,sn,v,d,t,ns,R,rfl,S,sw,rt,hd,hz,hn,hl,hR,q⟩:=h
 obtain⟨f2,g2,G2,b2,k2,m2⟩:=h2
 refine⟨_,pss_cons (ps_expr (pe_call G2 hr rfl m2 k2 b2 .nil passes_up (pa_cons pe_str (pa_cons (pe_dget hu (fldK K (pv 0) rfl) (pe_dget hu (fldK K (pv 0) rfl) (pe_ix (ixT K) (pe_ix (ixT K) (pe_ix (ixT K) (pv 1) pe_int) pe_int) pe_int))) (pa_cons (pe_callB (clen K) rfl ml PySem.boot_len (pa_cons (pv 1) pa_nil)) pa_nil)))))
  (pss_one (ps_ret (pe_lst pa_nil))),?_⟩
 cases t with
 |int i=>cases hR
 |str z=>cases hR
 |tup arms=>
 change stepL sn arms=some R at hR
 obtain⟨p,us,rfl,hp,r⟩:=tup_at rt
 unfold stepL at hR
 split at hR
 ·rename_i a ar
  split at hR
  ·rename_i g eg
   split at hR
   ·rename_i kd ek
    split at hR
    ·rename_i m em
     have lr:=r.length
     have ll:=len_szs (a::ar)
     simp only[T.sz]at hz
     cases r with
     |@cons v1 _ us _ r1 r2=>
     obtain⟨b,ws,c,xs,rfl,hb,hc,lg⟩:=arm_at r1 eg
     refine⟨_,rfl,D.s,CS,D.dx,_,_,rfl,S.ob,Tx.cs,Tx.n2,fl2 D,_,rfl,D.s,CS,D.dx,_,_,rfl,S.ob,Tx.cs,Tx.n3,fl3 D,_,rfl,p,_,0, .ref b,rfl,rfl,SqT.of hp,atI_nat (j:=0) rfl,b,_,0, .ref c,rfl,rfl,SqT.of hb,atI_nat (j:=0) rfl,c,_,0, .str g,rfl,rfl,SqT.of hc,atI_nat (j:=0) rfl,?_⟩
     refine⟨D.d3, .str kd,rfl, .inl ⟨_,Sum.inr g, .inl S.h3,rfl,by rw[val_kvS,ek];rfl⟩,D.d2, .int m,rfl, .inl ⟨_,Sum.inr kd, .inl S.h2,rfl,by rw[val_kvN,em];rfl⟩,_,rfl,p,_,rfl, .inr (SqT.of hp), .mk "case" m (a::ar).length (by show[V.str "case",V.int (m:Int),V.int (((V.ref b::us).length:Nat):Int)]=_;rw[show(V.ref b::us).length=(a::ar).length from lr]) (by decide+kernel) (sw.ks kd m em) (by omega) ?_⟩
     cases e3:sameM m (a::ar).length with
     |error fl=>
      rw[e3]at hR
      cases hR
      exact fun ea H2 s2=>q ea H2 s2
     |ok u=>
      rw[e3]at hR
      cases hR
      exact fun H2 s2=>⟨sml 0,fun l hl=>q H2 s2 l [] _ (same_new hl _) upd_same .nil⟩
    ·cases hR
   ·cases hR
  ·cases hR
 ·cases hR
set_option maxHeartbeats 4000000 in
theorem ok_ar (F:Fun K "look_at_arm" "look_at_arm" s_ar f fd)(C:Cl3 CL bm newId B initId mg base)(ml:mg "len"=none)(mr:mg "range"=none)(Tx:TxS K CS)(h1:Has P w K mg base 1 "steps_of" pSo (spSo A))(h2:HasX P w K mg base 1 "name_once" ["word","there"] (spOnce CL))(h3:HasX P w K mg base 2 "use" ["word","there"] (spUse CL))(h4:HasX P w K mg base 1 "count_same" ["word","wanted","count"] (spCount CL)):
  FnOk P w K mg base (CXF P w) 3 f fd pAr (spStep CS CL A 2):=by
 refine F.okX sc_ar (fun cdv A' outer s H vs Q E hr h=>?_)
 have hu:=hu_of hr
 obtain⟨D,sn,v,d,t,ns,R,rfl,S,sw,rt,hd,hz,hn,hl,hR,q⟩:=h
 obtain⟨f2,g2,G2,b2,k2,m2⟩:=h2
 obtain⟨f3,g3,G3,b3,k3,m3⟩:=h3
 obtain⟨f4,g4,G4,b4,k4,m4⟩:=h4
 refine⟨_,pss_cons (pset 3 sc_ar.nd (pe_ix (ixT K) (pe_ix (ixT K) (pv 1) (pe_un un_neg pe_int)) pe_int))
  (pss_cons (pset 4 sc_ar.nd (pe_ix (ixT K) (pv 3) pe_int))
  (pss_cons (ps_expr (pe_call G2 (hr.mono (by decide)) rfl m2 k2 b2 .nil passes_up (pa_cons (pv 4) (pa_cons (pe_lc (te:=tOp (rIxT K) (tOp (rIxT K) (tVar 0) (tC (.int 0))) (tC (.int 0))) (defScope s_ar) nAr [] [] (by decide+kernel) (piT K (pe_slice (slT K) (pv 1) po_none (po_some (pe_un un_neg pe_int)))) (fun C s₀ H₀ ex=>pts_nil)
   (fun C s₀ H₀ ex=>pe_ix (ixT K) (pe_ix (ixT K) (pv 0) pe_int) pe_int)) pa_nil))))
  (pss_cons (ps_if (pt_cmpR op_ne (pe_call G3 (hr.mono (by decide)) rfl m3 k3 b3 .nil passes_up (pa_cons (pv 4) (pa_cons (fldK K (pv 0) rfl) pa_nil))) (pe_dget hu (fldK K (pv 0) rfl) (pe_ix (ixT K) (pe_ix (ixT K) (pe_ix (ixT K) (pv 1) pe_int) pe_int) pe_int)) (nomark _))
   (pss_one (ps_raise C.nc C.fs rfl (pa_cons (pe_fs (pv 4)) pa_nil))) pss_nil)
  (pss_cons (ps_expr (pe_call G4 (hr.mono (by decide)) rfl m4 k4 b4 .nil passes_up (pa_cons (pv 4) (pa_cons (pe_dget hu (fldK K (pv 0) rfl) (pv 4)) (pa_cons (pe_op op_sub (pe_callB (clen K) rfl ml PySem.boot_len (pa_cons (pv 3) pa_nil)) pe_int) pa_nil)))))
  (pss_cons (ps_for PassesOwn.leaving rfl (pi_range2 rfl mr (pa_cons pe_int (pa_cons (pe_callB (clen K) rfl ml PySem.boot_len (pa_cons (pv 3) pa_nil)) pa_nil))) (pg_name (i:=5) sc_ar.nd rfl (Or.inl rfl))
   (pss_one (ps_expr (pe_call G2 (hr.mono (by decide)) rfl m2 k2 b2 .nil passes_up (pa_cons (pe_ix (ixT K) (pv 3) (pv 5)) (pa_cons (pe_slice (slT K) (pv 3) (po_some pe_int) (po_some (pv 5))) pa_nil))))))
  (pss_one (ps_ret (pcall h1 hr (by decide) rfl (pa_cons (pe_slice (slT K) (pe_ix (ixT K) (pv 1) (pe_un un_neg pe_int)) (po_some pe_int) po_none) (pa_cons (pe_op ((catT K).or (catT0 K)) (pv 2) (pe_slice (slT K) (pv 3) (po_some pe_int) po_none)) pa_nil)))))))))),?_⟩
 cases t with
 |int i=>cases hR
 |str z=>cases hR
 |tup arms=>
 change stepA sn ns arms=some R at hR
 obtain⟨p,us,rfl,hp,r⟩:=tup_at rt
 unfold stepA at hR
 split at hR
 ·rename_i g l rr gs eL eG
  have efs:=split_last eL
  generalize arms.dropLast=fs0 at efs eG
  subst efs
  have rne:us≠[]:=by intro e;rw[e]at r;cases fs0<;>cases r
  obtain⟨us0,fs1,um,m',rfl,e,r0,rm⟩:=r.snoc_inv rne
  obtain⟨ea,eb⟩:=List.append_inj' e rfl
  subst ea
  have eb:=(List.cons.inj eb).1
  subst eb
  split at hR
  ·rename_i xs eX
   obtain⟨b,ws,rfl,hb,rws⟩:=tup_at rm
   cases rws with
   |@cons w0 _ ws _ rw0 rws=>
   obtain⟨c,cs,rfl,hc,rcs⟩:=tup_at rw0
   cases rcs with
   |@cons c0 _ cs _ rg rcs=>
   obtain⟨rfl,lg⟩:=str_len rg
   obtain⟨ecs,lxs⟩:=reps_strs rcs eX
   subst ecs
   have lX:=mapO_len eX
   have ez:szs (fs0++[.tup (.tup (.str g::l)::rr)])=szs fs0+(1+(1+(1+szs l)+szs rr)):=by rw[szs_app];simp only[szs,T.sz];omega
   simp only[T.sz]at hz
   rw[ez]at hz
   have ll:=len_szs l
   have fst:∃b0 w0 c0 x0,(us0++[V.ref b])[0]?=some (.ref b0)∧H b0=some (.tup (.ref c0::w0))∧H c0=some (.tup (.str (gs.headD g)::x0)):=by
    cases r0 with
    |nil=>cases eG;exact⟨b,ws,c,_,rfl,hb,hc⟩
    |@cons u1 t1 us0 fs0 ru ru2=>
     have eG':=eG
     unfold mapO at eG'
     split at eG'
     ·rename_i b1 bs e1 e2
      cases eG'
      obtain⟨b0,w0,c0,x0,rfl,h1',h2',_⟩:=arm_at ru e1
      exact⟨b0,w0,c0,x0,rfl,h1',h2'⟩
     ·cases eG'
   obtain⟨b0,w0,c0,x0,fu,fb,fc⟩:=fst
   refine⟨_,rfl,1,rfl,p,_,-1, .ref b,rfl,rfl,SqT.of hp,atI_last us0 _,b,_,0, .ref c,rfl,rfl,SqT.of hb,atI_nat (j:=0) rfl,?_⟩
   refine⟨_,rfl,c,_,0, .str g,rfl,rfl,SqT.of hc,atI_nat (j:=0) rfl,?_⟩
   refine⟨_,rfl,_,rfl,1,rfl,-1,rfl,sl_init hp fun p' H1 s1 hp1=>⟨p',rfl,⟨_,SqT.of hp1⟩,tags_of hp1 (r0.same s1) eG (by omega) fun lt H2 s2 hl2=>?_⟩⟩
   have s12:=s1.trans s2
   refine⟨g, .ref lt,gs,rfl,lg, .ls hl2,?_⟩
   cases e3:onceM (decide (g∈gs)) with
   |error fl=>
    rw[e3]at hR
    cases hR
    exact fun ea H3 s3=>q ea H3 (s12.trans s3)
   |ok u=>
   rw[e3]at hR
   have hR:stepA1 sn ns g gs l xs rr=some R:=hR
   unfold stepA1 at hR
   intro H3 s3
   have s13:=s12.trans s3
   have S3:=S.same s13
   have A3:∀{b o},H b=some o→H3 b=some o:=fun h=>s13 _ _ h
   refine⟨_,rfl,_,rfl,D.s,CS,D.dx,_,_,rfl,S3.ob,Tx.cs,Tx.n3,fl3 D,g,D.d3,_,_,rfl,lg,S3.h3,keys_map V.str _,?_⟩
   rw[val_kvS]
   cases eK:sn.tkind.lookup g with
   |none=>
    rw[eK]at hR
    cases hR
    exact fun ea H4 s4=>q ea H4 (s13.trans s4)
   |some kd=>
   rw[eK]at hR
   have hR:stepA2 sn ns g gs l xs rr kd=some R:=hR
   unfold stepA2 at hR
   intro H4 s4
   have s14:=s13.trans s4
   have S4:=S.same s14
   split at hR
   ·rename_i k0 m ek0 em
    refine⟨_,rfl,D.s,CS,D.dx,_,_,rfl,S4.ob,Tx.cs,Tx.n3,fl3 D,_,rfl,p,_,0, .ref b0,rfl,rfl,SqT.of (s14 _ _ hp),atI_nat (j:=0) fu,b0,_,0, .ref c0,rfl,rfl,SqT.of (s14 _ _ fb),atI_nat (j:=0) rfl,c0,_,0, .str (gs.headD g),rfl,rfl,SqT.of (s14 _ _ fc),atI_nat (j:=0) rfl,D.d3, .str k0,rfl, .inl ⟨_,Sum.inr _, .inl S4.h3,rfl,by rw[val_kvS,ek0];rfl⟩,rfl,_,rfl,?_⟩
    by_cases ck:kd=k0
    ·rw[if_pos ck]at hR
     subst ck
     have ed:(!decide (V.str kd=V.str kd))=false:=by simp
     rw[ed]
     refine iteF ?_
     have en:((V.str g::xs.map V.str).length:Int)-1=(l.length:Int):=by rw[List.length_cons,List.length_map];omega
     refine⟨_,rfl,_,rfl,D.s,CS,D.dx,_,_,rfl,S4.ob,Tx.cs,Tx.n4,fl4 D,_,rfl,D.d4, .int m,rfl, .inl ⟨_,Sum.inr g, .inl S4.h4,rfl,by rw[val_kvN,em];rfl⟩,_,rfl,c,_,rfl, .inr (SqT.of (s14 _ _ hc)),_,1,rfl,rfl, .mk g m l.length (by rw[←en];rfl) lg (sw.ts g m em) (by omega) ?_⟩
     cases e5:sameM m l.length with
     |error fl=>
      rw[e5]at hR
      cases hR
      exact fun ea H5 s5=>q ea H5 (s14.trans s5)
     |ok u2=>
     rw[e5]at hR
     have hR:okS (rowM [] xs) (rr.map (ph (ns++xs)))=some R:=hR
     intro H5 s5
     have s15:=s14.trans s5
     have lrow:(V.str g::xs.map V.str).length=xs.length+1:=by simp
     refine⟨_,rfl,c,_,rfl, .inr (SqT.of (s15 _ _ hc)),1,((V.str g::xs.map V.str).length:Int),rfl,(by rw[lrow];omega),?_⟩
     have et:(((V.str g::xs.map V.str).length:Int)-1).toNat=xs.length:=by rw[lrow];omega
     rw[et]
     refine for_range (n:=xs.length) (fun i σ H'=>(∃o,σ=[some (.ref D.s),some (.ref p),some (.ref d),some (.ref c),some (.str g),o])∧Same H H'∧rowM (xs.take i) (xs.drop i)=rowM [] xs) ⟨⟨_,rfl⟩,s15,rfl⟩ ?_ ?_
     ·rintro i σ H6 hi ⟨⟨o,rfl⟩,s6,hrow⟩
      have hc6:=s6 _ _ hc
      have hx:(xs.map V.str)[i]?=some (.str xs[i]):=by rw[List.getElem?_map,List.getElem?_eq_getElem hi];rfl
      have hx':(V.str g::xs.map V.str)[i+1]?=some (.str xs[i]):=hx
      have ei:(1:Int)+(i:Int)=((i+1:Nat):Int):=by omega
      refine⟨_,rfl,_,rfl,c,_,1+(i:Int), .str xs[i],rfl,rfl,SqT.of hc6,by rw[ei];exact atI_nat (j:=i+1) hx',?_⟩
      refine⟨_,rfl,1,rfl,_,rfl,((i+1:Nat):Int),by rw[←ei],sl_mid (k:=1) (j:=i+1) hc6 (by decide) (by simp) fun p7 H7 s7 hp7=>?_⟩
      have e7:((V.str g::xs.map V.str).drop 1).take (min (i+1) (V.str g::xs.map V.str).length-1)=(xs.take i).map V.str:=by
       rw[lrow,show min (i+1) (xs.length+1)-1=i by omega,List.drop_succ_cons,List.drop_zero,List.map_take]
      rw[e7]at hp7
      refine⟨xs[i], .ref p7,xs.take i,rfl,lxs _ (List.getElem_mem hi), .tp hp7,?_⟩
      have hdr:xs.drop i=xs[i]::xs.drop (i+1):=List.drop_eq_getElem_cons hi
      rw[hdr]at hrow
      have hrow:(onceM (decide (xs[i]∈xs.take i))).bind (fun _=>rowM (xs.take i++[xs[i]]) (xs.drop (i+1)))=rowM [] xs:=hrow
      cases e8:onceM (decide (xs[i]∈xs.take i)) with
      |error fl=>
       rw[e8]at hrow
       have hrow:(.error fl:Ex Unit)=rowM [] xs:=hrow
       rw[←hrow]at hR
       cases hR
       exact fun ea H8 s8=>q ea H8 ((s6.trans s7).trans s8)
      |ok u3=>
       rw[e8]at hrow
       have hrow:rowM (xs.take i++[xs[i]]) (xs.drop (i+1))=rowM [] xs:=hrow
       exact fun H8 s8=>⟨⟨_,rfl⟩,(s6.trans s7).trans s8,by rw[take_next (List.getElem?_eq_getElem hi)];exact hrow⟩
     ·rintro σ H6 ⟨⟨o,rfl⟩,s6,hrow⟩
      rw[List.take_length,List.drop_length]at hrow
      have hrow:(.ok ():Ex Unit)=rowM [] xs:=hrow
      rw[←hrow]at hR
      cases hR
      refine⟨_,rfl,1,rfl,p,_,-1, .ref b,rfl,rfl,SqT.of (s6 _ _ hp),atI_last us0 _,1,rfl,sl_from (k:=1) (s6 _ _ hb) (by decide) (by simp) fun p7 H7 s7 hp7=>?_⟩
      have s67:=s6.trans s7
      refine⟨_,rfl,_,rfl,1,rfl,sl_from (k:=1) (s67 _ _ hc) (by decide) (by simp) fun p8 H8 s8 hp8=>?_⟩
      have s68:=s67.trans s8
      refine cat_nm (xs:=xs) (s68 _ _ hd) hp8 (by omega) fun d' H9 s9 hd9=>?_
      have s69:=s68.trans s9
      exact⟨p7,d',ws,rr,ns++xs,rfl,(s8.trans s9) _ _ hp7,rws.same s69,hd9,by omega,by rw[List.length_append];omega,names_add hl lxs,fun l1 vs1 H10 s10 h10 st=>q H10 (s69.trans s10) l1 vs1 H10 (Same.refl _) h10 st⟩
    ·rw[if_neg ck]at hR
     cases hR
     have ed:(!decide (V.str kd=V.str k0))=true:=by rw[decide_eq_false (fun h=>ck (V.str.inj h))];rfl
     rw[ed]
     refine iteT ⟨_,rfl,g,rfl,?_,?_⟩
     ·have:("not a tag of the kind of the first arm: ":Str).length≤100:=by decide+kernel
      omega
     ·exact⟨sml 1,fun ea _=>q ea _ s14⟩
   ·cases hR
  ·cases hR
 ·cases hR
end
end Fw
namespace PySem
open PyProof.Rows
namespace F
theorem slot_lri_hint:Slot "list_reverseiterator" "__length_hint__" "list_reverseiterator.__length_hint__" :=
 .of (owner:="list_reverseiterator") (n:="__length_hint__") (by rw[typeLookup_type,builtinLookup_eq_fast];kernel_rfl) (by decide+kernel) (by decide+kernel) (by decide+kernel)
  (by first|exact .inl (by decide+kernel)|exact .inr (by decide+kernel)) (by rw[isSubtype_type];kernel_rfl)
theorem nolen_lri:typeLookup (.type "list_reverseiterator") "__len__"=pure none:=by rw[typeLookup_type,builtinLookup_eq_fast];kernel_rfl
end F
section
variable {prog:Program}{w:World}{A:Around}{s:Shared}{R:Result→Shared→Prop}
theorem wpAny_extend_lri (hh:A.handled=none)(S I l:Addr)(res:Value)(c₀:Nat){xs:Array Value}(hn:xs.size≤sizeLine)(hlI:l≠I)(hSI:S≠I)(hSl:S≠l)(hit:s.heap.IsRevIter I l ((xs.size:Int)-1))(hl:s.heap.IsList l xs)
  (hS:s.heap.get? S=some {cls:=.type "list",data:=.seq #[] c₀})
  (hR:∀s' acc' c',Moved [S,I] (fun a b=>a=b) s s'→s'.heap.get? S=some {cls:=.type "list",dict:=none,data:=.seq acc' c',slots:=#[]}→ItemsOf (fun i v=>xs[xs.size-1-i]?=some v) acc' xs.size→R (.ok (.ret res)) s'):
  wpAny (model prog w) A.in1 (Builtin.List.listExtendWith (.ref S) (.ref I) res)
   (fun fin s'=>match fin with|.done f=>R (.ok f) s'|.again c'=>c'.quiet=true∧codeAny (model prog w) A c' R s') (fun e s'=>R (.error e) s') s:=by
 have l63:=L2.line63
 have hz:(xs.size:Int)<2^63:=by omega
 have W:=(Walks.listRev (prog:=prog) (w:=w) (A:=A.in1) hh I l hlI xs).toS
 have hSf:S∉[I,l]:=by simp[hSI,hSl]
 unfold Builtin.List.listExtendWith
 refine wpAny_bind (wpAny_typeOf hit.typeIs ?_)
 have h1:Builtin.List.listSameRef (.ref S) (.ref I)=false:=by simp[Builtin.List.listSameRef,hSI]
 have h2:(Value.type "list_reverseiterator"==Value.type "list")=false:=by decide
 have h3:(Value.type "list_reverseiterator"==Value.type "tuple")=false:=by decide
 simp only[h1,h2,h3,Bool.or_false,Bool.false_eq_true,if_false]
 refine wpAny_bind (wpAny_pyIter_revIter hit ?_)
 refine wpAny_bind (wpAny_holding ?_)
 unfold Builtin.List.listLengthHint
 refine wpAny_bind (wpAny_specialOf hit.typeIs F.nolen_lri ?_)
 show wpAny _ A.in1 (specialOf (Value.ref I) (Str.ofString "__length_hint__")>>=_) _ _ _
 refine wpAny_bind (wpAny_specialOf hit.typeIs F.slot_lri_hint.lookup ?_)
 (generalize hid:("list_reverseiterator.__length_hint__":String)=id0;(fail_if_success (clear hid id0));wp_delta;rw[show splitId id0=some ("list_reverseiterator","__length_hint__") from by subst hid;decide+kernel];subst hid)
 refine wpAny_bind (wpAny_isInstance (b:=true) hit.typeIs (by rw[isSubtype_type];kernel_rfl) ?_)
 rw[if_neg (by decide)]
 dsimp only
 rw[if_pos (by decide+kernel),if_neg (by decide+kernel)]
 refine wpAny_pure ?_
 have key:∀(h':Heap) (c₁:Nat),h'.get? S=some {cls:=.type "list",data:=.seq #[] c₁}→(∀b o,b≠S→s.heap.get? b=some o→h'.get? b=some o)→
   codeAny (model prog w) A (.builtin "list.extend.loop" ⟨[.ref S, .ref I,res],[]⟩) R {s with heap:=h'}:=fun h' c₁ hS' kp=>by
  have st:(fun(i:Nat) (s:Shared)=>i≤xs.size∧s.heap.IsRevIter I l ((xs.size:Int)-1-(i:Int))∧s.heap.IsList l xs) 0 {s with heap:=h'}:=by
   refine⟨Nat.zero_le _,?_,?_⟩
   ·have e:(xs.size:Int)-1-((0:Nat):Int)=(xs.size:Int)-1:=by omega
    show Heap.IsRevIter h' I l ((xs.size:Int)-1-((0:Nat):Int))
    rw[e]
    exact hit.at fun o e=>kp I _ (Ne.symm hSI) e
   ·exact hl.at fun o e=>kp l _ (Ne.symm hSl) e
  refine codeAny_extend_loopS W hn S hSf res xs.size 0 _ #[] c₁ rfl (Nat.zero_le _) st hS' (ItemsOf.nil _) fun s' acc' c' hm hS'' hacc=>?_
  exact hR s' acc' c' ⟨fun b o hb e=>hm.heap b o hb (kp b o (fun z=>hb (by simp[z])) e),hm.gens.symm,hm.drawn,hm.os,hm.toks⟩ hS'' hacc
 split
 ·refine wpAny_bind (wpAny_rule ?_)
  refine wpAny_bind ?_
  show wpAny _ A.in1 (updateSeq S (·.push .none)>>=fun _=>updateSeq S (·.pop)) _ _ _
  clear l63 hz hn
  refine wpAny_bind (wpAny_updateSeq hS rfl ?_)
  have hS₂:=Heap.get?_update_self (Obj.mapSeq (·.push Value.none)) hS rfl
  refine wpAny_updateSeq (hz:=by seq_fits) hS₂ rfl ?_
  have hS₃:=Heap.get?_update_self (Obj.mapSeq (·.pop)) hS₂ rfl
  exact wpAny_pure ⟨plainId_quiet F.plain_extend_loop _,key _ _ hS₃ fun b o hb e=>(Heap.get?_update_other _ _ (Ne.symm hb)).trans ((Heap.get?_update_other _ _ (Ne.symm hb)).trans e)⟩
 ·exact wpAny_pure ⟨plainId_quiet F.plain_extend_loop _,key _ _ hS fun b o _ e=>e⟩
end
section
variable {prog:Program}{w:World}{A:Around}{E:Value→Shared→Prop}{s:Shared}
end
end PySem
namespace L2
open PySem PySem.Spec PyProof.Rows
section
variable {X:Cx}
end
end L2
namespace PySem
open PyProof.Rows
section
variable {prog:Program}{w:World}{A:Around}{s:Shared}{R:Result→Shared→Prop}
theorem wpAny_list_init_lri (hh:A.handled=none)(S I l:Addr){xs:Array Value}(hn:xs.size≤sizeLine)(hlI:l≠I)(hSI:S≠I)(hSl:S≠l)(hit:s.heap.IsRevIter I l ((xs.size:Int)-1))(hl:s.heap.IsList l xs)
  (hS:s.heap.get? S=some {cls:=.type "list",data:=.seq #[]})
  (hR:∀s' acc' c',Moved [S,I] (fun a b=>a=b) s s'→s'.heap.get? S=some {cls:=.type "list",dict:=none,data:=.seq acc' c',slots:=#[]}→ItemsOf (fun i v=>xs[xs.size-1-i]?=some v) acc' xs.size→R (.ok (.ret .none)) s'):
  wpAny (model prog w) A.in1 (Builtin.«list.__init__» ⟨[.ref S, .ref I],[]⟩)
   (fun fin s'=>match fin with|.done f=>R (.ok f) s'|.again c'=>c'.quiet=true∧codeAny (model prog w) A c' R s') (fun e s'=>R (.error e) s') s:=by
 show wpAny _ A.in1 (do let old ←Builtin.List.listItems (.ref S);Builtin.List.listUpdate (.ref S) (fun _=>#[]);letGo old.toList.reverse;Builtin.List.listExtendWith (.ref S) (.ref I) .none) _ _ s
 refine wpAny_bind ?_
 unfold Builtin.List.listItems
 refine wpAny_bind (wpAny_seqItems hS rfl (wpAny_pure ?_))
 show wpAny _ A.in1 (updateSeq S (fun _=>#[])>>=fun _=>letGo (#[]:Array Value).toList.reverse>>=fun _=>Builtin.List.listExtendWith (.ref S) (.ref I) .none) _ _ s
 refine wpAny_bind (wpAny_updateSeq hS rfl ?_)
 have hS₂:=Heap.get?_update_self (Obj.mapSeq (fun _=>(#[]:Array Value))) hS rfl
 have oth:∀b o,b≠S→s.heap.get? b=some o→(s.heap.update S (Obj.mapSeq (fun _=>(#[]:Array Value)))).get? b=some o :=
  fun b o hb e=>(Heap.get?_update_other _ _ (Ne.symm hb)).trans e
 refine wpAny_bind (wpAny_letGo ?_)
 refine wpAny_extend_lri (s:={s with heap:=s.heap.update S (Obj.mapSeq (fun _=>(#[]:Array Value)))}) hh S I l .none _ hn hlI hSI hSl (hit.at fun o e=>oth _ _ (Ne.symm hSI) e) (hl.at fun o e=>oth _ _ (Ne.symm hSl) e) hS₂ fun s' acc' c' hm hS' hacc=>?_
 exact hR s' acc' c' ⟨fun b o hb e=>hm.heap b o hb (oth b o (fun z=>hb (by simp[z])) e),hm.gens,hm.drawn,hm.os,hm.toks⟩ hS' hacc
end
section
variable {prog:Program}{w:World}{A:Around}{E:Value→Shared→Prop}{s:Shared}
theorem call_list_lri {Q:Value→Shared→Prop}(hh:A.handled=none)(I l:Addr){xs:Array Value}(hn:xs.size≤sizeLine)(hlI:l≠I)(hit:s.heap.IsRevIter I l ((xs.size:Int)-1))(hl:s.heap.IsList l xs)
  (hQ:∀s' acc' c',Moved [s.heap.objs.size,I] (fun a b=>a=b) s s'→s'.heap.get? s.heap.objs.size=some {cls:=.type "list",dict:=none,data:=.seq acc' c',slots:=#[]}→ItemsOf (fun i v=>xs[xs.size-1-i]?=some v) acc' xs.size→Q (.ref s.heap.objs.size) s'):
  wpAny (model prog w) A (call (.type "list") [.ref I]) Q E s:=by
 refine callType_codes (Q₁:=fun obj s₁=>obj=.ref s.heap.objs.size∧s₁={s with heap:=s.heap.push {cls:=.type "list",data:=.seq #[]}}) F.called_list (F.typeCall_list_1 _) F.entry_list_init
  (code_list_new _ ⟨rfl,rfl⟩) fun obj s₁ h₁=>?_
 obtain⟨rfl,rfl⟩:=h₁
 have hS:(s.heap.push {cls:=.type "list",data:=.seq #[]}).get? s.heap.objs.size=some {cls:=.type "list",data:=.seq #[]}:=Heap.get?_push_size _ rfl
 have hSI:s.heap.objs.size≠I:=fun e=>by
  obtain⟨o,ho,_⟩:=hit
  have:=Heap.lt_size ho
  rw[←e]at this
  exact Nat.lt_irrefl _ this
 have hSl:s.heap.objs.size≠l:=fun e=>by
  obtain⟨o,ho,_⟩:=hl
  have:=Heap.lt_size ho
  rw[←e]at this
  exact Nat.lt_irrefl _ this
 refine⟨⟨_,hS,rfl⟩,F.args_list_init_2 _ _,wpAny_list_init_lri (A:=A.in1) (s:={s with heap:=s.heap.push {cls:=.type "list",data:=.seq #[]}}) hh _ I l hn hlI hSI hSl (hit.at fun o e=>Heap.get?_push_of_some _ e) (hl.at fun o e=>Heap.get?_push_of_some _ e) hS fun s' acc' c' hm hS' hacc=>?_⟩
 exact⟨rfl,hQ s' acc' c' ⟨fun b o hb e=>hm.heap b o hb (Heap.get?_push_of_some _ e),hm.gens,hm.drawn,hm.os,hm.toks⟩ hS' hacc⟩
end
end PySem
namespace L2
open PySem PySem.Spec PyProof.Rows
section
variable {X:Cx}
def tListRevL (K:PySem.W.Frag)(te:TE):TE:=fun σ H Q=>te σ H fun x H1=>∃a xs,x=.ref a∧SqL K H1 a xs∧∀l,H1 l=none→Q (.ref l) (upd H1 l (.lst xs.reverse))
theorem pe_listRevL {e:Expr}{te:TE}{p pos p2 pos2:Pos}(hc:X.calm=true)(hgl:Gl X "list")(hml:X.mg "list"=none)(hgr:Gl X "reversed")(hmr:X.mg "reversed"=none)(he:PE X e te)
  (hs1:starEach [Expr.Call (.Name "reversed" p2) [e] [] pos2] X.env=[(false,eval (Expr.Call (.Name "reversed" p2) [e] [] pos2) X.env)]:=by rfl) (hs2:starEach [e] X.env=[(false,eval e X.env)]:=by rfl):
  PE X (.Call (.Name "list" p) [.Call (.Name "reversed" p2) [e] [] pos2] [] pos) (tListRevL X.K te):=by
 intro pins s σ H Q I h
 refine wpAny_Call_Name_kw (ld_blt I hgl hml boot_list ?_ (by decide) (by decide))
 refine PyProof.Rows.callWith_type1 ?_ hs1 rfl
 rw[hs1]
 refine Calls.spliced_cons ?_
 refine wpAny_Call_Name_kw (ld_blt I hgr hmr boot_rev ?_ (by decide) (by decide))
 refine PyProof.Rows.callWith_type1 ?_ hs2 rfl
 rw[hs2]
 refine Calls.spliced_cons (thn (he pins s σ H _ I h) fun u s1 ⟨x,H1,I1,r1,q1⟩=>?_)
 refine Calls.spliced_nil ?_
 obtain⟨a,xs,rfl,hq,q⟩:=q1
 cases r1
 obtain⟨its,rv,pt,hz⟩:=I1.list hq
 have hlen:=rv.length
 have h63:=line63
 refine call_reversed_list pt.isList ?_
 refine Calls.spliced_nil ?_
 have ha:a<s1.heap.objs.size:=by obtain⟨o,ho,_⟩:=pt.isList;exact Heap.lt_size ho
 have hl:Heap.IsList (s1.heap.push (revObj a ((its.toArray.size:Int)-1))) a its.toArray:=pt.isList.at fun o e=>Heap.get?_push_of_some _ e
 refine call_list_lri (s:={s1 with heap:=s1.heap.push (revObj a ((its.toArray.size:Int)-1))}) (I1.ok.hd hc) s1.heap.objs.size a (xs:=its.toArray) (by simp;omega) (Nat.ne_of_lt ha) ⟨_,Heap.get?_push_size _ rfl,rfl,rfl⟩ hl fun s' acc c hm hS hacc=>?_
 obtain⟨h',g',d',t',o'⟩:=s'
 have eg:s1.gens=g':=hm.gens
 have ed:d'=s1.drawn:=hm.drawn
 have eo:o'=s1.os:=hm.os
 subst eg ed eo
 have sz:(s1.heap.push (revObj a (((its.toArray).size:Int)-1))).objs.size=s1.heap.objs.size+1:=Heap.size_push ..
 have kp:∀b o,s1.heap.get? b=some o→h'.get? b=some o:=fun b o e=>by
  have hb:=Heap.lt_size e
  refine hm.heap b o ?_ (Heap.get?_push_of_some _ e)
  simp only[List.mem_cons,List.not_mem_nil,or_false,not_or]
  exact⟨Nat.ne_of_lt (Nat.lt_of_lt_of_le hb (Nat.le_of_lt (by rw[sz];exact Nat.lt_succ_self _))),Nat.ne_of_lt hb⟩
 have va:Vals xs.reverse acc.toList:=by
  refine Vals.of_get (by rw[List.length_reverse,hlen];have:=hacc.1;simp at this;simp[this]) fun i x u e f=>?_
  have hi:i<xs.length:=by have:=(List.getElem?_eq_some_iff.mp e).1;simpa using this
  rw[List.getElem?_reverse hi]at e
  have f':acc[i]?=some u:=by simpa using f
  have g:=hacc.2 i u f'
  have g':its[xs.length-1-i]?=some u:=by
   have:its.toArray[its.toArray.size-1-i]?=some u:=g
   simp only[List.size_toArray,List.getElem?_toArray]at this
   rw[hlen];exact this
  obtain⟨u',hu',ru⟩:=rv.get e
  rw[g']at hu'
  cases hu'
  exact ru
 have ea:acc.toList.toArray=acc:=by simp
 refine⟨.ref _,_,I1.laid (t':=t') kp (a:=(s1.heap.push (revObj a (((its.toArray).size:Int)-1))).objs.size) (by rw[sz];exact Nat.le_succ _) (show ObjOk X.prog X.w _ h' _ (.lst xs.reverse) from⟨by simpa using hz,acc.toList,c,va,by rw[ea];exact hS⟩),rfl,q _ (I1.hok.fresh (by rw[sz];exact Nat.le_succ _))⟩
end
end L2
namespace Fw
open PySem PySem.Spec PyProof.Rows L2
def wordTM (sn:Sn)(ns:List Str):T→Ex Unit
 |.str z=>wordM sn ns z
 |_=>.ok ()
inductive spLw (CS:Addr)(CL:Flt→Addr)(vs:List V)(H:Hp)(Q:VK)(E:XK):Prop where
 |mk (D:SD) (sn:Sn) (v:V) (d:Addr) (t:T) (ns:List Str):vs=[.ref D.s,v, .ref d]→SnL CS H D sn→SnW sn→Rep H v t→isTupT t=false→NmL H d ns→Out CL H E (wordTM sn ns t) (fun _ H'=>Q .non H')→spLw CS CL vs H Q E
inductive spLt (CS:Addr)(CL:Flt→Addr)(vs:List V)(H:Hp)(Q:VK)(E:XK):Prop where
 |mk (D:SD) (sn:Sn) (v:V) (d:Addr) (t:T) (ns:List Str) (n:Nat) (R:Ex Unit):vs=[.ref D.s,v, .ref d]→SnL CS H D sn→SnW sn→Rep H v t→NmL H d ns→t.sz≤99999→ns.length≤100000→(∀x∈ns,x.length≤100000)→runS sn n [ph ns t]=some R→Out CL H E R (fun _ H'=>Q .non H')→spLt CS CL vs H Q E
theorem forms_lookup (fn:Nat→Addr)(z:Str):∀l:List (Str×Nat),(l.map fun p=>(p.1,V.ref (fn p.2))).lookup z=(l.lookup z).map fun n=>V.ref (fn n)
 |[]=>rfl
 |(x,n)::r=>by
  rw[List.map_cons,List.lookup_cons,List.lookup_cons,forms_lookup fn z r]
  cases z==x<;>rfl
section
variable {P:Program}{w:World}{K:PySem.W.Frag}{mg:Str→Option Value}{base:Heap}{f CS fU:Addr}{CL:Flt→Addr}{fd gU:FuncData}{A:AS}{bm:List Value}{newId B initId:String}
abbrev s_lw:Stmt:=top 52
abbrev s_lp:Stmt:=top 53
abbrev s_lt:Stmt:=top 54
abbrev nLt:List Str:=["seen","phrase","names","steps","step"]
theorem sc_lw:FnScope ["seen","word","names"] ["seen","word","names"] (defScope s_lw):=⟨rfl,rfl,rfl,by decide+kernel,rfl,by decide+kernel,by decide+kernel⟩
theorem sc_lp:FnScope ["seen","phrase","names","thing"] pLk (defScope s_lp):=⟨rfl,rfl,rfl,by decide+kernel,rfl,by decide+kernel,by decide+kernel⟩
theorem sc_lt:FnScope nLt pLk (defScope s_lt):=⟨rfl,rfl,rfl,by decide+kernel,rfl,by decide+kernel,by decide+kernel⟩
theorem ok_lw (F:Fun K "look_at_word" "look_at_word" s_lw f fd)(mi:mg "isinstance"=none)(ms:mg "str"=none)(Tx:TxS K CS)(h1:Has P w K mg base 4 "is_path" ["thing"] (spT (onStr pathB)))(h2:HasX P w K mg base 1 "be_there" ["word","there"] (spThere CL))(MU:Meth K CS "uses_val" fU)(GU:FnOk P w K mg base (CXF P w) 4 fU gU ["self","path"] (spUsesV CS CL))(bU:Binds K gU ["self","path"] []):
  FnOk P w K mg base (CXF P w) 5 f fd ["seen","word","names"] (spLw CS CL):=by
 refine F.okX sc_lw (fun cdv A' outer s H vs Q E hr h=>?_)
 obtain⟨D,sn,v,d,t,ns,rfl,S,sw,rt,nt,hd,q⟩:=h
 obtain⟨f2,g2,G2,b2,k2,m2⟩:=h2
 refine⟨_,pss_one (ps_if (pt_val (pcall h1 hr (by decide) rfl (pa_cons (pv 1) pa_nil))) (pss_one (ps_expr (pe_meth (pv 0) Tx.cs MU GU hr bU .nil passes_up (pa_cons (pv 1) pa_nil))))
  (pss_one (ps_if (pt_val (pe_callB call_isi rfl mi boot_isinstance (pa_cons (pv 1) (pa_cons (pe_bltn (v:=.ty "str") rfl ms boot_str rfl) pa_nil)))) (pss_one (ps_expr (pe_call G2 (hr.mono (by decide)) rfl m2 k2 b2 .nil passes_up (pa_cons (pv 1) (pa_cons (pv 2) pa_nil))))) pss_nil))),?_⟩
 refine⟨_,rfl,v,t,rfl,rt,fun H1 s1=>⟨_,rfl,?_⟩⟩
 have S1:=S.same s1
 have rt1:=rt.same s1
 cases t with
 |tup l=>cases nt
 |int i=>exact iteF ⟨_,rfl,v,_,"str",_,rfl,rep_ty rt1,kit_str K (.int i),_,rfl,iteF (q H1 s1)⟩
 |str z=>
  obtain⟨rfl,lz⟩:=str_len rt
  have q:Out CL H E (wordM sn ns z) (fun _ H'=>Q .non H'):=q
  unfold wordM at q
  show if pathB z=true then _ else _
  cases c:pathB z with
  |true=>
   rw[c,if_pos rfl]at q
   refine iteT ⟨_,rfl,D.s,D.dx,_,rfl,S1.ob,nfl4 D,_,rfl,D,sn,z,rfl,S1,(path_ok c lz).1,sw.fc _,?_⟩
   cases e:valM sn z with
   |ok u=>rw[e]at q;exact fun H2 s2=>q H2 (s1.trans s2)
   |error fl=>rw[e]at q;exact fun ea H2 s2=>q ea H2 (s1.trans s2)
  |false=>
   rw[c,if_neg Bool.false_ne_true]at q
   refine iteF ⟨_,rfl,_,_,"str",_,rfl,rep_ty rt1,kit_str K (.str z),_,rfl,iteT ?_⟩
   refine⟨_,rfl,_,rfl,z, .ref d,ns,rfl,lz, .tp (s1 _ _ hd),?_⟩
   cases e:thereM (decide (z∈ns)) with
   |ok u=>rw[e]at q;exact fun H2 s2=>q H2 (s1.trans s2)
   |error fl=>rw[e]at q;exact fun ea H2 s2=>q ea H2 (s1.trans s2)
set_option maxHeartbeats 2000000 in
theorem ok_lp {fn:Nat→Addr}{dd:Addr}(F:Fun K "look_at_phrase" "look_at_phrase" s_lp f fd)(mi:mg "isinstance"=none)(mt:mg "tuple"=none)(h1:Has P w K mg base 1 "headed" ["thing"] spHd)(h2:Has P w K mg base 2 "is_great" ["thing"] (spT (onStr greatB)))(h3:HasX P w K mg base 3 "look_at_tag" pLk (spTag CS CL A))(h4:HasX P w K mg base 5 "look_at_word" ["seen","word","names"] (spLw CS CL))
  (h5:HasX P w K mg base 2 "look_at_plain" pLk (spPl CS A)) (md:mg "PHRASE_LOOKS"=some (.ref dd)) (DD:StrDict K w dd (formsP.map fun p=>(p.1,V.ref (fn p.2)))) (hf:∀n,n≤5→∃gd ps,FnOk P w K mg base (CXF P w) 3 (fn n) gd ps (spFm CS CL A n)∧Binds K gd ps []∧PySem.W.keepIn K (.ref (fn n))=true):
  FnOk P w K mg base (CXF P w) 6 f fd pLk (spStep CS CL A 0):=by
 refine F.okX sc_lp (fun cdv A' outer s H vs Q E hr h=>?_)
 obtain⟨D,sn,v,d,t,ns,R,rfl,S,sw,rt,hd,hz,hn,hl,hR,q⟩:=h
 obtain⟨f3,g3,G3,b3,k3,m3⟩:=h3
 obtain⟨f4,g4,G4,b4,k4,m4⟩:=h4
 obtain⟨f5,g5,G5,b5,k5,m5⟩:=h5
 refine⟨_,pss_cons (pset 3 sc_lp.nd (pcall h1 hr (by decide) rfl (pa_cons (pv 1) pa_nil)))
  (pss_cons (ps_if (pt_val (pcall h2 hr (by decide) rfl (pa_cons (pe_ix (ixT K) (pv 3) pe_int) pa_nil))) (pss_one (ps_ret (pe_call G3 (hr.mono (by decide)) rfl m3 k3 b3 .nil passes_up (pa_cons (pv 0) (pa_cons (pv 3) (pa_cons (pv 2) pa_nil)))))) pss_nil)
  (pss_cons (ps_if (pt_not (pt_val (pe_callB call_isi rfl mi boot_isinstance (pa_cons (pv 1) (pa_cons (pe_bltn (v:=.ty "tuple") rfl mt boot_tuple rfl) pa_nil)))))
   (pss_cons (ps_expr (pe_call G4 (hr.mono (by decide)) rfl m4 k4 b4 .nil passes_up (pa_cons (pv 0) (pa_cons (pv 1) (pa_cons (pv 2) pa_nil))))) (pss_one (ps_ret (pe_lst pa_nil)))) pss_nil)
  (pss_cons (ps_if (pt_cmpR op_in_dict (pe_ix (ixT K) (pv 1) pe_int) (pe_glob (v:=.ref dd) rfl md rfl) (by with_unfolding_all rfl))
   (pss_one (ps_ret (pe_callE (E:=E) (fun f sp=>∃n,n≤5∧f=fn n∧sp=spFm CS CL A n) (fun f sp ⟨n,hn,e1,e2⟩=>by
     subst e1 e2
     obtain⟨gd,ps,k1,k2,k3⟩:=hf n hn
     exact⟨3,gd,ps,k1,hr.mono (by decide),k3,k2⟩) (pe_ix ix_dict (pe_glob (v:=.ref dd) rfl md rfl) (pe_ix (ixT K) (pv 1) pe_int) (fun _ _=>rfl)) passes_up (pa_cons (pv 0) (pa_cons (pv 1) (pa_cons (pv 2) pa_nil)))))) pss_nil)
  (pss_one (ps_ret (pe_call G5 (hr.mono (by decide)) rfl m5 k5 b5 .nil passes_up (pa_cons (pv 0) (pa_cons (pv 1) (pa_cons (pv 2) pa_nil))))))))),?_⟩
 change stepP sn ns t=some R at hR
 refine⟨_,rfl,v,t,rfl,rt,fun p us H1 s1 hp rus _=>?_⟩
 have S1:=S.same s1
 cases t with
 |int i=>
  cases hR
  cases rus with
  |@cons u0 _ us _ ru0 rus=>
  cases ru0
  refine⟨_,rfl,p,_,0, .int i,rfl,rfl,SqT.of hp,atI_nat (j:=0) rfl,_, .int i,rfl, .int i,fun H2 s2=>⟨_,rfl,iteF ?_⟩⟩
  have s12:=s1.trans s2
  refine⟨_,rfl,v,_,"tuple",_,rfl,rep_ty (rt.same s12),kit_tup K (.int i),_,rfl,iteT ?_⟩
  refine⟨_,rfl,_,rfl,_,rfl,D,sn,v,d, .int i,ns,rfl,S.same s12,sw,rt.same s12,rfl,s12 _ _ hd,fun H3 s3=>⟨sml 0,fun l hl=>q H3 (s12.trans s3) l [] _ (same_new hl _) upd_same .nil⟩⟩
 |str z=>
  obtain⟨rfl,lz⟩:=str_len rt
  cases rus with
  |@cons u0 _ us _ ru0 rus=>
  cases ru0
  cases rus
  refine⟨_,rfl,p,_,0, .str z,rfl,rfl,SqT.of hp,atI_nat (j:=0) rfl,_, .str z,rfl, .str z lz,fun H2 s2=>⟨_,rfl,?_⟩⟩
  have s12:=s1.trans s2
  show if greatB z=true then _ else _
  have hR:(if greatB z=true then okS (tagM sn z 0) [] else okS (wordM sn ns z) [])=some R:=hR
  cases c:greatB z with
  |true=>
   rw[c,if_pos rfl]at hR
   refine iteT ⟨_,rfl,_,rfl,_,rfl,D,sn,p,d,z,[],[],ns,rfl,S.same s12,sw,s2 _ _ hp, .nil,s12 _ _ hd,by decide,hn,hl,lz,?_⟩
   cases e:tagM sn z ([]:List T).length with
   |ok u=>
    rw[show tagM sn z 0=.ok u from e]at hR
    cases hR
    exact fun H3 s3=>q H3 (s12.trans s3)
   |error fl=>
    rw[show tagM sn z 0=.error fl from e]at hR
    cases hR
    exact fun ea H3 s3=>q ea H3 (s12.trans s3)
  |false=>
   rw[c,if_neg Bool.false_ne_true]at hR
   refine iteF ⟨_,rfl,_,_,"tuple",_,rfl,rep_ty (rt.same s12),kit_tup K (.str z),_,rfl,iteT ?_⟩
   refine⟨_,rfl,_,rfl,_,rfl,D,sn, .str z,d, .str z,ns,rfl,S.same s12,sw,rt.same s12,rfl,s12 _ _ hd,?_⟩
   cases e:wordM sn ns z with
   |ok u=>
    rw[e]at hR
    cases hR
    show Out CL H2 E (wordM sn ns z) _
    rw[e]
    exact fun H3 s3=>⟨sml 0,fun l hl=>q H3 (s12.trans s3) l [] _ (same_new hl _) upd_same .nil⟩
   |error fl=>
    rw[e]at hR
    cases hR
    show Out CL H2 E (wordM sn ns z) _
    rw[e]
    exact fun ea H3 s3=>q ea H3 (s12.trans s3)
 |tup tl=>
  cases tl with
  |nil=>cases hR
  |cons t0 l=>
  cases t0 with
  |int i=>cases hR
  |tup x=>cases hR
  |str z=>
  obtain⟨a,vs0,rfl,ha,r0⟩:=tup_at rt
  cases r0 with
  |@cons v0 _ vs _ rv0 r0=>
  obtain⟨rfl,lz⟩:=str_len rv0
  cases rus with
  |@cons u0 _ us _ ru0 rus=>
  obtain⟨rfl,_⟩:=str_len ru0
  have ezs:(T.tup (.str z::l)).sz=1+(1+szs l):=rfl
  rw[ezs]at hz
  refine⟨_,rfl,p,_,0, .str z,rfl,rfl,SqT.of hp,atI_nat (j:=0) rfl,_, .str z,rfl, .str z lz,fun H2 s2=>⟨_,rfl,?_⟩⟩
  have s12:=s1.trans s2
  show if greatB z=true then _ else _
  have hR:(if greatB z=true then okS (tagM sn z l.length) (l.map (ph ns)) else match formsP.lookup z with
   |some n=>formM sn ns n l
   |none=>some (.ok (l.map (ph ns))))=some R:=hR
  cases c:greatB z with
  |true=>
   rw[c,if_pos rfl]at hR
   refine iteT ⟨_,rfl,_,rfl,_,rfl,D,sn,p,d,z,us,l,ns,rfl,S.same s12,sw,s2 _ _ hp,rus.same s2,s12 _ _ hd,by omega,hn,hl,lz,?_⟩
   cases e:tagM sn z l.length with
   |ok u=>
    rw[e]at hR
    cases hR
    exact fun H3 s3=>q H3 (s12.trans s3)
   |error fl=>
    rw[e]at hR
    cases hR
    exact fun ea H3 s3=>q ea H3 (s12.trans s3)
  |false=>
   rw[c,if_neg Bool.false_ne_true]at hR
   refine iteF ⟨_,rfl,_,_,"tuple",_,rfl,rep_ty (rt.same s12),kit_tup K (.tup (.str z::l)),_,rfl,iteF ?_⟩
   have ha2:=s12 _ _ ha
   refine⟨_,rfl,a,_,0, .str z,rfl,rfl,SqT.of ha2,atI_nat (j:=0) rfl,z,dd,_,rfl,rfl,DD,_,rfl,?_⟩
   rw[forms_lookup,Option.isSome_map]
   cases e:formsP.lookup z with
   |none=>
    rw[e]at hR
    cases hR
    exact iteF ⟨_,rfl,_,rfl,_,rfl,D,a,d, .str z,vs,l,ns,rfl,ha2,r0.same s12,s12 _ _ hd,by omega,hn,hl,fun ll vs2 H3 s3 h3 st=>q H3 (s12.trans s3) ll vs2 H3 (Same.refl _) h3 st⟩
   |some n=>
    rw[e]at hR
    have hR:formM sn ns n l=some R:=hR
    have hn5:n≤5:=by
     have:∀p∈formsP,p.2≤5:=by decide+kernel
     exact this (z,n) (mem_of_lookup' e)
    refine iteT ⟨_,rfl,a,_,0, .str z,rfl,rfl,SqT.of ha2,atI_nat (j:=0) rfl,z,dd,_,V.ref (fn n),rfl,rfl,DD,?_,fn n,spFm CS CL A n,rfl,⟨n,hn5,rfl,rfl⟩,_,rfl,_,rfl,_,rfl,D,sn,a,d,z,vs,l,ns,R,rfl,S.same s12,sw,ha2,r0.same s12,s12 _ _ hd,by omega,hn,hl,lz,hR,?_⟩
    ·rw[forms_lookup,e];rfl
    ·cases R with
     |ok ss=>exact fun H3 s3=>q H3 (s12.trans s3)
     |error fl=>exact fun ea H3 s3=>q ea H3 (s12.trans s3)
end
theorem StsL.snoc_inv {A:AS}{H:Hp}{vs:List V}{v:V}{ss:List Stp}(h:StsL A H (vs++[v]).reverse ss):∃s ss',ss=s::ss'∧StL A H v s∧StsL A H vs.reverse ss':=by
 rw[List.reverse_append]at h
 cases h with
 |cons h q=>exact⟨_,_,rfl,h,q⟩
section
variable {P:Program}{w:World}{K:PySem.W.Frag}{mg:Str→Option Value}{base:Heap}{f CS:Addr}{CL:Flt→Addr}{fd:FuncData}{A:AS}
set_option maxHeartbeats 2000000 in
theorem ok_lt (F:Fun K "look_through" "look_through" s_lt f fd)(ml:mg "len"=none)(mL:mg "list"=none)(mr:mg "reversed"=none)(h1:Has P w K mg base 1 "steps_of" pSo (spSoF A))
  (hf:∀k,k≤3→∃gd ps,FnOk P w K mg base (CXF P w) 6 (A.at k) gd ps (spStep CS CL A k)∧Binds K gd ps []∧PySem.W.keepIn K (.ref (A.at k))=true):FnOk P w K mg base (CXF P w) 7 f fd pLk (spLt CS CL):=by
 refine F.okX sc_lt (fun cdv A' outer s H vs Q E hr h=>?_)
 obtain⟨D,sn,v,d,t,ns,n,R,rfl,S,sw,rt,hd,hz,hn,hl,hR,q⟩:=h
 refine⟨_,pss_cons (pset 3 sc_lt.nd (pcall h1 hr (by decide) rfl (pa_cons (pe_tup (pa_cons (pv 1) pa_nil)) (pa_cons (pv 2) pa_nil))))
  (pss_one (ps_while PassesOwn.leaving (pt_cmpR op_gt (pe_callB (clen K) rfl ml PySem.boot_len (pa_cons (pv 3) pa_nil)) pe_int (nomark _))
   (pss_cons (pset 4 sc_lt.nd (ppop K (pv 3)))
   (pss_one (ps_expr (pe_bm PySem.F.plainAttrs_list PySem.F.slot_list_extend PySem.F.type_list_extend mt_extend (pv 3) (pa_cons (pe_listRevL rfl rfl mL rfl mr
    (pe_callE (E:=E) (fun f sp=>∃k,k≤3∧f=A.at k∧sp=spStep CS CL A k) (fun f sp ⟨k,hk,e1,e2⟩=>by
     subst e1 e2
     obtain⟨gd,ps,k1,k2,k3⟩:=hf k hk
     exact⟨6,gd,ps,k1,hr,k3,k2⟩) (pe_ix (ixT K) (pv 4) pe_int) passes_up (pa_cons (pv 0) (pa_cons (pe_ix (ixT K) (pv 4) pe_int) (pa_cons (pe_ix (ixT K) (pv 4) pe_int) pa_nil))))) pa_nil))))))),?_⟩
 refine⟨_,rfl,sml 1,fun p1 hp1=>?_⟩
 obtain⟨H1,eN,s1,k1⟩:=nw hp1 (.tup [v])
 rw[eN]
 have ezt:szs [t]=t.sz+0:=rfl
 refine⟨_,rfl,p1,d,[v],[t],ns,rfl,k1, .cons (rt.same s1) .nil,s1 _ _ hd,by rw[ezt];omega,by omega,hl,fun lw vs1 H2 nlw s2 h2 st2=>?_⟩
 have s12:=s1.trans s2
 have nl:=same_free s1 nlw
 refine⟨fun m σ H'=>∃(o:Option V) (ws:List V) (ss:List Stp) (n:Nat),σ=[some (.ref D.s),some v,some (.ref d),some (.ref lw),o]∧H' lw=some (.lst ws)∧StsL A H' ws.reverse ss∧ws.length≤10000000∧runS sn n ss=some R∧m=n∧Same H H',⟨n,none,vs1,[ph ns t],n,rfl,h2,?_,?_,hR,rfl,s12⟩,?_⟩
 ·have:=st2.reverse
  exact this
 ·rw[st2.length];show 1≤10000000;decide
 rintro n1 σ H3 ⟨o,ws,ss,_,rfl,hw3,st3,lws,hR3,rfl,s3⟩
 refine⟨_,rfl,lw,ws,rfl, .inl (SqL.of hw3),_,_,rfl,rfl,_,rfl,ite2 (fun c=>?_) (fun c=>?_)⟩
 ·have c1:(0:Int)<ws.length:=of_decide_eq_true c
  have wsE:∃ws' v1,ws=ws'++[v1]:=by
   rcases List.eq_nil_or_concat ws with e|⟨l,x,e⟩
   ·rw[e]at c1;simp at c1
   ·exact⟨l,x,by rw[e,List.concat_eq_append]⟩
  obtain⟨ws',v1,rfl⟩:=wsE
  obtain⟨s,ss',rfl,st1,stR⟩:=st3.snoc_inv
  cases n1 with
  |zero=>cases hR3
  |succ n1=>
  unfold runS at hR3
  split at hR3
  ·rename_i hns
   cases st1 with
   |@mk qa da va k t1 ns1 hq hk rt1 hd1 hz1 hn1 hl1=>
   refine⟨_,fun _ _ h=>h,?_⟩
   refine⟨_,rfl, .inl ⟨rfl,_,SqL.of hw3⟩,lw,_, .ref qa,rfl,rfl,hw3,by simp,?_⟩
   rw[List.dropLast_concat]
   have sU:∀(o:HO),Same H (upd H3 lw o):=fun o b x hb=>by
    rw[upd_ne (ne_of_none hb nl)];exact s3 _ _ hb
   have tU:∀b xs,H3 b=some (.tup xs)→(upd H3 lw (.lst ws')) b=some (.tup xs):=fun b xs hb=>by
    rw[upd_ne (ne_of hb hw3 (by intro z;cases z))];exact hb
   have k4:(upd H3 lw (.lst ws')) lw=some (.lst ws'):=upd_same
   have s4:=sU (.lst ws')
   have hq4:=tU _ _ hq
   have rt4:=rt1.mono tU
   have hd4:=tU _ _ hd1
   have st4:=stR.mono tU
   revert k4 s4 hq4 rt4 hd4 st4
   generalize upd H3 lw (.lst ws')=H4
   intro k4 s4 hq4 rt4 hd4 st4
   refine⟨_,rfl, .inl ⟨rfl,_,SqL.of k4⟩,_,rfl,qa,_,0, .ref (A.at k),rfl,rfl,SqT.of hq4,atI_nat (j:=0) rfl,A.at k,spStep CS CL A k,rfl,⟨k,hk,rfl,rfl⟩,?_⟩
   refine⟨_,rfl,_,rfl,qa,_,1,va,rfl,rfl,SqT.of hq4,atI_nat (j:=1) rfl,_,rfl,qa,_,2, .ref da,rfl,rfl,SqT.of hq4,atI_nat (j:=2) rfl,?_⟩
   cases eM:stepM sn ⟨k,t1,ns1⟩ with
   |none=>rw[eM]at hR3;cases hR3
   |some R1=>
   rw[eM]at hR3
   refine⟨D,sn,va,da,t1,ns1,R1,rfl,S.same s4,sw,rt4,hd4,hz1,hns,hl1,eM,?_⟩
   cases R1 with
   |error fl=>
    cases hR3
    exact fun ea H5 s5=>q ea H5 (s4.trans s5)
   |ok ss1=>
    have hR3:(if(ss1++ss').length≤1000000 then runS sn n1 (ss1++ss') else none)=some R:=hR3
    split at hR3
    rotate_left
    ·cases hR3
    rename_i lss
    rw[List.length_append]at lss
    intro H5 s5 l6 vs6 H6 s6 h6 st6
    have s56:=s5.trans s6
    refine⟨l6,vs6,rfl,SqL.of h6,fun l7 hl7=>?_⟩
    obtain⟨H7,eN7,s7,k7⟩:=nw hl7 (.lst vs6.reverse)
    rw[eN7]
    have s57:=s56.trans s7
    have hw7:=s57 _ _ k4
    have l6':=st6.length
    have lR:=st4.length
    rw[List.length_reverse]at lR
    refine⟨lw,l7,ws',vs6.reverse,rfl,rfl,hw7,k7,?_,?_⟩
    ·rw[List.length_reverse]
     exact Nat.le_trans (m:=1000000) (by omega) (small (by decide))
    have tU7:∀b xs,H7 b=some (.tup xs)→(upd H7 lw (.lst (ws'++vs6.reverse))) b=some (.tup xs):=fun b xs hb=>by
     rw[upd_ne (ne_of hb hw7 (by intro z;cases z))];exact hb
    refine⟨n1,Nat.lt_succ_self _,_,_,ss1++ss',n1,rfl,upd_same,?_,?_,hR3,rfl,?_⟩
    ·rw[List.reverse_append,List.reverse_reverse]
     exact((st6.mono fun b xs h=>s7 b _ h).append (st4.mono fun b xs h=>s57 b _ h)).mono tU7
    ·rw[List.length_append,List.length_reverse];omega
    ·intro b o hb
     rw[upd_ne (ne_of_none hb nl)]
     exact(s4.trans s57) _ _ hb
  ·cases hR3
 ·have c1:¬(0:Int)<ws.length:=fun h=>c (decide_eq_true h)
  have:ws=[]:=List.length_eq_zero_iff.mp (by omega)
  subst this
  cases st3
  cases n1 with
  |zero=>cases hR3
  |succ n1=>
   cases hR3
   exact q H3 s3
end
abbrev Mo (α:Type):=Option (Ex α)
def bO {α β:Type}(x:Mo α)(f:α→Mo β):Mo β:=match x with
 |none=>none
 |some (.error e)=>some (.error e)
 |some (.ok a)=>f a
def ks {α:Type}(l:List (Str×α)):List Str:=l.map (·.1)
def lenOk (sn:Sn):Bool:=decide (sn.sorts.length≤1000000)&&(decide (sn.ksize.length≤1000000)&&(decide (sn.tkind.length≤1000000)&&(decide (sn.tsize.length≤1000000)&&(decide (sn.rsize.length≤1000000)&&(decide (sn.fields.length≤1000000)&&(decide (sn.faces.length≤1000000)&&(decide (sn.parts.length≤1000000)&&(decide (sn.givers.length≤1000000)&&decide (sn.makers.length≤1000000)))))))))
def smN (l:List (Str×Nat)):Bool:=l.all fun p=>decide (p.2<1000000)
def snOk (sn:Sn):Bool:=(sn.givers++sn.parts).all (fun p=>(sn.faces.lookup p.2).isSome)&&(smN sn.rsize&&(smN sn.tsize&&(smN sn.ksize&&(smN sn.sorts&&sn.faces.all fun p=>smN p.2.hides))))
mutual
def wfB:T→Bool
 |.int _=>false
 |.str _=>true
 |.tup l=>wfH l&&wfsB l
def wfsB:List T→Bool
 |[]=>true
 |t::r=>wfB t&&wfsB r
def wfH:List T→Bool
 |.str _::_::_=>true
 |_=>false
end
def kM (sn:Sn)(hl:List (Str×Nat))(vars:Option (List Str))(t:T):Mo Unit:=if(snOk sn&&(smN hl&&(wfB t&&decide (t.sz≤99999))))=true then runK sn hl vars (t.sz+1) [t] else none
def pM (sn:Sn)(ns:List Str)(t:T):Mo Unit:=if(snOk sn&&(decide (t.sz≤99999)&&decide (ns.length≤100000)))=true then runS sn (3*t.sz+10) [ph ns t] else none
def kindsM (sn:Sn)(vars:List Str):List T→Mo Unit
 |[]=>some (.ok ())
 |k::r=>bO (kM sn [] (some vars) k) fun _=>kindsM sn vars r
def rowsM (f:Sn→T→Mo Sn):Sn→List T→Mo Sn
 |sn,[]=>some (.ok sn)
 |sn,t::r=>bO (f sn t) fun sn'=>rowsM f sn' r
def sortM (sn:Sn)(w:Str)(vs:List Str):Ex Sn:=(onceM (decide (w∈ks sn.sorts))).bind fun _=>(rowM [] vs).bind fun _=>.ok {sn with sorts:=sn.sorts++[(w,vs.length)]}
def sortD (sn:Sn):T→Mo (Sn×List Str)
 |.tup (.str _::.str z::.tup l::_)=>match mapO strT l with
  |some vs=>if lenOk sn=true then(match sortM sn z vs with
   |.ok s=>some (.ok (s,vs))
   |.error e=>some (.error e)) else none
  |none=>none
 |_=>none
def kRow (z:Str)(vs:List Str)(sn:Sn):T→Mo Sn
 |.tup (.str g::l)=>if lenOk sn=true then(match onceM (decide (g∈ks sn.tkind)) with
  |.error e=>some (.error e)
  |.ok _=>if g∈ks sn.tsize then none else bO (kindsM {sn with tkind:=sn.tkind++[(g,z)],tsize:=sn.tsize++[(g,l.length)]} vs l) fun _=>some (.ok {sn with tkind:=sn.tkind++[(g,z)],tsize:=sn.tsize++[(g,l.length)]})) else none
 |_=>none
def kindD (sn:Sn):T→Mo Sn
 |.tup (x::.str z::y::rows)=>bO (sortD sn (.tup (x::.str z::y::rows))) fun p=>if(lenOk p.1&&decide (z∉ks p.1.ksize))=true then rowsM (kRow z p.2) {p.1 with ksize:=p.1.ksize++[(z,rows.length)]} rows else none
 |_=>none
def rRow (vs:List Str)(sn:Sn):T→Mo Sn
 |.tup (.str g::l)=>if lenOk sn=true then(match onceM (decide (g∈sn.fields)) with
  |.error e=>some (.error e)
  |.ok _=>bO (kindsM {sn with fields:=sn.fields++[g]} vs l) fun _=>some (.ok {sn with fields:=sn.fields++[g]})) else none
 |_=>none
def recordD (sn:Sn):T→Mo Sn
 |.tup (x::.str z::y::rows)=>bO (sortD sn (.tup (x::.str z::y::rows))) fun p=>if(lenOk p.1&&decide (z∉ks p.1.rsize))=true then rowsM (rRow p.2) {p.1 with rsize:=p.1.rsize++[(z,rows.length)]} rows else none
 |_=>none
mutual
theorem wf_of {H:Hp}:∀(t:T) {v:V},Rep H v t→wfB t=true→WfK t
 |.int i,_,_,h=>by simp[wfB]at h
 |.str x,_,r,_=>by cases r with|str _ hx=>exact .w hx
 |.tup l,_,r,h=>by
  simp only[wfB,Bool.and_eq_true]at h
  cases r with
  |tup _ r=>
   have q:=wfs_of l r h.2
   cases r with
   |nil=>cases h.1
   |cons ra r=>
    cases ra with
    |int i=>cases h.1
    |tup _ _=>cases h.1
    |str z hz=>
     cases r with
     |nil=>cases h.1
     |cons rb r=>exact .a hz (by intro e;cases e) fun x hx=>q x (List.mem_cons_of_mem _ hx)
theorem wfs_of {H:Hp}:∀(ts:List T) {vs:List V},Reps H vs ts→wfsB ts=true→∀x∈ts,WfK x
 |[],_,_,_=>fun x hx=>by cases hx
 |t::ts,_,r,h=>fun x hx=>by
  simp only[wfsB,Bool.and_eq_true]at h
  cases r with
  |cons r q=>
   rcases List.mem_cons.mp hx with e|hx
   ·rw[e];exact wf_of t r h.1
   ·exact wfs_of ts q h.2 x hx
end
theorem smN_at {l:List (Str×Nat)}(h:smN l=true):∀z m,l.lookup z=some m→m<1000000:=fun z m e=>by
 have:=List.all_eq_true.mp h (z,m) (mem_of_lookup' e)
 exact of_decide_eq_true this
theorem faceOf_mem {sn:Sn}{p f:Str}(h:faceOf sn p=.ok f):∃q∈sn.givers++sn.parts,q.2=f:=by
 unfold faceOf at h
 cases e:sn.givers.lookup p with
 |some g=>
  rw[e]at h
  cases h
  exact⟨(p,f),List.mem_append_left _ (mem_of_lookup' e),rfl⟩
 |none=>
  rw[e]at h
  cases e2:sn.parts.lookup p with
  |none=>rw[e2]at h;cases h
  |some g=>
   rw[e2]at h
   cases h
   exact⟨(p,f),List.mem_append_right _ (mem_of_lookup' e2),rfl⟩
theorem snW_of {sn:Sn}(h:snOk sn=true):SnW sn:=by
 unfold snOk at h
 simp only[Bool.and_eq_true]at h
 obtain⟨h1,h2,h3,h4,h5,h6⟩:=h
 refine⟨fun p f e=>?_,smN_at h2,smN_at h3,smN_at h4,smN_at h5,fun f r e=>?_⟩
 ·obtain⟨q,hq,rfl⟩:=faceOf_mem e
  exact List.all_eq_true.mp h1 q hq
 ·exact smN_at (List.all_eq_true.mp h6 (f,r) (mem_of_lookup' e))
theorem snG_of {sn:Sn}{hl:List (Str×Nat)}(W:SnW sn)(h:smN hl=true):SnG sn hl:=by
 refine⟨fun z m e=>?_,W.fc⟩
 unfold takenM at e
 split at e
 ·unfold hideM at e
  cases e1:faceOf sn (pathL z).1 with
  |error x=>rw[e1]at e;cases e
  |ok f=>
   rw[e1]at e
   have e:(match sn.faces.lookup f with|some r=>look .nn (r.hides.lookup (pathL z).2)|none=>.error .nn:Ex Nat)=.ok m:=e
   cases e2:sn.faces.lookup f with
   |none=>rw[e2]at e;cases e
   |some r=>
    rw[e2]at e
    have e:look .nn (r.hides.lookup (pathL z).2)=.ok m:=e
    cases e3:r.hides.lookup (pathL z).2 with
    |none=>rw[e3]at e;cases e
    |some k=>rw[e3]at e;cases e;exact W.fh f r e2 _ _ e3
 ·cases e1:hl.lookup z with
  |some n=>rw[e1]at e;cases e;exact smN_at h _ _ e1
  |none=>
   rw[e1]at e
   have e:look .nn (sn.sorts.lookup z)=.ok m:=e
   cases e2:sn.sorts.lookup z with
   |none=>rw[e2]at e;cases e
   |some n=>rw[e2]at e;cases e;exact W.st _ _ e2
theorem put_new {kvs:List (Key×V)}{zs:List Str}{z:Str}{v:V}(k:keysK kvs zs)(h:z∉zs):putK kvs (Sum.inr z) v=kvs++[(Sum.inr z,v)]:=by
 unfold putK
 rw[valV_any,keys_val k,decide_eq_false h,if_neg Bool.false_ne_true]
theorem nd_ne {α:Type}:∀{l:List α} (_:l.Nodup) {a b:α} (i j:Nat) (_:l[i]?=some a) (_:l[j]?=some b) (_:i≠j),a≠b
 |[],_,_,_,_,_,hi,_,_=>by cases hi
 |x::r,h,a,b,i,j,hi,hj,hij=>by
  rw[List.nodup_cons]at h
  cases i with
  |zero=>
   cases j with
   |zero=>exact absurd rfl hij
   |succ j=>cases hi;intro e;subst e;exact h.1 (List.mem_of_getElem? hj)
  |succ i=>
   cases j with
   |zero=>cases hj;intro e;subst e;exact h.1 (List.mem_of_getElem? hi)
   |succ j=>exact nd_ne h.2 i j hi hj (fun e=>hij (by rw[e]))
theorem kps_upd {D:SD}{H:Hp}{d:Addr}{o:HO}(h:d=D.s∨d∈D.dl):KpS D H (upd H d o):=fun b x h1 h2 hb=>by
 rw[upd_ne (fun e=>by
  rcases h with h|h
  ·exact h1 (e.trans h)
  ·exact h2 (by rw[e];exact h))]
 exact hb
section
variable {CS:Addr}{H:Hp}{D:SD}{sn:Sn}
theorem SnL.rest (S:SnL CS H D sn){d:Addr}{kv kv':List (Key×V)}(hd:H d=some (.dK kv))(hm:d∈D.dl):(∃kvs,H D.d7=some (.dK kvs)∧FacesL (upd H d (.dK kv')) D.dl kvs sn.faces)∧(∃kvs,H D.d10=some (.dK kvs)∧MakersL (upd H d (.dK kv')) kvs sn.makers):=by
 obtain⟨k7,h7,f7⟩:=S.h7
 obtain⟨k10,h10,f10⟩:=S.h10
 have tp:∀b xs,H b=some (.tup xs)→(upd H d (.dK kv')) b=some (.tup xs):=fun b xs hb=>by rw[upd_ne (ne_of hb hd (by intro z;cases z))];exact hb
 exact⟨⟨k7,h7,f7.keep tp fun b kv2 nb hb=>by rw[upd_ne (fun e=>nb (by rw[e];exact hm))];exact hb⟩,⟨k10,h10,f10.keep tp⟩⟩
theorem SnL.put1 (S:SnL CS H D sn)(w:Str)(n:Nat):SnL CS (upd H D.d1 (.dK (kvN (sn.sorts++[(w,n)])))) D {sn with sorts:=sn.sorts++[(w,n)]}:=by
 obtain⟨⟨k7,h7,f7⟩,⟨k10,h10,f10⟩⟩:=S.rest (kv':=kvN (sn.sorts++[(w,n)])) S.h1 (by simp[SD.dl])
 have ne:∀{x:Addr} (j:Nat),(D.s::D.dl)[j]?=some x→j≠1→x≠D.d1:=fun j hj h=>nd_ne S.nd j 1 hj rfl h
 exact⟨by rw[upd_ne (ne 0 rfl (by decide))];exact S.ob,S.nd,upd_same,by rw[upd_ne (ne 2 rfl (by decide))];exact S.h2,by rw[upd_ne (ne 3 rfl (by decide))];exact S.h3,by rw[upd_ne (ne 4 rfl (by decide))];exact S.h4,by rw[upd_ne (ne 5 rfl (by decide))];exact S.h5,by rw[upd_ne (ne 6 rfl (by decide))];exact S.h6,
  ⟨k7,by rw[upd_ne (ne 7 rfl (by decide))];exact h7,f7⟩,by rw[upd_ne (ne 8 rfl (by decide))];exact S.h8,by rw[upd_ne (ne 9 rfl (by decide))];exact S.h9,⟨k10,by rw[upd_ne (ne 10 rfl (by decide))];exact h10,f10⟩⟩
end
section
variable {CS:Addr}{H H':Hp}{D:SD}{sn:Sn}
theorem SnL.dk (S:SnL CS H D sn){d:Addr}(h:d∈D.dl):∃kv,H d=some (.dK kv):=by
 obtain⟨k7,h7,_⟩:=S.h7
 obtain⟨k10,h10,_⟩:=S.h10
 simp only[SD.dl,List.mem_cons,List.not_mem_nil,or_false]at h
 rcases h with rfl|rfl|rfl|rfl|rfl|rfl|rfl|rfl|rfl|rfl
 ·exact⟨_,S.h1⟩
 ·exact⟨_,S.h2⟩
 ·exact⟨_,S.h3⟩
 ·exact⟨_,S.h4⟩
 ·exact⟨_,S.h5⟩
 ·exact⟨_,S.h6⟩
 ·exact⟨_,h7⟩
 ·exact⟨_,S.h8⟩
 ·exact⟨_,S.h9⟩
 ·exact⟨_,h10⟩
theorem SnL.tk (S:SnL CS H D sn)(k:KpS D H H'):∀b xs,H b=some (.tup xs)→H' b=some (.tup xs):=fun b xs hb=>k b _ (fun e=>by rw[e,S.ob]at hb;cases hb) (fun e=>by obtain⟨kv,hk⟩:=S.dk e;rw[hk]at hb;cases hb) hb
theorem SnL.new (S:SnL CS H D sn){a:Addr}(h:H a=none):a≠D.s∧a∉D.dl:=by
 refine⟨fun e=>?_,fun e=>?_⟩
 ·rw[e,S.ob]at h;cases h
 ·obtain⟨kv,hk⟩:=S.dk e;rw[hk]at h;cases h
theorem SnL.put2 (S:SnL CS H D sn)(w:Str)(n:Nat):SnL CS (upd H D.d2 (.dK (kvN (sn.ksize++[(w,n)])))) D {sn with ksize:=sn.ksize++[(w,n)]}:=by
 obtain⟨⟨k7,h7,f7⟩,⟨k10,h10,f10⟩⟩:=S.rest (kv':=kvN (sn.ksize++[(w,n)])) S.h2 (by simp[SD.dl])
 have ne:∀{x:Addr} (j:Nat),(D.s::D.dl)[j]?=some x→j≠2→x≠D.d2:=fun j hj h=>nd_ne S.nd j 2 hj rfl h
 exact⟨by rw[upd_ne (ne 0 rfl (by decide))];exact S.ob,S.nd,by rw[upd_ne (ne 1 rfl (by decide))];exact S.h1,upd_same,by rw[upd_ne (ne 3 rfl (by decide))];exact S.h3,by rw[upd_ne (ne 4 rfl (by decide))];exact S.h4,by rw[upd_ne (ne 5 rfl (by decide))];exact S.h5,by rw[upd_ne (ne 6 rfl (by decide))];exact S.h6,⟨k7,by rw[upd_ne (ne 7 rfl (by decide))];exact h7,f7⟩,by rw[upd_ne (ne 8 rfl (by decide))];exact S.h8,by rw[upd_ne (ne 9 rfl (by decide))];exact S.h9,⟨k10,by rw[upd_ne (ne 10 rfl (by decide))];exact h10,f10⟩⟩
theorem SnL.put3 (S:SnL CS H D sn)(w z:Str):SnL CS (upd H D.d3 (.dK (kvS (sn.tkind++[(w,z)])))) D {sn with tkind:=sn.tkind++[(w,z)]}:=by
 obtain⟨⟨k7,h7,f7⟩,⟨k10,h10,f10⟩⟩:=S.rest (kv':=kvS (sn.tkind++[(w,z)])) S.h3 (by simp[SD.dl])
 have ne:∀{x:Addr} (j:Nat),(D.s::D.dl)[j]?=some x→j≠3→x≠D.d3:=fun j hj h=>nd_ne S.nd j 3 hj rfl h
 exact⟨by rw[upd_ne (ne 0 rfl (by decide))];exact S.ob,S.nd,by rw[upd_ne (ne 1 rfl (by decide))];exact S.h1,by rw[upd_ne (ne 2 rfl (by decide))];exact S.h2,upd_same,by rw[upd_ne (ne 4 rfl (by decide))];exact S.h4,by rw[upd_ne (ne 5 rfl (by decide))];exact S.h5,by rw[upd_ne (ne 6 rfl (by decide))];exact S.h6,⟨k7,by rw[upd_ne (ne 7 rfl (by decide))];exact h7,f7⟩,by rw[upd_ne (ne 8 rfl (by decide))];exact S.h8,by rw[upd_ne (ne 9 rfl (by decide))];exact S.h9,⟨k10,by rw[upd_ne (ne 10 rfl (by decide))];exact h10,f10⟩⟩
theorem SnL.put4 (S:SnL CS H D sn)(w:Str)(n:Nat):SnL CS (upd H D.d4 (.dK (kvN (sn.tsize++[(w,n)])))) D {sn with tsize:=sn.tsize++[(w,n)]}:=by
 obtain⟨⟨k7,h7,f7⟩,⟨k10,h10,f10⟩⟩:=S.rest (kv':=kvN (sn.tsize++[(w,n)])) S.h4 (by simp[SD.dl])
 have ne:∀{x:Addr} (j:Nat),(D.s::D.dl)[j]?=some x→j≠4→x≠D.d4:=fun j hj h=>nd_ne S.nd j 4 hj rfl h
 exact⟨by rw[upd_ne (ne 0 rfl (by decide))];exact S.ob,S.nd,by rw[upd_ne (ne 1 rfl (by decide))];exact S.h1,by rw[upd_ne (ne 2 rfl (by decide))];exact S.h2,by rw[upd_ne (ne 3 rfl (by decide))];exact S.h3,upd_same,by rw[upd_ne (ne 5 rfl (by decide))];exact S.h5,by rw[upd_ne (ne 6 rfl (by decide))];exact S.h6,⟨k7,by rw[upd_ne (ne 7 rfl (by decide))];exact h7,f7⟩,by rw[upd_ne (ne 8 rfl (by decide))];exact S.h8,by rw[upd_ne (ne 9 rfl (by decide))];exact S.h9,⟨k10,by rw[upd_ne (ne 10 rfl (by decide))];exact h10,f10⟩⟩
theorem SnL.put5 (S:SnL CS H D sn)(w:Str)(n:Nat):SnL CS (upd H D.d5 (.dK (kvN (sn.rsize++[(w,n)])))) D {sn with rsize:=sn.rsize++[(w,n)]}:=by
 obtain⟨⟨k7,h7,f7⟩,⟨k10,h10,f10⟩⟩:=S.rest (kv':=kvN (sn.rsize++[(w,n)])) S.h5 (by simp[SD.dl])
 have ne:∀{x:Addr} (j:Nat),(D.s::D.dl)[j]?=some x→j≠5→x≠D.d5:=fun j hj h=>nd_ne S.nd j 5 hj rfl h
 exact⟨by rw[upd_ne (ne 0 rfl (by decide))];exact S.ob,S.nd,by rw[upd_ne (ne 1 rfl (by decide))];exact S.h1,by rw[upd_ne (ne 2 rfl (by decide))];exact S.h2,by rw[upd_ne (ne 3 rfl (by decide))];exact S.h3,by rw[upd_ne (ne 4 rfl (by decide))];exact S.h4,upd_same,by rw[upd_ne (ne 6 rfl (by decide))];exact S.h6,⟨k7,by rw[upd_ne (ne 7 rfl (by decide))];exact h7,f7⟩,by rw[upd_ne (ne 8 rfl (by decide))];exact S.h8,by rw[upd_ne (ne 9 rfl (by decide))];exact S.h9,⟨k10,by rw[upd_ne (ne 10 rfl (by decide))];exact h10,f10⟩⟩
theorem SnL.put6 (S:SnL CS H D sn)(w:Str):SnL CS (upd H D.d6 (.dK (kvB (sn.fields++[w])))) D {sn with fields:=sn.fields++[w]}:=by
 obtain⟨⟨k7,h7,f7⟩,⟨k10,h10,f10⟩⟩:=S.rest (kv':=kvB (sn.fields++[w])) S.h6 (by simp[SD.dl])
 have ne:∀{x:Addr} (j:Nat),(D.s::D.dl)[j]?=some x→j≠6→x≠D.d6:=fun j hj h=>nd_ne S.nd j 6 hj rfl h
 exact⟨by rw[upd_ne (ne 0 rfl (by decide))];exact S.ob,S.nd,by rw[upd_ne (ne 1 rfl (by decide))];exact S.h1,by rw[upd_ne (ne 2 rfl (by decide))];exact S.h2,by rw[upd_ne (ne 3 rfl (by decide))];exact S.h3,by rw[upd_ne (ne 4 rfl (by decide))];exact S.h4,by rw[upd_ne (ne 5 rfl (by decide))];exact S.h5,upd_same,⟨k7,by rw[upd_ne (ne 7 rfl (by decide))];exact h7,f7⟩,by rw[upd_ne (ne 8 rfl (by decide))];exact S.h8,by rw[upd_ne (ne 9 rfl (by decide))];exact S.h9,⟨k10,by rw[upd_ne (ne 10 rfl (by decide))];exact h10,f10⟩⟩
theorem SnL.put8 (S:SnL CS H D sn)(w z:Str):SnL CS (upd H D.d8 (.dK (kvS (sn.parts++[(w,z)])))) D {sn with parts:=sn.parts++[(w,z)]}:=by
 obtain⟨⟨k7,h7,f7⟩,⟨k10,h10,f10⟩⟩:=S.rest (kv':=kvS (sn.parts++[(w,z)])) S.h8 (by simp[SD.dl])
 have ne:∀{x:Addr} (j:Nat),(D.s::D.dl)[j]?=some x→j≠8→x≠D.d8:=fun j hj h=>nd_ne S.nd j 8 hj rfl h
 exact⟨by rw[upd_ne (ne 0 rfl (by decide))];exact S.ob,S.nd,by rw[upd_ne (ne 1 rfl (by decide))];exact S.h1,by rw[upd_ne (ne 2 rfl (by decide))];exact S.h2,by rw[upd_ne (ne 3 rfl (by decide))];exact S.h3,by rw[upd_ne (ne 4 rfl (by decide))];exact S.h4,by rw[upd_ne (ne 5 rfl (by decide))];exact S.h5,by rw[upd_ne (ne 6 rfl (by decide))];exact S.h6,⟨k7,by rw[upd_ne (ne 7 rfl (by decide))];exact h7,f7⟩,upd_same,by rw[upd_ne (ne 9 rfl (by decide))];exact S.h9,⟨k10,by rw[upd_ne (ne 10 rfl (by decide))];exact h10,f10⟩⟩
theorem SnL.put9 (S:SnL CS H D sn)(w z:Str):SnL CS (upd H D.d9 (.dK (kvS (sn.givers++[(w,z)])))) D {sn with givers:=sn.givers++[(w,z)]}:=by
 obtain⟨⟨k7,h7,f7⟩,⟨k10,h10,f10⟩⟩:=S.rest (kv':=kvS (sn.givers++[(w,z)])) S.h9 (by simp[SD.dl])
 have ne:∀{x:Addr} (j:Nat),(D.s::D.dl)[j]?=some x→j≠9→x≠D.d9:=fun j hj h=>nd_ne S.nd j 9 hj rfl h
 exact⟨by rw[upd_ne (ne 0 rfl (by decide))];exact S.ob,S.nd,by rw[upd_ne (ne 1 rfl (by decide))];exact S.h1,by rw[upd_ne (ne 2 rfl (by decide))];exact S.h2,by rw[upd_ne (ne 3 rfl (by decide))];exact S.h3,by rw[upd_ne (ne 4 rfl (by decide))];exact S.h4,by rw[upd_ne (ne 5 rfl (by decide))];exact S.h5,by rw[upd_ne (ne 6 rfl (by decide))];exact S.h6,⟨k7,by rw[upd_ne (ne 7 rfl (by decide))];exact h7,f7⟩,by rw[upd_ne (ne 8 rfl (by decide))];exact S.h8,upd_same,⟨k10,by rw[upd_ne (ne 10 rfl (by decide))];exact h10,f10⟩⟩
theorem FacesL.snoc {dl:List Addr}{kvs:List (Key×V)}{l:List (Str×FaceR)}(h:FacesL H dl kvs l){z:Str}{r:FaceR}{a hh v:Addr}(h1:H a=some (.tup [.int r.n, .ref hh, .ref v]))(h2:H hh=some (.dK (kvN r.hides)))(h3:H v=some (.dK (kvB r.vals)))(n2:hh∉dl)(n3:v∉dl):FacesL H dl (kvs++[(Sum.inr z, .ref a)]) (l++[(z,r)]):=by
 induction h with
 |nil=>exact .cons h1 h2 h3 n2 n3 .nil
 |cons g1 g2 g3 g4 g5 _ ih=>exact .cons g1 g2 g3 g4 g5 ih
theorem MakersL.snoc {kvs:List (Key×V)}{l:List (Str×(Nat×Str))}(h:MakersL H kvs l){z:Str}{n:Nat}{f:Str}{a:Addr}(h1:H a=some (.tup [.int n, .str f])):MakersL H (kvs++[(Sum.inr z, .ref a)]) (l++[(z,(n,f))]):=by
 induction h with
 |nil=>exact .cons h1 .nil
 |cons g1 _ ih=>exact .cons g1 ih
theorem SnL.put7 (S:SnL CS H D sn){kvs:List (Key×V)}(h7:H D.d7=some (.dK kvs)){z:Str}{r:FaceR}{a hh v:Addr}(h1:H a=some (.tup [.int r.n, .ref hh, .ref v]))(h2:H hh=some (.dK (kvN r.hides)))(h3:H v=some (.dK (kvB r.vals)))(n2:hh∉D.dl)(n3:v∉D.dl):SnL CS (upd H D.d7 (.dK (kvs++[(Sum.inr z, .ref a)]))) D {sn with faces:=sn.faces++[(z,r)]}:=by
 obtain⟨⟨k7,h7',f7⟩,⟨k10,h10,f10⟩⟩:=S.rest (kv':=kvs++[(Sum.inr z, .ref a)]) h7 (by simp[SD.dl])
 obtain rfl:k7=kvs:=by rw[h7]at h7';cases h7';rfl
 have ne:∀{x:Addr} (j:Nat),(D.s::D.dl)[j]?=some x→j≠7→x≠D.d7:=fun j hj h=>nd_ne S.nd j 7 hj rfl h
 have nd:∀{b:Addr},b∉D.dl→b≠D.d7:=fun h e=>h (by rw[e];simp[SD.dl])
 refine⟨by rw[upd_ne (ne 0 rfl (by decide))];exact S.ob,S.nd,by rw[upd_ne (ne 1 rfl (by decide))];exact S.h1,by rw[upd_ne (ne 2 rfl (by decide))];exact S.h2,by rw[upd_ne (ne 3 rfl (by decide))];exact S.h3,by rw[upd_ne (ne 4 rfl (by decide))];exact S.h4,by rw[upd_ne (ne 5 rfl (by decide))];exact S.h5,by rw[upd_ne (ne 6 rfl (by decide))];exact S.h6,
  ⟨_,upd_same,f7.snoc ?_ ?_ ?_ n2 n3⟩,by rw[upd_ne (ne 8 rfl (by decide))];exact S.h8,by rw[upd_ne (ne 9 rfl (by decide))];exact S.h9,⟨k10,by rw[upd_ne (ne 10 rfl (by decide))];exact h10,f10⟩⟩
 ·rw[upd_ne (ne_of h1 h7 (by intro z;cases z))];exact h1
 ·rw[upd_ne (nd n2)];exact h2
 ·rw[upd_ne (nd n3)];exact h3
theorem SnL.put10 (S:SnL CS H D sn){kvs:List (Key×V)}(h10:H D.d10=some (.dK kvs)){z:Str}{n:Nat}{f:Str}{a:Addr}(h1:H a=some (.tup [.int n, .str f])):SnL CS (upd H D.d10 (.dK (kvs++[(Sum.inr z, .ref a)]))) D {sn with makers:=sn.makers++[(z,(n,f))]}:=by
 obtain⟨⟨k7,h7,f7⟩,⟨k10,h10',f10⟩⟩:=S.rest (kv':=kvs++[(Sum.inr z, .ref a)]) h10 (by simp[SD.dl])
 obtain rfl:k10=kvs:=by rw[h10]at h10';cases h10';rfl
 have ne:∀{x:Addr} (j:Nat),(D.s::D.dl)[j]?=some x→j≠10→x≠D.d10:=fun j hj h=>nd_ne S.nd j 10 hj rfl h
 refine⟨by rw[upd_ne (ne 0 rfl (by decide))];exact S.ob,S.nd,by rw[upd_ne (ne 1 rfl (by decide))];exact S.h1,by rw[upd_ne (ne 2 rfl (by decide))];exact S.h2,by rw[upd_ne (ne 3 rfl (by decide))];exact S.h3,by rw[upd_ne (ne 4 rfl (by decide))];exact S.h4,by rw[upd_ne (ne 5 rfl (by decide))];exact S.h5,by rw[upd_ne (ne 6 rfl (by decide))];exact S.h6,
  ⟨k7,by rw[upd_ne (ne 7 rfl (by decide))];exact h7,f7⟩,by rw[upd_ne (ne 8 rfl (by decide))];exact S.h8,by rw[upd_ne (ne 9 rfl (by decide))];exact S.h9,⟨_,upd_same,f10.snoc ?_⟩⟩
 rw[upd_ne (ne_of h1 h10 (by intro z;cases z))];exact h1
end
def OutK (CS:Addr)(CL:Flt→Addr)(D:SD)(H:Hp)(E:XK){α:Type}(r:Ex α)(ok:α→Hp→Prop):Prop:=match r with
 |.ok x=>∀H',KpS D H H'→ok x H'
 |.error f=>∀ea H',KpS D H H'→E (.ref (CL f)) (some ea) H'
inductive spAll (CL:Flt→Addr)(vs:List V)(H:Hp)(Q:VK)(E:XK):Prop where
 |mk (p:Addr) (ws:List Str):vs=[.ref p]→H p=some (.tup (ws.map V.str))→(∀x∈ws,x.length≤100000)→ws.length≤1000000→Out CL H E (rowM [] ws) (fun _ H'=>∀d H2,Same H' H2→H' d=none→H2 d=some (.dK (kvB ws))→Q (.ref d) H2)→spAll CL vs H Q E
theorem kvB_app (a b:List Str):kvB (a++b)=kvB a++kvB b:=by unfold kvB;rw[List.map_append]
section
variable {P:Program}{w:World}{K:PySem.W.Frag}{mg:Str→Option Value}{base:Heap}{f CS:Addr}{CL:Flt→Addr}{fd:FuncData}
abbrev s_na:Stmt:=top 56
theorem sc_na:FnScope ["words","there","word"] ["words"] (defScope s_na):=⟨rfl,rfl,rfl,by decide+kernel,rfl,by decide+kernel,by decide+kernel⟩
theorem ok_na (F:Fun K "name_all" "name_all" s_na f fd)(h1:HasX P w K mg base 1 "name_once" ["word","there"] (spOnce CL)):FnOk P w K mg base (CXF P w) 2 f fd ["words"] (spAll CL):=by
 refine F.okX sc_na (fun cdv A' outer s H vs Q E hr h=>?_)
 have hu:=hu_of hr
 obtain⟨p,ws,rfl,hp,lw,ln,q⟩:=h
 obtain⟨f1,g1,G1,b1,k1,m1⟩:=h1
 refine⟨_,pss_cons (pset 1 sc_na.nd pe_dnewK)
  (pss_cons (ps_for PassesOwn.leaving rfl (piT K (pv 0)) (pg_name (i:=2) sc_na.nd rfl (Or.inl rfl))
   (pss_cons (ps_expr (pe_call G1 (hr.mono (by decide)) rfl m1 k1 b1 .nil passes_up (pa_cons (pv 2) (pa_cons (pv 1) pa_nil))))
   (pss_one (ps_dput hu (pv 1) (pv 2) pe_bl rfl))))
  (pss_one (ps_ret (pv 1)))),?_⟩
 refine fun d hd=>?_
 obtain⟨H1,eN,s1,kd1⟩:=nw hd (.dK [])
 rw[eN]
 refine⟨_,rfl,p,rfl,⟨_,SqT.of (s1 _ _ hp)⟩,?_⟩
 refine for_tup (xs:=ws.map V.str) (fun i σ H'=>(∃o,σ=[some (.ref p),some (.ref d),o])∧Same H H'∧H' d=some (.dK (kvB (ws.take i)))∧rowM (ws.take i) (ws.drop i)=rowM [] ws) ⟨⟨_,rfl⟩,s1,kd1,rfl⟩ ?_ ?_ ?_
 ·rintro i σ H' _ ⟨_,s2,_⟩
  exact SqT.of (s2 _ _ hp)
 ·rintro i x σ H2 hx ⟨⟨o,rfl⟩,s2,kd,hrow⟩
  rw[List.getElem?_map]at hx
  cases ex:ws[i]? with
  |none=>rw[ex]at hx;cases hx
  |some z=>
  rw[ex]at hx
  cases hx
  obtain⟨hi,ez⟩:=List.getElem?_eq_some_iff.mp ex
  have hz:=lw z (List.mem_of_getElem? ex)
  refine⟨_,rfl,_,rfl,z, .ref d,ws.take i,rfl,hz, .dk kd (keys_kvB _),?_⟩
  have hdr:ws.drop i=z::ws.drop (i+1):=by rw[List.drop_eq_getElem_cons hi,ez]
  rw[hdr]at hrow
  have hrow:(onceM (decide (z∈ws.take i))).bind (fun _=>rowM (ws.take i++[z]) (ws.drop (i+1)))=rowM [] ws:=hrow
  cases e8:onceM (decide (z∈ws.take i)) with
  |error fl=>
   rw[e8]at hrow
   have hrow:(.error fl:Ex Unit)=rowM [] ws:=hrow
   rw[←hrow]at q
   exact fun ea H8 s8=>q ea H8 (s2.trans s8)
  |ok u3=>
   rw[e8]at hrow
   have hrow:rowM (ws.take i++[z]) (ws.drop (i+1))=rowM [] ws:=hrow
   have nz:z∉ws.take i:=fun h=>by rw[decide_eq_true h]at e8;cases e8
   intro H3 s3
   have kd3:=s3 _ _ kd
   refine⟨_,rfl,_,rfl,d,_,rfl, .k (k:=Sum.inr z) kd3 ?_,?_⟩
   ·show(kvB (ws.take i)).length<sizeLine
    unfold kvB
    rw[List.length_map,List.length_take]
    exact Nat.lt_of_le_of_lt (m:=1000000) (by omega) (by decide)
   rw[put_new (keys_kvB _) nz]
   refine⟨⟨_,rfl⟩,fun b o hb=>by rw[upd_ne (ne_of_none hb hd)];exact(s2.trans s3) _ _ hb,?_,?_⟩
   ·rw[take_next ex,kvB_app];exact upd_same
   ·rw[take_next ex];exact hrow
 ·rintro σ H2 ⟨⟨o,rfl⟩,s2,kd,hrow⟩
  rw[List.length_map,List.take_length]at kd
  rw[List.length_map,List.take_length,List.drop_length]at hrow
  have hrow:(.ok ():Ex Unit)=rowM [] ws:=hrow
  rw[←hrow]at q
  exact⟨_,rfl,q H (Same.refl H) d H2 s2 hd kd⟩
end
theorem lenOk_all {sn:Sn}(h:lenOk sn=true):sn.sorts.length≤1000000∧sn.ksize.length≤1000000∧sn.tkind.length≤1000000∧sn.tsize.length≤1000000∧sn.rsize.length≤1000000∧sn.fields.length≤1000000∧sn.faces.length≤1000000∧sn.parts.length≤1000000∧sn.givers.length≤1000000∧sn.makers.length≤1000000:=by
 unfold lenOk at h
 simp only[Bool.and_eq_true,decide_eq_true_eq]at h
 exact h
theorem put_kvN {l:List (Str×Nat)}{z:Str}{n:Nat}{v:V}(h:z∉ks l)(e:v=.int (n:Int)):putK (kvN l) (Sum.inr z) v=kvN (l++[(z,n)]):=by
 unfold kvN
 rw[put_new (keys_map (fun n:Nat=>V.int n) l) h,e]
 rw[List.map_append];rfl
theorem put_kvS {l:List (Str×Str)}{z x:Str}(h:z∉ks l):putK (kvS l) (Sum.inr z) (.str x)=kvS (l++[(z,x)]):=by
 unfold kvS
 rw[put_new (keys_map V.str l) h]
 rw[List.map_append];rfl
theorem put_kvB {l:List Str}{z:Str}(h:z∉l):putK (kvB l) (Sum.inr z) (.bl true)=kvB (l++[z]):=by
 rw[put_new (keys_kvB l) h,kvB_app];rfl
theorem len_kvN (l:List (Str×Nat)):(kvN l).length=l.length:=by unfold kvN;rw[List.length_map]
theorem len_kvS (l:List (Str×Str)):(kvS l).length=l.length:=by unfold kvS;rw[List.length_map]
theorem len_kvB (l:List Str):(kvB l).length=l.length:=by unfold kvB;rw[List.length_map]
theorem once_ok {b:Bool}{u:Unit}(h:onceM b=.ok u):b=false:=by
 cases b with
 |true=>cases h
 |false=>rfl
theorem szl {n:Nat}(h:n≤1000000):n<sizeLine:=Nat.lt_of_le_of_lt h (by decide)
theorem kps_kd {D:SD}{H H':Hp}(k:KpS D H H'){d:Addr}{o:HO}(h:d≠D.s∧d∉D.dl)(e:H d=some o):H' d=some o:=k d o h.1 h.2 e
theorem kM_asks {sn:Sn}{hl:List (Str×Nat)}{vars:Option (List Str)}{t:T}{R:Ex Unit}(h:kM sn hl vars t=some R){H:Hp}{v:V}(r:Rep H v t):WfK t∧t.sz≤100000∧SnG sn hl∧∃n,runK sn hl vars n [t]=some R:=by
 unfold kM at h
 split at h
 ·rename_i c
  simp only[Bool.and_eq_true,decide_eq_true_eq]at c
  obtain⟨c1,c2,c3,c4⟩:=c
  exact⟨wf_of t r c3,by omega,snG_of (snW_of c1) c2,_,h⟩
 ·cases h
inductive spKinds (CS:Addr)(CL:Flt→Addr)(vs:List V)(H:Hp)(Q:VK)(E:XK):Prop where
 |mk (D:SD) (sn:Sn) (p d:Addr) (us:List V) (l:List T) (ws:List Str) (R:Ex Unit):vs=[.ref D.s, .ref p, .ref d]→SnL CS H D sn→H p=some (.tup us)→Reps H us l→H d=some (.dK (kvB ws))→kindsM sn ws l=some R→Out CL H E R (fun _ H'=>Q .non H')→spKinds CS CL vs H Q E
inductive spDecl (CS:Addr)(CL:Flt→Addr)(M:Sn→T→Mo Sn)(vs:List V)(H:Hp)(Q:VK)(E:XK):Prop where
 |mk (D:SD) (sn:Sn) (v:V) (t:T) (R:Ex Sn):vs=[.ref D.s,v]→SnL CS H D sn→Rep H v t→t.sz≤99999→M sn t=some R→OutK CS CL D H E R (fun sn' H'=>SnL CS H' D sn'→Q .non H')→spDecl CS CL M vs H Q E
inductive spSort (CS:Addr)(CL:Flt→Addr)(vs:List V)(H:Hp)(Q:VK)(E:XK):Prop where
 |mk (D:SD) (sn:Sn) (v:V) (t:T) (R:Ex (Sn×List Str)):vs=[.ref D.s,v]→SnL CS H D sn→Rep H v t→t.sz≤99999→sortD sn t=some R→OutK CS CL D H E R (fun p H'=>SnL CS H' D p.1→∀d,d≠D.s∧d∉D.dl→H' d=some (.dK (kvB p.2))→Q (.ref d) H')→spSort CS CL vs H Q E
theorem bO_ok {α β:Type}{x:Mo α}{f:α→Mo β}{R:Ex β}(h:bO x f=some R):(∃e,x=some (.error e)∧R=.error e)∨∃a,x=some (.ok a)∧f a=some R:=by
 match x,h with
 |none,h=>cases h
 |some (.error e),h=>cases h;exact .inl ⟨e,rfl,rfl⟩
 |some (.ok a),h=>exact .inr ⟨a,rfl,h⟩
section
variable {P:Program}{w:World}{K:PySem.W.Frag}{mg:Str→Option Value}{base:Heap}{f CS:Addr}{CL:Flt→Addr}{fd:FuncData}
abbrev s_srt:Stmt:=top 57
abbrev s_ks:Stmt:=top 58
abbrev s_kd:Stmt:=top 59
abbrev s_rd:Stmt:=top 60
abbrev pDe:List Str:=["seen","declaration"]
theorem sc_srt:FnScope pDe pDe (defScope s_srt):=⟨rfl,rfl,rfl,by decide+kernel,rfl,by decide+kernel,by decide+kernel⟩
theorem sc_ks:FnScope ["seen","kinds","variables","kind"] ["seen","kinds","variables"] (defScope s_ks):=⟨rfl,rfl,rfl,by decide+kernel,rfl,by decide+kernel,by decide+kernel⟩
theorem sc_kd:FnScope ["seen","declaration","variables","row"] pDe (defScope s_kd):=⟨rfl,rfl,rfl,by decide+kernel,rfl,by decide+kernel,by decide+kernel⟩
theorem sc_rd:FnScope ["seen","declaration","variables","field"] pDe (defScope s_rd):=⟨rfl,rfl,rfl,by decide+kernel,rfl,by decide+kernel,by decide+kernel⟩
theorem Reps.at {H:Hp}:∀{us:List V} {l:List T} (i:Nat) {x:V},Reps H us l→us[i]?=some x→∃t,l[i]?=some t∧Rep H x t:=by
 intro us
 induction us with
 |nil=>intro l i x r h;cases h
 |cons u us ih=>
  intro l i x r h
  cases r with
  |cons r q=>
   cases i with
   |zero=>cases h;exact⟨_,rfl,r⟩
   |succ i=>exact ih i q h
theorem ok_ks (F:Fun K "look_at_kinds" "look_at_kinds" s_ks f fd)(h1:HasX P w K mg base 7 "look_at_kind" ["seen","kind","hides","variables"] (spKind CS CL)):FnOk P w K mg base (CXF P w) 8 f fd ["seen","kinds","variables"] (spKinds CS CL):=by
 refine F.okX sc_ks (fun cdv A' outer s H vs Q E hr h=>?_)
 obtain⟨D,sn,p,d,us,l,ws,R,rfl,S,hp,r,hd,hR,q⟩:=h
 obtain⟨f1,g1,G1,b1,k1,m1⟩:=h1
 refine⟨_,pss_one (ps_for PassesOwn.leaving rfl (piT K (pv 1)) (pg_name (i:=3) sc_ks.nd rfl (Or.inl rfl))
   (pss_one (ps_expr (pe_call G1 (hr.mono (by decide)) rfl m1 k1 b1 .nil passes_up (pa_cons (pv 0) (pa_cons (pv 3) (pa_cons pe_dnewK (pa_cons (pv 2) pa_nil)))))))),?_⟩
 refine⟨_,rfl,p,rfl,⟨_,SqT.of hp⟩,?_⟩
 refine for_tup (xs:=us) (fun i σ H'=>(∃o,σ=[some (.ref D.s),some (.ref p),some (.ref d),o])∧Same H H'∧kindsM sn ws (l.drop i)=some R) ⟨⟨_,rfl⟩,Same.refl H,hR⟩ ?_ ?_ ?_
 ·rintro i σ H' _ ⟨_,s2,_⟩
  exact SqT.of (s2 _ _ hp)
 ·rintro i x σ H2 hx ⟨⟨o,rfl⟩,s2,hrow⟩
  obtain⟨t,ht,rt⟩:=r.at i hx
  obtain⟨hi,et⟩:=List.getElem?_eq_some_iff.mp ht
  rw[List.drop_eq_getElem_cons hi,et]at hrow
  refine⟨_,rfl,_,rfl,fun h hh=>?_⟩
  obtain⟨H3,eN,s3,k3⟩:=nw hh (.dK [])
  rw[eN]
  have s13:=s2.trans s3
  have hk:∃R1,kM sn [] (some ws) t=some R1∧(match R1 with|.error e=>R=.error e|.ok _=>kindsM sn ws (l.drop (i+1))=some R):=by
   rcases bO_ok hrow with ⟨e,h1,h2⟩|⟨a,h1,h2⟩
   ·exact⟨_,h1,h2⟩
   ·exact⟨_,h1,h2⟩
  obtain⟨R1,hk1,hk2⟩:=hk
  obtain⟨wf,hz,sg,n,hn⟩:=kM_asks hk1 rt
  refine⟨_,rfl,D,sn,x,t,h,[], .ref d,some ws,n,R1,rfl,S.same s13,rt.same s13,wf,hz,k3,⟨d,rfl,s13 _ _ hd⟩,sg,hn,?_⟩
  cases R1 with
  |error e=>
   subst hk2
   exact fun ea H8 s8=>q ea H8 (s13.trans s8)
  |ok u=>
   exact fun H8 s8=>⟨⟨_,rfl⟩,s13.trans s8,hk2⟩
 ·rintro σ H2 ⟨⟨o,rfl⟩,s2,hrow⟩
  rw[r.length,List.drop_length]at hrow
  cases hrow
  exact q H2 s2
theorem ok_srt (F:Fun K "look_at_sort" "look_at_sort" s_srt f fd)(Tx:TxS K CS)(ml:mg "len"=none)(h1:HasX P w K mg base 1 "name_once" ["word","there"] (spOnce CL))(h2:HasX P w K mg base 2 "name_all" ["words"] (spAll CL)):FnOk P w K mg base (CXF P w) 3 f fd pDe (spSort CS CL):=by
 refine F.okX sc_srt (fun cdv A' outer s H vs Q E hr h=>?_)
 have hu:=hu_of hr
 obtain⟨D,sn,v,t,R,rfl,S,rt,hsz,hR,q⟩:=h
 obtain⟨f1,g1,G1,b1,k1,m1⟩:=h1
 obtain⟨f2,g2,G2,b2,k2,m2⟩:=h2
 refine⟨_,pss_cons (ps_expr (pe_call G1 (hr.mono (by decide)) rfl m1 k1 b1 .nil passes_up (pa_cons (pe_ix (ixT K) (pv 1) pe_int) (pa_cons (fldK K (pv 0) rfl) pa_nil))))
  (pss_cons (ps_dput hu (fldK K (pv 0) rfl) (pe_ix (ixT K) (pv 1) pe_int) (pe_callB (clen K) rfl ml PySem.boot_len (pa_cons (pe_ix (ixT K) (pv 1) pe_int) pa_nil)) rfl)
  (pss_one (ps_ret (pe_call G2 (hr.mono (by decide)) rfl m2 k2 b2 .nil passes_up (pa_cons (pe_ix (ixT K) (pv 1) pe_int) pa_nil))))),?_⟩
 unfold sortD at hR
 split at hR
 rotate_left
 ·cases hR
 rename_i x z l rest
 split at hR
 rotate_left
 ·cases hR
 rename_i ws ews
 split at hR
 rotate_left
 ·cases hR
 rename_i lo
 obtain⟨l1,_⟩:=lenOk_all lo
 obtain⟨p,us,rfl,hp,r⟩:=tup_at rt
 cases r with|@cons v0 _ us _ r0 r=>
 cases r with|@cons v1 _ us _ rz r=>
 cases r with|@cons v2 _ us _ rl r=>
 cases rz with
 |str _ hz=>
 obtain⟨b,us2,rfl,hb,rb⟩:=tup_at rl
 obtain⟨rfl,lws⟩:=reps_strs rb ews
 refine⟨_,rfl,p,_,1, .str z,rfl,rfl,SqT.of hp,atI_nat (j:=1) rfl,_,rfl,D.s,CS,D.dx,_,_,rfl,S.ob,Tx.cs,Tx.n1,fl1 D,z, .ref D.d1,ks sn.sorts,rfl,hz, .dk S.h1 (keys_map (fun n:Nat=>V.int n) sn.sorts),?_⟩
 unfold sortM at hR
 cases e1:onceM (decide (z∈ks sn.sorts)) with
 |error e=>
  rw[e1]at hR
  cases hR
  exact fun ea H8 s8=>q ea H8 (kps_same s8)
 |ok u=>
  rw[e1]at hR
  have nz:z∉ks sn.sorts:=fun h=>by rw[decide_eq_true h]at e1;cases e1
  intro H1 s1
  have S1:=S.same s1
  refine⟨_,rfl,p,_,2, .ref b,rfl,rfl,SqT.of (s1 _ _ hp),atI_nat (j:=2) rfl,b,_,rfl, .inr (SqT.of (s1 _ _ hb)),_,rfl,D.s,CS,D.dx,_,_,rfl,S1.ob,Tx.cs,Tx.n1,fl1 D,_,rfl,p,_,1, .str z,rfl,rfl,SqT.of (s1 _ _ hp),atI_nat (j:=1) rfl,D.d1,_,rfl, .k (k:=Sum.inr z) S1.h1 ?_,?_⟩
  ·rw[len_kvN];exact szl l1
  rw[put_kvN (n:=ws.length) nz (by rw[List.length_map])]
  have S2:=S1.put1 z ws.length
  have kp':KpS D H (upd H1 D.d1 (.dK (kvN (sn.sorts++[(z,ws.length)])))):=(kps_same s1).trans (kps_upd (.inr (by simp[SD.dl])))
  revert S2 kp'
  generalize upd H1 D.d1 (.dK (kvN (sn.sorts++[(z,ws.length)])))=H2
  intro S2 kp2
  have tk:=S.tk kp2
  refine⟨_,rfl,p,_,2, .ref b,rfl,rfl,SqT.of (tk _ _ hp),atI_nat (j:=2) rfl,?_⟩
  have lb:=len_szs l
  have lr:=rb.length
  rw[List.length_map]at lr
  simp only[T.sz,szs]at hsz
  refine .mk b ws rfl (tk _ _ hb) lws (by omega) ?_
  have hR:(match(rowM [] ws).bind fun _=>(.ok {sn with sorts:=sn.sorts++[(z,ws.length)]}:Ex Sn) with
   |.ok s=>some (.ok (s,ws))
   |.error e=>some (.error e))=some R:=hR
  cases e2:rowM [] ws with
  |error e=>
   rw[e2]at hR
   cases hR
   exact fun ea H8 s8=>q ea H8 (kp2.trans (kps_same s8))
  |ok u2=>
   rw[e2]at hR
   cases hR
   intro H3 s3 d H4 s4 hdn hd4
   have S4:=S2.same (s3.trans s4)
   exact q H4 (kp2.trans (kps_same (s3.trans s4))) S4 d ((S2.same s3).new hdn) hd4
end
theorem rowsM_ok {f:Sn→T→Mo Sn}{sn:Sn}{t:T}{r:List T}{R:Ex Sn}(h:rowsM f sn (t::r)=some R):(∃e,f sn t=some (.error e)∧R=.error e)∨∃sn',f sn t=some (.ok sn')∧rowsM f sn' r=some R:=bO_ok h
section
variable {P:Program}{w:World}{K:PySem.W.Frag}{mg:Str→Option Value}{base:Heap}{f CS:Addr}{CL:Flt→Addr}{fd:FuncData}
set_option maxHeartbeats 1000000 in
theorem ok_kd (F:Fun K "look_at_kind_declaration" "look_at_kind_declaration" s_kd f fd)(Tx:TxS K CS)(ml:mg "len"=none)(h1:HasX P w K mg base 1 "name_once" ["word","there"] (spOnce CL))(h2:HasX P w K mg base 3 "look_at_sort" pDe (spSort CS CL))(h3:HasX P w K mg base 8 "look_at_kinds" ["seen","kinds","variables"] (spKinds CS CL)):FnOk P w K mg base (CXF P w) 9 f fd pDe (spDecl CS CL kindD):=by
 refine F.okX sc_kd (fun cdv A' outer s H vs Q E hr h=>?_)
 have hu:=hu_of hr
 obtain⟨D,sn,v,t,R,rfl,S,rt,hsz,hR,q⟩:=h
 obtain⟨f1,g1,G1,b1,k1,m1⟩:=h1
 obtain⟨f2,g2,G2,b2,k2,m2⟩:=h2
 obtain⟨f3,g3,G3,b3,k3,m3⟩:=h3
 refine⟨_,pss_cons (pset 2 sc_kd.nd (pe_call G2 (hr.mono (by decide)) rfl m2 k2 b2 .nil passes_up (pa_cons (pv 0) (pa_cons (pv 1) pa_nil))))
  (pss_cons (ps_dput hu (fldK K (pv 0) rfl) (pe_ix (ixT K) (pv 1) pe_int) (pe_op op_sub (pe_callB (clen K) rfl ml PySem.boot_len (pa_cons (pv 1) pa_nil)) pe_int) rfl)
  (pss_one (ps_for PassesOwn.leaving rfl (piT K (pe_slice (slT K) (pv 1) (po_some pe_int) po_none)) (pg_name (i:=3) sc_kd.nd rfl (Or.inl rfl))
   (pss_cons (ps_expr (pe_call G1 (hr.mono (by decide)) rfl m1 k1 b1 .nil passes_up (pa_cons (pe_ix (ixT K) (pv 3) pe_int) (pa_cons (fldK K (pv 0) rfl) pa_nil))))
   (pss_cons (ps_dput hu (fldK K (pv 0) rfl) (pe_ix (ixT K) (pv 3) pe_int) (pe_ix (ixT K) (pv 1) pe_int) rfl)
   (pss_cons (ps_dput hu (fldK K (pv 0) rfl) (pe_ix (ixT K) (pv 3) pe_int) (pe_op op_sub (pe_callB (clen K) rfl ml PySem.boot_len (pa_cons (pv 3) pa_nil)) pe_int) rfl)
   (pss_one (ps_expr (pe_call G3 (hr.mono (by decide)) rfl m3 k3 b3 .nil passes_up (pa_cons (pv 0) (pa_cons (pe_slice (slT K) (pv 3) (po_some pe_int) po_none) (pa_cons (pv 2) pa_nil)))))))))))),?_⟩
 unfold kindD at hR
 split at hR
 rotate_left
 ·cases hR
 rename_i t0 z t2 rows
 obtain⟨p,us,rfl,hp,r⟩:=tup_at rt
 have rt0:=rt
 cases r with|@cons v0 _ us _ r0 r=>
 cases r with|@cons v1 _ us _ rz r=>
 cases r with|@cons v2 _ us _ rl r=>
 cases rz with
 |str _ hz=>
 have hs:∃R1,sortD sn (.tup (t0::.str z::t2::rows))=some R1∧(match R1 with|.error e=>R=.error e|.ok a=>(if(lenOk a.1&&decide (z∉ks a.1.ksize))=true then rowsM (kRow z a.2) {a.1 with ksize:=a.1.ksize++[(z,rows.length)]} rows else none)=some R):=by
  rcases bO_ok hR with ⟨e,h1,h2⟩|⟨a,h1,h2⟩
  ·exact⟨_,h1,h2⟩
  ·exact⟨_,h1,h2⟩
 obtain⟨R1,hs1,hs2⟩:=hs
 refine⟨_,rfl,_,rfl,D,sn, .ref p,_,R1,rfl,S,rt0,hsz,hs1,?_⟩
 cases R1 with
 |error e=>
  subst hs2
  exact fun ea H8 s8=>q ea H8 s8
 |ok a=>
 obtain⟨sn1,ws⟩:=a
 have hs2:(if(lenOk sn1&&decide (z∉ks sn1.ksize))=true then rowsM (kRow z ws) {sn1 with ksize:=sn1.ksize++[(z,rows.length)]} rows else none)=some R:=hs2
 split at hs2
 rotate_left
 ·cases hs2
 rename_i c
 rw[Bool.and_eq_true,decide_eq_true_eq]at c
 obtain⟨lo,nz⟩:=c
 obtain⟨_,l2,_⟩:=lenOk_all lo
 intro H1 kp1 S1 d nd hd
 have lus:=r.length
 have lrw:=len_szs rows
 simp only[T.sz,szs]at hsz
 have en:((v0::V.str z::v2::us).length:Int)-3=(rows.length:Int):=by simp only[List.length_cons];omega
 have hp1:=S.tk kp1 _ _ hp
 refine⟨_,rfl,p,_,rfl, .inr (SqT.of hp1),_,3,rfl,rfl,_,rfl,D.s,CS,D.dx,_,_,rfl,S1.ob,Tx.cs,Tx.n2,fl2 D,_,rfl,p,_,1, .str z,rfl,rfl,SqT.of hp1,atI_nat (j:=1) rfl,D.d2,_,rfl, .k (k:=Sum.inr z) S1.h2 (by rw[len_kvN];exact szl l2),?_⟩
 rw[put_kvN (n:=rows.length) nz (by rw[←en])]
 have S2:=S1.put2 z rows.length
 have kp2:KpS D H (upd H1 D.d2 (.dK (kvN (sn1.ksize++[(z,rows.length)])))):=kp1.trans (kps_upd (.inr (by simp[SD.dl])))
 have hd2:(upd H1 D.d2 (.dK (kvN (sn1.ksize++[(z,rows.length)])))) d=some (.dK (kvB ws)):=kps_kd (D:=D) (kps_upd (.inr (by simp[SD.dl]))) nd hd
 revert S2 kp2 hd2
 generalize upd H1 D.d2 (.dK (kvN (sn1.ksize++[(z,rows.length)])))=H2
 intro S2 kp2 hd2
 have tk2:=S.tk kp2
 refine⟨_,rfl,3,rfl,sl_from (k:=3) (tk2 _ _ hp) (by decide) (by simp) fun p3 H3 s3 hp3=>?_⟩
 rw[show List.drop 3 (v0::V.str z::v2::us)=us from rfl]at hp3
 have kp3:=kp2.trans (kps_same s3)
 have S3:=S2.same s3
 have hd3:=s3 _ _ hd2
 have r3:=r.mono (S.tk kp3)
 have hpp:=S.tk kp3 _ _ hp
 refine⟨p3,rfl,⟨_,SqT.of hp3⟩,?_⟩
 refine for_tup (xs:=us) (fun i σ H'=>(∃o,σ=[some (.ref D.s),some (.ref p),some (.ref d),o])∧KpS D H3 H'∧∃sn',SnL CS H' D sn'∧rowsM (kRow z ws) sn' (rows.drop i)=some R) ⟨⟨_,rfl⟩,KpS.refl,_,S3,hs2⟩ ?_ ?_ ?_
 ·rintro i σ H' _ ⟨_,k4,_⟩
  exact SqT.of (S3.tk k4 _ _ hp3)
 ·rintro i x σ H4 hx ⟨⟨o,rfl⟩,kp4,sn4,S4,hrow⟩
  obtain⟨t,ht,rt⟩:=r3.at i hx
  obtain⟨hi,et⟩:=List.getElem?_eq_some_iff.mp ht
  rw[List.drop_eq_getElem_cons hi,et]at hrow
  have hk:∃R1,kRow z ws sn4 t=some R1∧(match R1 with|.error e=>R=.error e|.ok a=>rowsM (kRow z ws) a (rows.drop (i+1))=some R):=by
   rcases rowsM_ok hrow with ⟨e,h1,h2⟩|⟨a,h1,h2⟩
   ·exact⟨_,h1,h2⟩
   ·exact⟨_,h1,h2⟩
  obtain⟨R2,hk1,hk2⟩:=hk
  unfold kRow at hk1
  split at hk1
  rotate_left
  ·cases hk1
  rename_i g l
  split at hk1
  rotate_left
  ·cases hk1
  rename_i lo4
  obtain⟨_,_,m3,m4,_⟩:=lenOk_all lo4
  obtain⟨b,bs,rfl,hb,rb⟩:=tup_at (rt.mono (S3.tk kp4))
  cases rb with|@cons w0 _ bs _ rg rb=>
  cases rg with
  |str _ hg=>
  have tk4:=S3.tk kp4
  have hp4:=tk4 _ _ hpp
  have szt:T.sz (.tup (.str g::l))≤szs rows:=by
   have:szs rows=szs (rows.take i)+szs (rows.drop i):=by rw[←szs_app,List.take_append_drop]
   rw[List.drop_eq_getElem_cons hi,et]at this
   simp only[szs]at this ⊢
   omega
  simp only[T.sz,szs]at szt
  have ll:=len_szs l
  have lbs:=rb.length
  refine⟨_,rfl,b,_,0, .str g,rfl,rfl,SqT.of hb,atI_nat (j:=0) rfl,_,rfl,D.s,CS,D.dx,_,_,rfl,S4.ob,Tx.cs,Tx.n3,fl3 D,g, .ref D.d3,ks sn4.tkind,rfl,hg, .dk S4.h3 (keys_map V.str sn4.tkind),?_⟩
  cases e1:onceM (decide (g∈ks sn4.tkind)) with
  |error e=>
   rw[e1]at hk1
   cases hk1
   subst hk2
   exact fun ea H8 s8=>q ea H8 ((kp3.trans kp4).trans (kps_same s8))
  |ok u=>
   rw[e1]at hk1
   have ng:g∉ks sn4.tkind:=of_decide_eq_false (once_ok e1)
   have hk1:(if g∈ks sn4.tsize then none else bO (kindsM {sn4 with tkind:=sn4.tkind++[(g,z)],tsize:=sn4.tsize++[(g,l.length)]} ws l) fun _=>some (.ok {sn4 with tkind:=sn4.tkind++[(g,z)],tsize:=sn4.tsize++[(g,l.length)]}))=some R2:=hk1
   split at hk1
   ·cases hk1
   rename_i ng2
   intro H5 s5
   have S5:=S4.same s5
   refine⟨_,rfl,p,_,1, .str z,rfl,rfl,SqT.of (s5 _ _ hp4),atI_nat (j:=1) rfl,_,rfl,D.s,CS,D.dx,_,_,rfl,S5.ob,Tx.cs,Tx.n3,fl3 D,_,rfl,b,_,0, .str g,rfl,rfl,SqT.of (s5 _ _ hb),atI_nat (j:=0) rfl,D.d3,_,rfl, .k (k:=Sum.inr g) S5.h3 (by rw[len_kvS];exact szl m3),?_⟩
   rw[put_kvS ng]
   have S6:=S5.put3 g z
   have kp6:KpS D H4 (upd H5 D.d3 (.dK (kvS (sn4.tkind++[(g,z)])))):=(kps_same s5).trans (kps_upd (.inr (by simp[SD.dl])))
   revert S6 kp6
   generalize upd H5 D.d3 (.dK (kvS (sn4.tkind++[(g,z)])))=H6
   intro S6 kp6
   have hb6:=S4.tk kp6 _ _ hb
   have en6:((V.str g::bs).length:Int)-1=(l.length:Int):=by simp only[List.length_cons];omega
   refine⟨_,rfl,b,_,rfl, .inr (SqT.of hb6),_,1,rfl,rfl,_,rfl,D.s,CS,D.dx,_,_,rfl,S6.ob,Tx.cs,Tx.n4,fl4 D,_,rfl,b,_,0, .str g,rfl,rfl,SqT.of hb6,atI_nat (j:=0) rfl,D.d4,_,rfl, .k (k:=Sum.inr g) S6.h4 (by rw[len_kvN];exact szl m4),?_⟩
   rw[put_kvN (n:=l.length) ng2 (by rw[←en6])]
   have S7:=S6.put4 g l.length
   have kp7:KpS D H4 (upd H6 D.d4 (.dK (kvN (sn4.tsize++[(g,l.length)])))):=kp6.trans (kps_upd (.inr (by simp[SD.dl])))
   revert S7 kp7
   show SnL CS (upd H6 D.d4 (.dK (kvN (sn4.tsize++[(g,l.length)])))) D _→_
   generalize upd H6 D.d4 (.dK (kvN (sn4.tsize++[(g,l.length)])))=H7
   intro S7 kp7
   have hb7:=S4.tk kp7 _ _ hb
   have kp37:=kp4.trans kp7
   have hd7:=kps_kd kp37 nd hd3
   have hks:∃R3,kindsM {sn4 with tkind:=sn4.tkind++[(g,z)],tsize:=sn4.tsize++[(g,l.length)]} ws l=some R3∧(match R3 with|.error e=>R2=.error e|.ok _=>R2=.ok {sn4 with tkind:=sn4.tkind++[(g,z)],tsize:=sn4.tsize++[(g,l.length)]}):=by
    rcases bO_ok hk1 with ⟨e,h1,h2⟩|⟨a,h1,h2⟩
    ·exact⟨_,h1,h2⟩
    ·cases h2;exact⟨_,h1,rfl⟩
   obtain⟨R3,h31,h32⟩:=hks
   refine⟨_,rfl,_,rfl,1,rfl,sl_from (k:=1) hb7 (by decide) (by simp) fun p8 H8 s8 hp8=>?_⟩
   refine⟨_,rfl,D,_,p8,d,bs,l,ws,R3,rfl,S7.same s8,hp8,(rb.mono (S4.tk kp7)).same s8,s8 _ _ hd7,h31,?_⟩
   cases R3 with
   |error e=>
    subst h32
    subst hk2
    exact fun ea H9 s9=>q ea H9 (kp3.trans (kp37.trans (kps_same (s8.trans s9))))
   |ok u=>
    subst h32
    exact fun H9 s9=>⟨⟨_,rfl⟩,kp37.trans (kps_same (s8.trans s9)),_,S7.same (s8.trans s9),hk2⟩
 ·rintro σ H4 ⟨⟨o,rfl⟩,kp4,sn4,S4,hrow⟩
  rw[r3.length,List.drop_length]at hrow
  cases hrow
  exact q H4 (kp3.trans kp4) S4
end
section
variable {P:Program}{w:World}{K:PySem.W.Frag}{mg:Str→Option Value}{base:Heap}{f CS:Addr}{CL:Flt→Addr}{fd:FuncData}
set_option maxHeartbeats 1000000 in
theorem ok_rd (F:Fun K "look_at_record" "look_at_record" s_rd f fd)(Tx:TxS K CS)(ml:mg "len"=none)(h1:HasX P w K mg base 1 "name_once" ["word","there"] (spOnce CL))(h2:HasX P w K mg base 3 "look_at_sort" pDe (spSort CS CL))(h3:HasX P w K mg base 8 "look_at_kinds" ["seen","kinds","variables"] (spKinds CS CL)):FnOk P w K mg base (CXF P w) 9 f fd pDe (spDecl CS CL recordD):=by
 refine F.okX sc_rd (fun cdv A' outer s H vs Q E hr h=>?_)
 have hu:=hu_of hr
 obtain⟨D,sn,v,t,R,rfl,S,rt,hsz,hR,q⟩:=h
 obtain⟨f1,g1,G1,b1,k1,m1⟩:=h1
 obtain⟨f2,g2,G2,b2,k2,m2⟩:=h2
 obtain⟨f3,g3,G3,b3,k3,m3⟩:=h3
 refine⟨_,pss_cons (pset 2 sc_rd.nd (pe_call G2 (hr.mono (by decide)) rfl m2 k2 b2 .nil passes_up (pa_cons (pv 0) (pa_cons (pv 1) pa_nil))))
  (pss_cons (ps_dput hu (fldK K (pv 0) rfl) (pe_ix (ixT K) (pv 1) pe_int) (pe_op op_sub (pe_callB (clen K) rfl ml PySem.boot_len (pa_cons (pv 1) pa_nil)) pe_int) rfl)
  (pss_one (ps_for PassesOwn.leaving rfl (piT K (pe_slice (slT K) (pv 1) (po_some pe_int) po_none)) (pg_name (i:=3) sc_rd.nd rfl (Or.inl rfl))
   (pss_cons (ps_expr (pe_call G1 (hr.mono (by decide)) rfl m1 k1 b1 .nil passes_up (pa_cons (pe_ix (ixT K) (pv 3) pe_int) (pa_cons (fldK K (pv 0) rfl) pa_nil))))
   (pss_cons (ps_dput hu (fldK K (pv 0) rfl) (pe_ix (ixT K) (pv 3) pe_int) pe_bl rfl)
   (pss_one (ps_expr (pe_call G3 (hr.mono (by decide)) rfl m3 k3 b3 .nil passes_up (pa_cons (pv 0) (pa_cons (pe_slice (slT K) (pv 3) (po_some pe_int) po_none) (pa_cons (pv 2) pa_nil))))))))))),?_⟩
 unfold recordD at hR
 split at hR
 rotate_left
 ·cases hR
 rename_i t0 z t2 rows
 obtain⟨p,us,rfl,hp,r⟩:=tup_at rt
 have rt0:=rt
 cases r with|@cons v0 _ us _ r0 r=>
 cases r with|@cons v1 _ us _ rz r=>
 cases r with|@cons v2 _ us _ rl r=>
 cases rz with
 |str _ hz=>
 have hs:∃R1,sortD sn (.tup (t0::.str z::t2::rows))=some R1∧(match R1 with|.error e=>R=.error e|.ok a=>(if(lenOk a.1&&decide (z∉ks a.1.rsize))=true then rowsM (rRow a.2) {a.1 with rsize:=a.1.rsize++[(z,rows.length)]} rows else none)=some R):=by
  rcases bO_ok hR with ⟨e,h1,h2⟩|⟨a,h1,h2⟩
  ·exact⟨_,h1,h2⟩
  ·exact⟨_,h1,h2⟩
 obtain⟨R1,hs1,hs2⟩:=hs
 refine⟨_,rfl,_,rfl,D,sn, .ref p,_,R1,rfl,S,rt0,hsz,hs1,?_⟩
 cases R1 with
 |error e=>
  subst hs2
  exact fun ea H8 s8=>q ea H8 s8
 |ok a=>
 obtain⟨sn1,ws⟩:=a
 have hs2:(if(lenOk sn1&&decide (z∉ks sn1.rsize))=true then rowsM (rRow ws) {sn1 with rsize:=sn1.rsize++[(z,rows.length)]} rows else none)=some R:=hs2
 split at hs2
 rotate_left
 ·cases hs2
 rename_i c
 rw[Bool.and_eq_true,decide_eq_true_eq]at c
 obtain⟨lo,nz⟩:=c
 obtain⟨_,_,_,_,l2,_⟩:=lenOk_all lo
 intro H1 kp1 S1 d nd hd
 have lus:=r.length
 have lrw:=len_szs rows
 simp only[T.sz,szs]at hsz
 have en:((v0::V.str z::v2::us).length:Int)-3=(rows.length:Int):=by simp only[List.length_cons];omega
 have hp1:=S.tk kp1 _ _ hp
 refine⟨_,rfl,p,_,rfl, .inr (SqT.of hp1),_,3,rfl,rfl,_,rfl,D.s,CS,D.dx,_,_,rfl,S1.ob,Tx.cs,Tx.n5,fl5 D,_,rfl,p,_,1, .str z,rfl,rfl,SqT.of hp1,atI_nat (j:=1) rfl,D.d5,_,rfl, .k (k:=Sum.inr z) S1.h5 (by rw[len_kvN];exact szl l2),?_⟩
 rw[put_kvN (n:=rows.length) nz (by rw[←en])]
 have S2:=S1.put5 z rows.length
 have kp2:KpS D H (upd H1 D.d5 (.dK (kvN (sn1.rsize++[(z,rows.length)])))):=kp1.trans (kps_upd (.inr (by simp[SD.dl])))
 have hd2:(upd H1 D.d5 (.dK (kvN (sn1.rsize++[(z,rows.length)])))) d=some (.dK (kvB ws)):=kps_kd (D:=D) (kps_upd (.inr (by simp[SD.dl]))) nd hd
 revert S2 kp2 hd2
 generalize upd H1 D.d5 (.dK (kvN (sn1.rsize++[(z,rows.length)])))=H2
 intro S2 kp2 hd2
 have tk2:=S.tk kp2
 refine⟨_,rfl,3,rfl,sl_from (k:=3) (tk2 _ _ hp) (by decide) (by simp) fun p3 H3 s3 hp3=>?_⟩
 rw[show List.drop 3 (v0::V.str z::v2::us)=us from rfl]at hp3
 have kp3:=kp2.trans (kps_same s3)
 have S3:=S2.same s3
 have hd3:=s3 _ _ hd2
 have r3:=r.mono (S.tk kp3)
 have hpp:=S.tk kp3 _ _ hp
 refine⟨p3,rfl,⟨_,SqT.of hp3⟩,?_⟩
 refine for_tup (xs:=us) (fun i σ H'=>(∃o,σ=[some (.ref D.s),some (.ref p),some (.ref d),o])∧KpS D H3 H'∧∃sn',SnL CS H' D sn'∧rowsM (rRow ws) sn' (rows.drop i)=some R) ⟨⟨_,rfl⟩,KpS.refl,_,S3,hs2⟩ ?_ ?_ ?_
 ·rintro i σ H' _ ⟨_,k4,_⟩
  exact SqT.of (S3.tk k4 _ _ hp3)
 ·rintro i x σ H4 hx ⟨⟨o,rfl⟩,kp4,sn4,S4,hrow⟩
  obtain⟨t,ht,rt⟩:=r3.at i hx
  obtain⟨hi,et⟩:=List.getElem?_eq_some_iff.mp ht
  rw[List.drop_eq_getElem_cons hi,et]at hrow
  have hk:∃R1,rRow ws sn4 t=some R1∧(match R1 with|.error e=>R=.error e|.ok a=>rowsM (rRow ws) a (rows.drop (i+1))=some R):=by
   rcases rowsM_ok hrow with ⟨e,h1,h2⟩|⟨a,h1,h2⟩
   ·exact⟨_,h1,h2⟩
   ·exact⟨_,h1,h2⟩
  obtain⟨R2,hk1,hk2⟩:=hk
  unfold rRow at hk1
  split at hk1
  rotate_left
  ·cases hk1
  rename_i g l
  split at hk1
  rotate_left
  ·cases hk1
  rename_i lo4
  obtain⟨_,_,_,_,_,m3,_⟩:=lenOk_all lo4
  obtain⟨b,bs,rfl,hb,rb⟩:=tup_at (rt.mono (S3.tk kp4))
  cases rb with|@cons w0 _ bs _ rg rb=>
  cases rg with
  |str _ hg=>
  have tk4:=S3.tk kp4
  have hp4:=tk4 _ _ hpp
  have szt:T.sz (.tup (.str g::l))≤szs rows:=by
   have:szs rows=szs (rows.take i)+szs (rows.drop i):=by rw[←szs_app,List.take_append_drop]
   rw[List.drop_eq_getElem_cons hi,et]at this
   simp only[szs]at this ⊢
   omega
  simp only[T.sz,szs]at szt
  have ll:=len_szs l
  have lbs:=rb.length
  refine⟨_,rfl,b,_,0, .str g,rfl,rfl,SqT.of hb,atI_nat (j:=0) rfl,_,rfl,D.s,CS,D.dx,_,_,rfl,S4.ob,Tx.cs,Tx.n6,fl6 D,g, .ref D.d6,sn4.fields,rfl,hg, .dk S4.h6 (keys_kvB sn4.fields),?_⟩
  cases e1:onceM (decide (g∈sn4.fields)) with
  |error e=>
   rw[e1]at hk1
   cases hk1
   subst hk2
   exact fun ea H8 s8=>q ea H8 ((kp3.trans kp4).trans (kps_same s8))
  |ok u=>
   rw[e1]at hk1
   have ng:g∉sn4.fields:=of_decide_eq_false (once_ok e1)
   have hk1:(bO (kindsM {sn4 with fields:=sn4.fields++[g]} ws l) fun _=>some (.ok {sn4 with fields:=sn4.fields++[g]}))=some R2:=hk1
   intro H5 s5
   have S5:=S4.same s5
   refine⟨_,rfl,D.s,CS,D.dx,_,_,rfl,S5.ob,Tx.cs,Tx.n6,fl6 D,_,rfl,b,_,0, .str g,rfl,rfl,SqT.of (s5 _ _ hb),atI_nat (j:=0) rfl,D.d6,_,rfl, .k (k:=Sum.inr g) S5.h6 (by rw[len_kvB];exact szl m3),?_⟩
   rw[put_kvB ng]
   have S7:=S5.put6 g
   have kp7:KpS D H4 (upd H5 D.d6 (.dK (kvB (sn4.fields++[g])))):=(kps_same s5).trans (kps_upd (.inr (by simp[SD.dl])))
   revert S7 kp7
   generalize upd H5 D.d6 (.dK (kvB (sn4.fields++[g])))=H7
   intro S7 kp7
   have hb7:=S4.tk kp7 _ _ hb
   have kp37:=kp4.trans kp7
   have hd7:=kps_kd kp37 nd hd3
   have hks:∃R3,kindsM {sn4 with fields:=sn4.fields++[g]} ws l=some R3∧(match R3 with|.error e=>R2=.error e|.ok _=>R2=.ok {sn4 with fields:=sn4.fields++[g]}):=by
    rcases bO_ok hk1 with ⟨e,h1,h2⟩|⟨a,h1,h2⟩
    ·exact⟨_,h1,h2⟩
    ·cases h2;exact⟨_,h1,rfl⟩
   obtain⟨R3,h31,h32⟩:=hks
   refine⟨_,rfl,_,rfl,1,rfl,sl_from (k:=1) hb7 (by decide) (by simp) fun p8 H8 s8 hp8=>?_⟩
   refine⟨_,rfl,D,_,p8,d,bs,l,ws,R3,rfl,S7.same s8,hp8,(rb.mono (S4.tk kp7)).same s8,s8 _ _ hd7,h31,?_⟩
   cases R3 with
   |error e=>
    subst h32
    subst hk2
    exact fun ea H9 s9=>q ea H9 (kp3.trans (kp37.trans (kps_same (s8.trans s9))))
   |ok u=>
    subst h32
    exact fun H9 s9=>⟨⟨_,rfl⟩,kp37.trans (kps_same (s8.trans s9)),_,S7.same (s8.trans s9),hk2⟩
 ·rintro σ H4 ⟨⟨o,rfl⟩,kp4,sn4,S4,hrow⟩
  rw[r3.length,List.drop_length]at hrow
  cases hrow
  exact q H4 (kp3.trans kp4) S4
end
def partsM (sn:Sn):List Str→Ex Unit
 |[]=>.ok ()
 |p::r=>(faceOf sn p).bind fun _=>partsM sn r
def givenE (sn:Sn)(f:Str)(ps:List Str):Ex Str:=(look .nn (sn.faces.lookup f)).bind fun r=>(sameM r.n ps.length).bind fun _=>(partsM sn ps).bind fun _=>.ok f
def facesOk (sn:Sn):Bool:=sn.faces.all fun p=>decide (p.2.n<1000000)
def givenM (sn:Sn)(t:T):Mo Str:=match headT t with
 |.str f::l=>(match mapO strT l with
  |some ps=>if(facesOk sn&&decide (ps.length<1000000))=true then some (givenE sn f ps) else none
  |none=>none)
 |_=>none
def giverRow (own:Str)(sn:Sn):T→Mo Sn
 |.tup (.str z::g::_)=>if lenOk sn=true then(match(onceM (decide (z∈[own]))).bind fun _=>greatM sn z with
  |.error e=>some (.error e)
  |.ok _=>match headT g with
   |.str f::_=>bO (givenM {sn with givers:=sn.givers++[(z,f)]} g) fun _=>some (.ok {sn with givers:=sn.givers++[(z,f)]})
   |_=>none) else none
 |_=>none
inductive spGiven (CS:Addr)(CL:Flt→Addr)(vs:List V)(H:Hp)(Q:VK)(E:XK):Prop where
 |mk (D:SD) (sn:Sn) (v:V) (t:T) (R:Ex Str):vs=[.ref D.s,v]→SnL CS H D sn→Rep H v t→givenM sn t=some R→Out CL H E R (fun f H'=>Q (.str f) H')→spGiven CS CL vs H Q E
inductive spGivers (CS:Addr)(CL:Flt→Addr)(vs:List V)(H:Hp)(Q:VK)(E:XK):Prop where
 |mk (D:SD) (sn:Sn) (z:Str) (p:Addr) (us:List V) (l:List T) (R:Ex Sn):vs=[.ref D.s, .str z, .ref p]→SnL CS H D sn→H p=some (.tup us)→Reps H us l→rowsM (giverRow z) sn l=some R→OutK CS CL D H E R (fun sn' H'=>SnL CS H' D sn'→Q .non H')→spGivers CS CL vs H Q E
inductive spNh (CS:Addr)(CL:Flt→Addr)(vs:List V)(H:Hp)(Q:VK)(E:XK):Prop where
 |mk (D:SD) (sn:Sn) (z:Str) (v:V) (zs:List Str):vs=[.ref D.s, .str z,v]→SnL CS H D sn→z.length≤100000→MemV H v zs→Out CL H E ((onceM (decide (z∈zs))).bind fun _=>onceM (decide (z∈ks sn.sorts))) (fun _ H'=>Q .non H')→spNh CS CL vs H Q E
theorem great_no {sn:Sn}{z:Str}{u:Unit}(h:greatM sn z=.ok u):z∉ks sn.faces∧z∉ks sn.parts∧z∉ks sn.makers∧z∉ks sn.givers:=by
 have:=once_ok h
 simp only[Bool.or_eq_false_iff,decide_eq_false_iff_not]at this
 exact this
theorem head_wd {H:Hp}{us:List V}{f:Str}{l:List T}(r:Reps H us (.str f::l)):∃us',us=.str f::us'∧f.length≤100000∧Reps H us' l:=by
 cases r with
 |cons r q=>cases r with|str _ h=>exact⟨_,rfl,h,q⟩
section
variable {P:Program}{w:World}{K:PySem.W.Frag}{mg:Str→Option Value}{base:Heap}{f CS fN fO:Addr}{CL:Flt→Addr}{fd gN gO:FuncData}
abbrev s_gf:Stmt:=top 61
abbrev s_gs:Stmt:=top 62
abbrev s_nh:Stmt:=top 63
theorem sc_gf:FnScope ["seen","given","words","part"] ["seen","given"] (defScope s_gf):=⟨rfl,rfl,rfl,by decide+kernel,rfl,by decide+kernel,by decide+kernel⟩
theorem sc_gs:FnScope ["seen","own","givers","giver"] ["seen","own","givers"] (defScope s_gs):=⟨rfl,rfl,rfl,by decide+kernel,rfl,by decide+kernel,by decide+kernel⟩
theorem sc_nh:FnScope ["seen","word","hides"] ["seen","word","hides"] (defScope s_nh):=⟨rfl,rfl,rfl,by decide+kernel,rfl,by decide+kernel,by decide+kernel⟩
theorem ok_nh (F:Fun K "name_hide" "name_hide" s_nh f fd)(Tx:TxS K CS)(h1:HasX P w K mg base 1 "name_once" ["word","there"] (spOnce CL)):FnOk P w K mg base (CXF P w) 2 f fd ["seen","word","hides"] (spNh CS CL):=by
 refine F.okX sc_nh (fun cdv A' outer s H vs Q E hr h=>?_)
 obtain⟨D,sn,z,v,zs,rfl,S,hz,hm,q⟩:=h
 obtain⟨f1,g1,G1,b1,k1,m1⟩:=h1
 refine⟨_,pss_cons (ps_expr (pe_call G1 (hr.mono (by decide)) rfl m1 k1 b1 .nil passes_up (pa_cons (pv 1) (pa_cons (pv 2) pa_nil))))
  (pss_one (ps_expr (pe_call G1 (hr.mono (by decide)) rfl m1 k1 b1 .nil passes_up (pa_cons (pv 1) (pa_cons (fldK K (pv 0) rfl) pa_nil))))),?_⟩
 refine⟨_,rfl,_,rfl,z,v,zs,rfl,hz,hm,?_⟩
 cases e1:onceM (decide (z∈zs)) with
 |error e=>
  rw[e1]at q
  exact fun ea H8 s8=>q ea H8 s8
 |ok u=>
  rw[e1]at q
  have q:Out CL H E (onceM (decide (z∈ks sn.sorts))) (fun _ H'=>Q .non H'):=q
  intro H1 s1
  have S1:=S.same s1
  refine⟨_,rfl,_,rfl,D.s,CS,D.dx,_,_,rfl,S1.ob,Tx.cs,Tx.n1,fl1 D,z, .ref D.d1,ks sn.sorts,rfl,hz, .dk S1.h1 (keys_map (fun n:Nat=>V.int n) sn.sorts),?_⟩
  cases e2:onceM (decide (z∈ks sn.sorts)) with
  |error e=>
   rw[e2]at q
   exact fun ea H8 s8=>q ea H8 (s1.trans s8)
  |ok u=>
   rw[e2]at q
   exact fun H8 s8=>q H8 (s1.trans s8)
set_option maxHeartbeats 1000000 in
theorem ok_gf (F:Fun K "look_at_given_face" "look_at_given_face" s_gf f fd)(Tx:TxS K CS)(ml:mg "len"=none)(h0:Has P w K mg base 1 "headed" ["thing"] spHd)(h1:HasX P w K mg base 1 "count_same" ["word","wanted","count"] (spCount CL))(h2:HasX P w K mg base 2 "use" ["word","there"] (spUse CL))(MO:Meth K CS "face_of" fO)(GO:FnOk P w K mg base (CXF P w) 3 fO gO ["self","part"] (spFaceOf CS CL))(bO':Binds K gO ["self","part"] []):
  FnOk P w K mg base (CXF P w) 4 f fd ["seen","given"] (spGiven CS CL):=by
 refine F.okX sc_gf (fun cdv A' outer s H vs Q E hr h=>?_)
 have hu:=hu_of hr
 obtain⟨D,sn,v,t,R,rfl,S,rt,hR,q⟩:=h
 obtain⟨f1,g1,G1,b1,k1,m1⟩:=h1
 obtain⟨f2,g2,G2,b2,k2,m2⟩:=h2
 refine⟨_,pss_cons (pset 2 sc_gf.nd (pcall h0 hr (by decide) rfl (pa_cons (pv 1) pa_nil)))
  (pss_cons (ps_expr (pe_call G1 (hr.mono (by decide)) rfl m1 k1 b1 .nil passes_up (pa_cons (pe_ix (ixT K) (pv 2) pe_int) (pa_cons (pe_ix (ixT K) (pe_call G2 (hr.mono (by decide)) rfl m2 k2 b2 .nil passes_up (pa_cons (pe_ix (ixT K) (pv 2) pe_int) (pa_cons (fldK K (pv 0) rfl) pa_nil))) pe_int) (pa_cons (pe_op op_sub (pe_callB (clen K) rfl ml PySem.boot_len (pa_cons (pv 2) pa_nil)) pe_int) pa_nil)))))
  (pss_cons (ps_for PassesOwn.leaving rfl (piT K (pe_slice (slT K) (pv 2) (po_some pe_int) po_none)) (pg_name (i:=3) sc_gf.nd rfl (Or.inl rfl))
   (pss_one (ps_expr (pe_meth (pv 0) Tx.cs MO GO hr bO' .nil passes_up (pa_cons (pv 3) pa_nil)))))
  (pss_one (ps_ret (pe_ix (ixT K) (pv 2) pe_int))))),?_⟩
 refine⟨_,rfl,v,t,rfl,rt,fun p us H1 s1 hp r _=>?_⟩
 unfold givenM at hR
 split at hR
 rotate_left
 ·cases hR
 rename_i fc l eh
 rw[eh]at r
 obtain⟨us,rfl,lf,r⟩:=head_wd r
 split at hR
 rotate_left
 ·cases hR
 rename_i ps eps
 split at hR
 rotate_left
 ·cases hR
 rename_i c
 rw[Bool.and_eq_true,decide_eq_true_eq]at c
 obtain⟨fk,lp⟩:=c
 cases hR
 obtain⟨rfl,lws⟩:=reps_strs r eps
 have S1:=S.same s1
 obtain⟨k7,h7,f7⟩:=S1.h7
 refine⟨_,rfl,p,_,0, .str fc,rfl,rfl,SqT.of hp,atI_nat (j:=0) rfl,?_⟩
 refine⟨_,rfl,p,_,0, .str fc,rfl,rfl,SqT.of hp,atI_nat (j:=0) rfl,_,rfl,D.s,CS,D.dx,_,_,rfl,S1.ob,Tx.cs,Tx.n7,fl7 D,fc,D.d7,k7,_,rfl,lf,h7,f7.keys,?_⟩
 unfold givenE at q
 rcases f7.val fc with ⟨e1,e2⟩|⟨r1,a,hh,vv,e1,e2,ha,_,_,_,_⟩
 ·rw[e1]at q
  rw[e2]
  exact fun ea H8 s8=>q ea H8 (s1.trans s8)
 rw[e1]at q
 rw[e2]
 have q:Out CL H E ((sameM r1.n ps.length).bind fun _=>(partsM sn ps).bind fun _=>.ok fc) (fun f H'=>Q (.str f) H'):=q
 intro H2 s2
 have ln:r1.n<1000000:=of_decide_eq_true (List.all_eq_true.mp fk (fc,r1) (mem_of_lookup' e1))
 have en:((V.str fc::ps.map V.str).length:Int)-1=(ps.length:Int):=by simp only[List.length_cons,List.length_map];omega
 refine⟨a,_,0, .int r1.n,rfl,rfl,SqT.of (s2 _ _ ha),atI_nat (j:=0) rfl,_,rfl,p,_,rfl, .inr (SqT.of (s2 _ _ hp)),_,1,rfl,rfl,fc,r1.n,ps.length,by rw[←en];rfl,lf,ln,lp,?_⟩
 have s12:=s1.trans s2
 cases e3:sameM r1.n ps.length with
 |error e=>
  rw[e3]at q
  exact fun ea H8 s8=>q ea H8 (s12.trans s8)
 |ok u=>
 rw[e3]at q
 have q:Out CL H E ((partsM sn ps).bind fun _=>.ok fc) (fun f H'=>Q (.str f) H'):=q
 intro H3 s3
 refine⟨_,rfl,1,rfl,sl_from (k:=1) (s3 _ _ (s2 _ _ hp)) (by decide) (by simp) fun p4 H4 s4 hp4=>?_⟩
 rw[show List.drop 1 (V.str fc::ps.map V.str)=ps.map V.str from rfl]at hp4
 have s14:=s12.trans (s3.trans s4)
 refine⟨p4,rfl,⟨_,SqT.of hp4⟩,?_⟩
 refine for_tup (xs:=ps.map V.str) (fun i σ H'=>(∃o,σ=[some (.ref D.s),some v,some (.ref p),o])∧Same H4 H'∧partsM sn (ps.drop i)=partsM sn ps) ⟨⟨_,rfl⟩,Same.refl _,rfl⟩ ?_ ?_ ?_
 ·rintro i σ H' _ ⟨_,s5,_⟩
  exact SqT.of (s5 _ _ hp4)
 ·rintro i x σ H5 hx ⟨⟨o,rfl⟩,s5,hrow⟩
  rw[List.getElem?_map]at hx
  cases ex:ps[i]? with
  |none=>rw[ex]at hx;cases hx
  |some z=>
  rw[ex]at hx
  cases hx
  obtain⟨hi,ez⟩:=List.getElem?_eq_some_iff.mp ex
  have hz:=lws z (List.mem_of_getElem? ex)
  rw[List.drop_eq_getElem_cons hi,ez]at hrow
  have hrow:(faceOf sn z).bind (fun _=>partsM sn (ps.drop (i+1)))=partsM sn ps:=hrow
  refine⟨_,rfl,D.s,D.dx,_,rfl,(S.same (s14.trans s5)).ob,nfl1 D,_,rfl,D,sn,z,rfl,S.same (s14.trans s5),hz,?_⟩
  cases e8:faceOf sn z with
  |error fl=>
   rw[e8]at hrow
   have hrow:(.error fl:Ex Unit)=partsM sn ps:=hrow
   rw[←hrow]at q
   exact fun ea H8 s8=>q ea H8 ((s14.trans s5).trans s8)
  |ok u3=>
   rw[e8]at hrow
   have hrow:partsM sn (ps.drop (i+1))=partsM sn ps:=hrow
   exact fun H8 s8=>⟨⟨_,rfl⟩,s5.trans s8,hrow⟩
 ·rintro σ H5 ⟨⟨o,rfl⟩,s5,hrow⟩
  rw[List.length_map,List.drop_length]at hrow
  have hrow:(.ok ():Ex Unit)=partsM sn ps:=hrow
  rw[←hrow]at q
  refine⟨_,rfl,p,_,0, .str fc,rfl,rfl,SqT.of ((s2.trans (s3.trans (s4.trans s5))) _ _ hp),atI_nat (j:=0) rfl,?_⟩
  exact q H5 (s14.trans s5)
end
section
variable {P:Program}{w:World}{K:PySem.W.Frag}{mg:Str→Option Value}{base:Heap}{f CS fN fO:Addr}{CL:Flt→Addr}{fd gN gO:FuncData}
set_option maxHeartbeats 1000000 in
theorem ok_gs (F:Fun K "look_at_givers" "look_at_givers" s_gs f fd)(Tx:TxS K CS)(h0:Has P w K mg base 1 "headed" ["thing"] spHd)(h1:HasX P w K mg base 1 "name_once" ["word","there"] (spOnce CL))(h2:HasX P w K mg base 4 "look_at_given_face" ["seen","given"] (spGiven CS CL))(MN:Meth K CS "names_great" fN)(GN:FnOk P w K mg base (CXF P w) 2 fN gN ["self","word"] (spGreatN CS CL))(bN:Binds K gN ["self","word"] []):
  FnOk P w K mg base (CXF P w) 5 f fd ["seen","own","givers"] (spGivers CS CL):=by
 refine F.okX sc_gs (fun cdv A' outer s H vs Q E hr h=>?_)
 have hu:=hu_of hr
 obtain⟨D,sn,own,p,us,l,R,rfl,S,hp,r,hR,q⟩:=h
 obtain⟨f1,g1,G1,b1,k1,m1⟩:=h1
 obtain⟨f2,g2,G2,b2,k2,m2⟩:=h2
 refine⟨_,pss_one (ps_for PassesOwn.leaving rfl (piT K (pv 2)) (pg_name (i:=3) sc_gs.nd rfl (Or.inl rfl))
   (pss_cons (ps_expr (pe_call G1 (hr.mono (by decide)) rfl m1 k1 b1 .nil passes_up (pa_cons (pe_ix (ixT K) (pv 3) pe_int) (pa_cons (pe_tup (pa_cons (pv 1) pa_nil)) pa_nil))))
   (pss_cons (ps_expr (pe_meth (pv 0) Tx.cs MN GN (hr.mono (by decide)) bN .nil passes_up (pa_cons (pe_ix (ixT K) (pv 3) pe_int) pa_nil)))
   (pss_cons (ps_dput hu (fldK K (pv 0) rfl) (pe_ix (ixT K) (pv 3) pe_int) (pe_ix (ixT K) (pcall h0 hr (by decide) rfl (pa_cons (pe_ix (ixT K) (pv 3) pe_int) pa_nil)) pe_int) rfl)
   (pss_one (ps_expr (pe_call G2 (hr.mono (by decide)) rfl m2 k2 b2 .nil passes_up (pa_cons (pv 0) (pa_cons (pe_ix (ixT K) (pv 3) pe_int) pa_nil))))))))),?_⟩
 refine⟨_,rfl,p,rfl,⟨_,SqT.of hp⟩,?_⟩
 refine for_tup (xs:=us) (fun i σ H'=>(∃o,σ=[some (.ref D.s),some (.str own),some (.ref p),o])∧KpS D H H'∧∃sn',SnL CS H' D sn'∧rowsM (giverRow own) sn' (l.drop i)=some R) ⟨⟨_,rfl⟩,KpS.refl,_,S,hR⟩ ?_ ?_ ?_
 ·rintro i σ H' _ ⟨_,k4,_⟩
  exact SqT.of (S.tk k4 _ _ hp)
 ·rintro i x σ H4 hx ⟨⟨o,rfl⟩,kp4,sn4,S4,hrow⟩
  obtain⟨t,ht,rt⟩:=r.at i hx
  obtain⟨hi,et⟩:=List.getElem?_eq_some_iff.mp ht
  rw[List.drop_eq_getElem_cons hi,et]at hrow
  have hk:∃R1,giverRow own sn4 t=some R1∧(match R1 with|.error e=>R=.error e|.ok a=>rowsM (giverRow own) a (l.drop (i+1))=some R):=by
   rcases rowsM_ok hrow with ⟨e,h1,h2⟩|⟨a,h1,h2⟩
   ·exact⟨_,h1,h2⟩
   ·exact⟨_,h1,h2⟩
  obtain⟨R2,hk1,hk2⟩:=hk
  unfold giverRow at hk1
  split at hk1
  rotate_left
  ·cases hk1
  rename_i z g rest
  split at hk1
  rotate_left
  ·cases hk1
  rename_i lo4
  obtain⟨_,_,_,_,_,_,_,_,m9,_⟩:=lenOk_all lo4
  obtain⟨b,bs,rfl,hb,rb⟩:=tup_at (rt.mono (S.tk kp4))
  cases rb with|@cons w0 _ bs _ rg rb=>
  cases rb with|@cons w1 _ bs _ rgg rb=>
  cases rg with
  |str _ hz=>
  refine⟨_,rfl,b,_,0, .str z,rfl,rfl,SqT.of hb,atI_nat (j:=0) rfl,_,rfl,sml 1,fun p5 hp5=>?_⟩
  obtain⟨H5,eN,s5,k5⟩:=nw hp5 (.tup [V.str own])
  rw[eN]
  refine⟨z, .ref p5,[own],rfl,hz, .tp k5,?_⟩
  cases e1:onceM (decide (z∈[own])) with
  |error e=>
   rw[e1]at hk1
   cases hk1
   subst hk2
   exact fun ea H8 s8=>q ea H8 (kp4.trans (kps_same (s5.trans s8)))
  |ok u=>
  rw[e1]at hk1
  intro H6 s6
  have s46:=s5.trans s6
  have S6:=S4.same s46
  refine⟨_,rfl,D.s,D.dx,_,rfl,S6.ob,nfl2 D,_,rfl,b,_,0, .str z,rfl,rfl,SqT.of (s46 _ _ hb),atI_nat (j:=0) rfl,D,sn4,z,rfl,S6,hz,?_⟩
  have hk1:(match greatM sn4 z with
   |.error e=>some (.error e)
   |.ok _=>match headT g with
    |.str f::_=>bO (givenM {sn4 with givers:=sn4.givers++[(z,f)]} g) fun _=>some (.ok {sn4 with givers:=sn4.givers++[(z,f)]})
    |_=>none)=some R2:=hk1
  cases e2:greatM sn4 z with
  |error e=>
   rw[e2]at hk1
   cases hk1
   subst hk2
   exact fun ea H8 s8=>q ea H8 (kp4.trans (kps_same (s46.trans s8)))
  |ok u2=>
  rw[e2]at hk1
  obtain⟨_,_,_,ng⟩:=great_no e2
  have hk1:(match headT g with
    |.str f::_=>bO (givenM {sn4 with givers:=sn4.givers++[(z,f)]} g) fun _=>some (.ok {sn4 with givers:=sn4.givers++[(z,f)]})
    |_=>none)=some R2:=hk1
  split at hk1
  rotate_left
  ·cases hk1
  rename_i fc rest2 eh
  intro H7 s7
  have s47:=s46.trans s7
  refine⟨_,rfl,b,_,1,w1,rfl,rfl,SqT.of (s47 _ _ hb),atI_nat (j:=1) rfl,w1,g,rfl,rgg.same s47,fun p8 us8 H8 s8 hp8 r8 _=>?_⟩
  rw[eh]at r8
  obtain⟨us9,rfl,lf,r9⟩:=head_wd r8
  have s48:=s47.trans s8
  have S8:=S4.same s48
  refine⟨p8,_,0, .str fc,rfl,rfl,SqT.of hp8,atI_nat (j:=0) rfl,_,rfl,D.s,CS,D.dx,_,_,rfl,S8.ob,Tx.cs,Tx.n9,fl9 D,_,rfl,b,_,0, .str z,rfl,rfl,SqT.of (s48 _ _ hb),atI_nat (j:=0) rfl,D.d9,_,rfl, .k (k:=Sum.inr z) S8.h9 (by rw[len_kvS];exact szl m9),?_⟩
  rw[put_kvS ng]
  have S9:=S8.put9 z fc
  have kp9:KpS D H4 (upd H8 D.d9 (.dK (kvS (sn4.givers++[(z,fc)])))):=(kps_same s48).trans (kps_upd (.inr (by simp[SD.dl])))
  revert S9 kp9
  generalize upd H8 D.d9 (.dK (kvS (sn4.givers++[(z,fc)])))=H9
  intro S9 kp9
  have tk9:=S4.tk kp9
  have hks:∃R3,givenM {sn4 with givers:=sn4.givers++[(z,fc)]} g=some R3∧(match R3 with|.error e=>R2=.error e|.ok _=>R2=.ok {sn4 with givers:=sn4.givers++[(z,fc)]}):=by
   rcases bO_ok hk1 with ⟨e,h1,h2⟩|⟨a,h1,h2⟩
   ·exact⟨_,h1,h2⟩
   ·cases h2;exact⟨_,h1,rfl⟩
  obtain⟨R3,h31,h32⟩:=hks
  refine⟨_,rfl,_,rfl,b,_,1,w1,rfl,rfl,SqT.of (tk9 _ _ hb),atI_nat (j:=1) rfl,D,_,w1,g,R3,rfl,S9,rgg.mono tk9,h31,?_⟩
  cases R3 with
  |error e=>
   subst h32
   subst hk2
   exact fun ea H10 s10=>q ea H10 ((kp4.trans kp9).trans (kps_same s10))
  |ok u=>
   subst h32
   exact fun H10 s10=>⟨⟨_,rfl⟩,(kp4.trans kp9).trans (kps_same s10),_,S9.same s10,hk2⟩
 ·rintro σ H4 ⟨⟨o,rfl⟩,kp4,sn4,S4,hrow⟩
  rw[r.length,List.drop_length]at hrow
  cases hrow
  exact q H4 kp4 S4
end
abbrev HV:=List (Str×Nat)×List Str
def hideN:T→Option Nat
 |.int (.ofNat n)=>some n
 |_=>none
theorem hideN_some {y:T}{n:Nat}(h:hideN y=some n):y=.int (n:Int):=by
 unfold hideN at h
 split at h
 ·cases h;rfl
 ·cases h
def itemF (sn:Sn)(fs:HV):T→Mo HV
 |.tup (.str k::.str z::x::_)=>if(decide (fs.1.length≤1000000)&&decide (fs.2.length≤1000000))=true then
   if k="hide" then(match(onceM (decide (z∈ks fs.1))).bind fun _=>onceM (decide (z∈ks sn.sorts)) with
    |.error e=>some (.error e)
    |.ok _=>match hideN x with
     |some n=>some (.ok (fs.1++[(z,n)],fs.2))
     |none=>none)
   else(match onceM (decide (z∈fs.2)) with
    |.error e=>some (.error e)
    |.ok _=>bO (kM sn fs.1 none x) fun _=>some (.ok (fs.1,fs.2++[z])))
   else none
 |_=>none
def itemsF (sn:Sn):HV→List T→Mo HV
 |fs,[]=>some (.ok fs)
 |fs,t::r=>bO (itemF sn fs t) fun fs'=>itemsF sn fs' r
def faceD (sn:Sn):T→Mo Sn
 |.tup (_::.str z::.tup gs::items)=>(match greatM sn z with
  |.error e=>some (.error e)
  |.ok _=>bO (rowsM (giverRow z) sn gs) fun sn1=>bO (itemsF sn1 ([],[]) items) fun fs=>if(lenOk sn1&&decide (z∉ks sn1.faces))=true then some (.ok {sn1 with faces:=sn1.faces++[(z,⟨gs.length,fs.1,fs.2⟩)]}) else none)
 |_=>none
theorem bO_some {α β:Type}{x:Mo α}{f:α→Mo β}{R:Ex β}(h:bO x f=some R):∃R1,x=some R1∧(match R1 with|.error e=>R=.error e|.ok a=>f a=some R):=by
 rcases bO_ok h with ⟨e,h1,h2⟩|⟨a,h1,h2⟩
 ·exact⟨_,h1,h2⟩
 ·exact⟨_,h1,h2⟩
section
variable {P:Program}{w:World}{K:PySem.W.Frag}{mg:Str→Option Value}{base:Heap}{f CS fN fO:Addr}{CL:Flt→Addr}{fd gN gO:FuncData}
abbrev s_fc:Stmt:=top 64
theorem sc_fc:FnScope ["seen","declaration","hides","vals","item"] pDe (defScope s_fc):=⟨rfl,rfl,rfl,by decide+kernel,rfl,by decide+kernel,by decide+kernel⟩
set_option maxHeartbeats 2000000 in
theorem ok_fc (F:Fun K "look_at_face" "look_at_face" s_fc f fd)(Tx:TxS K CS)(ml:mg "len"=none)(h1:HasX P w K mg base 1 "name_once" ["word","there"] (spOnce CL))(h2:HasX P w K mg base 5 "look_at_givers" ["seen","own","givers"] (spGivers CS CL))(h3:HasX P w K mg base 2 "name_hide" ["seen","word","hides"] (spNh CS CL))(h4:HasX P w K mg base 7 "look_at_kind" ["seen","kind","hides","variables"] (spKind CS CL))
  (MN:Meth K CS "names_great" fN) (GN:FnOk P w K mg base (CXF P w) 2 fN gN ["self","word"] (spGreatN CS CL)) (bN:Binds K gN ["self","word"] []):FnOk P w K mg base (CXF P w) 8 f fd pDe (spDecl CS CL faceD):=by
 refine F.okX sc_fc (fun cdv A' outer s H vs Q E hr h=>?_)
 have hu:=hu_of hr
 obtain⟨D,sn,v,t,R,rfl,S,rt,hsz,hR,q⟩:=h
 obtain⟨f1,g1,G1,b1,k1,m1⟩:=h1
 obtain⟨f2,g2,G2,b2,k2,m2⟩:=h2
 obtain⟨f3,g3,G3,b3,k3,m3⟩:=h3
 obtain⟨f4,g4,G4,b4,k4,m4⟩:=h4
 refine⟨_,pss_cons (ps_expr (pe_meth (pv 0) Tx.cs MN GN (hr.mono (by decide)) bN .nil passes_up (pa_cons (pe_ix (ixT K) (pv 1) pe_int) pa_nil)))
  (pss_cons (ps_expr (pe_call G2 (hr.mono (by decide)) rfl m2 k2 b2 .nil passes_up (pa_cons (pv 0) (pa_cons (pe_ix (ixT K) (pv 1) pe_int) (pa_cons (pe_ix (ixT K) (pv 1) pe_int) pa_nil)))))
  (pss_cons (pset 2 sc_fc.nd pe_dnewK)
  (pss_cons (pset 3 sc_fc.nd pe_dnewK)
  (pss_cons (ps_for PassesOwn.leaving rfl (piT K (pe_slice (slT K) (pv 1) (po_some pe_int) po_none)) (pg_name (i:=4) sc_fc.nd rfl (Or.inl rfl))
   (pss_one (ps_if (pt_cmpR op_eq (pe_ix (ixT K) (pv 4) pe_int) pe_str (nomark _))
    (pss_cons (ps_expr (pe_call G3 (hr.mono (by decide)) rfl m3 k3 b3 .nil passes_up (pa_cons (pv 0) (pa_cons (pe_ix (ixT K) (pv 4) pe_int) (pa_cons (pv 2) pa_nil)))))
     (pss_one (ps_dput hu (pv 2) (pe_ix (ixT K) (pv 4) pe_int) (pe_ix (ixT K) (pv 4) pe_int) rfl)))
    (pss_cons (ps_expr (pe_call G1 (hr.mono (by decide)) rfl m1 k1 b1 .nil passes_up (pa_cons (pe_ix (ixT K) (pv 4) pe_int) (pa_cons (pv 3) pa_nil))))
     (pss_cons (ps_dput hu (pv 3) (pe_ix (ixT K) (pv 4) pe_int) pe_bl rfl)
     (pss_one (ps_expr (pe_call G4 (hr.mono (by decide)) rfl m4 k4 b4 .nil passes_up (pa_cons (pv 0) (pa_cons (pe_ix (ixT K) (pv 4) pe_int) (pa_cons (pv 2) (pa_cons pe_non pa_nil))))))))))))
  (pss_one (ps_dput hu (fldK K (pv 0) rfl) (pe_ix (ixT K) (pv 1) pe_int) (pe_tup (pa_cons (pe_callB (clen K) rfl ml PySem.boot_len (pa_cons (pe_ix (ixT K) (pv 1) pe_int) pa_nil)) (pa_cons (pv 2) (pa_cons (pv 3) pa_nil)))) rfl)))))),?_⟩
 unfold faceD at hR
 split at hR
 rotate_left
 ·cases hR
 rename_i t0 z gs items
 obtain⟨p,us,rfl,hp,r⟩:=tup_at rt
 cases r with|@cons v0 _ us _ r0 r=>
 cases r with|@cons v1 _ us _ rz r=>
 cases r with|@cons v2 _ us _ rl r=>
 cases rz with
 |str _ hz=>
 obtain⟨b,bs,rfl,hb,rb⟩:=tup_at rl
 refine⟨_,rfl,D.s,D.dx,_,rfl,S.ob,nfl2 D,_,rfl,p,_,1, .str z,rfl,rfl,SqT.of hp,atI_nat (j:=1) rfl,D,sn,z,rfl,S,hz,?_⟩
 cases e1:greatM sn z with
 |error e=>
  rw[e1]at hR
  cases hR
  exact fun ea H8 s8=>q ea H8 (kps_same s8)
 |ok u=>
 rw[e1]at hR
 have hR:(bO (rowsM (giverRow z) sn gs) fun sn1=>bO (itemsF sn1 ([],[]) items) fun fs=>if(lenOk sn1&&decide (z∉ks sn1.faces))=true then some (.ok {sn1 with faces:=sn1.faces++[(z,⟨gs.length,fs.1,fs.2⟩)]}) else none)=some R:=hR
 obtain⟨R1,hg1,hg2⟩:=bO_some hR
 intro H1 s1
 have S1:=S.same s1
 refine⟨_,rfl,_,rfl,p,_,1, .str z,rfl,rfl,SqT.of (s1 _ _ hp),atI_nat (j:=1) rfl,_,rfl,p,_,2, .ref b,rfl,rfl,SqT.of (s1 _ _ hp),atI_nat (j:=2) rfl,D,sn,z,b,bs,gs,R1,rfl,S1,s1 _ _ hb,rb.same s1,hg1,?_⟩
 cases R1 with
 |error e=>
  subst hg2
  exact fun ea H8 k8=>q ea H8 ((kps_same s1).trans k8)
 |ok sn1=>
 intro H2 k2' S2
 have kp2:=(kps_same s1).trans k2'
 obtain⟨R2,hi1,hi2⟩:=bO_some hg2
 refine fun hh hhn=>?_
 obtain⟨H3,eN,s3,kh3⟩:=nw hhn (.dK [])
 rw[eN]
 refine fun hv hvn=>?_
 obtain⟨H4,eN4,s4,kv4⟩:=nw hvn (.dK [])
 rw[eN4]
 have s24:=s3.trans s4
 have kh4:=s4 _ _ kh3
 have hvn2:=same_free s3 hvn
 have nhv:hh≠hv:=ne_of_none kh3 hvn
 have kp4:=kp2.trans (kps_same s24)
 have tk4:=S.tk kp4
 refine⟨_,rfl,3,rfl,sl_from (k:=3) (tk4 _ _ hp) (by decide) (by simp) fun p5 H5 s5 hp5=>?_⟩
 rw[show List.drop 3 (v0::V.str z::.ref b::us)=us from rfl]at hp5
 have r5:=r.mono (S.tk (kp4.trans (kps_same s5)))
 have s25:=s24.trans s5
 have hpp5:=s5 _ _ (tk4 _ _ hp)
 have hb5:=s5 _ _ (tk4 _ _ hb)
 refine⟨p5,rfl,⟨_,SqT.of hp5⟩,?_⟩
 refine for_tup (xs:=us) (fun i σ H'=>(∃o,σ=[some (.ref D.s),some (.ref p),some (.ref hh),some (.ref hv),o])∧Same H2 H'∧(∀b xs,H5 b=some (.tup xs)→H' b=some (.tup xs))∧∃fs:HV,H' hh=some (.dK (kvN fs.1))∧H' hv=some (.dK (kvB fs.2))∧itemsF sn1 fs (items.drop i)=some R2)
  ⟨⟨_,rfl⟩,s25,fun _ _ h=>h,([],[]),s5 _ _ kh4,s5 _ _ kv4,hi1⟩ ?_ ?_ ?_
 ·rintro i σ H' _ ⟨_,_,t6,_⟩
  exact SqT.of (t6 _ _ hp5)
 ·rintro i x σ H6 hx ⟨⟨o,rfl⟩,s6,t6,fs,kh6,kv6,hrow⟩
  obtain⟨t,ht,rt⟩:=r5.at i hx
  obtain⟨hi,et⟩:=List.getElem?_eq_some_iff.mp ht
  rw[List.drop_eq_getElem_cons hi,et]at hrow
  obtain⟨R3,hk1,hk2⟩:=bO_some (show bO (itemF sn1 fs t) (fun fs'=>itemsF sn1 fs' (items.drop (i+1)))=some R2 from hrow)
  unfold itemF at hk1
  split at hk1
  rotate_left
  ·cases hk1
  rename_i k zz y rest
  split at hk1
  rotate_left
  ·cases hk1
  rename_i c
  rw[Bool.and_eq_true,decide_eq_true_eq,decide_eq_true_eq]at c
  obtain⟨c1,c2⟩:=c
  obtain⟨d,ds,rfl,hd,rd⟩:=tup_at (rt.mono t6)
  cases rd with|@cons w0 _ ds _ rw0 rd=>
  cases rd with|@cons w1 _ ds _ rw1 rd=>
  cases rd with|@cons w2 _ ds _ rw2 rd=>
  cases rw0 with
  |str _ lk=>
  cases rw1 with
  |str _ lz=>
  have S6:=S2.same s6
  refine⟨_,rfl,d,_,0,_,rfl,rfl,SqT.of hd,atI_nat (j:=0) rfl,rfl,_,rfl,ite2 (fun ck=>?_) (fun ck=>?_)⟩
  ·have ck:k="hide":=V.str.inj (of_decide_eq_true ck)
   rw[if_pos ck]at hk1
   refine⟨_,rfl,_,rfl,d,_,1, .str zz,rfl,rfl,SqT.of hd,atI_nat (j:=1) rfl,_,rfl,D,sn1,zz, .ref hh,ks fs.1,rfl,S6,lz, .dk kh6 (keys_map (fun n:Nat=>V.int n) fs.1),?_⟩
   cases e2:(onceM (decide (zz∈ks fs.1))).bind fun _=>onceM (decide (zz∈ks sn1.sorts)) with
   |error e=>
    rw[e2]at hk1
    cases hk1
    subst hk2
    cases hi2
    exact fun ea H8 s8=>q ea H8 (kp2.trans (kps_same (s6.trans s8)))
   |ok u2=>
   rw[e2]at hk1
   have nz:zz∉ks fs.1:=by
    cases e3:onceM (decide (zz∈ks fs.1)) with
    |error e=>rw[e3]at e2;cases e2
    |ok u=>exact of_decide_eq_false (once_ok e3)
   have hk1:(match hideN y with
     |some n=>some (.ok (fs.1++[(zz,n)],fs.2))
     |none=>none)=some R3:=hk1
   cases e4:hideN y with
   |none=>rw[e4]at hk1;cases hk1
   |some n=>
   rw[e4]at hk1
   cases hk1
   obtain rfl:=hideN_some e4
   cases rw2 with
   |int _=>
   intro H7 s7
   have kh7:=s7 _ _ kh6
   refine⟨_,rfl,d,_,2, .int (n:Int),rfl,rfl,SqT.of (s7 _ _ hd),atI_nat (j:=2) rfl,_,rfl,_,rfl,d,_,1, .str zz,rfl,rfl,SqT.of (s7 _ _ hd),atI_nat (j:=1) rfl,hh,_,rfl, .k (k:=Sum.inr zz) kh7 (by rw[len_kvN];exact szl c1),?_⟩
   rw[put_kvN (n:=n) nz rfl]
   refine⟨⟨_,rfl⟩,fun b o hb=>by rw[upd_ne (ne_of_none hb hhn)];exact(s6.trans s7) _ _ hb,fun b xs hb=>by rw[upd_ne (ne_of (s7 _ _ (t6 _ _ hb)) kh7 (by intro z;cases z))];exact s7 _ _ (t6 _ _ hb),_,upd_same,by rw[upd_ne nhv.symm];exact s7 _ _ kv6,hk2⟩
  ·have ck:¬k="hide":=fun h=>ck (decide_eq_true (congrArg V.str h))
   rw[if_neg ck]at hk1
   refine⟨_,rfl,d,_,1, .str zz,rfl,rfl,SqT.of hd,atI_nat (j:=1) rfl,_,rfl,zz, .ref hv,fs.2,rfl,lz, .dk kv6 (keys_kvB fs.2),?_⟩
   cases e2:onceM (decide (zz∈fs.2)) with
   |error e=>
    rw[e2]at hk1
    cases hk1
    subst hk2
    cases hi2
    exact fun ea H8 s8=>q ea H8 (kp2.trans (kps_same (s6.trans s8)))
   |ok u2=>
   rw[e2]at hk1
   have nz:zz∉fs.2:=of_decide_eq_false (once_ok e2)
   have hk1:(bO (kM sn1 fs.1 none y) fun _=>some (.ok (fs.1,fs.2++[zz])))=some R3:=hk1
   intro H7 s7
   have kv7:=s7 _ _ kv6
   refine⟨_,rfl,_,rfl,d,_,1, .str zz,rfl,rfl,SqT.of (s7 _ _ hd),atI_nat (j:=1) rfl,hv,_,rfl, .k (k:=Sum.inr zz) kv7 (by rw[len_kvB];exact szl c2),?_⟩
   rw[put_kvB nz]
   have s8:Same H2 (upd H7 hv (.dK (kvB (fs.2++[zz])))):=fun b o hb=>by rw[upd_ne (ne_of_none hb hvn2)];exact(s6.trans s7) _ _ hb
   have t8:∀b xs,H6 b=some (.tup xs)→(upd H7 hv (.dK (kvB (fs.2++[zz])))) b=some (.tup xs):=fun b xs hb=>by rw[upd_ne (ne_of (s7 _ _ hb) kv7 (by intro z;cases z))];exact s7 _ _ hb
   have kh8:(upd H7 hv (.dK (kvB (fs.2++[zz])))) hh=some (.dK (kvN fs.1)):=by rw[upd_ne nhv];exact s7 _ _ kh6
   have kv8:(upd H7 hv (.dK (kvB (fs.2++[zz])))) hv=some (.dK (kvB (fs.2++[zz]))):=upd_same
   revert s8 t8 kh8 kv8
   generalize upd H7 hv (.dK (kvB (fs.2++[zz])))=H8
   intro s8 t8 kh8 kv8
   obtain⟨R4,h41,h42⟩:=bO_some hk1
   have rw2':=rw2.mono t8
   obtain⟨wf,hyz,sg,n,hn⟩:=kM_asks h41 rw2'
   refine⟨_,rfl,_,rfl,d,_,2,w2,rfl,rfl,SqT.of (t8 _ _ hd),atI_nat (j:=2) rfl,_,rfl,D,sn1,w2,y,hh,fs.1, .non,none,n,R4,rfl,S2.same s8,rw2',wf,hyz,kh8,rfl,sg,hn,?_⟩
   cases R4 with
   |error e=>
    subst h42
    subst hk2
    cases hi2
    exact fun ea H9 s9=>q ea H9 (kp2.trans (kps_same (s8.trans s9)))
   |ok u=>
    cases h42
    exact fun H9 s9=>⟨⟨_,rfl⟩,s8.trans s9,fun b xs hb=>s9 _ _ (t8 _ _ (t6 _ _ hb)),(fs.1,fs.2++[zz]),s9 _ _ kh8,s9 _ _ kv8,hk2⟩
 ·rintro σ H6 ⟨⟨o,rfl⟩,s6,t6,fs,kh6,kv6,hrow⟩
  rw[r5.length,List.drop_length]at hrow
  cases hrow
  have hi2:(if(lenOk sn1&&decide (z∉ks sn1.faces))=true then some (.ok {sn1 with faces:=sn1.faces++[(z,⟨gs.length,fs.1,fs.2⟩)]}) else none)=some R:=hi2
  split at hi2
  rotate_left
  ·cases hi2
  rename_i c
  rw[Bool.and_eq_true,decide_eq_true_eq]at c
  obtain⟨lo,nz⟩:=c
  obtain⟨_,_,_,_,_,_,l7,_⟩:=lenOk_all lo
  cases hi2
  have S6:=S2.same s6
  have lbs:=rb.length
  refine⟨_,rfl,p,_,2, .ref b,rfl,rfl,SqT.of (t6 _ _ hpp5),atI_nat (j:=2) rfl,b,_,rfl, .inr (SqT.of (t6 _ _ hb5)),_,rfl,_,rfl,sml 3,fun a ha=>?_⟩
  rw[show((bs.length:Int))=((gs.length:Nat):Int) by rw[lbs]]
  obtain⟨H7,eN7,s7,ka7⟩:=nw ha (.tup [V.int ((gs.length:Nat):Int), .ref hh, .ref hv])
  rw[eN7]
  have S7:=S6.same s7
  obtain⟨kvs,h7,f7⟩:=S7.h7
  have lk:kvs.length=sn1.faces.length:=by
   have:=congrArg List.length f7.keys
   rw[List.length_map,List.length_map,List.length_map]at this
   exact this
  refine⟨_,rfl,D.s,CS,D.dx,_,_,rfl,S7.ob,Tx.cs,Tx.n7,fl7 D,_,rfl,p,_,1, .str z,rfl,rfl,SqT.of (s7 _ _ (t6 _ _ hpp5)),atI_nat (j:=1) rfl,D.d7,_,rfl, .k (k:=Sum.inr z) h7 (by rw[lk];exact szl l7),?_⟩
  rw[put_new f7.keys nz]
  have nhn:=S2.new hhn
  have nvn:=S2.new hvn2
  refine q _ ((kp2.trans (kps_same (s6.trans s7))).trans (kps_upd (.inr (by simp[SD.dl])))) ?_
  exact S7.put7 (r:=⟨gs.length,fs.1,fs.2⟩) h7 ka7 (s7 _ _ kh6) (s7 _ _ kv6) nhn.2 nvn.2
end
abbrev BS:=List Str×List Str
def hideB (sn:Sn)(st:BS)(z:Str):List T→Mo BS
 |.tup ps::x::_=>(match mapO strT ps with
  |some xs=>(match(onceM (decide (z∈st.1))).bind fun _=>onceM (decide (z∈ks sn.sorts)) with
   |.error e=>some (.error e)
   |.ok _=>match rowM [] xs with
    |.error e=>some (.error e)
    |.ok _=>bO (kM sn [] (some xs) x) fun _=>some (.ok (st.1++[z],st.2)))
  |none=>none)
 |_=>none
def valB (sn:Sn)(st:BS)(z:Str):List T→Mo BS
 |x::_=>(match onceM (decide (z∈st.2)) with
  |.error e=>some (.error e)
  |.ok _=>bO (pM sn st.2 x) fun _=>some (.ok (st.1,st.2++[z])))
 |_=>none
def bodyRow (sn:Sn)(st:BS):T→Mo BS
 |.tup (.str k::.str z::r)=>if(decide (st.1.length≤1000000)&&decide (st.2.length≤100000))=true then(if k="hide" then hideB sn st z r else valB sn st z r) else none
 |_=>none
def bodyM (sn:Sn):BS→List T→Mo BS
 |st,[]=>some (.ok st)
 |st,t::r=>bO (bodyRow sn st t) fun st'=>bodyM sn st' r
theorem pM_asks {sn:Sn}{ns:List Str}{t:T}{R:Ex Unit}(h:pM sn ns t=some R):SnW sn∧t.sz≤99999∧ns.length≤100000∧∃n,runS sn n [ph ns t]=some R:=by
 unfold pM at h
 split at h
 ·rename_i c
  simp only[Bool.and_eq_true,decide_eq_true_eq]at c
  obtain⟨c1,c2,c3⟩:=c
  exact⟨snW_of c1,c2,c3,_,h⟩
 ·cases h
inductive spBody (CS:Addr)(CL:Flt→Addr)(vs:List V)(H:Hp)(Q:VK)(E:XK):Prop where
 |mk (D:SD) (sn:Sn) (p:Addr) (us:List V) (l:List T) (R:Ex BS):vs=[.ref D.s, .ref p]→SnL CS H D sn→H p=some (.tup us)→Reps H us l→szs l≤99999→bodyM sn ([],[]) l=some R→Out CL H E R (fun _ H'=>Q .non H')→spBody CS CL vs H Q E
section
variable {P:Program}{w:World}{K:PySem.W.Frag}{mg:Str→Option Value}{base:Heap}{f CS fN fO:Addr}{CL:Flt→Addr}{fd gN gO:FuncData}
abbrev s_bd:Stmt:=top 65
theorem sc_bd:FnScope ["seen","body","hides","vals","item"] ["seen","body"] (defScope s_bd):=⟨rfl,rfl,rfl,by decide+kernel,rfl,by decide+kernel,by decide+kernel⟩
set_option maxHeartbeats 2000000 in
theorem ok_bd (F:Fun K "look_at_body" "look_at_body" s_bd f fd)(h1:HasX P w K mg base 1 "name_once" ["word","there"] (spOnce CL))(h2:HasX P w K mg base 2 "name_all" ["words"] (spAll CL))(h3:HasX P w K mg base 2 "name_hide" ["seen","word","hides"] (spNh CS CL))(h4:HasX P w K mg base 7 "look_at_kind" ["seen","kind","hides","variables"] (spKind CS CL))(h5:HasX P w K mg base 7 "look_through" pLk (spLt CS CL)):
  FnOk P w K mg base (CXF P w) 8 f fd ["seen","body"] (spBody CS CL):=by
 refine F.okX sc_bd (fun cdv A' outer s H vs Q E hr h=>?_)
 have hu:=hu_of hr
 obtain⟨D,sn,p,us,l,R,rfl,S,hp,r,hsz,hR,q⟩:=h
 obtain⟨f1,g1,G1,b1,k1,m1⟩:=h1
 obtain⟨f2,g2,G2,b2,k2,m2⟩:=h2
 obtain⟨f3,g3,G3,b3,k3,m3⟩:=h3
 obtain⟨f4,g4,G4,b4,k4,m4⟩:=h4
 obtain⟨f5,g5,G5,b5,k5,m5⟩:=h5
 refine⟨_,pss_cons (pset 2 sc_bd.nd pe_dnewK)
  (pss_cons (pset 3 sc_bd.nd (pe_tup pa_nil))
  (pss_one (ps_for PassesOwn.leaving rfl (piT K (pv 1)) (pg_name (i:=4) sc_bd.nd rfl (Or.inl rfl))
   (pss_one (ps_if (pt_cmpR op_eq (pe_ix (ixT K) (pv 4) pe_int) pe_str (nomark _))
    (pss_cons (ps_expr (pe_call G3 (hr.mono (by decide)) rfl m3 k3 b3 .nil passes_up (pa_cons (pv 0) (pa_cons (pe_ix (ixT K) (pv 4) pe_int) (pa_cons (pv 2) pa_nil)))))
     (pss_cons (ps_dput hu (pv 2) (pe_ix (ixT K) (pv 4) pe_int) pe_bl rfl)
     (pss_one (ps_expr (pe_call G4 (hr.mono (by decide)) rfl m4 k4 b4 .nil passes_up (pa_cons (pv 0) (pa_cons (pe_ix (ixT K) (pv 4) pe_int) (pa_cons pe_dnewK (pa_cons (pe_call G2 (hr.mono (by decide)) rfl m2 k2 b2 .nil passes_up (pa_cons (pe_ix (ixT K) (pv 4) pe_int) pa_nil)) pa_nil)))))))))
    (pss_cons (ps_expr (pe_call G1 (hr.mono (by decide)) rfl m1 k1 b1 .nil passes_up (pa_cons (pe_ix (ixT K) (pv 4) pe_int) (pa_cons (pv 3) pa_nil))))
     (pss_cons (ps_expr (pe_call G5 (hr.mono (by decide)) rfl m5 k5 b5 .nil passes_up (pa_cons (pv 0) (pa_cons (pe_ix (ixT K) (pv 4) pe_int) (pa_cons (pv 3) pa_nil)))))
     (pss_one (pset 3 sc_bd.nd (pe_op ((catT K).or (catT0 K)) (pv 3) (pe_tup (pa_cons (pe_ix (ixT K) (pv 4) pe_int) pa_nil)))))))))))),?_⟩
 refine fun hh hhn=>?_
 obtain⟨H1,eN,s1,kh1⟩:=nw hhn (.dK [])
 rw[eN]
 refine⟨sml 0,fun d0 hd0=>?_⟩
 obtain⟨H2,eN2,s2,kd2⟩:=nw hd0 (.tup [])
 rw[eN2]
 have s02:=s1.trans s2
 refine⟨_,rfl,p,rfl,⟨_,SqT.of (s02 _ _ hp)⟩,?_⟩
 refine for_tup (xs:=us) (fun i σ H'=>∃(st:BS) (d:Addr) (o:Option V),σ=[some (.ref D.s),some (.ref p),some (.ref hh),some (.ref d),o]∧Same H H'∧H' hh=some (.dK (kvB st.1))∧NmL H' d st.2∧(∀x∈st.2,x.length≤100000)∧bodyM sn st (l.drop i)=some R)
  ⟨([],[]),d0,_,rfl,s02,s2 _ _ kh1,kd2,(fun x hx=>by cases hx),hR⟩ ?_ ?_ ?_
 ·rintro i σ H' _ ⟨_,_,_,_,s3,_⟩
  exact SqT.of (s3 _ _ hp)
 ·rintro i x σ H3 hx ⟨st,d,o,rfl,s3,kh3,hd3,lns,hrow⟩
  obtain⟨t,ht,rt⟩:=r.at i hx
  obtain⟨hi,et⟩:=List.getElem?_eq_some_iff.mp ht
  have szt:t.sz≤szs l:=by
   have:szs l=szs (l.take i)+szs (l.drop i):=by rw[←szs_app,List.take_append_drop]
   rw[List.drop_eq_getElem_cons hi,et]at this
   simp only[szs]at this
   omega
  rw[List.drop_eq_getElem_cons hi,et]at hrow
  obtain⟨R3,hk1,hk2⟩:=bO_some (show bO (bodyRow sn st t) (fun st'=>bodyM sn st' (l.drop (i+1)))=some R from hrow)
  unfold bodyRow at hk1
  split at hk1
  rotate_left
  ·cases hk1
  rename_i k z rest
  split at hk1
  rotate_left
  ·cases hk1
  rename_i c
  rw[Bool.and_eq_true,decide_eq_true_eq,decide_eq_true_eq]at c
  obtain⟨c1,c2⟩:=c
  obtain⟨e,es,rfl,he,re⟩:=tup_at (rt.same s3)
  cases re with|@cons w0 _ es _ rw0 re=>
  cases re with|@cons w1 _ es _ rw1 re=>
  cases rw0 with
  |str _ lk=>
  cases rw1 with
  |str _ lz=>
  have S3:=S.same s3
  refine⟨_,rfl,e,_,0,_,rfl,rfl,SqT.of he,atI_nat (j:=0) rfl,rfl,_,rfl,ite2 (fun ck=>?_) (fun ck=>?_)⟩
  ·have ck:k="hide":=V.str.inj (of_decide_eq_true ck)
   rw[if_pos ck]at hk1
   refine⟨_,rfl,_,rfl,e,_,1, .str z,rfl,rfl,SqT.of he,atI_nat (j:=1) rfl,_,rfl,D,sn,z, .ref hh,st.1,rfl,S3,lz, .dk kh3 (keys_kvB _),?_⟩
   unfold hideB at hk1
   split at hk1
   rotate_left
   ·cases hk1
   rename_i ps y rest2
   split at hk1
   rotate_left
   ·cases hk1
   rename_i xs exs
   cases re with|@cons w2 _ es _ rw2 re=>
   cases re with|@cons w3 _ es _ rw3 re=>
   obtain⟨b,bs,rfl,hb,rb⟩:=tup_at rw2
   obtain⟨rfl,lxs⟩:=reps_strs rb exs
   have lps:=len_szs ps
   have lrb:=rb.length
   rw[List.length_map]at lrb
   simp only[T.sz,szs]at szt
   cases e2:(onceM (decide (z∈st.1))).bind fun _=>onceM (decide (z∈ks sn.sorts)) with
   |error er=>
    rw[e2]at hk1
    cases hk1
    subst hk2
    exact fun ea H8 s8=>q ea H8 (s3.trans s8)
   |ok u2=>
   rw[e2]at hk1
   have nz:z∉st.1:=by
    cases e3:onceM (decide (z∈st.1)) with
    |error e=>rw[e3]at e2;cases e2
    |ok u=>exact of_decide_eq_false (once_ok e3)
   have hk1:(match rowM [] xs with
    |.error e=>some (.error e)
    |.ok _=>bO (kM sn [] (some xs) y) fun _=>some (.ok (st.1++[z],st.2)))=some R3:=hk1
   intro H4 s4
   have kh4:=s4 _ _ kh3
   have he4:=s4 _ _ he
   refine⟨_,rfl,_,rfl,e,_,1, .str z,rfl,rfl,SqT.of he4,atI_nat (j:=1) rfl,hh,_,rfl, .k (k:=Sum.inr z) kh4 (by rw[len_kvB];exact szl c1),?_⟩
   rw[put_kvB nz]
   have s5:Same H (upd H4 hh (.dK (kvB (st.1++[z])))):=fun b o hb=>by rw[upd_ne (ne_of_none hb hhn)];exact(s3.trans s4) _ _ hb
   have t5:∀b xs,H3 b=some (.tup xs)→(upd H4 hh (.dK (kvB (st.1++[z])))) b=some (.tup xs):=fun b xs hb=>by rw[upd_ne (ne_of (s4 _ _ hb) kh4 (by intro z;cases z))];exact s4 _ _ hb
   have kh5:(upd H4 hh (.dK (kvB (st.1++[z])))) hh=some (.dK (kvB (st.1++[z]))):=upd_same
   revert s5 t5 kh5
   generalize upd H4 hh (.dK (kvB (st.1++[z])))=H5
   intro s5 t5 kh5
   refine⟨_,rfl,_,rfl,e,_,3,w3,rfl,rfl,SqT.of (t5 _ _ he),atI_nat (j:=3) rfl,fun h6 hn6=>?_⟩
   obtain⟨H6,eN6,s6,k6⟩:=nw hn6 (.dK [])
   rw[eN6]
   have t6:∀b xs,H3 b=some (.tup xs)→H6 b=some (.tup xs):=fun b xs hb=>s6 _ _ (t5 _ _ hb)
   refine⟨_,rfl,e,_,2, .ref b,rfl,rfl,SqT.of (t6 _ _ he),atI_nat (j:=2) rfl,b,xs,rfl,t6 _ _ hb,lxs,by omega,?_⟩
   cases e7:rowM [] xs with
   |error er=>
    rw[e7]at hk1
    cases hk1
    subst hk2
    exact fun ea H8 s8=>q ea H8 (s5.trans (s6.trans s8))
   |ok u=>
   rw[e7]at hk1
   have hk1:(bO (kM sn [] (some xs) y) fun _=>some (.ok (st.1++[z],st.2)))=some R3:=hk1
   obtain⟨R4,h41,h42⟩:=bO_some hk1
   obtain⟨wf,hyz,sg,n,hn⟩:=kM_asks h41 rw3
   intro H7 s7 dv H8 s8 _ hdv
   have s58:=s6.trans (s7.trans s8)
   have t8:∀b xs,H3 b=some (.tup xs)→H8 b=some (.tup xs):=fun b xs hb=>s58 _ _ (t5 _ _ hb)
   refine⟨D,sn,w3,y,h6,[], .ref dv,some xs,n,R4,rfl,S.same (s5.trans s58),rw3.mono t8,wf,hyz,(s7.trans s8) _ _ k6,⟨dv,rfl,hdv⟩,sg,hn,?_⟩
   cases R4 with
   |error er=>
    subst h42
    subst hk2
    exact fun ea H9 s9=>q ea H9 (s5.trans (s58.trans s9))
   |ok u=>
    cases h42
    exact fun H9 s9=>⟨(st.1++[z],st.2),d,_,rfl,s5.trans (s58.trans s9),(s58.trans s9) _ _ kh5,s9 _ _ (t8 _ _ hd3),lns,hk2⟩
  ·have ck:¬k="hide":=fun h=>ck (decide_eq_true (congrArg V.str h))
   rw[if_neg ck]at hk1
   refine⟨_,rfl,e,_,1, .str z,rfl,rfl,SqT.of he,atI_nat (j:=1) rfl,_,rfl,z, .ref d,st.2,rfl,lz, .tp hd3,?_⟩
   unfold valB at hk1
   split at hk1
   rotate_left
   ·cases hk1
   rename_i y rest2
   cases re with|@cons w2 _ es _ rw2 re=>
   cases e2:onceM (decide (z∈st.2)) with
   |error er=>
    rw[e2]at hk1
    cases hk1
    subst hk2
    exact fun ea H8 s8=>q ea H8 (s3.trans s8)
   |ok u2=>
   rw[e2]at hk1
   have hk1:(bO (pM sn st.2 y) fun _=>some (.ok (st.1,st.2++[z])))=some R3:=hk1
   obtain⟨R4,h41,h42⟩:=bO_some hk1
   obtain⟨sw,hyz,hnl,n,hn⟩:=pM_asks h41
   intro H4 s4
   have s34:=s3.trans s4
   refine⟨_,rfl,_,rfl,e,_,2,w2,rfl,rfl,SqT.of (s4 _ _ he),atI_nat (j:=2) rfl,_,rfl,D,sn,w2,d,y,st.2,n,R4,rfl,S.same s34,sw,rw2.same s4,s4 _ _ hd3,hyz,hnl,lns,hn,?_⟩
   cases R4 with
   |error er=>
    subst h42
    subst hk2
    exact fun ea H9 s9=>q ea H9 (s34.trans s9)
   |ok u=>
    cases h42
    intro H5 s5
    have s45:=s4.trans s5
    refine⟨_,rfl,_,rfl,e,_,1, .str z,rfl,rfl,SqT.of (s45 _ _ he),atI_nat (j:=1) rfl,sml 1,fun p6 hp6=>?_⟩
    obtain⟨H6,eN6,s6,k6⟩:=nw hp6 (.tup [V.str z])
    rw[eN6]
    have s46:=s45.trans s6
    refine cat_nm (xs:=[z]) (s46 _ _ hd3) k6 (by simp only[List.length_cons,List.length_nil];omega) fun d' H7 s7 hd7=>?_
    exact⟨(st.1,st.2++[z]),d',_,rfl,s3.trans (s46.trans s7),(s46.trans s7) _ _ kh3,hd7,names_add lns (fun y hy=>by rw[List.mem_singleton.mp hy];exact lz),hk2⟩
 ·rintro σ H3 ⟨st,d,o,rfl,s3,_,_,_,hrow⟩
  rw[r.length,List.drop_length]at hrow
  cases hrow
  exact q H3 s3
end
def partD (sn:Sn):T→Mo Sn
 |.tup (_::.str z::g::items)=>(match greatM sn z with
  |.error e=>some (.error e)
  |.ok _=>bO (givenM sn g) fun fc=>bO (bodyM sn ([],[]) items) fun _=>if lenOk sn=true then some (.ok {sn with parts:=sn.parts++[(z,fc)]}) else none)
 |_=>none
def makerD (sn:Sn):T→Mo Sn
 |.tup (_::.str z::.tup gs::g::items)=>(match greatM sn z with
  |.error e=>some (.error e)
  |.ok _=>bO (rowsM (giverRow z) sn gs) fun sn1=>bO (givenM sn1 g) fun fc=>bO (bodyM sn1 ([],[]) items) fun _=>if(lenOk sn1&&decide (z∉ks sn1.makers))=true then some (.ok {sn1 with makers:=sn1.makers++[(z,(gs.length,fc))]}) else none)
 |_=>none
section
variable {P:Program}{w:World}{K:PySem.W.Frag}{mg:Str→Option Value}{base:Heap}{f CS fN fO:Addr}{CL:Flt→Addr}{fd gN gO:FuncData}
abbrev s_pt:Stmt:=top 66
abbrev s_mk:Stmt:=top 67
theorem sc_pt:FnScope ["seen","declaration","face"] pDe (defScope s_pt):=⟨rfl,rfl,rfl,by decide+kernel,rfl,by decide+kernel,by decide+kernel⟩
theorem sc_mk:FnScope ["seen","declaration","face"] pDe (defScope s_mk):=⟨rfl,rfl,rfl,by decide+kernel,rfl,by decide+kernel,by decide+kernel⟩
set_option maxHeartbeats 1000000 in
theorem ok_pt (F:Fun K "look_at_part" "look_at_part" s_pt f fd)(Tx:TxS K CS)(h1:HasX P w K mg base 4 "look_at_given_face" ["seen","given"] (spGiven CS CL))(h2:HasX P w K mg base 8 "look_at_body" ["seen","body"] (spBody CS CL))
  (MN:Meth K CS "names_great" fN) (GN:FnOk P w K mg base (CXF P w) 2 fN gN ["self","word"] (spGreatN CS CL)) (bN:Binds K gN ["self","word"] []):FnOk P w K mg base (CXF P w) 9 f fd pDe (spDecl CS CL partD):=by
 refine F.okX sc_pt (fun cdv A' outer s H vs Q E hr h=>?_)
 have hu:=hu_of hr
 obtain⟨D,sn,v,t,R,rfl,S,rt,hsz,hR,q⟩:=h
 obtain⟨f1,g1,G1,b1,k1,m1⟩:=h1
 obtain⟨f2,g2,G2,b2,k2,m2⟩:=h2
 refine⟨_,pss_cons (ps_expr (pe_meth (pv 0) Tx.cs MN GN (hr.mono (by decide)) bN .nil passes_up (pa_cons (pe_ix (ixT K) (pv 1) pe_int) pa_nil)))
  (pss_cons (pset 2 sc_pt.nd (pe_call G1 (hr.mono (by decide)) rfl m1 k1 b1 .nil passes_up (pa_cons (pv 0) (pa_cons (pe_ix (ixT K) (pv 1) pe_int) pa_nil))))
  (pss_cons (ps_expr (pe_call G2 (hr.mono (by decide)) rfl m2 k2 b2 .nil passes_up (pa_cons (pv 0) (pa_cons (pe_slice (slT K) (pv 1) (po_some pe_int) po_none) pa_nil))))
  (pss_one (ps_dput hu (fldK K (pv 0) rfl) (pe_ix (ixT K) (pv 1) pe_int) (pv 2) rfl)))),?_⟩
 unfold partD at hR
 split at hR
 rotate_left
 ·cases hR
 rename_i t0 z g items
 obtain⟨p,us,rfl,hp,r⟩:=tup_at rt
 cases r with|@cons v0 _ us _ r0 r=>
 cases r with|@cons v1 _ us _ rz r=>
 cases r with|@cons v2 _ us _ rg r=>
 cases rz with
 |str _ hz=>
 simp only[T.sz,szs]at hsz
 refine⟨_,rfl,D.s,D.dx,_,rfl,S.ob,nfl2 D,_,rfl,p,_,1, .str z,rfl,rfl,SqT.of hp,atI_nat (j:=1) rfl,D,sn,z,rfl,S,hz,?_⟩
 cases e1:greatM sn z with
 |error e=>
  rw[e1]at hR
  cases hR
  exact fun ea H8 s8=>q ea H8 (kps_same s8)
 |ok u=>
 rw[e1]at hR
 have hR:(bO (givenM sn g) fun fc=>bO (bodyM sn ([],[]) items) fun _=>if lenOk sn=true then some (.ok {sn with parts:=sn.parts++[(z,fc)]}) else none)=some R:=hR
 obtain⟨_,np,_,_⟩:=great_no e1
 obtain⟨R1,hg1,hg2⟩:=bO_some hR
 intro H1 s1
 have S1:=S.same s1
 refine⟨_,rfl,_,rfl,p,_,2,v2,rfl,rfl,SqT.of (s1 _ _ hp),atI_nat (j:=2) rfl,D,sn,v2,g,R1,rfl,S1,rg.same s1,hg1,?_⟩
 cases R1 with
 |error e=>
  subst hg2
  exact fun ea H8 s8=>q ea H8 (kps_same (s1.trans s8))
 |ok fc=>
 intro H2 s2
 have s12:=s1.trans s2
 obtain⟨R2,hi1,hi2⟩:=bO_some hg2
 refine⟨_,rfl,_,rfl,3,rfl,sl_from (k:=3) (s12 _ _ hp) (by decide) (by simp) fun p3 H3 s3 hp3=>?_⟩
 rw[show List.drop 3 (v0::V.str z::v2::us)=us from rfl]at hp3
 have s13:=s12.trans s3
 refine⟨D,sn,p3,us,items,R2,rfl,S.same s13,hp3,r.same s13,by omega,hi1,?_⟩
 cases R2 with
 |error e=>
  subst hi2
  exact fun ea H8 s8=>q ea H8 (kps_same (s13.trans s8))
 |ok st=>
 have hi2:(if lenOk sn=true then some (.ok {sn with parts:=sn.parts++[(z,fc)]}) else none)=some R:=hi2
 split at hi2
 rotate_left
 ·cases hi2
 rename_i lo
 obtain⟨_,_,_,_,_,_,_,l8,_⟩:=lenOk_all lo
 cases hi2
 intro H4 s4
 have s14:=s13.trans s4
 have S4:=S.same s14
 refine⟨_,rfl,_,rfl,D.s,CS,D.dx,_,_,rfl,S4.ob,Tx.cs,Tx.n8,fl8 D,_,rfl,p,_,1, .str z,rfl,rfl,SqT.of (s14 _ _ hp),atI_nat (j:=1) rfl,D.d8,_,rfl, .k (k:=Sum.inr z) S4.h8 (by rw[len_kvS];exact szl l8),?_⟩
 rw[put_kvS np]
 exact q _ ((kps_same s14).trans (kps_upd (.inr (by simp[SD.dl])))) (S4.put8 z fc)
set_option maxHeartbeats 1000000 in
theorem ok_mk (F:Fun K "look_at_maker" "look_at_maker" s_mk f fd)(Tx:TxS K CS)(ml:mg "len"=none)(h0:HasX P w K mg base 5 "look_at_givers" ["seen","own","givers"] (spGivers CS CL))(h1:HasX P w K mg base 4 "look_at_given_face" ["seen","given"] (spGiven CS CL))(h2:HasX P w K mg base 8 "look_at_body" ["seen","body"] (spBody CS CL))
  (MN:Meth K CS "names_great" fN) (GN:FnOk P w K mg base (CXF P w) 2 fN gN ["self","word"] (spGreatN CS CL)) (bN:Binds K gN ["self","word"] []):FnOk P w K mg base (CXF P w) 9 f fd pDe (spDecl CS CL makerD):=by
 refine F.okX sc_mk (fun cdv A' outer s H vs Q E hr h=>?_)
 have hu:=hu_of hr
 obtain⟨D,sn,v,t,R,rfl,S,rt,hsz,hR,q⟩:=h
 obtain⟨f0,g0,G0,b0,k0,m0⟩:=h0
 obtain⟨f1,g1,G1,b1,k1,m1⟩:=h1
 obtain⟨f2,g2,G2,b2,k2,m2⟩:=h2
 refine⟨_,pss_cons (ps_expr (pe_meth (pv 0) Tx.cs MN GN (hr.mono (by decide)) bN .nil passes_up (pa_cons (pe_ix (ixT K) (pv 1) pe_int) pa_nil)))
  (pss_cons (ps_expr (pe_call G0 (hr.mono (by decide)) rfl m0 k0 b0 .nil passes_up (pa_cons (pv 0) (pa_cons (pe_ix (ixT K) (pv 1) pe_int) (pa_cons (pe_ix (ixT K) (pv 1) pe_int) pa_nil)))))
  (pss_cons (pset 2 sc_mk.nd (pe_call G1 (hr.mono (by decide)) rfl m1 k1 b1 .nil passes_up (pa_cons (pv 0) (pa_cons (pe_ix (ixT K) (pv 1) pe_int) pa_nil))))
  (pss_cons (ps_expr (pe_call G2 (hr.mono (by decide)) rfl m2 k2 b2 .nil passes_up (pa_cons (pv 0) (pa_cons (pe_slice (slT K) (pv 1) (po_some pe_int) po_none) pa_nil))))
  (pss_one (ps_dput hu (fldK K (pv 0) rfl) (pe_ix (ixT K) (pv 1) pe_int) (pe_tup (pa_cons (pe_callB (clen K) rfl ml PySem.boot_len (pa_cons (pe_ix (ixT K) (pv 1) pe_int) pa_nil)) (pa_cons (pv 2) pa_nil))) rfl))))),?_⟩
 unfold makerD at hR
 split at hR
 rotate_left
 ·cases hR
 rename_i t0 z gs g items
 obtain⟨p,us,rfl,hp,r⟩:=tup_at rt
 cases r with|@cons v0 _ us _ r0 r=>
 cases r with|@cons v1 _ us _ rz r=>
 cases r with|@cons v2 _ us _ rgs r=>
 cases r with|@cons v3 _ us _ rg r=>
 cases rz with
 |str _ hz=>
 obtain⟨b,bs,rfl,hb,rb⟩:=tup_at rgs
 have lbs:=rb.length
 simp only[T.sz,szs]at hsz
 refine⟨_,rfl,D.s,D.dx,_,rfl,S.ob,nfl2 D,_,rfl,p,_,1, .str z,rfl,rfl,SqT.of hp,atI_nat (j:=1) rfl,D,sn,z,rfl,S,hz,?_⟩
 cases e1:greatM sn z with
 |error e=>
  rw[e1]at hR
  cases hR
  exact fun ea H8 s8=>q ea H8 (kps_same s8)
 |ok u=>
 rw[e1]at hR
 have hR:(bO (rowsM (giverRow z) sn gs) fun sn1=>bO (givenM sn1 g) fun fc=>bO (bodyM sn1 ([],[]) items) fun _=>if(lenOk sn1&&decide (z∉ks sn1.makers))=true then some (.ok {sn1 with makers:=sn1.makers++[(z,(gs.length,fc))]}) else none)=some R:=hR
 obtain⟨R0,hr1,hr2⟩:=bO_some hR
 intro H0 s0
 have S0:=S.same s0
 refine⟨_,rfl,_,rfl,p,_,1, .str z,rfl,rfl,SqT.of (s0 _ _ hp),atI_nat (j:=1) rfl,_,rfl,p,_,2, .ref b,rfl,rfl,SqT.of (s0 _ _ hp),atI_nat (j:=2) rfl,D,sn,z,b,bs,gs,R0,rfl,S0,s0 _ _ hb,rb.same s0,hr1,?_⟩
 cases R0 with
 |error e=>
  subst hr2
  exact fun ea H8 k8=>q ea H8 ((kps_same s0).trans k8)
 |ok sn1=>
 intro H1 k1' S1
 have kp1:=(kps_same s0).trans k1'
 have tk1:=S.tk kp1
 have hp1:=tk1 _ _ hp
 have hb1:=tk1 _ _ hb
 obtain⟨R1,hg1,hg2⟩:=bO_some hr2
 refine⟨_,rfl,_,rfl,p,_,3,v3,rfl,rfl,SqT.of hp1,atI_nat (j:=3) rfl,D,sn1,v3,g,R1,rfl,S1,rg.mono tk1,hg1,?_⟩
 cases R1 with
 |error e=>
  subst hg2
  exact fun ea H8 s8=>q ea H8 (kp1.trans (kps_same s8))
 |ok fc=>
 intro H2 s2
 obtain⟨R2,hi1,hi2⟩:=bO_some hg2
 refine⟨_,rfl,_,rfl,4,rfl,sl_from (k:=4) (s2 _ _ hp1) (by decide) (by simp) fun p3 H3 s3 hp3=>?_⟩
 rw[show List.drop 4 (v0::V.str z::.ref b::v3::us)=us from rfl]at hp3
 have s13:=s2.trans s3
 refine⟨D,sn1,p3,us,items,R2,rfl,S1.same s13,hp3,(r.mono tk1).same s13,by omega,hi1,?_⟩
 cases R2 with
 |error e=>
  subst hi2
  exact fun ea H8 s8=>q ea H8 (kp1.trans (kps_same (s13.trans s8)))
 |ok st=>
 have hi2:(if(lenOk sn1&&decide (z∉ks sn1.makers))=true then some (.ok {sn1 with makers:=sn1.makers++[(z,(gs.length,fc))]}) else none)=some R:=hi2
 split at hi2
 rotate_left
 ·cases hi2
 rename_i c
 rw[Bool.and_eq_true,decide_eq_true_eq]at c
 obtain⟨lo,nz⟩:=c
 obtain⟨_,_,_,_,_,_,_,_,_,l10⟩:=lenOk_all lo
 cases hi2
 intro H4 s4
 have s14:=s13.trans s4
 refine⟨_,rfl,p,_,2, .ref b,rfl,rfl,SqT.of (s14 _ _ hp1),atI_nat (j:=2) rfl,b,_,rfl, .inr (SqT.of (s14 _ _ hb1)),_,rfl,sml 2,fun a ha=>?_⟩
 rw[show((bs.length:Int))=((gs.length:Nat):Int) by rw[lbs]]
 obtain⟨H5,eN,s5,ka5⟩:=nw ha (.tup [V.int ((gs.length:Nat):Int), .str fc])
 rw[eN]
 have s15:=s14.trans s5
 have S5:=S1.same s15
 obtain⟨kvs,h10,f10⟩:=S5.h10
 have lk:kvs.length=sn1.makers.length:=by
  have:=congrArg List.length f10.keys
  rw[List.length_map,List.length_map,List.length_map]at this
  exact this
 refine⟨_,rfl,D.s,CS,D.dx,_,_,rfl,S5.ob,Tx.cs,Tx.n10,fl10 D,_,rfl,p,_,1, .str z,rfl,rfl,SqT.of (s15 _ _ hp1),atI_nat (j:=1) rfl,D.d10,_,rfl, .k (k:=Sum.inr z) h10 (by rw[lk];exact szl l10),?_⟩
 rw[put_new f10.keys nz]
 exact q _ ((kp1.trans (kps_same s15)).trans (kps_upd (.inr (by simp[SD.dl])))) (S5.put10 h10 ka5)
end
def allThere (zs:List Str):List Str→Ex Unit
 |[]=>.ok ()
 |p::r=>(thereM (decide (p∈zs))).bind fun _=>allThere zs r
def applyE (sn:Sn)(z m:Str)(ps:List Str):Ex Sn:=(greatM sn z).bind fun _=>(look .nn (sn.makers.lookup m)).bind fun r=>(sameM r.1 ps.length).bind fun _=>(allThere (ks sn.parts) ps).bind fun _=>.ok {sn with parts:=sn.parts++[(z,r.2)]}
def makersOk (sn:Sn):Bool:=sn.makers.all fun p=>decide (p.2.1<1000000)
def applyD (sn:Sn):T→Mo Sn
 |.tup (_::.str z::.str m::l)=>(match mapO strT l with
  |some ps=>if(lenOk sn&&makersOk sn)=true then some (applyE sn z m ps) else none
  |none=>none)
 |_=>none
def mainD (sn:Sn):T→Mo Sn
 |.tup (_::x::_)=>bO (pM sn [] x) fun _=>some (.ok sn)
 |_=>none
section
variable {P:Program}{w:World}{K:PySem.W.Frag}{mg:Str→Option Value}{base:Heap}{f CS fN fO:Addr}{CL:Flt→Addr}{fd gN gO:FuncData}
abbrev s_ap:Stmt:=top 68
abbrev s_mn:Stmt:=top 69
theorem sc_ap:FnScope ["seen","declaration","row","part"] pDe (defScope s_ap):=⟨rfl,rfl,rfl,by decide+kernel,rfl,by decide+kernel,by decide+kernel⟩
theorem sc_mn:FnScope pDe pDe (defScope s_mn):=⟨rfl,rfl,rfl,by decide+kernel,rfl,by decide+kernel,by decide+kernel⟩
set_option maxHeartbeats 1000000 in
theorem ok_ap (F:Fun K "look_at_apply" "look_at_apply" s_ap f fd)(Tx:TxS K CS)(ml:mg "len"=none)(h1:HasX P w K mg base 1 "count_same" ["word","wanted","count"] (spCount CL))(h2:HasX P w K mg base 2 "use" ["word","there"] (spUse CL))(h3:HasX P w K mg base 1 "be_there" ["word","there"] (spThere CL))
  (MN:Meth K CS "names_great" fN) (GN:FnOk P w K mg base (CXF P w) 2 fN gN ["self","word"] (spGreatN CS CL)) (bN:Binds K gN ["self","word"] []):FnOk P w K mg base (CXF P w) 3 f fd pDe (spDecl CS CL applyD):=by
 refine F.okX sc_ap (fun cdv A' outer s H vs Q E hr h=>?_)
 have hu:=hu_of hr
 obtain⟨D,sn,v,t,R,rfl,S,rt,hsz,hR,q⟩:=h
 obtain⟨f1,g1,G1,b1,k1,m1⟩:=h1
 obtain⟨f2,g2,G2,b2,k2,m2⟩:=h2
 obtain⟨f3,g3,G3,b3,k3,m3⟩:=h3
 refine⟨_,pss_cons (ps_expr (pe_meth (pv 0) Tx.cs MN GN (hr.mono (by decide)) bN .nil passes_up (pa_cons (pe_ix (ixT K) (pv 1) pe_int) pa_nil)))
  (pss_cons (pset 2 sc_ap.nd (pe_call G2 (hr.mono (by decide)) rfl m2 k2 b2 .nil passes_up (pa_cons (pe_ix (ixT K) (pv 1) pe_int) (pa_cons (fldK K (pv 0) rfl) pa_nil))))
  (pss_cons (ps_expr (pe_call G1 (hr.mono (by decide)) rfl m1 k1 b1 .nil passes_up (pa_cons (pe_ix (ixT K) (pv 1) pe_int) (pa_cons (pe_ix (ixT K) (pv 2) pe_int) (pa_cons (pe_op op_sub (pe_callB (clen K) rfl ml PySem.boot_len (pa_cons (pv 1) pa_nil)) pe_int) pa_nil)))))
  (pss_cons (ps_for PassesOwn.leaving rfl (piT K (pe_slice (slT K) (pv 1) (po_some pe_int) po_none)) (pg_name (i:=3) sc_ap.nd rfl (Or.inl rfl))
   (pss_one (ps_expr (pe_call G3 (hr.mono (by decide)) rfl m3 k3 b3 .nil passes_up (pa_cons (pv 3) (pa_cons (fldK K (pv 0) rfl) pa_nil))))))
  (pss_one (ps_dput hu (fldK K (pv 0) rfl) (pe_ix (ixT K) (pv 1) pe_int) (pe_ix (ixT K) (pv 2) pe_int) rfl))))),?_⟩
 unfold applyD at hR
 split at hR
 rotate_left
 ·cases hR
 rename_i t0 z m l
 split at hR
 rotate_left
 ·cases hR
 rename_i ps eps
 split at hR
 rotate_left
 ·cases hR
 rename_i c
 rw[Bool.and_eq_true]at c
 obtain⟨lo,mo⟩:=c
 obtain⟨_,_,_,_,_,_,_,l8,_⟩:=lenOk_all lo
 cases hR
 obtain⟨p,us,rfl,hp,r⟩:=tup_at rt
 cases r with|@cons v0 _ us _ r0 r=>
 cases r with|@cons v1 _ us _ rz r=>
 cases r with|@cons v2 _ us _ rm r=>
 cases rz with
 |str _ hz=>
 cases rm with
 |str _ hm=>
 obtain⟨rfl,lws⟩:=reps_strs r eps
 have lr:=r.length
 have ll:=len_szs l
 rw[List.length_map]at lr
 simp only[T.sz,szs]at hsz
 refine⟨_,rfl,D.s,D.dx,_,rfl,S.ob,nfl2 D,_,rfl,p,_,1, .str z,rfl,rfl,SqT.of hp,atI_nat (j:=1) rfl,D,sn,z,rfl,S,hz,?_⟩
 unfold applyE at q
 cases e1:greatM sn z with
 |error e=>
  rw[e1]at q
  exact fun ea H8 s8=>q ea H8 (kps_same s8)
 |ok u=>
 rw[e1]at q
 have q:OutK CS CL D H E ((look .nn (sn.makers.lookup m)).bind fun r=>(sameM r.1 ps.length).bind fun _=>(allThere (ks sn.parts) ps).bind fun _=>.ok {sn with parts:=sn.parts++[(z,r.2)]}) (fun sn' H'=>SnL CS H' D sn'→Q .non H'):=q
 obtain⟨_,np,_,_⟩:=great_no e1
 intro H1 s1
 have S1:=S.same s1
 obtain⟨k10,h10,f10⟩:=S1.h10
 refine⟨_,rfl,p,_,2, .str m,rfl,rfl,SqT.of (s1 _ _ hp),atI_nat (j:=2) rfl,_,rfl,D.s,CS,D.dx,_,_,rfl,S1.ob,Tx.cs,Tx.n10,fl10 D,m,D.d10,k10,_,rfl,hm,h10,f10.keys,?_⟩
 rcases f10.val m with ⟨e2,e3⟩|⟨n,fc,a,e2,e3,ha⟩
 ·rw[e2]at q
  rw[e3]
  exact fun ea H8 s8=>q ea H8 (kps_same (s1.trans s8))
 rw[e2]at q
 rw[e3]
 have q:OutK CS CL D H E ((sameM n ps.length).bind fun _=>(allThere (ks sn.parts) ps).bind fun _=>.ok {sn with parts:=sn.parts++[(z,fc)]}) (fun sn' H'=>SnL CS H' D sn'→Q .non H'):=q
 have ln:n<1000000:=of_decide_eq_true (List.all_eq_true.mp mo (m,(n,fc)) (mem_of_lookup' e2))
 have en:((v0::V.str z::.str m::ps.map V.str).length:Int)-3=(ps.length:Int):=by simp only[List.length_cons,List.length_map];omega
 intro H2 s2
 have s12:=s1.trans s2
 refine⟨_,rfl,p,_,2, .str m,rfl,rfl,SqT.of (s12 _ _ hp),atI_nat (j:=2) rfl,_,rfl,a,_,0, .int n,rfl,rfl,SqT.of (s2 _ _ ha),atI_nat (j:=0) rfl,_,rfl,p,_,rfl, .inr (SqT.of (s12 _ _ hp)),_,3,rfl,rfl,m,n,ps.length,by rw[←en];rfl,hm,ln,by omega,?_⟩
 cases e4:sameM n ps.length with
 |error e=>
  rw[e4]at q
  exact fun ea H8 s8=>q ea H8 (kps_same (s12.trans s8))
 |ok u=>
 rw[e4]at q
 have q:OutK CS CL D H E ((allThere (ks sn.parts) ps).bind fun _=>.ok {sn with parts:=sn.parts++[(z,fc)]}) (fun sn' H'=>SnL CS H' D sn'→Q .non H'):=q
 intro H3 s3
 have s13:=s12.trans s3
 refine⟨_,rfl,3,rfl,sl_from (k:=3) (s13 _ _ hp) (by decide) (by simp) fun p4 H4 s4 hp4=>?_⟩
 rw[show List.drop 3 (v0::V.str z::.str m::ps.map V.str)=ps.map V.str from rfl]at hp4
 have s14:=s13.trans s4
 have ha4:=(s3.trans s4) _ _ (s2 _ _ ha)
 refine⟨p4,rfl,⟨_,SqT.of hp4⟩,?_⟩
 refine for_tup (xs:=ps.map V.str) (fun i σ H'=>(∃o,σ=[some (.ref D.s),some (.ref p),some (.ref a),o])∧Same H4 H'∧allThere (ks sn.parts) (ps.drop i)=allThere (ks sn.parts) ps) ⟨⟨_,rfl⟩,Same.refl _,rfl⟩ ?_ ?_ ?_
 ·rintro i σ H' _ ⟨_,s5,_⟩
  exact SqT.of (s5 _ _ hp4)
 ·rintro i x σ H5 hx ⟨⟨o,rfl⟩,s5,hrow⟩
  rw[List.getElem?_map]at hx
  cases ex:ps[i]? with
  |none=>rw[ex]at hx;cases hx
  |some y=>
  rw[ex]at hx
  cases hx
  obtain⟨hi,ez⟩:=List.getElem?_eq_some_iff.mp ex
  have hy:=lws y (List.mem_of_getElem? ex)
  rw[List.drop_eq_getElem_cons hi,ez]at hrow
  have hrow:(thereM (decide (y∈ks sn.parts))).bind (fun _=>allThere (ks sn.parts) (ps.drop (i+1)))=allThere (ks sn.parts) ps:=hrow
  have S5:=S.same (s14.trans s5)
  refine⟨_,rfl,_,rfl,D.s,CS,D.dx,_,_,rfl,S5.ob,Tx.cs,Tx.n8,fl8 D,y, .ref D.d8,ks sn.parts,rfl,hy, .dk S5.h8 (keys_map V.str sn.parts),?_⟩
  cases e8:thereM (decide (y∈ks sn.parts)) with
  |error fl=>
   rw[e8]at hrow
   have hrow:(.error fl:Ex Unit)=allThere (ks sn.parts) ps:=hrow
   rw[←hrow]at q
   exact fun ea H8 s8=>q ea H8 (kps_same ((s14.trans s5).trans s8))
  |ok u3=>
   rw[e8]at hrow
   have hrow:allThere (ks sn.parts) (ps.drop (i+1))=allThere (ks sn.parts) ps:=hrow
   exact fun H8 s8=>⟨⟨_,rfl⟩,s5.trans s8,hrow⟩
 ·rintro σ H5 ⟨⟨o,rfl⟩,s5,hrow⟩
  rw[List.length_map,List.drop_length]at hrow
  have hrow:(.ok ():Ex Unit)=allThere (ks sn.parts) ps:=hrow
  rw[←hrow]at q
  have s15:=s14.trans s5
  have S5:=S.same s15
  refine⟨_,rfl,a,_,1, .str fc,rfl,rfl,SqT.of (s5 _ _ ha4),atI_nat (j:=1) rfl,_,rfl,D.s,CS,D.dx,_,_,rfl,S5.ob,Tx.cs,Tx.n8,fl8 D,_,rfl,p,_,1, .str z,rfl,rfl,SqT.of (s15 _ _ hp),atI_nat (j:=1) rfl,D.d8,_,rfl, .k (k:=Sum.inr z) S5.h8 (by rw[len_kvS];exact szl l8),?_⟩
  rw[put_kvS np]
  exact q _ ((kps_same s15).trans (kps_upd (.inr (by simp[SD.dl])))) (S5.put8 z fc)
theorem ok_mn (F:Fun K "look_at_main" "look_at_main" s_mn f fd)(h1:HasX P w K mg base 7 "look_through" pLk (spLt CS CL)):FnOk P w K mg base (CXF P w) 8 f fd pDe (spDecl CS CL mainD):=by
 refine F.okX sc_mn (fun cdv A' outer s H vs Q E hr h=>?_)
 obtain⟨D,sn,v,t,R,rfl,S,rt,hsz,hR,q⟩:=h
 obtain⟨f1,g1,G1,b1,k1,m1⟩:=h1
 refine⟨_,pss_one (ps_expr (pe_call G1 (hr.mono (by decide)) rfl m1 k1 b1 .nil passes_up (pa_cons (pv 0) (pa_cons (pe_ix (ixT K) (pv 1) pe_int) (pa_cons (pe_tup pa_nil) pa_nil))))),?_⟩
 unfold mainD at hR
 split at hR
 rotate_left
 ·cases hR
 rename_i t0 x rest
 obtain⟨p,us,rfl,hp,r⟩:=tup_at rt
 cases r with|@cons v0 _ us _ r0 r=>
 cases r with|@cons v1 _ us _ rx r=>
 obtain⟨R1,h11,h12⟩:=bO_some hR
 obtain⟨sw,hxz,hnl,n,hn⟩:=pM_asks h11
 refine⟨_,rfl,_,rfl,p,_,1,v1,rfl,rfl,SqT.of hp,atI_nat (j:=1) rfl,sml 0,fun d hd=>?_⟩
 obtain⟨H1,eN,s1,k1'⟩:=nw hd (.tup [])
 rw[eN]
 refine⟨D,sn,v1,d,x,[],n,R1,rfl,S.same s1,sw,rx.same s1,k1',hxz,hnl,(fun x hx=>by cases hx),hn,?_⟩
 cases R1 with
 |error e=>
  subst h12
  exact fun ea H8 s8=>q ea H8 (kps_same (s1.trans s8))
 |ok u=>
  cases h12
  exact fun H8 s8=>q H8 (kps_same (s1.trans s8)) (S.same (s1.trans s8))
end
theorem pi1 {d1:Addr}:putF "sort_counts" (V.ref d1) []=([("sort_counts", .ref d1)]:List (Str×V)):=by first|rfl|(with_unfolding_all rfl)|kernel_rfl
theorem pi2 {d1 d2:Addr}:putF "kind_sizes" (V.ref d2) [("sort_counts", .ref d1)]=([("sort_counts", .ref d1),("kind_sizes", .ref d2)]:List (Str×V)):=by first|rfl|(with_unfolding_all rfl)|kernel_rfl
theorem pi3 {d1 d2 d3:Addr}:putF "tag_kinds" (V.ref d3) [("sort_counts", .ref d1),("kind_sizes", .ref d2)]=([("sort_counts", .ref d1),("kind_sizes", .ref d2),("tag_kinds", .ref d3)]:List (Str×V)):=by first|rfl|(with_unfolding_all rfl)|kernel_rfl
theorem pi4 {d1 d2 d3 d4:Addr}:putF "tag_sizes" (V.ref d4) [("sort_counts", .ref d1),("kind_sizes", .ref d2),("tag_kinds", .ref d3)]=([("sort_counts", .ref d1),("kind_sizes", .ref d2),("tag_kinds", .ref d3),("tag_sizes", .ref d4)]:List (Str×V)):=by first|rfl|(with_unfolding_all rfl)|kernel_rfl
theorem pi5 {d1 d2 d3 d4 d5:Addr}:putF "record_sizes" (V.ref d5) [("sort_counts", .ref d1),("kind_sizes", .ref d2),("tag_kinds", .ref d3),("tag_sizes", .ref d4)]=([("sort_counts", .ref d1),("kind_sizes", .ref d2),("tag_kinds", .ref d3),("tag_sizes", .ref d4),("record_sizes", .ref d5)]:List (Str×V)):=by first|rfl|(with_unfolding_all rfl)|kernel_rfl
theorem pi6 {d1 d2 d3 d4 d5 d6:Addr}:putF "field_names" (V.ref d6) [("sort_counts", .ref d1),("kind_sizes", .ref d2),("tag_kinds", .ref d3),("tag_sizes", .ref d4),("record_sizes", .ref d5)]=([("sort_counts", .ref d1),("kind_sizes", .ref d2),("tag_kinds", .ref d3),("tag_sizes", .ref d4),("record_sizes", .ref d5),("field_names", .ref d6)]:List (Str×V)):=by first|rfl|(with_unfolding_all rfl)|kernel_rfl
theorem pi7 {d1 d2 d3 d4 d5 d6 d7:Addr}:putF "face_rows" (V.ref d7) [("sort_counts", .ref d1),("kind_sizes", .ref d2),("tag_kinds", .ref d3),("tag_sizes", .ref d4),("record_sizes", .ref d5),("field_names", .ref d6)]=([("sort_counts", .ref d1),("kind_sizes", .ref d2),("tag_kinds", .ref d3),("tag_sizes", .ref d4),("record_sizes", .ref d5),("field_names", .ref d6),("face_rows", .ref d7)]:List (Str×V)):=by first|rfl|(with_unfolding_all rfl)|kernel_rfl
theorem pi8 {d1 d2 d3 d4 d5 d6 d7 d8:Addr}:putF "part_faces" (V.ref d8) [("sort_counts", .ref d1),("kind_sizes", .ref d2),("tag_kinds", .ref d3),("tag_sizes", .ref d4),("record_sizes", .ref d5),("field_names", .ref d6),("face_rows", .ref d7)]=([("sort_counts", .ref d1),("kind_sizes", .ref d2),("tag_kinds", .ref d3),("tag_sizes", .ref d4),("record_sizes", .ref d5),("field_names", .ref d6),("face_rows", .ref d7),("part_faces", .ref d8)]:List (Str×V)):=by first|rfl|(with_unfolding_all rfl)|kernel_rfl
theorem pi9 {d1 d2 d3 d4 d5 d6 d7 d8 d9:Addr}:putF "giver_faces" (V.ref d9) [("sort_counts", .ref d1),("kind_sizes", .ref d2),("tag_kinds", .ref d3),("tag_sizes", .ref d4),("record_sizes", .ref d5),("field_names", .ref d6),("face_rows", .ref d7),("part_faces", .ref d8)]=([("sort_counts", .ref d1),("kind_sizes", .ref d2),("tag_kinds", .ref d3),("tag_sizes", .ref d4),("record_sizes", .ref d5),("field_names", .ref d6),("face_rows", .ref d7),("part_faces", .ref d8),("giver_faces", .ref d9)]:List (Str×V)):=by first|rfl|(with_unfolding_all rfl)|kernel_rfl
theorem pi10 {d1 d2 d3 d4 d5 d6 d7 d8 d9 d10:Addr}:putF "maker_rows" (V.ref d10) [("sort_counts", .ref d1),("kind_sizes", .ref d2),("tag_kinds", .ref d3),("tag_sizes", .ref d4),("record_sizes", .ref d5),("field_names", .ref d6),("face_rows", .ref d7),("part_faces", .ref d8),("giver_faces", .ref d9)]=([("sort_counts", .ref d1),("kind_sizes", .ref d2),("tag_kinds", .ref d3),("tag_sizes", .ref d4),("record_sizes", .ref d5),("field_names", .ref d6),("face_rows", .ref d7),("part_faces", .ref d8),("giver_faces", .ref d9),("maker_rows", .ref d10)]:List (Str×V)):=by first|rfl|(with_unfolding_all rfl)|kernel_rfl
structure Ini (CS:Addr)(H H':Hp)(s dx:Addr)(fs:List (Str×V))(ds:List Addr):Prop where
 ob:H' s=some (.ins CS dx fs)
 nd:(s::ds).Nodup
 dk:∀d∈ds,H' d=some (.dK [])
 new:∀d∈ds,H d=none
 keep:∀b o,b≠s→H b=some o→H' b=some o
theorem Ini.mid {CS:Addr}{H H':Hp}{s dx:Addr}{fs:List (Str×V)}{ds:List Addr}(I:Ini CS H H' s dx fs ds){d:Addr}(hd:H' d=none):(upd H' d (.dK [])) s=some (.ins CS dx fs):=by
 rw[upd_ne (ne_of_none I.ob hd)];exact I.ob
theorem Ini.next {CS:Addr}{H H':Hp}{s dx:Addr}{fs:List (Str×V)}{ds:List Addr}(I:Ini CS H H' s dx fs ds){d:Addr}(hd:H' d=none)(fs':List (Str×V)):Ini CS H (upd (upd H' d (.dK [])) s (.ins CS dx fs')) s dx fs' (d::ds):=by
 have n:s≠d:=ne_of_none I.ob hd
 have hs:=List.nodup_cons.mp I.nd
 have nds:d∉ds:=fun h=>by rw[I.dk d h]at hd;cases hd
 refine⟨upd_same,List.nodup_cons.mpr ⟨fun h=>?_,List.nodup_cons.mpr ⟨nds,hs.2⟩⟩,fun b hb=>?_,fun b hb=>?_,fun b o nb hb=>?_⟩
 ·rcases List.mem_cons.mp h with h|h
  ·exact n h
  ·exact hs.1 h
 ·rcases List.mem_cons.mp hb with rfl|hb
  ·rw[upd_ne (Ne.symm n),upd_same]
  ·rw[upd_ne (fun e=>hs.1 (by rw[←e];exact hb)),upd_ne (fun e=>nds (by rw[←e];exact hb))];exact I.dk b hb
 ·rcases List.mem_cons.mp hb with rfl|hb
  ·cases e:H b with
   |none=>rfl
   |some o=>rw[I.keep b o (Ne.symm n) e]at hd;cases hd
  ·exact I.new b hb
 ·rw[upd_ne nb,upd_ne (ne_of_none (I.keep b o nb hb) hd)];exact I.keep b o nb hb
inductive spSeen0 (CS:Addr)(vs:List V)(H:Hp)(Q:VK)(E:XK):Prop where
 |mk (s dx:Addr):vs=[.ref s]→H s=some (.ins CS dx [])→(∀(D:SD) H',D.s=s→SnL CS H' D {}→(∀d∈D.dl,H d=none)→(∀b o,b≠s→H b=some o→H' b=some o)→Q .non H')→spSeen0 CS vs H Q E
section
variable {P:Program}{w:World}{K:PySem.W.Frag}{mg:Str→Option Value}{base:Heap}{f CS fI:Addr}{CL:Flt→Addr}{fd gI:FuncData}
abbrev s_in:Stmt:=inClass (top 19) 0
theorem sc_in:FnScope ["self"] ["self"] (defScope s_in):=⟨rfl,rfl,rfl,by decide+kernel,rfl,by decide+kernel,by decide+kernel⟩
set_option maxHeartbeats 1000000 in
theorem ok_in (F:Fun K "__init__" "Seen.__init__" s_in f fd)(Tx:TxS K CS):FnOk P w K mg base (CXF P w) 1 f fd ["self"] (spSeen0 CS):=by
 refine F.okX sc_in (fun cdv A outer s H vs Q E hr h=>?_)
 obtain⟨m,dx,rfl,hm,q⟩:=h
 refine⟨_,pss_cons (sfldK K (pv 0) pe_dnewK rfl) (pss_cons (sfldK K (pv 0) pe_dnewK rfl) (pss_cons (sfldK K (pv 0) pe_dnewK rfl) (pss_cons (sfldK K (pv 0) pe_dnewK rfl) (pss_cons (sfldK K (pv 0) pe_dnewK rfl) (pss_cons (sfldK K (pv 0) pe_dnewK rfl) (pss_cons (sfldK K (pv 0) pe_dnewK rfl) (pss_cons (sfldK K (pv 0) pe_dnewK rfl) (pss_cons (sfldK K (pv 0) pe_dnewK rfl) (pss_one (sfldK K (pv 0) pe_dnewK rfl)))))))))),?_⟩
 have I0:Ini CS H H m dx [] []:=⟨hm,List.nodup_cons.mpr ⟨(fun h=>by cases h),List.nodup_nil⟩,(fun d h=>by cases h),(fun d h=>by cases h),fun b o _ h=>h⟩
 refine fun d1 h1=>⟨_,rfl,m,CS,dx,_,rfl,I0.mid h1,Tx.cs,Tx.n1,(by show 0<1000;decide),?_⟩
 rw[pi1]
 have I1:=I0.next h1 [("sort_counts", .ref d1)]
 revert I1
 generalize upd (upd H d1 (.dK [])) m (.ins CS dx [("sort_counts", .ref d1)])=H1
 intro I1
 refine fun d2 h2=>⟨_,rfl,m,CS,dx,_,rfl,I1.mid h2,Tx.cs,Tx.n2,(by show 1<1000;decide),?_⟩
 rw[pi2]
 have I2:=I1.next h2 [("sort_counts", .ref d1),("kind_sizes", .ref d2)]
 revert I2
 generalize upd (upd H1 d2 (.dK [])) m (.ins CS dx [("sort_counts", .ref d1),("kind_sizes", .ref d2)])=H2
 intro I2
 refine fun d3 h3=>⟨_,rfl,m,CS,dx,_,rfl,I2.mid h3,Tx.cs,Tx.n3,(by show 2<1000;decide),?_⟩
 rw[pi3]
 have I3:=I2.next h3 [("sort_counts", .ref d1),("kind_sizes", .ref d2),("tag_kinds", .ref d3)]
 revert I3
 generalize upd (upd H2 d3 (.dK [])) m (.ins CS dx [("sort_counts", .ref d1),("kind_sizes", .ref d2),("tag_kinds", .ref d3)])=H3
 intro I3
 refine fun d4 h4=>⟨_,rfl,m,CS,dx,_,rfl,I3.mid h4,Tx.cs,Tx.n4,(by show 3<1000;decide),?_⟩
 rw[pi4]
 have I4:=I3.next h4 [("sort_counts", .ref d1),("kind_sizes", .ref d2),("tag_kinds", .ref d3),("tag_sizes", .ref d4)]
 revert I4
 generalize upd (upd H3 d4 (.dK [])) m (.ins CS dx [("sort_counts", .ref d1),("kind_sizes", .ref d2),("tag_kinds", .ref d3),("tag_sizes", .ref d4)])=H4
 intro I4
 refine fun d5 h5=>⟨_,rfl,m,CS,dx,_,rfl,I4.mid h5,Tx.cs,Tx.n5,(by show 4<1000;decide),?_⟩
 rw[pi5]
 have I5:=I4.next h5 [("sort_counts", .ref d1),("kind_sizes", .ref d2),("tag_kinds", .ref d3),("tag_sizes", .ref d4),("record_sizes", .ref d5)]
 revert I5
 generalize upd (upd H4 d5 (.dK [])) m (.ins CS dx [("sort_counts", .ref d1),("kind_sizes", .ref d2),("tag_kinds", .ref d3),("tag_sizes", .ref d4),("record_sizes", .ref d5)])=H5
 intro I5
 refine fun d6 h6=>⟨_,rfl,m,CS,dx,_,rfl,I5.mid h6,Tx.cs,Tx.n6,(by show 5<1000;decide),?_⟩
 rw[pi6]
 have I6:=I5.next h6 [("sort_counts", .ref d1),("kind_sizes", .ref d2),("tag_kinds", .ref d3),("tag_sizes", .ref d4),("record_sizes", .ref d5),("field_names", .ref d6)]
 revert I6
 generalize upd (upd H5 d6 (.dK [])) m (.ins CS dx [("sort_counts", .ref d1),("kind_sizes", .ref d2),("tag_kinds", .ref d3),("tag_sizes", .ref d4),("record_sizes", .ref d5),("field_names", .ref d6)])=H6
 intro I6
 refine fun d7 h7=>⟨_,rfl,m,CS,dx,_,rfl,I6.mid h7,Tx.cs,Tx.n7,(by show 6<1000;decide),?_⟩
 rw[pi7]
 have I7:=I6.next h7 [("sort_counts", .ref d1),("kind_sizes", .ref d2),("tag_kinds", .ref d3),("tag_sizes", .ref d4),("record_sizes", .ref d5),("field_names", .ref d6),("face_rows", .ref d7)]
 revert I7
 generalize upd (upd H6 d7 (.dK [])) m (.ins CS dx [("sort_counts", .ref d1),("kind_sizes", .ref d2),("tag_kinds", .ref d3),("tag_sizes", .ref d4),("record_sizes", .ref d5),("field_names", .ref d6),("face_rows", .ref d7)])=H7
 intro I7
 refine fun d8 h8=>⟨_,rfl,m,CS,dx,_,rfl,I7.mid h8,Tx.cs,Tx.n8,(by show 7<1000;decide),?_⟩
 rw[pi8]
 have I8:=I7.next h8 [("sort_counts", .ref d1),("kind_sizes", .ref d2),("tag_kinds", .ref d3),("tag_sizes", .ref d4),("record_sizes", .ref d5),("field_names", .ref d6),("face_rows", .ref d7),("part_faces", .ref d8)]
 revert I8
 generalize upd (upd H7 d8 (.dK [])) m (.ins CS dx [("sort_counts", .ref d1),("kind_sizes", .ref d2),("tag_kinds", .ref d3),("tag_sizes", .ref d4),("record_sizes", .ref d5),("field_names", .ref d6),("face_rows", .ref d7),("part_faces", .ref d8)])=H8
 intro I8
 refine fun d9 h9=>⟨_,rfl,m,CS,dx,_,rfl,I8.mid h9,Tx.cs,Tx.n9,(by show 8<1000;decide),?_⟩
 rw[pi9]
 have I9:=I8.next h9 [("sort_counts", .ref d1),("kind_sizes", .ref d2),("tag_kinds", .ref d3),("tag_sizes", .ref d4),("record_sizes", .ref d5),("field_names", .ref d6),("face_rows", .ref d7),("part_faces", .ref d8),("giver_faces", .ref d9)]
 revert I9
 generalize upd (upd H8 d9 (.dK [])) m (.ins CS dx [("sort_counts", .ref d1),("kind_sizes", .ref d2),("tag_kinds", .ref d3),("tag_sizes", .ref d4),("record_sizes", .ref d5),("field_names", .ref d6),("face_rows", .ref d7),("part_faces", .ref d8),("giver_faces", .ref d9)])=H9
 intro I9
 refine fun d10 h10=>⟨_,rfl,m,CS,dx,_,rfl,I9.mid h10,Tx.cs,Tx.n10,(by show 9<1000;decide),?_⟩
 rw[pi10]
 have I10:=I9.next h10 [("sort_counts", .ref d1),("kind_sizes", .ref d2),("tag_kinds", .ref d3),("tag_sizes", .ref d4),("record_sizes", .ref d5),("field_names", .ref d6),("face_rows", .ref d7),("part_faces", .ref d8),("giver_faces", .ref d9),("maker_rows", .ref d10)]
 revert I10
 generalize upd (upd H9 d10 (.dK [])) m (.ins CS dx [("sort_counts", .ref d1),("kind_sizes", .ref d2),("tag_kinds", .ref d3),("tag_sizes", .ref d4),("record_sizes", .ref d5),("field_names", .ref d6),("face_rows", .ref d7),("part_faces", .ref d8),("giver_faces", .ref d9),("maker_rows", .ref d10)])=H10
 intro I10
 have nd:(m::[d1,d2,d3,d4,d5,d6,d7,d8,d9,d10]).Nodup:=by
  have e:(m::[d10,d9,d8,d7,d6,d5,d4,d3,d2,d1]).Perm (m::[d1,d2,d3,d4,d5,d6,d7,d8,d9,d10]):=List.Perm.cons _ (List.reverse_perm [d1,d2,d3,d4,d5,d6,d7,d8,d9,d10])
  exact e.nodup_iff.mp I10.nd
 have k:∀{d:Addr},d∈[d10,d9,d8,d7,d6,d5,d4,d3,d2,d1]→H10 d=some (.dK []):=fun h=>I10.dk _ h
 exact q ⟨m,dx,d1,d2,d3,d4,d5,d6,d7,d8,d9,d10⟩ H10 rfl ⟨I10.ob,nd,k (by simp),k (by simp),k (by simp),k (by simp),k (by simp),k (by simp),⟨[],k (by simp), .nil⟩,k (by simp),k (by simp),⟨[],k (by simp), .nil⟩⟩ (fun d hd=>I10.new d ((List.mem_reverse (as:=[d10,d9,d8,d7,d6,d5,d4,d3,d2,d1])).mp hd)) I10.keep
end
def formsD:List (Str×Nat):=[("kind",0),("record",1),("face",2),("part",3),("maker",4),("apply",5),("main",6)]
def declM:Nat→Sn→T→Mo Sn
 |0=>kindD
 |1=>recordD
 |2=>faceD
 |3=>partD
 |4=>makerD
 |5=>applyD
 |_=>mainD
def declD (sn:Sn):T→Mo Sn
 |.tup (.str z::l)=>if(T.tup (.str z::l)).sz≤99999 then(match formsD.lookup z with
  |some n=>declM n {sn with givers:=[]} (.tup (.str z::l))
  |none=>none) else none
 |_=>none
def overM (l:List T):Mo Sn:=rowsM declD {} l
inductive spOver (CL:Flt→Addr)(vs:List V)(H:Hp)(Q:VK)(E:XK):Prop where
 |mk (p:Addr) (us:List V) (l:List T) (R:Ex Sn):vs=[.ref p]→H p=some (.tup us)→Reps H us l→overM l=some R→Out CL H E R (fun _ H'=>Q .non H')→spOver CL vs H Q E
theorem pg9 {D:SD}{d:Addr}:putF "giver_faces" (V.ref d) (sfl D)=sfl {D with d9:=d}:=by first|rfl|(with_unfolding_all rfl)|kernel_rfl
theorem FacesL.re {H H':Hp}{dl dl':List Addr}{kvs:List (Key×V)}{l:List (Str×FaceR)}(h:FacesL H dl kvs l)(k:∀b xs,H b=some (.tup xs)→H' b=some (.tup xs))(k2:∀b kv,b∉dl→H b=some (.dK kv)→H' b=some (.dK kv)∧b∉dl'):FacesL H' dl' kvs l:=by
 induction h with
 |nil=>exact .nil
 |cons h1 h2 h3 n2 n3 _ ih=>exact .cons (k _ _ h1) (k2 _ _ n2 h2).1 (k2 _ _ n3 h3).1 (k2 _ _ n2 h2).2 (k2 _ _ n3 h3).2 ih
theorem SnL.fresh9 {CS:Addr}{H:Hp}{D:SD}{sn:Sn}(S:SnL CS H D sn){d:Addr}(hd:H d=none):SnL CS (upd (upd H d (.dK [])) D.s (.ins CS D.dx (sfl {D with d9:=d}))) {D with d9:=d} {sn with givers:=[]}:=by
 obtain⟨k7,h7,f7⟩:=S.h7
 obtain⟨k10,h10,f10⟩:=S.h10
 obtain⟨ns,ndl⟩:=S.new hd
 have kp:∀b o,b≠D.s→H b=some o→(upd (upd H d (.dK [])) D.s (.ins CS D.dx (sfl {D with d9:=d}))) b=some o:=fun b o nb hb=>by rw[upd_ne nb,upd_ne (ne_of_none hb hd)];exact hb
 have ne:∀{x:Addr} (j:Nat),(D.s::D.dl)[j]?=some x→j≠0→x≠D.s:=fun j hj h=>nd_ne S.nd j 0 hj rfl h
 have tp:∀b xs,H b=some (.tup xs)→(upd (upd H d (.dK [])) D.s (.ins CS D.dx (sfl {D with d9:=d}))) b=some (.tup xs):=fun b xs hb=>kp b _ (ne_of hb S.ob (by intro z;cases z)) hb
 have nd:=S.nd
 simp only[SD.dl,List.nodup_cons,List.mem_cons,List.not_mem_nil,or_false,not_or]at nd ndl
 refine⟨upd_same,?_,kp _ _ (ne 1 rfl (by decide)) S.h1,kp _ _ (ne 2 rfl (by decide)) S.h2,kp _ _ (ne 3 rfl (by decide)) S.h3,kp _ _ (ne 4 rfl (by decide)) S.h4,kp _ _ (ne 5 rfl (by decide)) S.h5,kp _ _ (ne 6 rfl (by decide)) S.h6,⟨k7,kp _ _ (ne 7 rfl (by decide)) h7,f7.re tp fun b kv nb hb=>⟨kp b _ (ne_of hb S.ob (by intro z;cases z)) hb,?_⟩⟩,kp _ _ (ne 8 rfl (by decide)) S.h8,?_,⟨k10,kp _ _ (ne 10 rfl (by decide)) h10,f10.keep tp⟩⟩
 ·simp only[SD.dl,List.nodup_cons,List.mem_cons,List.not_mem_nil,or_false,not_or,List.nodup_nil,and_true,not_false_eq_true]
  obtain⟨a0,a1,a2,a3,a4,a5,a6,a7,a8,a9,a10,_⟩:=nd
  obtain⟨b1,b2,b3,b4,b5,b6,b7,b8,b9,b10⟩:=ndl
  refine⟨⟨a0.1,a0.2.1,a0.2.2.1,a0.2.2.2.1,a0.2.2.2.2.1,a0.2.2.2.2.2.1,a0.2.2.2.2.2.2.1,a0.2.2.2.2.2.2.2.1,Ne.symm ns,a0.2.2.2.2.2.2.2.2.2⟩,⟨a1.1,a1.2.1,a1.2.2.1,a1.2.2.2.1,a1.2.2.2.2.1,a1.2.2.2.2.2.1,a1.2.2.2.2.2.2.1,Ne.symm b1,a1.2.2.2.2.2.2.2.2⟩,⟨a2.1,a2.2.1,a2.2.2.1,a2.2.2.2.1,a2.2.2.2.2.1,a2.2.2.2.2.2.1,Ne.symm b2,a2.2.2.2.2.2.2.2⟩,⟨a3.1,a3.2.1,a3.2.2.1,a3.2.2.2.1,a3.2.2.2.2.1,Ne.symm b3,a3.2.2.2.2.2.2⟩,⟨a4.1,a4.2.1,a4.2.2.1,a4.2.2.2.1,Ne.symm b4,a4.2.2.2.2.2⟩,⟨a5.1,a5.2.1,a5.2.2.1,Ne.symm b5,a5.2.2.2.2⟩,⟨a6.1,a6.2.1,Ne.symm b6,a6.2.2.2⟩,⟨a7.1,Ne.symm b7,a7.2.2⟩,⟨Ne.symm b8,a8.2⟩,b10⟩
 ·have nbd:b≠d:=ne_of_none hb hd
  simp only[SD.dl,List.mem_cons,List.not_mem_nil,or_false,not_or]at nb ⊢
  obtain⟨b1,b2,b3,b4,b5,b6,b7,b8,b9,b10⟩:=nb
  exact⟨b1,b2,b3,b4,b5,b6,b7,b8,nbd,b10⟩
 ·show(upd (upd H d (.dK [])) D.s _) d=_
  rw[upd_ne ns,upd_same];rfl
section
variable {P:Program}{w:World}{K:PySem.W.Frag}{mg:Str→Option Value}{base:Heap}{f CS fI:Addr}{CL:Flt→Addr}{fd gI:FuncData}
abbrev s_ov:Stmt:=top 71
theorem sc_ov:FnScope ["program","seen","declaration"] ["program"] (defScope s_ov):=⟨rfl,rfl,rfl,by decide+kernel,rfl,by decide+kernel,by decide+kernel⟩
set_option maxHeartbeats 2000000 in
theorem ok_ov {fn:Nat→Addr}{dd:Addr}(F:Fun K "look_over" "look_over" s_ov f fd)(Tx:TxS K CS)(MS:Mk K CS fI)(GI:FnOk P w K mg base (CXF P w) 1 fI gI ["self"] (spSeen0 CS))(bI:Binds K gI ["self"] [])(mS:mg "Seen"=some (.ref CS))
  (md:mg "DECLARATION_LOOKS"=some (.ref dd)) (DD:StrDict K w dd (formsD.map fun p=>(p.1,V.ref (fn p.2)))) (hf:∀n,n≤6→∃gd,FnOk P w K mg base (CXF P w) 9 (fn n) gd pDe (spDecl CS CL (declM n))∧Binds K gd pDe []∧PySem.W.keepIn K (.ref (fn n))=true):
  FnOk P w K mg base (CXF P w) 10 f fd ["program"] (spOver CL):=by
 refine F.okX sc_ov (fun cdv A' outer s H vs Q E hr h=>?_)
 obtain⟨p,us,l,R,rfl,hp,r,hR,q⟩:=h
 refine⟨_,pss_cons (pset 1 sc_ov.nd (pe_make0 MS GI (hr.mono (by decide)) rfl mS bI .nil passes_up))
  (pss_one (ps_for PassesOwn.leaving rfl (piT K (pv 0)) (pg_name (i:=2) sc_ov.nd rfl (Or.inl rfl))
   (pss_cons (sfldK K (pv 1) pe_dnewK rfl)
   (pss_one (ps_expr (pe_callE (E:=E) (fun f sp=>∃n,n≤6∧f=fn n∧sp=spDecl CS CL (declM n)) (fun f sp ⟨n,hn,e1,e2⟩=>by
     subst e1 e2
     obtain⟨gd,k1,k2,k3⟩:=hf n hn
     exact⟨9,gd,pDe,k1,hr.mono (by decide),k3,k2⟩) (pe_ix ix_dict (pe_glob (v:=.ref dd) rfl md rfl) (pe_ix (ixT K) (pv 2) pe_int) (fun _ _=>rfl)) passes_up (pa_cons (pv 1) (pa_cons (pv 2) pa_nil)))))))),?_⟩
 refine fun x dx hx hdx ndx=>?_
 have h0:(upd (upd H dx (.own x)) x (.ins CS dx [])) x=some (.ins CS dx []):=upd_same
 have s0:Same H (upd (upd H dx (.own x)) x (.ins CS dx [])):=fun b o hb=>by rw[upd_ne (ne_of_none hb hx),upd_ne (ne_of_none hb hdx)];exact hb
 have n0:∀d,(upd (upd H dx (.own x)) x (.ins CS dx [])) d=none→H d=none:=fun d h=>same_free s0 h
 refine⟨x,dx,rfl,h0,fun D H1 eD S1 nw1 kp1=>⟨rfl,?_⟩⟩
 have s1:Same H H1:=fun b o hb=>kp1 b o (ne_of_none hb hx) (s0 b o hb)
 have ndl:∀d∈D.dl,H d=none:=fun d hd=>n0 d (nw1 d hd)
 have nds:H D.s=none:=by rw[eD];exact hx
 rw[←eD]
 refine⟨_,rfl,p,rfl,⟨_,SqT.of (s1 _ _ hp)⟩,?_⟩
 refine for_tup (xs:=us) (fun i σ H'=>∃(D':SD) (sn:Sn) (o:Option V),D'.s=D.s∧σ=[some (.ref p),some (.ref D.s),o]∧SnL CS H' D' sn∧Same H H'∧(∀d∈D'.dl,H d=none)∧rowsM declD sn (l.drop i)=some R)
  ⟨D,{},_,rfl,rfl,S1,s1,ndl,hR⟩ ?_ ?_ ?_
 ·rintro i σ H' _ ⟨_,_,_,_,_,_,s2,_⟩
  exact SqT.of (s2 _ _ hp)
 ·rintro i y σ H2 hy ⟨D2,sn,o,e2,rfl,S2,s2,nd2,hrow⟩
  obtain⟨t,ht,rt⟩:=r.at i hy
  obtain⟨hi,et⟩:=List.getElem?_eq_some_iff.mp ht
  rw[List.drop_eq_getElem_cons hi,et]at hrow
  obtain⟨R3,hk1,hk2⟩:=bO_some (show bO (declD sn t) (fun sn'=>rowsM declD sn' (l.drop (i+1)))=some R from hrow)
  unfold declD at hk1
  split at hk1
  rotate_left
  ·cases hk1
  rename_i z rest
  split at hk1
  rotate_left
  ·cases hk1
  rename_i hsz
  split at hk1
  rotate_left
  ·cases hk1
  rename_i n en
  refine fun d hd=>?_
  have ob2:(upd H2 d (.dK [])) D.s=some (.ins CS D2.dx (sfl D2)):=by rw[←e2,upd_ne (ne_of_none S2.ob hd)];exact S2.ob
  refine⟨_,rfl,D.s,CS,D2.dx,_,rfl,ob2,Tx.cs,Tx.n9,(by show 10<1000;decide),?_⟩
  rw[pg9,←e2]
  have S3:=S2.fresh9 hd
  have s3:Same H (upd (upd H2 d (.dK [])) D2.s (.ins CS D2.dx (sfl {D2 with d9:=d}))):=fun b o hb=>by
   rw[upd_ne (ne_of_none hb (by rw[e2];exact nds)),upd_ne (ne_of_none (s2 _ _ hb) hd)];exact s2 _ _ hb
  have nd3:∀b∈({D2 with d9:=d}:SD).dl,H b=none:=fun b hb=>by
   by_cases e:b=d
   ·rw[e];exact same_free s2 hd
   ·refine nd2 b ?_
    simp only[SD.dl,List.mem_cons,List.not_mem_nil,or_false]at hb ⊢
    rcases hb with h|h|h|h|h|h|h|h|h|h
    ·exact .inl h
    ·exact .inr (.inl h)
    ·exact .inr (.inr (.inl h))
    ·exact .inr (.inr (.inr (.inl h)))
    ·exact .inr (.inr (.inr (.inr (.inl h))))
    ·exact .inr (.inr (.inr (.inr (.inr (.inl h)))))
    ·exact .inr (.inr (.inr (.inr (.inr (.inr (.inl h))))))
    ·exact .inr (.inr (.inr (.inr (.inr (.inr (.inr (.inl h)))))))
    ·exact absurd h e
    ·exact .inr (.inr (.inr (.inr (.inr (.inr (.inr (.inr (.inr h))))))))
  revert S3 s3
  generalize upd (upd H2 d (.dK [])) D2.s (.ins CS D2.dx (sfl {D2 with d9:=d}))=H3
  intro S3 s3
  obtain⟨b,bs,rfl,hb,rb⟩:=tup_at (rt.same s3)
  cases rb with|@cons w0 _ bs _ rz rb=>
  cases rz with
  |str _ hz=>
  have hn6:n≤6:=by
   have:∀p∈formsD,p.2≤6:=by decide+kernel
   exact this (z,n) (mem_of_lookup' en)
  have rt3:Rep H3 (.ref b) (.tup (.str z::rest)):=rt.same s3
  refine⟨_,rfl,b,_,0, .str z,rfl,rfl,SqT.of hb,atI_nat (j:=0) rfl,z,dd,_,V.ref (fn n),rfl,rfl,DD,?_,fn n,spDecl CS CL (declM n),rfl,⟨n,hn6,rfl,rfl⟩,_,rfl,_,rfl,{D2 with d9:=d},{sn with givers:=[]}, .ref b,_,R3,rfl,S3,rt3,hsz,hk1,?_⟩
  ·rw[forms_lookup,en];rfl
  have kpH:∀H',KpS {D2 with d9:=d} H3 H'→Same H H':=fun H' k b o hb=>k b o (ne_of_none hb (by rw[show({D2 with d9:=d}:SD).s=D2.s from rfl,e2];exact nds)) (fun h=>by rw[nd3 b h]at hb;cases hb) (s3 _ _ hb)
  cases R3 with
  |error e=>
   subst hk2
   exact fun ea H8 k8=>q ea H8 (kpH H8 k8)
  |ok sn4=>
   exact fun H8 k8 S8=>⟨{D2 with d9:=d},sn4,_,rfl,rfl,S8,kpH H8 k8,nd3,hk2⟩
 ·rintro σ H2 ⟨D2,sn,o,e2,rfl,S2,s2,nd2,hrow⟩
  rw[r.length,List.drop_length]at hrow
  cases hrow
  exact q H2 s2
end
inductive Pw {α β:Type}(R:α→β→Prop):List α→List β→Prop
 |nil:Pw R [] []
 |cons {a:α} {b:β} {l:List α} {m:List β} (h:R a b) (q:Pw R l m):Pw R (a::l) (b::m)
inductive OR {α β:Type}(R:α→β→Prop):Option α→Option β→Prop
 |none:OR R none none
 |some {a:α} {b:β} (h:R a b):OR R (some a) (some b)
inductive ER {α β:Type}(R:α→β→Prop):Ex α→Ex β→Prop
 |er (f:Flt):ER R (.error f) (.error f)
 |ok {a:α} {b:β} (h:R a b):ER R (.ok a) (.ok b)
abbrev MR {α β:Type}(R:α→β→Prop):Mo α→Mo β→Prop:=OR (ER R)
section
variable {α β γ δ:Type}{R:α→β→Prop}{S:γ→δ→Prop}
theorem Pw.length {l:List α}{m:List β}(h:Pw R l m):l.length=m.length:=by
 induction h with
 |nil=>rfl
 |cons _ _ ih=>rw[List.length_cons,List.length_cons,ih]
theorem Pw.app {l l2:List α}{m m2:List β}(h:Pw R l m)(h2:Pw R l2 m2):Pw R (l++l2) (m++m2):=by
 induction h with
 |nil=>exact h2
 |cons h _ ih=>exact .cons h ih
theorem Pw.map {l:List α}{m:List β}{f:α→γ}{g:β→δ}(h:Pw R l m)(k:∀a b,R a b→S (f a) (g b)):Pw S (l.map f) (m.map g):=by
 induction h with
 |nil=>exact .nil
 |cons h _ ih=>exact .cons (k _ _ h) ih
theorem Pw.take {l:List α}{m:List β}(h:Pw R l m):∀k,Pw R (l.take k) (m.take k):=by
 induction h with
 |nil=>intro k;simp only[List.take_nil];exact .nil
 |cons h _ ih=>intro k;cases k with
  |zero=>exact .nil
  |succ k=>exact .cons h (ih k)
theorem Pw.dropLast {l:List α}{m:List β}(h:Pw R l m):Pw R l.dropLast m.dropLast:=by
 rw[List.dropLast_eq_take,List.dropLast_eq_take,h.length];exact h.take _
theorem Pw.last {l:List α}{m:List β}(h:Pw R l m):OR R l.getLast? m.getLast?:=by
 induction h with
 |nil=>exact .none
 |@cons a b l m h q ih=>
  cases q with
  |nil=>exact .some h
  |cons h2 q2=>
   rw[List.getLast?_cons_cons,List.getLast?_cons_cons];exact ih
theorem Pw.mapO {l:List α}{m:List β}{f:α→Option γ}{g:β→Option δ}(h:Pw R l m)(k:∀a b,R a b→OR S (f a) (g b)):OR (Pw S) (mapO f l) (mapO g m):=by
 induction h with
 |nil=>exact .some .nil
 |@cons a b l m h q ih=>
  have h1:=k _ _ h
  unfold Fw.mapO
  revert h1 ih
  generalize f a=x,g b=y,Fw.mapO f l=u,Fw.mapO g m=v
  intro ih h1
  cases h1 with
  |none=>exact .none
  |some h1=>
   cases ih with
   |none=>exact .none
   |some h2=>exact .some (.cons h1 h2)
theorem Pw.all {l:List α}{m:List β}{f:α→Bool}{g:β→Bool}(h:Pw R l m)(k:∀a b,R a b→f a=g b):l.all f=m.all g:=by
 induction h with
 |nil=>rfl
 |cons h _ ih=>rw[List.all_cons,List.all_cons,k _ _ h,ih]
theorem ER.bind {x:Ex α}{y:Ex β}{f:α→Ex γ}{g:β→Ex δ}(h:ER R x y)(k:∀a b,R a b→ER S (f a) (g b)):ER S (x.bind f) (y.bind g):=by
 cases h with
 |er f=>exact .er f
 |ok h=>exact k _ _ h
theorem MR.bO {x:Mo α}{y:Mo β}{f:α→Mo γ}{g:β→Mo δ}(h:MR R x y)(k:∀a b,R a b→MR S (f a) (g b)):MR S (bO x f) (bO y g):=by
 cases h with
 |none=>exact .none
 |some h=>
  cases h with
  |er f=>exact .some (.er f)
  |ok h=>exact k _ _ h
theorem or_eq {x y:Option α}(h:OR Eq x y):x=y:=by
 cases h with
 |none=>rfl
 |some h=>rw[h]
theorem er_eq {x y:Ex α}(h:ER Eq x y):x=y:=by
 cases h with
 |er=>rfl
 |ok h=>rw[h]
theorem er_rfl (x:Ex α):ER Eq x x:=by
 cases x with
 |error f=>exact .er f
 |ok a=>exact .ok rfl
theorem OR.look {x:Option α}{y:Option β}(f:Flt)(h:OR R x y):ER R (look f x) (look f y):=by
 cases h with
 |none=>exact .er f
 |some h=>exact .ok h
end
inductive TR (Rl:Str→Str→Prop):T→T→Prop
 |int (i:Int):TR Rl (.int i) (.int i)
 |str {a b:Str} (h:Rl a b):TR Rl (.str a) (.str b)
 |tup {l m:List T} (h:Pw (TR Rl) l m):TR Rl (.tup l) (.tup m)
abbrev KNR (Rl:Str→Str→Prop):List (Str×Nat)→List (Str×Nat)→Prop:=Pw fun p q=>Rl p.1 q.1∧p.2=q.2
abbrev KSR (Rl:Str→Str→Prop):List (Str×Str)→List (Str×Str)→Prop:=Pw fun p q=>Rl p.1 q.1∧Rl p.2 q.2
structure FR (Rl:Str→Str→Prop)(a b:FaceR):Prop where
 n:a.n=b.n
 h:KNR Rl a.hides b.hides
 v:Pw Rl a.vals b.vals
structure SnR (Rl:Str→Str→Prop)(a b:Sn):Prop where
 r1:KNR Rl a.sorts b.sorts
 r2:KNR Rl a.ksize b.ksize
 r3:KSR Rl a.tkind b.tkind
 r4:KNR Rl a.tsize b.tsize
 r5:KNR Rl a.rsize b.rsize
 r6:Pw Rl a.fields b.fields
 r7:Pw (fun(p q:Str×FaceR)=>Rl p.1 q.1∧FR Rl p.2 q.2) a.faces b.faces
 r8:KSR Rl a.parts b.parts
 r9:KSR Rl a.givers b.givers
 r10:Pw (fun(p q:Str×(Nat×Str))=>Rl p.1 q.1∧(p.2.1=q.2.1∧Rl p.2.2 q.2.2)) a.makers b.makers
structure Rn (Rl:Str→Str→Prop):Prop where
 eq:∀{a b a' b':Str},Rl a b→Rl a' b'→(a=a'↔b=b')
 path:∀{a b:Str},Rl a b→pathB a=pathB b
 pl:∀{a b:Str},Rl a b→pathB a=true→Rl (pathL a).1 (pathL b).1∧Rl (pathL a).2 (pathL b).2
 great:∀{a b:Str},Rl a b→greatB a=greatB b
 opn:∀{a b:Str},Rl a b→openB a=openB b
 kept:∀z∈(["num","->","hide","fun","let","ring","case","make","pick","kind","record","face","part","maker","apply","main"]:List Str),Rl z z
section
variable {Rl:Str→Str→Prop}{sn sn':Sn}{a b:Str}{t u:T}
theorem mem_rel (N:Rn Rl){l m:List Str}(h:Rl a b)(q:Pw Rl l m):decide (a∈l)=decide (b∈m):=by
 induction q with
 |nil=>rfl
 |cons h2 _ ih=>
  have e:=N.eq h h2
  simp only[List.mem_cons,Bool.decide_or,ih,e]
theorem kp_eq (N:Rn Rl)(h:Rl a b){z:Str}(k:Rl z z):(a=z↔b=z):=N.eq h k
theorem lookup_rel (N:Rn Rl){γ δ:Type}{S:γ→δ→Prop}{l:List (Str×γ)}{m:List (Str×δ)}(h:Rl a b)(q:Pw (fun p q=>Rl p.1 q.1∧S p.2 q.2) l m):OR S (l.lookup a) (m.lookup b):=by
 induction q with
 |nil=>exact .none
 |@cons p q l m h2 _ ih=>
  obtain⟨x,v⟩:=p
  obtain⟨y,w⟩:=q
  rw[List.lookup_cons,List.lookup_cons]
  have e:(a==x)=(b==y):=by
   have:=N.eq h h2.1
   rw[Bool.eq_iff_iff,beq_iff_eq,beq_iff_eq];exact this
  rw[e]
  cases b==y with
  |true=>exact .some h2.2
  |false=>exact ih
theorem KNR.ks {l m:List (Str×Nat)}(h:KNR Rl l m):Pw Rl (ks l) (ks m):=Pw.map h fun _ _ q=>q.1
theorem KSR.ks {l m:List (Str×Str)}(h:KSR Rl l m):Pw Rl (ks l) (ks m):=Pw.map h fun _ _ q=>q.1
theorem face_rel (N:Rn Rl)(s:SnR Rl sn sn')(h:Rl a b):ER Rl (faceOf sn a) (faceOf sn' b):=by
 unfold faceOf
 have h1:=lookup_rel N h s.r9
 revert h1
 generalize sn.givers.lookup a=x,sn'.givers.lookup b=y
 intro h1
 cases h1 with
 |none=>exact(lookup_rel N h s.r8).look .nn
 |some h1=>exact .ok h1
theorem great_rel (N:Rn Rl)(s:SnR Rl sn sn')(h:Rl a b):greatM sn a=greatM sn' b:=by
 unfold greatM
 have e1:decide (a∈sn.faces.map (·.1))=decide (b∈sn'.faces.map (·.1)):=mem_rel N h (Pw.map s.r7 fun _ _ q=>q.1)
 have e2:decide (a∈sn.parts.map (·.1))=decide (b∈sn'.parts.map (·.1)):=mem_rel N h (KSR.ks s.r8)
 have e3:decide (a∈sn.makers.map (·.1))=decide (b∈sn'.makers.map (·.1)):=mem_rel N h (Pw.map s.r10 fun _ _ q=>q.1)
 have e4:decide (a∈sn.givers.map (·.1))=decide (b∈sn'.givers.map (·.1)):=mem_rel N h (KSR.ks s.r9)
 rw[e1,e2,e3,e4]
theorem hide_rel (N:Rn Rl)(s:SnR Rl sn sn')(h:Rl a b)(p:pathB a=true):hideM sn a=hideM sn' b:=by
 obtain⟨p1,p2⟩:=N.pl h p
 refine er_eq ((face_rel N s p1).bind fun f g hf=>?_)
 have h1:=lookup_rel N hf s.r7
 revert h1
 generalize sn.faces.lookup f=x,sn'.faces.lookup g=y
 intro h1
 cases h1 with
 |none=>exact .er _
 |some h1=>exact(lookup_rel N p2 h1.h).look .nn
theorem val_rel (N:Rn Rl)(s:SnR Rl sn sn')(h:Rl a b)(p:pathB a=true):valM sn a=valM sn' b:=by
 obtain⟨p1,p2⟩:=N.pl h p
 refine er_eq ((face_rel N s p1).bind fun f g hf=>?_)
 have h1:=lookup_rel N hf s.r7
 revert h1
 generalize sn.faces.lookup f=x,sn'.faces.lookup g=y
 intro h1
 cases h1 with
 |none=>exact .er _
 |some h1=>
  show ER Eq (thereM _) (thereM _)
  rw[mem_rel N p2 h1.v]
  exact er_rfl _
theorem taken_rel (N:Rn Rl)(s:SnR Rl sn sn'){hl hl':List (Str×Nat)}(hh:KNR Rl hl hl')(h:Rl a b):takenM sn hl a=takenM sn' hl' b:=by
 unfold takenM
 rw[←N.path h]
 cases p:pathB a with
 |true=>exact hide_rel N s h p
 |false=>
  rw[if_neg Bool.false_ne_true,if_neg Bool.false_ne_true,or_eq (lookup_rel N h hh),or_eq (lookup_rel N h s.r1)]
theorem kw_rel (N:Rn Rl)(s:SnR Rl sn sn'){hl hl':List (Str×Nat)}(hh:KNR Rl hl hl'){vs vs':Option (List Str)}(hv:OR (Pw Rl) vs vs')(h:Rl a b)(n:Nat):kwM sn hl vs a n=kwM sn' hl' vs' b n:=by
 unfold kwM
 have e1:=kp_eq N h (N.kept "num" (by decide+kernel))
 have e2:=kp_eq N h (N.kept "->" (by decide+kernel))
 rw[decide_eq_decide.mpr e1,decide_eq_decide.mpr e2,N.opn h,taken_rel N s hh h]
 congr 2
 cases hv with
 |none=>rfl
 |some hv=>show thereM _=thereM _;rw[mem_rel N h hv]
theorem head_rel (h:TR Rl t u):Pw (TR Rl) (headT t) (headT u):=by
 cases h with
 |int i=>exact .cons (.int i) .nil
 |str h=>exact .cons (.str h) .nil
 |tup h=>exact h
theorem runK_rel (N:Rn Rl)(s:SnR Rl sn sn'){hl hl':List (Str×Nat)}(hh:KNR Rl hl hl'){vs vs':Option (List Str)}(hv:OR (Pw Rl) vs vs'):∀(n:Nat) {l m:List T},Pw (TR Rl) l m→runK sn hl vs n l=runK sn' hl' vs' n m
 |0,_,_,_=>rfl
 |n+1,_,_, .nil=>rfl
 |n+1,_,_, .cons (a:=t) (b:=u) h q=>by
  unfold runK
  have h1:=head_rel h
  revert h1
  generalize headT t=x,headT u=y
  intro h1
  cases h1 with
  |nil=>rfl
  |cons h2 q2=>
   cases h2 with
   |int i=>rfl
   |tup _=>rfl
   |str h2=>
    dsimp only
    rw[kw_rel N s hh hv h2,q2.length,runK_rel N s hh hv n (q2.app q)]
mutual
theorem sz_rel:∀(t:T) {u:T},TR Rl t u→t.sz=u.sz
 |.int i,_,h=>by cases h;rfl
 |.str z,_,h=>by cases h;rfl
 |.tup l,_,h=>by cases h with|tup h=>simp only[T.sz];rw[szs_rel l h]
theorem szs_rel:∀(l:List T) {m:List T},Pw (TR Rl) l m→szs l=szs m
 |[],_,h=>by cases h;rfl
 |t::l,_,h=>by cases h with|cons h q=>simp only[szs];rw[sz_rel t h,szs_rel l q]
end
mutual
theorem wf_rel:∀(t:T) {u:T},TR Rl t u→wfB t=wfB u
 |.int i,_,h=>by cases h;rfl
 |.str z,_,h=>by cases h;rfl
 |.tup l,_,h=>by
  cases h with
  |tup h=>
   simp only[wfB]
   rw[wfs_rel l h]
   congr 1
   cases h with
   |nil=>rfl
   |cons h q=>
    cases h with
    |int i=>rfl
    |tup _=>rfl
    |str h=>cases q with
     |nil=>rfl
     |cons h q=>rfl
theorem wfs_rel:∀(l:List T) {m:List T},Pw (TR Rl) l m→wfsB l=wfsB m
 |[],_,h=>by cases h;rfl
 |t::l,_,h=>by cases h with|cons h q=>simp only[wfsB];rw[wf_rel t h,wfs_rel l q]
end
theorem smN_rel {l m:List (Str×Nat)}(h:KNR Rl l m):smN l=smN m:=h.all fun _ _ q=>by rw[q.2]
theorem or_some {α β:Type}{R:α→β→Prop}{x:Option α}{y:Option β}(h:OR R x y):x.isSome=y.isSome:=by
 cases h<;>rfl
theorem snOk_rel (N:Rn Rl)(s:SnR Rl sn sn'):snOk sn=snOk sn':=by
 unfold snOk
 rw[smN_rel s.r5,smN_rel s.r4,smN_rel s.r2,smN_rel s.r1,(Pw.all (f:=fun p:Str×FaceR=>smN p.2.hides) s.r7 fun _ _ q=>smN_rel q.2.h),Pw.all (s.r9.app s.r8) fun _ _ q=>or_some (lookup_rel N q.2 s.r7)]
theorem kM_rel (N:Rn Rl)(s:SnR Rl sn sn'){hl hl':List (Str×Nat)}(hh:KNR Rl hl hl'){vs vs':Option (List Str)}(hv:OR (Pw Rl) vs vs')(h:TR Rl t u):kM sn hl vs t=kM sn' hl' vs' u:=by
 unfold kM
 rw[snOk_rel N s,smN_rel hh,wf_rel t h,sz_rel t h,runK_rel N s hh hv _ (.cons h .nil)]
theorem lenOk_rel (s:SnR Rl sn sn'):lenOk sn=lenOk sn':=by
 unfold lenOk
 rw[s.r1.length,s.r2.length,s.r3.length,s.r4.length,s.r5.length,s.r6.length,s.r7.length,s.r8.length,s.r9.length,s.r10.length]
theorem rowM_rel (N:Rn Rl):∀{l m:List Str} {k n:List Str},Pw Rl k n→Pw Rl l m→rowM k l=rowM n m:=by
 intro l m k n hk h
 induction h generalizing k n with
 |nil=>rfl
 |cons h q ih=>
  unfold rowM
  rw[mem_rel N h hk,ih (hk.app (.cons h .nil))]
theorem strT_rel (h:TR Rl t u):OR Rl (strT t) (strT u):=by
 cases h with
 |int i=>exact .none
 |tup _=>exact .none
 |str h=>exact .some h
end
inductive StR (Rl:Str→Str→Prop):Stp→Stp→Prop
 |mk (k:Nat) {t u:T} {ns ms:List Str} (h:TR Rl t u) (n:Pw Rl ns ms):StR Rl ⟨k,t,ns⟩ ⟨k,u,ms⟩
abbrev RsR (Rl:Str→Str→Prop):Rs→Rs→Prop:=OR (ER (Pw (StR Rl)))
theorem pw_same {α β γ:Type}{S:β→γ→Prop}{f:α→β}{g:α→γ}(h:∀x,S (f x) (g x)):∀xs:List α,Pw S (xs.map f) (xs.map g)
 |[]=>.nil
 |x::r=>.cons (h x) (pw_same h r)
section
variable {Rl:Str→Str→Prop}{sn sn':Sn}{a b:Str}{t u:T}{ns ms:List Str}{l m:List T}
theorem okS_rel {x y:Ex Unit}{ss rr:List Stp}(e:x=y)(h:Pw (StR Rl) ss rr):RsR Rl (okS x ss) (okS y rr):=by
 subst e
 cases x with
 |error f=>exact .some (.er f)
 |ok u=>exact .some (.ok h)
theorem ph_rel (hn:Pw Rl ns ms)(h:Pw (TR Rl) l m):Pw (StR Rl) (l.map (ph ns)) (m.map (ph ms)):=h.map fun _ _ q=>.mk 0 q hn
theorem heads_rel (h:Pw (TR Rl) l m):Pw (TR Rl) (heads l) (heads m):=by
 unfold heads
 rw[h.length]
 exact pw_same (fun k=>.tup (h.take (k+1))) _
theorem fn_rel (h:TR Rl t u):OR Rl (fnNm t) (fnNm u):=by
 cases h with
 |int i=>exact .none
 |str _=>exact .none
 |tup h=>
  cases h with
  |nil=>exact .none
  |cons h q=>
   cases h with
   |int i=>exact .none
   |tup _=>exact .none
   |str h=>exact .some h
theorem arm_rel (h:TR Rl t u):OR Rl (armTg t) (armTg u):=by
 cases h with
 |int i=>exact .none
 |str _=>exact .none
 |tup h=>
  cases h with
  |nil=>exact .none
  |cons h q=>
   cases h with
   |int i=>exact .none
   |str _=>exact .none
   |tup h=>
    cases h with
    |nil=>exact .none
    |cons h q=>
     cases h with
     |int i=>exact .none
     |tup _=>exact .none
     |str h=>exact .some h
theorem tag_rel (N:Rn Rl)(s:SnR Rl sn sn')(h:Rl a b)(n:Nat):tagM sn a n=tagM sn' b n:=by
 unfold tagM
 rw[or_eq (lookup_rel N h s.r4)]
theorem word_rel (N:Rn Rl)(s:SnR Rl sn sn')(hn:Pw Rl ns ms)(h:Rl a b):wordM sn ns a=wordM sn' ms b:=by
 unfold wordM
 rw[←N.path h,mem_rel N h hn]
 cases p:pathB a with
 |true=>exact val_rel N s h p
 |false=>rfl
theorem form_rel (N:Rn Rl)(s:SnR Rl sn sn')(hn:Pw Rl ns ms)(h:Pw (TR Rl) l m):∀n,RsR Rl (formM sn ns n l) (formM sn' ms n m)
 |0=>by
  cases h with
  |nil=>exact .none
  |cons h q=>
   cases h with
   |int i=>exact .none
   |tup _=>exact .none
   |str h=>exact .some (.ok (ph_rel (hn.app (.cons h .nil)) q))
 |1=>by
  cases h with
  |nil=>exact .none
  |cons h q=>
   cases h with
   |int i=>exact .none
   |tup _=>exact .none
   |str h=>
    cases q with
    |nil=>exact .none
    |cons h1 q=>exact .some (.ok (.cons (.mk 0 h1 hn) (ph_rel (hn.app (.cons h .nil)) q)))
 |2=>by
  cases h with
  |nil=>exact .none
  |cons h q=>
   cases h with
   |int i=>exact .none
   |str _=>exact .none
   |@tup fs gs h=>
    have h1:=Pw.mapO h fun _ _=>fn_rel
    show RsR Rl (match mapO fnNm fs with|some gs=>_|none=>_) (match mapO fnNm gs with|some gs=>_|none=>_)
    revert h1
    generalize mapO fnNm fs=x,mapO fnNm gs=y
    intro h1
    cases h1 with
    |none=>exact .none
    |some h1=>exact .some (.ok (((heads_rel h).map fun _ _ k=>.mk 1 k (hn.app h1)).app (ph_rel (hn.app h1) q)))
 |3=>by
  cases h with
  |nil=>exact .none
  |cons h q=>exact .some (.ok (.cons (.mk 0 h hn) (((heads_rel q).map fun _ _ k=>.mk 2 k hn).app (.cons (.mk 3 (.tup q) hn) .nil))))
 |4=>by
  cases h with
  |nil=>exact .none
  |cons h q=>
   cases h with
   |int i=>exact .none
   |tup _=>exact .none
   |str h=>exact okS_rel (by rw[or_eq (lookup_rel N h s.r5),q.length]) (ph_rel hn q)
 |5=>by
  cases h with
  |nil=>exact .none
  |cons h q=>
   cases h with
   |int i=>exact .none
   |tup _=>exact .none
   |str h=>exact okS_rel (by rw[mem_rel N h s.r6]) (ph_rel hn q)
 |n+6=>by
  have e:∀(sn:Sn) (ns:List Str) (l:List T),formM sn ns (n+6) l=none:=fun sn ns l=>by
   unfold formM
   split<;>first|rfl|(rename_i h _;omega)|(rename_i h;omega)
  rw[e,e];exact .none
theorem formsP_rel (N:Rn Rl)(h:Rl a b):formsP.lookup a=formsP.lookup b:=or_eq (lookup_rel N h (by
 unfold formsP
 exact .cons ⟨N.kept _ (by decide+kernel),rfl⟩ (.cons ⟨N.kept _ (by decide+kernel),rfl⟩ (.cons ⟨N.kept _ (by decide+kernel),rfl⟩ (.cons ⟨N.kept _ (by decide+kernel),rfl⟩ (.cons ⟨N.kept _ (by decide+kernel),rfl⟩ (.cons ⟨N.kept _ (by decide+kernel),rfl⟩ .nil)))))))
theorem stepP_rel (N:Rn Rl)(s:SnR Rl sn sn')(hn:Pw Rl ns ms)(h:TR Rl t u):RsR Rl (stepP sn ns t) (stepP sn' ms u):=by
 cases h with
 |int i=>exact .some (.ok .nil)
 |@str a b h=>
  show RsR Rl (if greatB a=true then okS (tagM sn a 0) [] else okS (wordM sn ns a) []) (if greatB b=true then okS (tagM sn' b 0) [] else okS (wordM sn' ms b) [])
  rw[N.great h]
  split
  ·exact okS_rel (tag_rel N s h 0) .nil
  ·exact okS_rel (word_rel N s hn h) .nil
 |tup h=>
  cases h with
  |nil=>exact .none
  |@cons x y l m h q=>
   cases h with
   |int i=>exact .none
   |tup _=>exact .none
   |@str a b h=>
    show RsR Rl (if greatB a=true then okS (tagM sn a l.length) (l.map (ph ns)) else match formsP.lookup a with
     |some n=>formM sn ns n l
     |none=>some (.ok (l.map (ph ns)))) (if greatB b=true then okS (tagM sn' b m.length) (m.map (ph ms)) else match formsP.lookup b with
     |some n=>formM sn' ms n m
     |none=>some (.ok (m.map (ph ms))))
    rw[N.great h,formsP_rel N h,q.length]
    split
    ·exact okS_rel (tag_rel N s h _) (ph_rel hn q)
    ·cases formsP.lookup b with
     |none=>exact .some (.ok (ph_rel hn q))
     |some n=>exact form_rel N s hn q n
theorem stepF_rel (N:Rn Rl)(hn:Pw Rl ns ms)(h:Pw (TR Rl) l m):RsR Rl (stepF ns l) (stepF ms m):=by
 have h1:=h.last
 have h2:=Pw.mapO h.dropLast fun _ _=>fn_rel
 unfold stepF
 revert h1 h2
 generalize l.getLast?=x,m.getLast?=y,mapO fnNm l.dropLast=x2,mapO fnNm m.dropLast=y2
 intro h1 h2
 cases h1 with
 |none=>exact .none
 |some h1=>
  cases h1 with
  |int i=>exact .none
  |str _=>exact .none
  |tup h1=>
   cases h1 with
   |nil=>exact .none
   |cons h3 q=>
    cases h3 with
    |int i=>exact .none
    |tup _=>exact .none
    |str h3=>
     cases q with
     |nil=>exact .none
     |cons h4 q=>
      cases h4 with
      |int i=>exact .none
      |tup _=>exact .none
      |str h4=>
       cases h2 with
       |none=>exact .none
       |some h2=>exact okS_rel (by rw[mem_rel N h3 h2]) (ph_rel (hn.app (.cons h4 .nil)) q)
theorem headD_rel {l m:List Str}(h:Rl a b)(q:Pw Rl l m):Rl (l.headD a) (m.headD b):=by
 cases q with
 |nil=>exact h
 |cons h _=>exact h
theorem stepA1_rel (N:Rn Rl)(s:SnR Rl sn sn')(hn:Pw Rl ns ms)(h:Rl a b){gs hs xs ys:List Str}(hg:Pw Rl gs hs)(hl:Pw (TR Rl) l m)(hx:Pw Rl xs ys){r q:List T}(hr:Pw (TR Rl) r q):RsR Rl (stepA1 sn ns a gs l xs r) (stepA1 sn' ms b hs m ys q):=by
 unfold stepA1
 have h1:=lookup_rel N h s.r3
 revert h1
 generalize sn.tkind.lookup a=x,sn'.tkind.lookup b=y
 intro h1
 cases h1 with
 |none=>exact .some (.er _)
 |@some kd kd' h1=>
  show RsR Rl (stepA2 sn ns a gs l xs r kd) (stepA2 sn' ms b hs m ys q kd')
  unfold stepA2
  have h2:=lookup_rel N (headD_rel h hg) s.r3
  rw[or_eq (lookup_rel N h s.r4)]
  revert h2
  generalize sn.tkind.lookup (gs.headD a)=x,sn'.tkind.lookup (hs.headD b)=y
  intro h2
  cases h2 with
  |none=>exact .none
  |@some k0 k0' h2=>
   cases sn'.tsize.lookup b with
   |none=>exact .none
   |some mm=>
    show RsR Rl (if kd=k0 then _ else _) (if kd'=k0' then _ else _)
    have e:=N.eq h1 h2
    by_cases c:kd=k0
    ·rw[if_pos c,if_pos (e.mp c)]
     exact okS_rel (by rw[hl.length,rowM_rel N .nil hx]) (ph_rel (hn.app hx) hr)
    ·rw[if_neg c,if_neg (fun h=>c (e.mpr h))]
     exact .some (.er _)
theorem stepA_rel (N:Rn Rl)(s:SnR Rl sn sn')(hn:Pw Rl ns ms)(h:Pw (TR Rl) l m):RsR Rl (stepA sn ns l) (stepA sn' ms m):=by
 have h1:=h.last
 have h2:=Pw.mapO h.dropLast fun _ _=>arm_rel
 unfold stepA
 revert h1 h2
 generalize l.getLast?=x,m.getLast?=y,mapO armTg l.dropLast=x2,mapO armTg m.dropLast=y2
 intro h1 h2
 cases h1 with
 |none=>exact .none
 |some h1=>
  cases h1 with
  |int i=>exact .none
  |str _=>exact .none
  |tup h1=>
   cases h1 with
   |nil=>exact .none
   |cons h3 q=>
    cases h3 with
    |int i=>exact .none
    |str _=>exact .none
    |tup h3=>
     cases h3 with
     |nil=>exact .none
     |@cons _ _ l1 m1 h4 q4=>
      cases h4 with
      |int i=>exact .none
      |tup _=>exact .none
      |@str g g' h4=>
       cases h2 with
       |none=>exact .none
       |@some gs hs h2=>
        have h5:=Pw.mapO q4 fun _ _=>strT_rel
        show RsR Rl (match mapO strT l1 with|some xs=>_|none=>_) (match mapO strT m1 with|some xs=>_|none=>_)
        revert h5
        generalize mapO strT l1=x,mapO strT m1=y
        intro h5
        cases h5 with
        |none=>exact .none
        |some h5=>
         dsimp only
         rw[mem_rel N h4 h2]
         cases onceM (decide (g'∈hs)) with
         |error f=>exact .some (.er f)
         |ok u=>exact stepA1_rel N s hn h4 h2 q4 h5 q
theorem stepL_rel (N:Rn Rl)(s:SnR Rl sn sn')(h:Pw (TR Rl) l m):RsR Rl (stepL sn l) (stepL sn' m):=by
 have el:=h.length
 unfold stepL
 cases h with
 |nil=>exact .none
 |@cons x y l m h q=>
  dsimp only
  have h1:=arm_rel h
  revert h1
  generalize armTg x=x1,armTg y=y1
  intro h1
  cases h1 with
  |none=>exact .none
  |@some g g' h1=>
   dsimp only
   have h2:=lookup_rel N h1 s.r3
   revert h2
   generalize sn.tkind.lookup g=x1,sn'.tkind.lookup g'=y1
   intro h2
   cases h2 with
   |none=>exact .none
   |some h2=>
    dsimp only
    rw[or_eq (lookup_rel N h2 s.r2)]
    generalize sn'.ksize.lookup _=z
    cases z with
    |none=>exact .none
    |some k=>exact okS_rel (by rw[el]) .nil
theorem stepM_rel (N:Rn Rl)(s:SnR Rl sn sn'){x y:Stp}(h:StR Rl x y):RsR Rl (stepM sn x) (stepM sn' y):=by
 cases h with
 |mk k h hn=>
  match k,h with
  |0,h=>exact stepP_rel N s hn h
  |1, .int _=>exact .none
  |1, .str _=>exact .none
  |1, .tup h=>exact stepF_rel N hn h
  |2, .int _=>exact .none
  |2, .str _=>exact .none
  |2, .tup h=>exact stepA_rel N s hn h
  |3, .int _=>exact .none
  |3, .str _=>exact .none
  |3, .tup h=>exact stepL_rel N s h
  |n+4, .int _=>exact .none
  |n+4, .str _=>exact .none
  |n+4, .tup _=>exact .none
theorem runS_rel (N:Rn Rl)(s:SnR Rl sn sn'):∀(n:Nat) {x y:List Stp},Pw (StR Rl) x y→runS sn n x=runS sn' n y
 |0,_,_,_=>rfl
 |n+1,_,_, .nil=>rfl
 |n+1,_,_, .cons (a:=p) (b:=q) h r=>by
  unfold runS
  have e:p.ns.length=q.ns.length:=by cases h with|mk _ _ n=>exact n.length
  rw[e]
  have h1:=stepM_rel N s h
  revert h1
  generalize stepM sn p=x,stepM sn' q=y
  intro h1
  cases h1 with
  |none=>rfl
  |some h1=>
   cases h1 with
   |er f=>rfl
   |ok h1=>
    dsimp only
    rw[(h1.app r).length,runS_rel N s n (h1.app r)]
theorem pM_rel (N:Rn Rl)(s:SnR Rl sn sn')(hn:Pw Rl ns ms)(h:TR Rl t u):pM sn ns t=pM sn' ms u:=by
 unfold pM
 rw[snOk_rel N s,sz_rel t h,hn.length,runS_rel N s _ (.cons (.mk 0 h hn) .nil)]
end
section
variable {Rl:Str→Str→Prop}{sn sn':Sn}{a b:Str}{t u:T}{ns ms:List Str}{l m:List T}
abbrev MS (Rl:Str→Str→Prop):Mo Sn→Mo Sn→Prop:=MR (SnR Rl)
theorem mr_ok {α β:Type}{R:α→β→Prop}{x:α}{y:β}(h:R x y):MR R (some (.ok x)) (some (.ok y)):=.some (.ok h)
theorem mr_er {α β:Type}{R:α→β→Prop}(f:Flt):MR R (some (.error f)) (some (.error f)):=.some (.er f)
theorem bO_same {α β γ:Type}{S:β→γ→Prop}{x y:Mo α}{f:α→Mo β}{g:α→Mo γ}(e:x=y)(k:∀a,MR S (f a) (g a)):MR S (bO x f) (bO y g):=by
 subst e
 match x with
 |none=>exact .none
 |some (.error f)=>exact .some (.er f)
 |some (.ok a)=>exact k a
theorem ite_rel {α β:Type}{R:α→β→Prop}{x y:Bool}{p:Mo α}{q:Mo β}(e:x=y)(h:MR R p q):MR R (if x=true then p else none) (if y=true then q else none):=by
 subst e
 cases x with
 |true=>rw[if_pos rfl,if_pos rfl];exact h
 |false=>rw[if_neg Bool.false_ne_true,if_neg Bool.false_ne_true];exact .none
theorem kinds_rel (N:Rn Rl)(s:SnR Rl sn sn')(hv:Pw Rl ns ms)(h:Pw (TR Rl) l m):kindsM sn ns l=kindsM sn' ms m:=by
 induction h with
 |nil=>rfl
 |cons h _ ih=>
  unfold kindsM
  rw[kM_rel N s .nil (.some hv) h,ih]
theorem rows_rel {f g:Sn→T→Mo Sn}(k:∀sn sn' t u,SnR Rl sn sn'→TR Rl t u→MS Rl (f sn t) (g sn' u))(s:SnR Rl sn sn')(h:Pw (TR Rl) l m):MS Rl (rowsM f sn l) (rowsM g sn' m):=by
 induction h generalizing sn sn' with
 |nil=>exact mr_ok s
 |cons h _ ih=>exact(k _ _ _ _ s h).bO fun _ _ s=>ih s
theorem strs_rel (h:Pw (TR Rl) l m):OR (Pw Rl) (mapO strT l) (mapO strT m):=Pw.mapO h fun _ _=>strT_rel
theorem sortM_rel (N:Rn Rl)(s:SnR Rl sn sn')(h:Rl a b)(hv:Pw Rl ns ms):ER (SnR Rl) (sortM sn a ns) (sortM sn' b ms):=by
 unfold sortM
 rw[mem_rel N h (KNR.ks s.r1),rowM_rel N .nil hv,hv.length]
 refine ER.bind (er_rfl _) fun _ _ _=>ER.bind (er_rfl _) fun _ _ _=>.ok {s with r1:=s.r1.app (.cons ⟨h,rfl⟩ .nil)}
abbrev SV (Rl:Str→Str→Prop)(p q:Sn×List Str):Prop:=SnR Rl p.1 q.1∧Pw Rl p.2 q.2
theorem sortD_rel (N:Rn Rl)(s:SnR Rl sn sn')(h:TR Rl t u):MR (SV Rl) (sortD sn t) (sortD sn' u):=by
 cases h with
 |int _=>exact .none
 |str _=>exact .none
 |tup h=>
  cases h with
  |nil=>exact .none
  |cons h q=>
   cases h with
   |int _=>exact .none
   |tup _=>exact .none
   |str h0=>
    cases q with
    |nil=>exact .none
    |cons h q=>
     cases h with
     |int _=>exact .none
     |tup _=>exact .none
     |@str z z' hz=>
      cases q with
      |nil=>exact .none
      |cons h q=>
       cases h with
       |int _=>exact .none
       |str _=>exact .none
       |@tup l m h=>
        have h1:=strs_rel h
        show MR (SV Rl) (match mapO strT l with|some vs=>_|none=>none) (match mapO strT m with|some vs=>_|none=>none)
        revert h1
        generalize mapO strT l=x,mapO strT m=y
        intro h1
        cases h1 with
        |none=>exact .none
        |some h1=>
         refine ite_rel (lenOk_rel s) ?_
         have h2:=sortM_rel N s hz h1
         revert h2
         generalize sortM sn z _=x,sortM sn' z' _=y
         intro h2
         cases h2 with
         |er f=>exact mr_er f
         |ok h2=>exact mr_ok ⟨h2,h1⟩
theorem kRow_rel (N:Rn Rl)(hz:Rl a b)(hv:Pw Rl ns ms)(s:SnR Rl sn sn')(h:TR Rl t u):MS Rl (kRow a ns sn t) (kRow b ms sn' u):=by
 cases h with
 |int _=>exact .none
 |str _=>exact .none
 |tup h=>
  cases h with
  |nil=>exact .none
  |@cons x y l m h q=>
   cases h with
   |int _=>exact .none
   |tup _=>exact .none
   |@str g g' h=>
    refine ite_rel (lenOk_rel s) ?_
    rw[mem_rel N h (KSR.ks s.r3)]
    generalize onceM _=x
    cases x
    exact .some (.er _)
    dsimp only
    have e:=mem_rel N h (KNR.ks s.r4)
    by_cases c:g∈ks sn.tsize
    ·rw[decide_eq_true c]at e
     rw[if_pos c,if_pos (of_decide_eq_true e.symm)];exact .none
    ·rw[decide_eq_false c]at e
     rw[if_neg c,if_neg (of_decide_eq_false e.symm)]
     have s2:SnR Rl {sn with tkind:=sn.tkind++[(g,a)],tsize:=sn.tsize++[(g,l.length)]} {sn' with tkind:=sn'.tkind++[(g',b)],tsize:=sn'.tsize++[(g',m.length)]}:={s with r3:=s.r3.app (.cons ⟨h,hz⟩ .nil),r4:=s.r4.app (.cons ⟨h,q.length⟩ .nil)}
     exact bO_same (kinds_rel N s2 hv q) fun _=>mr_ok s2
theorem rRow_rel (N:Rn Rl)(hv:Pw Rl ns ms)(s:SnR Rl sn sn')(h:TR Rl t u):MS Rl (rRow ns sn t) (rRow ms sn' u):=by
 cases h with
 |int _=>exact .none
 |str _=>exact .none
 |tup h=>
  cases h with
  |nil=>exact .none
  |@cons x y l m h q=>
   cases h with
   |int _=>exact .none
   |tup _=>exact .none
   |@str g g' h=>
    refine ite_rel (lenOk_rel s) ?_
    rw[mem_rel N h s.r6]
    generalize onceM _=x
    cases x
    exact .some (.er _)
    dsimp only
    have s2:SnR Rl {sn with fields:=sn.fields++[g]} {sn' with fields:=sn'.fields++[g']}:={s with r6:=s.r6.app (.cons h .nil)}
    exact bO_same (kinds_rel N s2 hv q) fun _=>mr_ok s2
theorem kindD_rel (N:Rn Rl)(s:SnR Rl sn sn')(h:TR Rl t u):MS Rl (kindD sn t) (kindD sn' u):=by
 have h0:=h
 cases h with
 |int _=>exact .none
 |str _=>exact .none
 |tup h=>
  cases h with
  |nil=>exact .none
  |cons hx q=>
   cases q with
   |nil=>exact .none
   |cons h q=>
    cases h with
    |int _=>exact .none
    |tup _=>exact .none
    |@str z z' hz=>
     cases q with
     |nil=>exact .none
     |cons hy q=>
      refine(sortD_rel N s h0).bO fun p p' hp=>ite_rel ?_ ?_
      ·have e:=mem_rel N hz (KNR.ks hp.1.r2)
       rw[lenOk_rel hp.1,decide_not,decide_not,e]
      ·exact rows_rel (fun _ _ _ _ s h=>kRow_rel N hz hp.2 s h) {hp.1 with r2:=hp.1.r2.app (.cons ⟨hz,q.length⟩ .nil)} q
theorem recordD_rel (N:Rn Rl)(s:SnR Rl sn sn')(h:TR Rl t u):MS Rl (recordD sn t) (recordD sn' u):=by
 have h0:=h
 cases h with
 |int _=>exact .none
 |str _=>exact .none
 |tup h=>
  cases h with
  |nil=>exact .none
  |cons hx q=>
   cases q with
   |nil=>exact .none
   |cons h q=>
    cases h with
    |int _=>exact .none
    |tup _=>exact .none
    |@str z z' hz=>
     cases q with
     |nil=>exact .none
     |cons hy q=>
      refine(sortD_rel N s h0).bO fun p p' hp=>ite_rel ?_ ?_
      ·have e:=mem_rel N hz (KNR.ks hp.1.r5)
       rw[lenOk_rel hp.1,decide_not,decide_not,e]
      ·exact rows_rel (fun _ _ _ _ s h=>rRow_rel N hp.2 s h) {hp.1 with r5:=hp.1.r5.app (.cons ⟨hz,q.length⟩ .nil)} q
theorem parts_rel (N:Rn Rl)(s:SnR Rl sn sn')(h:Pw Rl ns ms):partsM sn ns=partsM sn' ms:=by
 induction h with
 |nil=>rfl
 |cons h _ ih=>
  unfold partsM
  refine er_eq ((face_rel N s h).bind fun _ _ _=>?_)
  rw[ih];exact er_rfl _
theorem given_rel (N:Rn Rl)(s:SnR Rl sn sn')(h:TR Rl t u):MR Rl (givenM sn t) (givenM sn' u):=by
 have h1:=head_rel h
 unfold givenM
 revert h1
 generalize headT t=x,headT u=y
 intro h1
 cases h1 with
 |nil=>exact .none
 |@cons x y l m h q=>
  cases h with
  |int _=>exact .none
  |tup _=>exact .none
  |@str f f' h=>
   have h2:=strs_rel q
   show MR Rl (match mapO strT l with|some ps=>_|none=>none) (match mapO strT m with|some ps=>_|none=>none)
   revert h2
   generalize mapO strT l=x,mapO strT m=y
   intro h2
   cases h2 with
   |none=>exact .none
   |some h2=>
    refine ite_rel ?_ (.some ?_)
    ·have e:facesOk sn=facesOk sn':=Pw.all s.r7 fun _ _ q=>by rw[q.2.n]
     rw[e,h2.length]
    ·refine(OR.look .nn (lookup_rel N h s.r7)).bind fun r r' hr=>?_
     rw[hr.n,h2.length,parts_rel N s h2]
     exact ER.bind (er_rfl _) fun _ _ _=>ER.bind (er_rfl _) fun _ _ _=>.ok h
theorem giver_rel (N:Rn Rl)(ho:Rl a b)(s:SnR Rl sn sn')(h:TR Rl t u):MS Rl (giverRow a sn t) (giverRow b sn' u):=by
 cases h with
 |int _=>exact .none
 |str _=>exact .none
 |tup h=>
  cases h with
  |nil=>exact .none
  |cons h q=>
   cases h with
   |int _=>exact .none
   |tup _=>exact .none
   |@str z z' hz=>
    cases q with
    |nil=>exact .none
    |@cons g g' _ _ hg q=>
     refine ite_rel (lenOk_rel s) ?_
     rw[mem_rel N hz (.cons ho .nil),great_rel N s hz]
     generalize Except.bind _ _=x
     cases x
     exact .some (.er _)
     dsimp only
     have h1:=head_rel hg
     revert h1
     generalize headT g=x,headT g'=y
     intro h1
     cases h1 with
     |nil=>exact .none
     |cons h q=>
      cases h with
      |int _=>exact .none
      |tup _=>exact .none
      |@str f f' hf=>
       have s2:SnR Rl {sn with givers:=sn.givers++[(z,f)]} {sn' with givers:=sn'.givers++[(z',f')]}:={s with r9:=s.r9.app (.cons ⟨hz,hf⟩ .nil)}
       exact(given_rel N s2 hg).bO fun _ _ _=>mr_ok s2
abbrev HVR (Rl:Str→Str→Prop)(p q:HV):Prop:=KNR Rl p.1 q.1∧Pw Rl p.2 q.2
theorem hideN_rel (h:TR Rl t u):hideN t=hideN u:=by cases h<;>rfl
theorem hideW (N:Rn Rl)(h:Rl a b):(a="hide"↔b="hide"):=kp_eq N h (N.kept "hide" (by decide+kernel))
theorem item_rel (N:Rn Rl)(s:SnR Rl sn sn'){p q:HV}(hp:HVR Rl p q)(h:TR Rl t u):MR (HVR Rl) (itemF sn p t) (itemF sn' q u):=by
 cases h with
 |int _=>exact .none
 |str _=>exact .none
 |tup h=>
  cases h with
  |nil=>exact .none
  |cons h q1=>
   cases h with
   |int _=>exact .none
   |tup _=>exact .none
   |@str k k' hk=>
    cases q1 with
    |nil=>exact .none
    |cons h q1=>
     cases h with
     |int _=>exact .none
     |tup _=>exact .none
     |@str z z' hz=>
      cases q1 with
      |nil=>exact .none
      |@cons x y _ _ hx q1=>
       refine ite_rel (by rw[hp.1.length,hp.2.length]) ?_
       have e:=hideW N hk
       by_cases c:k="hide"
       ·rw[if_pos c,if_pos (e.mp c)]
        rw[mem_rel N hz (KNR.ks hp.1),mem_rel N hz (KNR.ks s.r1)]
        generalize Except.bind _ _=x
        cases x
        exact .some (.er _)
        dsimp only
        rw[hideN_rel hx]
        cases hideN y with
        |none=>exact .none
        |some n=>exact mr_ok ⟨hp.1.app (.cons ⟨hz,rfl⟩ .nil),hp.2⟩
       ·rw[if_neg c,if_neg (fun h=>c (e.mpr h))]
        rw[mem_rel N hz hp.2]
        generalize onceM _=x
        cases x
        exact .some (.er _)
        dsimp only
        exact bO_same (kM_rel N s hp.1 .none hx) fun _=>mr_ok ⟨hp.1,hp.2.app (.cons hz .nil)⟩
theorem items_rel (N:Rn Rl)(s:SnR Rl sn sn'){p q:HV}(hp:HVR Rl p q)(h:Pw (TR Rl) l m):MR (HVR Rl) (itemsF sn p l) (itemsF sn' q m):=by
 induction h generalizing p q with
 |nil=>exact mr_ok hp
 |cons h _ ih=>exact(item_rel N s hp h).bO fun _ _ hp=>ih hp
theorem faceD_rel (N:Rn Rl)(s:SnR Rl sn sn')(h:TR Rl t u):MS Rl (faceD sn t) (faceD sn' u):=by
 cases h with
 |int _=>exact .none
 |str _=>exact .none
 |tup h=>
  cases h with
  |nil=>exact .none
  |cons hx q=>
   cases q with
   |nil=>exact .none
   |cons h q=>
    cases h with
    |int _=>exact .none
    |tup _=>exact .none
    |@str z z' hz=>
     cases q with
     |nil=>exact .none
     |cons hy q=>
      cases hy with
      |int _=>exact .none
      |str _=>exact .none
      |tup hg=>
       unfold faceD
       dsimp only
       rw[great_rel N s hz]
       generalize greatM _ _=x
       cases x
       exact .some (.er _)
       dsimp only
       refine(rows_rel (fun _ _ _ _ s h=>giver_rel N hz s h) s hg).bO fun s1 s1' hs=>(items_rel N hs ⟨.nil, .nil⟩ q).bO fun f f' hf=>ite_rel ?_ ?_
       ·have e:decide (z∈ks s1.faces)=decide (z'∈ks s1'.faces):=mem_rel N hz (Pw.map hs.r7 fun _ _ q=>q.1)
        rw[lenOk_rel hs,decide_not,decide_not,e]
       ·exact mr_ok {hs with r7:=hs.r7.app (.cons ⟨hz,⟨hg.length,hf.1,hf.2⟩⟩ .nil)}
abbrev BSR (Rl:Str→Str→Prop)(p q:BS):Prop:=Pw Rl p.1 q.1∧Pw Rl p.2 q.2
theorem hideB_rel (N:Rn Rl)(s:SnR Rl sn sn'){p q:BS}(hp:BSR Rl p q)(hz:Rl a b)(h:Pw (TR Rl) l m):MR (BSR Rl) (hideB sn p a l) (hideB sn' q b m):=by
 cases h with
 |nil=>exact .none
 |cons h q1=>
  cases h with
  |int _=>cases q1<;>exact .none
  |str _=>cases q1<;>exact .none
  |@tup l m h=>
   cases q1 with
   |nil=>exact .none
   |@cons x y _ _ hx q1=>
    have h1:=strs_rel h
    show MR (BSR Rl) (match mapO strT l with|some ps=>_|none=>none) (match mapO strT m with|some ps=>_|none=>none)
    revert h1
    generalize mapO strT l=x1,mapO strT m=y1
    intro h1
    cases h1 with
    |none=>exact .none
    |some h1=>
     dsimp only
     rw[mem_rel N hz hp.1,mem_rel N hz (KNR.ks s.r1),rowM_rel N .nil h1]
     generalize Except.bind _ _=x
     cases x
     exact .some (.er _)
     dsimp only
     generalize rowM _ _=x
     cases x
     exact .some (.er _)
     dsimp only
     exact bO_same (kM_rel N s .nil (.some h1) hx) fun _=>mr_ok ⟨hp.1.app (.cons hz .nil),hp.2⟩
theorem valB_rel (N:Rn Rl)(s:SnR Rl sn sn'){p q:BS}(hp:BSR Rl p q)(hz:Rl a b)(h:Pw (TR Rl) l m):MR (BSR Rl) (valB sn p a l) (valB sn' q b m):=by
 cases h with
 |nil=>exact .none
 |cons h q1=>
  unfold valB
  rw[mem_rel N hz hp.2]
  generalize onceM _=x
  cases x
  exact .some (.er _)
  dsimp only
  exact bO_same (pM_rel N s hp.2 h) fun _=>mr_ok ⟨hp.1,hp.2.app (.cons hz .nil)⟩
theorem bodyRow_rel (N:Rn Rl)(s:SnR Rl sn sn'){p q:BS}(hp:BSR Rl p q)(h:TR Rl t u):MR (BSR Rl) (bodyRow sn p t) (bodyRow sn' q u):=by
 cases h with
 |int _=>exact .none
 |str _=>exact .none
 |tup h=>
  cases h with
  |nil=>exact .none
  |cons h q1=>
   cases h with
   |int _=>exact .none
   |tup _=>exact .none
   |@str k k' hk=>
    cases q1 with
    |nil=>exact .none
    |cons h q1=>
     cases h with
     |int _=>exact .none
     |tup _=>exact .none
     |@str z z' hz=>
      refine ite_rel (by rw[hp.1.length,hp.2.length]) ?_
      have e:=hideW N hk
      by_cases c:k="hide"
      ·rw[if_pos c,if_pos (e.mp c)]
       exact hideB_rel N s hp hz q1
      ·rw[if_neg c,if_neg (fun h=>c (e.mpr h))]
       exact valB_rel N s hp hz q1
theorem body_rel (N:Rn Rl)(s:SnR Rl sn sn'){p q:BS}(hp:BSR Rl p q)(h:Pw (TR Rl) l m):MR (BSR Rl) (bodyM sn p l) (bodyM sn' q m):=by
 induction h generalizing p q with
 |nil=>exact mr_ok hp
 |cons h _ ih=>exact(bodyRow_rel N s hp h).bO fun _ _ hp=>ih hp
theorem partD_rel (N:Rn Rl)(s:SnR Rl sn sn')(h:TR Rl t u):MS Rl (partD sn t) (partD sn' u):=by
 cases h with
 |int _=>exact .none
 |str _=>exact .none
 |tup h=>
  cases h with
  |nil=>exact .none
  |cons hx q=>
   cases q with
   |nil=>exact .none
   |cons h q=>
    cases h with
    |int _=>exact .none
    |tup _=>exact .none
    |@str z z' hz=>
     cases q with
     |nil=>exact .none
     |cons hg q=>
      unfold partD
      dsimp only
      rw[great_rel N s hz]
      generalize greatM _ _=x
      cases x
      exact .some (.er _)
      dsimp only
      exact(given_rel N s hg).bO fun f f' hf=>(body_rel N s ⟨.nil, .nil⟩ q).bO fun _ _ _=>ite_rel (lenOk_rel s) (mr_ok {s with r8:=s.r8.app (.cons ⟨hz,hf⟩ .nil)})
theorem makerD_rel (N:Rn Rl)(s:SnR Rl sn sn')(h:TR Rl t u):MS Rl (makerD sn t) (makerD sn' u):=by
 cases h with
 |int _=>exact .none
 |str _=>exact .none
 |tup h=>
  cases h with
  |nil=>exact .none
  |cons hx q=>
   cases q with
   |nil=>exact .none
   |cons h q=>
    cases h with
    |int _=>exact .none
    |tup _=>exact .none
    |@str z z' hz=>
     cases q with
     |nil=>exact .none
     |cons hy q=>
      cases hy with
      |int _=>exact .none
      |str _=>exact .none
      |tup hgs=>
       cases q with
       |nil=>exact .none
       |cons hg q=>
        unfold makerD
        dsimp only
        rw[great_rel N s hz]
        generalize greatM _ _=x
        cases x
        exact .some (.er _)
        dsimp only
        refine(rows_rel (fun _ _ _ _ s h=>giver_rel N hz s h) s hgs).bO fun s1 s1' hs=>(given_rel N hs hg).bO fun f f' hf=>(body_rel N hs ⟨.nil, .nil⟩ q).bO fun _ _ _=>ite_rel ?_ ?_
        ·have e:decide (z∈ks s1.makers)=decide (z'∈ks s1'.makers):=mem_rel N hz (Pw.map hs.r10 fun _ _ q=>q.1)
         rw[lenOk_rel hs,decide_not,decide_not,e]
        ·exact mr_ok {hs with r10:=hs.r10.app (.cons ⟨hz,hgs.length,hf⟩ .nil)}
theorem allThere_rel (N:Rn Rl){zs ys:List Str}(hz:Pw Rl zs ys)(h:Pw Rl ns ms):allThere zs ns=allThere ys ms:=by
 induction h with
 |nil=>rfl
 |cons h _ ih=>
  unfold allThere
  rw[mem_rel N h hz,ih]
theorem applyD_rel (N:Rn Rl)(s:SnR Rl sn sn')(h:TR Rl t u):MS Rl (applyD sn t) (applyD sn' u):=by
 cases h with
 |int _=>exact .none
 |str _=>exact .none
 |tup h=>
  cases h with
  |nil=>exact .none
  |cons hx q=>
   cases q with
   |nil=>exact .none
   |cons h q=>
    cases h with
    |int _=>exact .none
    |tup _=>exact .none
    |@str z z' hz=>
     cases q with
     |nil=>exact .none
     |@cons _ _ l m hm q=>
      cases hm with
      |int _=>exact .none
      |tup _=>exact .none
      |@str k k' hm=>
       have h1:=strs_rel q
       show MS Rl (match mapO strT l with|some ps=>_|none=>none) (match mapO strT m with|some ps=>_|none=>none)
       revert h1
       generalize mapO strT l=x1,mapO strT m=y1
       intro h1
       cases h1 with
       |none=>exact .none
       |some h1=>
        refine ite_rel ?_ (.some ?_)
        ·have e:makersOk sn=makersOk sn':=Pw.all s.r10 fun _ _ q=>by rw[q.2.1]
         rw[lenOk_rel s,e]
        ·unfold applyE
         rw[great_rel N s hz]
         refine ER.bind (er_rfl _) fun _ _ _=>(OR.look .nn (lookup_rel (S:=fun(p q:Nat×Str)=>p.1=q.1∧Rl p.2 q.2) N hm s.r10)).bind fun r r' hr=>?_
         rw[hr.1,h1.length,allThere_rel N (KSR.ks s.r8) h1]
         exact ER.bind (er_rfl _) fun _ _ _=>ER.bind (er_rfl _) fun _ _ _=>.ok {s with r8:=s.r8.app (.cons ⟨hz,hr.2⟩ .nil)}
theorem mainD_rel (N:Rn Rl)(s:SnR Rl sn sn')(h:TR Rl t u):MS Rl (mainD sn t) (mainD sn' u):=by
 cases h with
 |int _=>exact .none
 |str _=>exact .none
 |tup h=>
  cases h with
  |nil=>exact .none
  |cons hx q=>
   cases q with
   |nil=>exact .none
   |cons h q=>exact bO_same (pM_rel N s .nil h) fun _=>mr_ok s
theorem declM_rel (N:Rn Rl)(s:SnR Rl sn sn')(h:TR Rl t u):∀n,MS Rl (declM n sn t) (declM n sn' u)
 |0=>kindD_rel N s h
 |1=>recordD_rel N s h
 |2=>faceD_rel N s h
 |3=>partD_rel N s h
 |4=>makerD_rel N s h
 |5=>applyD_rel N s h
 |n+6=>mainD_rel N s h
theorem formsD_rel (N:Rn Rl)(h:Rl a b):formsD.lookup a=formsD.lookup b:=or_eq (lookup_rel N h (by
 unfold formsD
 exact .cons ⟨N.kept _ (by decide+kernel),rfl⟩ (.cons ⟨N.kept _ (by decide+kernel),rfl⟩ (.cons ⟨N.kept _ (by decide+kernel),rfl⟩ (.cons ⟨N.kept _ (by decide+kernel),rfl⟩ (.cons ⟨N.kept _ (by decide+kernel),rfl⟩ (.cons ⟨N.kept _ (by decide+kernel),rfl⟩ (.cons ⟨N.kept _ (by decide+kernel),rfl⟩ .nil))))))))
theorem declD_rel (N:Rn Rl)(s:SnR Rl sn sn')(h:TR Rl t u):MS Rl (declD sn t) (declD sn' u):=by
 have h0:=h
 have es:=sz_rel t h
 cases h with
 |int _=>exact .none
 |str _=>exact .none
 |tup h=>
  cases h with
  |nil=>exact .none
  |@cons x y l m h q=>
   cases h with
   |int _=>exact .none
   |tup _=>exact .none
   |@str z z' hz=>
    have s2:SnR Rl {sn with givers:=[]} {sn' with givers:=[]}:={s with r9:=.nil}
    show MS Rl (if(T.tup (.str z::l)).sz≤99999 then _ else none) (if(T.tup (.str z'::m)).sz≤99999 then _ else none)
    rw[es,formsD_rel N hz]
    split
    ·cases formsD.lookup z' with
     |none=>exact .none
     |some n=>exact declM_rel N s2 h0 n
    ·exact .none
theorem over_rel (N:Rn Rl)(h:Pw (TR Rl) l m):MS Rl (overM l) (overM m):=rows_rel (fun _ _ _ _ s h=>declD_rel N s h) ⟨.nil, .nil, .nil, .nil, .nil, .nil, .nil, .nil, .nil, .nil⟩ h
end
inductive Tk where
 |w (n:Nat)
 |g (n:Nat)
 |v (n:Nat)
 |k (z:Str)
 |p (n m:Nat)
deriving DecidableEq
structure Wd where
 w:Nat→Str
 g:Nat→Str
 v:Nat→Str
def evT (W:Wd):Tk→Str
 |.w n=>W.w n
 |.g n=>W.g n
 |.v n=>W.v n
 |.k z=>z
 |.p n m=>W.g n++"."++W.w m
inductive Dq where
 |t (k:Tk)
 |i (n:Int)
 |nil
 |cons (h t:Dq)
mutual
def instQ (W:Wd):Dq→T
 |.t k=>.str (evT W k)
 |.i n=>.int n
 |.nil=>.tup []
 |.cons h t=>.tup (instQ W h::instsQ W t)
def instsQ (W:Wd):Dq→List T
 |.cons h t=>instQ W h::instsQ W t
 |.t _=>[]
 |.i _=>[]
 |.nil=>[]
end
def keptW:List Str:=["num","->","hide","fun","let","ring","case","make","pick","kind","record","face","part","maker","apply","main","val","plus"]
def okT:Tk→Bool
 |.w n=>decide (n<13)
 |.g n=>decide (n<11)
 |.v n=>decide (n<7)
 |.k z=>decide (z∈keptW)
 |.p n m=>decide (n<11)&&decide (m<13)
mutual
def okQ:Dq→Bool
 |.t k=>okT k
 |.i _=>true
 |.nil=>true
 |.cons h t=>okQ h&&oksQ t
def oksQ:Dq→Bool
 |.cons h t=>okQ h&&oksQ t
 |.nil=>true
 |.t _=>false
 |.i _=>false
end
def isTq:Dq→Bool
 |.nil=>true
 |.cons _ t=>isTq t
 |_=>false
def lenQ:Dq→Nat
 |.cons _ t=>lenQ t+1
 |_=>0
def appQ:Dq→Dq→Dq
 |.cons h t,u=>.cons h (appQ t u)
 |_,u=>u
def tkS (N:List Str)(x:Str)(n:Int):Option Tk :=
 if x="_law_w"∧x∈N∧0≤n∧n<13 then some (.w n.toNat)
 else if x="_law_g"∧x∈N∧0≤n∧n<11 then some (.g n.toNat)
 else if x="_law_v"∧x∈N∧0≤n∧n<7 then some (.v n.toNat)
 else none
def qE1 (N:List Str)(ev:Option Dq)(g:List Expr→Option Dq):Expr→Option Dq
 |.Constant (.str z) _ _=>if z.length≤100 then some (.t (.k z)) else none
 |.Constant (.int i) _ _=>some (.i i)
 |.Name x _=>if x="_law_full" then ev else none
 |.Subscript (.Name x _) (.Constant (.int n) _ _) _=>(tkS N x n).map .t
 |.BinOp (.BinOp (.Subscript (.Name x _) (.Constant (.int n) _ _) _) .Add (.Constant (.str z) _ _) _) .Add (.Subscript (.Name y _) (.Constant (.int m) _ _) _) _=>if z="." then(match tkS N x n,tkS N y m with
  |some (.g a),some (.w b)=>some (.t (.p a b))
  |_,_=>none) else none
 |.Tuple es _ _=>(g es).bind fun t=>if isTq t=true∧lenQ t≤100 then some t else none
 |_=>none
mutual
def qE (N:List Str)(ev:Option Dq):Nat→Expr→Option Dq
 |0=>fun _=>none
 |n+1=>qE1 N ev (qEs N ev n)
def qEs (N:List Str)(ev:Option Dq):Nat→List Expr→Option Dq
 |0=>fun _=>none
 |n+1=>fun es=>match es with
  |[]=>some .nil
  |e::es=>(qE N ev n e).bind fun t=>(qEs N ev n es).bind fun u=>some (.cons t u)
end
def qB (N:List Str)(n:Nat):List Stmt→Option Dq
 |[.Return (some (.Tuple es _ _)) _]=>qEs N none n es
 |[.Return (some (.List es _)) _]=>qEs N none n es
 |[.Assign [.Name y _] (.Tuple es0 x0 x1) _, .Return (some (.List es _)) _]=>if y="_law_full" then(qE N none n (.Tuple es0 x0 x1)).bind fun d=>qEs N (some d) n es else none
 |_=>none
def W0:Wd:=⟨fun n=>⟨#[120,97+n]⟩,fun n=>⟨#[65+n]⟩,fun n=>⟨#[63,97+n]⟩⟩
def vdM {α:Type}:Mo α→Option Str
 |none=>none
 |some (.ok _)=>some ""
 |some (.error .tw)=>some "Twice"
 |some (.error .nn)=>some "NoName"
 |some (.error .nc)=>some "NoCount"
abbrev s_base:Stmt:=top 77
abbrev s_tw:Stmt:=top 78
abbrev s_nm:Stmt:=top 79
abbrev s_ct:Stmt:=top 80
abbrev s_np:Stmt:=top 81
abbrev s_cp:Stmt:=top 82
abbrev n3:List Str:=["_law_w","_law_g","_law_v"]
abbrev n2:List Str:=["_law_w","_law_g"]
abbrev n2f:List Str:=["_law_w","_law_g","_law_full"]
def bD:Dq:=(qB n3 60 (defBody s_base)).getD .nil
def twD:Dq:=(qB n3 60 (defBody s_tw)).getD .nil
def nmD:Dq:=(qB n3 60 (defBody s_nm)).getD .nil
def ctD:Dq:=(qB n2 60 (defBody s_ct)).getD .nil
def npD:Dq:=(qB n2 60 (defBody s_np)).getD .nil
def cpD:Dq:=(qB n2f 60 (defBody s_cp)).getD .nil
def rowsQ:Dq→List (Dq×Str)
 |.cons (.cons r (.cons (.t (.k d)) .nil)) t=>(r,d)::rowsQ t
 |_=>[]
def main1:Dq:=.cons (.t (.k "main")) (.cons (.i 1) .nil)
def progR (r:Dq):Dq:=appQ bD (.cons r (.cons main1 .nil))
def progP (r:Dq):Dq:=appQ bD (.cons (.cons (.t (.k "main")) (.cons r .nil)) .nil)
def progV (r:Dq):Dq:=appQ bD (.cons (.cons (.t (.k "part")) (.cons (.t (.g 9)) (.cons (.t (.g 3)) (.cons (.cons (.t (.k "val")) (.cons (.t (.w 12)) (.cons r .nil))) .nil)))) (.cons main1 .nil))
def chk (p:Dq)(d:Str):Bool:=oksQ p&&decide (vdM (overM (instsQ W0 p))=some d)
theorem rows_good:((rowsQ (appQ twD (appQ nmD ctD))).all fun r=>chk (progR r.1) r.2)=true:=by decide+kernel
theorem phr_good:((rowsQ (appQ npD cpD)).all fun r=>chk (progP r.1) r.2&&chk (progV r.1) r.2)=true:=by decide+kernel
structure WOk (W:Wd):Prop where
 wi:∀i j,i<13→j<13→W.w i=W.w j→i=j
 gi:∀i j,i<11→j<11→W.g i=W.g j→i=j
 vi:∀i j,i<7→j<7→W.v i=W.v j→i=j
 ws:∀i,i<13→smallB (W.w i)=true∧120∈(W.w i).cps.toList
 gs:∀i,i<11→greatB (W.g i)=true
 vs:∀i,i<7→openB (W.v i)=true∧46∉(W.v i).cps.toList
theorem small_all {z:Str}(h:smallB z=true):∀c∈z.cps.toList,97≤c∧c≤122:=fun c hc=>by
 unfold smallB allS at h
 rw[Bool.and_eq_true]at h
 exact small_range (List.all_eq_true.mp h.2 c hc)
theorem small_cons {z:Str}(h:smallB z=true):∃c r,z.cps.toList=c::r:=by
 unfold smallB okLen at h
 simp only[Bool.and_eq_true,decide_eq_true_eq]at h
 have:z.length=z.cps.toList.length:=by simp[Str.length]
 cases e:z.cps.toList with
 |nil=>rw[e]at this;have:=h.1.1;simp at*;omega
 |cons c r=>exact⟨c,r,rfl⟩
theorem great_cons {z:Str}(h:greatB z=true):∃c r,z.cps.toList=c::r∧65≤c∧c≤90∧∀d∈r,97≤d∧d≤122:=by
 unfold greatB okLen at h
 simp only[Bool.and_eq_true,decide_eq_true_eq]at h
 have:z.length=z.cps.toList.length:=by simp[Str.length]
 cases e:z.cps.toList with
 |nil=>rw[e]at this;have:=h.1.1;simp at*;omega
 |cons c r=>
  refine⟨c,r,rfl,?_,?_,?_⟩
  ·have:=h.2.1;rw[e]at this;exact(great_range this).1
  ·have:=h.2.1;rw[e]at this;exact(great_range this).2
  ·intro d hd
   have h3:=h.2.2
   unfold allS restS at h3
   rw[e]at h3
   exact small_range (List.all_eq_true.mp h3 d (by simpa using hd))
theorem no46_small {z:Str}(h:smallB z=true):46∉z.cps.toList:=fun hc=>by have:=small_all h 46 hc;omega
theorem no46_great {z:Str}(h:greatB z=true):46∉z.cps.toList:=fun hc=>by
 obtain⟨c,r,e,h1,h2,h3⟩:=great_cons h
 rw[e]at hc
 rcases List.mem_cons.mp hc with hc|hc
 ·omega
 ·have:=h3 46 hc;omega
theorem path_no {z:Str}(h:46∉z.cps.toList):pathB z=false:=by
 unfold pathB
 rw[splL_free h]
theorem great_no' {z:Str}{c:Nat}{r:List Nat}(e:z.cps.toList=c::r)(h:c<65∨90<c):greatB z=false:=by
 cases g:greatB z with
 |false=>rfl
 |true=>
  obtain⟨c',r',e',h1,h2,_⟩:=great_cons g
  rw[e]at e'
  cases e'
  omega
theorem kept_x:∀z∈keptW,120∉z.cps.toList∧(greatB z,openB z,pathB z)=(false,false,false):=by decide+kernel
theorem keptL_x:∀z∈keptL,120∉z.cps.toList:=by decide+kernel
theorem dot_split {a b:Str}(ha:46∉a.cps.toList)(hb:46∉b.cps.toList):splL 46 (a++"."++b:Str).cps.toList=[a.cps.toList,b.cps.toList]:=by
 have e:(a++"."++b:Str).cps.toList=a.cps.toList++46::b.cps.toList:=by
  rw[cps_app,cps_app,List.append_assoc];rfl
 rw[e,splL_app _ ha,splL_free hb]
theorem dot_pl {a b:Str}(ha:46∉a.cps.toList)(hb:46∉b.cps.toList):pathL (a++"."++b)=(a,b):=by
 unfold pathL
 rw[dot_split ha hb]
def c3:Tk→Bool×Bool×Bool
 |.w _=>(false,false,false)
 |.g _=>(true,false,false)
 |.v _=>(false,true,false)
 |.k _=>(false,false,false)
 |.p _ _=>(false,false,true)
section
variable {W:Wd}
theorem c3_ev (O:WOk W){k:Tk}(h:okT k=true):(greatB (evT W k),openB (evT W k),pathB (evT W k))=c3 k:=by
 cases k with
 |w n=>
  have h:=of_decide_eq_true h
  obtain⟨s,_⟩:=O.ws n h
  obtain⟨c,r,e⟩:=small_cons s
  have hc:=small_all s c (by rw[e];simp)
  show(greatB (W.w n),openB (W.w n),pathB (W.w n))=_
  rw[great_no' e (by omega),path_no (no46_small s)]
  have:openB (W.w n)=false:=by unfold openB;rw[e];exact decide_eq_false (fun h=>by have:=Option.some.inj h;omega)
  rw[this];rfl
 |g n=>
  have h:=of_decide_eq_true h
  have s:=O.gs n h
  obtain⟨c,r,e,h1,h2,_⟩:=great_cons s
  show(greatB (W.g n),openB (W.g n),pathB (W.g n))=_
  rw[s,path_no (no46_great s)]
  have:openB (W.g n)=false:=by unfold openB;rw[e];exact decide_eq_false (fun h=>by have:=Option.some.inj h;omega)
  rw[this];rfl
 |v n=>
  have h:=of_decide_eq_true h
  obtain⟨s,n4⟩:=O.vs n h
  show(greatB (W.v n),openB (W.v n),pathB (W.v n))=_
  rw[s,path_no n4]
  have:greatB (W.v n)=false:=by
   have s':=of_decide_eq_true s
   cases e:(W.v n).cps.toList with
   |nil=>rw[e]at s';cases s'
   |cons c r=>
    rw[e]at s'
    have:=Option.some.inj s'
    exact great_no' e (by omega)
  rw[this];rfl
 |k z=>exact(kept_x z (of_decide_eq_true h)).2
 |p n m=>
  unfold okT at h
  rw[Bool.and_eq_true,decide_eq_true_eq,decide_eq_true_eq]at h
  have s:=O.gs n h.1
  obtain⟨s2,hx⟩:=O.ws m h.2
  obtain⟨c,r,e,h1,h2,h3⟩:=great_cons s
  have el:(W.g n++"."++W.w m:Str).cps.toList=c::(r++46::(W.w m).cps.toList):=by
   rw[cps_app,cps_app,e,List.append_assoc];rfl
  show(greatB (W.g n++"."++W.w m),openB (W.g n++"."++W.w m),pathB (W.g n++"."++W.w m))=_
  have e1:greatB (W.g n++"."++W.w m)=false:=by
   cases g:greatB (W.g n++"."++W.w m) with
   |false=>rfl
   |true=>exact absurd (by rw[el];simp) (no46_great g)
  have e2:openB (W.g n++"."++W.w m)=false:=by
   unfold openB;rw[el];exact decide_eq_false (fun h=>by have:=Option.some.inj h;omega)
  have e3:pathB (W.g n++"."++W.w m)=true:=by
   unfold pathB
   rw[dot_split (no46_great s) (no46_small s2)]
   show(greatB (W.g n)&&nameB (W.w m))=true
   rw[s]
   unfold nameB
   rw[s2,decide_eq_false (fun hk=>keptL_x _ hk hx)];rfl
  rw[e1,e2,e3];rfl
theorem ev_inj (O:WOk W){a b:Tk}(ha:okT a=true)(hb:okT b=true)(h:evT W a=evT W b):a=b:=by
 have h3:c3 a=c3 b:=by rw[←c3_ev O ha,←c3_ev O hb,h]
 cases a with
 |w n=>
  have ha:=of_decide_eq_true ha
  cases b with
  |w m=>rw[O.wi n m ha (of_decide_eq_true hb) h]
  |k z=>
   have h:W.w n=z:=h
   exact absurd (by rw[←h];exact(O.ws n ha).2) (kept_x z (of_decide_eq_true hb)).1
  |g m=>cases h3
  |v m=>cases h3
  |p m l=>cases h3
 |k z=>
  cases b with
  |w m=>
   have h:z=W.w m:=h
   exact absurd (by rw[h];exact(O.ws m (of_decide_eq_true hb)).2) (kept_x z (of_decide_eq_true ha)).1
  |k y=>have h:z=y:=h;rw[h]
  |g m=>cases h3
  |v m=>cases h3
  |p m l=>cases h3
 |g n=>
  cases b with
  |g m=>rw[O.gi n m (of_decide_eq_true ha) (of_decide_eq_true hb) h]
  |w m=>cases h3
  |k z=>cases h3
  |v m=>cases h3
  |p m l=>cases h3
 |v n=>
  cases b with
  |v m=>rw[O.vi n m (of_decide_eq_true ha) (of_decide_eq_true hb) h]
  |w m=>cases h3
  |k z=>cases h3
  |g m=>cases h3
  |p m l=>cases h3
 |p n m=>
  cases b with
  |p n' m'=>
   unfold okT at ha hb
   rw[Bool.and_eq_true,decide_eq_true_eq,decide_eq_true_eq]at ha hb
   have e1:=dot_pl (no46_great (O.gs n ha.1)) (no46_small (O.ws m ha.2).1)
   have e2:=dot_pl (no46_great (O.gs n' hb.1)) (no46_small (O.ws m' hb.2).1)
   have h:W.g n++"."++W.w m=W.g n'++"."++W.w m':=h
   rw[h,e2]at e1
   have e3:=Prod.mk.inj e1
   rw[O.gi n' n hb.1 ha.1 e3.1,O.wi m' m hb.2 ha.2 e3.2]
  |w m=>cases h3
  |k z=>cases h3
  |g m=>cases h3
  |v m=>cases h3
end
def RlW (W W':Wd)(a b:Str):Prop:=∃k,okT k=true∧a=evT W k∧b=evT W' k
theorem rn_of {W W':Wd}(O:WOk W)(O':WOk W'):Rn (RlW W W') where
 eq:=by
  rintro _ _ _ _ ⟨k,hk,rfl,rfl⟩ ⟨l,hl,rfl,rfl⟩
  exact⟨fun h=>by rw[ev_inj O hk hl h],fun h=>by rw[ev_inj O' hk hl h]⟩
 path:=by
  rintro _ _ ⟨k,hk,rfl,rfl⟩
  have e1:=c3_ev O hk
  have e2:=c3_ev O' hk
  rw[←e1]at e2
  exact(Prod.mk.inj (Prod.mk.inj e2).2).2.symm
 pl:=by
  rintro _ _ ⟨k,hk,rfl,rfl⟩ hp
  have e1:=c3_ev O hk
  rw[hp]at e1
  cases k with
  |w n=>cases(Prod.mk.inj (Prod.mk.inj e1).2).2
  |g n=>cases(Prod.mk.inj (Prod.mk.inj e1).2).2
  |v n=>cases(Prod.mk.inj (Prod.mk.inj e1).2).2
  |k z=>cases(Prod.mk.inj (Prod.mk.inj e1).2).2
  |p n m=>
   unfold okT at hk
   rw[Bool.and_eq_true,decide_eq_true_eq,decide_eq_true_eq]at hk
   have e2:=dot_pl (no46_great (O.gs n hk.1)) (no46_small (O.ws m hk.2).1)
   have e3:=dot_pl (no46_great (O'.gs n hk.1)) (no46_small (O'.ws m hk.2).1)
   show RlW W W' (pathL (W.g n++"."++W.w m)).1 (pathL (W'.g n++"."++W'.w m)).1∧RlW W W' (pathL (W.g n++"."++W.w m)).2 (pathL (W'.g n++"."++W'.w m)).2
   rw[e2,e3]
   exact⟨⟨.g n,decide_eq_true hk.1,rfl,rfl⟩,⟨.w m,decide_eq_true hk.2,rfl,rfl⟩⟩
 great:=by
  rintro _ _ ⟨k,hk,rfl,rfl⟩
  have e2:=c3_ev O' hk
  rw[←c3_ev O hk]at e2
  exact(Prod.mk.inj e2).1.symm
 opn:=by
  rintro _ _ ⟨k,hk,rfl,rfl⟩
  have e2:=c3_ev O' hk
  rw[←c3_ev O hk]at e2
  exact(Prod.mk.inj (Prod.mk.inj e2).2).1.symm
 kept:=by
  intro z hz
  have:∀z∈(["num","->","hide","fun","let","ring","case","make","pick","kind","record","face","part","maker","apply","main"]:List Str),z∈keptW:=by decide+kernel
  exact⟨.k z,decide_eq_true (this z hz),rfl,rfl⟩
mutual
theorem inst_rel {W W':Wd}:∀d:Dq,okQ d=true→TR (RlW W W') (instQ W d) (instQ W' d)
 |.t k,h=>.str ⟨k,h,rfl,rfl⟩
 |.i n,_=>.int n
 |.nil,_=>.tup .nil
 |.cons a b,h=>by
  simp only[okQ,Bool.and_eq_true]at h
  exact .tup (.cons (inst_rel a h.1) (insts_rel b h.2))
theorem insts_rel {W W':Wd}:∀d:Dq,oksQ d=true→Pw (TR (RlW W W')) (instsQ W d) (instsQ W' d)
 |.t _,h=>by cases h
 |.i _,h=>by cases h
 |.nil,_=>.nil
 |.cons a b,h=>by
  simp only[oksQ,Bool.and_eq_true]at h
  exact .cons (inst_rel a h.1) (insts_rel b h.2)
end
theorem w0_ok:WOk W0 where
 wi:=fun i j hi hj=>(by decide+kernel:∀i,i<13→∀j,j<13→W0.w i=W0.w j→i=j) i hi j hj
 gi:=fun i j hi hj=>(by decide+kernel:∀i,i<11→∀j,j<11→W0.g i=W0.g j→i=j) i hi j hj
 vi:=fun i j hi hj=>(by decide+kernel:∀i,i<7→∀j,j<7→W0.v i=W0.v j→i=j) i hi j hj
 ws:=by decide+kernel
 gs:=by decide+kernel
 vs:=by decide+kernel
theorem vd_rel {α β:Type}{R:α→β→Prop}{x:Mo α}{y:Mo β}(h:MR R x y):vdM x=vdM y:=by
 cases h with
 |none=>rfl
 |some h=>cases h with
  |er f=>cases f<;>rfl
  |ok _=>rfl
theorem chk_all {W:Wd}(O:WOk W){p:Dq}{d:Str}(h:chk p d=true):vdM (overM (instsQ W p))=some d:=by
 unfold chk at h
 rw[Bool.and_eq_true,decide_eq_true_eq]at h
 rw[←vd_rel (over_rel (rn_of w0_ok O) (insts_rel p h.1))]
 exact h.2
def StOk (H:Hp)(st:Addr):Prop:=∃ns:List Int,ns≠[]∧ns.length≤100∧H st=some (.lst (ns.map V.int))
def Grow (st:Addr)(H H':Hp):Prop:=(∀b o,b≠st→H b=some o→H' b=some o)∧StOk H' st
theorem Grow.refl {st:Addr}{H:Hp}(h:StOk H st):Grow st H H:=⟨fun _ _ _ e=>e,h⟩
theorem Grow.trans {st:Addr}{H H1 H2:Hp}(a:Grow st H H1)(b:Grow st H1 H2):Grow st H H2:=⟨fun c o hc e=>b.1 c o hc (a.1 c o hc e),b.2⟩
theorem Grow.ok {st:Addr}{H H':Hp}(a:Grow st H H'):StOk H' st:=a.2
theorem StOk.same {st:Addr}{H H':Hp}(h:StOk H st)(e:Same H H'):StOk H' st:=by
 obtain⟨ns,h1,h2,h3⟩:=h
 exact⟨ns,h1,h2,e _ _ h3⟩
theorem grow_same {st:Addr}{H H':Hp}(h:StOk H st)(e:Same H H'):Grow st H H':=⟨fun b o _ q=>e b o q,h.same e⟩
theorem grow_new {st p:Addr}{H:Hp}{o:HO}(h:StOk H st)(hp:H p=none):Grow st H (upd H p o):=grow_same h (same_new hp o)
theorem grow_set {st:Addr}{H:Hp}{ns:List Int}(h1:ns≠[])(h2:ns.length≤100):Grow st H (upd H st (.lst (ns.map V.int))):=⟨fun b o hb e=>by rw[upd_ne hb];exact e,ns,h1,h2,upd_same⟩
theorem ix0 (k:Nat):ixN (k+1) 0=some 0:=by
 unfold ixN
 rw[if_pos (by omega),if_pos (by omega)]
 rfl
theorem sq0 (k:Nat):seqIndex? 0 (k+1)=some 0:=(ixN_seq (ix0 k)).1
def spNext:Sp:=fun vs H Q _=>∃(st:Addr) (m:Int),vs=[.ref st, .int m]∧StOk H st∧0<m∧m<1000000∧∀(d:Int) H',0≤d→d<m→Grow st H H'→Q (.int d) H'
section
variable {P:Program}{w:World}{K:PySem.W.Frag}{mg:Str→Option Value}{base:Heap}{f:Addr}{fd:FuncData}
abbrev s_next:Stmt:=top 73
theorem sc_next:FnScope ["_law_state","_law_many","_law_digit"] ["_law_state","_law_many"] (defScope s_next):=⟨rfl,rfl,rfl,by decide+kernel,rfl,by decide+kernel,by decide+kernel⟩
theorem ok_next (F:Fun K "_law_next" "_law_next" s_next f fd)(ml:mg "len"=none):FnOk P w K mg base CX0 1 f fd ["_law_state","_law_many"] spNext:=by
 refine F.ok sc_next (len:=fun vs H Q E h=>(by obtain⟨st,m,rfl,_⟩:=h;rfl)) (fun cdv A outer s H vs Q E hr h=>?_)
 obtain⟨st,m,rfl,hs,m0,m1,q⟩:=h
 obtain⟨ns,hne,hle,hst⟩:=id hs
 refine⟨_,pss_cons (ps_if (pt_cmpR op_gt (pe_callB call_len_seq rfl ml PySem.boot_len (pa_cons (pv 0) pa_nil)) pe_int (nomark _))
   (pss_cons (ps_set (i:=2) sc_next.nd rfl (Or.inl rfl) (pe_op op_mod (pe_ix ix_list (pv 0) pe_int (fun _ _=>rfl)) (pv 1)))
   (pss_cons (ps_asg (pe_op op_fdiv (pe_ix ix_list (pv 0) pe_int (fun _ _=>rfl)) (pv 1)) (pg_sub (pv 0) pe_int set_list))
   (pss_cons (ps_if (pt_cmpR op_in_seq (pe_ix ix_list (pv 0) pe_int (fun _ _=>rfl)) (pe_tup (pa_cons pe_int (pa_cons (pe_un un_neg pe_int) pa_nil))) (by with_unfolding_all rfl))
    (pss_one (ps_expr (pe_bm PySem.F.plainAttrs_list PySem.F.slot_list_pop PySem.F.type_list_pop mt_popAt (pv 0) (pa_cons pe_int pa_nil)))) pss_nil)
   (pss_one (ps_ret (pv 2)))))) pss_nil)
  (pss_cons (ps_asg (pe_op op_mod (pe_op op_add (pe_op op_mul (pe_ix ix_list (pv 0) pe_int (fun _ _=>rfl)) pe_int) pe_int) (pe_op op_sub (pe_op op_pow pe_int pe_int) pe_int)) (pg_sub (pv 0) pe_int set_list))
  (pss_one (ps_ret (pe_op op_mod (pe_op op_fdiv (pe_ix ix_list (pv 0) pe_int (fun _ _=>rfl)) pe_int) (pv 1))))),?_⟩
 cases ns with
 |nil=>exact absurd rfl hne
 |cons n r=>
  refine⟨_,rfl,st,_,rfl, .inl (SqL.of hst),_,_,rfl,rfl,_,rfl,?_⟩
  refine ite2 (fun c=>?_) (fun c=>?_)
  ·have c1:(1:Int)<(((n::r).map V.int).length:Nat):=of_decide_eq_true c
   have hr0:r≠[]:=fun e=>by rw[e]at c1;simp at c1
   refine⟨_,rfl,st,_,0, .int n,rfl,rfl,SqL.of hst,atI_nat (j:=0) rfl,_,rfl,n,m,rfl,rfl,m0,?_⟩
   refine⟨_,rfl,st,_,0, .int n,rfl,rfl,SqL.of hst,atI_nat (j:=0) rfl,_,rfl,n,m,rfl,rfl,⟨m0,by omega⟩,?_⟩
   refine⟨_,rfl,st,_,0,0,rfl,rfl,hst,by rw[List.length_map];exact ix0 _,?_⟩
   have g1:Grow st H (upd H st (.lst ((n / m::r).map V.int))):=grow_set (by simp) (by simpa using hle)
   refine⟨_,rfl,st,_,0, .int (n / m),rfl,rfl,SqL.of upd_same,atI_nat (j:=0) rfl,1,rfl,small (by show 2≤1000000;decide),fun p hp=>?_⟩
   have g2:Grow st _ (upd (upd H st (.lst ((n / m::r).map V.int))) p (.tup [.int 0, .int (-1)])):=grow_new g1.ok hp
   refine⟨p,[.int 0, .int (-1)],rfl, .inr (SqT.of upd_same),rfl,rfl,_,rfl,?_⟩
   have hd0:0≤n%m:=Int.emod_nonneg _ (by omega)
   have hd1:n%m<m:=Int.emod_lt_of_pos _ m0
   have hst2:(upd (upd H st (.lst ((n / m::r).map V.int))) p (.tup [.int 0, .int (-1)])) st=some (.lst ((n / m::r).map V.int)):=(same_new hp _) _ _ upd_same
   refine ite2 (fun c2=>?_) (fun c2=>?_)
   ·refine⟨_,rfl, .inl ⟨rfl,_,SqL.of hst2⟩,st,_,0,0, .int (n / m),rfl,rfl,hst2,by decide,by decide,?_,rfl,?_⟩
    ·rw[List.length_map]
     exact sq0 _
    ·refine⟨_,rfl,q _ _ hd0 hd1 ((g1.trans g2).trans ?_)⟩
     exact grow_set (ns:=r) hr0 (by simp at hle;omega)
   ·exact⟨_,rfl,q _ _ hd0 hd1 (g1.trans g2)⟩
  ·refine⟨_,rfl,st,_,0, .int n,rfl,rfl,SqL.of hst,atI_nat (j:=0) rfl,_,_,rfl,rfl, .inr ⟨by decide,by decide⟩,_,_,rfl,rfl,_,_,rfl,rfl,⟨by decide,by decide,by decide⟩,_,_,rfl,rfl,_,_,rfl,rfl,(by show(0:Int)<2^61-1;decide),?_⟩
   refine⟨_,rfl,st,_,0,0,rfl,rfl,hst,by rw[List.length_map];exact ix0 _,?_⟩
   have g1:∀x,Grow st H (upd H st (.lst ((x::r).map V.int))):=fun x=>grow_set (by simp) (by simpa using hle)
   refine⟨_,rfl,st,_,0, .int _,rfl,rfl,SqL.of upd_same,atI_nat (j:=0) rfl,_,_,rfl,rfl,⟨by decide,by decide⟩,_,rfl,_,_,rfl,rfl,m0,?_⟩
   exact q _ _ (Int.emod_nonneg _ (by omega)) (Int.emod_lt_of_pos _ m0) (g1 _)
end
def spDrawn (K:PySem.W.Frag):Sp:=fun vs H Q _=>∃(a:Addr) (ns:List Int),vs=[.ref a]∧SqL K H a (ns.map V.int)∧ns.length≤63∧∀p H',Same H H'→H p=none→StOk H' p→Q (.ref p) H'
theorem at_any {α:Type}{xs:List α}{d:Int}(h0:0≤d)(h1:d<xs.length):∃v,atI xs d=some v∧v∈xs:=by
 have hd:d.toNat<xs.length:=by omega
 refine⟨xs[d.toNat],?_,List.getElem_mem hd⟩
 have e:((d.toNat:Nat):Int)=d:=by omega
 have q:=atI_nat (xs:=xs) (j:=d.toNat) (v:=xs[d.toNat]) (List.getElem?_eq_getElem hd)
 rw[e]at q
 exact q
theorem at_small {d:Int}(h0:0≤d)(h1:d<26):∃c,atI smallS.cps.toList d=some c∧c∈smallS.cps.toList :=
 at_any h0 (by rw[len_toList,smallS_len];exact h1)
section
variable {P:Program}{w:World}{K:PySem.W.Frag}{mg:Str→Option Value}{base:Heap}{f:Addr}{fd:FuncData}
abbrev s_drawn:Stmt:=top 74
theorem sc_drawn:FnScope ["_law_script","_law_seed","_law_cell"] ["_law_script"] (defScope s_drawn):=⟨rfl,rfl,rfl,by decide+kernel,rfl,by decide+kernel,by decide+kernel⟩
theorem ok_drawn (F:Fun K "_law_drawn" "_law_drawn" s_drawn f fd)(ml:mg "len"=none):FnOk P w K mg base CX0 1 f fd ["_law_script"] (spDrawn K):=by
 refine F.ok sc_drawn (len:=fun vs H Q E h=>(by obtain⟨a,ns,rfl,_⟩:=h;rfl)) (fun cdv A outer s H vs Q E hr h=>?_)
 obtain⟨a,ns,rfl,hS,h63,q⟩:=h
 refine⟨_,pss_cons (ps_set (i:=1) sc_drawn.nd rfl (Or.inl rfl) pe_int)
  (pss_cons (ps_for PassesOwn.never rfl (pi_list (pv 0)) (pg_name (i:=2) sc_drawn.nd rfl (Or.inl rfl)) (pss_one (ps_set (i:=1) sc_drawn.nd rfl (Or.inl rfl)
   (pe_op op_mod (pe_op op_add (pe_op op_add (pe_op op_mul (pv 1) pe_int) (pe_op op_mod (pv 2) (pe_op op_pow pe_int pe_int))) pe_int) (pe_op op_sub (pe_op op_pow pe_int pe_int) pe_int)))))
  (pss_cons (ps_if (PW.pt (pw_and (pt_cmpR op_gt (pe_callB call_len_seq rfl ml PySem.boot_len (pa_cons (pv 0) pa_nil)) pe_int (nomark _)) (pw_and1 (pt_cmpR op_eq (pe_op op_mod (pe_ix ix_list (pv 0) pe_int (fun _ _=>rfl)) pe_int) pe_int (nomark _)))))
   (pss_one (ps_ret (pe_op op_cat (pe_op op_cat (pe_lst (pa_cons (pe_op op_fdiv (pe_ix ix_list (pv 0) pe_int (fun _ _=>rfl)) pe_int) pa_nil)) (pe_slice sl_list (pv 0) (po_some pe_int) (po_some pe_int))) (pe_lst (pa_cons (pv 1) pa_nil))))) pss_nil)
  (pss_one (ps_ret (pe_lst (pa_cons (pv 1) pa_nil)))))),?_⟩
 refine⟨_,rfl,a,rfl,⟨_,hS⟩,for_list (xs:=ns.map V.int) (fun i σ H'=>H'=H∧∃(x:Int) (o:Option V),σ=[some (.ref a),some (.int x),o]) ⟨rfl,1000003,none,rfl⟩ ?_ ?_ ?_⟩
 ·rintro i σ H' _ ⟨rfl,_⟩
  exact hS
 ·rintro i x σ H' hx ⟨rfl,y,o,rfl⟩
  rw[List.getElem?_map]at hx
  cases hn:ns[i]? with
  |none=>rw[hn]at hx;cases hx
  |some n=>
   rw[hn]at hx
   cases hx
   refine⟨_,rfl,_,_,rfl,rfl, .inr ⟨by decide,by decide⟩,_,rfl,_,_,rfl,rfl,⟨by decide,by decide,by decide⟩,_,_,rfl,rfl,(by show(0:Int)<10^30;decide),_,_,rfl,rfl,_,_,rfl,rfl,_,_,rfl,rfl,⟨by decide,by decide,by decide⟩,_,_,rfl,rfl,_,_,rfl,rfl,(by show(0:Int)<2^61-1;decide),?_⟩
   exact⟨rfl,_,_,rfl⟩
 ·rintro σ H' ⟨rfl,x,o,rfl⟩
  have last:∀H1 D,Same H' H1→D.rt=Q→tRet (tLst (tCons (tVar 1) tNil)) D [some (.ref a),some (.int x),o] H1:=fun H1 D e hD=>by
   refine⟨_,rfl,small (by show 1≤1000000;decide),fun p hp=>?_⟩
   rw[hD]
   exact q p _ (e.trans (same_new hp _)) (e.free hp) ⟨[x],by simp,by simp,upd_same⟩
  refine⟨_,rfl,a,_,rfl, .inl hS,_,_,rfl,rfl,_,rfl,?_⟩
  refine ite2 (fun c=>?_) (fun c=>?_)
  ·have c1:(0:Int)<((ns.map V.int).length:Nat):=of_decide_eq_true c
   cases ns with
   |nil=>simp at c1
   |cons n r=>
    refine⟨_,rfl,a,_,0, .int n,rfl,rfl,hS,atI_nat (j:=0) rfl,_,_,rfl,rfl,(by show(0:Int)<2;decide),rfl,_,rfl,?_⟩
    refine ite2 (fun c2=>?_) (fun c2=>?_)
    ·refine⟨_,rfl,a,_,0, .int n,rfl,rfl,hS,atI_nat (j:=0) rfl,_,_,rfl,rfl,⟨by decide,by decide⟩,small (by show 1≤1000000;decide),fun p1 hp1=>?_⟩
     have e1:=same_new hp1 (.lst [V.int (n / 2)])
     refine⟨_,rfl,1,rfl,63,rfl,a,_,rfl,e1.seq hS,fun p2 hp2=>?_⟩
     have e2:=same_new hp2 (.lst (cutV ((n::r).map V.int) (some 1) (some 63)))
     obtain⟨ms,hms⟩:∃ms:List Int,cutV ((n::r).map V.int) (some 1) (some 63)=ms.map V.int:=by
      unfold cutV
      rw[←List.map_drop,←List.map_take]
      exact⟨_,rfl⟩
     have hml:ms.length≤63:=by
      have:=cutV_length ((n::r).map V.int) (some 1) (some 63)
      rw[hms,List.length_map,List.length_map]at this
      omega
     refine⟨p1,p2,_,_,rfl,rfl,e2 _ _ upd_same,upd_same,?_,fun p3 hp3=>?_⟩
     ·rw[hms,List.length_map]
      exact small (by simp;omega)
     have e3:=same_new hp3 (.lst ([V.int (n / 2)]++cutV ((n::r).map V.int) (some 1) (some 63)))
     refine⟨_,rfl,small (by show 1≤1000000;decide),fun p4 hp4=>?_⟩
     have e4:=same_new hp4 (.lst [V.int x])
     refine⟨p3,p4,_,_,rfl,rfl,e4 _ _ upd_same,upd_same,?_,fun p5 hp5=>?_⟩
     ·rw[hms]
      exact small (by simp;omega)
     refine q p5 _ (e1.trans (e2.trans (e3.trans (e4.trans (same_new hp5 _))))) ((e1.trans (e2.trans (e3.trans e4))).free hp5) ⟨n / 2::(ms++[x]),by simp,by simp;omega,?_⟩
     rw[upd_same,hms]
     simp
    ·exact last _ _ (Same.refl _) rfl
  ·exact last _ _ (Same.refl _) rfl
end
end Fw
namespace L2
open PySem PySem.Spec PyProof.Rows
def rUp:V→List V→Hp→VK→Prop:=fun x xs H Q=>∃z,x=.str z∧xs=[]∧(Txt.upper z).length≤1000∧Q (.str (Txt.upper z)) H
theorem mt_upper {X:Cx}:MtR X "str.upper" rUp:=by
 intro pins s σ H x xs v us Q I rx rs h
 obtain⟨z,rfl,rfl,hl,q⟩:=h
 obtain⟨t,rfl⟩:=rx
 cases rs
 exact SC.upper (by unfold Builtin.Str.tooLong;exact decide_eq_false (by have:=sizeLine_eq;omega)) ⟨.str _,H,I.tok _,⟨_,rfl⟩,q⟩
end L2
namespace Fw
open PySem PySem.Spec PyProof.Rows L2
theorem slice_mem {x:Str}{l u:Option Int}{c:Nat}(h:c∈(Txt.slice x l u).cps.toList):c∈x.cps.toList:=by
 unfold Txt.slice at h
 split at h
 ·exact h
 ·simp only[List.mem_filterMap]at h
  obtain⟨i,_,hi⟩:=h
  exact Array.mem_toList_iff.mpr (Array.mem_of_getElem? hi)
def Lets (z:Str):Prop:=∀c∈z.cps.toList,97≤c∧c≤122
theorem Lets.app {a b:Str}(ha:Lets a)(hb:Lets b):Lets (a++b):=fun c hc=>by
 rw[cps_app]at hc
 rcases List.mem_append.mp hc with h|h
 ·exact ha c h
 ·exact hb c h
theorem Lets.one {c:Nat}(h:c∈smallS.cps.toList):Lets ⟨#[c]⟩:=fun d hd=>by
 have e:d=c:=by simpa using hd
 subst e
 exact small_range (decide_eq_true h)
theorem one_len (c:Nat):(⟨#[c]⟩:Str).length=1:=rfl
theorem upper_len:∀(l:List Nat),(∀c∈l,c<128)→(Txt.upper ⟨l.toArray⟩).length=l.length
 |[],_=>by decide+kernel
 |c::r,h=>by
  have e:(⟨(c::r).toArray⟩:Str)=⟨#[c]⟩++⟨r.toArray⟩:=str_ext (by rw[cps_app];simp)
  rw[e,PySem.W.KOpn.upper_app,len_app,PySem.W.KOpn.upper_one (h c List.mem_cons_self),upper_len r fun d hd=>h d (List.mem_cons_of_mem _ hd)]
  show 1+r.length=r.length+1
  omega
theorem Lets.upper {z:Str}(h:Lets z):(Txt.upper z).length=z.length:=by
 have e:z=⟨z.cps.toList.toArray⟩:=by simp
 rw[e,upper_len z.cps.toList fun c hc=>by have:=h c hc;omega]
 simp[Str.length]
theorem small_nd:smallS.cps.toList.Nodup:=by decide+kernel
theorem upS:Txt.upper smallS=greatS:=by decide+kernel
theorem great_nd:greatS.cps.toList.Nodup:=by decide+kernel
theorem map_nd {α β:Type}{g:α→β}:∀{l:List α},l.Nodup→(∀a∈l,∀b∈l,g a=g b→a=b)→(l.map g).Nodup
 |[],_,_=>List.nodup_nil
 |a::r,nd,h=>by
  rw[List.nodup_cons]at nd
  rw[List.map_cons,List.nodup_cons]
  refine⟨fun hm=>?_,map_nd nd.2 fun x hx y hy e=>h x (List.mem_cons_of_mem _ hx) y (List.mem_cons_of_mem _ hy) e⟩
  obtain⟨b,hb,e⟩:=List.mem_map.mp hm
  have:=h a List.mem_cons_self b (List.mem_cons_of_mem _ hb) e.symm
  exact nd.1 (this ▸ hb)
theorem app_l {a b b':Str}(h:a++b=a++b'):b=b':=by
 have:=congrArg (fun z:Str=>z.cps.toList) h
 simp only[cps_app]at this
 exact str_ext (List.append_cancel_left this)
theorem app_r {a a' b:Str}(h:a++b=a'++b):a=a':=by
 have:=congrArg (fun z:Str=>z.cps.toList) h
 simp only[cps_app]at this
 exact str_ext (List.append_cancel_right this)
theorem one_inj {c d:Nat}(h:(⟨#[c]⟩:Str)=⟨#[d]⟩):c=d:=by
 injection h with h
 simpa using h
theorem head_one {c d:Nat}{a b:Str}(h:(⟨#[c]⟩:Str)++a=⟨#[d]⟩++b):c=d:=by
 have:=congrArg (fun z:Str=>z.cps.toList) h
 simp only[cps_app]at this
 simpa using(List.cons.inj (show c::a.cps.toList=d::b.cps.toList from this)).1
theorem app_assoc (a b c:Str):a++b++c=a++(b++c):=str_ext (by simp only[cps_app,List.append_assoc])
structure Pool (H:Hp)(st l:Addr)(zs:List Str)(lo hi:Nat):Prop where
 at_:H l=some (.lst (zs.map V.str))
 ne:l≠st
 nd:zs.Nodup
 lo:lo≤zs.length
 hi:zs.length≤hi
 len:∀z∈zs,z.length≤20
theorem Pool.grow {H H':Hp}{st l:Addr}{zs:List Str}{lo hi:Nat}(p:Pool H st l zs lo hi)(g:Grow st H H'):Pool H' st l zs lo hi:=⟨g.1 _ _ p.ne p.at_,p.ne,p.nd,p.lo,p.hi,p.len⟩
theorem Pool.same {H H':Hp}{st l:Addr}{zs:List Str}{lo hi:Nat}(p:Pool H st l zs lo hi)(g:Same H H'):Pool H' st l zs lo hi:=⟨g _ _ p.at_,p.ne,p.nd,p.lo,p.hi,p.len⟩
theorem StOk.fresh {H:Hp}{st l:Addr}(h:StOk H st)(hl:H l=none):l≠st:=by
 obtain⟨ns,_,_,h3⟩:=h
 intro e
 rw[e,h3]at hl
 cases hl
def letter (k:Nat):Nat:=smallS.cps.toList.getD k 0
theorem letter_at {k:Nat}(h:k<26):smallS.cps.toList[k]?=some (letter k):=by
 have:k<smallS.cps.toList.length:=by rw[len_toList,smallS_len];exact h
 unfold letter
 rw[List.getD_eq_getElem?_getD,List.getElem?_eq_getElem this]
 rfl
theorem letter_inj {a b:Nat}(ha:a<26)(hb:b<26)(h:letter a=letter b):a=b:=by
 have:∀a<26,∀b<26,letter a=letter b→a=b:=by decide+kernel
 exact this a ha b hb h
theorem letter_lo {a:Nat}(ha:a<26):letter a∈smallS.cps.toList∧97≤letter a∧letter a≤122:=by
 have:∀a<26,letter a∈smallS.cps.toList∧97≤letter a∧letter a≤122:=by decide+kernel
 exact this a ha
def qs (zs:List Str):List Str:=(zs.filter fun z=>!decide ((z++("q":Str):Str)∈zs)).map fun z=>(z++("q":Str):Str)
theorem qs_nd {zs:List Str}(h:zs.Nodup):(zs++qs zs).Nodup:=by
 rw[List.nodup_append]
 refine⟨h,map_nd (h.sublist List.filter_sublist) fun a _ b _ e=>app_r e,fun a ha b hb e=>?_⟩
 obtain⟨c,hc,rfl⟩:=List.mem_map.mp hb
 have:=(List.mem_filter.mp hc).2
 rw[e]at ha
 simp[ha]at this
theorem qs_len (zs:List Str):(qs zs).length≤zs.length:=by unfold qs;rw[List.length_map];exact List.length_filter_le _ _
structure WordsAt (H:Hp)(st:Addr)(wv:V)(ss gs as:List Str):Prop where
 has:∃wa ls lg la:Addr,wv=.ref wa∧wa≠st∧H wa=some (.dK [(Sum.inr "small", .ref ls),(Sum.inr "great", .ref lg),(Sum.inr "any", .ref la)])∧Pool H st ls ss 26 52∧Pool H st lg gs 26 52∧Pool H st la as 26 26
theorem q_len:("q":Str).length=1:=by decide+kernel
theorem comp_lst {K:PySem.W.Frag}{H:Hp}{a:Addr}{xs:List V}{tt:TT}{te:TE}{σ':L2.St}{Q:VK}(Pv:Nat→List V→Hp→Prop)(h0:Pv 0 [] H)(hl:∀i vs H,i≤xs.length→Pv i vs H→SqL K H a xs∧vs.length<sizeLine)
  (hs:∀i x vs H2,i<xs.length→xs[i]?=some x→Pv i vs H2→tt (some x::σ') H2 fun b H4=>if b=true then te (some x::σ') H4 fun v H5=>Nx xs.length i (Pv (i+1) (vs++[v]) H5) else Nx xs.length i (Pv (i+1) vs H4))
  (hd:∀vs H2,Pv xs.length vs H2→∀l,H2 l=none→Q (.ref l) (upd H2 l (.lst vs))):CompW (Itl K a) tt te σ' Q H:=by
 refine⟨fun i m vs H=>m=xs.length-i∧i≤xs.length∧Pv i vs H,⟨xs.length,by simp,Nat.zero_le _,h0⟩,?_⟩
 rintro i m vs H2 ⟨rfl,hi,p⟩
 obtain⟨q1,q2⟩:=hl i vs H2 hi p
 refine⟨q2,?_⟩
 by_cases hlt:i<xs.length
 ·refine .inr ⟨⟨xs,xs[i],q1,by simp[hlt]⟩,?_⟩
  rintro x H3 ⟨e,y⟩
  subst e
  exact hs i x vs _ hlt (y xs q1) p
 ·have e:i=xs.length:=by exact Nat.le_antisymm hi (Nat.not_lt.mp hlt)
  subst e
  exact .inl ⟨⟨xs,q1,Nat.le_refl _⟩,hd vs H2 p⟩
theorem pss_weak {X:Cx}{sts:List Stmt}{t t':TS}(h:PSs X sts t)(q:∀D σ H,t' D σ H→t D σ H):PSs X sts t':=fun a b c d e f g=>h a b c d e f (q _ _ _ g)
structure SmW (z:Str):Prop where
 len:z.length≤7
 lets:Lets z
 x:120∈z.cps.toList
structure GrW (z:Str):Prop where
 len:z.length≤7
 at_:∃c r,z.cps.toList=c::r∧65≤c∧c≤90∧∀d∈r,97≤d∧d≤122
theorem small_mem {c:Nat}(h:97≤c∧c≤122):inS smallS c=true:=by
 have:∀i,i<26→inS smallS (97+i)=true:=by decide+kernel
 obtain⟨i,rfl⟩:∃i,c=97+i:=⟨c-97,by omega⟩
 exact this i (by omega)
theorem great_mem {c:Nat}(h:65≤c∧c≤90):inS greatS c=true:=by
 have:∀i,i<26→inS greatS (65+i)=true:=by decide+kernel
 obtain⟨i,rfl⟩:∃i,c=65+i:=⟨c-65,by omega⟩
 exact this i (by omega)
theorem small_of {z:Str}(h1:z.length≤8)(h2:Lets z)(h3:120∈z.cps.toList):smallB z=true∧120∈z.cps.toList:=by
 refine⟨?_,h3⟩
 have l:=len_toList z
 have:1≤z.cps.toList.length:=List.length_pos_of_mem h3
 unfold smallB okLen allS
 rw[decide_eq_true (show 1≤z.length by omega),decide_eq_true h1,List.all_eq_true.mpr fun c hc=>small_mem (h2 c hc)];rfl
theorem great_of {z:Str}(h1:z.length≤8){c:Nat}{r:List Nat}(e:z.cps.toList=c::r)(h2:65≤c∧c≤90)(h3:∀d∈r,97≤d∧d≤122):greatB z=true:=by
 have l:=len_toList z
 rw[e,List.length_cons]at l
 unfold greatB okLen allS restS
 rw[e,decide_eq_true (show 1≤z.length by omega),decide_eq_true h1,List.getD_cons_zero,great_mem h2]
 have:(⟨((c::r).drop 1).toArray⟩:Str).cps.toList.all (inS smallS)=true:=List.all_eq_true.mpr fun d hd=>small_mem (h3 d (by simpa using hd))
 rw[this];rfl
theorem q_cps:("q":Str).cps.toList=[113]:=by decide+kernel
theorem x_cps:("x":Str).cps.toList=[120]:=by decide+kernel
theorem qm_cps:("?":Str).cps.toList=[63]:=by decide+kernel
theorem lets_q:Lets "q":=fun c hc=>by rw[q_cps]at hc;rw[List.mem_singleton.mp hc];decide
theorem lets_x:Lets "x":=fun c hc=>by rw[x_cps]at hc;rw[List.mem_singleton.mp hc];decide
theorem SmW.ok {z:Str}(h:SmW z):smallB z=true∧120∈z.cps.toList:=small_of (by have:=h.len;omega) h.lets h.x
theorem SmW.q {z:Str}(h:SmW z):smallB (z++"q")=true∧120∈(z++"q":Str).cps.toList:=small_of (by have:=h.len;rw[len_app,q_len];omega) (h.lets.app lets_q) (by rw[cps_app];exact List.mem_append_left _ h.x)
theorem GrW.ok {z:Str}(h:GrW z):greatB z=true:=by
 obtain⟨c,r,e,h1,h2,h3⟩:=h.at_
 exact great_of (by have:=h.len;omega) e ⟨h1,h2⟩ h3
theorem GrW.q {z:Str}(h:GrW z):greatB (z++"q")=true:=by
 obtain⟨c,r,e,h1,h2,h3⟩:=h.at_
 refine great_of (c:=c) (r:=r++[113]) (by have:=h.len;rw[len_app,q_len];omega) (by rw[cps_app,e,q_cps];rfl) ⟨h1,h2⟩ fun d hd=>?_
 rcases List.mem_append.mp hd with hd|hd
 ·exact h3 d hd
 ·rw[List.mem_singleton.mp hd];decide
theorem lets_slice {z:Str}(h:Lets z)(l u:Option Int):Lets (Txt.slice z l u):=fun c hc=>h c (slice_mem hc)
structure WdP (ss gs as:List Str):Prop where
 s:∀z∈ss,smallB z=true∧120∈z.cps.toList
 g:∀z∈gs,greatB z=true
 a:∀z∈as,openB z=true∧46∉z.cps.toList
theorem comp_letters {x:Str}{te:TE}{σ':L2.St}{Q:VK}{H:Hp}(g:Nat→Str)(hx:x.length≤100)(he:∀c∈x.cps.toList,∀Q':VK,Q' (.str (g c)) H→te (some (.str ⟨#[c]⟩)::σ') H Q')
  (hd:∀l,H l=none→Q (.ref l) (upd H l (.lst ((x.cps.toList.map g).map V.str)))):CompW (Its x) tTrue te σ' Q H:=by
 have sz:x.cps.size=x.cps.toList.length:=by simp
 have lx:=len_toList x
 refine comp_str (fun i vs H'=>H'=H∧vs=((x.cps.toList.take i).map g).map V.str) ⟨rfl,rfl⟩ ?_ ?_ ?_
 ·rintro i vs H' hi ⟨rfl,rfl⟩
  exact small' (by rw[List.length_map,List.length_map,List.length_take];omega)
 ·rintro i vs H' c hi hc ⟨rfl,rfl⟩
  have hc':x.cps.toList[i]?=some c:=by simpa using hc
  refine tt1 (iteT (he c (List.mem_of_getElem? hc') _ (nx hi ⟨rfl,?_⟩)))
  rw[List.take_add_one,hc',List.map_append,List.map_append]
  rfl
 ·rintro vs H' ⟨rfl,rfl⟩ l hl
  rw[sz,List.take_length]
  exact hd l hl
theorem comp_rangeP {n:Nat}{te:TE}{σ':L2.St}{Q:VK}{H:Hp}(g:Nat→Str)(hn:n≤100)(he:∀k:Nat,k<n→∀Q':VK,Q' (.str (g k)) H→te (some (.int (0+(k:Int)))::σ') H Q')
  (hd:∀l,H l=none→Q (.ref l) (upd H l (.lst (((List.range n).map g).map V.str)))):CompW (Itr 0 n) tTrue te σ' Q H:=by
 refine comp_range (n:=n) (fun i vs H'=>H'=H∧vs=((List.range i).map g).map V.str) ⟨rfl,rfl⟩ ?_ ?_ ?_
 ·rintro i vs H' hi ⟨rfl,rfl⟩
  exact small' (by rw[List.length_map,List.length_map,List.length_range];omega)
 ·rintro i vs H' hi ⟨rfl,rfl⟩
  refine tt1 (iteT (he i hi _ (nx hi ⟨rfl,?_⟩)))
  rw[List.range_succ,List.map_append,List.map_append]
  rfl
 ·rintro vs H' ⟨rfl,rfl⟩ l hl
  exact hd l hl
def tW:TS:=fun D σ H=>∃(st:Addr) (stem:Str) (cut:Int) (ls lg:Addr) (ss gs:List Str),σ=[some (.ref st),some (.str smallS),some (.str stem),some (.int cut),some (.ref ls),some (.ref lg)]∧StOk H st∧Lets stem∧stem.length≤5∧Pool H st ls ss 26 26∧Pool H st lg gs 26 26∧(∀z∈ss,SmW z)∧(∀z∈gs,GrW z)∧
 ∀wv ss' gs' as' H',WordsAt H' st wv ss' gs' as'→WdP ss' gs' as'→Grow st H H'→D.rt wv H'
def spWords:Sp:=fun vs H Q _=>∃(st:Addr),vs=[.ref st]∧StOk H st∧∀wv ss gs as H',WordsAt H' st wv ss gs as→WdP ss gs as→Grow st H H'→Q wv H'
theorem x_len:("x":Str).length=1:=by decide+kernel
theorem a_len:("a":Str).length=1:=by decide+kernel
theorem qm_len:("?":Str).length=1:=by decide+kernel
theorem lets_a:Lets "a":=by
 have:∀c∈("a":Str).cps.toList,97≤c∧c≤122:=by decide+kernel
 exact this
theorem pool_new {H:Hp}{st l:Addr}(h:StOk H st)(hl:H l=none){zs:List Str}{lo hi:Nat}(nd:zs.Nodup)(h1:lo≤zs.length)(h2:zs.length≤hi)(h3:∀z∈zs,z.length≤20):Pool (upd H l (.lst (zs.map V.str))) st l zs lo hi:=⟨upd_same,h.fresh hl,nd,h1,h2,h3⟩
theorem small_l:smallS.cps.toList.length=26:=by rw[len_toList,smallS_len]
theorem great_l:greatS.cps.toList.length=26:=by rw[len_toList,greatS_len]
theorem glue_fold:∀(l:List Str) (acc:Array Nat),(l.foldl (fun acc p=>acc++("":Str).cps++p.cps) acc).toList=acc.toList++(l.map (·.cps.toList)).flatten
 |[],acc=>by simp
 |p::r,acc=>by
  rw[List.foldl_cons,glue_fold r]
  have e:("":Str).cps=#[]:=by decide+kernel
  simp[e]
theorem glue_list (zs:List Str):(Txt.join "" zs).cps.toList=(zs.map (·.cps.toList)).flatten:=by
 cases zs with
 |nil=>decide+kernel
 |cons z r=>
  show(r.foldl (fun acc p=>acc++("":Str).cps++p.cps) z.cps).toList=_
  rw[glue_fold]
  simp
theorem flat_one:∀{zs:List Str},(∀z∈zs,z.length=1)→((zs.map (·.cps.toList)).flatten).length=zs.length
 |[],_=>rfl
 |z::r,h=>by
  rw[List.map_cons,List.flatten_cons,List.length_append,flat_one fun x hx=>h x (List.mem_cons_of_mem _ hx),len_toList,h z List.mem_cons_self]
  show 1+r.length=r.length+1
  omega
theorem join_lets {zs:List Str}(h:∀z∈zs,z.length=1∧Lets z):Lets (Txt.join "" zs)∧(Txt.join "" zs).length=zs.length:=by
 constructor
 ·intro c hc
  rw[glue_list]at hc
  obtain⟨l,hl,hm⟩:=List.mem_flatten.mp hc
  obtain⟨z,hz,rfl⟩:=List.mem_map.mp hl
  exact(h z hz).2 c hm
 ·rw[←len_toList,glue_list]
  exact flat_one fun z hz=>(h z hz).1
theorem sum_one:∀{zs:List Str},(∀z∈zs,z.length=1)→(zs.map (·.length)).sum=zs.length
 |[],_=>rfl
 |z::r,h=>by
  rw[List.map_cons,List.sum_cons,h z List.mem_cons_self,sum_one fun x hx=>h x (List.mem_cons_of_mem _ hx)]
  show 1+r.length=r.length+1
  omega
theorem sl_len (z:Str)(l u:Option Int):(Txt.slice z l u).length≤z.length:=Txt.slice_le z l u
theorem str_to (z:Str)(k:Nat)(h:k≤z.length):(Txt.slice z none (some (k:Int))).cps.toList=z.cps.toList.take k:=by
 have q:=eq_of_beq (slice_closes_toL (x:=z) (j:=k) (by omega) (by omega))
 rw[q]
 simp
theorem str_from (z:Str)(k:Nat)(h:k≤z.length):(Txt.slice z (some (k:Int)) none).cps.toList=z.cps.toList.drop k:=by
 have q:=eq_of_beq (slice_closes_fromL (x:=z) (i:=k) (b:=z.length) (by omega) (by omega) rfl)
 rw[q]
 have e:((z.length:Int)-k).toNat=(z.cps.toList.drop k).length:=by
  rw[List.length_drop,len_toList]
  omega
 rw[e]
 show(List.take (z.cps.toList.drop k).length (z.cps.toList.drop (k:Int).toNat))=_
 rw[Int.toNat_natCast,List.take_length]
theorem lets_one {c:Nat}(h:97≤c∧c≤122):Lets ⟨#[c]⟩:=fun d hd=>by
 have:d=c:=by simpa using hd
 omega
theorem wdp_of {ss gs:List Str}{stem:Str}(h15:∀z∈ss,SmW z)(g15:∀z∈gs,GrW z)(lets:Lets stem):WdP (ss++qs ss) (gs++qs gs) (smallS.cps.toList.map (fun c=>("?":Str)++⟨#[c]⟩++stem)):=by
 refine⟨fun z hz=>?_,fun z hz=>?_,fun z hz=>?_⟩
 ·rcases List.mem_append.mp hz with hz|hz
  ·exact(h15 z hz).ok
  ·obtain⟨y,hy,rfl⟩:=List.mem_map.mp hz
   exact(h15 y (List.mem_filter.mp hy).1).q
 ·rcases List.mem_append.mp hz with hz|hz
  ·exact(g15 z hz).ok
  ·obtain⟨y,hy,rfl⟩:=List.mem_map.mp hz
   exact(g15 y (List.mem_filter.mp hy).1).q
 ·obtain⟨c,hc,rfl⟩:=List.mem_map.mp hz
  have hc:=(show ∀d∈smallS.cps.toList,97≤d∧d≤122 by decide+kernel) c hc
  have e:(("?":Str)++⟨#[c]⟩++stem:Str).cps.toList=63::c::stem.cps.toList:=by rw[cps_app,cps_app,qm_cps];rfl
  refine⟨by unfold openB;rw[e];rfl,fun h=>?_⟩
  rw[e]at h
  rcases List.mem_cons.mp h with h|h
  ·cases h
  rcases List.mem_cons.mp h with h|h
  ·omega
  ·have:=lets 46 h;omega
theorem sm_k {stem:Str}(lets:Lets stem)(l5:stem.length≤5){k:Nat}(hk:k<26)(u:Option Int):SmW ((⟨#[letter k]⟩:Str)++"x"++Txt.slice stem none u):=by
 refine⟨?_,((lets_one (letter_lo hk).2).app lets_x).app (lets_slice lets _ _),by rw[cps_app,cps_app,x_cps];simp⟩
 have:=sl_len stem none u
 rw[len_app,len_app,one_len,x_len];omega
theorem gr_k {stem:Str}(lets:Lets stem)(l5:stem.length≤5){k:Nat}(hk:k<26)(u:Option Int):GrW (Txt.upper ⟨#[letter k]⟩++Txt.slice stem none u):=by
 have lo:=(letter_lo hk).2
 have ul:(Txt.upper ⟨#[letter k]⟩).length=1:=(Lets.one (letter_lo hk).1).upper
 have:=sl_len stem none u
 refine⟨by rw[len_app,ul];omega,letter k-32,(Txt.slice stem none u).cps.toList,?_,by omega,by omega,lets_slice lets _ _⟩
 rw[PySem.W.KOpn.upper_one (by omega),if_pos lo,cps_app];rfl
theorem sm_c {stem:Str}(lets:Lets stem)(l5:stem.length≤5){c:Nat}(hc:c∈smallS.cps.toList){cut:Int}(c0:0≤cut)(c1:cut<(stem.length:Int)+1):SmW (Txt.slice stem none (some cut)++"x"++(⟨#[c]⟩:Str)++Txt.slice stem (some cut) none):=by
 have lc:=(show ∀d∈smallS.cps.toList,97≤d∧d≤122 by decide+kernel) c hc
 obtain⟨n,rfl⟩:∃n:Nat,cut=n:=⟨cut.toNat,by omega⟩
 have hn:n≤stem.length:=by omega
 have e1:=str_to stem n hn
 have e2:=str_from stem n hn
 have ls:=len_toList stem
 refine⟨?_,(((lets_slice lets _ _).app lets_x).app (lets_one lc)).app (lets_slice lets _ _),by rw[cps_app,cps_app,cps_app,x_cps];simp⟩
 rw[len_app,len_app,len_app,x_len,one_len,←len_toList,←len_toList (Txt.slice stem (some (n:Int)) none),e1,e2,List.length_take,List.length_drop];omega
theorem gr_c {stem:Str}(lets:Lets stem)(l5:stem.length≤5){c:Nat}(hc:c∈greatS.cps.toList):GrW ((⟨#[c]⟩:Str)++stem):=by
 have lc:=(show ∀d∈greatS.cps.toList,65≤d∧d≤90 by decide+kernel) c hc
 exact⟨by rw[len_app,one_len];omega,c,stem.cps.toList,by rw[cps_app];rfl,lc.1,lc.2,lets⟩
theorem gr_u {stem:Str}(lets:Lets stem)(l5:stem.length≤5){c:Nat}(hc:c∈smallS.cps.toList):GrW (Txt.upper (Txt.slice (stem++"a") none (some 1))++(⟨#[c]⟩:Str)++Txt.slice stem (some 1) none):=by
 have lc:=(show ∀d∈smallS.cps.toList,97≤d∧d≤122 by decide+kernel) c hc
 have la:=lets.app lets_a
 have l6:1≤(stem++"a":Str).length:=by rw[len_app,a_len];omega
 have e1:=str_to (stem++"a") 1 l6
 have l6':=len_toList (stem++"a":Str)
 obtain⟨d,r,e⟩:∃d r,(stem++"a":Str).cps.toList=d::r:=by
  cases e:(stem++"a":Str).cps.toList with
  |nil=>rw[e]at l6';simp at l6';omega
  |cons d r=>exact⟨d,r,rfl⟩
 have ld:=la d (by rw[e];simp)
 rw[e]at e1
 have es:Txt.slice (stem++"a") none (some 1)=⟨#[d]⟩:=str_ext (by rw[show((1:Int))=((1:Nat):Int) from rfl,e1];rfl)
 rw[es,PySem.W.KOpn.upper_one (by omega),if_pos ld]
 have s3:(Txt.slice stem (some 1) none).length≤5:=by have:=sl_len stem (some 1) none;omega
 refine⟨by rw[len_app,len_app,one_len,one_len];omega,d-32,c::(Txt.slice stem (some 1) none).cps.toList,by rw[cps_app,cps_app];rfl,by omega,by omega,fun x hx=>?_⟩
 rcases List.mem_cons.mp hx with rfl|hx
 ·exact lc
 ·exact lets_slice lets _ _ x hx
theorem comp_q {K:PySem.W.Frag}{H:Hp}{l:Addr}{zs:List Str}{te:TE}{tt:TT}{σ':L2.St}{Q:VK}(hl:H l=some (.lst (zs.map V.str)))(hz:zs.length≤1000)
  (ht:∀z∈zs,∀Q':Bool→Hp→Prop,Q' (!decide ((z++("q":Str):Str)∈zs)) H→tt (some (.str z)::σ') H Q') (he:∀z∈zs,∀Q':VK,Q' (.str (z++"q")) H→te (some (.str z)::σ') H Q')
  (hd:∀p,H p=none→Q (.ref p) (upd H p (.lst ((qs zs).map V.str)))):CompW (Itl K l) tt te σ' Q H:=by
 refine comp_lst (xs:=zs.map V.str) (fun i vs H'=>H'=H∧vs=((((zs.take i).filter fun z=>!decide ((z++("q":Str):Str)∈zs)).map fun z=>(z++("q":Str):Str))).map V.str) ⟨rfl,rfl⟩ ?_ ?_ ?_
 ·rintro i vs H' hi ⟨rfl,rfl⟩
  refine⟨SqL.of hl,small' ?_⟩
  rw[List.length_map,List.length_map]
  have:=List.length_filter_le (fun z=>!decide ((z++("q":Str):Str)∈zs)) (zs.take i)
  rw[List.length_take]at this
  omega
 ·rintro i x vs H' hi hx ⟨rfl,rfl⟩
  rw[List.getElem?_map]at hx
  cases ez:zs[i]? with
  |none=>rw[ez]at hx;cases hx
  |some z=>
  rw[ez]at hx
  cases hx
  have zm:=List.mem_of_getElem? ez
  have et:(zs.take (i+1)).filter (fun z=>!decide ((z++("q":Str):Str)∈zs))=(zs.take i).filter (fun z=>!decide ((z++("q":Str):Str)∈zs))++(if(!decide ((z++("q":Str):Str)∈zs))=true then[z] else[]):=by
   rw[List.take_add_one,ez,List.filter_append]
   congr 1
   show List.filter _ [z]=_
   rw[List.filter_cons,List.filter_nil]
  refine ht z zm _ ?_
  by_cases c:(!decide ((z++("q":Str):Str)∈zs))=true
  ·rw[if_pos c]at et
   rw[if_pos c]
   refine he z zm _ (nx hi ⟨rfl,?_⟩)
   rw[et,List.map_append,List.map_append]
   rfl
  ·rw[if_neg c,List.append_nil]at et
   rw[if_neg c]
   exact nx hi ⟨rfl,by rw[et]⟩
 ·rintro vs H' ⟨rfl,rfl⟩ p hp
  rw[List.length_map,List.take_length]
  exact hd p hp
theorem keys3:("small":Str)≠"great"∧("small":Str)≠"any"∧("great":Str)≠"any":=by decide+kernel
theorem merge3 (a b c:V):mergeK [] ([(Sum.inr "small",a),(Sum.inr "great",b),(Sum.inr "any",c)]:List (Key×V))=([(Sum.inr "small",a),(Sum.inr "great",b),(Sum.inr "any",c)]:List (Key×V)):=by
 obtain⟨h1,h2,h3⟩:=keys3
 have e1:¬((Sum.inr ("small":Str):Key)=Sum.inr ("great":Str)):=fun e=>h1 (Sum.inr.inj e)
 have e2:¬((Sum.inr ("small":Str):Key)=Sum.inr ("any":Str)):=fun e=>h2 (Sum.inr.inj e)
 have e3:¬((Sum.inr ("great":Str):Key)=Sum.inr ("any":Str)):=fun e=>h3 (Sum.inr.inj e)
 simp only[mergeK,putK,List.foldl_cons,List.foldl_nil,List.any_nil,List.any_cons,Bool.false_eq_true,if_false,List.nil_append,List.cons_append,decide_eq_false e1,decide_eq_false e2,decide_eq_false e3,Bool.or_false,Bool.false_or]
section
variable {P:Program}{w:World}{K:PySem.W.Frag}{mg:Str→Option Value}{base:Heap}{f:Addr}{fd:FuncData}{C:Addr}
abbrev s_words:Stmt:=top 75
abbrev nW:List Str:=["_law_state","_law_letters","_law_stem","_law_cut","_law_small","_law_great"]
theorem sc_words:FnScope nW ["_law_state"] (defScope s_words):=⟨rfl,rfl,rfl,by decide+kernel,rfl,by decide+kernel,by decide+kernel⟩
set_option maxHeartbeats 4000000 in
theorem ok_words (F:Fun K "_law_words" "_law_words" s_words f fd)(ml:mg "len"=none)(mr:mg "range"=none)(h1:Has P w K mg base 1 "_law_next" ["_law_state","_law_many"] spNext):FnOk P w K mg base CX0 2 f fd ["_law_state"] spWords:=by
 refine F.ok sc_words (len:=fun vs H Q E h=>(by obtain⟨st,rfl,_⟩:=h;rfl)) (fun cdv A outer s H vs Q E hr h=>?_)
 obtain⟨st,rfl,hs,q⟩:=h
 refine⟨_,pss_cons (ps_set (i:=1) sc_words.nd rfl (Or.inr rfl) pe_str)
  (pss_cons (ps_set (i:=2) sc_words.nd rfl (Or.inr rfl) (pe_bm PySem.F.plainAttrs_str PySem.F.slot_str_join PySem.F.type_str_join mt_join pe_str (pa_cons
   (pe_lc (defScope s_words) nW ["_law_state","_law_letters"] [0,1] (by decide+kernel) (pi_range1 rfl mr (pa_cons (pcall h1 hr (by decide) rfl (pa_cons (pv 0) (pa_cons pe_int pa_nil))) pa_nil)) (fun C s₀ H₀ ex=>pts_nil)
    (fun C s₀ H₀ ex=>pe_ix ix_str (pv 2) (pcall h1 hr (by decide) rfl (pa_cons (pv 1) (pa_cons pe_int pa_nil))) (fun _ _=>rfl))) pa_nil)))
  (pss_cons (ps_set (i:=3) sc_words.nd rfl (Or.inr rfl) (pcall h1 hr (by decide) rfl (pa_cons (pv 0) (pa_cons (pe_op op_add (pe_callB call_len_str rfl ml PySem.boot_len (pa_cons (pv 2) pa_nil)) pe_int) pa_nil))))
  (pss_cons (ps_set (i:=4) sc_words.nd rfl (Or.inr rfl) (pe_lc (defScope s_words) nW ["_law_stem","_law_cut"] [2,3] (by decide+kernel) (pi_str (pv 1)) (fun C s₀ H₀ ex=>pts_nil)
    (fun C s₀ H₀ ex=>pe_op op_add_str (pe_op op_add_str (pe_op op_add_str (pe_slice sl_str (pv 1) po_none (po_some (pv 2))) pe_str) (pv 0)) (pe_slice sl_str (pv 1) (po_some (pv 2)) po_none))))
  (pss_cons (ps_set (i:=5) sc_words.nd rfl (Or.inr rfl) (pe_lc (defScope s_words) nW ["_law_stem"] [2] (by decide+kernel) (pi_str (pe_bm0 PySem.F.plainAttrs_str PySem.F.slot_str_upper PySem.F.type_str_upper mt_upper (pv 1))) (fun C s₀ H₀ ex=>pts_nil)
    (fun C s₀ H₀ ex=>pe_op op_add_str (pv 0) (pv 1))))
  (pss_cons (ps_if (pt_cmpR op_eq (pcall h1 hr (by decide) rfl (pa_cons (pv 0) (pa_cons pe_int pa_nil))) pe_int (nomark _))
   (pss_one (ps_set (i:=5) sc_words.nd rfl (Or.inr rfl) (pe_lc (defScope s_words) nW ["_law_stem"] [2] (by decide+kernel) (pi_str (pv 1)) (fun C s₀ H₀ ex=>pts_nil)
    (fun C s₀ H₀ ex=>pe_op op_add_str (pe_op op_add_str (show PE _ _ (tBM0 K "str" rUp _) from pe_bm0 PySem.F.plainAttrs_str PySem.F.slot_str_upper PySem.F.type_str_upper mt_upper (pe_slice sl_str (pe_op op_add_str (pv 1) pe_str) po_none (po_some pe_int))) (pv 0)) (pe_slice sl_str (pv 1) (po_some pe_int) po_none))))) pss_nil)
  (pss_weak (t':=tW) (pss_cons (ps_if (pt_cmpR op_eq (pcall h1 hr (by decide) rfl (pa_cons (pv 0) (pa_cons pe_int pa_nil))) pe_int (nomark _))
   (pss_cons (ps_set (i:=4) sc_words.nd rfl (Or.inr rfl) (pe_lc (defScope s_words) nW ["_law_letters","_law_stem"] [1,2] (by decide+kernel) (pi_range1 rfl mr (pa_cons pe_int pa_nil)) (fun C s₀ H₀ ex=>pts_nil)
    (fun C s₀ H₀ ex=>pe_op op_add_str (pe_op op_add_str (pe_ix ix_str (pv 1) (pe_op op_sub pe_int (pv 0)) (fun _ _=>rfl)) pe_str) (pe_slice sl_str (pv 2) po_none (po_some (pe_op op_mod (pe_op op_mul (pv 0) pe_int) pe_int))))))
   (pss_one (ps_set (i:=5) sc_words.nd rfl (Or.inr rfl) (pe_lc (defScope s_words) nW ["_law_letters","_law_stem"] [1,2] (by decide+kernel) (pi_range1 rfl mr (pa_cons pe_int pa_nil)) (fun C s₀ H₀ ex=>pts_nil)
    (fun C s₀ H₀ ex=>pe_op op_add_str (show PE _ _ (tBM0 K "str" rUp _) from pe_bm0 PySem.F.plainAttrs_str PySem.F.slot_str_upper PySem.F.type_str_upper mt_upper (pe_ix ix_str (pv 1) (pe_op op_sub pe_int (pv 0)) (fun _ _=>rfl))) (pe_slice sl_str (pv 2) po_none (po_some (pe_op op_mod (pe_op op_mul (pv 0) pe_int) pe_int)))))))) pss_nil)
  (pss_weak (t':=tW) (pss_cons (ps_set (i:=4) sc_words.nd rfl (Or.inr rfl) (pe_op op_cat (pv 4) (pe_lc (defScope s_words) nW ["_law_small"] [4] (by decide+kernel) (pi_list (pv 4))
    (fun C s₀ H₀ ex=>pts_one (pt_cmpR (r:=rIn K true) op_notIn_seq (pe_op op_add_str (pv 0) pe_str) (pv 1) (by with_unfolding_all rfl))) (fun C s₀ H₀ ex=>pe_op op_add_str (pv 0) pe_str))))
  (pss_cons (ps_set (i:=5) sc_words.nd rfl (Or.inr rfl) (pe_op op_cat (pv 5) (pe_lc (defScope s_words) nW ["_law_great"] [5] (by decide+kernel) (pi_list (pv 5))
    (fun C s₀ H₀ ex=>pts_one (pt_cmpR (r:=rIn K true) op_notIn_seq (pe_op op_add_str (pv 0) pe_str) (pv 1) (by with_unfolding_all rfl))) (fun C s₀ H₀ ex=>pe_op op_add_str (pv 0) pe_str))))
  (pss_one (ps_ret (pe_disp (pps_cons pe_str (pv 4) (pps_cons pe_str (pv 5) (pps_cons pe_str (pe_lc (defScope s_words) nW ["_law_stem"] [2] (by decide+kernel) (pi_str (pv 1)) (fun C s₀ H₀ ex=>pts_nil) (fun C s₀ H₀ ex=>pe_op op_add_str (pe_op op_add_str pe_str (pv 0)) (pv 1))) pps_nil))) rfl rfl (by simp) (by decide)))))) ?q3)) ?q2))))))
  ,?_⟩
 case q3=>
  rintro D σ H ⟨st,stem,cut,ls,lg,ss,gs,rfl,hs,lets,l5,ps,pg,h15,g15,fin⟩
  have s26:=ps.hi
  have g26:=pg.hi
  have ad:∀z∈ss,∀Q':VK,Q' (.str (z++"q")) H→tOp (fun x y H Q=>∃i j,x=.str i∧y=.str j∧i.length+j.length≤sizeLine∧Q (.str (i++j)) H) (tVar 0) (tC (.str "q")) (some (.str z)::[some (.ref ls)]) H Q':=fun z hz Q' q'=>
   ⟨_,rfl,z,"q",rfl,rfl,small (by have:=(h15 z hz).len;rw[q_len];omega),q'⟩
  refine⟨_,rfl,_,rfl,ls,rfl,⟨_,SqL.of ps.at_⟩,comp_q ps.at_ (by omega) (fun z hz Q' q'=>?_) (fun z hz Q' q'=>⟨_,rfl,z,"q",rfl,rfl,small (by have:=(h15 z hz).len;rw[q_len];omega),q'⟩) fun p1 hp1=>?_⟩
  ·refine⟨_,rfl,z,"q",rfl,rfl,small (by have:=(h15 z hz).len;rw[q_len];omega),_,rfl,ls,ss.map V.str,rfl, .inl (SqL.of ps.at_),rfl,flat_strs ss,_,rfl,?_⟩
   rw[inV_str]
   exact q'
  have e1:=same_new hp1 (.lst ((qs ss).map V.str))
  have lq:=qs_len ss
  refine⟨ls,p1,_,_,rfl,rfl,e1 _ _ ps.at_,upd_same,small (by rw[List.length_map,List.length_map];omega),fun p2 hp2=>?_⟩
  rw[←List.map_append]
  have e2:=same_new hp2 (.lst ((ss++qs ss).map V.str))
  have e12:=e1.trans e2
  have hs2:=hs.same e12
  have pg2:=pg.same e12
  have ps2:Pool (upd (upd H p1 (.lst ((qs ss).map V.str))) p2 (.lst ((ss++qs ss).map V.str))) st p2 (ss++qs ss) 26 52:=pool_new (hs.same e1) hp2 (qs_nd ps.nd) (by rw[List.length_append];have:=ps.lo;omega) (by rw[List.length_append];omega) fun z hz=>by
   rcases List.mem_append.mp hz with hz|hz
   ·have:=(h15 z hz).len;omega
   ·obtain⟨y,hy,rfl⟩:=List.mem_map.mp hz
    have:=(h15 y (List.mem_filter.mp hy).1).len
    rw[len_app,q_len];omega
  revert e12 hs2 pg2 ps2
  generalize upd (upd H p1 (.lst ((qs ss).map V.str))) p2 (.lst ((ss++qs ss).map V.str))=H2
  intro e12 hs2 pg2 ps2
  show tSeq _ _ _ [some (.ref st),some (.str smallS),some (.str stem),some (.int cut),some (.ref p2),some (.ref lg)] H2
  refine⟨_,rfl,_,rfl,lg,rfl,⟨_,SqL.of pg2.at_⟩,comp_q pg2.at_ (by omega) (fun z hz Q' q'=>?_) (fun z hz Q' q'=>⟨_,rfl,z,"q",rfl,rfl,small (by have:=(g15 z hz).len;rw[q_len];omega),q'⟩) fun p3 hp3=>?_⟩
  ·refine⟨_,rfl,z,"q",rfl,rfl,small (by have:=(g15 z hz).len;rw[q_len];omega),_,rfl,lg,gs.map V.str,rfl, .inl (SqL.of pg2.at_),rfl,flat_strs gs,_,rfl,?_⟩
   rw[inV_str]
   exact q'
  have e3:=same_new hp3 (.lst ((qs gs).map V.str))
  have lq':=qs_len gs
  refine⟨lg,p3,_,_,rfl,rfl,e3 _ _ pg2.at_,upd_same,small (by rw[List.length_map,List.length_map];omega),fun p4 hp4=>?_⟩
  rw[←List.map_append]
  have e4:=same_new hp4 (.lst ((gs++qs gs).map V.str))
  have e34:=e3.trans e4
  have hs4:=hs2.same e34
  have ps4:=ps2.same e34
  have pg4:Pool (upd (upd H2 p3 (.lst ((qs gs).map V.str))) p4 (.lst ((gs++qs gs).map V.str))) st p4 (gs++qs gs) 26 52:=pool_new (hs2.same e3) hp4 (qs_nd pg.nd) (by rw[List.length_append];have:=pg.lo;omega) (by rw[List.length_append];omega) fun z hz=>by
   rcases List.mem_append.mp hz with hz|hz
   ·have:=(g15 z hz).len;omega
   ·obtain⟨y,hy,rfl⟩:=List.mem_map.mp hz
    have:=(g15 y (List.mem_filter.mp hy).1).len
    rw[len_app,q_len];omega
  revert e34 hs4 ps4 pg4
  generalize upd (upd H2 p3 (.lst ((qs gs).map V.str))) p4 (.lst ((gs++qs gs).map V.str))=H4
  intro e34 hs4 ps4 pg4
  refine fun wa hwa=>?_
  have e5:=same_new hwa (.dK [])
  refine⟨_,rfl,_,rfl,_,rfl,smallS,rfl,comp_letters (fun c=>"?"++⟨#[c]⟩++stem) (by rw[smallS_len];decide) (fun c hc Q' q'=>⟨_,rfl,_,_,rfl,rfl,small (by rw[qm_len,one_len];decide),_,rfl,_,_,rfl,rfl,small (by rw[len_app,qm_len,one_len];omega),q'⟩) fun la hla=>?_⟩
  have e6:=same_new hla (.lst ((smallS.cps.toList.map (fun c=>("?":Str)++⟨#[c]⟩++stem)).map V.str))
  refine⟨e6 _ _ upd_same,[(Sum.inr "small", .ref p2),(Sum.inr "great", .ref p4),(Sum.inr "any", .ref la)],rfl,(by show 3≤15;decide),?_⟩
  rw[merge3]
  have nwl:la≠wa:=fun e=>by rw[e,upd_same]at hla;cases hla
  have nws:wa≠st:=hs4.fresh hwa
  have hla4:H4 la=none:=e5.free hla
  have pa:Pool (upd (upd H4 wa (.dK [])) la (.lst ((smallS.cps.toList.map (fun c=>("?":Str)++⟨#[c]⟩++stem)).map V.str))) st la (smallS.cps.toList.map (fun c=>("?":Str)++⟨#[c]⟩++stem)) 26 26:=pool_new (hs4.same e5) hla (map_nd small_nd fun a _ b _ e=>one_inj (app_l (app_r e))) (by rw[List.length_map,small_l];decide) (by rw[List.length_map,small_l];decide) fun z hz=>by
   obtain⟨c,_,rfl⟩:=List.mem_map.mp hz
   rw[len_app,len_app,qm_len,one_len];omega
  have up:∀{l zs lo hi},Pool (upd (upd H4 wa (.dK [])) la (.lst ((smallS.cps.toList.map (fun c=>("?":Str)++⟨#[c]⟩++stem)).map V.str))) st l zs lo hi→Pool (upd (upd (upd H4 wa (.dK [])) la (.lst ((smallS.cps.toList.map (fun c=>("?":Str)++⟨#[c]⟩++stem)).map V.str))) wa (.dK [(Sum.inr "small", .ref p2),(Sum.inr "great", .ref p4),(Sum.inr "any", .ref la)])) st l zs lo hi:=fun p=>
   ⟨by rw[upd_ne (ne_of p.at_ (e6 _ _ upd_same) (by intro z;cases z))];exact p.at_,p.ne,p.nd,p.lo,p.hi,p.len⟩
  refine fin _ _ _ _ _ ⟨wa,p2,p4,la,rfl,nws,upd_same,up ((ps4.same e5).same e6),up ((pg4.same e5).same e6),up pa⟩ (wdp_of h15 g15 lets) ⟨fun b o hb h=>?_,?_⟩
  ·have hb4:=e34 _ _ (e12 _ _ h)
   rw[upd_ne (ne_of_none hb4 hwa)]
   exact e6 _ _ (e5 _ _ hb4)
  ·obtain⟨ns,n1,n2,n3⟩:=(hs4.same e5).same e6
   exact⟨ns,n1,n2,by rw[upd_ne (Ne.symm nws)];exact n3⟩
 case q2=>
  rintro D σ H ⟨st,stem,cut,ls,lg,ss,gs,rfl,hs,lets,l5,ps,pg,h15,g15,fin⟩
  refine⟨_,rfl,st,3,rfl,hs,by decide,by decide,fun d H1 d0 d1 g1=>?_⟩
  have sl:smallS.length≤1000000:=by rw[smallS_len];decide
  have atk:∀k:Nat,k<26→atI smallS.cps.toList (25-(0+(k:Int)))=some (letter (25-k)):=fun k hk=>by
   rw[show(25-(0+(k:Int)))=((25-k:Nat):Int) by omega]
   exact atI_nat (letter_at (by omega))
  refine⟨rfl,_,rfl,ite2 (fun c=>?_) (fun c=>?_)⟩
  ·refine⟨26,rfl,by decide,by decide,comp_rangeP (n:=26) (fun k=>⟨#[letter (25-k)]⟩++"x"++Txt.slice stem none (some ((0+(k:Int))*5%6))) (by decide) (fun k hk Q' q'=>?_) fun p1 hp1=>?_⟩
   ·have:=sl_len stem none (some ((0+(k:Int))*5%6))
    exact⟨_,rfl,_,rfl,_,_,rfl,rfl,smallS,_,_,rfl,rfl,small sl,atk k hk,_,_,rfl,rfl,small (by rw[one_len,x_len];decide),_,rfl,_,rfl,_,_,rfl,rfl, .inr ⟨by decide,by decide⟩,_,_,rfl,rfl,(by show(0:Int)<6;decide),_,rfl,stem,rfl,small (by omega),_,_,rfl,rfl,small (by rw[len_app,one_len,x_len];omega),q'⟩
   have e1:=same_new hp1 (.lst (((List.range 26).map (fun k=>(⟨#[letter (25-k)]⟩:Str)++"x"++Txt.slice stem none (some ((0+(k:Int))*5%6)))).map V.str))
   have lens:∀z∈(List.range 26).map (fun k=>(⟨#[letter (25-k)]⟩:Str)++"x"++Txt.slice stem none (some ((0+(k:Int))*5%6))),SmW z:=fun z hz=>by
    obtain⟨k,hk,rfl⟩:=List.mem_map.mp hz
    exact sm_k lets l5 (by omega) _
   have ps1:=pool_new (lo:=26) (hi:=26) g1.ok hp1 (map_nd (l:=List.range 26) (g:=fun k=>(⟨#[letter (25-k)]⟩:Str)++"x"++Txt.slice stem none (some ((0+(k:Int))*5%6))) List.nodup_range fun a ha b hb e=>by
    rw[List.mem_range]at ha hb
    rw[app_assoc,app_assoc]at e
    have:=letter_inj (a:=25-a) (b:=25-b) (by omega) (by omega) (head_one e)
    omega) (by simp) (by simp) fun z hz=>by have:=(lens z hz).len;omega
   have hs1:=g1.ok.same e1
   revert e1 ps1 hs1 lens
   generalize (List.range 26).map (fun k=>(⟨#[letter (25-k)]⟩:Str)++"x"++Txt.slice stem none (some ((0+(k:Int))*5%6)))=ss1
   intro e1 lens ps1 hs1
   revert e1 ps1 hs1
   generalize upd H1 p1 (.lst (ss1.map V.str))=H2
   intro e1 ps1 hs1
   refine⟨26,rfl,by decide,by decide,comp_rangeP (n:=26) (fun k=>Txt.upper ⟨#[letter (25-k)]⟩++Txt.slice stem none (some ((0+(k:Int))*5%6))) (by decide) (fun k hk Q' q'=>?_) fun p2 hp2=>?_⟩
   ·have:=sl_len stem none (some ((0+(k:Int))*5%6))
    have ul:(Txt.upper ⟨#[letter (25-k)]⟩).length=1:=(Lets.one (letter_lo (by omega)).1).upper
    exact⟨_,rfl,_,rfl,_,_,rfl,rfl,smallS,_,_,rfl,rfl,small sl,atk k hk,rfl,_,rfl,rfl,by rw[ul];decide,_,rfl,_,rfl,_,_,rfl,rfl, .inr ⟨by decide,by decide⟩,_,_,rfl,rfl,(by show(0:Int)<6;decide),_,rfl,stem,rfl,small (by omega),_,_,rfl,rfl,small (by rw[ul];omega),q'⟩
   have e2:=same_new hp2 (.lst (((List.range 26).map (fun k=>Txt.upper ⟨#[letter (25-k)]⟩++Txt.slice stem none (some ((0+(k:Int))*5%6)))).map V.str))
   have lens2:∀z∈(List.range 26).map (fun k=>Txt.upper ⟨#[letter (25-k)]⟩++Txt.slice stem none (some ((0+(k:Int))*5%6))),GrW z:=fun z hz=>by
    obtain⟨k,hk,rfl⟩:=List.mem_map.mp hz
    exact gr_k lets l5 (by omega) _
   have pg2:=pool_new (lo:=26) (hi:=26) hs1 hp2 (map_nd (l:=List.range 26) (g:=fun k=>Txt.upper ⟨#[letter (25-k)]⟩++Txt.slice stem none (some ((0+(k:Int))*5%6))) List.nodup_range fun a ha b hb e=>by
    rw[List.mem_range]at ha hb
    have la:=(letter_lo (a:=25-a) (by omega)).2
    have lb:=(letter_lo (a:=25-b) (by omega)).2
    rw[PySem.W.KOpn.upper_one (by omega),PySem.W.KOpn.upper_one (by omega),if_pos la,if_pos lb]at e
    have:=head_one e
    have:=letter_inj (a:=25-a) (b:=25-b) (by omega) (by omega) (by omega)
    omega) (by simp) (by simp) fun z hz=>by have:=(lens2 z hz).len;omega
   have g12:Grow st H (upd H2 p2 (.lst (((List.range 26).map (fun k=>Txt.upper ⟨#[letter (25-k)]⟩++Txt.slice stem none (some ((0+(k:Int))*5%6)))).map V.str))):=g1.trans (grow_same g1.ok (e1.trans e2))
   exact⟨st,stem,cut,p1,p2,_,_,rfl,hs1.same e2,lets,l5,ps1.same e2,pg2,lens,lens2,fun wv ss' gs' as' H' W wp g=>fin wv ss' gs' as' H' W wp (g12.trans g)⟩
  ·exact⟨st,stem,cut,ls,lg,ss,gs,rfl,g1.ok,lets,l5,ps.grow g1,pg.grow g1,h15,g15,fun wv ss' gs' as' H' W wp g=>fin wv ss' gs' as' H' W wp (g1.trans g)⟩
 have sl:smallS.length≤1000000:=by rw[smallS_len];decide
 refine⟨rfl,_,rfl,st,6,rfl,hs,by decide,by decide,fun d H1 d0 d1 g1=>⟨_,rfl,by omega,by omega,?_⟩⟩
 refine comp_range (n:=d.toNat) (fun i vs H'=>∃zs:List Str,vs=zs.map V.str∧zs.length=i∧(∀z∈zs,z.length=1∧Lets z)∧Grow st H1 H') ⟨[],rfl,rfl,(fun _ h=>by cases h),Grow.refl g1.ok⟩ ?_ ?_ ?_
 ·rintro i vs H' hi ⟨zs,rfl,lz,_⟩
  exact small' (by rw[List.length_map];omega)
 ·rintro i vs H2 hi ⟨zs,rfl,lz,hz,g2⟩
  refine tt1 (iteT ⟨_,rfl,_,rfl,st,26,rfl,g2.ok,by decide,by decide,fun e H3 e0 e1 g3=>?_⟩)
  obtain⟨c,hc,hm⟩:=at_small e0 e1
  refine⟨smallS,e,c,rfl,rfl,small sl,hc,nx hi ⟨zs++[⟨#[c]⟩],by simp,by simp[lz],fun z hz'=>?_,g2.trans g3⟩⟩
  rcases List.mem_append.mp hz' with h|h
  ·exact hz z h
  ·rw[List.mem_singleton.mp h];exact⟨rfl,Lets.one hm⟩
 rintro vs H2 ⟨zs,rfl,lz,hz,g2⟩ l hl
 have e3:=same_new hl (.lst (zs.map V.str))
 obtain⟨lets,lj⟩:=join_lets hz
 refine⟨"",l,zs,rfl,rfl,upd_same,by rw[sum_one fun z h=>(hz z h).1,show("":Str).length=0 by decide+kernel];omega,?_⟩
 have l5:(Txt.join "" zs).length≤5:=by omega
 have g3:Grow st H (upd H2 l (.lst (zs.map V.str))):=(g1.trans g2).trans (grow_same g2.ok e3)
 revert lets l5 g3
 generalize Txt.join "" zs=stem
 generalize upd H2 l (.lst (zs.map V.str))=H3
 intro lets l5 g3
 refine⟨_,rfl,_,rfl,stem,rfl,small (by omega),_,_,rfl,rfl,st,(stem.length:Int)+1,rfl,g3.ok,by omega,by omega,fun cut H4 c0 c1 g4=>?_⟩
 have g04:=g3.trans g4
 have s1:=sl_len stem none (some cut)
 have s2:=sl_len stem (some cut) none
 refine⟨_,rfl,smallS,rfl,comp_letters (fun c=>Txt.slice stem none (some cut)++"x"++⟨#[c]⟩++Txt.slice stem (some cut) none) (by rw[smallS_len];decide) (fun c hc Q' q'=>⟨_,rfl,_,rfl,cut,rfl,stem,rfl,small (by omega),_,_,rfl,rfl,small (by rw[x_len];omega),_,rfl,_,_,rfl,rfl,small (by rw[len_app,x_len,one_len];omega),_,rfl,_,rfl,cut,rfl,stem,rfl,small (by omega),_,_,rfl,rfl,small (by rw[len_app,len_app,x_len,one_len];omega),q'⟩) fun p5 hp5=>?_⟩
 have e5:=same_new hp5 (.lst ((smallS.cps.toList.map (fun c=>Txt.slice stem none (some cut)++"x"++⟨#[c]⟩++Txt.slice stem (some cut) none)).map V.str))
 have lens5:∀z∈smallS.cps.toList.map (fun c=>Txt.slice stem none (some cut)++"x"++(⟨#[c]⟩:Str)++Txt.slice stem (some cut) none),SmW z:=fun z hz=>by
  obtain⟨c,hc,rfl⟩:=List.mem_map.mp hz
  exact sm_c lets l5 hc c0 c1
 have ps5:=pool_new (lo:=26) (hi:=26) g04.ok hp5 (map_nd (g:=fun c=>Txt.slice stem none (some cut)++"x"++(⟨#[c]⟩:Str)++Txt.slice stem (some cut) none) small_nd fun a _ b _ e=>one_inj (app_l (app_r e))) (by rw[List.length_map,small_l];decide) (by rw[List.length_map,small_l];decide) fun z hz=>by have:=(lens5 z hz).len;omega
 revert e5 ps5 lens5
 generalize smallS.cps.toList.map (fun c=>Txt.slice stem none (some cut)++"x"++(⟨#[c]⟩:Str)++Txt.slice stem (some cut) none)=ss
 intro e5 lens5 ps5
 have g05:Grow st H (upd H4 p5 (.lst (ss.map V.str))):=g04.trans (grow_same g04.ok e5)
 revert e5 ps5 g05
 generalize upd H4 p5 (.lst (ss.map V.str))=H5
 intro e5 ps5 g05
 show tSeq _ _ _ [some (.ref st),some (.str smallS),some (.str stem),some (.int cut),some (.ref p5),none] H5
 refine⟨_,rfl,rfl,smallS,rfl,rfl,by rw[upS,greatS_len];decide,_,rfl,?_⟩
 rw[upS]
 refine comp_letters (fun c=>⟨#[c]⟩++stem) (by rw[greatS_len];decide) (fun c hc Q' q'=>⟨_,rfl,_,rfl,_,_,rfl,rfl,small (by rw[one_len];omega),q'⟩) fun p6 hp6=>?_
 have e6:=same_new hp6 (.lst ((greatS.cps.toList.map (fun c=>(⟨#[c]⟩:Str)++stem)).map V.str))
 have lens6:∀z∈greatS.cps.toList.map (fun c=>(⟨#[c]⟩:Str)++stem),GrW z:=fun z hz=>by
  obtain⟨c,hc,rfl⟩:=List.mem_map.mp hz
  exact gr_c lets l5 hc
 have pg6:=pool_new (lo:=26) (hi:=26) g05.ok hp6 (map_nd (g:=fun c=>(⟨#[c]⟩:Str)++stem) great_nd fun a _ b _ e=>one_inj (app_r e)) (by rw[List.length_map,great_l];decide) (by rw[List.length_map,great_l];decide) fun z hz=>by have:=(lens6 z hz).len;omega
 revert e6 pg6 lens6
 generalize greatS.cps.toList.map (fun c=>(⟨#[c]⟩:Str)++stem)=gs
 intro e6 lens6 pg6
 have g06:Grow st H (upd H5 p6 (.lst (gs.map V.str))):=g05.trans (grow_same g05.ok e6)
 have ps6:=ps5.same e6
 revert e6 pg6 g06 ps6
 generalize upd H5 p6 (.lst (gs.map V.str))=H6
 intro e6 pg6 g06 ps6
 show tSeq _ _ _ [some (.ref st),some (.str smallS),some (.str stem),some (.int cut),some (.ref p5),some (.ref p6)] H6
 refine⟨_,rfl,st,2,rfl,g06.ok,by decide,by decide,fun d7 H7 d70 d71 g7=>⟨rfl,_,rfl,ite2 (fun c=>?_) (fun c=>?_)⟩⟩
 ·have la:=lets.app lets_a
  have lu:(Txt.upper (Txt.slice (stem++"a") none (some 1))).length≤6:=by
   have e:Lets (Txt.slice (stem++"a") none (some 1)):=fun c hc=>la c (slice_mem hc)
   rw[e.upper]
   have:=sl_len (stem++"a") none (some 1)
   rw[len_app,a_len]at this
   omega
  have s3:=sl_len stem (some 1) none
  refine⟨_,rfl,smallS,rfl,comp_letters (fun c=>Txt.upper (Txt.slice (stem++"a") none (some 1))++⟨#[c]⟩++Txt.slice stem (some 1) none) (by rw[smallS_len];decide) (fun c hc Q' q'=>?_) fun p8 hp8=>?_⟩
  ·refine⟨_,rfl,stem,"a",rfl,rfl,small (by rw[a_len];omega),1,rfl,stem++"a",rfl,small (by rw[len_app,a_len];omega),rfl,Txt.slice (stem++"a") none (some 1),rfl,rfl,by omega,?_⟩
   refine⟨_,rfl,Txt.upper (Txt.slice (stem++"a") none (some 1)),⟨#[c]⟩,rfl,rfl,small (by rw[one_len];omega),?_⟩
   exact⟨_,rfl,1,rfl,stem,rfl,small (by omega),_,_,rfl,rfl,small (by rw[len_app,one_len];omega),q'⟩
  have e8:=same_new hp8 (.lst ((smallS.cps.toList.map (fun c=>Txt.upper (Txt.slice (stem++"a") none (some 1))++⟨#[c]⟩++Txt.slice stem (some 1) none)).map V.str))
  have lens8:∀z∈smallS.cps.toList.map (fun c=>Txt.upper (Txt.slice (stem++"a") none (some 1))++(⟨#[c]⟩:Str)++Txt.slice stem (some 1) none),GrW z:=fun z hz=>by
   obtain⟨c,hc,rfl⟩:=List.mem_map.mp hz
   exact gr_u lets l5 hc
  have pg8:=pool_new (lo:=26) (hi:=26) g7.ok hp8 (map_nd (g:=fun c=>Txt.upper (Txt.slice (stem++"a") none (some 1))++(⟨#[c]⟩:Str)++Txt.slice stem (some 1) none) small_nd fun a _ b _ e=>one_inj (app_l (app_r e))) (by rw[List.length_map,small_l];decide) (by rw[List.length_map,small_l];decide) fun z hz=>by have:=(lens8 z hz).len;omega
  exact⟨st,stem,cut,p5,p8,_,_,rfl,g7.ok.same e8,lets,l5,(ps6.grow g7).same e8,pg8,lens5,lens8,fun wv ss' gs' as' H' W wp g=>q wv ss' gs' as' H' W wp (((g06.trans g7).trans (grow_same g7.ok e8)).trans g)⟩
 ·exact⟨st,stem,cut,p5,p6,_,_,rfl,g7.ok,lets,l5,ps6.grow g7,pg6.grow g7,lens5,lens6,fun wv ss' gs' as' H' W wp g=>q wv ss' gs' as' H' W wp ((g06.trans g7).trans g)⟩
end
end Fw
namespace L2
open PySem PySem.Spec PyProof.Rows
section
variable {P:Program}{w:World}{K:PySem.W.Frag}{mg:Str→Option Value}{base:Heap}{N:List Str}{qual:Str}{scope:Scope}{f:Addr}{cd:Value}{A:Around}{outer:List Env}{s:Shared}{H:Hp}{E:XK}
end
end L2
namespace PySem
section
variable {prog:Program}{w:World}{A:Around}{E:Value→Shared→Prop}{s:Shared}{ea:Addr}{oe:Obj}{ws:Array Value}
end
end PySem
namespace L2
open PySem PySem.Spec PyProof.Rows
theorem call_isiP {X:Cx}{ea:Addr}{oe:Obj}(hp:(ea,oe)∈X.pn):CallR X (.builtin "isinstance") (fun xs H Q=>∃C D b,xs=[.ref ea, .ref D]∧oe.cls=.ref C∧ExcCls X.K C∧PySem.W.kitOne X.K (.ref C) (.ref D)=some b∧Q (.bl b) H):=by
 intro pins s σ H xs us Q I r h
 obtain⟨C,D,b,rfl,c,S,k,q⟩:=h
 obtain⟨u,u',rfl,rx,ry⟩:=vals2 r
 cases(show u=Value.ref ea from rx)
 cases(show u'=Value.ref D from ry)
 exact PySem.W.kia_one (kitx_exc S) I.kIn ⟨oe,(I.pin (ea,oe) (List.mem_append_left _ hp)).1,c⟩ k (fun z=>nomatch z) fun tk=>⟨.bl b,H,I.tok tk,rfl,q⟩
open PySem PySem.Spec PyProof.Rows PySem.SeqAt
section
variable {X:Cx}
theorem vals_bools:∀{bs:List Bool} {us:List Value},Vals (bs.map V.bl) us→us=bs.map Value.bool
 |[],us,r=>by cases r;rfl
 |b::bs,us,r=>by
  cases r with
  |cons a c=>rw[List.map_cons,←vals_bools c];cases(show _=Value.bool b from a);rfl
theorem eq_bools (k:Bool)(bs:List Bool):∀y,y∈(bs.map Value.bool).toArray→∀(A:Around) (s:Shared),EqAt A s y (.bool k) (isBoolOf k y):=fun y hy A s=>by
 have hy':y∈bs.map Value.bool:=by simpa using hy
 obtain⟨b,_,rfl⟩:=List.mem_map.mp hy'
 exact EqAt.bool_bool b k
def rCountB:V→List V→Hp→VK→Prop:=fun x vs H Q=>∃(l:Addr) (bs:List Bool) (k:Bool),x=.ref l∧vs=[.bl k]∧H l=some (.lst (bs.map V.bl))∧Q (.int ((bs.countP (·==k):Nat):Int)) H
theorem mt_countB:MtM X "list.count" rCountB:=by
 intro pins s σ H x vs v us Q I rx rv h
 obtain⟨l,bs,k,rfl,rfl,hH,q⟩:=h
 cases rx
 obtain⟨u,rfl,ru⟩:=rv.one
 cases(show u=Value.bool k from ru)
 obtain⟨z,its,n,r,hl,e⟩:=I.lstM hH
 have ei:=vals_bools r
 subst ei
 refine call_meets PySem.F.slot_list_count ⟨_,e,rfl⟩ PySem.F.entry_list_count (PySem.F.args_list_count_2 _ _) (list_countAt l _ n none #[] (.bool k) (isBoolOf k)) ⟨e,fun y hy=>eq_bools k bs y hy _ _,?_⟩
 have ec:((bs.map Value.bool).toArray.toList.countP (isBoolOf k))=bs.countP (·==k):=by
  rw[show(bs.map Value.bool).toArray.toList=bs.map Value.bool from rfl,List.countP_map]
  rfl
 rw[ec]
 exact⟨.int _,H,I.tok _,⟨_,rfl⟩,q⟩
def rIndexB:V→List V→Hp→VK→Prop:=fun x vs H Q=>∃(l:Addr) (bs:List Bool) (k:Bool) (j:Nat),x=.ref l∧vs=[.bl k]∧H l=some (.lst (bs.map V.bl))∧bs[j]?=some k∧(∀m,m<j→bs[m]?=some (!k))∧Q (.int (j:Int)) H
theorem mt_indexB:MtM X "list.index" rIndexB:=by
 intro pins s σ H x vs v us Q I rx rv h
 obtain⟨l,bs,k,j,rfl,rfl,hH,hj,hno,q⟩:=h
 cases rx
 obtain⟨u,rfl,ru⟩:=rv.one
 cases(show u=Value.bool k from ru)
 obtain⟨z,its,n,r,hl,e⟩:=I.lstM hH
 have ei:=vals_bools r
 subst ei
 have hlt:j<bs.length:=(List.getElem?_eq_some_iff.mp hj).1
 have h63:=line63
 rw[List.length_map]at z
 refine call_meets PySem.F.slot_list_index ⟨_,e,rfl⟩ PySem.F.entry_list_index (PySem.F.args_list_index_2 _ _)
  (list_indexAt l _ n none #[] (.bool k) (isBoolOf k) j (by simpa using hlt) (by omega) ?_ ?_) ⟨e,fun y hy=>eq_bools k bs y hy _ _,⟨.int _,H,I.tok _,⟨_,rfl⟩,q⟩⟩
 ·have e1:(bs.map Value.bool).toArray[j]'(by simpa using hlt)=.bool k:=by
   simp only[List.getElem_toArray,List.getElem_map]
   rw[(List.getElem?_eq_some_iff.mp hj).2]
  rw[e1]
  show(k==k)=true
  simp
 ·intro m hm hlt'
  have hm':=hno m hlt'
  have e1:(bs.map Value.bool).toArray[m]'hm=.bool (!k):=by
   simp only[List.getElem_toArray,List.getElem_map]
   rw[(List.getElem?_eq_some_iff.mp hm').2]
  rw[e1]
  show((!k)==k)=false
  cases k<;>rfl
end
theorem call_isiPT {X:Cx}{ea:Addr}{oe:Obj}(hp:(ea,oe)∈X.pn):CallR X (.builtin "isinstance") (fun xs H Q=>∃C T b,xs=[.ref ea, .ty T]∧oe.cls=.ref C∧ExcCls X.K C∧PySem.W.kitOne X.K (.ref C) (.type T)=some b∧Q (.bl b) H):=by
 intro pins s σ H xs us Q I r h
 obtain⟨C,T,b,rfl,c,S,k,q⟩:=h
 obtain⟨u,u',rfl,rx,ry⟩:=vals2 r
 cases(show u=Value.ref ea from rx)
 cases(show u'=Value.type T from ry)
 exact PySem.W.kia_one (kitx_exc S) I.kIn ⟨oe,(I.pin (ea,oe) (List.mem_append_left _ hp)).1,c⟩ k (fun z=>nomatch z) fun tk=>⟨.bl b,H,I.tok tk,rfl,q⟩
theorem call_isiPN {X:Cx}{ea:Addr}{oe:Obj}(hp:(ea,oe)∈X.pn):CallR X (.builtin "isinstance") (fun xs H Q=>∃(C tp:Addr) (ds:List Addr) (b:Bool),xs=[.ref ea, .ref tp]∧oe.cls=.ref C∧ExcCls X.K C∧H tp=some (.tup (ds.map V.ref))∧PySem.W.kitAny X.K (.ref C) (ds.map Value.ref)=some b∧Q (.bl b) H):=by
 intro pins s σ H xs us Q I r h
 obtain⟨C,tp,ds,b,rfl,c,S,et,k,q⟩:=h
 obtain⟨u,u',rfl,rx,ry⟩:=vals2 r
 cases(show u=Value.ref ea from rx)
 cases(show u'=Value.ref tp from ry)
 obtain⟨_,its,rv,o,ho,hc,n,hd⟩:=(show ObjOk X.prog X.w H s.heap tp (.tup (ds.map V.ref)) from I.hok tp _ et)
 have ei:=vals_refs rv
 subst ei
 obtain⟨oc,od,dt,sl⟩:=o
 have hc':oc=.type "tuple":=hc
 have hd':dt=.seq (ds.map Value.ref).toArray n:=hd
 subst hc' hd'
 exact PySem.W.kia_tup (kitx_exc S) I.kIn ⟨oe,(I.pin (ea,oe) (List.mem_append_left _ hp)).1,c⟩ ho k (fun z=>nomatch z) fun tk=>⟨.bl b,H,I.tok tk,rfl,q⟩
end L2
namespace Fw
open PySem PySem.Spec PyProof.Rows L2
def flS:Flt→Str
 |.tw=>"Twice"|.nn=>"NoName"|.nc=>"NoCount"
def eqF:Flt→Flt→Bool
 |.tw, .tw=>true|.nn, .nn=>true|.nc, .nc=>true
 |_,_=>false
def bsF (f:Flt):List Bool:=[eqF f .tw,eqF f .nn,eqF f .nc]
def ixF:Flt→Nat
 |.tw=>0|.nn=>1|.nc=>2
structure ClsK (K:PySem.W.Frag)(mg:Str→Option Value)(CL:Flt→Addr)(CX b1 b2 b3 b4 b5 b6 b7 b8 b9 b10:Addr):Prop where
 iX:mg "FaceError"=some (.ref CX)
 i1:mg "Twice"=some (.ref (CL .tw))
 i2:mg "NoName"=some (.ref (CL .nn))
 i3:mg "NoCount"=some (.ref (CL .nc))
 j1:mg "NoText"=some (.ref b1)
 j2:mg "NoKind"=some (.ref b2)
 j3:mg "NoFace"=some (.ref b3)
 j4:mg "Stuck"=some (.ref b4)
 j5:mg "TooGreat"=some (.ref b5)
 j6:mg "TooLong"=some (.ref b6)
 j7:mg "TooDeep"=some (.ref b7)
 j8:mg "NoTie"=some (.ref b8)
 j9:mg "NoRow"=some (.ref b9)
 j10:mg "NoProgram"=some (.ref b10)
 iV:mg "ValueError"=none
 iI:mg "isinstance"=none
 ex:∀f,ExcCls K (CL f)
 k:∀f g,PySem.W.kitOne K (.ref (CL f)) (.ref (CL g))=some (eqF f g)
 kV:∀f,PySem.W.kitOne K (.ref (CL f)) (.type "ValueError")=some true
 kA:∀f,PySem.W.kitAny K (.ref (CL f)) ([b1,b2,b3,b4,b5,b6,b7,b8,b9,b10].map Value.ref)=some false
inductive spTold (vs:List V)(H:Hp)(Q:VK)(E_:XK):Prop where
 |mk (p:Addr) (us:List V) (l:List T) (d:Str):vs=[.ref p]→H p=some (.tup us)→Reps H us l→vdM (overM l)=some d→(∀H',Same H H'→Q (.str d) H')→spTold vs H Q E_
theorem vd_some {l:List T}{d:Str}(h:vdM (overM l)=some d):∃R:Ex Sn,overM l=some R∧(match R with|.ok _=>d=""|.error f=>d=flS f):=by
 cases e:overM l with
 |none=>rw[e]at h;cases h
 |some R=>
  rw[e]at h
  cases R with
  |ok s=>cases h;exact⟨_,rfl,rfl⟩
  |error f=>cases f<;>(cases h;exact⟨_,rfl,rfl⟩)
abbrev s_told:Stmt:=top 76
abbrev nTold:List Str:=["_law_program","_law_told_here","e","_law_sorts","_law_others"]
theorem sc_told:FnScope nTold ["_law_program"] (defScope s_told):=⟨rfl,rfl,rfl,by decide+kernel,rfl,by decide+kernel,by decide+kernel⟩
def suiteT:List Stmt:=match(defBody s_told).getD 1 (.Pass ⟨0,0,0,0⟩) with|.Try _ [.ExceptHandler _ _ b _] _ _ _=>b|_=>[]
@[irreducible] def stT0:Stmt:=suiteT.getD 0 (.Pass ⟨0,0,0,0⟩)
@[irreducible] def stT1:Stmt:=suiteT.getD 1 (.Pass ⟨0,0,0,0⟩)
@[irreducible] def stT3:Stmt:=suiteT.getD 3 (.Pass ⟨0,0,0,0⟩)
theorem suiteT_is:suiteT=[stT0,stT1,suiteT.getD 2 (.Pass ⟨0,0,0,0⟩),stT3]:=by
 unfold stT0 stT1 stT3
 rfl
def tT0 (fl:Flt)(ea:Addr):TS:=fun D σ H=>∃v0 v1:V,σ=[some v0,some v1,some (.ref ea),none,none]∧∀(l:Addr) H',Same H H'→H' l=some (.lst ((bsF fl).map V.bl))→D.nx [some v0,some v1,some (.ref ea),some (.ref l),none] H'
def tT1 (fl:Flt)(ea:Addr):TS:=fun D σ H=>∃(v0 v1:V) (l:Addr),σ=[some v0,some v1,some (.ref ea),some (.ref l),none]∧∀H',Same H H'→D.nx [some v0,some v1,some (.ref ea),some (.ref l),some (.bl false)] H'
def tT3 (fl:Flt)(ea:Addr):TS:=fun D σ H=>∃(v0 v1:V) (l:Addr),σ=[some v0,some v1,some (.ref ea),some (.ref l),some (.bl false)]∧H l=some (.lst ((bsF fl).map V.bl))∧∀H',Same H H'→D.nx [some v0,some (.str (flS fl)),some (.ref ea),some (.ref l),some (.bl false)] H'
theorem boot_VE:bootBuiltins "ValueError"=some (.type "ValueError"):=by decide+kernel
theorem pssW {X:Cx}{b:List Stmt}{t t':TS}(h:PSs X b t)(k:∀D σ H,t' D σ H→t D σ H):PSs X b t':=fun pins s σ H D I q=>h pins s σ H D I (k D σ H q)
section
variable {P:Program}{w:World}{K:PySem.W.Frag}{mg:Str→Option Value}{base:Heap}{f CX b1 b2 b3 b4 b5 b6 b7 b8 b9 b10:Addr}{CL:Flt→Addr}{fd:FuncData}{cdv:Value}{A:Around}{outer:List Env}{s:Shared}{H0:Hp}{E:XK}{ea:Addr}{oe:Obj}{pins:List (Addr×Obj)}{fl:Flt}
theorem ClsK.inj (Z:ClsK K mg CL CX b1 b2 b3 b4 b5 b6 b7 b8 b9 b10){o o':Flt}(h:CL o=CL o'):o=o':=by
 have h1:=Z.k o o'
 rw[←h,Z.k o o]at h1
 cases o<;>cases o'<;>first|rfl|(exact absurd (Option.some.inj h1) (by decide))
abbrev TXT (P:Program)(w:World)(K:PySem.W.Frag)(mg:Str→Option Value)(base:Heap)(f:Addr)(cdv:Value)(A:Around)(outer:List Env)(s:Shared)(H:Hp)(E:XK):Cx:=(cxOf CX0 P w K mg base nTold "_law_told" (defScope s_told) f cdv A outer s H E).nox
set_option maxHeartbeats 1000000 in
theorem ps_T0 (Z:ClsK K mg CL CX b1 b2 b3 b4 b5 b6 b7 b8 b9 b10)(hp:(ea,oe)∈pins)(hc:oe.cls=.ref (CL fl)):PSx (cxSuite (TXT P w K mg base f cdv A outer s H0 E) ea pins) stT0 (tT0 fl ea):=by
 unfold stT0
 have hp':(ea,oe)∈(cxSuite (TXT P w K mg base f cdv A outer s H0 E) ea pins).pn:=List.mem_append_right _ hp
 refine x_weak ⟨pset 3 sc_told.nd (pe_lst (pa_cons (pe_callB (call_isiP hp') rfl Z.iI boot_isinstance (pa_cons (pv 2) (pa_cons (pe_glob (v:=.ref (CL .tw)) rfl Z.i1 rfl) pa_nil)))
   (pa_cons (pe_callB (call_isiP hp') rfl Z.iI boot_isinstance (pa_cons (pv 2) (pa_cons (pe_glob (v:=.ref (CL .nn)) rfl Z.i2 rfl) pa_nil)))
   (pa_cons (pe_callB (call_isiP hp') rfl Z.iI boot_isinstance (pa_cons (pv 2) (pa_cons (pe_glob (v:=.ref (CL .nc)) rfl Z.i3 rfl) pa_nil))) pa_nil))))⟩ ?_
 rintro D σ H ⟨v0,v1,rfl,q⟩
 exact⟨_,rfl,CL fl,CL .tw,_,rfl,hc,Z.ex fl,Z.k fl .tw,_,rfl,CL fl,CL .nn,_,rfl,hc,Z.ex fl,Z.k fl .nn,_,rfl,CL fl,CL .nc,_,rfl,hc,Z.ex fl,Z.k fl .nc,sml 3,fun l hl=>q l _ (same_new hl _) upd_same⟩
set_option maxHeartbeats 1000000 in
theorem ps_T1 (Z:ClsK K mg CL CX b1 b2 b3 b4 b5 b6 b7 b8 b9 b10)(hp:(ea,oe)∈pins)(hc:oe.cls=.ref (CL fl)):PSx (cxSuite (TXT P w K mg base f cdv A outer s H0 E) ea pins) stT1 (tT1 fl ea):=by
 unfold stT1
 have hp':(ea,oe)∈(cxSuite (TXT P w K mg base f cdv A outer s H0 E) ea pins).pn:=List.mem_append_right _ hp
 refine x_weak ⟨pset 4 sc_told.nd (pe_callB (call_isiPN hp') rfl Z.iI boot_isinstance (pa_cons (pv 2) (pa_cons (pe_tup (pa_cons (pe_glob (v:=.ref b1) rfl Z.j1 rfl) (pa_cons (pe_glob (v:=.ref b2) rfl Z.j2 rfl) (pa_cons (pe_glob (v:=.ref b3) rfl Z.j3 rfl) (pa_cons (pe_glob (v:=.ref b4) rfl Z.j4 rfl) (pa_cons (pe_glob (v:=.ref b5) rfl Z.j5 rfl) (pa_cons (pe_glob (v:=.ref b6) rfl Z.j6 rfl) (pa_cons (pe_glob (v:=.ref b7) rfl Z.j7 rfl) (pa_cons (pe_glob (v:=.ref b8) rfl Z.j8 rfl) (pa_cons (pe_glob (v:=.ref b9) rfl Z.j9 rfl) (pa_cons (pe_glob (v:=.ref b10) rfl Z.j10 rfl) pa_nil))))))))))) pa_nil)))⟩ ?_
 rintro D σ H ⟨v0,v1,l,rfl,q⟩
 refine⟨_,rfl,sml 10,fun tp htp=>?_⟩
 exact⟨CL fl,tp,[b1,b2,b3,b4,b5,b6,b7,b8,b9,b10],false,rfl,hc,Z.ex fl,upd_same,Z.kA fl,q _ (same_new htp _)⟩
set_option maxHeartbeats 2000000 in
theorem ps_T3 (Z:ClsK K mg CL CX b1 b2 b3 b4 b5 b6 b7 b8 b9 b10)(hp:(ea,oe)∈pins)(hc:oe.cls=.ref (CL fl)):PSx (cxSuite (TXT P w K mg base f cdv A outer s H0 E) ea pins) stT3 (tT3 fl ea):=by
 unfold stT3
 have hp':(ea,oe)∈(cxSuite (TXT P w K mg base f cdv A outer s H0 E) ea pins).pn:=List.mem_append_right _ hp
 refine x_weak ⟨ps_if (PW.pt (pw_and (pt_cmpR op_eq (pe_bm PySem.F.plainAttrs_list PySem.F.slot_list_count PySem.F.type_list_count mt_countB (pv 3) (pa_cons pe_bl pa_nil)) pe_int (nomark _))
    (pw_and (pt_val (pe_callB (call_isiPT hp') rfl Z.iI boot_isinstance (pa_cons (pv 2) (pa_cons (pe_bltn (v:=.ty "ValueError") rfl Z.iV boot_VE rfl) pa_nil))))
    (pw_and1 (pt_not (pt_val (pv 4)))))))
   (pss_one (pset 1 sc_told.nd (pe_ix (ixL K) (pe_lst (pa_cons pe_str (pa_cons pe_str (pa_cons pe_str pa_nil)))) (pe_bm PySem.F.plainAttrs_list PySem.F.slot_list_index PySem.F.type_list_index mt_indexB (pv 3) (pa_cons pe_bl pa_nil))))) pss_nil⟩ ?_
 rintro D σ H ⟨v0,v1,l,rfl,hl,q⟩
 have hno:∀m:Nat,m<ixF fl→(bsF fl)[m]?=some (!true):=fun m hm=>by
  have hm':m=0∨m=1:=by cases fl<;>simp only[ixF]at hm<;>omega
  rcases hm' with rfl|rfl<;>cases fl<;>first|rfl|exact absurd hm (by decide)
 refine⟨_,rfl, .inl ⟨rfl,_,SqL.of hl⟩,l,bsF fl,true,rfl,rfl,hl,(by cases fl<;>rfl),_,rfl,ite2 (fun _=>?_) (fun c=>absurd (by cases fl<;>decide) c)⟩
 refine⟨_,rfl,CL fl,_,_,rfl,hc,Z.ex fl,Z.kV fl,true,rfl,iteT ⟨_,rfl,false,rfl,iteT ⟨sml 3,fun l3 hl3=>?_⟩⟩⟩
 have s2:=same_new hl3 (.lst [.str "Twice", .str "NoName", .str "NoCount"])
 have hl':=s2 _ _ hl
 exact⟨_,rfl, .inl ⟨rfl,_,SqL.of hl'⟩,l,bsF fl,true,ixF fl,rfl,rfl,hl',(by cases fl<;>rfl),hno,l3,_,(ixF fl:Nat), .str (flS fl),rfl,rfl,SqL.of upd_same,atI_nat (j:=ixF fl) (by cases fl<;>rfl),q _ s2⟩
set_option maxHeartbeats 2000000 in
theorem ok_told {fR:Addr}{gR:FuncData}(F:Fun K "_law_told" "_law_told" s_told f fd)(Z:ClsK K mg CL CX b1 b2 b3 b4 b5 b6 b7 b8 b9 b10)(hcat:∀o,CatchOk base (CL o) CX)
  (h1:HasX P w K mg base 10 "look_over" ["program"] (spOver CL)):FnOk P w K mg base CX0 11 f fd ["_law_program"] spTold:=by
 refine F.ok sc_told (fun cdv A outer s H vs Q E hr h=>?_)
 obtain⟨p,us,l,d,rfl,hp,r,hv,q⟩:=h
 obtain⟨fR,gR,GR,bR,kR,mR⟩:=h1
 obtain⟨R,hR,hd⟩:=vd_some hv
 refine⟨_,pss_cons (pset 1 sc_told.nd pe_str)
  (pss_cons (ps_tryQ (X:=TXT P w K mg base f cdv A outer s H E) (i:=2) (D:=CX) (EX:=fun σ Cv _ H'=>∃o,Cv=.ref (CL o)∧R=.error o∧σ=[some (.ref p),some (.str ""),none,none,none]∧Same H H')
   (ts:=fun ea Cc D σ H1=>∃o,Cc=CL o∧σ=[some (.ref p),some (.str ""),some (.ref ea),none,none]∧∀(l:Addr) H',Same H1 H'→D.nx [some (.ref p),some (.str (flS o)),some (.ref ea),some (.ref l),some (.bl false)] H') rfl rfl rfl sc_told.nd rfl rfl rfl Z.iX
   (fun σ C ea H' hE=>by obtain⟨o,z,_⟩:=hE;cases z;exact hcat o)
   (fun pins=>pss_one (ps_if (pt_cmpR op_notN (pe_callTL (X:=TXT P w K mg base f cdv A outer s H E) rfl rfl rfl GR bR kR mR hr rfl (pa_cons (pv 0) pa_nil)) pe_non (nomark _)) (pss_one (pset 1 sc_told.nd pe_str)) pss_nil))
   (fun ea Cc oe pins hp' hoc nb al=>by
    by_cases hC:∃o,Cc=CL o
    ·obtain⟨o,rfl⟩:=hC
     show PSs _ suiteT _
     rw[suiteT_is]
     refine pssW (pss_cons (ps_T0 Z hp' hoc).h (pss_cons (ps_T1 Z hp' hoc).h (pss_cons (pset 1 sc_told.nd pe_str) (pss_one (ps_T3 Z hp' hoc).h)))) ?_
     rintro D σ H1 ⟨o',ho,rfl,q⟩
     cases Z.inj ho
     exact⟨_,_,rfl,fun l H2 s2 hl=>⟨_,_,l,rfl,fun H3 s3=>⟨_,_,l,rfl,s3 _ _ hl,fun H4 s4=>q l H4 (s2.trans (s3.trans s4))⟩⟩⟩
    ·exact pssW pss_never fun D σ H1 h=>absurd (h.elim fun o z=>⟨o,z.1⟩) hC))
  (pss_one (ps_ret (pv 1)))),?_⟩
 refine⟨⟨_,rfl, .mk p us l R rfl hp r hR ?_⟩,?_⟩
 ·cases R with
  |ok sn=>
   cases hd
   exact fun H1 s1=>⟨rfl,_,rfl,iteF ⟨_,rfl,q H1 s1⟩⟩
  |error o=>exact fun ea H1 s1=>⟨o,rfl,rfl,rfl,s1⟩
 ·rintro σ' Cc ea H1 ⟨o,hC,ho,rfl,s1⟩ nea
  cases hC
  subst ho
  cases hd
  exact⟨o,rfl,rfl,fun l H2 s2=>⟨_,rfl,q H2 (s1.trans s2)⟩⟩
end
def goodN (x:Str):Bool:=!(x=="__debug__")&& !(x=="__classdict__")
structure EnvQ (W:Wd)(N:List Str)(ev:Option Dq)(σ:L2.St)(H:Hp):Prop where
 ls:∀(x:Str) (n:Int) (k:Tk),tkS N x n=some k→∃(i:Nat) (p:Addr) (vs:List V),N[i]?=some x∧goodN x=true∧σ[i]?=some (some (V.ref p))∧H p=some (.lst vs)∧atI vs n=some (V.str (evT W k))∧(evT W k).length≤20
 full:∀(d:Dq),ev=some d→∃(i:Nat) (v:V),N[i]?=some ("_law_full":Str)∧σ[i]?=some (some v)∧Rep H v (instQ W d)
theorem EnvQ.same {W:Wd}{N:List Str}{ev:Option Dq}{σ:L2.St}{H H':Hp}(h:EnvQ W N ev σ H)(s:Same H H'):EnvQ W N ev σ H' where
 ls x n k e:=by
  obtain⟨i,p,vs,h1,h2,h3,h4,h5,h6⟩:=h.ls x n k e
  exact⟨i,p,vs,h1,h2,h3,s _ _ h4,h5,h6⟩
 full d e:=by
  obtain⟨i,v,h1,h2,h3⟩:=h.full d e
  exact⟨i,v,h1,h2,h3.same s⟩
def tQd (N:List Str)(n:Nat)(e:Expr):TE:=fun σ H Q=>∃(W:Wd) (ev:Option Dq) (d:Dq),EnvQ W N ev σ H∧qE N ev n e=some d∧∀v H',Same H H'→Rep H' v (instQ W d)→Q v H'
def tQds (N:List Str)(n:Nat)(es:List Expr):TA:=fun σ H Q=>∃(W:Wd) (ev:Option Dq) (d:Dq),EnvQ W N ev σ H∧qEs N ev n es=some d∧∀vs H',Same H H'→Reps H' vs (instsQ W d)→Q vs H'
theorem inst_tq {W:Wd}{t:Dq}(h:isTq t=true):instQ W t=.tup (instsQ W t):=by
 cases t with
 |nil=>rfl
 |cons a b=>rfl
 |t k=>cases h
 |i n=>cases h
theorem instsQ_len {W:Wd}:∀t:Dq,(instsQ W t).length=lenQ t
 |.cons _ t=>congrArg (·+1) (instsQ_len t)
 |.nil=>rfl
 |.t _=>rfl
 |.i _=>rfl
theorem star_q {N:List Str}{ev:Option Dq}{n:Nat}{e:Expr}{d:Dq}(h:qE N ev n e=some d)(es:List Expr)(env:Env):starEach (e::es) env=(false,eval e env)::starEach es env:=by
 cases n with
 |zero=>cases h
 |succ n=>
  have h:qE1 N ev (qEs N ev n) e=some d:=h
  unfold qE1 at h
  split at h<;>first|rfl|cases h
theorem good_full:goodN "_law_full"=true:=by decide+kernel
theorem q_both {X:Cx}{K:PySem.W.Frag}{N:List Str}(hK:X.K=K)(hN:X.N=N)(hv:∀x∈N,Vis X.env.scope x):∀n:Nat,(∀e,PE X e (tQd N n e))∧(∀es,PA X es (tQds N n es)):=by
 have nm:∀{x:Str} {pos:Pos} {k:Nat},N[k]?=some x→goodN x=true→PE X (.Name x pos) (tVar k):=fun{x pos k} h g=>by
  unfold goodN at g
  simp only[Bool.and_eq_true,Bool.not_eq_true']at g
  exact pe_var (by rw[hN];exact h) (hv x (List.mem_of_getElem? h)) g.1 g.2
 intro n
 induction n with
 |zero=>
  refine⟨fun e pins s σ H Q I h=>?_,fun es pos pins s σ H Q I h=>?_⟩
  ·obtain⟨W,ev,d,_,h,_⟩:=h
   cases h
  ·obtain⟨W,ev,d,_,h,_⟩:=h
   cases h
 |succ n ih=>
  obtain⟨ihE,ihA⟩:=ih
  refine⟨fun e pins s σ H Q I h=>?_,fun es=>?_⟩
  ·obtain⟨W,ev,d,en,h,q⟩:=h
   change qE1 N ev (qEs N ev n) e=some d at h
   unfold qE1 at h
   split at h
   ·rename_i z _ _
    split at h
    ·cases h
     exact pe_str pins s σ H Q I (q _ _ (Same.refl H) (.str z (by omega)))
    ·cases h
   ·cases h
    exact pe_int pins s σ H Q I (q _ _ (Same.refl H) (.int _))
   ·rename_i x _
    split at h
    ·rename_i ex
     subst ex
     obtain⟨i,v,h1,h2,h3⟩:=en.full d h
     exact nm h1 good_full pins s σ H Q I ⟨v,h2,q _ _ (Same.refl H) h3⟩
    ·cases h
   ·rename_i x px m _ _ _
    obtain⟨k,hk,e⟩:=Option.map_eq_some_iff.mp h
    subst e
    obtain⟨i,p,vs,h1,h2,h3,h4,h5,h6⟩:=en.ls x m k hk
    exact pe_ix (ixL K hK) (nm h1 h2) pe_int (fun _ _=>rfl) pins s σ H Q I ⟨_,h3,p,vs,m,_,rfl,rfl,SqL.of h4,h5,q _ _ (Same.refl H) (.str _ (by omega))⟩
   ·rename_i x px m _ _ _ z _ _ _ y py l _ _ _ _
    split at h
    ·rename_i ez
     subst ez
     split at h
     ·rename_i a b ea eb
      cases h
      obtain⟨i,p,vs,h1,h2,h3,h4,h5,h6⟩:=en.ls x m _ ea
      obtain⟨j,r,ws,g1,g2,g3,g4,g5,g6⟩:=en.ls y l _ eb
      refine pe_op op_add_str (pe_op op_add_str (pe_ix (ixL K hK) (nm h1 h2) pe_int) pe_str) (pe_ix (ixL K hK) (nm g1 g2) pe_int) pins s σ H Q I
       ⟨_,h3,p,vs,m,_,rfl,rfl,SqL.of h4,h5,evT W (.g a),".",rfl,rfl,small ?_,_,g3,r,ws,l,_,rfl,rfl,SqL.of g4,g5,evT W (.g a)++".",evT W (.w b),rfl,rfl,small ?_,q _ _ (Same.refl H) (.str _ ?_)⟩
      ·have:(".":Str).length=1:=by decide+kernel
       omega
      ·have:(".":Str).length=1:=by decide+kernel
       rw[len_app];omega
      ·have:(".":Str).length=1:=by decide+kernel
       rw[len_app,len_app];omega
     ·cases h
    ·cases h
   ·rename_i es _ _
    obtain⟨t,ht,e⟩:=Option.bind_eq_some_iff.mp h
    split at e
    ·rename_i hl
     cases e
     obtain⟨tp,hl⟩:=hl
     refine pe_tup (ihA es) pins s σ H Q I ⟨W,ev,_,en,ht,fun vs H' s' r=>⟨small (by rw[r.length,instsQ_len];show _≤1000000;omega),fun p hp=>?_⟩⟩
     rw[inst_tq tp]at q
     exact q _ _ (s'.trans (same_new hp _)) (.tup upd_same (r.same (same_new hp _)))
    ·cases e
   ·cases h
  ·cases es with
   |nil=>
    intro pos pins s σ H Q I h
    obtain⟨W,ev,d,_,h,q⟩:=h
    cases h
    exact pa_nil pos pins s σ H Q I (q _ _ (Same.refl H) .nil)
   |cons e es=>
    intro pos pins s σ H Q I h
    obtain⟨W,ev,d,en,h,q⟩:=h
    obtain⟨t,ht,h⟩:=Option.bind_eq_some_iff.mp h
    obtain⟨u,hu,e'⟩:=Option.bind_eq_some_iff.mp h
    cases e'
    exact pa_cons (ihE e) (ihA es) (star_q ht es _) pos pins s σ H Q I ⟨W,ev,t,en,ht,fun v H1 s1 r1=>⟨W,ev,u,en.same s1,hu,fun vs H2 s2 r2=>q _ _ (s1.trans s2) (.cons (r1.same s2) r2)⟩⟩
def bodyTp:List Stmt→Bool
 |[.Return (some (.Tuple _ _ _)) _]=>true
 |_=>false
def seqO (b:Bool)(vs:List V):HO:=match b with|true=>.tup vs|false=>.lst vs
def tQB (N:List Str)(n:Nat)(body:List Stmt):TS:=fun D σ H=>∃(W:Wd) (d:Dq),EnvQ W N none σ H∧N.length=σ.length∧(body.length=2→N[2]?=some ("_law_full":Str))∧qB N n body=some d∧lenQ d≤100∧∀p vs H',Same H H'→H' p=some (seqO (bodyTp body) vs)→Reps H' vs (instsQ W d)→D.rt (.ref p) H'
theorem tkS_ne {N:List Str}{x:Str}{n:Int}{k:Tk}(h:tkS N x n=some k):x≠"_law_full":=by
 unfold tkS at h
 split at h
 ·rename_i c;rw[c.1];decide+kernel
 ·split at h
  ·rename_i c;rw[c.1];decide+kernel
  ·split at h
   ·rename_i c;rw[c.1];decide+kernel
   ·cases h
theorem qB_ps {X:Cx}{K:PySem.W.Frag}{N:List Str}(hK:X.K=K)(hN:X.N=N)(nd:N.Nodup)(hv:∀x∈N,Loc X.env.scope x)(hfn:∀x,X.fn x=true)(n:Nat):∀body,PSs X body (tQB N n body):=by
 have hv':∀x∈N,Vis X.env.scope x:=fun x hx=>(hv x hx).elim .inl fun h=>.inr (.inl h)
 intro body pins s σ H D I h
 obtain⟨W,d,en,hlen,h2,h,hl,q⟩:=h
 unfold qB at h
 split at h
 ·rename_i es _ _ _
  refine pss_one (ps_ret (pe_tup ((q_both hK hN hv' n).2 es))) pins s σ H D I ⟨W,none,d,en,h,fun vs H' s' r=>⟨small (by rw[r.length,instsQ_len];show _≤1000000;omega),fun p hp=>?_⟩⟩
  exact q p vs _ (s'.trans (same_new hp _)) upd_same (r.same (same_new hp _))
 ·rename_i es _ _
  refine pss_one (ps_ret (pe_lst ((q_both hK hN hv' n).2 es))) pins s σ H D I ⟨W,none,d,en,h,fun vs H' s' r=>⟨small (by rw[r.length,instsQ_len];show _≤1000000;omega),fun p hp=>?_⟩⟩
  exact q p vs _ (s'.trans (same_new hp _)) upd_same (r.same (same_new hp _))
 ·rename_i y py es0 x0 x1 pp es p1 p2
  split at h
  ·rename_i ey
   subst ey
   obtain⟨d0,h0,h1⟩:=Option.bind_eq_some_iff.mp h
   have hN2:N[2]?=some ("_law_full":Str):=h2 rfl
   refine pss_cons (ps_set (i:=2) (by rw[hN];exact nd) (by rw[hN];exact hN2) (hv _ (List.mem_of_getElem? hN2)) ((q_both hK hN hv' n).1 (.Tuple es0 x0 x1)) rfl (.inl (hfn _))) (pss_one (ps_ret (pe_lst ((q_both hK hN hv' n).2 es)))) pins s σ H D I ⟨W,none,d0,en,h0,fun v H1 s1 r1=>⟨W,some d0,d,?_,h1,fun vs H' s' r=>⟨small (by rw[r.length,instsQ_len];show _≤1000000;omega),fun p hp=>?_⟩⟩⟩
   ·have l2:2<σ.length:=by rw[←hlen];exact(List.getElem?_eq_some_iff.mp hN2).1
    refine⟨fun x m k e=>?_,fun d e=>?_⟩
    ·obtain⟨i,p,vs,g1,g2,g3,g4,g5,g6⟩:=(en.same s1).ls x m k e
     have ne:2≠i:=fun e2=>by
      subst e2
      rw[hN2]at g1
      exact tkS_ne e (Option.some.inj g1).symm
     exact⟨i,p,vs,g1,g2,by rw[List.getElem?_set_ne ne];exact g3,g4,g5,g6⟩
    ·cases e
     exact⟨2,v,hN2,by rw[List.getElem?_set_self l2],r1⟩
   ·exact q p vs _ (s1.trans (s'.trans (same_new hp _))) upd_same (r.same (same_new hp _))
  ·cases h
 ·cases h
structure WL (W:Wd)(H:Hp)(lw lg lv:Addr):Prop where
 w:∃zs:List Str,H lw=some (.lst (zs.map V.str))∧(∀i,i<13→zs[i]?=some (W.w i))∧∀i,i<13→(W.w i).length≤20
 g:∃zs:List Str,H lg=some (.lst (zs.map V.str))∧(∀i,i<11→zs[i]?=some (W.g i))∧∀i,i<11→(W.g i).length≤20
 v:∃zs:List Str,H lv=some (.lst (zs.map V.str))∧(∀i,i<7→zs[i]?=some (W.v i))∧∀i,i<7→(W.v i).length≤20
theorem WL.same {W:Wd}{H H':Hp}{lw lg lv:Addr}(h:WL W H lw lg lv)(s:Same H H'):WL W H' lw lg lv:=by
 obtain⟨⟨a,a1,a2⟩,⟨b,b1,b2⟩,⟨c,c1,c2⟩⟩:=h
 exact⟨⟨a,s _ _ a1,a2⟩,⟨b,s _ _ b1,b2⟩,⟨c,s _ _ c1,c2⟩⟩
inductive spRows (N:List Str)(body:List Stmt)(k:Nat)(vs:List V)(H:Hp)(Q:VK)(E_:XK):Prop where
 |mk (W:Wd) (lw lg lv:Addr) (d:Dq):vs=([.ref lw, .ref lg, .ref lv]:List V).take k→WL W H lw lg lv→qB N 60 body=some d→lenQ d≤100→(∀p us H',Same H H'→H' p=some (seqO (bodyTp body) us)→Reps H' us (instsQ W d)→Q (.ref p) H')→spRows N body k vs H Q E_
theorem wl_at {H:Hp}{p:Addr}{zs:List Str}{z:Str}{n:Int}(hp:H p=some (.lst (zs.map V.str)))(h0:0≤n)(h:zs[n.toNat]?=some z):atI (zs.map V.str) n=some (.str z):=by
 have e:n=((n.toNat:Nat):Int):=by omega
 rw[e]
 exact atI_nat (by rw[List.getElem?_map,h];rfl)
theorem env3 {W:Wd}{H:Hp}{lw lg lv:Addr}{N:List Str}{σ:L2.St}(wl:WL W H lw lg lv)(h0:N[0]?=some ("_law_w":Str)∧σ[0]?=some (some (V.ref lw)))(h1:N[1]?=some ("_law_g":Str)∧σ[1]?=some (some (V.ref lg)))(h2:("_law_v":Str)∈N→N[2]?=some ("_law_v":Str)∧σ[2]?=some (some (V.ref lv))):EnvQ W N none σ H:=by
 refine⟨fun x n k h=>?_,fun d h=>by cases h⟩
 obtain⟨⟨a,a1,a2,a3⟩,⟨b,b1,b2,b3⟩,⟨c,c1,c2,c3⟩⟩:=wl
 unfold tkS at h
 split at h
 ·rename_i e
  obtain⟨e1,e2,e3,e4⟩:=e
  cases h
  subst e1
  exact⟨0,lw,_,h0.1,by decide+kernel,h0.2,a1,wl_at a1 e3 (a2 _ (by omega)),by have:=a3 n.toNat (by omega);show(W.w n.toNat).length≤20;exact this⟩
 ·split at h
  ·rename_i e
   obtain⟨e1,e2,e3,e4⟩:=e
   cases h
   subst e1
   exact⟨1,lg,_,h1.1,by decide+kernel,h1.2,b1,wl_at b1 e3 (b2 _ (by omega)),by have:=b3 n.toNat (by omega);show(W.g n.toNat).length≤20;exact this⟩
  ·split at h
   ·rename_i e
    obtain⟨e1,e2,e3,e4⟩:=e
    cases h
    subst e1
    exact⟨2,lv,_,(h2 e2).1,by decide+kernel,(h2 e2).2,c1,wl_at c1 e3 (c2 _ (by omega)),by have:=c3 n.toNat (by omega);show(W.v n.toNat).length≤20;exact this⟩
   ·cases h
theorem loc_dec {sc:Scope}{N:List Str}(h:(N.all fun x=>sc.names.lookup x==some .local||sc.names.lookup x==some .cell)=true):∀x∈N,Loc sc x:=fun x hx=>by
 have:=List.all_eq_true.mp h x hx
 simp only[Bool.or_eq_true,beq_iff_eq]at this
 exact this
theorem no_v:("_law_v":Str)∉n2∧("_law_v":Str)∉n2f:=by decide+kernel
section
variable {P:Program}{w:World}{K:PySem.W.Frag}{mg:Str→Option Value}{base:Heap}{f:Addr}{fd:FuncData}
theorem sc_qbase:FnScope n3 n3 (defScope s_base):=⟨rfl,rfl,rfl,by decide+kernel,rfl,by decide+kernel,by decide+kernel⟩
theorem loc_qbase:∀x∈n3,Loc (defScope s_base) x:=loc_dec (by decide+kernel)
theorem ok_qbase (F:Fun K "_law_base" "_law_base" s_base f fd):FnOk P w K mg base CX0 1 f fd n3 (spRows n3 (defBody s_base) 3):=by
 refine F.ok sc_qbase (len:=fun vs H Q E h=>(by obtain⟨W,lw,lg,lv,d,rfl,_⟩:=h;rfl)) (fun cdv A outer s H vs Q E hr h=>?_)
 obtain⟨W,lw,lg,lv,d,rfl,wl,hq,hl,q⟩:=h
 exact⟨_,qB_ps (N:=n3) (K:=K) rfl rfl sc_qbase.nd loc_qbase (fun _=>rfl) 60 _,W,d,env3 wl ⟨rfl,rfl⟩ ⟨rfl,rfl⟩ (fun h=>⟨rfl,rfl⟩),rfl,(fun h=>by cases h),hq,hl,q⟩
theorem sc_qtw:FnScope n3 n3 (defScope s_tw):=⟨rfl,rfl,rfl,by decide+kernel,rfl,by decide+kernel,by decide+kernel⟩
theorem loc_qtw:∀x∈n3,Loc (defScope s_tw) x:=loc_dec (by decide+kernel)
theorem ok_qtw (F:Fun K "_law_twice_rows" "_law_twice_rows" s_tw f fd):FnOk P w K mg base CX0 1 f fd n3 (spRows n3 (defBody s_tw) 3):=by
 refine F.ok sc_qtw (len:=fun vs H Q E h=>(by obtain⟨W,lw,lg,lv,d,rfl,_⟩:=h;rfl)) (fun cdv A outer s H vs Q E hr h=>?_)
 obtain⟨W,lw,lg,lv,d,rfl,wl,hq,hl,q⟩:=h
 exact⟨_,qB_ps (N:=n3) (K:=K) rfl rfl sc_qtw.nd loc_qtw (fun _=>rfl) 60 _,W,d,env3 wl ⟨rfl,rfl⟩ ⟨rfl,rfl⟩ (fun h=>⟨rfl,rfl⟩),rfl,(fun h=>by cases h),hq,hl,q⟩
theorem sc_qnm:FnScope n3 n3 (defScope s_nm):=⟨rfl,rfl,rfl,by decide+kernel,rfl,by decide+kernel,by decide+kernel⟩
theorem loc_qnm:∀x∈n3,Loc (defScope s_nm) x:=loc_dec (by decide+kernel)
theorem ok_qnm (F:Fun K "_law_name_rows" "_law_name_rows" s_nm f fd):FnOk P w K mg base CX0 1 f fd n3 (spRows n3 (defBody s_nm) 3):=by
 refine F.ok sc_qnm (len:=fun vs H Q E h=>(by obtain⟨W,lw,lg,lv,d,rfl,_⟩:=h;rfl)) (fun cdv A outer s H vs Q E hr h=>?_)
 obtain⟨W,lw,lg,lv,d,rfl,wl,hq,hl,q⟩:=h
 exact⟨_,qB_ps (N:=n3) (K:=K) rfl rfl sc_qnm.nd loc_qnm (fun _=>rfl) 60 _,W,d,env3 wl ⟨rfl,rfl⟩ ⟨rfl,rfl⟩ (fun h=>⟨rfl,rfl⟩),rfl,(fun h=>by cases h),hq,hl,q⟩
theorem sc_qct:FnScope n2 n2 (defScope s_ct):=⟨rfl,rfl,rfl,by decide+kernel,rfl,by decide+kernel,by decide+kernel⟩
theorem loc_qct:∀x∈n2,Loc (defScope s_ct) x:=loc_dec (by decide+kernel)
theorem ok_qct (F:Fun K "_law_count_rows" "_law_count_rows" s_ct f fd):FnOk P w K mg base CX0 1 f fd n2 (spRows n2 (defBody s_ct) 2):=by
 refine F.ok sc_qct (len:=fun vs H Q E h=>(by obtain⟨W,lw,lg,lv,d,rfl,_⟩:=h;rfl)) (fun cdv A outer s H vs Q E hr h=>?_)
 obtain⟨W,lw,lg,lv,d,rfl,wl,hq,hl,q⟩:=h
 exact⟨_,qB_ps (N:=n2) (K:=K) rfl rfl sc_qct.nd loc_qct (fun _=>rfl) 60 _,W,d,env3 wl ⟨rfl,rfl⟩ ⟨rfl,rfl⟩ (fun h=>absurd h no_v.1),rfl,(fun h=>by cases h),hq,hl,q⟩
theorem sc_qnp:FnScope n2 n2 (defScope s_np):=⟨rfl,rfl,rfl,by decide+kernel,rfl,by decide+kernel,by decide+kernel⟩
theorem loc_qnp:∀x∈n2,Loc (defScope s_np) x:=loc_dec (by decide+kernel)
theorem ok_qnp (F:Fun K "_law_name_phrases" "_law_name_phrases" s_np f fd):FnOk P w K mg base CX0 1 f fd n2 (spRows n2 (defBody s_np) 2):=by
 refine F.ok sc_qnp (len:=fun vs H Q E h=>(by obtain⟨W,lw,lg,lv,d,rfl,_⟩:=h;rfl)) (fun cdv A outer s H vs Q E hr h=>?_)
 obtain⟨W,lw,lg,lv,d,rfl,wl,hq,hl,q⟩:=h
 exact⟨_,qB_ps (N:=n2) (K:=K) rfl rfl sc_qnp.nd loc_qnp (fun _=>rfl) 60 _,W,d,env3 wl ⟨rfl,rfl⟩ ⟨rfl,rfl⟩ (fun h=>absurd h no_v.1),rfl,(fun h=>by cases h),hq,hl,q⟩
theorem sc_qcp:FnScope n2f n2 (defScope s_cp):=⟨rfl,rfl,rfl,by decide+kernel,rfl,by decide+kernel,by decide+kernel⟩
theorem loc_qcp:∀x∈n2f,Loc (defScope s_cp) x:=loc_dec (by decide+kernel)
theorem ok_qcp (F:Fun K "_law_count_phrases" "_law_count_phrases" s_cp f fd):FnOk P w K mg base CX0 1 f fd n2 (spRows n2f (defBody s_cp) 2):=by
 refine F.ok sc_qcp (len:=fun vs H Q E h=>(by obtain⟨W,lw,lg,lv,d,rfl,_⟩:=h;rfl)) (fun cdv A outer s H vs Q E hr h=>?_)
 obtain⟨W,lw,lg,lv,d,rfl,wl,hq,hl,q⟩:=h
 exact⟨_,qB_ps (N:=n2f) (K:=K) rfl rfl sc_qcp.nd loc_qcp (fun _=>rfl) 60 _,W,d,env3 wl ⟨rfl,rfl⟩ ⟨rfl,rfl⟩ (fun h=>absurd h no_v.2),rfl,(fun h=>rfl),hq,hl,q⟩
end
theorem instsQ_app {W:Wd}(u:Dq):∀t:Dq,isTq t=true→instsQ W (appQ t u)=instsQ W t++instsQ W u
 |.cons h t,e=>congrArg (instQ W h::·) (instsQ_app u t e)
 |.nil,_=>rfl
 |.t _,e=>by cases e
 |.i _,e=>by cases e
def gRows:Dq→Bool
 |.cons (.cons _ (.cons (.t (.k _)) .nil)) t=>gRows t
 |.nil=>true
 |_=>false
theorem rows_at {W:Wd}:∀(D:Dq) (i:Nat) (t:T),gRows D=true→(instsQ W D)[i]?=some t→∃r d,(r,d)∈rowsQ D∧t=.tup [instQ W r, .str d]:=by
 intro D
 induction D using gRows.induct with
 |case1 r d t ih=>
  intro i u g h
  cases i with
  |zero=>
   cases h
   exact⟨r,d,List.mem_cons_self,rfl⟩
  |succ i=>
   obtain⟨r',d',m,e⟩:=ih i u g h
   exact⟨r',d',List.mem_cons_of_mem _ m,e⟩
 |case2=>intro i u g h;cases h
 |case3 x h1 h2=>
  intro i u g h
  unfold gRows at g
  split at g
  ·rename_i r d t;exact absurd rfl (h1 r d t)
  ·exact absurd rfl h2
  ·cases g
def qOk (N:List Str)(st:Stmt)(D:Dq):Bool:=(match qB N 60 (defBody st) with|some d=>true|none=>false)&&(decide (lenQ D≤100)&&isTq D)
theorem q_some {N:List Str}{st:Stmt}{D:Dq}(hD:D=(qB N 60 (defBody st)).getD .nil)(h:qOk N st D=true):qB N 60 (defBody st)=some D∧lenQ D≤100∧isTq D=true:=by
 unfold qOk at h
 simp only[Bool.and_eq_true,decide_eq_true_eq]at h
 refine⟨?_,h.2.1,h.2.2⟩
 cases e:qB N 60 (defBody st) with
 |none=>rw[e]at h;cases h.1
 |some d=>rw[hD,e];rfl
theorem qb:qB n3 60 (defBody s_base)=some bD∧lenQ bD≤100∧isTq bD=true:=q_some rfl (by decide+kernel)
theorem qtw:qB n3 60 (defBody s_tw)=some twD∧lenQ twD≤100∧isTq twD=true:=q_some rfl (by decide+kernel)
theorem qnm:qB n3 60 (defBody s_nm)=some nmD∧lenQ nmD≤100∧isTq nmD=true:=q_some rfl (by decide+kernel)
theorem qct:qB n2 60 (defBody s_ct)=some ctD∧lenQ ctD≤100∧isTq ctD=true:=q_some rfl (by decide+kernel)
theorem qnp:qB n2 60 (defBody s_np)=some npD∧lenQ npD≤100∧isTq npD=true:=q_some rfl (by decide+kernel)
theorem qcp:qB n2f 60 (defBody s_cp)=some cpD∧lenQ cpD≤100∧isTq cpD=true:=q_some rfl (by decide+kernel)
theorem g1:gRows (appQ twD (appQ nmD ctD))=true∧gRows (appQ npD cpD)=true∧isTq (appQ nmD ctD)=true∧1≤lenQ bD:=by decide+kernel
theorem rowR {W:Wd}(O:WOk W){r:Dq}{d:Str}(h:(r,d)∈rowsQ (appQ twD (appQ nmD ctD))):vdM (overM (instsQ W bD++[instQ W r,instQ W main1]))=some d:=by
 have c:=List.all_eq_true.mp rows_good (r,d) h
 have e:=chk_all O c
 rw[show progR r=appQ bD (.cons r (.cons main1 .nil)) from rfl,instsQ_app _ _ qb.2.2]at e
 exact e
theorem rowP {W:Wd}(O:WOk W){r:Dq}{d:Str}(h:(r,d)∈rowsQ (appQ npD cpD)):vdM (overM (instsQ W bD++[.tup [.str "main",instQ W r]]))=some d∧vdM (overM (instsQ W bD++[.tup [.str "part", .str (W.g 9), .str (W.g 3), .tup [.str "val", .str (W.w 12),instQ W r]],instQ W main1]))=some d:=by
 have c:=List.all_eq_true.mp phr_good (r,d) h
 rw[Bool.and_eq_true]at c
 have e1:=chk_all O c.1
 have e2:=chk_all O c.2
 rw[show progP r=appQ bD (.cons (.cons (.t (.k "main")) (.cons r .nil)) .nil) from rfl,instsQ_app _ _ qb.2.2]at e1
 rw[show progV r=appQ bD (.cons (.cons (.t (.k "part")) (.cons (.t (.g 9)) (.cons (.t (.g 3)) (.cons (.cons (.t (.k "val")) (.cons (.t (.w 12)) (.cons r .nil))) .nil)))) (.cons main1 .nil)) from rfl,instsQ_app _ _ qb.2.2]at e2
 exact⟨e1,e2⟩
def WdOf (ss gs as:List Str):Wd:=⟨fun n=>ss.getD n "",fun n=>gs.getD n "",fun n=>as.getD n ""⟩
theorem getD_at {zs:List Str}{i:Nat}(h:i<zs.length):zs[i]?=some (zs.getD i "")∧zs.getD i ""∈zs:=by
 rw[List.getD_eq_getElem?_getD,List.getElem?_eq_getElem h]
 exact⟨rfl,List.getElem_mem h⟩
theorem getD_inj {zs:List Str}(nd:zs.Nodup){i j:Nat}(hi:i<zs.length)(hj:j<zs.length)(h:zs.getD i ""=zs.getD j ""):i=j:=Classical.byContradiction fun ne=>nd_ne nd i j (getD_at hi).1 (getD_at hj).1 ne h
theorem wok_of {H:Hp}{st ls lg la:Addr}{ss gs as:List Str}(ps:Pool H st ls ss 26 52)(pg:Pool H st lg gs 26 52)(pa:Pool H st la as 26 26)(wp:WdP ss gs as):WOk (WdOf ss gs as):=by
 have l1:=ps.lo
 have l2:=pg.lo
 have l3:=pa.lo
 exact⟨fun i j hi hj h=>getD_inj ps.nd (by omega) (by omega) h,fun i j hi hj h=>getD_inj pg.nd (by omega) (by omega) h,fun i j hi hj h=>getD_inj pa.nd (by omega) (by omega) h,fun i hi=>wp.s _ (getD_at (by omega)).2,fun i hi=>wp.g _ (getD_at (by omega)).2,fun i hi=>wp.a _ (getD_at (by omega)).2⟩
theorem wl_of {H:Hp}{st ls lg la:Addr}{ss gs as:List Str}(ps:Pool H st ls ss 26 52)(pg:Pool H st lg gs 26 52)(pa:Pool H st la as 26 26):WL (WdOf ss gs as) H ls lg la:=by
 have l1:=ps.lo
 have l2:=pg.lo
 have l3:=pa.lo
 exact⟨⟨ss,ps.at_,fun i hi=>(getD_at (by omega)).1,fun i hi=>ps.len _ (getD_at (by omega)).2⟩,⟨gs,pg.at_,fun i hi=>(getD_at (by omega)).1,fun i hi=>pg.len _ (getD_at (by omega)).2⟩,⟨as,pa.at_,fun i hi=>(getD_at (by omega)).1,fun i hi=>pa.len _ (getD_at (by omega)).2⟩⟩
end Fw
namespace L2
open PySem PySem.Spec PyProof.Rows
section
variable {X:Cx}
inductive tTri_ (i j k:Nat)(D:Ends)(σ:St)(vs:List V)(H1:Hp):Prop where
 |mk (v w u):(vs=[v,w,u])→(D.nx (((σ.set k (some u)).set j (some w)).set i (some v)) H1)→tTri_ i j k D σ vs H1
def tTri (i j k:Nat)(ta:TA):TS:=fun D σ H=>ta σ H (tTri_ i j k D σ)
theorem ps_tri {i j k:Nat}{x y z:Str}{a b c:Expr}{ta:TA}{px py pz pt pos:Pos}{kt k2 pt2}(hc:X.calm=true)(hN:X.N.Nodup)(hi:X.N[i]?=some x)(hj:X.N[j]?=some y)(hk:X.N[k]?=some z)
  (hx:X.env.scope.names.lookup x=some .local) (hy:X.env.scope.names.lookup y=some .local) (hz:X.env.scope.names.lookup z=some .local) (ha:PA X [a,b,c] ta)
  (hw:swappedStores [.Tuple [.Name x px, .Name y py, .Name z pz] kt pt] (.Tuple [a,b,c] k2 pt2) X.env=pure (some [x,y,z]))
  (hs:swapsWithSole [.Tuple [.Name x px, .Name y py, .Name z pz] kt pt] (.Tuple [a,b,c] k2 pt2) pos.line X.env=pure false:=by rfl):
  PS X (.Assign [.Tuple [.Name x px, .Name y py, .Name z pz] kt pt] (.Tuple [a,b,c] k2 pt2) pos) (tTri i j k ta):=by
 intro pins s σ H D I h
 rw[exec_Assign_arm]
 refine wpAny_bind (wpAny_standAt ?_)
 rw[hs]
 refine wpAny_bind (wpAny_pure ?_)
 rw[if_neg (by decide)]
 refine wpAny_bind (Tuple_ (thn (ha _ pins s σ H _ I h) fun us s1 ⟨vs,H1,I1,r1,q1⟩=>?_))
 obtain⟨v,w,u,e1,q1⟩:=q1
 subst e1
 obtain⟨u1,u2,u3,rfl,rv,rw',ru⟩:∃u1 u2 u3,us=[u1,u2,u3]∧RelV v u1∧RelV w u2∧RelV u u3:=by
  cases r1 with
  |cons p q=>
   cases q with
   |cons p' q'=>
    cases q' with
    |cons p2 q2=>
     cases q2
     exact⟨_,_,_,rfl,p,p',p2⟩
 refine wpAny_newObj_type ?_ (by show 3≤sizeLine;decide)
 have I2:Inv X pins σ H1 {s1 with heap:=s1.heap.push {cls:=.type "tuple",data:=.seq [u1,u2,u3].toArray}}:=I1.kept (t':=s1.toks) fun b o e=>Heap.get?_push_of_some _ e
 rw[hw]
 refine wpAny_bind (wpAny_pure ?_)
 show wpAny (model X.prog X.w) X.A (do rule "assign.swapped-stores";let items ←unpackItems (.ref s1.heap.objs.size) 3 none;assignInOrder [fun v=>bindName X.env z v,fun v=>bindName X.env y v,fun v=>bindName X.env x v] items.reverse;pure Flow.next) _ _ _
 refine wpAny_bind (wpAny_rule (wpAny_bind (unpackItems_tuple (items:=#[u1,u2,u3]) (I.ok.hd hc) (IsTup.new s1.heap _) fun h' hx'=>?_)))
 have I3:=I2.kept (h':=h') (t':=s1.toks) fun b o e=>hx' b o (Nat.ne_of_lt (Heap.lt_size e)) e
 show wpAny _ _ (assignInOrder [fun v=>bindName X.env z v,fun v=>bindName X.env y v,fun v=>bindName X.env x v] [u3,u2,u1]>>=fun _=>pure Flow.next) _ _ _
 refine wpAny_bind (assignInOrder_cons (wpAny_bindName (store_ok I3 hN hk (.inl hz) ru (fun s2 I4=>?_) (.inr hz))))
 refine assignInOrder_cons (wpAny_bindName (store_ok I4 hN hj (.inl hy) rw' (fun s3 I5=>?_) (.inr hy)))
 refine assignInOrder_cons (wpAny_bindName (store_ok I5 hN hi (.inl hx) rv (fun s4 I6=>assignInOrder_nil (wpAny_pure ?_)) (.inr hx)))
 exact⟨_,H1,I6,q1⟩
end
end L2
namespace Fw
open PySem PySem.Spec PyProof.Rows L2
abbrev s_law:Stmt:=top 83
abbrev nLw:List Str:=["_law_script","_law_state","_law_words_here","_law_w","_law_g","_law_v","_law_base_here","_law_row","_law_due","_law_phrase"]
inductive spLaw (K:PySem.W.Frag)(vs:List V)(H:Hp)(Q:VK)(E_:XK):Prop where
 |mk (a:Addr) (ns:List Int):vs=[.ref a]→SqL K H a (ns.map V.int)→ns.length≤63→(∀H',Q (.bl true) H')→spLaw K vs H Q E_
section
variable {P:Program}{w:World}{K:PySem.W.Frag}{mg:Str→Option Value}{base:Heap}{f:Addr}{fd:FuncData}
theorem sc_law:FnScope nLw ["_law_script"] (defScope s_law):=⟨rfl,rfl,rfl,by decide+kernel,rfl,by decide+kernel,by decide+kernel⟩
theorem val3 (a b c:V):valV ([(Sum.inr "small",a),(Sum.inr "great",b),(Sum.inr "any",c)]:List (Key×V)) (Sum.inr "small")=some a∧valV ([(Sum.inr "small",a),(Sum.inr "great",b),(Sum.inr "any",c)]:List (Key×V)) (Sum.inr "great")=some b∧valV ([(Sum.inr "small",a),(Sum.inr "great",b),(Sum.inr "any",c)]:List (Key×V)) (Sum.inr "any")=some c:=by
 obtain⟨h1,h2,h3⟩:=keys3
 refine⟨valV_pos rfl,?_,?_⟩
 ·rw[valV_neg (fun h=>h1 (Sum.inr.inj h))];exact valV_pos rfl
 ·rw[valV_neg (fun h=>h2 (Sum.inr.inj h)),valV_neg (fun h=>h3 (Sum.inr.inj h))];exact valV_pos rfl
theorem tpB:bodyTp (defBody s_base)=true∧bodyTp (defBody s_tw)=false∧bodyTp (defBody s_nm)=false∧bodyTp (defBody s_ct)=false∧bodyTp (defBody s_np)=false∧bodyTp (defBody s_cp)=false:=by decide+kernel
set_option maxHeartbeats 4000000 in
theorem ok_law (F:Fun K "law" "law" s_law f fd)(h0:Has P w K mg base 1 "_law_drawn" ["_law_script"] (spDrawn K))(h1:Has P w K mg base 2 "_law_words" ["_law_state"] spWords)(h2:Has P w K mg base 1 "_law_base" n3 (spRows n3 (defBody s_base) 3))
  (h3:Has P w K mg base 1 "_law_twice_rows" n3 (spRows n3 (defBody s_tw) 3)) (h4:Has P w K mg base 1 "_law_name_rows" n3 (spRows n3 (defBody s_nm) 3)) (h5:Has P w K mg base 1 "_law_count_rows" n2 (spRows n2 (defBody s_ct) 2))
  (h6:Has P w K mg base 1 "_law_name_phrases" n2 (spRows n2 (defBody s_np) 2)) (h7:Has P w K mg base 1 "_law_count_phrases" n2 (spRows n2f (defBody s_cp) 2)) (h8:Has P w K mg base 11 "_law_told" ["_law_program"] spTold):
  FnOk P w K mg base CX0 12 f fd ["_law_script"] (spLaw K):=by
 refine F.ok sc_law (fun cdv A outer s H vs Q E hr h=>?_)
 have hu:=hu_of hr
 obtain⟨a,ns,rfl,ha,hl,q⟩:=h
 refine⟨_,pss_cons (pset 1 sc_law.nd (pcall h0 hr (by decide) rfl (pa_cons (pv 0) pa_nil)))
  (pss_cons (pset 2 sc_law.nd (pcall h1 hr (by decide) rfl (pa_cons (pv 1) pa_nil)))
  (pss_cons (ps_tri (i:=3) (j:=4) (k:=5) rfl sc_law.nd rfl rfl rfl rfl rfl rfl (pa_cons (pe_dget hu (pv 2) pe_str (fun _ _=>rfl)) (pa_cons (pe_dget hu (pv 2) pe_str (fun _ _=>rfl)) (pa_cons (pe_dget hu (pv 2) pe_str (fun _ _=>rfl)) pa_nil))) (by with_unfolding_all rfl))
  (pss_cons (pset 6 sc_law.nd (pcall h2 hr (by decide) rfl (pa_cons (pv 3) (pa_cons (pv 4) (pa_cons (pv 5) pa_nil)))))
  (pss_cons (ps_for PassesOwn.never rfl (piL K (pe_op op_cat (pe_op op_cat (pcall h3 hr (by decide) rfl (pa_cons (pv 3) (pa_cons (pv 4) (pa_cons (pv 5) pa_nil)))) (pcall h4 hr (by decide) rfl (pa_cons (pv 3) (pa_cons (pv 4) (pa_cons (pv 5) pa_nil))))) (pcall h5 hr (by decide) rfl (pa_cons (pv 3) (pa_cons (pv 4) pa_nil))))) (pgT K (n:=2) rfl (pgs_cons (pg_name (i:=7) sc_law.nd rfl (Or.inl rfl)) (pgs_cons (pg_name (i:=8) sc_law.nd rfl (Or.inl rfl)) pgs_nil)))
   (pss_one (ps_if (pt_cmpR op_ne (pcall h8 hr (by decide) rfl (pa_cons (pe_op (catT K) (pv 6) (pe_tup (pa_cons (pv 7) (pa_cons (pe_tup (pa_cons pe_str (pa_cons pe_int pa_nil))) pa_nil)))) pa_nil)) (pv 8) (nomark _)) (pss_one (ps_ret pe_bl)) pss_nil)))
  (pss_cons (ps_for PassesOwn.never rfl (piL K (pe_op op_cat (pcall h6 hr (by decide) rfl (pa_cons (pv 3) (pa_cons (pv 4) pa_nil))) (pcall h7 hr (by decide) rfl (pa_cons (pv 3) (pa_cons (pv 4) pa_nil))))) (pgT K (n:=2) rfl (pgs_cons (pg_name (i:=9) sc_law.nd rfl (Or.inl rfl)) (pgs_cons (pg_name (i:=8) sc_law.nd rfl (Or.inl rfl)) pgs_nil)))
   (pss_cons (ps_if (pt_cmpR op_ne (pcall h8 hr (by decide) rfl (pa_cons (pe_op (catT K) (pv 6) (pe_tup (pa_cons (pe_tup (pa_cons pe_str (pa_cons (pv 9) pa_nil))) pa_nil))) pa_nil)) (pv 8) (nomark _)) (pss_one (ps_ret pe_bl)) pss_nil)
   (pss_one (ps_if (pt_cmpR op_ne (pcall h8 hr (by decide) rfl (pa_cons (pe_op (catT K) (pv 6) (pe_tup (pa_cons (pe_tup (pa_cons pe_str (pa_cons (pe_ix (ixL K) (pv 4) pe_int) (pa_cons (pe_ix (ixL K) (pv 4) pe_int) (pa_cons (pe_tup (pa_cons pe_str (pa_cons (pe_ix (ixL K) (pv 3) pe_int) (pa_cons (pv 9) pa_nil)))) pa_nil))))) (pa_cons (pe_tup (pa_cons pe_str (pa_cons pe_int pa_nil))) pa_nil)))) pa_nil)) (pv 8) (nomark _)) (pss_one (ps_ret pe_bl)) pss_nil))))
  (pss_one (ps_ret pe_bl))))))),?_⟩
 refine⟨_,rfl,a,ns,rfl,ha,hl,fun st H1 s1 hst stok=>?_⟩
 refine⟨_,rfl,st,rfl,stok,fun wv ss gs as H2 Wd2 wp g2=>?_⟩
 obtain⟨wa,ls,lg,la,rfl,nws,hwa,ps,pg,pa⟩:=Wd2.has
 obtain⟨v1,v2,v3⟩:=val3 (.ref ls) (.ref lg) (.ref la)
 refine⟨_,rfl,wa, .ref ls,rfl, .inl ⟨_,Sum.inr "small", .inl hwa,rfl,v1.symm⟩,_,rfl,wa, .ref lg,rfl, .inl ⟨_,Sum.inr "great", .inl hwa,rfl,v2.symm⟩,_,rfl,wa, .ref la,rfl, .inl ⟨_,Sum.inr "any", .inl hwa,rfl,v3.symm⟩,_,_,_,rfl,?_⟩
 have O:=wok_of ps pg pa wp
 have wl:=wl_of ps pg pa
 revert O wl
 generalize WdOf ss gs as=W
 intro O wl
 refine⟨_,rfl,_,rfl,_,rfl,W,ls,lg,la,bD,rfl,wl,qb.1,qb.2.1,fun pb ub H3 s3 hb rb=>?_⟩
 rw[tpB.1]at hb
 have hb:H3 pb=some (.tup ub):=hb
 have wl3:=wl.same s3
 have lub:=rb.length
 rw[instsQ_len]at lub
 have lb:=qb.2.1
 have lb1:=g1.2.2.2
 refine⟨_,rfl,_,rfl,_,rfl,W,ls,lg,la,twD,rfl,wl3,qtw.1,qtw.2.1,fun p1 u1 H4 s4 hp1 r1=>?_⟩
 rw[tpB.2.1]at hp1
 refine⟨_,rfl,_,rfl,_,rfl,W,ls,lg,la,nmD,rfl,wl3.same s4,qnm.1,qnm.2.1,fun p2 u2 H5 s5 hp2 r2=>?_⟩
 rw[tpB.2.2.1]at hp2
 have l1:=r1.length
 have l2:=r2.length
 rw[instsQ_len]at l1 l2
 have q1:=qtw.2.1
 have q2:=qnm.2.1
 have q3:=qct.2.1
 refine⟨p1,p2,u1,u2,rfl,rfl,s5 _ _ hp1,hp2,small (by show _≤1000000;omega),fun p3 hp3=>?_⟩
 obtain⟨H6,eN6,s6,k6⟩:=nw hp3 (.lst (u1++u2))
 rw[eN6]
 have s36:=(s4.trans s5).trans s6
 refine⟨_,rfl,_,rfl,W,ls,lg,la,ctD,rfl,wl3.same s36,qct.1,qct.2.1,fun p4 u4 H7 s7 hp4 r4=>?_⟩
 rw[tpB.2.2.2.1]at hp4
 have l4:=r4.length
 rw[instsQ_len]at l4
 refine⟨p3,p4,u1++u2,u4,rfl,rfl,s7 _ _ k6,hp4,small (by rw[List.length_append];show _≤1000000;omega),fun p5 hp5=>?_⟩
 obtain⟨H8,eN8,s8,k8⟩:=nw hp5 (.lst (u1++u2++u4))
 rw[eN8]
 have s38:=(s36.trans s7).trans s8
 have rall:Reps H8 (u1++u2++u4) (instsQ W (appQ twD (appQ nmD ctD))):=by
  rw[instsQ_app _ _ qtw.2.2,instsQ_app _ _ qnm.2.2,←List.append_assoc]
  exact((r1.same (s5.trans (s6.trans (s7.trans s8)))).append (r2.same (s6.trans (s7.trans s8)))).append (r4.same s8)
 refine⟨p5,rfl,⟨_,SqL.of k8⟩,?_⟩
 refine for_list (xs:=u1++u2++u4) (fun i σ H'=>(∃o1 o2 o3,σ=[some (.ref a),some (.ref st),some (.ref wa),some (.ref ls),some (.ref lg),some (.ref la),some (.ref pb),o1,o2,o3])∧Same H8 H') ⟨⟨_,_,_,rfl⟩,Same.refl _⟩ ?_ ?_ ?_
 ·rintro i σ H' _ ⟨_,s9⟩
  exact SqL.of (s9 _ _ k8)
 ·rintro i x σ H9 hx ⟨⟨o1,o2,o3,rfl⟩,s9⟩
  obtain⟨t,ht,rt⟩:=(rall.same s9).at i hx
  obtain⟨r,d,hm,rfl⟩:=rows_at _ i t g1.1 ht
  obtain⟨b,bs,rfl,hbb,rbb⟩:=tup_at rt
  cases rbb with|@cons x1 _ bs _ rr rbb=>
  cases rbb with|@cons x2 _ bs _ rd rbb=>
  cases rbb
  cases rd with
  |str _ ld=>
  refine⟨b,_,rfl,SqT.of hbb,rfl,_,_,rfl,_,[],rfl,rfl,?_⟩
  have hb9:=(s38.trans s9) _ _ hb
  refine⟨_,rfl,_,rfl,sml 2,fun m1 hm1=>?_⟩
  obtain⟨H10,eN10,s10,k10⟩:=nw hm1 (.tup [V.str "main", .int 1])
  rw[eN10]
  refine⟨sml 2,fun m2 hm2=>?_⟩
  obtain⟨H11,eN11,s11,k11⟩:=nw hm2 (.tup [x1, .ref m1])
  rw[eN11]
  refine⟨pb,m2,ub,_,rfl,rfl,SqT.of ((s10.trans s11) _ _ hb9),SqT.of k11,(by intro e;rw[e]at lub;simp at lub;omega),small (by simp only[List.length_cons,List.length_nil];show _≤1000000;omega),(by intro e;cases e),fun _ m3 hm3=>?_⟩
  obtain⟨H12,eN12,s12,k12⟩:=nw hm3 (.tup (ub++[x1, .ref m1]))
  rw[eN12]
  have s912:=s10.trans (s11.trans s12)
  refine⟨m3,_,_,d,rfl,k12,((rb.same (s38.trans (s9.trans s912))).append (.cons (rr.same s912) (.cons (.tup ((s11.trans s12) _ _ k10) (.cons (.str _ (by decide+kernel)) (.cons (.int 1) .nil))) .nil))),rowR O hm,fun H13 s13=>⟨_,rfl,rfl,_,rfl,?_⟩⟩
  have e:(!decide (V.str d=V.str d))=false:=by simp
  rw[e]
  exact iteF ⟨⟨_,_,_,rfl⟩,s9.trans (s912.trans s13)⟩
 rintro σ H9 ⟨⟨o1,o2,o3,rfl⟩,s9⟩
 have s39:=s38.trans s9
 refine⟨_,rfl,_,rfl,W,ls,lg,la,npD,rfl,wl3.same s39,qnp.1,qnp.2.1,fun p1 u1 H4 s4 hp1 r1=>?_⟩
 rw[tpB.2.2.2.2.1]at hp1
 have l1:=r1.length
 rw[instsQ_len]at l1
 refine⟨_,rfl,_,rfl,W,ls,lg,la,cpD,rfl,wl3.same (s39.trans s4),qcp.1,qcp.2.1,fun p2 u2 H5 s5 hp2 r2=>?_⟩
 rw[tpB.2.2.2.2.2]at hp2
 have l2:=r2.length
 rw[instsQ_len]at l2
 have q4:=qnp.2.1
 have q5:=qcp.2.1
 refine⟨p1,p2,u1,u2,rfl,rfl,s5 _ _ hp1,hp2,small (by show _≤1000000;omega),fun p3 hp3=>?_⟩
 obtain⟨H6,eN6,s6,k6⟩:=nw hp3 (.lst (u1++u2))
 rw[eN6]
 have s36:=s39.trans ((s4.trans s5).trans s6)
 have rall:Reps H6 (u1++u2) (instsQ W (appQ npD cpD)):=by
  rw[instsQ_app _ _ qnp.2.2]
  exact(r1.same (s5.trans s6)).append (r2.same s6)
 refine⟨p3,rfl,⟨_,SqL.of k6⟩,?_⟩
 refine for_list (xs:=u1++u2) (fun i σ H'=>(∃o1 o2 o3,σ=[some (.ref a),some (.ref st),some (.ref wa),some (.ref ls),some (.ref lg),some (.ref la),some (.ref pb),o1,o2,o3])∧Same H6 H') ⟨⟨_,_,_,rfl⟩,Same.refl _⟩ ?_ ?_ ?_
 ·rintro i σ H' _ ⟨_,s9⟩
  exact SqL.of (s9 _ _ k6)
 ·rintro i x σ H9 hx ⟨⟨o1,o2,o3,rfl⟩,s9⟩
  obtain⟨t,ht,rt⟩:=(rall.same s9).at i hx
  obtain⟨r,d,hm,rfl⟩:=rows_at _ i t g1.2.1 ht
  obtain⟨e1,e2⟩:=rowP O hm
  obtain⟨b,bs,rfl,hbb,rbb⟩:=tup_at rt
  cases rbb with|@cons x1 _ bs _ rr rbb=>
  cases rbb with|@cons x2 _ bs _ rd rbb=>
  cases rbb
  cases rd with
  |str _ ld=>
  refine⟨b,_,rfl,SqT.of hbb,rfl,_,_,rfl,_,[],rfl,rfl,?_⟩
  have s3b:=s36.trans s9
  have hb9:=s3b _ _ hb
  refine⟨_,rfl,_,rfl,sml 2,fun m1 hm1=>?_⟩
  obtain⟨H10,eN10,s10,k10⟩:=nw hm1 (.tup [V.str "main",x1])
  rw[eN10]
  refine⟨sml 1,fun m2 hm2=>?_⟩
  obtain⟨H11,eN11,s11,k11⟩:=nw hm2 (.tup [V.ref m1])
  rw[eN11]
  refine⟨pb,m2,ub,_,rfl,rfl,SqT.of ((s10.trans s11) _ _ hb9),SqT.of k11,(by intro e;rw[e]at lub;simp at lub;omega),small (by simp only[List.length_cons,List.length_nil];show _≤1000000;omega),(by intro e;cases e),fun _ m3 hm3=>?_⟩
  obtain⟨H12,eN12,s12,k12⟩:=nw hm3 (.tup (ub++[V.ref m1]))
  rw[eN12]
  have s912:=s10.trans (s11.trans s12)
  refine⟨m3,_,_,d,rfl,k12,((rb.same (s3b.trans s912)).append (.cons (.tup ((s11.trans s12) _ _ k10) (.cons (.str _ (by decide+kernel)) (.cons (rr.same s912) .nil))) .nil)),e1,fun H13 s13=>⟨_,rfl,rfl,_,rfl,?_⟩⟩
  have e:(!decide (V.str d=V.str d))=false:=by simp
  rw[e]
  refine iteF ?_
  have s913:=s912.trans s13
  have wl13:=wl3.same ((s3b).trans s913)
  obtain⟨⟨zw,zw1,zw2,zw3⟩,⟨zg,zg1,zg2,zg3⟩,_⟩:=wl13
  have lw12:=zw3 12 (by decide)
  have lg9:=zg3 9 (by decide)
  have lg3:=zg3 3 (by decide)
  refine⟨_,rfl,_,rfl,lg,_,9, .str (W.g 9),rfl,rfl,SqL.of zg1,wl_at zg1 (by decide) (zg2 9 (by decide)),_,rfl,lg,_,3, .str (W.g 3),rfl,rfl,SqL.of zg1,wl_at zg1 (by decide) (zg2 3 (by decide)),_,rfl,ls,_,12, .str (W.w 12),rfl,rfl,SqL.of zw1,wl_at zw1 (by decide) (zw2 12 (by decide)),_,rfl,sml 3,fun n1 hn1=>?_⟩
  obtain⟨H14,eN14,s14,k14⟩:=nw hn1 (.tup [V.str "val", .str (W.w 12),x1])
  rw[eN14]
  refine⟨sml 4,fun n2 hn2=>?_⟩
  obtain⟨H15,eN15,s15,k15⟩:=nw hn2 (.tup [V.str "part", .str (W.g 9), .str (W.g 3), .ref n1])
  rw[eN15]
  refine⟨sml 2,fun n3' hn3=>?_⟩
  obtain⟨H16,eN16,s16,k16⟩:=nw hn3 (.tup [V.str "main", .int 1])
  rw[eN16]
  refine⟨sml 2,fun n4 hn4=>?_⟩
  obtain⟨H17,eN17,s17,k17⟩:=nw hn4 (.tup [V.ref n2, .ref n3'])
  rw[eN17]
  have s1317:=s14.trans (s15.trans (s16.trans s17))
  refine⟨pb,n4,ub,_,rfl,rfl,SqT.of (s1317 _ _ (s913 _ _ hb9)),SqT.of k17,(by intro e;rw[e]at lub;simp at lub;omega),small (by simp only[List.length_cons,List.length_nil];show _≤1000000;omega),(by intro e;cases e),fun _ n5 hn5=>?_⟩
  obtain⟨H18,eN18,s18,k18⟩:=nw hn5 (.tup (ub++[V.ref n2, .ref n3']))
  rw[eN18]
  have s1318:=s1317.trans s18
  refine⟨n5,_,_,d,rfl,k18,((rb.same ((s3b.trans s913).trans s1318)).append (.cons (.tup ((s16.trans (s17.trans s18)) _ _ k15) (.cons (.str _ (by decide+kernel)) (.cons (.str _ (by omega)) (.cons (.str _ (by omega)) (.cons (.tup ((s15.trans (s16.trans (s17.trans s18))) _ _ k14) (.cons (.str _ (by decide+kernel)) (.cons (.str _ (by omega)) (.cons (rr.same (s913.trans s1318)) .nil)))) .nil))))) (.cons (.tup ((s17.trans s18) _ _ k16) (.cons (.str _ (by decide+kernel)) (.cons (.int 1) .nil))) .nil))),e2,fun H19 s19=>⟨_,rfl,rfl,_,rfl,?_⟩⟩
  rw[e]
  exact iteF ⟨⟨_,_,_,rfl⟩,s9.trans ((s913.trans s1318).trans s19)⟩
 ·rintro σ H9 ⟨⟨o1,o2,o3,rfl⟩,s9⟩
  exact q H9
end
def DefIs (K:PySem.W.Frag)(x:Str)(st:Stmt):Prop:=∃f fd,PySem.W.nsIn K mainGlobals x=some (some (.ref f))∧Fun K x x st f fd
theorem def_mk {K:PySem.W.Frag}{x:Str}{st:Stmt}{f:Addr}{oc:Value}{od an:Option Addr}{osl:Array (Option Value)}{kV doc pm cdv ct:Value}(a:PySem.W.nsIn K mainGlobals x=some (some (.ref f)))
  (l:K.lookup f=some ⟨oc,od, .func (PySem.W.fnOf x x (defArgs st) (defBody st) (defScope st) .none kV doc pm an cdv ct),osl⟩) (c:PySem.W.codeIn K cdv x=true) (k:PySem.W.keepIn K (.ref f)=true):DefIs K x st:=⟨f,_,a,fun_mk l c k⟩
theorem val_str {K:PySem.W.Frag}{x z y:Str}{t:Tok}(a:PySem.W.nsIn K mainGlobals x=some (some (.str z t)))(e:z=y):∃t,PySem.W.nsIn K mainGlobals x=some (some (.str y t)):=⟨t,by rw[←e];exact a⟩
theorem val_int {K:PySem.W.Frag}{x:Str}{i j:Int}{t:Tok}(a:PySem.W.nsIn K mainGlobals x=some (some (.int i t)))(e:i=j):∃t,PySem.W.nsIn K mainGlobals x=some (some (.int j t)):=⟨t,by rw[←e];exact a⟩
theorem abs_rel {x:V}{u:Value}(h:absV u=some x):RelV x u:=by
 cases u<;>simp only[absV,Option.some.injEq,reduceCtorEq]at h
 all_goals first
  |(subst h;exact rfl)
  |(subst h;exact⟨_,rfl⟩)
theorem vals_abs:∀{xs:List V} {us:List Value},us.map absV=xs.map some→Vals xs us
 |[],[],_=>.nil
 |x::xs,u::us,h=>by
  simp only[List.map_cons,List.cons.injEq]at h
  exact .cons (abs_rel h.1) (vals_abs h.2)
 |[],_::_,h=>by simp at h
 |_::_,[],h=>by simp at h
theorem val_tup {K:PySem.W.Frag}{x:Str}{xs:List V}{a:Addr}{oc:Value}{od:Option Addr}{its:Array Value}{n:Nat}{sl:Array (Option Value)}(h1:PySem.W.nsIn K mainGlobals x=some (some (.ref a)))(h2:K.lookup a=some ⟨oc,od, .seq its n,sl⟩)
  (h3:oc=.type "tuple") (h4:its.size≤sizeLine) (h5:its.toList.map absV=xs.map some):∃a,PySem.W.nsIn K mainGlobals x=some (some (.ref a))∧∀H,SqT K H a xs:=⟨a,h1,fun H=>.inr ⟨_,its,n,h2,h3,rfl,h4,vals_abs h5⟩⟩
theorem law_binds {K:PySem.W.Frag}{x:Str}{st:Stmt}{f:Addr}{fd:FuncData}{p:Str}(F:Fun K x x st f fd)(h:∀(kV doc pm:Value) (an:Option Addr) (cdv ct:Value) (s:Shared) (v:Value),BindsTo s (PySem.W.fnOf x x (defArgs st) (defBody st) (defScope st) .none kV doc pm an cdv ct) ⟨[v],[]⟩ [(p,v)]):
  ∀(s:Shared) (v:Value),BindsTo s fd ⟨[v],[]⟩ [(p,v)]:=by
 obtain⟨oc,od,kV,doc,pm,an,cdv,ct,osl,rfl,lk,hcd⟩:=F.ex
 exact h kV doc pm an cdv ct
def MethIs (K:PySem.W.Frag)(C:Addr)(x q:Str)(st:Stmt):Prop:=∃f fd,Meth K C x f∧Fun K x q st f fd
theorem meth_mk {K:PySem.W.Frag}{C:Addr}{x q:Str}{st:Stmt}{f:Addr}{oc:Value}{od an:Option Addr}{osl:Array (Option Value)}{kV doc pm cdv ct:Value}(a:PySem.W.findIn K (.ref C) x=some (some (.ref f)))(i:PySem.W.isFn K (.ref f)=true)
  (l:K.lookup f=some ⟨oc,od, .func (PySem.W.fnOf x q (defArgs st) (defBody st) (defScope st) .none kV doc pm an cdv ct),osl⟩) (c:PySem.W.codeIn K cdv q=true) (k:PySem.W.keepIn K (.ref f)=true):MethIs K C x q st:=⟨f,_,⟨a,i,k⟩,fun_mk l c k⟩
theorem cls_mk {K:PySem.W.Frag}{C:Addr}(pg:PySem.W.plainGet K C Str.empty=true)(hd:PySem.W.hasDictIn K C=true)(po:PySem.W.plainOver K C=true)(sa:PySem.W.findIn K (.ref C) "__setattr__"=some (some (.builtin "object.__setattr__"))):Cls K C:=⟨pg,hd,po,sa⟩
theorem noat_mk {K:PySem.W.Frag}{C:Addr}{x:Str}(n:PySem.W.findIn K (.ref C) x=some none):NoAttr K C x:=n
structure PlIs (K:PySem.W.Frag)(w:World)(dr y0 y1 y2 y3 y4 y5:Addr):Prop where
 nm:PySem.W.nsIn K mainGlobals "PHRASE_LOOKS"=some (some (.ref dr))
 n0:PySem.W.nsIn K mainGlobals "look_at_fun"=some (some (.ref y0))
 n1:PySem.W.nsIn K mainGlobals "look_at_let"=some (some (.ref y1))
 n2:PySem.W.nsIn K mainGlobals "look_at_ring"=some (some (.ref y2))
 n3:PySem.W.nsIn K mainGlobals "look_at_case"=some (some (.ref y3))
 n4:PySem.W.nsIn K mainGlobals "look_at_make"=some (some (.ref y4))
 n5:PySem.W.nsIn K mainGlobals "look_at_pick"=some (some (.ref y5))
 dict:StrDict K w dr [("fun", .ref y0),("let", .ref y1),("ring", .ref y2),("case", .ref y3),("make", .ref y4),("pick", .ref y5)]
theorem plis_mk {K:PySem.W.Frag}{w:World}{dr y0 y1 y2 y3 y4 y5:Addr}{oc:Value}{od:Option Addr}{es:Array DictEntry}{n:Nat}{sl:Array (Option Value)}(nm:PySem.W.nsIn K mainGlobals "PHRASE_LOOKS"=some (some (.ref dr)))
  (n0:PySem.W.nsIn K mainGlobals "look_at_fun"=some (some (.ref y0)))
  (n1:PySem.W.nsIn K mainGlobals "look_at_let"=some (some (.ref y1)))
  (n2:PySem.W.nsIn K mainGlobals "look_at_ring"=some (some (.ref y2)))
  (n3:PySem.W.nsIn K mainGlobals "look_at_case"=some (some (.ref y3)))
  (n4:PySem.W.nsIn K mainGlobals "look_at_make"=some (some (.ref y4)))
  (n5:PySem.W.nsIn K mainGlobals "look_at_pick"=some (some (.ref y5)))
  (l:K.lookup dr=some ⟨oc,od, .dict es n,sl⟩) (hs:(dr==sysModules)=false) (hx:Obj.ExactDict ⟨oc,od, .dict es n,sl⟩) (hp:Paired (EntryIs w) [("fun", .ref y0),("let", .ref y1),("ring", .ref y2),("case", .ref y3),("make", .ref y4),("pick", .ref y5)] es.toList):
  ∃dr y0 y1 y2 y3 y4 y5,PlIs K w dr y0 y1 y2 y3 y4 y5:=⟨dr,y0,y1,y2,y3,y4,y5,nm,n0,n1,n2,n3,n4,n5,hs,_,es,n,l,hx,rfl,hp⟩
structure DlIs (K:PySem.W.Frag)(w:World)(dr z0 z1 z2 z3 z4 z5 z6:Addr):Prop where
 nm:PySem.W.nsIn K mainGlobals "DECLARATION_LOOKS"=some (some (.ref dr))
 n0:PySem.W.nsIn K mainGlobals "look_at_kind_declaration"=some (some (.ref z0))
 n1:PySem.W.nsIn K mainGlobals "look_at_record"=some (some (.ref z1))
 n2:PySem.W.nsIn K mainGlobals "look_at_face"=some (some (.ref z2))
 n3:PySem.W.nsIn K mainGlobals "look_at_part"=some (some (.ref z3))
 n4:PySem.W.nsIn K mainGlobals "look_at_maker"=some (some (.ref z4))
 n5:PySem.W.nsIn K mainGlobals "look_at_apply"=some (some (.ref z5))
 n6:PySem.W.nsIn K mainGlobals "look_at_main"=some (some (.ref z6))
 dict:StrDict K w dr [("kind", .ref z0),("record", .ref z1),("face", .ref z2),("part", .ref z3),("maker", .ref z4),("apply", .ref z5),("main", .ref z6)]
theorem dlis_mk {K:PySem.W.Frag}{w:World}{dr z0 z1 z2 z3 z4 z5 z6:Addr}{oc:Value}{od:Option Addr}{es:Array DictEntry}{n:Nat}{sl:Array (Option Value)}(nm:PySem.W.nsIn K mainGlobals "DECLARATION_LOOKS"=some (some (.ref dr)))
  (n0:PySem.W.nsIn K mainGlobals "look_at_kind_declaration"=some (some (.ref z0)))
  (n1:PySem.W.nsIn K mainGlobals "look_at_record"=some (some (.ref z1)))
  (n2:PySem.W.nsIn K mainGlobals "look_at_face"=some (some (.ref z2)))
  (n3:PySem.W.nsIn K mainGlobals "look_at_part"=some (some (.ref z3)))
  (n4:PySem.W.nsIn K mainGlobals "look_at_maker"=some (some (.ref z4)))
  (n5:PySem.W.nsIn K mainGlobals "look_at_apply"=some (some (.ref z5)))
  (n6:PySem.W.nsIn K mainGlobals "look_at_main"=some (some (.ref z6)))
  (l:K.lookup dr=some ⟨oc,od, .dict es n,sl⟩) (hs:(dr==sysModules)=false) (hx:Obj.ExactDict ⟨oc,od, .dict es n,sl⟩) (hp:Paired (EntryIs w) [("kind", .ref z0),("record", .ref z1),("face", .ref z2),("part", .ref z3),("maker", .ref z4),("apply", .ref z5),("main", .ref z6)] es.toList):
  ∃dr z0 z1 z2 z3 z4 z5 z6,DlIs K w dr z0 z1 z2 z3 z4 z5 z6:=⟨dr,z0,z1,z2,z3,z4,z5,z6,nm,n0,n1,n2,n3,n4,n5,n6,hs,_,es,n,l,hx,rfl,hp⟩
abbrev bmV:List Value:=[.type "ValueError", .type "Exception", .type "BaseException", .type "object"]
def ExcIs (K:PySem.W.Frag)(x:Str)(CT CX:Addr):Prop:=∀(base:Heap) (mg:Str→Option Value),K.In base→mg x=some (.ref CT)→OwnCls x CT bmV "ValueError.__new__" mg base∧CatchOk base CT CX
theorem excis_mk {K:PySem.W.Frag}{x:Str}{CT CX N N':Addr}{nm q nm' q':Str}{bs bm bs' bm':List Value}{hd hd':Bool}{sn sn':List Str}{sub sub':List Value}{ab ab':Bool}{col col':Option Bool}{dd dd':Option Addr}{k0 k1 k2 k3 k5 j0 j1 j2 j3 j5:Option Value}{nid:String}
  (l1:K.lookup CT=some ⟨.type "type",dd, .cls ⟨nm,bs, .ref CT::bm,N,q,hd,sn,sub,ab,col,false⟩,#[k0,k1,k2,k3,some (.builtin "ValueError.__new__"),k5]⟩) (n1:PySem.W.nsOkIn K N=true) (n2:PySem.W.nsIn K N "__init__"=some none) (t1:PySem.W.tailIn K bmV bm=true)
  (l2:K.lookup CX=some ⟨.type "type",dd', .cls ⟨nm',bs', .ref CX::bm',N',q',hd',sn',sub',ab',col',false⟩,#[j0,j1,j2,j3,some (.builtin nid),j5]⟩) (b1:bm'.contains (.type "BaseException")=true) (b2:(Value.ref CT::bm).contains (.ref CX)=true):ExcIs K x CT CX:=fun base mg X m=>
 ⟨⟨m,bm,N,nm,q,bs,hd,sn,sub,ab,col,dd,k0,k1,k2,k3,k5,_,X _ _ l1, .of_isNs (PySem.W.isNs_of_in X n1),PySem.W.nsMap_none_of_in X n1 n2,PySem.W.tail_of_in X t1⟩,
  nm,q,nm',q',N,N',bs,bm,bs',bm',hd,hd',sn,sn',sub,sub',ab,ab',col,col',dd,dd',k0,k1,k2,k3,k5,j0,j1,j2,j3,j5,_,nid,X _ _ l1,X _ _ l2,b1,b2⟩
theorem exc_mk {K:PySem.W.Frag}{C:Addr}{c0:Value}{d0:Option Addr}{cd:ClassData}{sl:Array (Option Value)}(g0:PySem.W.findIn K (.ref C) "__getattribute__"=some (some (.builtin "BaseException.__getattribute__")))(g1:PySem.W.findIn K (.ref C) "__getattr__"=some none)(gb:PySem.W.mroIn K C (.type "BaseException")=some true)(g2:PySem.W.findIn K (.ref C) "__class__"=some (some (.builtin "object.__class__")))(g3:PySem.W.specialIn K (.builtin "object.__class__") "__get__"=some (some (.builtin "getset_descriptor.__get__")))
  (g4:PySem.W.takesIn K (.builtin "object.__class__")=some true) (g5:PySem.W.mroIn K C (.type "object")=some true) (lk:K.lookup C=some ⟨c0,d0, .cls cd,sl⟩):ExcCls K C:=⟨g0,g1,gb,g2,g3,g4,g5,_,_,_,_,lk⟩
theorem ref_inj {K:PySem.W.Frag}{x:Str}{a b:Addr}(h:PySem.W.nsIn K mainGlobals x=some (some (.ref a)))(q:PySem.W.nsIn K mainGlobals x=some (some (.ref b))):a=b:=by
 rw[h]at q;injection q with z;injection z with z;injection z
def clOf (a b c:Addr):Flt→Addr
 |.tw=>a
 |.nn=>b
 |.nc=>c
theorem us0 {C:List Value→Prop}(us:List Value)(h:us.length=0)(k:C []):C us:=List.eq_nil_of_length_eq_zero h ▸ k
theorem uss {n:Nat}{C:List Value→Prop}(us:List Value)(h:us.length=n+1)(k:∀a r,r.length=n→C (a::r)):C us:=by
 cases us with
 |nil=>exact absurd h.symm (Nat.succ_ne_zero n)
 |cons a r=>exact k a r (Nat.succ.inj h)
@[elab_as_elim] theorem us1 {C:List Value→Prop} (us:List Value) (h:us.length=1) (k:∀a0,C [a0]):C us:=uss us h fun a r h=>us0 (C:=fun r=>C (a::r)) r h (k a)
@[elab_as_elim] theorem us2 {C:List Value→Prop} (us:List Value) (h:us.length=2) (k:∀a0 a1,C [a0,a1]):C us:=uss us h fun a r h=>us1 (C:=fun r=>C (a::r)) r h (k a)
@[elab_as_elim] theorem us3 {C:List Value→Prop} (us:List Value) (h:us.length=3) (k:∀a0 a1 a2,C [a0,a1,a2]):C us:=uss us h fun a r h=>us2 (C:=fun r=>C (a::r)) r h (k a)
@[elab_as_elim] theorem us4 {C:List Value→Prop} (us:List Value) (h:us.length=4) (k:∀a0 a1 a2 a3,C [a0,a1,a2,a3]):C us:=uss us h fun a r h=>us3 (C:=fun r=>C (a::r)) r h (k a)
@[elab_as_elim] theorem us5 {C:List Value→Prop} (us:List Value) (h:us.length=5) (k:∀a0 a1 a2 a3 a4,C [a0,a1,a2,a3,a4]):C us:=uss us h fun a r h=>us4 (C:=fun r=>C (a::r)) r h (k a)
def AllOk (l:PySem.W.OpenLaw)(w:World)(K:PySem.W.Frag)(mg:Str→Option Value)(fa:Addr):Prop:=∃fd:FuncData,(∀(s:Shared) (v:Value),BindsTo s fd ⟨[v],[]⟩ [("_law_script",v)])∧∀base:Heap,K.In base→base.Ns mainGlobals mg→FnOk l.prog w K mg base CX0 12 fa fd ["_law_script"] (spLaw K)
set_option maxHeartbeats 2000000 in
theorem all_mk {l:PySem.W.OpenLaw}{w:World}{K:PySem.W.Frag}{h:Heap}{mg:Str→Option Value}{fa S CX C1 C2 C3 D1 D2 D3 D4 D5 D6 D7 D8 D9 D0:Addr}(X:K.In h)(G:h.Ns mainGlobals mg)(hfa:mg "law"=some (.ref fa))
  (z_len:PySem.W.nsIn K mainGlobals "len"=some none)
  (z_all:PySem.W.nsIn K mainGlobals "all"=some none)
  (z_isinstance:PySem.W.nsIn K mainGlobals "isinstance"=some none)
  (z_tuple:PySem.W.nsIn K mainGlobals "tuple"=some none)
  (z_list:PySem.W.nsIn K mainGlobals "list"=some none)
  (z_reversed:PySem.W.nsIn K mainGlobals "reversed"=some none)
  (z_range:PySem.W.nsIn K mainGlobals "range"=some none)
  (z_str:PySem.W.nsIn K mainGlobals "str"=some none)
  (z_ValueError:PySem.W.nsIn K mainGlobals "ValueError"=some none)
  (aS:PySem.W.nsIn K mainGlobals "Seen"=some (some (.ref S))) (cS:Cls K S) (mkS:PySem.W.makesIn K S=true) (kcS:PySem.W.keepIn K (.ref S)=true) (nS0:NoAttr K S "sort_counts") (nS1:NoAttr K S "kind_sizes") (nS2:NoAttr K S "tag_kinds") (nS3:NoAttr K S "tag_sizes") (nS4:NoAttr K S "record_sizes") (nS5:NoAttr K S "field_names") (nS6:NoAttr K S "face_rows") (nS7:NoAttr K S "part_faces") (nS8:NoAttr K S "giver_faces") (nS9:NoAttr K S "maker_rows")
  (mS0:MethIs K S "__init__" "Seen.__init__" s_in)
  (mS1:MethIs K S "names_great" "Seen.names_great" s_ng)
  (mS2:MethIs K S "face_of" "Seen.face_of" s_fo)
  (mS3:MethIs K S "count_of_hide" "Seen.count_of_hide" s_ch)
  (mS4:MethIs K S "uses_val" "Seen.uses_val" s_uv)
  (v_ARROW:∃t,PySem.W.nsIn K mainGlobals "ARROW"=some (some (.str "->" t)))
  (qCX:PySem.W.nsIn K mainGlobals "FaceError"=some (some (.ref CX)))
  (qC1:PySem.W.nsIn K mainGlobals "Twice"=some (some (.ref C1)))
  (qC2:PySem.W.nsIn K mainGlobals "NoName"=some (some (.ref C2)))
  (qC3:PySem.W.nsIn K mainGlobals "NoCount"=some (some (.ref C3)))
  (qD1:PySem.W.nsIn K mainGlobals "NoText"=some (some (.ref D1)))
  (qD2:PySem.W.nsIn K mainGlobals "NoKind"=some (some (.ref D2)))
  (qD3:PySem.W.nsIn K mainGlobals "NoFace"=some (some (.ref D3)))
  (qD4:PySem.W.nsIn K mainGlobals "Stuck"=some (some (.ref D4)))
  (qD5:PySem.W.nsIn K mainGlobals "TooGreat"=some (some (.ref D5)))
  (qD6:PySem.W.nsIn K mainGlobals "TooLong"=some (some (.ref D6)))
  (qD7:PySem.W.nsIn K mainGlobals "TooDeep"=some (some (.ref D7)))
  (qD8:PySem.W.nsIn K mainGlobals "NoTie"=some (some (.ref D8)))
  (qD9:PySem.W.nsIn K mainGlobals "NoRow"=some (some (.ref D9)))
  (qD0:PySem.W.nsIn K mainGlobals "NoProgram"=some (some (.ref D0)))
  (zx1:ExcCls K C1)
  (xi1:ExcIs K "Twice" C1 CX)
  (kV1:PySem.W.kitOne K (.ref C1) (.type "ValueError")=some true)
  (kA1:PySem.W.kitAny K (.ref C1) ([D1,D2,D3,D4,D5,D6,D7,D8,D9,D0].map Value.ref)=some false)
  (kk11:PySem.W.kitOne K (.ref C1) (.ref C1)=some true)
  (kk12:PySem.W.kitOne K (.ref C1) (.ref C2)=some false)
  (kk13:PySem.W.kitOne K (.ref C1) (.ref C3)=some false)
  (zx2:ExcCls K C2)
  (xi2:ExcIs K "NoName" C2 CX)
  (kV2:PySem.W.kitOne K (.ref C2) (.type "ValueError")=some true)
  (kA2:PySem.W.kitAny K (.ref C2) ([D1,D2,D3,D4,D5,D6,D7,D8,D9,D0].map Value.ref)=some false)
  (kk21:PySem.W.kitOne K (.ref C2) (.ref C1)=some false)
  (kk22:PySem.W.kitOne K (.ref C2) (.ref C2)=some true)
  (kk23:PySem.W.kitOne K (.ref C2) (.ref C3)=some false)
  (zx3:ExcCls K C3)
  (xi3:ExcIs K "NoCount" C3 CX)
  (kV3:PySem.W.kitOne K (.ref C3) (.type "ValueError")=some true)
  (kA3:PySem.W.kitAny K (.ref C3) ([D1,D2,D3,D4,D5,D6,D7,D8,D9,D0].map Value.ref)=some false)
  (kk31:PySem.W.kitOne K (.ref C3) (.ref C1)=some false)
  (kk32:PySem.W.kitOne K (.ref C3) (.ref C2)=some false)
  (kk33:PySem.W.kitOne K (.ref C3) (.ref C3)=some true)
  (v1:∃t,PySem.W.nsIn K mainGlobals "SMALL_LETTERS"=some (some (.str smallS t)))
  (v2:∃t,PySem.W.nsIn K mainGlobals "GREAT_LETTERS"=some (some (.str greatS t)))
  (v4:∃t,PySem.W.nsIn K mainGlobals "MOST_LETTERS"=some (some (.int 8 t)))
  (v5:∃a,PySem.W.nsIn K mainGlobals "KEPT"=some (some (.ref a))∧∀H,SqT K H a (keptL.map V.str))
  (hPl:∃dr y0 y1 y2 y3 y4 y5,PlIs K w dr y0 y1 y2 y3 y4 y5)
  (hDl:∃dr z0 z1 z2 z3 z4 z5 z6,DlIs K w dr z0 z1 z2 z3 z4 z5 z6)
  (d1:DefIs K "headed" s_headed)
  (d2:DefIs K "is_open" s_open)
  (d20:DefIs K "name_once" s_once)
  (d21:DefIs K "be_there" s_there)
  (d22:DefIs K "use" s_use)
  (d23:DefIs K "count_same" s_count)
  (d30:DefIs K "all_of" s_all_of)
  (d31:DefIs K "is_small" s_is_small)
  (d32:DefIs K "is_name" s_is_name)
  (d33:DefIs K "is_great" s_is_great)
  (d34:DefIs K "is_path" s_is_path)
  (d36:DefIs K "kinds_taken" s_taken)
  (d37:DefIs K "look_at_kind_word" s_kw)
  (d38:DefIs K "look_at_kind" s_kind)
  (d39:DefIs K "steps_of" s_so)
  (d40:DefIs K "look_at_plain" s_pl)
  (d41:DefIs K "look_at_fun" s_fu)
  (d42:DefIs K "look_at_let" s_le)
  (d43:DefIs K "look_at_function" s_fn)
  (d44:DefIs K "look_at_ring" s_ri)
  (d45:DefIs K "look_at_arm" s_ar)
  (d46:DefIs K "look_at_all_arms" s_al)
  (d47:DefIs K "look_at_case" s_ca)
  (d48:DefIs K "look_at_make" s_ma)
  (d49:DefIs K "look_at_pick" s_pi)
  (d50:DefIs K "look_at_tag" s_tg)
  (d52:DefIs K "look_at_word" s_lw)
  (d53:DefIs K "look_at_phrase" s_lp)
  (d54:DefIs K "look_through" s_lt)
  (d56:DefIs K "name_all" s_na)
  (d57:DefIs K "look_at_sort" s_srt)
  (d58:DefIs K "look_at_kinds" s_ks)
  (d59:DefIs K "look_at_kind_declaration" s_kd)
  (d60:DefIs K "look_at_record" s_rd)
  (d61:DefIs K "look_at_given_face" s_gf)
  (d62:DefIs K "look_at_givers" s_gs)
  (d63:DefIs K "name_hide" s_nh)
  (d64:DefIs K "look_at_face" s_fc)
  (d65:DefIs K "look_at_body" s_bd)
  (d66:DefIs K "look_at_part" s_pt)
  (d67:DefIs K "look_at_maker" s_mk)
  (d68:DefIs K "look_at_apply" s_ap)
  (d69:DefIs K "look_at_main" s_mn)
  (d71:DefIs K "look_over" s_ov)
  (d73:DefIs K "_law_next" s_next)
  (d74:DefIs K "_law_drawn" s_drawn)
  (d75:DefIs K "_law_words" s_words)
  (d76:DefIs K "_law_told" s_told)
  (d77:DefIs K "_law_base" s_base)
  (d78:DefIs K "_law_twice_rows" s_tw)
  (d79:DefIs K "_law_name_rows" s_nm)
  (d80:DefIs K "_law_count_rows" s_ct)
  (d81:DefIs K "_law_name_phrases" s_np)
  (d82:DefIs K "_law_count_phrases" s_cp)
  (d83:DefIs K "law" s_law):
  AllOk l w K mg fa:=by
 obtain⟨f1,g1,a1,F1⟩:=d1
 obtain⟨f2,g2,a2,F2⟩:=d2
 obtain⟨f20,g20,a20,F20⟩:=d20
 obtain⟨f21,g21,a21,F21⟩:=d21
 obtain⟨f22,g22,a22,F22⟩:=d22
 obtain⟨f23,g23,a23,F23⟩:=d23
 obtain⟨f30,g30,a30,F30⟩:=d30
 obtain⟨f31,g31,a31,F31⟩:=d31
 obtain⟨f32,g32,a32,F32⟩:=d32
 obtain⟨f33,g33,a33,F33⟩:=d33
 obtain⟨f34,g34,a34,F34⟩:=d34
 obtain⟨f36,g36,a36,F36⟩:=d36
 obtain⟨f37,g37,a37,F37⟩:=d37
 obtain⟨f38,g38,a38,F38⟩:=d38
 obtain⟨f39,g39,a39,F39⟩:=d39
 obtain⟨f40,g40,a40,F40⟩:=d40
 obtain⟨f41,g41,a41,F41⟩:=d41
 obtain⟨f42,g42,a42,F42⟩:=d42
 obtain⟨f43,g43,a43,F43⟩:=d43
 obtain⟨f44,g44,a44,F44⟩:=d44
 obtain⟨f45,g45,a45,F45⟩:=d45
 obtain⟨f46,g46,a46,F46⟩:=d46
 obtain⟨f47,g47,a47,F47⟩:=d47
 obtain⟨f48,g48,a48,F48⟩:=d48
 obtain⟨f49,g49,a49,F49⟩:=d49
 obtain⟨f50,g50,a50,F50⟩:=d50
 obtain⟨f52,g52,a52,F52⟩:=d52
 obtain⟨f53,g53,a53,F53⟩:=d53
 obtain⟨f54,g54,a54,F54⟩:=d54
 obtain⟨f56,g56,a56,F56⟩:=d56
 obtain⟨f57,g57,a57,F57⟩:=d57
 obtain⟨f58,g58,a58,F58⟩:=d58
 obtain⟨f59,g59,a59,F59⟩:=d59
 obtain⟨f60,g60,a60,F60⟩:=d60
 obtain⟨f61,g61,a61,F61⟩:=d61
 obtain⟨f62,g62,a62,F62⟩:=d62
 obtain⟨f63,g63,a63,F63⟩:=d63
 obtain⟨f64,g64,a64,F64⟩:=d64
 obtain⟨f65,g65,a65,F65⟩:=d65
 obtain⟨f66,g66,a66,F66⟩:=d66
 obtain⟨f67,g67,a67,F67⟩:=d67
 obtain⟨f68,g68,a68,F68⟩:=d68
 obtain⟨f69,g69,a69,F69⟩:=d69
 obtain⟨f71,g71,a71,F71⟩:=d71
 obtain⟨f73,g73,a73,F73⟩:=d73
 obtain⟨f74,g74,a74,F74⟩:=d74
 obtain⟨f75,g75,a75,F75⟩:=d75
 obtain⟨f76,g76,a76,F76⟩:=d76
 obtain⟨f77,g77,a77,F77⟩:=d77
 obtain⟨f78,g78,a78,F78⟩:=d78
 obtain⟨f79,g79,a79,F79⟩:=d79
 obtain⟨f80,g80,a80,F80⟩:=d80
 obtain⟨f81,g81,a81,F81⟩:=d81
 obtain⟨f82,g82,a82,F82⟩:=d82
 obtain⟨f83,g83,a83,F83⟩:=d83
 have e:=hfa.symm.trans (PySem.W.mg_of X G a83)
 cases e
 refine⟨g83,law_binds F83 fun _ _ _ _ _ _ _ _=>.of_eq rfl,fun base XB GB=>?_⟩
 have m_len:=PySem.W.mg_none_of X G z_len
 have m_all:=PySem.W.mg_none_of X G z_all
 have m_isinstance:=PySem.W.mg_none_of X G z_isinstance
 have m_tuple:=PySem.W.mg_none_of X G z_tuple
 have m_list:=PySem.W.mg_none_of X G z_list
 have m_reversed:=PySem.W.mg_none_of X G z_reversed
 have m_range:=PySem.W.mg_none_of X G z_range
 have m_str:=PySem.W.mg_none_of X G z_str
 have m_ValueError:=PySem.W.mg_none_of X G z_ValueError
 obtain⟨t_ARROW,v_ARROW⟩:=v_ARROW
 have m_ARROW:=PySem.W.mg_of X G v_ARROW
 have mgS:=PySem.W.mg_of X G aS
 obtain⟨fS0,gS0,MS0,FS0⟩:=mS0
 have bS0:=FS0.binds (ps:=["self"]) fun _ _ _ _ _ _ us hl=>us1 us hl fun _=>rfl
 obtain⟨fS1,gS1,MS1,FS1⟩:=mS1
 have bS1:=FS1.binds (ps:=["self","word"]) fun _ _ _ _ _ _ us hl=>us2 us hl fun _ _=>rfl
 obtain⟨fS2,gS2,MS2,FS2⟩:=mS2
 have bS2:=FS2.binds (ps:=["self","part"]) fun _ _ _ _ _ _ us hl=>us2 us hl fun _ _=>rfl
 obtain⟨fS3,gS3,MS3,FS3⟩:=mS3
 have bS3:=FS3.binds (ps:=["self","path"]) fun _ _ _ _ _ _ us hl=>us2 us hl fun _ _=>rfl
 obtain⟨fS4,gS4,MS4,FS4⟩:=mS4
 have bS4:=FS4.binds (ps:=["self","path"]) fun _ _ _ _ _ _ us hl=>us2 us hl fun _ _=>rfl
 have b1:=F1.binds (ps:=["thing"]) fun _ _ _ _ _ _ us hl=>us1 us hl fun _=>rfl
 have b2:=F2.binds (ps:=["thing"]) fun _ _ _ _ _ _ us hl=>us1 us hl fun _=>rfl
 have b20:=F20.binds (ps:=["word","there"]) fun _ _ _ _ _ _ us hl=>us2 us hl fun _ _=>rfl
 have b21:=F21.binds (ps:=["word","there"]) fun _ _ _ _ _ _ us hl=>us2 us hl fun _ _=>rfl
 have b22:=F22.binds (ps:=["word","there"]) fun _ _ _ _ _ _ us hl=>us2 us hl fun _ _=>rfl
 have b23:=F23.binds (ps:=["word","wanted","count"]) fun _ _ _ _ _ _ us hl=>us3 us hl fun _ _ _=>rfl
 have b30:=F30.binds (ps:=["text","signs"]) fun _ _ _ _ _ _ us hl=>us2 us hl fun _ _=>rfl
 have b31:=F31.binds (ps:=["thing"]) fun _ _ _ _ _ _ us hl=>us1 us hl fun _=>rfl
 have b32:=F32.binds (ps:=["thing"]) fun _ _ _ _ _ _ us hl=>us1 us hl fun _=>rfl
 have b33:=F33.binds (ps:=["thing"]) fun _ _ _ _ _ _ us hl=>us1 us hl fun _=>rfl
 have b34:=F34.binds (ps:=["thing"]) fun _ _ _ _ _ _ us hl=>us1 us hl fun _=>rfl
 have b36:=F36.binds (ps:=["seen","word","hides"]) fun _ _ _ _ _ _ us hl=>us3 us hl fun _ _ _=>rfl
 have b37:=F37.binds (ps:=["seen","word","count","hides","variables"]) fun _ _ _ _ _ _ us hl=>us5 us hl fun _ _ _ _ _=>rfl
 have b38:=F38.binds (ps:=["seen","kind","hides","variables"]) fun _ _ _ _ _ _ us hl=>us4 us hl fun _ _ _ _=>rfl
 have b39:=F39.binds (ps:=["phrases","names"]) fun _ _ _ _ _ _ us hl=>us2 us hl fun _ _=>rfl
 have b40:=F40.binds (ps:=["seen","phrase","names"]) fun _ _ _ _ _ _ us hl=>us3 us hl fun _ _ _=>rfl
 have b41:=F41.binds (ps:=["seen","phrase","names"]) fun _ _ _ _ _ _ us hl=>us3 us hl fun _ _ _=>rfl
 have b42:=F42.binds (ps:=["seen","phrase","names"]) fun _ _ _ _ _ _ us hl=>us3 us hl fun _ _ _=>rfl
 have b43:=F43.binds (ps:=["seen","functions","names"]) fun _ _ _ _ _ _ us hl=>us3 us hl fun _ _ _=>rfl
 have b44:=F44.binds (ps:=["seen","phrase","names"]) fun _ _ _ _ _ _ us hl=>us3 us hl fun _ _ _=>rfl
 have b45:=F45.binds (ps:=["seen","arms","names"]) fun _ _ _ _ _ _ us hl=>us3 us hl fun _ _ _=>rfl
 have b46:=F46.binds (ps:=["seen","arms","names"]) fun _ _ _ _ _ _ us hl=>us3 us hl fun _ _ _=>rfl
 have b47:=F47.binds (ps:=["seen","phrase","names"]) fun _ _ _ _ _ _ us hl=>us3 us hl fun _ _ _=>rfl
 have b48:=F48.binds (ps:=["seen","phrase","names"]) fun _ _ _ _ _ _ us hl=>us3 us hl fun _ _ _=>rfl
 have b49:=F49.binds (ps:=["seen","phrase","names"]) fun _ _ _ _ _ _ us hl=>us3 us hl fun _ _ _=>rfl
 have b50:=F50.binds (ps:=["seen","phrase","names"]) fun _ _ _ _ _ _ us hl=>us3 us hl fun _ _ _=>rfl
 have b52:=F52.binds (ps:=["seen","word","names"]) fun _ _ _ _ _ _ us hl=>us3 us hl fun _ _ _=>rfl
 have b53:=F53.binds (ps:=["seen","phrase","names"]) fun _ _ _ _ _ _ us hl=>us3 us hl fun _ _ _=>rfl
 have b54:=F54.binds (ps:=["seen","phrase","names"]) fun _ _ _ _ _ _ us hl=>us3 us hl fun _ _ _=>rfl
 have b56:=F56.binds (ps:=["words"]) fun _ _ _ _ _ _ us hl=>us1 us hl fun _=>rfl
 have b57:=F57.binds (ps:=["seen","declaration"]) fun _ _ _ _ _ _ us hl=>us2 us hl fun _ _=>rfl
 have b58:=F58.binds (ps:=["seen","kinds","variables"]) fun _ _ _ _ _ _ us hl=>us3 us hl fun _ _ _=>rfl
 have b59:=F59.binds (ps:=["seen","declaration"]) fun _ _ _ _ _ _ us hl=>us2 us hl fun _ _=>rfl
 have b60:=F60.binds (ps:=["seen","declaration"]) fun _ _ _ _ _ _ us hl=>us2 us hl fun _ _=>rfl
 have b61:=F61.binds (ps:=["seen","given"]) fun _ _ _ _ _ _ us hl=>us2 us hl fun _ _=>rfl
 have b62:=F62.binds (ps:=["seen","own","givers"]) fun _ _ _ _ _ _ us hl=>us3 us hl fun _ _ _=>rfl
 have b63:=F63.binds (ps:=["seen","word","hides"]) fun _ _ _ _ _ _ us hl=>us3 us hl fun _ _ _=>rfl
 have b64:=F64.binds (ps:=["seen","declaration"]) fun _ _ _ _ _ _ us hl=>us2 us hl fun _ _=>rfl
 have b65:=F65.binds (ps:=["seen","body"]) fun _ _ _ _ _ _ us hl=>us2 us hl fun _ _=>rfl
 have b66:=F66.binds (ps:=["seen","declaration"]) fun _ _ _ _ _ _ us hl=>us2 us hl fun _ _=>rfl
 have b67:=F67.binds (ps:=["seen","declaration"]) fun _ _ _ _ _ _ us hl=>us2 us hl fun _ _=>rfl
 have b68:=F68.binds (ps:=["seen","declaration"]) fun _ _ _ _ _ _ us hl=>us2 us hl fun _ _=>rfl
 have b69:=F69.binds (ps:=["seen","declaration"]) fun _ _ _ _ _ _ us hl=>us2 us hl fun _ _=>rfl
 have b71:=F71.binds (ps:=["program"]) fun _ _ _ _ _ _ us hl=>us1 us hl fun _=>rfl
 have b73:=F73.binds (ps:=["_law_state","_law_many"]) fun _ _ _ _ _ _ us hl=>us2 us hl fun _ _=>rfl
 have b74:=F74.binds (ps:=["_law_script"]) fun _ _ _ _ _ _ us hl=>us1 us hl fun _=>rfl
 have b75:=F75.binds (ps:=["_law_state"]) fun _ _ _ _ _ _ us hl=>us1 us hl fun _=>rfl
 have b76:=F76.binds (ps:=["_law_program"]) fun _ _ _ _ _ _ us hl=>us1 us hl fun _=>rfl
 have b77:=F77.binds (ps:=["_law_w","_law_g","_law_v"]) fun _ _ _ _ _ _ us hl=>us3 us hl fun _ _ _=>rfl
 have b78:=F78.binds (ps:=["_law_w","_law_g","_law_v"]) fun _ _ _ _ _ _ us hl=>us3 us hl fun _ _ _=>rfl
 have b79:=F79.binds (ps:=["_law_w","_law_g","_law_v"]) fun _ _ _ _ _ _ us hl=>us3 us hl fun _ _ _=>rfl
 have b80:=F80.binds (ps:=["_law_w","_law_g"]) fun _ _ _ _ _ _ us hl=>us2 us hl fun _ _=>rfl
 have b81:=F81.binds (ps:=["_law_w","_law_g"]) fun _ _ _ _ _ _ us hl=>us2 us hl fun _ _=>rfl
 have b82:=F82.binds (ps:=["_law_w","_law_g"]) fun _ _ _ _ _ _ us hl=>us2 us hl fun _ _=>rfl
 obtain⟨dp,y0,y1,y2,y3,y4,y5,Yp⟩:=hPl
 obtain⟨dd,z0,z1,z2,z3,z4,z5,z6,Yd⟩:=hDl
 obtain rfl:=ref_inj a41 Yp.n0
 obtain rfl:=ref_inj a42 Yp.n1
 obtain rfl:=ref_inj a44 Yp.n2
 obtain rfl:=ref_inj a47 Yp.n3
 obtain rfl:=ref_inj a48 Yp.n4
 obtain rfl:=ref_inj a49 Yp.n5
 obtain rfl:=ref_inj a59 Yd.n0
 obtain rfl:=ref_inj a60 Yd.n1
 obtain rfl:=ref_inj a64 Yd.n2
 obtain rfl:=ref_inj a66 Yd.n3
 obtain rfl:=ref_inj a67 Yd.n4
 obtain rfl:=ref_inj a68 Yd.n5
 obtain rfl:=ref_inj a69 Yd.n6
 obtain⟨O1,CO1⟩:=xi1 base mg XB (PySem.W.mg_of X G qC1)
 obtain⟨O2,CO2⟩:=xi2 base mg XB (PySem.W.mg_of X G qC2)
 obtain⟨O3,CO3⟩:=xi3 base mg XB (PySem.W.mg_of X G qC3)
 obtain⟨tk1,v1⟩:=v1
 obtain⟨tk2,v2⟩:=v2
 obtain⟨tk4,v4⟩:=v4
 obtain⟨ka,v5,v5q⟩:=v5
 have GB:Gb K mg:=⟨m_len,m_all,m_isinstance,m_str,m_tuple,m_list,m_range,⟨_,(PySem.W.mg_of X G v1)⟩,⟨_,(PySem.W.mg_of X G v2)⟩,⟨_,(PySem.W.mg_of X G v4)⟩,⟨_,(PySem.W.mg_of X G v5),v5q⟩⟩
 have CC:=Cl3.mk (CL:=clOf C1 C2 C3) (mg:=mg) (base:=base) O1 O2 O3 PySem.F.excBase_ValueError
 have Tx:TxS K S:=⟨cS,nS0,nS1,nS2,nS3,nS4,nS5,nS6,nS7,nS8,nS9⟩
 have H1:Has l.prog w K mg base 1 "headed" ["thing"] spHd:=⟨f1,g1,ok_headed F1 m_isinstance m_tuple,b1,F1.kp,PySem.W.mg_of X G a1⟩
 have H2:Has l.prog w K mg base 1 "is_open" ["thing"] spOpen:=⟨f2,g2,ok_open F2 m_isinstance m_str,b2,F2.kp,PySem.W.mg_of X G a2⟩
 have H20:HasX l.prog w K mg base 1 "name_once" ["word","there"] (spOnce (clOf C1 C2 C3)):=⟨f20,g20,ok_once F20 CC,b20,F20.kp,(PySem.W.mg_of X G a20)⟩
 have H21:HasX l.prog w K mg base 1 "be_there" ["word","there"] (spThere (clOf C1 C2 C3)):=⟨f21,g21,ok_there F21 CC,b21,F21.kp,(PySem.W.mg_of X G a21)⟩
 have H22:HasX l.prog w K mg base 2 "use" ["word","there"] (spUse (clOf C1 C2 C3)):=⟨f22,g22,ok_use F22 H21,b22,F22.kp,(PySem.W.mg_of X G a22)⟩
 have H23:HasX l.prog w K mg base 1 "count_same" ["word","wanted","count"] (spCount (clOf C1 C2 C3)):=⟨f23,g23,ok_count F23 CC,b23,F23.kp,(PySem.W.mg_of X G a23)⟩
 have GN:=ok_ng (P:=l.prog) (w:=w) (mg:=mg) (base:=base) FS1 Tx H20
 have GO:=ok_fo (P:=l.prog) (w:=w) (mg:=mg) (base:=base) FS2 Tx H22
 have GC:=ok_ch (P:=l.prog) (w:=w) (mg:=mg) (base:=base) FS3 Tx H22 MS2 GO bS2
 have GU:=ok_uv (P:=l.prog) (w:=w) (mg:=mg) (base:=base) FS4 Tx H21 MS2 GO bS2
 have GI:=ok_in (P:=l.prog) (w:=w) (mg:=mg) (base:=base) FS0 Tx
 have H30:Has l.prog w K mg base 1 "all_of" ["text","signs"] spAllOf:=⟨f30,g30,ok_all_of F30 GB,b30,F30.kp,PySem.W.mg_of X G a30⟩
 have H31:Has l.prog w K mg base 2 "is_small" ["thing"] (spT (onStr smallB)):=⟨f31,g31,ok_is_small F31 GB H30,b31,F31.kp,PySem.W.mg_of X G a31⟩
 have H32:Has l.prog w K mg base 3 "is_name" ["thing"] (spT (onStr nameB)):=⟨f32,g32,ok_is_name F32 GB H31,b32,F32.kp,PySem.W.mg_of X G a32⟩
 have H33:Has l.prog w K mg base 2 "is_great" ["thing"] (spT (onStr greatB)):=⟨f33,g33,ok_is_great F33 GB H30,b33,F33.kp,PySem.W.mg_of X G a33⟩
 have H34:Has l.prog w K mg base 4 "is_path" ["thing"] (spT (onStr pathB)):=⟨f34,g34,ok_is_path F34 GB H32 H33,b34,F34.kp,PySem.W.mg_of X G a34⟩
 have H36:HasX l.prog w K mg base 5 "kinds_taken" ["seen","word","hides"] (spTaken S (clOf C1 C2 C3)):=⟨f36,g36,ok_taken F36 Tx H34 H22 MS3 GC bS3,b36,F36.kp,(PySem.W.mg_of X G a36)⟩
 have H37:HasX l.prog w K mg base 6 "look_at_kind_word" ["seen","word","count","hides","variables"] (spKw S (clOf C1 C2 C3)):=⟨f37,g37,ok_kw F37 ⟨_,m_ARROW⟩ H2 H23 H36 H21,b37,F37.kp,(PySem.W.mg_of X G a37)⟩
 have H38:HasX l.prog w K mg base 7 "look_at_kind" ["seen","kind","hides","variables"] (spKind S (clOf C1 C2 C3)):=⟨f38,g38,ok_kind F38 m_len m_list m_reversed H1 H37,b38,F38.kp,(PySem.W.mg_of X G a38)⟩
 have GA:=ok_soF (P:=l.prog) (w:=w) (mg:=mg) (base:=base) (A:=⟨f53,f43,f45,f46⟩) F39 (PySem.W.mg_of X G a53)
 have H39F:Has l.prog w K mg base 1 "steps_of" pSo (spSoF ⟨f53,f43,f45,f46⟩):=⟨f39,g39,GA,b39,F39.kp,(PySem.W.mg_of X G a39)⟩
 have H39:Has l.prog w K mg base 1 "steps_of" pSo (spSo ⟨f53,f43,f45,f46⟩):=⟨f39,g39,ok_so GA,b39,F39.kp,(PySem.W.mg_of X G a39)⟩
 have H40:HasX l.prog w K mg base 2 "look_at_plain" ["seen","phrase","names"] (spPl S ⟨f53,f43,f45,f46⟩):=⟨f40,g40,ok_pl F40 H39,b40,F40.kp,(PySem.W.mg_of X G a40)⟩
 have G41:=ok_fu (CS:=S) (CL:=clOf C1 C2 C3) F41 H39
 have G42:=ok_le (CS:=S) (CL:=clOf C1 C2 C3) F42 H39
 have G44:=ok_ri (CS:=S) (CL:=clOf C1 C2 C3) F44 m_len m_range m_tuple (PySem.W.mg_of X G a43) H39
 have G47:=ok_ca (CS:=S) (CL:=clOf C1 C2 C3) F47 m_len m_range (PySem.W.mg_of X G a45) (PySem.W.mg_of X G a46) H39
 have G48:=ok_ma F48 m_len Tx H39 H23 H22
 have G49:=ok_pi F49 Tx H39 H21
 have H50:HasX l.prog w K mg base 3 "look_at_tag" ["seen","phrase","names"] (spTag S (clOf C1 C2 C3) ⟨f53,f43,f45,f46⟩):=⟨f50,g50,ok_tg F50 m_len Tx H39 H23 H22,b50,F50.kp,(PySem.W.mg_of X G a50)⟩
 have H52:HasX l.prog w K mg base 5 "look_at_word" ["seen","word","names"] (spLw S (clOf C1 C2 C3)):=⟨f52,g52,ok_lw F52 m_isinstance m_str Tx H34 H21 MS4 GU bS4,b52,F52.kp,(PySem.W.mg_of X G a52)⟩
 have G43:=ok_fn (CS:=S) F43 H39 H20
 have G45:=ok_ar F45 CC m_len m_range Tx H39 H20 H22 H23
 have G46:=ok_al (A:=⟨f53,f43,f45,f46⟩) F46 m_len Tx H23
 have G53:=ok_lp (fn:=(fun n=>([f41,f42,f44,f47,f48,f49]:List Addr).getD n 0)) F53 m_isinstance m_tuple H1 H33 H50 H52 H40 (PySem.W.mg_of X G Yp.nm) Yp.dict (fun n hn=>by
  rcases n6 (Nat.lt_succ_of_le hn) with rfl|rfl|rfl|rfl|rfl|rfl
  ·exact⟨g41,_,G41.mono (by decide),b41,F41.kp⟩
  ·exact⟨g42,_,G42.mono (by decide),b42,F42.kp⟩
  ·exact⟨g44,_,G44.mono (by decide),b44,F44.kp⟩
  ·exact⟨g47,_,G47.mono (by decide),b47,F47.kp⟩
  ·exact⟨g48,_,G48,b48,F48.kp⟩
  ·exact⟨g49,_,G49.mono (by decide),b49,F49.kp⟩)
 have H54:HasX l.prog w K mg base 7 "look_through" ["seen","phrase","names"] (spLt S (clOf C1 C2 C3)):=⟨f54,g54,ok_lt (A:=⟨f53,f43,f45,f46⟩) F54 m_len m_list m_reversed H39F (fun n hn=>by
  rcases n4 (Nat.lt_succ_of_le hn) with rfl|rfl|rfl|rfl
  ·exact⟨g53,_,G53,b53,F53.kp⟩
  ·exact⟨g43,_,G43.mono (by decide),b43,F43.kp⟩
  ·exact⟨g45,_,G45.mono (by decide),b45,F45.kp⟩
  ·exact⟨g46,_,G46.mono (by decide),b46,F46.kp⟩),b54,F54.kp,(PySem.W.mg_of X G a54)⟩
 have H56:HasX l.prog w K mg base 2 "name_all" ["words"] (spAll (clOf C1 C2 C3)):=⟨f56,g56,ok_na F56 H20,b56,F56.kp,(PySem.W.mg_of X G a56)⟩
 have H57:HasX l.prog w K mg base 3 "look_at_sort" ["seen","declaration"] (spSort S (clOf C1 C2 C3)):=⟨f57,g57,ok_srt F57 Tx m_len H20 H56,b57,F57.kp,(PySem.W.mg_of X G a57)⟩
 have H58:HasX l.prog w K mg base 8 "look_at_kinds" ["seen","kinds","variables"] (spKinds S (clOf C1 C2 C3)):=⟨f58,g58,ok_ks F58 H38,b58,F58.kp,(PySem.W.mg_of X G a58)⟩
 have G59:=ok_kd F59 Tx m_len H20 H57 H58
 have G60:=ok_rd F60 Tx m_len H20 H57 H58
 have H61:HasX l.prog w K mg base 4 "look_at_given_face" ["seen","given"] (spGiven S (clOf C1 C2 C3)):=⟨f61,g61,ok_gf F61 Tx m_len H1 H23 H22 MS2 GO bS2,b61,F61.kp,(PySem.W.mg_of X G a61)⟩
 have H62:HasX l.prog w K mg base 5 "look_at_givers" ["seen","own","givers"] (spGivers S (clOf C1 C2 C3)):=⟨f62,g62,ok_gs F62 Tx H1 H20 H61 MS1 GN bS1,b62,F62.kp,(PySem.W.mg_of X G a62)⟩
 have H63:HasX l.prog w K mg base 2 "name_hide" ["seen","word","hides"] (spNh S (clOf C1 C2 C3)):=⟨f63,g63,ok_nh F63 Tx H20,b63,F63.kp,(PySem.W.mg_of X G a63)⟩
 have G64:=ok_fc F64 Tx m_len H20 H62 H63 H38 MS1 GN bS1
 have H65:HasX l.prog w K mg base 8 "look_at_body" ["seen","body"] (spBody S (clOf C1 C2 C3)):=⟨f65,g65,ok_bd F65 H20 H56 H63 H38 H54,b65,F65.kp,(PySem.W.mg_of X G a65)⟩
 have G66:=ok_pt F66 Tx H61 H65 MS1 GN bS1
 have G67:=ok_mk F67 Tx m_len H62 H61 H65 MS1 GN bS1
 have G68:=ok_ap F68 Tx m_len H23 H22 H21 MS1 GN bS1
 have G69:=ok_mn F69 H54
 have H71:HasX l.prog w K mg base 10 "look_over" ["program"] (spOver (clOf C1 C2 C3)):=⟨f71,g71,ok_ov (fn:=(fun n=>([f59,f60,f64,f66,f67,f68,f69]:List Addr).getD n 0)) F71 Tx ⟨mkS,MS0.at_,MS0.fn,kcS⟩ GI bS0 mgS (PySem.W.mg_of X G Yd.nm) Yd.dict (fun n hn=>by
  rcases n7 (Nat.lt_succ_of_le hn) with rfl|rfl|rfl|rfl|rfl|rfl|rfl
  ·exact⟨g59,G59,b59,F59.kp⟩
  ·exact⟨g60,G60,b60,F60.kp⟩
  ·exact⟨g64,G64.mono (by decide),b64,F64.kp⟩
  ·exact⟨g66,G66,b66,F66.kp⟩
  ·exact⟨g67,G67,b67,F67.kp⟩
  ·exact⟨g68,G68.mono (by decide),b68,F68.kp⟩
  ·exact⟨g69,G69.mono (by decide),b69,F69.kp⟩),b71,F71.kp,(PySem.W.mg_of X G a71)⟩
 have ZK:ClsK K mg (clOf C1 C2 C3) CX D1 D2 D3 D4 D5 D6 D7 D8 D9 D0:=⟨(PySem.W.mg_of X G qCX),(PySem.W.mg_of X G qC1),(PySem.W.mg_of X G qC2),(PySem.W.mg_of X G qC3),(PySem.W.mg_of X G qD1),(PySem.W.mg_of X G qD2),(PySem.W.mg_of X G qD3),(PySem.W.mg_of X G qD4),(PySem.W.mg_of X G qD5),(PySem.W.mg_of X G qD6),(PySem.W.mg_of X G qD7),(PySem.W.mg_of X G qD8),(PySem.W.mg_of X G qD9),(PySem.W.mg_of X G qD0),m_ValueError,m_isinstance,fun o=>match o with|.tw=>zx1|.nn=>zx2|.nc=>zx3,fun o o2=>match o,o2 with|.tw, .tw=>kk11|.tw, .nn=>kk12|.tw, .nc=>kk13|.nn, .tw=>kk21|.nn, .nn=>kk22|.nn, .nc=>kk23|.nc, .tw=>kk31|.nc, .nn=>kk32|.nc, .nc=>kk33,fun o=>match o with|.tw=>kV1|.nn=>kV2|.nc=>kV3,fun o=>match o with|.tw=>kA1|.nn=>kA2|.nc=>kA3⟩
 have H73:Has l.prog w K mg base 1 "_law_next" ["_law_state","_law_many"] spNext:=⟨f73,g73,ok_next F73 m_len,b73,F73.kp,PySem.W.mg_of X G a73⟩
 have H74:Has l.prog w K mg base 1 "_law_drawn" ["_law_script"] (spDrawn K):=⟨f74,g74,ok_drawn F74 m_len,b74,F74.kp,PySem.W.mg_of X G a74⟩
 have H75:Has l.prog w K mg base 2 "_law_words" ["_law_state"] spWords:=⟨f75,g75,ok_words F75 m_len m_range H73,b75,F75.kp,PySem.W.mg_of X G a75⟩
 have H76:Has l.prog w K mg base 11 "_law_told" ["_law_program"] spTold:=⟨f76,g76,ok_told (fR:=f71) (gR:=g71) F76 ZK (fun o=>match o with|.tw=>CO1|.nn=>CO2|.nc=>CO3) H71,b76,F76.kp,PySem.W.mg_of X G a76⟩
 have H77:Has l.prog w K mg base 1 "_law_base" ["_law_w","_law_g","_law_v"] (spRows n3 (defBody s_base) 3):=⟨f77,g77,ok_qbase F77,b77,F77.kp,PySem.W.mg_of X G a77⟩
 have H78:Has l.prog w K mg base 1 "_law_twice_rows" ["_law_w","_law_g","_law_v"] (spRows n3 (defBody s_tw) 3):=⟨f78,g78,ok_qtw F78,b78,F78.kp,PySem.W.mg_of X G a78⟩
 have H79:Has l.prog w K mg base 1 "_law_name_rows" ["_law_w","_law_g","_law_v"] (spRows n3 (defBody s_nm) 3):=⟨f79,g79,ok_qnm F79,b79,F79.kp,PySem.W.mg_of X G a79⟩
 have H80:Has l.prog w K mg base 1 "_law_count_rows" ["_law_w","_law_g"] (spRows n2 (defBody s_ct) 2):=⟨f80,g80,ok_qct F80,b80,F80.kp,PySem.W.mg_of X G a80⟩
 have H81:Has l.prog w K mg base 1 "_law_name_phrases" ["_law_w","_law_g"] (spRows n2 (defBody s_np) 2):=⟨f81,g81,ok_qnp F81,b81,F81.kp,PySem.W.mg_of X G a81⟩
 have H82:Has l.prog w K mg base 1 "_law_count_phrases" ["_law_w","_law_g"] (spRows n2f (defBody s_cp) 2):=⟨f82,g82,ok_qcp F82,b82,F82.kp,PySem.W.mg_of X G a82⟩
 exact ok_law F83 H74 H75 H77 H78 H79 H80 H81 H82 H76
theorem walk {l:PySem.W.OpenLaw}{q:Program}{loose:List Str}{XP:(Str→Option Value)→Heap→Prop}{YP:World→Heap→Prop}{d:DefRec}{K:Params→PySem.W.Frag}(hn:l.most=some 63)(hdf:d.params.defaults=[])
  (hY:∀(w:World) (h:Heap),YP w h→(K w.params).In h)
  (F:∀(w:World) (mg:Str→Option Value) (fa:Addr) (h:Heap),(K w.params).In h→h.Ns mainGlobals mg→mg d.name=some (.ref fa)→
   ∃fd:FuncData,(∀(s:Shared) (u:Value),BindsTo s fd ⟨[u],[]⟩ [("_law_script",u)])∧∀base:Heap,(K w.params).In base→base.Ns mainGlobals mg→FnOk l.prog w (K w.params) mg base CX0 12 fa fd ["_law_script"] (spLaw (K w.params))):
  PySem.W.WalkO q loose XP YP l.row.toRowW d [] (fun f vs=>PySem.call f vs) :=
 L2.walk_of (n:=63) (k:=12) (x:="_law_script") (CX:=fun _=>CX0) (sp:=fun w=>spLaw (K w.params)) hn (by decide) hdf ⟨rfl,by decide,by decide⟩ hY F (fun _ _ a ns hl _ hS=>⟨a,ns,rfl,hS,hl,fun _=>rfl⟩) fun _ _ _ _ _ z=>z
end Fw
open PySem PySem.W PyProof.Rows
structure PySem.W.Fast:Prop where(tw8914051069811881731 tw6840058061410048715 tw11131231396359147456 tw5418250113405958070 tw13878674054115456680 tw14227677650852709646 tw9416072169970360792 tw14338074083512230790 tw603434291685910930 tw11093517162145269206 tw15632399653781800859 tw9179121950235200566 tw10104739736832995860 tw14056307801860849594 tw8596170379434614905 tw9655245450847191021 tw4108146147187112360 tw7997858183782458264 tw14771256963286087123 tw13067265852002582861 tw12586267962747982172 tw9170432645114347184 tw4566953890034531244 tw1596973485144610665 tw15275593595067620230 tw5037656978597986699 tw7038201274015797943 tw3600142591195536440 tw3388272375387661641 tw2330132197617464492 tw7719481302696164410 tw6721089108766706115 tw8862532158754519369 tw16292818286465567882 tw13363415791858922844 tw8870817565931482378 tw3559536688265596635 tw11646621112776061032 tw6686494421540273306 tw9562241483123392746 tw6386098989430104226 tw5939295758159481323 tw4689385293178537319 tw4250535005363150672 tw15033878027415335335 tw13984897053879072738 tw8375009506930913594 tw5447979880345427787 tw810274972980385529 tw18054905058240158658 tw3484169960735230441 tw815933601757882329 tw6484996699198924218 tw6242300781966477189 tw616768201779906552 tw5621383537398057210 tw4904911800419616427 tw4390067868544476112 tw3497223301608661934 tw17086100296971760126 tw14549396344210420304 tw14113965799496353072 tw13235880653760263433 tw12442523443310219694 tw12158795306636941593 tw10105786388246906628 tw15358367460047640190 tw8287966250373957077 tw13670710727929812618 tw14750735054142070343 tw13501824997569941805 tw9366293679611894015 tw3660744525933829859 tw9196017430368589501 tw6845662088006493373 tw4984244904814586120 tw4303921958169447922 tw3253643144556003766 tw14655969479734945720 tw12201313401154495908 tw11214620411989628084 tw5198907860583964687 tw1853199585298242093 tw6675622482138281214 tw6517199505294005355 tw4080283879497992341 tw15223336623271392094 tw14848041493049466616 tw7490440200665342925 tw74066857015432982 tw6615487147463763618 tw539105519536503589 tw5390061468936986883 tw4386107230609032998 tw391437024555582711 tw3710206393040629398 tw223080807092329666 tw16560075472071709084 tw15554691407386677894 tw11030604845220873404 tw10775143415926561331 tw10479380822293603187 tw10253856368814944768 tw2069833255125564651 tw18006315104040331318 tw13377151479903592085 tw7843865348232499514 tw1526334937728023407 tw15075796642054048271 tw7079837593521298888 tw13548871810019754645 tw128306733940321767 tw11477775072710471887 tw14764161258380253890 tw4880041645539000794 tw18063628418505766118 tw15325422525033395538 tw967130848047732844 tw8934203963835071462 tw742609025818760561 tw629831674392802879 tw4539578466819806824 tw3650282029707681787 tw2484055097161399092 tw14924972634238417930 tw14739537051451662703 tw10646577339499368011 tw9532623253050080543 tw9412197726558952818 tw87623152616115073 tw8011133678273793760 tw7921516716597621668 tw760394321682330568 tw6940130128734083411 tw6768546067406133876 tw6662602537702740849 tw652068192462496587 tw6400357324546211892 tw6333298190103833771 tw5721246308086423238 tw4630362883627984841 tw462563672845478529 tw3883643246250598355 tw3779181442694969550 tw3772465046559779442 tw3214961502769535291 tw3130902043743898602 tw2613071486961351196 tw1988522793525567703 tw18817592821059772 tw18109830964074784068 tw17945899598272039221 tw17829221580061623296 tw17655063787150556002 tw17595055638413676619 tw17098517451123655327 tw16557380962177724390 tw16510410309102693349 tw1637742442594186443 tw16299131683887655014 tw16122164678804441412 tw15177675398611890297 tw14822674998173859827 tw14389316984217594178 tw14325708540340210437 tw14167490697417692605 tw13250568083643463596 tw13129047164062333742 tw13079538603724962361 tw12023341373755711330 tw11895531709401883005 tw1181286621814387798 tw11784327963685963250 tw11181606509701467237 tw11122633934435536570 tw10985641463914819284 tw10930241876595618014 tw10366363365509563167 tw10261022175123669051 tw10258724328676868442 tw9950951814990416824 tw12218781792997873996 tw11391500570681307575 tw8262409956557687075 tw7411448451313067608 tw7378233633296400755 tw4017702384060371879 tw10043888600734995678 tw5692780864345232956 tw9380232447138896964 tw6175520365114693077 tw207279624107232712 tw2031540138288614071 tw1775495076978873521 tw13656850356907155069 tw11732250262993660177 tw11478563439111701570 tw4635468153749660114 tw3894592780064625888 tw17742893778388492512 tw17423619649069009211 tw14159065144226942293 tw8265057324194013926 tw620153173673269053 tw4347888447577663062 tw3643464534015879930 tw3492163207562195729 tw13718692923965875673 tw13430213518959914262 tw9341562774107240267 tw8975852262698016392 tw7646165792536289254 tw6692843428890126330 tw13323150446702664952 tw1149718045048133272 tw10954533400803355420 tw10683147584368857181 tw10286073984889525300 tw1017111493012801884 tw9991369699979111811 tw9616179419735024946 tw9324113927318581312 tw8734925775820152184 tw8420663030477290057 tw7400823739712460646 tw5776772158223377378 tw5756909484288333193 tw4414432071986305876 tw4359078373066600004 tw4228407845073565464 tw18401809323418455690 tw18145330911739306696 tw18112105578089398860 tw17997157720570249779 tw17880796577530509387 tw15789657303719883647 tw15426046548854496368 tw1521485213239490366 tw15052957724861888229 tw14587111118475239063 tw14307870422025301869 tw1402484019736396488 tw13335364756231309673 tw13036151153310196734 tw10701609041611626886 tw8885218481596929411 tw4476677249761170308 tw3396580779666438647 tw8724917403732617131 tw8626171828522350555 tw5851065054310956711 tw5764931598996860752 tw5619786910344833515 tw5466705848895421654 tw18414279590369113081 tw13283591125567632493 tw13193655366235140234 tw12333769494815189915 tw9256604791796441898 tw8525592026158922675 tw8507939988547103363 tw6408096412924854058 tw234164460937755102 tw18284469297992553943 tw13405089047532647302 tw5858676534247345752 tw308580875243198529 tw13717129337621377089 tw997928054398256717 tw9942344608724197658 tw9893534451844665091 tw9885237918684553982 tw969855169606361483 tw9697377976077181154 tw9661984841299000234 tw9584958016490130786 tw9570998095631984867 tw9274937760973315588 tw890978252579585208 tw8844123594911436410 tw8799901588248318806 tw8781517744549131825 tw8715993145071217475 tw8638378798809667731 tw8408718163312738609 tw8325695982659895036 tw8008323340198420948 tw7726359140344780134 tw7576147201157723981 tw7513495000918043862 tw7512501864859888646 tw7450112709830556020 tw7446511464927040482 tw7280131011562773046 tw7188114014064090687 tw7153395888368404046 tw7115174050400926961 tw709195422422261032 tw7079492000016796365 tw7078136101956480566 tw7065129703000259455 tw6856401117074737188 tw6838580176952770628 tw678325392574884352 tw6744854632235552884 tw6656661241481869276 tw6548561935007440086 tw6480269360686676673 tw6358227449333347042 tw6015391927642250804 tw598422075816791108 tw5880570930682074627 tw5745229489497020333 tw5527979980818133193 tw5429711886183415683 tw5345766759742951880 tw5269285779392640506 tw5247528032695188404 tw5189413970454292265 tw5161563471642121469 tw5127429220573404206 tw5047681626750394721 tw5041573429156016950 tw4707316798861717389 tw4699206499828398966 tw4420818977427446658 tw435525640807010888 tw3981410826781067236 tw3805805265956586108 tw3719564053180691495 tw3712637140672448834 tw3664106020684891858 tw3634634044231524523 tw357804998620820847 tw3460679817373799991 tw3441532815538220162 tw3431946121945287103 tw3389451879224683610 tw3343416919566873286 tw3326915128402891584 tw3248919670764733365 tw3223863366893734424 tw3170014230690749766 tw2979952128569679683 tw2933030234986896534 tw2834951538808314027 tw2617364343600672951 tw2285626675106764214 tw2199334061751497020 tw2035000282939228032 tw2030619680827579791 tw18418590049049068604 tw18317052747736800963 tw18297302802121409869 tw18276861946453537271 tw18139937302883948297 tw18005742798039640050 tw17997245358707416138 tw1782494244608998625 tw17738013709623789823 tw17733843392173219005 tw17703392437069445686 tw17693855787075534539 tw17610710265117023137 tw17599069734873310628 tw17573462319515984068 tw1726920144922869245 tw17168336421578048747 tw16994858804977913118 tw1687264632666657947 tw16859693551415672531 tw16709184141386349349 tw16497115583448829812 tw16316398889216603666 tw16268996416239244091 tw16240536553590551826 tw16235421888030697618 tw15996447515422798421 tw15975686616314670908 tw15819059237143164707 tw15641848299308607985 tw15573692823729480322 tw15272120517812559094 tw15206543120509185767 tw14990442807342879498 tw14932479287580616868 tw14845760833675761309 tw14759119578692349991 tw14733862205919244769 tw14473318663870658370 tw14425218855733576965 tw14316439097735034284 tw14261040311480112732 tw14259845230307919958 tw14208721479621028439 tw1414594818089304615 tw14109820498639124620 tw13953352759749387207 tw13799899774718106775 tw13671836898510841411 tw13497444766432598563 tw13254780346919751741 tw1322828566841198543 tw13089639912574227213 tw12959868149849168558 tw12542201353024961009 tw12336533954484040287 tw1223877492493165916 tw11987674775926493193 tw11735467917219907864 tw11688527846267198543 tw11574074922761985737 tw11533663798436040326 tw11379874830582255470 tw11324698018909771246 tw11253640173641679910 tw11161119484846000453 tw11152180958800758883 tw11135323683238647232 tw10071426081572839735 tw10014443661849478163 tw9648525259453030069 tw5856607276556468822 tw4495505476283675435 tw3757941462240653257 tw17968976925401308963 tw17383811781455415915 tw16394418227473263754 tw15404987082096354131 tw13248215551350585745 tw13094196781017236020 tw12110615456218696833 tw11100239306396998930 tw9983278114372849035 tw9703538235623323779 tw9649142718673461640 tw9639316455518824770 tw9591551622828507069 tw9535789903155082631 tw935763988270029596 tw9263111828376766660 tw9202826134719194731 tw9051940400012374988 tw9028740417813493801 tw8658411940548548715 tw8559635461141318067 tw8558664334105144218 tw8501616138219664659 tw84332263971193232 tw8372960018408239900 tw8293299981490226625 tw829145191089432813 tw7934224685170098316 tw7892530932226959924 tw7781597914754272798 tw7684752625486957045 tw7481935827390685200 tw7296125075449113621 tw7242181515222378840 tw721852741986537444 tw7133270467007815366 tw7038692062192243916 tw7010956685230033599 tw6955298776475160660 tw6914926701755435318 tw688949008638582290 tw6838812000218153931 tw6502835958704128195 tw6416919664728632680 tw6231153073075364548 tw6109500077467842035 tw608097693394813942 tw602571579004508433 tw5849337232922182907 tw5826326286820632193 tw577358395926180648 tw5571085749608726199 tw5474899238963031421 tw5245794028567628133 tw522860065367090576 tw5083300579792828394 tw5035351225981440311 tw4984379986564246735 tw4832517661484877590 tw4637218382936046413 tw455219039504455432 tw4533726178439818172 tw4276755551563018187 tw4265670798505745427 tw4137024493135373382 tw4117632953748401527 tw4117357730381864710 tw4082092455656503464 tw3985856352135928913 tw3897534673367037818 tw384922292885694421 tw3768637551593788994 tw3754609787451205740 tw3273927979684796793 tw3118665215252689814 tw3093414450768417431 tw2992481063396706622 tw2985175836780545881 tw2967456880198611973 tw2962208894157620813 tw2941250709986727497 tw2781504175239924712 tw2586784052116140497 tw2576278749949880110 tw2542377308795800893 tw2500267946766998143 tw2278127564173084965 tw2200196141910148311 tw215721647225484480 tw2091030791602586136 tw1919453409619530408 tw18438787139311485303 tw1801867264679344346 tw17932447487622076252 tw17772229853883670890 tw17657285958326553867 tw1765678533121307797 tw17620392379499131071 tw17608957519052451631 tw17597377889815411147 tw17553159522579946463 tw17548668927243634992 tw17490007967108724854 tw1743262873354714402 tw1740020184150182974 tw17299301291743398560 tw17244214781998737165 tw17109027168264464552 tw16880502890439967625 tw16813921456004366813 tw16483063690677930841 tw16422920508822070359 tw16385798546824238736 tw16315459387913105305 tw16087434138792719157 tw16067511706768995767 tw16055854578008296338 tw16003531232058950574 tw15783152109097818749 tw15769879242334107045 tw1547693549561220080 tw15411797280336913382 tw15278280176604711157 tw15272625889308835154 tw15244936023617309099 tw15163947523895720628 tw15090066708056006517 tw15046041749785140088 tw1501742220453483896 tw14989767334239018489 tw14803363401186858820 tw14666112139700728978 tw14551818313371454753 tw14544645532205254563 tw14433482079848615306 tw14055741977504201821 tw14037812566884723285 tw13951343031307556837 tw13939091916542525250 tw13659603544060476501 tw13569066022492946271 tw13391809586414120419 tw13374310737813187598 tw13324620337755101137 tw13286644476636394963 tw13127412081594171955 tw12991331984065606967 tw12913180723825040995 tw12852554006966397746 tw12706492366716657853 tw12676131085664650062 tw12457784058958104572 tw12361634497550465075 tw1229014798972477461 tw1225578189986779471 tw12113963959627537696 tw12028977448739436238 tw12016352786947254980 tw11982088712854942573 tw11747849971964282702 tw11571455544883600463 tw11568360202539880189 tw115273571299430004 tw11491000512996496111 tw11454911358220723378 tw11242134092683651915 tw11199412866076693933 tw1112186663129046112 tw11085849813586596161 tw10942977554108389087 tw10858130884293246268 tw10611783355352755478 tw10426230474163474576 tw10389682272232626171 tw1024878918540418899 tw1024444134165736263 tw10141452391539285294 tw10006504554960925608:True)
set_option maxRecDepth 100000 in
set_option maxHeartbeats 0 in
theorem PySem.Challenge.cw_facework_k12_clause_by_clause_holds : PySem.Challenge.rw_facework_k12_clause_by_clause.Holds := by
 w_on;o_law;k_head;(case hw=>w_witness2)
 k_fill
 refine Fw.walk (l:=PySem.Challenge.rw_facework_k12_clause_by_clause) rfl rfl (fun w h Y=>PySem.W.kIn_of Y) ?F
 case F=>
  intro w mg fa h KX G hmg
  refine' Fw.all_mk KX G hmg ?z_len ?z_all ?z_isinstance ?z_tuple ?z_list ?z_reversed ?z_range ?z_str ?z_ValueError ?aS ?cS ?mkS ?kcS ?nS0 ?nS1 ?nS2 ?nS3 ?nS4 ?nS5 ?nS6 ?nS7 ?nS8 ?nS9 ?mS0 ?mS1 ?mS2 ?mS3 ?mS4 ?v_ARROW ?qCX ?qC1 ?qC2 ?qC3 ?qD1 ?qD2 ?qD3 ?qD4 ?qD5 ?qD6 ?qD7 ?qD8 ?qD9 ?qD0 ?zx1 ?xi1 ?kV1 ?kA1 ?kk11 ?kk12 ?kk13 ?zx2 ?xi2 ?kV2 ?kA2 ?kk21 ?kk22 ?kk23 ?zx3 ?xi3 ?kV3 ?kA3 ?kk31 ?kk32 ?kk33 ?v1 ?v2 ?v4 ?v5 ?hPl ?hDl ?d1 ?d2 ?d20 ?d21 ?d22 ?d23 ?d30 ?d31 ?d32 ?d33 ?d34 ?d36 ?d37 ?d38 ?d39 ?d40 ?d41 ?d42 ?d43 ?d44 ?d45 ?d46 ?d47 ?d48 ?d49 ?d50 ?d52 ?d53 ?d54 ?d56 ?d57 ?d58 ?d59 ?d60 ?d61 ?d62 ?d63 ?d64 ?d65 ?d66 ?d67 ?d68 ?d69 ?d71 ?d73 ?d74 ?d75 ?d76 ?d77 ?d78 ?d79 ?d80 ?d81 ?d82 ?d83
  (case z_len|z_all|z_isinstance|z_tuple|z_list|z_reversed|z_range|z_str|z_ValueError|aS|mkS|kcS|qCX|qC1|qC2|qC3|qD1|qD2|qD3|qD4|qD5|qD6|qD7|qD8|qD9|qD0=>k_is)
  (case cS=>refine' Fw.cls_mk ?pg ?hd ?po ?sa;(case pg=>k_is);(case hd=>k_is);(case po=>k_is);(case sa=>k_is))
  (case nS0|nS1|nS2|nS3|nS4|nS5|nS6|nS7|nS8|nS9=>refine' Fw.noat_mk ?n;(case n=>k_is))
  (case mS0|mS1|mS2|mS3|mS4=>refine' Fw.meth_mk ?a ?i ?l ?c ?k;(case a=>k_is);(case i=>k_is);(case l=>k_is);(case c=>k_is);(case k=>k_is))
  (case v_ARROW|v1|v2=>refine' Fw.val_str ?a ?e;(case a=>k_is);(case e=>decide+kernel))
  (case zx1|zx2|zx3=>refine' Fw.exc_mk ?xc0 ?xc1 ?xcb ?xc2 ?xc3 ?xc4 ?xc5 ?xcl;(case xc0=>k_is);(case xc1=>k_is);(case xcb=>k_is);(case xc2=>k_is);(case xc3=>k_is);(case xc4=>k_is);(case xc5=>k_is);(case xcl=>k_is))
  (case xi1|xi2|xi3=>refine' Fw.excis_mk ?l1 ?n1 ?n2 ?t1 ?l2 ?b1 ?b2;(case l1=>k_is);(case n1=>kernel_rfl);(case n2=>k_is);(case t1=>kernel_rfl);(case l2=>k_is);(case b1=>decide+kernel);(case b2=>decide+kernel))
  (case kV1|kA1|kk11|kk12|kk13|kV2|kA2|kk21|kk22|kk23|kV3|kA3|kk31|kk32|kk33=>kernel_rfl)
  (case v4=>refine' Fw.val_int ?a ?e;(case a=>k_is);(case e=>decide+kernel))
  (case v5=>refine' Fw.val_tup ?a ?b ?c ?d ?e;(case a=>k_is);(case b=>k_is);(case c=>rfl);(case d=>decide+kernel);(case e=>decide+kernel))
  (case hPl=>refine' Fw.plis_mk ?a ?a0 ?a1 ?a2 ?a3 ?a4 ?a5 ?dl ?ds ?dx ?dp;(case a=>k_is);(case a0=>k_is);(case a1=>k_is);(case a2=>k_is);(case a3=>k_is);(case a4=>k_is);(case a5=>k_is);(case dl=>k_is);(case ds=>decide+kernel);(case dx=>exact⟨rfl,rfl,rfl⟩);(case dp=>exact .cons ⟨rfl,⟨_,rfl⟩,rfl⟩ (.cons ⟨rfl,⟨_,rfl⟩,rfl⟩ (.cons ⟨rfl,⟨_,rfl⟩,rfl⟩ (.cons ⟨rfl,⟨_,rfl⟩,rfl⟩ (.cons ⟨rfl,⟨_,rfl⟩,rfl⟩ (.cons ⟨rfl,⟨_,rfl⟩,rfl⟩ .nil)))))))
  (case hDl=>refine' Fw.dlis_mk ?a ?a0 ?a1 ?a2 ?a3 ?a4 ?a5 ?a6 ?dl ?ds ?dx ?dp;(case a=>k_is);(case a0=>k_is);(case a1=>k_is);(case a2=>k_is);(case a3=>k_is);(case a4=>k_is);(case a5=>k_is);(case a6=>k_is);(case dl=>k_is);(case ds=>decide+kernel);(case dx=>exact⟨rfl,rfl,rfl⟩);(case dp=>exact .cons ⟨rfl,⟨_,rfl⟩,rfl⟩ (.cons ⟨rfl,⟨_,rfl⟩,rfl⟩ (.cons ⟨rfl,⟨_,rfl⟩,rfl⟩ (.cons ⟨rfl,⟨_,rfl⟩,rfl⟩ (.cons ⟨rfl,⟨_,rfl⟩,rfl⟩ (.cons ⟨rfl,⟨_,rfl⟩,rfl⟩ (.cons ⟨rfl,⟨_,rfl⟩,rfl⟩ .nil))))))))
  (case d1|d2|d20|d21|d22|d23|d30|d31|d32|d33|d34|d36|d37|d38|d39|d40|d41|d42|d43|d44|d45|d46|d47|d48|d49|d50|d52|d53|d54|d56|d57|d58|d59|d60|d61|d62|d63|d64|d65|d66|d67|d68|d69|d71|d73|d74|d75|d76|d77|d78|d79|d80|d81|d82|d83=>refine' Fw.def_mk ?a ?l ?c ?k;(case a=>k_is);(case l=>k_is);(case c=>k_is);(case k=>k_is))
