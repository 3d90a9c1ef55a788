import PyProof.Rows.All
import Wide.All
import OpenK.AllK
import Wide.FinOn
import Lean
import PyProof.EqAt
import PyProof.EqKinds
import PyProof.TupleCall
import PyProof.StationsW
import OpenK.KOwn
import PyProof.ExcBaseAll.ValueError
import PyProof.NsDelKeeps
import PyProof.RulesAs
import KE.KLam
import KE.KNest
import KE.KIsAll
import PyProof.ExcArgs
import PyProof.StrCalls6
import KE.KIntText
import PyProof.CompUse
import KE.KRevIter
import PyProof.CollectWalk
import PyProof.TupleOfSeq
import PyProof.ZipIter
import KE.KStrOpen
import PyProof.Rows.StrJoin2
import PyProof.StrLawsReplace
import PySem.Challenge.RW_facework_k08_whole_programs_go_round
set_option Elab.async false
set_option linter.all false
set_option maxRecDepth 100000
namespace L2
open PySem PySem.Spec PyProof.Rows
abbrev Key:=Sum Int Str
def keyIs:Key→Value→Bool
 |.inl k,v=>Value.isInt k v
 |.inr x,v=>Value.isStrOf x v
def keyH (w:World):Key→Int
 |.inl k=>hashInt k
 |.inr x=>hashStr w x
theorem keyIs_shape:∀{k:Key} {v:Value},keyIs k v=true→(∃i t,k=Sum.inl i∧v=Value.int i t)∨(∃x t,k=Sum.inr x∧v=Value.str x t)
 |.inl i,v,h=>by
  obtain⟨t,e⟩:=Value.isInt_shape (k:=i) (v:=v) h
  exact .inl ⟨i,t,rfl,e⟩
 |.inr x,v,h=>by
  obtain⟨t,e⟩:=Value.isStrOf_shape (x:=x) (v:=v) h
  exact .inr ⟨x,t,rfl,e⟩
theorem key_ll (a b:Int):decide ((Sum.inl a:Key)=Sum.inl b)=(a==b):=by
 by_cases e:a=b
 ·subst e;simp
 ·have h:¬(Sum.inl a:Key)=Sum.inl b:=fun q=>e (Sum.inl.inj q)
  rw[decide_eq_false h]
  exact(beq_eq_false_iff_ne.mpr e).symm
theorem key_rr (a b:Str):decide ((Sum.inr a:Key)=Sum.inr b)=decide (a=b):=by
 by_cases e:a=b
 ·subst e;simp
 ·have h:¬(Sum.inr a:Key)=Sum.inr b:=fun q=>e (Sum.inr.inj q)
  rw[decide_eq_false h,decide_eq_false e]
theorem key_lr (a:Int)(b:Str):decide ((Sum.inl a:Key)=Sum.inr b)=false:=decide_eq_false (fun q=>nomatch q)
theorem key_rl (a:Str)(b:Int):decide ((Sum.inr a:Key)=Sum.inl b)=false:=decide_eq_false (fun q=>nomatch q)
def mixKind (prog:Program)(w:World):PySem.KeyKind prog w Key where
 is:=keyIs
 hash:=keyH w
 inj:=fun v a b ha hb=>by
  rcases keyIs_shape ha with ⟨i,t,rfl,rfl⟩|⟨x,t,rfl,rfl⟩
  ·rcases keyIs_shape hb with ⟨j,u,rfl,e⟩|⟨y,u,rfl,e⟩
   ·injection e with e1 _;rw[e1]
   ·exact nomatch e
  ·rcases keyIs_shape hb with ⟨j,u,rfl,e⟩|⟨y,u,rfl,e⟩
   ·exact nomatch e
   ·injection e with e1 _;rw[e1]
 byValue:=fun k v h=>by
  rcases keyIs_shape h with ⟨i,t,rfl,rfl⟩|⟨x,t,rfl,rfl⟩<;>rfl
 pyHash:=fun hv h=>by
  rcases keyIs_shape hv with ⟨i,t,rfl,rfl⟩|⟨x,t,rfl,rfl⟩
  ·exact wpAny_pyHash_int h
  ·exact wpAny_pyHash_str h
 eqBool:=fun hu hv h=>by
  rcases keyIs_shape hu with ⟨i,t,rfl,rfl⟩|⟨x,t,rfl,rfl⟩
  ·rcases keyIs_shape hv with ⟨j,u,rfl,rfl⟩|⟨y,u,rfl,rfl⟩
   ·rw[key_ll]at h;exact wpAny_eqBool_int h
   ·rw[key_lr]at h;exact SeqAt.EqAt.int_str i t y u _ _ _ _ h
  ·rcases keyIs_shape hv with ⟨j,u,rfl,rfl⟩|⟨y,u,rfl,rfl⟩
   ·rw[key_rl]at h;exact SeqAt.EqAt.str_int x t j u _ _ _ _ h
   ·rw[key_rr]at h;exact wpAny_eqBool_str h
 «strs»:=fun k x t v h=>by
  rcases keyIs_shape h with ⟨i,u,rfl,e⟩|⟨y,u,rfl,e⟩
  ·exact nomatch e
  ·injection e with e1 _
   subst e1
   cases v<;>rfl
inductive V where
 |non|bl (b:Bool)|int (i:Int)|str (x:Str)|byt (b:Array UInt8)|flt (b:UInt64)|ref (a:Addr)|ty (n:String)
 deriving DecidableEq
def RelV:V→Value→Prop
 |.non,u=>u=Value.none
 |.bl b,u=>u=Value.bool b
 |.int i,u=>∃t,u=Value.int i t
 |.str x,u=>∃t,u=Value.str x t
 |.byt b,u=>∃t,u=Value.bytes b t
 |.flt b,u=>∃t,u=Value.float b t
 |.ref a,u=>u=Value.ref a
 |.ty n,u=>u=Value.type n
abbrev Vals:List V→List Value→Prop:=Paired RelV
theorem Vals.length {xs:List V}{us:List Value}(r:Vals xs us):xs.length=us.length:=Paired.length r
theorem Vals.get {xs:List V}{us:List Value}{i:Nat}{x:V}(h:Vals xs us)(e:xs[i]?=some x):∃u,us[i]?=some u∧RelV x u:=by
 induction h generalizing i with
 |nil=>simp at e
 |cons r _ ih=>cases i with
  |zero=>cases e;exact⟨_,rfl,r⟩
  |succ i=>exact(ih (i:=i) e:)
theorem Vals.set {x:V}{u:Value}(r:RelV x u){xs:List V}{us:List Value}(i:Nat)(h:Vals xs us):Vals (xs.set i x) (us.set i u):=by
 induction h generalizing i with
 |nil=>exact .nil
 |cons q t ih=>cases i with
  |zero=>exact .cons r t
  |succ i=>exact .cons q (ih i)
theorem Vals.append {xs ys:List V}{us ws:List Value}(h:Vals xs us)(s:Vals ys ws):Vals (xs++ys) (us++ws):=by
 induction h with
 |nil=>exact s
 |cons r _ ih=>exact .cons r ih
theorem Vals.take {xs:List V}{us:List Value}(n:Nat)(h:Vals xs us):Vals (xs.take n) (us.take n):=by
 induction h generalizing n with
 |nil=>cases n<;>exact .nil
 |cons r _ ih=>cases n with
  |zero=>exact .nil
  |succ n=>exact .cons r (ih n)
theorem Vals.drop {xs:List V}{us:List Value}(n:Nat)(h:Vals xs us):Vals (xs.drop n) (us.drop n):=by
 induction h generalizing n with
 |nil=>cases n<;>exact .nil
 |cons r t ih=>cases n with
  |zero=>exact .cons r t
  |succ n=>exact ih n
def RelO:Option V→Option Value→Prop
 |some v,some u=>RelV v u
 |none,none=>True
 |_,_=>False
def KV {κ:Type}:List (κ×V)→List (κ×Value)→Prop:=Paired fun(p:κ×V) (q:κ×Value)=>p.1=q.1∧RelV p.2 q.2
def kV:Key→V
 |.inl i=>.int i
 |.inr x=>.str x
inductive HO where
 |lst (xs:List V)
 |tup (xs:List V)
 |dK (kvs:List (Key×V))|dT (kvs:List (List Key×V))
 |set (S:Int→Bool) (n:Nat)
 |ins (C dx:Addr) (fs:List (Str×V))
 |own (x:Addr)
 |xd (fs:List (Str×V))
 |met (f x:Addr)
 |rng (lo hi:Int)
 |frz (o:Obj) (u:HO)
 |tbl (ps:Array Value)
 |ext (φ:Heap→Prop)
abbrev Hp:=Addr→Option HO
def upd (H:Hp)(a:Addr)(o:HO):Hp:=fun b=>if b=a then some o else H b
theorem upd_same {H:Hp}{a:Addr}{o:HO}:upd H a o a=some o:=by unfold upd;rw[if_pos rfl]
theorem upd_ne {H:Hp}{a b:Addr}{o:HO}(h:b≠a):upd H a o b=H b:=by unfold upd;rw[if_neg h]
theorem ne_of {H:Hp}{a b:Addr}{o u:HO}(h:H a=some o)(h':H b=some u)(d:o≠u):a≠b:=by
 intro e;subst e;rw[h]at h';exact d (Option.some.inj h')
theorem ne_of_none {H:Hp}{a b:Addr}{o:HO}(h:H a=some o)(h':H b=none):a≠b:=by
 intro e;subst e;rw[h]at h';cases h'
section
variable (P:Program)(w:World)
def ObjOk (H:Hp)(h:Heap)(a:Addr):HO→Prop
 |.lst xs=>xs.length≤sizeLine∧∃(its:List Value) (n:Nat),Vals xs its∧h.get? a=some {cls:=.type "list",data:=.seq its.toArray n}
 |.tup xs=>xs.length≤sizeLine∧∃its:List Value,Vals xs its∧IsTup h a its.toArray
 |.dK kvs=>kvs.length≤sizeLine∧(a==sysModules)=false∧∃vs,KV kvs vs∧h.DictOf (mixKind P w) a vs
 |.dT kvs=>kvs.length≤sizeLine∧(a==sysModules)=false∧∃xs:List (List Key×Addr×Value),
   Paired (fun(p:List Key×V) (q:List Key×Addr×Value)=>p.1=q.1∧H q.2.1=some (.tup (p.1.map kV))∧RelV p.2 q.2.2) kvs xs∧
   ∃o es ep,h.get? a=some o∧o.ExactDict∧o.data=.dict es ep∧es.toList=xs.map (entryOfKey (tupleKind (mixKind P w)))∧(xs.map (·.1)).Nodup
 |.set S n=>h.SetOf (intKind P w) a S n
 |.ins C dx fs=>H dx=some (.own a)∧fs.length≤1000∧dx≠a∧h.get? a=some (PySem.W.instObj C dx)∧
   ∃mA,h.Ns1 dx mA∧(∀f,RelO (fs.lookup f) (mA f))∧PySem.Within mA (fs.map (·.1))
 |.own _=>∃o,h.get? a=some o
 |.xd fs=>∃mA,h.Ns1 a mA∧∀f,RelO (fs.lookup f) (mA f)
 |.rng lo hi=>∃t u v,h.get? a=some {cls:=.type "range",data:=.fields #[.int lo t, .int hi u, .int 1 v]}
 |.frz o u=>h.get? a=some o∧ObjOk H h a u
 |.tbl ps=>h.get? a=some {cls:=.none,data:=.fields ps}
 |.met f x=>h.get? a=some (PySem.W.methodObj (.ref f) (.ref x))
 |.ext φ=>φ h∧(∃o,h.get? a=some o)∧∀h1 h2:Heap,φ h1→(∀o,h1.get? a=some o→h2.get? a=some o)→φ h2
def HOk (H:Hp)(h:Heap):Prop:=∀a o,H a=some o→ObjOk P w H h a o
end
section
variable {P:Program}{w:World}{H H':Hp}{h h':Heap}{a:Addr}{o:HO}
theorem ObjOk.lt (x:ObjOk P w H h a o):a<h.objs.size:=by
 cases o with
 |lst xs=>obtain⟨_,_,_,_,e⟩:=x;exact Heap.lt_size e
 |tup xs=>obtain⟨_,_,_,p⟩:=x;exact p.lt
 |dK kvs=>obtain⟨_,_,_,_,o,_,_,e,_⟩:=x;exact Heap.lt_size e
 |dT kvs=>obtain⟨_,_,_,_,o,_,_,e,_⟩:=x;exact Heap.lt_size e
 |set S n=>obtain⟨o,_,_,_,e,_⟩:=x;exact Heap.lt_size e
 |ins C dx fs=>obtain⟨_,_,_,e,_⟩:=x;exact Heap.lt_size e
 |own y=>obtain⟨_,e⟩:=x;exact Heap.lt_size e
 |xd fs=>obtain⟨_,⟨_,_,_,e,_⟩,_⟩:=x;exact Heap.lt_size e
 |rng lo hi=>obtain⟨_,_,_,e⟩:=x;exact Heap.lt_size e
 |frz ob u=>obtain⟨e,_⟩:=x;exact Heap.lt_size e
 |tbl ps=>exact Heap.lt_size (show h.get? a=some _ from x)
 |met f y=>exact Heap.lt_size (show h.get? a=some _ from x)
 |ext φ=>obtain⟨_,⟨_,e⟩,_⟩:=x;exact Heap.lt_size e
theorem Paired.mapP {α β:Type}{F G:α→β→Prop}{l₁:List α}{l₂:List β}(h:Paired F l₁ l₂)(f:∀a b,F a b→G a b):Paired G l₁ l₂:=by
 induction h with
 |nil=>exact .nil
 |cons r _ ih=>exact .cons (f _ _ r) ih
theorem ObjOk.stay (x:ObjOk P w H h a o)(k:∀b u,(b=a∨H b=some (.own a))→h.get? b=some u→h'.get? b=some u)
  (ho:∀b,H b=some (.own a)→H' b=some (.own a)) (ht:∀b xs,H b=some (.tup xs)→H' b=some (.tup xs)):ObjOk P w H' h' a o:=by
 induction o with
 |lst xs=>obtain⟨z,its,n,r,e⟩:=x;exact⟨z,its,n,r,k _ _ (.inl rfl) e⟩
 |tup xs=>obtain⟨z,its,r,ob,e,c⟩:=x;exact⟨z,its,r,ob,k _ _ (.inl rfl) e,c⟩
 |dK kvs=>obtain⟨z,y,vs,r,ob,es,ep,e,c⟩:=x;exact⟨z,y,vs,r,ob,es,ep,k _ _ (.inl rfl) e,c⟩
 |dT kvs=>
  obtain⟨z,y,xs,r,ob,es,ep,e,c⟩:=x
  exact⟨z,y,xs,Paired.mapP r fun p q z=>⟨z.1,ht _ _ z.2.1,z.2.2⟩,ob,es,ep,k _ _ (.inl rfl) e,c⟩
 |set S n=>obtain⟨ob,es,ep,t,e,c⟩:=x;exact⟨ob,es,ep,t,k _ _ (.inl rfl) e,c⟩
 |ins C dx fs=>
  obtain⟨d,z,ne,e,mA,⟨od,es,ep,e2,c⟩,r⟩:=x
  exact⟨ho _ d,z,ne,k _ _ (.inl rfl) e,mA,⟨od,es,ep,k _ _ (.inr d) e2,c⟩,r⟩
 |own y=>obtain⟨ob,e⟩:=x;exact⟨ob,k _ _ (.inl rfl) e⟩
 |xd fs=>obtain⟨mA,⟨od,es,ep,e,c⟩,r⟩:=x;exact⟨mA,⟨od,es,ep,k _ _ (.inl rfl) e,c⟩,r⟩
 |rng lo hi=>obtain⟨t,u,v,e⟩:=x;exact⟨t,u,v,k _ _ (.inl rfl) e⟩
 |frz ob u ih=>obtain⟨e,q⟩:=x;exact⟨k _ _ (.inl rfl) e,ih q⟩
 |tbl ps=>
  have e:h.get? a=some {cls:=.none,data:=.fields ps}:=x
  show h'.get? a=some {cls:=.none,data:=.fields ps}
  exact k a _ (.inl rfl) e
 |met f y=>
  have e:h.get? a=some (PySem.W.methodObj (.ref f) (.ref y)):=x
  show h'.get? a=some (PySem.W.methodObj (.ref f) (.ref y))
  exact k a _ (.inl rfl) e
 |ext φ=>obtain⟨p,⟨o,e⟩,st⟩:=x;exact⟨st _ _ p fun o q=>k _ _ (.inl rfl) q,⟨o,k _ _ (.inl rfl) e⟩,st⟩
theorem HOk.lt (x:HOk P w H h)(e:H a=some o):a<h.objs.size:=(x a o e).lt
theorem HOk.fresh (x:HOk P w H h)(e:h.objs.size≤a):H a=none:=by
 cases q:H a with
 |none=>rfl
 |some u=>exact absurd (Nat.lt_of_lt_of_le (x.lt q) e) (Nat.lt_irrefl _)
theorem HOk.kept (x:HOk P w H h)(k:∀b u,h.get? b=some u→h'.get? b=some u):HOk P w H h':=fun a o e=>
 (x a o e).stay (fun b u _ q=>k b u q) (fun _ q=>q) fun _ _ q=>q
theorem HOk.laid (x:HOk P w H h)(k:∀b u,h.get? b=some u→h'.get? b=some u)(hp:h.objs.size≤a)(new:ObjOk P w (upd H a o) h' a o):HOk P w (upd H a o) h':=fun b u e=>by
 have hn:=x.fresh hp
 by_cases hb:b=a
 ·subst hb;rw[upd_same]at e;cases e;exact new
 ·rw[upd_ne hb]at e
  exact(x b u e).stay (fun c v _ q=>k c v q) (fun c q=>by rw[upd_ne (ne_of_none q hn)];exact q) fun c xs q=>by rw[upd_ne (ne_of_none q hn)];exact q
end
def Rd (H:Hp)(a:Addr)(u:HO):Prop:=H a=some u∨∃o,H a=some (.frz o u)
theorem Rd.ok {P:Program}{w:World}{H:Hp}{h:Heap}{a:Addr}{u:HO}(r:Rd H a u)(x:HOk P w H h):ObjOk P w H h a u:=by
 rcases r with r|⟨o,r⟩
 ·exact x a u r
 ·obtain⟨_,q⟩:=x a _ r
  exact q
def Mut:Option HO→Prop
 |some (.lst _)=>True
 |some (.dK _)=>True
 |some (.dT _)=>True
 |some (.set _ _)=>True
 |some (.ins _ _ _)=>True
 |some (.ext _)=>True
 |_=>False
section
variable {P:Program}{w:World}{H:Hp}{h h':Heap}{x e:Addr}{o':HO}
theorem HOk.write (ok:HOk P w H h)(mu:Mut (H x))(he:e=x∨H e=some (.own x))(k:∀b u,b≠e→h.get? b=some u→h'.get? b=some u)(heo:∃u,h'.get? e=some u)
  (new:ObjOk P w (upd H x o') h' x o'):HOk P w (upd H x o') h':=fun b u q=>by
 have nown:∀c y,H c=some (.own y)→c≠x:=fun c y r z=>by subst z;rw[r]at mu;exact mu
 have ntup:∀c xs,H c=some (.tup xs)→c≠x:=fun c xs r z=>by subst z;rw[r]at mu;exact mu
 by_cases hb:b=x
 ·subst hb;rw[upd_same]at q;cases q;exact new
 ·rw[upd_ne hb]at q
  by_cases hbe:b=e
  ·have q':H b=some (.own x):=by
    rcases he with z|z
    ·exact absurd (hbe.trans z) hb
    ·rw[hbe];exact z
   rw[q]at q';cases q'
   obtain⟨v,hv⟩:=heo
   exact⟨v,by rw[hbe];exact hv⟩
  ·refine(ok b u q).stay (fun c v hc r=>k c v ?_ r) (fun c r=>by rw[upd_ne (nown c b r)];exact r) fun c xs r=>by rw[upd_ne (ntup c xs r)];exact r
   rcases hc with rfl|hc
   ·exact hbe
   ·rintro rfl
    rcases he with z|z
    ·exact nown c b hc z
    ·rw[hc]at z;cases z;exact hb rfl
end
structure Un (fs ex:List Addr)(H H':Hp)(h h':Heap):Prop where
 keep:∀b o,h.get? b=some o→H b=none→b∉fs→b∉ex→h'.get? b=some o
 slot:∀b o,h.get? b=some o→H b=none→b∈fs→b∉ex→∃sl,h'.get? b=some {o with slots:=sl}
 free:∀b o,h.get? b=some o→H b=none→b∉ex→H' b=none
 there:∀b o,h.get? b=some o→b∉ex→∃o',h'.get? b=some o'
 tups:∀b xs,H b=some (.tup xs)→H' b=some (.tup xs)
 frzs:∀b o u,H b=some (.frz o u)→H' b=some (.frz o u)
 tbls:∀b ps,H b=some (.tbl ps)→∃more,H' b=some (.tbl (ps++more))
section
variable {fs fs' ex ex':List Addr}{H H1 H2:Hp}{h h1 h2 h':Heap}{a x e:Addr}{o:HO}
theorem Un.any (u:Un fs ex H H1 h h1){b:Addr}{ob:Obj}(q:h.get? b=some ob)(n:H b=none)(hx:b∉ex):∃sl,h1.get? b=some {ob with slots:=sl}:=by
 by_cases hb:b∈fs
 ·exact u.slot b ob q n hb hx
 ·exact⟨ob.slots,u.keep b ob q n hb hx⟩
theorem Un.kept (k:∀b u,h.get? b=some u→h'.get? b=some u):Un fs ex H H h h' :=
 ⟨fun b ob q _ _ _=>k b ob q,fun b ob q _ _ _=>⟨ob.slots,k b ob q⟩,fun _ _ _ n _=>n,fun b ob q _=>⟨ob,k b ob q⟩,fun _ _ q=>q,fun _ _ _ q=>q,fun _ ps q=>⟨#[],by rw[q];simp⟩⟩
theorem Un.refl:Un fs ex H H h h:=Un.kept fun _ _ q=>q
theorem Un.laid (k:∀b u,h.get? b=some u→h'.get? b=some u)(hp:h.objs.size≤a)(hn:H a=none):Un fs ex H (upd H a o) h h' where
 keep:=fun b u q _ _ _=>k b u q
 slot:=fun b u q _ _ _=>⟨u.slots,k b u q⟩
 free:=fun b u q n _=>by rw[upd_ne (Nat.ne_of_lt (Nat.lt_of_lt_of_le (Heap.lt_size q) hp))];exact n
 there:=fun b u q _=>⟨u,k b u q⟩
 tups:=fun b xs q=>by rw[upd_ne (ne_of_none q hn)];exact q
 frzs:=fun b u xs q=>by rw[upd_ne (ne_of_none q hn)];exact q
 tbls:=fun b ps q=>⟨#[],by rw[upd_ne (ne_of_none q hn),q];simp⟩
theorem Un.write (mu:Mut (H x))(he:e=x∨H e=some (.own x))(k:∀b u,b≠e→h.get? b=some u→h'.get? b=some u)(heo:∃u,h'.get? e=some u):Un fs ex H (upd H x o) h h':=by
 have hx:∀b,H b=none→b≠x:=fun b n z=>by subst z;rw[n]at mu;exact mu
 have hb:∀b,H b=none→b≠e:=fun b n z=>by
  subst z
  rcases he with r|r
  ·exact hx b n r
  ·rw[n]at r;cases r
 have hm:∀b u,H b=some u→¬Mut (some u)→b≠x:=fun b u q nm z=>by subst z;rw[q]at mu;exact nm mu
 refine⟨fun b u q n _ _=>k b u (hb b n) q,fun b u q n _ _=>⟨u.slots,k b u (hb b n) q⟩,fun b u q n _=>by rw[upd_ne (hx b n)];exact n,fun b u q _=>?_,
  fun b xs q=>by rw[upd_ne (hm b _ q fun z=>z)];exact q,fun b u xs q=>by rw[upd_ne (hm b _ q fun z=>z)];exact q,fun b ps q=>⟨#[],by rw[upd_ne (hm b _ q fun z=>z),q];simp⟩⟩
 by_cases hbe:b=e
 ·subst hbe;exact heo
 ·exact⟨u,k b u hbe q⟩
end
def trk (h:Heap)(H:Hp):List Addr:=(List.range h.objs.size).filter fun a=>(H a).isSome
def hidT (h:Heap)(H:Hp):Heap:=PySem.W.hideAll h (trk h H)
theorem hidT_size (h:Heap)(H:Hp):(hidT h H).objs.size=h.objs.size:=PySem.W.hideAll_size _ _
theorem hidT_get {h:Heap}{H:Hp}{b:Addr}{o:Obj}(e:h.get? b=some o)(n:H b=none):(hidT h H).get? b=some o :=
 PySem.W.hideAll_get _ e fun hm=>by
  have q:(H b).isSome=true:=(List.mem_filter.mp hm).2
  rw[n]at q;simp at q
theorem of_hidT {h:Heap}{H:Hp}{b:Addr}{o:Obj}(e:(hidT h H).get? b=some o):h.get? b=some o∧H b=none:=by
 have e':h.get? b=some o:=PySem.W.of_hideAll (trk h H) e
 refine⟨e',?_⟩
 cases q:H b with
 |none=>rfl
 |some x=>
  have hm:b∈trk h H:=List.mem_filter.mpr ⟨List.mem_range.mpr (Heap.lt_size e'),by simp[q]⟩
  have z:(hidT h H).get? b=none:=PySem.W.hideAll_none (trk h H) hm
  rw[z]at e;cases e
def allNews (g h:Heap)(L:Addr):List (Addr×Obj):=(List.range h.objs.size).filterMap fun a=>if a=L∨(g.get? a).isSome=true then none else(h.get? a).map fun o=>(a,o)
def rest (g h:Heap)(L d:Addr):List (Addr×Obj):=(allNews g h L).filter fun p=>decide (p.1≠d)
structure Mod (K:PySem.W.Frag)(mg:Str→Option Value)(base:Heap):Prop where
 kin:K.In base
 glob:base.Ns mainGlobals mg
 blt:∃mb,base.Ns builtinsNs mb∧∀x:Str,x≠"__name__"→mb x=bootBuiltins x
 nolimit:base.NoLimit
structure Cx where
 prog:Program
 w:World
 K:PySem.W.Frag
 mg:Str→Option Value
 base:Heap
 A:Around
 N:List Str
 s₀:Shared
 H₀:Hp
 env:Env
 outer:List Env
 stack:List Env
 ex:List Addr
 fn:Str→Bool
 calm:Bool
 pn:List (Addr×Obj)
 xe:Value→Shared→Prop
def frs (l:List Env):List Addr:=l.filterMap (·.frame)
abbrev Cx.fs (X:Cx):List Addr:=frs X.outer
def Vis (sc:Scope)(x:Str):Prop:=sc.names.lookup x=some .local∨sc.names.lookup x=some .cell∨sc.names.lookup x=some .free
def Loc (sc:Scope)(x:Str):Prop:=sc.names.lookup x=some .local∨sc.names.lookup x=some .cell
def Look (env:Env)(h:Heap)(m:Str→Option Value)(x:Str)(u:Value):Prop :=
 (env.kindOf x=some .local∧m x=some u)∨((env.kindOf x=some .cell∨env.kindOf x=some .free)∧∃c,env.cells.lookup x=some c∧h.IsCell c (some u))
structure Cx.Ok (X:Cx):Prop where
 mod:Mod X.K X.mg X.base
 kind:X.env.scope.kind=.function
 glob:X.env.globals=mainGlobals
 blt:X.env.builtins=builtinsNs
 above:X.s₀.heap.objs.size≤X.env.locals
 inj:∀x y c,X.env.cells.lookup x=some c→X.env.cells.lookup y=some c→x=y
 has:∀x,(X.env.kindOf x=some .cell∨X.env.kindOf x=some .free)→∃c,X.env.cells.lookup x=some c
 cab:∀x c,X.fn x=true→X.env.cells.lookup x=some c→X.s₀.heap.objs.size≤c
 hd:X.calm=true→X.A.handled=none
 frames:X.A.frames=some X.stack
 stk:X.stack=X.outer∨(X.stack=X.env::X.outer∧X.env.frame=some X.env.locals)
 exf:∀b∈X.ex,b≠X.env.locals∧∀x c,X.env.cells.lookup x=some c→c≠b
 bs:∀b o,X.base.get? b=some o→X.s₀.heap.get? b=some o∧X.H₀ b=none
 bsz:X.base.objs.size≤X.s₀.heap.objs.size
 noex:∀b o,X.base.get? b=some o→b∉X.ex
 exfs:∀b∈X.ex,b∉X.fs
 funs:X.s₀.heap.FunFrames X.base X.outer
 frf:∀b∈X.fs,X.H₀ b=none
structure Inv (X:Cx)(pins:List (Addr×Obj))(σ:List (Option V))(H:Hp)(s:Shared):Prop where
 ok:X.Ok
 os:s.os=X.s₀.os
 bare:AllBare s.gens
 base:Un X.fs X.ex X.H₀ H X.s₀.heap s.heap
 loc:∃m,s.heap.Ns X.env.locals m∧∀(i:Nat) (x:Str) (v:V),X.N[i]?=some x→σ[i]?=some (some v)→Vis X.env.scope x→∃u,RelV v u∧Look X.env s.heap m x u
 cell:∀x c,X.env.cells.lookup x=some c→∃v,s.heap.IsCell c v
 free:H X.env.locals=none
 freeC:∀x c,X.env.cells.lookup x=some c→H c=none
 pin:∀p∈X.pn++pins,s.heap.get? p.1=some p.2∧H p.1=none∧p.1≠X.env.locals∧p.1∉X.fs∧∀v,p.2.data≠.cell v
 hok:HOk X.prog X.w H s.heap
 len:σ.length=X.N.length
section
variable {X:Cx}{pins:List (Addr×Obj)}{σ:List (Option V)}{H H':Hp}{s:Shared}{h':Heap}
theorem Cx.Ok.nofr (ok:X.Ok){b:Addr}{o:Obj}(e:X.base.get? b=some o):b∉X.fs:=fun hb=>by
 have:=(ok.funs.mem hb).1
 rw[e]at this;cases this
theorem Inv.bs (I:Inv X pins σ H s):∀b o,X.base.get? b=some o→s.heap.get? b=some o∧H b=none:=fun b o e=>
 ⟨I.base.keep b o (I.ok.bs b o e).1 (I.ok.bs b o e).2 (I.ok.nofr e) (I.ok.noex b o e),I.base.free b o (I.ok.bs b o e).1 (I.ok.bs b o e).2 (I.ok.noex b o e)⟩
theorem Inv.bk (I:Inv X pins σ H s):∀b o,X.base.get? b=some o→s.heap.get? b=some o:=fun b o e=>(I.bs b o e).1
theorem Inv.mod (I:Inv X pins σ H s):Mod X.K X.mg X.base:=I.ok.mod
theorem Inv.kIn (I:Inv X pins σ H s):X.K.In s.heap:=I.ok.mod.kin.keeps I.bk
theorem Inv.lt (I:Inv X pins σ H s):X.env.locals<s.heap.objs.size:=let ⟨_,hn,_⟩:=I.loc;hn.lt
theorem Inv.sz (I:Inv X pins σ H s):X.s₀.heap.objs.size≤s.heap.objs.size:=Nat.le_trans I.ok.above (Nat.le_of_lt I.lt)
theorem Inv.nofs (I:Inv X pins σ H s){a:Addr}(h:s.heap.objs.size≤a):a∉X.fs:=fun hb=>by
 obtain⟨_,o,ho,_⟩:=I.ok.funs.mem hb
 exact absurd (Nat.lt_of_lt_of_le (Heap.lt_size ho) (Nat.le_trans I.sz h)) (Nat.lt_irrefl _)
theorem Inv.cne (I:Inv X pins σ H s):∀x c,X.env.cells.lookup x=some c→c≠X.env.locals:=fun x c e z=>by
 obtain⟨v,o,ho,hd⟩:=I.cell x c e
 obtain⟨m,⟨o',es,ep,ho',hd',_⟩,_⟩:=I.loc
 rw[z,ho']at ho;cases ho;rw[hd']at hd;cases hd
theorem Inv.funs (I:Inv X pins σ H s):s.heap.FunFrames X.base X.outer:=by
 have all:∀(l:List Env),(∀b∈frs l,b∈X.fs)→X.s₀.heap.FunFrames X.base l→s.heap.FunFrames X.base l:=by
  intro l
  induction l with
  |nil=>intro _ _;trivial
  |cons env r ih=>
   intro hs hl
   obtain⟨hk,⟨L,o,hf,hn,ho,hd⟩,hr⟩:=hl
   have hL:L∈X.fs:=hs L (by unfold frs;rw[List.filterMap_cons,hf];exact List.mem_cons_self)
   obtain⟨sl,e⟩:=I.base.slot L o ho (I.ok.frf L hL) hL fun z=>I.ok.exfs L z hL
   exact⟨hk,⟨L,_,hf,hn,e,hd⟩,ih (fun b hb=>hs b (by unfold frs;rw[List.filterMap_cons,hf];exact List.mem_cons_of_mem _ hb)) hr⟩
 exact all X.outer (fun _ hb=>hb) I.ok.funs
theorem Inv.stack (I:Inv X pins σ H s):s.heap.FunFrames X.base X.stack:=by
 rcases I.ok.stk with e|⟨e,hf⟩
 ·rw[e];exact I.funs
 ·rw[e]
  obtain⟨m,hn,_⟩:=I.loc
  refine .cons (by rw[I.ok.kind];decide) hf hn ?_ I.funs
  exact Heap.get?_none_of_le (Nat.le_trans I.ok.bsz I.ok.above)
theorem Inv.stkSub (I:Inv X pins σ H s):∀b∈frs X.stack,b∈X.env.locals::X.fs:=fun b hb=>by
 rcases I.ok.stk with e|⟨e,hf⟩
 ·rw[e]at hb;exact List.mem_cons_of_mem _ hb
 ·rw[e]at hb
  unfold frs at hb
  rw[List.filterMap_cons,hf]at hb
  exact hb
theorem Inv.stkFree (I:Inv X pins σ H s):∀b∈frs X.stack,H b=none:=fun b hb=>by
 rcases List.mem_cons.mp (I.stkSub b hb) with e|hb
 ·rw[e];exact I.free
 ·obtain⟨_,o,ho,_⟩:=I.ok.funs.mem hb
  exact I.base.free b o ho (I.ok.frf b hb) fun z=>I.ok.exfs b z hb
theorem Inv.step {g':Array GenState}{t':Nat}{d':Drawn}{ch:List Addr}(I:Inv X pins σ H s)
  (hch:∀b∈ch,(b∈X.ex∨X.s₀.heap.objs.size≤b)∧b≠X.env.locals∧(∀x c,X.env.cells.lookup x=some c→c≠b)∧∀p∈X.pn++pins,p.1≠b)
  (keep:∀b o,b≠X.env.locals→b∉X.fs→b∉ch→s.heap.get? b=some o→H b=none→h'.get? b=some o)
  (slot:∀b o,b≠X.env.locals→b∈X.fs→b∉ch→s.heap.get? b=some o→H b=none→∃sl,h'.get? b=some {o with slots:=sl}) (free:∀b o,b∉ch→s.heap.get? b=some o→H b=none→H' b=none)
  (there:∀b o,b∉ch→s.heap.get? b=some o→∃o',h'.get? b=some o')
  (tups:∀b xs,H b=some (.tup xs)→H' b=some (.tup xs)) (frzs:∀b o u,H b=some (.frz o u)→H' b=some (.frz o u)) (tbls:∀b ps,H b=some (.tbl ps)→∃more,H' b=some (.tbl (ps++more)))
  (ns:∀m,s.heap.Ns X.env.locals m→h'.Ns X.env.locals m) (hok:HOk X.prog X.w H' h') (hg:AllBare g'):
  Inv X pins σ H' {s with heap:=h',gens:=g',drawn:=d',toks:=t'}:=by
 have neL:∀b o,X.s₀.heap.get? b=some o→b≠X.env.locals:=fun b o e=>Nat.ne_of_lt (Nat.lt_of_lt_of_le (Heap.lt_size e) I.ok.above)
 have neC:∀b o,X.s₀.heap.get? b=some o→b∉X.ex→b∉ch:=fun b o e hx hb=>by
  rcases(hch b hb).1 with z|z
  ·exact hx z
  ·exact absurd (Nat.lt_of_lt_of_le (Heap.lt_size e) z) (Nat.lt_irrefl _)
 have cellK:∀x c,X.env.cells.lookup x=some c→∀v,s.heap.IsCell c v→h'.IsCell c v:=fun x c e v ⟨o,ho,hd⟩=>by
  have nch:c∉ch:=fun z=>(hch c z).2.2.1 x c e rfl
  by_cases hc:c∈X.fs
  ·obtain⟨sl,q⟩:=slot c o (I.cne x c e) hc nch ho (I.freeC x c e)
   exact⟨_,q,hd⟩
  ·exact⟨o,keep c o (I.cne x c e) hc nch ho (I.freeC x c e),hd⟩
 refine⟨I.ok,I.os,hg,⟨fun b o e n hb hx=>?_,fun b o e n hb hx=>?_,fun b o e n hx=>?_,fun b o e hx=>?_,fun b xs e=>tups b xs (I.base.tups b xs e),fun b o xs e=>frzs b o xs (I.base.frzs b o xs e),fun b ps e=>?_⟩,?_,fun x c e=>?_,?_,fun x c e=>?_,fun p hp=>?_,hok,I.len⟩
 ·exact keep b o (neL b o e) hb (neC b o e hx) (I.base.keep b o e n hb hx) (I.base.free b o e n hx)
 ·obtain⟨sl,e1⟩:=I.base.slot b o e n hb hx
  obtain⟨sl',e2⟩:=slot b _ (neL b o e) hb (neC b o e hx) e1 (I.base.free b o e n hx)
  exact⟨sl',e2⟩
 ·obtain⟨o',e1⟩:=I.base.there b o e hx
  exact free b o' (neC b o e hx) e1 (I.base.free b o e n hx)
 ·obtain⟨o',e1⟩:=I.base.there b o e hx
  exact there b o' (neC b o e hx) e1
 ·obtain⟨m1,e1⟩:=I.base.tbls b ps e
  obtain⟨m2,e2⟩:=tbls b _ e1
  exact⟨m1++m2,by rw[e2,Array.append_assoc]⟩
 ·obtain⟨m,hn,hl⟩:=I.loc
  refine⟨m,ns m hn,fun i x v e1 e2 e3=>?_⟩
  obtain⟨u,r,l⟩:=hl i x v e1 e2 e3
  refine⟨u,r,?_⟩
  rcases l with l|⟨k,c,e,z⟩
  ·exact .inl l
  ·exact .inr ⟨k,c,e,cellK x c e _ z⟩
 ·obtain⟨v,z⟩:=I.cell x c e
  exact⟨v,cellK x c e v z⟩
 ·obtain⟨m,⟨o,_,_,ho,_⟩,_⟩:=I.loc
  exact free _ o (fun z=>(hch _ z).2.1 rfl) ho I.free
 ·obtain⟨v,o,ho,hd⟩:=I.cell x c e
  exact free c o (fun z=>(hch c z).2.2.1 x c e rfl) ho (I.freeC x c e)
 ·obtain⟨e,n,ne,nf,d⟩:=I.pin p hp
  have nch:p.1∉ch:=fun z=>(hch p.1 z).2.2.2 p hp rfl
  exact⟨keep p.1 p.2 ne nf nch e n,free p.1 p.2 nch e n,ne,nf,d⟩
theorem Inv.un {t':Nat}(I:Inv X pins σ H s)(u:Un X.fs [] H H' s.heap h')(hok:HOk X.prog X.w H' h'):Inv X pins σ H' {s with heap:=h',toks:=t'}:=by
 obtain⟨m,⟨o,es,ep,ho,r⟩,_⟩:=id I.loc
 obtain⟨sl,hL⟩:=u.any ho I.free (by simp)
 exact I.step (g':=s.gens) (d':=s.drawn) (ch:=[]) (fun _ z=>nomatch z) (fun b o _ hb _ e n=>u.keep b o e n hb (by simp)) (fun b o _ hb _ e n=>u.slot b o e n hb (by simp)) (fun b o _ e n=>u.free b o e n (by simp)) (fun b o _ e=>u.there b o e (by simp)) u.tups u.frzs u.tbls (fun m' hm=>by
  obtain⟨o',es',ep',ho',r'⟩:=hm
  rw[ho]at ho';cases ho'
  exact⟨_,es',ep',hL,r'⟩) hok I.bare
theorem Inv.call {g':Array GenState}{t':Nat}{d':Drawn}{ch:List Addr}(I:Inv X pins σ H s)(u:Un (frs X.stack) ch H H' s.heap h')(hok:HOk X.prog X.w H' h')(hg:AllBare g')
  (hch:∀b∈ch,(b∈X.ex∨X.s₀.heap.objs.size≤b)∧b≠X.env.locals∧(∀x c,X.env.cells.lookup x=some c→c≠b)∧∀p∈X.pn++pins,p.1≠b):
  Inv X pins σ H' {s with heap:=h',gens:=g',drawn:=d',toks:=t'}:=by
 obtain⟨m,⟨o,es,ep,ho,r⟩,_⟩:=id I.loc
 obtain⟨sl,hL⟩:=u.any ho I.free fun z=>(hch _ z).2.1 rfl
 exact I.step (ch:=ch) hch (fun b o hL hb hc e n=>u.keep b o e n (fun z=>(List.mem_cons.mp (I.stkSub b z)).elim hL hb) hc) (fun b o _ _ hc e n=>u.any e n hc) (fun b o hc e n=>u.free b o e n hc) (fun b o hc e=>u.there b o e hc) u.tups u.frzs u.tbls (fun m' hm=>by
  obtain⟨o',es',ep',ho',r'⟩:=hm
  rw[ho]at ho';cases ho'
  exact⟨_,es',ep',hL,r'⟩) hok hg
theorem Inv.turned {t':Nat}{it:Addr}(I:Inv X pins σ H s)(k:∀b o,b≠it→s.heap.get? b=some o→h'.get? b=some o)(hn:H it=none)(hL:it≠X.env.locals)
  (h1:it∈X.ex∨X.s₀.heap.objs.size≤it) (h2:∀x c,X.env.cells.lookup x=some c→c≠it) (h3:∀p∈X.pn++pins,p.1≠it):Inv X pins σ H {s with heap:=h',toks:=t'}:=by
 have nit:∀b u,H b=some u→b≠it:=fun b u e z=>by rw[z,hn]at e;cases e
 refine I.step (g':=s.gens) (d':=s.drawn) (ch:=[it]) (fun b hb=>?_) (fun b o _ _ hc e _=>k b o (fun z=>hc (by simp[z])) e) (fun b o _ _ hc e _=>⟨o.slots,k b o (fun z=>hc (by simp[z])) e⟩) (fun _ _ _ _ n=>n)
  (fun b o hc e=>⟨o,k b o (fun z=>hc (by simp[z])) e⟩) (fun _ _ e=>e) (fun _ _ _ e=>e) (fun b ps e=>⟨#[],by rw[e];simp⟩) (fun m hm=>?_) (fun b u e=>?_) I.bare
 ·have e:b=it:=by simpa using hb
  subst e
  exact⟨h1,hL,h2,h3⟩
 ·obtain⟨o,es,ep,ho,r⟩:=hm
  exact⟨o,es,ep,k _ o (Ne.symm hL) ho,r⟩
 ·refine(I.hok b u e).stay (fun c v hc q=>k c v ?_ q) (fun _ q=>q) fun _ _ q=>q
  rcases hc with z|z
  ·rw[z];exact nit b u e
  ·exact nit c _ z
theorem Inv.tok (I:Inv X pins σ H s)(t:Nat):Inv X pins σ H {s with toks:=t}:=I.un (h':=s.heap) (t':=t) Un.refl I.hok
theorem Inv.kept {t':Nat}(I:Inv X pins σ H s)(k:∀b u,s.heap.get? b=some u→h'.get? b=some u):Inv X pins σ H {s with heap:=h',toks:=t'}:=I.un (Un.kept k) (I.hok.kept k)
theorem Inv.laid {a:Addr}{o:HO}{t':Nat}(I:Inv X pins σ H s)(k:∀b u,s.heap.get? b=some u→h'.get? b=some u)(hp:s.heap.objs.size≤a)(new:ObjOk X.prog X.w (upd H a o) h' a o):
  Inv X pins σ (upd H a o) {s with heap:=h',toks:=t'}:=I.un (Un.laid k hp (I.hok.fresh hp)) (I.hok.laid k hp new)
theorem Inv.write {x e:Addr}{o:HO}{t':Nat}(I:Inv X pins σ H s)(mu:Mut (H x))(he:e=x∨H e=some (.own x))(k:∀b u,b≠e→s.heap.get? b=some u→h'.get? b=some u)(heo:∃u,h'.get? e=some u)
  (new:ObjOk X.prog X.w (upd H x o) h' x o):Inv X pins σ (upd H x o) {s with heap:=h',toks:=t'}:=I.un (Un.write mu he k heo) (I.hok.write mu he k heo new)
theorem Inv.pins_of {pins':List (Addr×Obj)}(I:Inv X pins σ H s)(h:∀p∈pins',s.heap.get? p.1=some p.2∧H p.1=none∧p.1≠X.env.locals∧p.1∉X.fs∧∀v,p.2.data≠.cell v):Inv X pins' σ H s :=
 ⟨I.ok,I.os,I.bare,I.base,I.loc,I.cell,I.free,I.freeC,fun p hp=>(List.mem_append.mp hp).elim (fun z=>I.pin p (List.mem_append_left _ z)) (h p),I.hok,I.len⟩
theorem nodup_ix {N:List Str}(hN:N.Nodup){i j:Nat}{x:Str}(a:N[i]?=some x)(b:N[j]?=some x):i=j:=by
 obtain⟨h1,e1⟩:=List.getElem?_eq_some_iff.mp a
 obtain⟨h2,e2⟩:=List.getElem?_eq_some_iff.mp b
 exact(List.getElem_inj hN).mp (e1.trans e2.symm)
theorem store_ok2 {M:Model}{A:Around}{E:Value→Shared→Prop}{i:Nat}{x:Str}{v:V}{u:Value}{Q:Unit→Shared→Prop}(I:Inv X pins σ H s)(hN:X.N.Nodup)(hi:X.N[i]?=some x)(hx:Loc X.env.scope x)(r:RelV v u)
  (h:∀s',Inv X pins (σ.set i (some v)) H s'→(∃a,Heap.SameBut a s.heap s'.heap∧(a=X.env.locals∨X.env.cells.lookup x=some a))→Q () s') (hf:X.fn x=true∨X.env.scope.names.lookup x=some .local:=by first|exact .inl rfl|exact .inr rfl|assumption):wpAny M A (storeName X.env x u) Q E s:=by
 obtain⟨m,hn,hl⟩:=id I.loc
 have hcls:(X.env.scope.kind==.class||(X.env.scope.kind==.module&&X.env.locals !=X.env.globals))=false:=by rw[I.ok.kind];rfl
 have hiσ:i<σ.length:=by rw[I.len];exact(List.getElem?_eq_some_iff.mp hi).1
 have cne:=I.cne
 have tracked:∀{a:Addr} {h':Heap},(∃o,s.heap.get? a=some o∧H a=none)→Heap.SameBut a s.heap h'→HOk X.prog X.w H h':=fun{a h'} ha hs b ob e=>by
  obtain⟨_,_,hfree⟩:=ha
  refine(I.hok b ob e).stay (fun c w' hc q=>(hs.2 c ?_).trans q) (fun _ q=>q) fun _ _ q=>q
  rintro rfl
  rcases hc with rfl|hc
  ·rw[hfree]at e;cases e
  ·rw[hfree]at hc;cases hc
 rcases hx with hk|hk
 ·refine wpAny_storeName_local hk hn (fun h' hn' hs=>?_) hcls
  obtain⟨oL,_,_,hoL,_⟩:=id hn
  refine h _ ⟨I.ok,I.os,I.bare,⟨fun b o e n hb hx=>?_,fun b o e n hb hx=>?_,I.base.free,fun b o e hx=>?_,I.base.tups,I.base.frzs,I.base.tbls⟩,⟨_,hn',fun j y v' e1 e2 e3=>?_⟩,fun y c e=>?_,I.free,I.freeC,fun p hp=>?_,tracked ⟨oL,hoL,I.free⟩ hs,by simpa using I.len⟩ ⟨_,hs, .inl rfl⟩
  ·exact(hs.2 b (Nat.ne_of_lt (Nat.lt_of_lt_of_le (Heap.lt_size e) I.ok.above))).trans (I.base.keep b o e n hb hx)
  ·obtain⟨sl,e1⟩:=I.base.slot b o e n hb hx
   exact⟨sl,(hs.2 b (Nat.ne_of_lt (Nat.lt_of_lt_of_le (Heap.lt_size e) I.ok.above))).trans e1⟩
  ·obtain⟨o',e1⟩:=I.base.there b o e hx
   exact⟨o',(hs.2 b (Nat.ne_of_lt (Nat.lt_of_lt_of_le (Heap.lt_size e) I.ok.above))).trans e1⟩
  ·by_cases hj:j=i
   ·subst hj
    rw[hi]at e1;cases e1
    rw[List.getElem?_set_self hiσ]at e2
    cases e2
    exact⟨u,r, .inl ⟨hk,by simp⟩⟩
   ·rw[List.getElem?_set_ne (Ne.symm hj)]at e2
    obtain⟨u',r',q⟩:=hl j y v' e1 e2 e3
    refine⟨u',r',?_⟩
    rcases q with ⟨k,e⟩|⟨k,c,e,z⟩
    ·refine .inl ⟨k,?_⟩
     have:y≠x:=fun e=>hj (nodup_ix hN e1 (e ▸ hi))
     simp[this,e]
    ·exact .inr ⟨k,c,e,z.sameBut hs (cne y c e)⟩
  ·obtain⟨w',z⟩:=I.cell y c e
   exact⟨w',z.sameBut hs (cne y c e)⟩
  ·obtain⟨e,n,ne,nf,d⟩:=I.pin p hp
   exact⟨(hs.2 p.1 ne).trans e,n,ne,nf,d⟩
 ·have hfn:X.fn x=true:=by
   rcases hf with z|z
   ·exact z
   ·rw[z]at hk;cases hk
  obtain⟨c,hc⟩:=I.ok.has x (.inl hk)
  obtain⟨w',z⟩:=I.cell x c hc
  refine wpAny_storeName_cell I.ok.kind hk hc z (fun h' hc' hs=>?_)
  obtain⟨oc,hoc,hocd⟩:=id z
  refine h {s with heap:=h'} ⟨I.ok,I.os,I.bare,⟨fun b o e n hb hx=>?_,fun b o e n hb hx=>?_,I.base.free,fun b o e hx=>?_,I.base.tups,I.base.frzs,I.base.tbls⟩,⟨m,hn.sameBut hs (Ne.symm (cne x c hc)),fun j y v' e1 e2 e3=>?_⟩,fun y c' e=>?_,I.free,I.freeC,fun p hp=>?_,tracked ⟨oc,hoc,I.freeC x c hc⟩ hs,by simpa using I.len⟩ ⟨c,hs, .inr hc⟩
  ·exact(hs.2 b (Nat.ne_of_lt (Nat.lt_of_lt_of_le (Heap.lt_size e) (I.ok.cab x c hfn hc)))).trans (I.base.keep b o e n hb hx)
  ·obtain⟨sl,e1⟩:=I.base.slot b o e n hb hx
   exact⟨sl,(hs.2 b (Nat.ne_of_lt (Nat.lt_of_lt_of_le (Heap.lt_size e) (I.ok.cab x c hfn hc)))).trans e1⟩
  ·obtain⟨o',e1⟩:=I.base.there b o e hx
   exact⟨o',(hs.2 b (Nat.ne_of_lt (Nat.lt_of_lt_of_le (Heap.lt_size e) (I.ok.cab x c hfn hc)))).trans e1⟩
  ·by_cases hj:j=i
   ·subst hj
    rw[hi]at e1;cases e1
    rw[List.getElem?_set_self hiσ]at e2
    cases e2
    exact⟨u,r, .inr ⟨.inl hk,c,hc,hc'⟩⟩
   ·rw[List.getElem?_set_ne (Ne.symm hj)]at e2
    obtain⟨u',r',q⟩:=hl j y v' e1 e2 e3
    refine⟨u',r',?_⟩
    rcases q with q|⟨k,c',e,z'⟩
    ·exact .inl q
    ·refine .inr ⟨k,c',e,z'.sameBut hs ?_⟩
     rintro rfl
     exact hj (nodup_ix hN e1 (I.ok.inj _ _ _ e hc ▸ hi))
  ·by_cases hcc:c'=c
   ·subst hcc;exact⟨_,hc'⟩
   ·obtain⟨w2,z2⟩:=I.cell y c' e
    exact⟨w2,z2.sameBut hs hcc⟩
  ·obtain⟨e,n,ne,nf,d⟩:=I.pin p hp
   refine⟨(hs.2 p.1 ?_).trans e,n,ne,nf,d⟩
   intro q
   rw[q,hoc]at e
   have q':oc=p.2:=Option.some.inj e
   exact d w' (by rw[←q'];exact hocd)
theorem store_ok {M:Model}{A:Around}{E:Value→Shared→Prop}{i:Nat}{x:Str}{v:V}{u:Value}{Q:Unit→Shared→Prop}(I:Inv X pins σ H s)(hN:X.N.Nodup)(hi:X.N[i]?=some x)(hx:Loc X.env.scope x)(r:RelV v u)
  (h:∀s',Inv X pins (σ.set i (some v)) H s'→Q () s') (hf:X.fn x=true∨X.env.scope.names.lookup x=some .local:=by first|exact .inl rfl|exact .inr rfl|assumption):wpAny M A (storeName X.env x u) Q E s :=
 store_ok2 I hN hi hx r (fun s' I' _=>h s' I') hf
theorem Inv.call' {s':Shared}{ch:List Addr}(I:Inv X pins σ H s)(ho:s'.os=s.os)(u:Un (frs X.stack) ch H H' s.heap s'.heap)(hok:HOk X.prog X.w H' s'.heap)(hg:AllBare s'.gens)
  (hch:∀b∈ch,(b∈X.ex∨X.s₀.heap.objs.size≤b)∧b≠X.env.locals∧(∀x c,X.env.cells.lookup x=some c→c≠b)∧∀p∈X.pn++pins,p.1≠b):Inv X pins σ H' s':=by
 obtain⟨h',g',d',t',o'⟩:=s'
 have e:o'=s.os:=ho
 subst e
 exact I.call (g':=g') (t':=t') (d':=d') u hok hg hch
end
abbrev XK:=Value→Option Addr→Hp→Prop
abbrev St:=List (Option V)
abbrev VK:=V→Hp→Prop
abbrev TE:=St→Hp→VK→Prop
abbrev TT:=St→Hp→(Bool→Hp→Prop)→Prop
abbrev TA:=St→Hp→(List V→Hp→Prop)→Prop
structure Ends where
 nx:St→Hp→Prop
 rt:VK
 bk:St→Hp→Prop:=fun _ _=>False
 ct:St→Hp→Prop:=fun _ _=>False
abbrev TS:=Ends→St→Hp→Prop
def Ends.of (Q:VK):Ends:={nx:=fun _ H'=>Q .non H',rt:=Q}
def Ends.lp (D:Ends)(n:St→Hp→Prop):Ends:={D with nx:=n,ct:=n,bk:=D.nx}
def EP (X:Cx)(pins:List (Addr×Obj))(σ:St)(Q:VK)(u:Value)(s':Shared):Prop:=∃v H',Inv X pins σ H' s'∧RelV v u∧Q v H'
def TP (X:Cx)(pins:List (Addr×Obj))(σ:St)(Q:Bool→Hp→Prop)(b:Bool)(s':Shared):Prop:=∃H',Inv X pins σ H' s'∧Q b H'
def AP (X:Cx)(pins:List (Addr×Obj))(σ:St)(Q:List V→Hp→Prop)(us:List Value)(s':Shared):Prop:=∃vs H',Inv X pins σ H' s'∧Vals vs us∧Q vs H'
def SP (X:Cx)(pins:List (Addr×Obj))(D:Ends)(f:Flow)(s':Shared):Prop :=
 match f with
 |.next=>∃σ' H',Inv X pins σ' H' s'∧D.nx σ' H'
 |.brk=>∃σ' H',Inv X pins σ' H' s'∧D.bk σ' H'
 |.cont=>∃σ' H',Inv X pins σ' H' s'∧D.ct σ' H'
 |.ret u=>∃v σ' H',Inv X pins σ' H' s'∧RelV v u∧D.rt v H'
def PE (X:Cx)(e:Expr)(t:TE):Prop :=
 ∀(pins:List (Addr×Obj)) (s:Shared) (σ:St) (H:Hp) (Q:VK),Inv X pins σ H s→t σ H Q→wpAny (model X.prog X.w) X.A (eval e X.env) (EP X pins σ Q) X.xe s
def PT (X:Cx)(e:Expr)(t:TT):Prop :=
 ∀(pins:List (Addr×Obj)) (s:Shared) (σ:St) (H:Hp) (Q:Bool→Hp→Prop),Inv X pins σ H s→t σ H Q→wpAny (model X.prog X.w) X.A (isTrue e X.env (eval e X.env)) (TP X pins σ Q) X.xe s
def PW (X:Cx)(e:Expr)(t:TT):Prop :=
 ∀(whole:Sem Value) (pins:List (Addr×Obj)) (s:Shared) (σ:St) (H:Hp) (Q:Bool→Hp→Prop),Inv X pins σ H s→t σ H Q→wpAny (model X.prog X.w) X.A (isTrue e X.env whole) (TP X pins σ Q) X.xe s
theorem PW.pt {X:Cx}{e:Expr}{t:TT}(h:PW X e t):PT X e t:=h _
def PA (X:Cx)(es:List Expr)(t:TA):Prop :=
 ∀(pos:Pos) (pins:List (Addr×Obj)) (s:Shared) (σ:St) (H:Hp) (Q:List V→Hp→Prop),Inv X pins σ H s→t σ H Q→wpAny (model X.prog X.w) X.A (spliced (backTo pos (starEach es X.env))) (AP X pins σ Q) X.xe s
def PS (X:Cx)(st:Stmt)(t:TS):Prop :=
 ∀(pins:List (Addr×Obj)) (s:Shared) (σ:St) (H:Hp) (D:Ends),Inv X pins σ H s→t D σ H→wpAny (model X.prog X.w) X.A (exec st X.env) (SP X pins D) X.xe s
def PSs (X:Cx)(st:List Stmt)(t:TS):Prop :=
 ∀(pins:List (Addr×Obj)) (s:Shared) (σ:St) (H:Hp) (D:Ends),Inv X pins σ H s→t D σ H→wpAny (model X.prog X.w) X.A (execs st X.env) (SP X pins D) X.xe s
theorem thn {α:Type}{t:Sem α}{Q Q':α→Shared→Prop}{M:Model}{A:Around}{E:Value→Shared→Prop}{s:Shared}(h:wpAny M A t Q E s)(hQ:∀a s,Q a s→Q' a s):wpAny M A t Q' E s:=wpAny_mono h hQ fun _ _ x=>x
section
variable {X:Cx}
inductive tVar_ (i:Nat)(σ:St)(H:Hp)(Q:VK):Prop where
 |mk (v):(σ[i]?=some (some v))→(Q v H)→tVar_ i σ H Q
def tVar (i:Nat):TE:=tVar_ i
def tC (v:V):TE:=fun _ H Q=>Q v H
theorem pe_var {i:Nat}{x:Str}{pos:Pos}(hN:X.N[i]?=some x)(hv:Vis X.env.scope x)(hd:(x==("__debug__":Str))=false:=by decide)(hcd:(x==("__classdict__":Str))=false:=by decide):PE X (.Name x pos) (tVar i):=by
 intro pins s σ H Q I h
 obtain⟨v,e,h⟩:=h
 obtain⟨m,hn,hl⟩:=I.loc
 obtain⟨u,r,l⟩:=hl i x v hN e hv
 have fin:EP X pins σ Q u s:=⟨v,H,I,r,h⟩
 rcases l with ⟨hk,hm⟩|⟨hk,c,hc,hcell⟩
 ·exact wpAny_Name (wpAny_loadName_local I.ok.kind hk hn hm fin) hd
 ·rcases hk with hk|hk
  ·exact wpAny_Name (wpAny_loadName_cell I.ok.kind hk hc hcell fin) hd
  ·exact wpAny_Name (wpAny_loadName_free I.ok.kind hk hc hcell fin hcd) hd
theorem pe_int {i j pos}:PE X (.Constant (.int i) j pos) (tC (.int i)):=fun _ _ _ H _ I h=>wpAny_Constant_int ⟨.int i,H,I.tok _,⟨_,rfl⟩,h⟩
theorem pe_bl {b j pos}:PE X (.Constant (.bool b) j pos) (tC (.bl b)):=fun _ _ _ H _ I h=>Constant_bool ⟨.bl b,H,I,rfl,h⟩
theorem pe_non {j pos}:PE X (.Constant .none j pos) (tC .non):=fun _ _ _ H _ I h=>Constant_none ⟨.non,H,I,rfl,h⟩
theorem pe_str {x j pos}:PE X (.Constant (.str x) j pos) (tC (.str x)):=fun _ _ _ H _ I h=>Calls.Constant_str ⟨.str x,H,I.tok _,⟨_,rfl⟩,h⟩
def Gl (X:Cx)(x:Str):Prop:=X.env.kindOf x=some .globalImplicit
theorem ld_glob {E:Value→Shared→Prop}{pins:List (Addr×Obj)}{s:Shared}{σ:St}{H:Hp}{x:Str}{u:Value}{pos:Pos}{Q:Value→Shared→Prop}(I:Inv X pins σ H s)(hg:Gl X x)(hm:X.mg x=some u)(h:Q u s)
  (hd:(x==("__debug__":Str))=false:=by decide):wpAny (model X.prog X.w) X.A (eval (.Name x pos) X.env) Q E s :=
 Calls.Name_function_global I.ok.kind hg (Calls.loadGlobal_global (by rw[I.ok.glob];exact I.mod.glob.keeps I.bk) hm h) hd
theorem ld_blt {E:Value→Shared→Prop}{pins:List (Addr×Obj)}{s:Shared}{σ:St}{H:Hp}{x:Str}{u:Value}{pos:Pos}{Q:Value→Shared→Prop}(I:Inv X pins σ H s)(hg:Gl X x)(hm:X.mg x=none)(hv:bootBuiltins x=some u)(h:Q u s)
  (hn:x≠"__name__":=by decide) (hd:(x==("__debug__":Str))=false:=by decide):wpAny (model X.prog X.w) X.A (eval (.Name x pos) X.env) Q E s:=by
 obtain⟨mb,h1,h2⟩:=I.mod.blt
 exact Calls.Name_function_global I.ok.kind hg (Calls.loadGlobal_builtin (by rw[I.ok.glob];exact I.mod.glob.keeps I.bk) hm (by rw[I.ok.blt];exact h1.keeps I.bk) ((h2 x hn).trans hv) h) hd
theorem pe_glob {x:Str}{v:V}{u:Value}{pos:Pos}(hg:Gl X x)(hm:X.mg x=some u)(r:RelV v u)(hd:(x==("__debug__":Str))=false:=by decide):PE X (.Name x pos) (tC v) :=
 fun _ _ _ H _ I h=>ld_glob I hg hm ⟨v,H,I,r,h⟩ hd
theorem pe_bltn {x:Str}{v:V}{u:Value}{pos:Pos}(hg:Gl X x)(hm:X.mg x=none)(hv:bootBuiltins x=some u)(r:RelV v u)(hn:x≠"__name__":=by decide)(hd:(x==("__debug__":Str))=false:=by decide):PE X (.Name x pos) (tC v) :=
 fun _ _ _ H _ I h=>ld_blt I hg hm hv ⟨v,H,I,r,h⟩ hn hd
variable {a b:Expr}{ta tb:TE}{pos:Pos}
def tB (t:TE):TT:=fun σ H Q=>t σ H fun x H1=>∃c,x=.bl c∧Q c H1
theorem pt_val {e:Expr}{t:TE}(h:PE X e t)(he:∀whole,isTrue e X.env whole=(do let v ←whole;standAt e.pos;holding [v] (truthy v)):=by intro _;rfl):PT X e (tB t):=by
 intro pins s σ H Q I hw
 refine isTrue_plain (thn (h pins s σ H _ I hw) fun v s1 ⟨x,H1,I1,r1,q1⟩=>?_) (he _)
 obtain⟨d,rfl,q⟩:=q1
 cases r1
 exact wpAny_truthy_bool ⟨H1,I1,q⟩
variable {tA tB':TT}{rest:List Expr}
def tAnd (t u:TT):TT:=fun σ H Q=>t σ H fun c H1=>if c=true then u σ H1 Q else Q false H1
def tOr (t u:TT):TT:=fun σ H Q=>t σ H fun c H1=>if c=true then Q true H1 else u σ H1 Q
def tNot (t:TT):TT:=fun σ H Q=>t σ H fun c H1=>Q (!c) H1
theorem pw_and1 (ha:PT X a tA):PW X (.BoolOp .And [a] pos) tA:=by
 intro wh pins s σ H Q I h
 refine isTrue_and (thn (ha pins s σ H Q I h) fun c s1 e=>?_)
 cases c with
 |true=>exact isTrue_and_nil e
 |false=>exact e
theorem pw_or1 (ha:PT X a tA):PW X (.BoolOp .Or [a] pos) tA:=by
 intro wh pins s σ H Q I h
 refine isTrue_or (thn (ha pins s σ H Q I h) fun c s1 e=>?_)
 cases c with
 |false=>exact isTrue_or_nil e
 |true=>exact e
theorem pw_and (ha:PT X a tA)(hb:PW X (.BoolOp .And (b::rest) pos) tB'):PW X (.BoolOp .And (a::b::rest) pos) (tAnd tA tB'):=by
 intro wh pins s σ H Q I h
 refine isTrue_and (thn (ha pins s σ H _ I h) fun c s1 ⟨H1,I1,q1⟩=>?_)
 cases c with
 |true=>exact hb wh pins s1 σ H1 Q I1 q1
 |false=>exact⟨H1,I1,q1⟩
theorem pw_or (ha:PT X a tA)(hb:PW X (.BoolOp .Or (b::rest) pos) tB'):PW X (.BoolOp .Or (a::b::rest) pos) (tOr tA tB'):=by
 intro wh pins s σ H Q I h
 refine isTrue_or (thn (ha pins s σ H _ I h) fun c s1 ⟨H1,I1,q1⟩=>?_)
 cases c with
 |true=>exact⟨H1,I1,q1⟩
 |false=>exact hb wh pins s1 σ H1 Q I1 q1
theorem pt_not (ha:PT X a tA):PT X (.UnaryOp .Not a pos) (tNot tA):=by
 intro pins s σ H Q I h
 exact isTrue_not (ha pins s σ H (fun c H1=>Q (!c) H1) I h)
def tAndV (ta tb:TE):TE:=fun σ H Q=>ta σ H fun x H1=>∃c,x=.bl c∧if c=true then tb σ H1 Q else Q (.bl false) H1
def tOrV (ta tb:TE):TE:=fun σ H Q=>ta σ H fun x H1=>∃c,x=.bl c∧if c=true then Q (.bl true) H1 else tb σ H1 Q
def tNotV (ta:TE):TE:=fun σ H Q=>ta σ H fun x H1=>∃c,x=.bl c∧Q (.bl (!c)) H1
theorem pe_one {op}{t:TE}(h:PE X a t):PE X (.BoolOp op [a] pos) t:=fun pins s σ H Q I hw=>BoolOp_one (h pins s σ H Q I hw)
theorem pe_and (ha:PE X a ta)(hb:PE X (.BoolOp .And (b::rest) pos) tb):PE X (.BoolOp .And (a::b::rest) pos) (tAndV ta tb):=by
 intro pins s σ H Q I h
 refine BoolOp_and (thn (ha pins s σ H _ I h) fun v s1 ⟨x,H1,I1,r1,q1⟩=>?_)
 obtain⟨c,rfl,q1⟩:=q1
 cases r1
 refine wpAny_truthy_bool ?_
 cases c with
 |true=>exact hb pins s1 σ H1 Q I1 q1
 |false=>exact⟨.bl false,H1,I1,rfl,q1⟩
theorem pe_or (ha:PE X a ta)(hb:PE X (.BoolOp .Or (b::rest) pos) tb):PE X (.BoolOp .Or (a::b::rest) pos) (tOrV ta tb):=by
 intro pins s σ H Q I h
 refine BoolOp_or (thn (ha pins s σ H _ I h) fun v s1 ⟨x,H1,I1,r1,q1⟩=>?_)
 obtain⟨c,rfl,q1⟩:=q1
 cases r1
 refine wpAny_truthy_bool ?_
 cases c with
 |false=>exact hb pins s1 σ H1 Q I1 q1
 |true=>exact⟨.bl true,H1,I1,rfl,q1⟩
theorem pe_not (ha:PE X a ta):PE X (.UnaryOp .Not a pos) (tNotV ta):=by
 intro pins s σ H Q I h
 refine UnaryOp_ (thn (ha pins s σ H _ I h) fun v s1 ⟨x,H1,I1,r1,q1⟩=>?_)
 obtain⟨c,rfl,q1⟩:=q1
 cases r1
 exact not_of (wpAny_truthy_bool ⟨.bl (!c),H1,I1,rfl,q1⟩)
def tIf (t:TT)(ta tb:TE):TE:=fun σ H Q=>t σ H fun c H1=>if c=true then ta σ H1 Q else tb σ H1 Q
theorem pe_ifExp {c:Expr}(hc:PT X c tA)(ha:PE X a ta)(hb:PE X b tb):PE X (.IfExp c a b pos) (tIf tA ta tb):=by
 intro pins s σ H Q I h
 refine wpAny_IfExp (thn (hc pins s σ H _ I h) fun d s1 ⟨H1,I1,q1⟩=>?_)
 cases d with
 |true=>exact ha pins s1 σ H1 Q I1 q1
 |false=>exact hb pins s1 σ H1 Q I1 q1
end
def SqL (K:PySem.W.Frag)(H:Hp)(a:Addr)(xs:List V):Prop :=
 Rd H a (.lst xs)∨
  ∃(o:Obj) (its:Array Value) (n:Nat),K.lookup a=some o∧o.cls=.type "list"∧o.dict=none∧o.data=.seq its n∧its.size≤sizeLine∧Vals xs its.toList
def SqT (K:PySem.W.Frag)(H:Hp)(a:Addr)(xs:List V):Prop :=
 Rd H a (.tup xs)∨
  ∃(o:Obj) (its:Array Value) (n:Nat),K.lookup a=some o∧o.cls=.type "tuple"∧o.data=.seq its n∧its.size≤sizeLine∧Vals xs its.toList
def absV:Value→Option V
 |.none=>some .non
 |.bool b=>some (.bl b)
 |.int i _=>some (.int i)
 |.str x _=>some (.str x)
 |.bytes b _=>some (.byt b)
 |.float b _=>some (.flt b)
 |.ref a=>some (.ref a)
 |.type n=>some (.ty n)
 |_=>none
theorem RelV.abs {x:V}{u:Value}(r:RelV x u):absV u=some x:=by
 cases x with
 |non=>cases r;rfl
 |bl _=>cases r;rfl
 |int _=>obtain⟨t,rfl⟩:=r;rfl
 |str _=>obtain⟨t,rfl⟩:=r;rfl
 |byt _=>obtain⟨t,rfl⟩:=r;rfl
 |flt _=>obtain⟨t,rfl⟩:=r;rfl
 |ref _=>cases r;rfl
 |ty _=>cases r;rfl
theorem RelV.inj {x y:V}{u:Value}(r:RelV x u)(q:RelV y u):x=y:=Option.some.inj (r.abs.symm.trans q.abs)
theorem Vals.inj {xs ys:List V}{us:List Value}(h:Vals xs us)(k:Vals ys us):xs=ys:=by
 induction h generalizing ys with
 |nil=>cases k;rfl
 |cons r _ ih=>cases k with
  |cons q t=>rw[r.inj q,ih t]
section
variable {X:Cx}{pins:List (Addr×Obj)}{σ:St}{H:Hp}{s:Shared}{a:Addr}{xs ys:List V}
theorem SqL.of {K:PySem.W.Frag}(h:H a=some (.lst xs)):SqL K H a xs:=.inl (.inl h)
theorem SqT.of {K:PySem.W.Frag}(h:H a=some (.tup xs)):SqT K H a xs:=.inl (.inl h)
theorem Inv.list (I:Inv X pins σ H s)(h:SqL X.K H a xs):∃its:List Value,Vals xs its∧PlainL s.heap a its.toArray∧xs.length≤sizeLine:=by
 rcases h with h|⟨o,its,n,hk,hc,hd,hs,hz,r⟩
 ·obtain⟨z,its,n,r,e⟩:=h.ok I.hok
  exact⟨its,r,⟨_,n,e,rfl,rfl,rfl⟩,z⟩
 ·refine⟨its.toList,r,⟨o,n,I.kIn a o hk,hc,hd,by simpa using hs⟩,?_⟩
  have e:=r.length
  simp only[Array.length_toList]at e
  omega
theorem Inv.tuple (I:Inv X pins σ H s)(h:SqT X.K H a xs):∃its:List Value,Vals xs its∧IsTup s.heap a its.toArray∧xs.length≤sizeLine:=by
 rcases h with h|⟨o,its,n,hk,hc,hs,hz,r⟩
 ·obtain⟨z,its,r,p⟩:=h.ok I.hok
  exact⟨its,r,p,z⟩
 ·refine⟨its.toList,r,⟨o,I.kIn a o hk,hc,n,by simpa using hs⟩,?_⟩
  have e:=r.length
  simp only[Array.length_toList]at e
  omega
theorem Inv.list_inj (I:Inv X pins σ H s)(h:SqL X.K H a xs)(h':SqL X.K H a ys):xs=ys:=by
 obtain⟨its,r,⟨o,n,e,_,_,d⟩,_⟩:=I.list h
 obtain⟨its',r',⟨o',n',e',_,_,d'⟩,_⟩:=I.list h'
 rw[e]at e';cases e'
 rw[d]at d'
 injection d' with d1 _
 have:its=its':=by simpa using congrArg Array.toList d1
 subst this
 exact r.inj r'
theorem Inv.tuple_inj (I:Inv X pins σ H s)(h:SqT X.K H a xs)(h':SqT X.K H a ys):xs=ys:=by
 obtain⟨its,r,⟨o,e,_,n,d⟩,_⟩:=I.tuple h
 obtain⟨its',r',⟨o',e',_,n',d'⟩,_⟩:=I.tuple h'
 rw[e]at e';cases e'
 rw[d]at d'
 injection d' with d1 _
 have:its=its':=by simpa using congrArg Array.toList d1
 subst this
 exact r.inj r'
end
abbrev Cx.wish (X:Cx)(E:Value→Shared→Prop):Cx:={X with xe:=E}
abbrev Cx.nox (X:Cx):Cx:=X.wish fun _ _=>False
theorem Cx.Ok.wish {X:Cx}(ok:X.Ok)(E:Value→Shared→Prop):(X.wish E).Ok :=
 ⟨ok.mod,ok.kind,ok.glob,ok.blt,ok.above,ok.inj,ok.has,ok.cab,ok.hd,ok.frames,ok.stk,ok.exf,ok.bs,ok.bsz,ok.noex,ok.exfs,ok.funs,ok.frf⟩
theorem Cx.Ok.unwish {X:Cx}{E:Value→Shared→Prop}(ok:(X.wish E).Ok):X.Ok :=
 ⟨ok.mod,ok.kind,ok.glob,ok.blt,ok.above,ok.inj,ok.has,ok.cab,ok.hd,ok.frames,ok.stk,ok.exf,ok.bs,ok.bsz,ok.noex,ok.exfs,ok.funs,ok.frf⟩
section
variable {X:Cx}{pins:List (Addr×Obj)}{σ:St}{H:Hp}{s:Shared}{E:Value→Shared→Prop}
theorem Inv.wish (I:Inv X pins σ H s)(E:Value→Shared→Prop):Inv (X.wish E) pins σ H s:=⟨I.ok.wish E,I.os,I.bare,I.base,I.loc,I.cell,I.free,I.freeC,I.pin,I.hok,I.len⟩
theorem Inv.unwish (I:Inv (X.wish E) pins σ H s):Inv X pins σ H s:=⟨I.ok.unwish,I.os,I.bare,I.base,I.loc,I.cell,I.free,I.freeC,I.pin,I.hok,I.len⟩
theorem SP.unwish {D:Ends}{f:Flow}{s':Shared}(h:SP (X.wish E) pins D f s'):SP X pins D f s':=by
 cases f with
 |next=>obtain⟨σ',H',I,q⟩:=h;exact⟨σ',H',I.unwish,q⟩
 |brk=>obtain⟨σ',H',I,q⟩:=h;exact⟨σ',H',I.unwish,q⟩
 |cont=>obtain⟨σ',H',I,q⟩:=h;exact⟨σ',H',I.unwish,q⟩
 |ret u=>obtain⟨v,σ',H',I,r,q⟩:=h;exact⟨v,σ',H',I.unwish,r,q⟩
theorem PSs.nox {st:List Stmt}{t:TS}(h:PSs X.nox st t):PSs X st t:=fun pins s σ H D I hw=>
 wpAny_mono (h pins s σ H D (I.wish _) hw) (fun _ _ q=>q.unwish) fun _ _ z=>False.elim z
end
section
variable {X:Cx}{st:Stmt}{rest:List Stmt}{t u:TS}{e:Expr}{te:TE}{pos:Pos}
def tNext:TS:=fun D σ H=>D.nx σ H
def Ends.to (D:Ends)(n:St→Hp→Prop):Ends:={D with nx:=n}
def tSeq (t u:TS):TS:=fun D σ H=>t (D.to (u D)) σ H
theorem pss_nil:PSs X [] tNext:=fun _ _ σ H _ I h=>wpAny_execs_nil ⟨σ,H,I,h⟩
theorem pss_cons (h1:PS X st t)(h2:PSs X rest u):PSs X (st::rest) (tSeq t u):=by
 intro pins s σ H D I h
 refine wpAny_execs_cons (thn (h1 pins s σ H {D with nx:=u D} I h) fun f s1 q=>?_)
 cases f with
 |next=>
  obtain⟨σ',H',I',q⟩:=q
  exact h2 pins s1 σ' H' D I' q
 |ret v=>exact q
 |brk=>exact q
 |cont=>exact q
theorem pss_one (h1:PS X st t):PSs X [st] t:=by
 intro pins s σ H D I h
 refine wpAny_execs_cons (thn (h1 pins s σ H D I h) fun f s1 q=>?_)
 cases f with
 |next=>exact wpAny_execs_nil q
 |ret v=>exact q
 |brk=>exact q
 |cont=>exact q
theorem Inv.quiet {pins:List (Addr×Obj)}{σ:St}{H:Hp}{s:Shared}(I:Inv X pins σ H s):interactive X.env=false:=by simp[interactive,I.ok.kind]
def tDrop (te:TE):TS:=fun D σ H=>te σ H fun _ H1=>D.nx σ H1
theorem ps_expr (he:PE X e te)(hs:swapsWith e none pos.line X.env=pure false:=by rfl):PS X (.Expr e pos) (tDrop te):=by
 intro pins s σ H D I h
 exact wpAny_Expr_any (thn (he pins s σ H _ I h) fun v s1 ⟨x,H1,I1,r1,q1⟩=>⟨σ,H1,I1,q1⟩) I.quiet hs
def tRet (te:TE):TS:=fun D σ H=>te σ H D.rt
theorem ps_ret (he:PE X e te):PS X (.Return (some e) pos) (tRet te):=by
 intro pins s σ H D I h
 exact wpAny_Return_some (thn (he pins s σ H _ I h) fun v s1 ⟨x,H1,I1,r1,q1⟩=>⟨x,σ,H1,I1,r1,q1⟩)
def tIfS (c:TT)(t u:TS):TS:=fun D σ H=>c σ H fun b H1=>if b=true then t D σ H1 else u D σ H1
theorem ps_if {c:Expr}{a b:List Stmt}{tc:TT}(hc:PT X c tc)(ha:PSs X a t)(hb:PSs X b u):PS X (.If c a b pos) (tIfS tc t u):=by
 intro pins s σ H D I h
 refine wpAny_If (thn (hc pins s σ H _ I h) fun d s1 ⟨H1,I1,q1⟩=>?_)
 cases d with
 |true=>exact ha pins s1 σ H1 D I1 q1
 |false=>exact hb pins s1 σ H1 D I1 q1
def tNever:TS:=fun _ _ _=>False
theorem ps_never:PS X st tNever:=fun _ _ _ _ _ _ h=>h.elim
theorem pss_never {sts:List Stmt}:PSs X sts tNever:=fun _ _ _ _ _ _ h=>h.elim
end
abbrev TG:=V→St→Hp→(St→Hp→Prop)→Prop
abbrev TGs:=List V→St→Hp→(St→Hp→Prop)→Prop
def PG (X:Cx)(target:Expr)(t:TG):Prop :=
 ∀(pins:List (Addr×Obj)) (s:Shared) (σ:St) (H:Hp) (v:V) (u:Value) (Q:St→Hp→Prop),Inv X pins σ H s→RelV v u→t v σ H Q→
  wpAny (model X.prog X.w) X.A (assign target X.env u) (fun _ s'=>∃σ' H',Inv X pins σ' H' s'∧Q σ' H') X.xe s
def PGs (X:Cx)(ts:List Expr)(t:TGs):Prop :=
 ∀(pins:List (Addr×Obj)) (s:Shared) (σ:St) (H:Hp) (vs:List V) (us:List Value) (Q:St→Hp→Prop),Inv X pins σ H s→Vals vs us→t vs σ H Q→
  wpAny (model X.prog X.w) X.A (assignInOrder ((assignEach ts X.env).map (·.2)) us) (fun _ s'=>∃σ' H',Inv X pins σ' H' s'∧Q σ' H') X.xe s
abbrev TSet:=V→V→V→Hp→(Hp→Prop)→Prop
def PSet (X:Cx)(t:TSet):Prop :=
 ∀(pins:List (Addr×Obj)) (s:Shared) (σ:St) (H:Hp) (o i v:V) (ov iv u:Value) (Q:Hp→Prop),Inv X pins σ H s→RelV o ov→RelV i iv→RelV v u→t o i v H Q→
  wpAny (model X.prog X.w) X.A (setItem ov iv u) (fun _ s'=>∃H',Inv X pins σ H' s'∧Q H') X.xe s
abbrev TIp:=V→V→Hp→VK→Prop
def PIp (X:Cx)(op:Operator)(t:TIp):Prop :=
 ∀(pins:List (Addr×Obj)) (s:Shared) (σ:St) (H:Hp) (x y:V) (v u:Value) (Q:VK),Inv X pins σ H s→RelV x v→RelV y u→t x y H Q→
  wpAny (model X.prog X.w) X.A (inplaceOp op v u) (EP X pins σ Q) X.xe s
section
variable {X:Cx}{pos:Pos}
def gName (i:Nat):TG:=fun v σ H Q=>Q (σ.set i (some v)) H
theorem pg_name {i:Nat}{x:Str}(hN:X.N.Nodup)(hi:X.N[i]?=some x)(hx:Loc X.env.scope x)(hf:X.fn x=true∨X.env.scope.names.lookup x=some .local:=by first|exact .inl rfl|exact .inr rfl|assumption):PG X (.Name x pos) (gName i):=by
 intro pins s σ H v u Q I r h
 exact wpAny_assign_Name (store_ok I hN hi hx r (fun s' I'=>⟨_,H,I',h⟩) hf)
inductive gNil_ (vs:List V)(σ:St)(H:Hp)(Q:St→Hp→Prop):Prop where
 |mk:(vs=[])→(Q σ H)→gNil_ vs σ H Q
def gNil:TGs:=gNil_
inductive gCons_ (t:TG)(u:TGs)(vs:List V)(σ:St)(H:Hp)(Q:St→Hp→Prop):Prop where
 |mk (v) (r):(vs=v::r)→(t v σ H fun σ' H'=>u r σ' H' Q)→gCons_ t u vs σ H Q
def gCons (t:TG)(u:TGs):TGs:=gCons_ t u
theorem pgs_nil:PGs X [] gNil:=by
 intro pins s σ H vs us Q I r h
 obtain⟨e,h⟩:=h
 subst e
 cases r
 exact assignInOrder_nil ⟨σ,H,I,h⟩
theorem pgs_cons {e:Expr}{es:List Expr}{t:TG}{u:TGs}(h1:PG X e t)(h2:PGs X es u)
  (hs:(assignEach (e::es) X.env).map (·.2)=assign e X.env::(assignEach es X.env).map (·.2):=by rfl):PGs X (e::es) (gCons t u):=by
 intro pins s σ H vs us Q I r h
 obtain⟨v,vr,e1,h⟩:=h
 subst e1
 cases r with
 |cons r rr=>
  rw[hs]
  refine assignInOrder_cons (thn (h1 pins s σ H _ _ _ I r h) fun _ s1 ⟨σ1,H1,I1,q1⟩=>?_)
  exact h2 pins s1 σ1 H1 _ _ Q I1 rr q1
inductive gTup_ (K:PySem.W.Frag)(n:Nat)(t:TGs)(v:V)(σ:St)(H:Hp)(Q:St→Hp→Prop):Prop where
 |mk (a) (xs):(v=.ref a)→(SqT K H a xs)→(xs.length=n)→(t xs σ H Q)→gTup_ K n t v σ H Q
def gTup (K:PySem.W.Frag)(n:Nat)(t:TGs):TG:=gTup_ K n t
theorem pg_tup {es:List Expr}{k:Nat}{t:TGs}{n:Nat}(hc:X.calm=true)(h:PGs X es t)
  (hn:(assignEach es X.env).length=n:=by rfl) (hst:(assignEach es X.env).findIdx? (·.1)=none:=by rfl):PG X (.Tuple es k pos) (gTup X.K n t):=by
 intro pins s σ H v u Q I r hw
 obtain⟨a,xs,e1,hq,hl,hw⟩:=hw
 subst e1
 cases r
 obtain⟨its,rv,ht,hz⟩:=I.tuple hq
 refine assign_Tuple_tuple (I.ok.hd hc) ht (by simp[hn,←hl,rv.length]) hst fun h' hx=>?_
 have I1:Inv X pins σ H {s with heap:=h'}:=I.kept (t':=s.toks) fun b o e=>hx b o (Nat.ne_of_lt (Heap.lt_size e)) e
 exact h pins _ σ H xs _ Q I1 (by simpa using rv) hw
def gSub (to ti:TE)(t:TSet):TG:=fun v σ H Q=>to σ H fun o H1=>ti σ H1 fun i H2=>t o i v H2 fun H3=>Q σ H3
theorem pg_sub {o i:Expr}{to ti:TE}{t:TSet}(ho:PE X o to)(hi:PE X i ti)(hs:PSet X t)
  (ha:∀v,assign (.Subscript o i pos) X.env v=(do
   let ov ←holding [v] (eval o X.env)
   let iv ←holding [v,ov] (eval i X.env)
   standAt pos
   holding [v,ov,iv] (setItem ov iv v)
   release [v,ov,iv] []):=by intro _;rfl):PG X (.Subscript o i pos) (gSub to ti t):=by
 intro pins s σ H v u Q I r h
 rw[ha]
 refine wpAny_bind (wpAny_holding (thn (ho pins s σ H _ I h) fun ov s1 ⟨x,H1,I1,r1,q1⟩=>?_))
 refine wpAny_bind (wpAny_holding (thn (hi pins s1 σ H1 _ I1 q1) fun iv s2 ⟨y,H2,I2,r2,q2⟩=>?_))
 refine wpAny_bind (wpAny_standAt (wpAny_bind (wpAny_holding (thn (hs pins s2 σ H2 x y v ov iv u _ I2 r1 r2 r q2) fun _ s3 ⟨H3,I3,q3⟩=>?_))))
 exact wpAny_release ⟨σ,H3,I3,q3⟩
def tAsg (te:TE)(g:TG):TS:=fun D σ H=>te σ H fun x H1=>g x σ H1 D.nx
theorem ps_asg {tg e:Expr}{te:TE}{g:TG}(he:PE X e te)(hg:PG X tg g)(hs:swapsWithSole [tg] e pos.line X.env=pure false:=by rfl)(hw:swappedStores [tg] e X.env=pure none:=by rfl)
  (h1:(assignEach [tg] X.env).map (·.2)=[assign tg X.env]:=by rfl):PS X (.Assign [tg] e pos) (tAsg te g):=by
 intro pins s σ H D I h
 refine wpAny_Assign_stores (thn (he pins s σ H _ I h) fun v s1 ⟨x,H1,I1,r1,q1⟩=>?_) hs hw
 rw[h1]
 exact thn (hg pins s1 σ H1 x v _ I1 r1 q1) fun _ s2 q=>q
theorem ps_set {i:Nat}{x:Str}{e:Expr}{te:TE}{pos':Pos}(hN:X.N.Nodup)(hi:X.N[i]?=some x)(hx:Loc X.env.scope x)(he:PE X e te)(hs:swapsWith e (some (.Name x pos')) pos.line X.env=pure false:=by rfl)(hf:X.fn x=true∨X.env.scope.names.lookup x=some .local:=by first|exact .inl rfl|exact .inr rfl|assumption):
  PS X (.Assign [.Name x pos'] e pos) (tAsg te (gName i)):=by
 intro pins s σ H D I h
 refine wpAny_Assign_Name (thn (he pins s σ H _ I h) fun v s1 ⟨y,H1,I1,r1,q1⟩=>?_) hs
 exact store_ok I1 hN hi hx r1 (fun s2 I2=>⟨_,H1,I2,q1⟩) hf
inductive tPar_ (i:Nat)(j:Nat)(D:Ends)(σ:St)(vs:List V)(H1:Hp):Prop where
 |mk (v) (w):(vs=[v,w])→(D.nx ((σ.set i (some v)).set j (some w)) H1)→tPar_ i j D σ vs H1
def tAug (i:Nat)(te:TE)(ti:TIp):TS:=fun D σ H=>∃x,σ[i]?=some (some x)∧te σ H fun y H1=>ti x y H1 fun z H2=>D.nx (σ.set i (some z)) H2
theorem ps_aug {i:Nat}{x:Str}{e:Expr}{te:TE}{op:Operator}{ti:TIp}{pos':Pos}(hN:X.N.Nodup)(hi:X.N[i]?=some x)(hx:Loc X.env.scope x)(he:PE X e te)(ho:PIp X op ti)(hf:X.fn x=true∨X.env.scope.names.lookup x=some .local:=by first|exact .inl rfl|exact .inr rfl|assumption):
  PS X (.AugAssign (.Name x pos') op e pos) (tAug i te ti):=by
 intro pins s σ H D I h
 obtain⟨v,e1,h⟩:=h
 obtain⟨m,hn,hl⟩:=I.loc
 have vis:Vis X.env.scope x:=by rcases hx with k|k;exact .inl k;exact .inr (.inl k)
 obtain⟨u,r,l⟩:=hl i x v hi e1 vis
 refine wpAny_AugAssign_Name ?_
 have go:wpAny (model X.prog X.w) X.A (eval e X.env) (fun w s₂=>wpAny (model X.prog X.w) X.A (inplaceOp op u w) (fun r s₃=>wpAny (model X.prog X.w) X.A (storeName X.env x r) (fun _=>SP X pins D .next) X.xe s₃) X.xe s₂) X.xe s:=by
  refine thn (he pins s σ H _ I h) fun w s1 ⟨y,H1,I1,r1,q1⟩=>?_
  refine thn (ho pins s1 σ H1 v y u w _ I1 r r1 q1) fun z s2 ⟨zv,H2,I2,r2,q2⟩=>?_
  exact store_ok I2 hN hi hx r2 (fun s3 I3=>⟨_,H2,I3,q2⟩) hf
 rcases l with ⟨hk,hm⟩|⟨hk,c,hc,hcell⟩
 ·exact wpAny_loadName_local I.ok.kind hk hn hm go
 ·rcases hk with hk|hk
  ·exact wpAny_loadName_cell I.ok.kind hk hc hcell go
  ·rcases hx with k|k
   ·have:X.env.scope.names.lookup x=some .free:=hk
    rw[k]at this;cases this
   ·have:X.env.scope.names.lookup x=some .free:=hk
    rw[k]at this;cases this
def tAugS (to ti te:TE)(tget:V→V→Hp→VK→Prop)(tip:TIp)(tset:TSet):TS:=fun D σ H=>to σ H fun o H1=>ti σ H1 fun i H2=>tget o i H2 fun x H3=>te σ H3 fun y H4=>tip x y H4 fun z H5=>tset o i z H5 fun H6=>D.nx σ H6
def PGet (X:Cx)(t:V→V→Hp→VK→Prop):Prop :=
 ∀(pins:List (Addr×Obj)) (s:Shared) (σ:St) (H:Hp) (o i:V) (ov iv:Value) (Q:VK),Inv X pins σ H s→RelV o ov→RelV i iv→t o i H Q→
  wpAny (model X.prog X.w) X.A (getItem ov iv) (EP X pins σ Q) X.xe s
theorem ps_augS {o i e:Expr}{to ti te:TE}{tget:V→V→Hp→VK→Prop}{tip:TIp}{tset:TSet}{op:Operator}{tpos:Pos}(ho:PE X o to)(hi:PE X i ti)(hg:PGet X tget)(he:PE X e te)(hp:PIp X op tip)(hs:PSet X tset)
  (ha:∀ov iv new,augStore i ov iv new=(do holding [new,ov,iv] (setItem ov iv new);release [new,ov,iv] [];pure .next):=by intros;rfl):PS X (.AugAssign (.Subscript o i tpos) op e pos) (tAugS to ti te tget tip tset):=by
 intro pins s σ H D I h
 refine wpAny_AugAssign_SubscriptAny (thn (ho pins s σ H _ I h) fun ov s1 ⟨x1,H1,I1,r1,q1⟩=>?_) ha
 refine thn (hi pins s1 σ H1 _ I1 q1) fun iv s2 ⟨x2,H2,I2,r2,q2⟩=>?_
 refine thn (hg pins s2 σ H2 x1 x2 ov iv _ I2 r1 r2 q2) fun old s3 ⟨x3,H3,I3,r3,q3⟩=>?_
 refine thn (he pins s3 σ H3 _ I3 q3) fun v s4 ⟨x4,H4,I4,r4,q4⟩=>?_
 refine thn (hp pins s4 σ H4 x3 x4 old v _ I4 r3 r4 q4) fun new s5 ⟨x5,H5,I5,r5,q5⟩=>?_
 exact thn (hs pins s5 σ H5 x1 x2 x5 ov iv new _ I5 r1 r2 r5 q5) fun _ s6 ⟨H6,I6,q6⟩=>⟨σ,H6,I6,q6⟩
def ipI (f:Int→Int→Int):TIp:=fun x y H Q=>∃i j,x=.int i∧y=.int j∧Q (.int (f i j)) H
theorem ip_sub:PIp X .Sub (ipI fun i j=>i-j):=by
 intro pins s σ H x y v u Q I r1 r2 h
 obtain⟨i,j,e1,e2,q⟩:=h
 subst e1;subst e2
 obtain⟨t,rfl⟩:=r1
 obtain⟨t',rfl⟩:=r2
 exact isub_int ⟨.int _,H,I.tok _,⟨_,rfl⟩,q⟩
end
section
variable {X:Cx}{pos:Pos}
def tWhile (c:TT)(tb:TS):TS:=fun D σ H=>∃W:Nat→St→Hp→Prop,(∃m,W m σ H)∧∀m σ H,W m σ H→
 c σ H fun b H1=>if b=true then ∃N:St→Hp→Prop,(∀σ' H',N σ' H'→∃m',m'<m∧W m' σ' H')∧tb (D.lp N) σ H1 else D.nx σ H1
theorem ps_while {c:Expr}{body:List Stmt}{tc:TT}{tb:TS}(hp:PassesOwn (model X.prog X.w) X.A X.env X.xe)(hc:PT X c tc)(hb:PSs X body tb):PS X (.While c body [] pos) (tWhile tc tb):=by
 intro pins s σ H D I h
 obtain⟨W,⟨m0,w0⟩,turn⟩:=h
 refine wpAny_While (codeAny_whileLoop (fun n s'=>∃σ' H',Inv X pins σ' H' s'∧W n σ' H') ?_ m0 ⟨σ,H,I,w0⟩)
 rintro n s1 ⟨σ1,H1,I1,w1⟩
 refine wpAny_passesOwn hp (thn (hc pins s1 σ1 H1 _ I1 (turn n σ1 H1 w1)) fun b s2 ⟨H2,I2,q2⟩=>?_)
 cases b with
 |true=>
  obtain⟨N,hN,q2⟩:=q2
  rw[if_pos rfl]
  refine wpAny_passesOwn hp (thn (hb pins s2 σ1 H2 _ I2 q2) fun f s3 q3=>?_)
  cases f with
  |next=>
   obtain⟨σ3,H3,I3,n3⟩:=q3
   obtain⟨m',hm,w3⟩:=hN σ3 H3 n3
   exact⟨m',hm,σ3,H3,I3,w3⟩
  |cont=>
   obtain⟨σ3,H3,I3,n3⟩:=q3
   obtain⟨m',hm,w3⟩:=hN σ3 H3 n3
   exact⟨m',hm,σ3,H3,I3,w3⟩
  |brk=>exact q3
  |ret v=>exact q3
 |false=>
  rw[if_neg Bool.false_ne_true]
  exact wpAny_execs_nil ⟨σ1,H2,I2,q2⟩
end
structure It where
 go:Nat→Hp→Prop
 yld:Nat→Hp→V→Hp→Prop
 stop:Nat→Hp→Prop
def FpOk (X:Cx)(pins:List (Addr×Obj))(H:Hp)(b:Addr):Prop :=
 H b=none∧b≠X.env.locals∧b∉X.fs∧(b∈X.ex∨X.s₀.heap.objs.size≤b)∧(∀x c,X.env.cells.lookup x=some c→c≠b)∧∀p∈X.pn++pins,p.1≠b
theorem Inv.fpOk {X:Cx}{pins:List (Addr×Obj)}{σ:St}{H H':Hp}{s:Shared}{b:Addr}(I:Inv X pins σ H s)(hb:s.heap.objs.size≤b)(hn:H' b=none):FpOk X pins H' b:=by
 refine⟨hn,Nat.ne_of_gt (Nat.lt_of_lt_of_le I.lt hb),I.nofs hb, .inr (Nat.le_trans I.sz hb),fun x c e z=>?_,fun p hp z=>?_⟩
 ·obtain⟨v,q⟩:=I.cell x c e
  exact absurd (Nat.lt_of_lt_of_le q.lt (by rw[z];exact hb)) (Nat.lt_irrefl _)
 ·exact absurd (Nat.lt_of_lt_of_le (Heap.lt_size (I.pin p hp).1) (by rw[z];exact hb)) (Nat.lt_irrefl _)
abbrev Calm:Cx→Prop:=fun X=>X.calm=true
structure TurnQ (qt:Cx→Prop)(P:Program)(w:World)(K:PySem.W.Frag)(tg:Expr)(J:It)(fp:List Addr)(it:Addr)(tn:Nat→Heap→Prop):Prop where
 mem:it∈fp
 obj:∀i h,tn i h→∀b∈fp,∃o,h.get? b=some o∧∀v,o.data≠.cell v
 keep:∀i h h',tn i h→(∀b∈fp,∀o,h.get? b=some o→h'.get? b=some o)→tn i h'
 item:∀(X:Cx),X.prog=P→X.w=w→X.K=K→qt X→∀(i:Nat) (pins:List (Addr×Obj)) (s:Shared) (σ:St) (H:Hp) (E:Value→Shared→Prop),Inv X pins σ H s→(∀b∈fp,FpOk X pins H b)→tn i s.heap→J.go i H→
  wpAny (model P w) X.A (pyNext (.ref it)) (fun r s1=>∃u,r=some u∧
   wpAny (model P w) X.A (letOwnedTupleGo tg (.ref it) u) (fun _ s2=>∃x H',Inv X pins σ H' s2∧RelV x u∧J.yld i H x H'∧tn (i+1) s2.heap∧∀b∈fp,H' b=none) E s1) E s
 done:∀(X:Cx),X.prog=P→X.w=w→X.K=K→qt X→∀(i:Nat) (pins:List (Addr×Obj)) (s:Shared) (σ:St) (H:Hp) (E:Value→Shared→Prop),Inv X pins σ H s→(∀b∈fp,FpOk X pins H b)→tn i s.heap→J.stop i H→
  wpAny (model P w) X.A (pyNext (.ref it)) (fun r s1=>r=none∧Inv X pins σ H s1) E s
 self:∀(A:Around) (i:Nat) (s:Shared) (Q:Value→Shared→Prop) (E:Value→Shared→Prop),tn i s.heap→Q (.ref it) s→wpAny (model P w) A (pyIter (.ref it)) Q E s
abbrev Turn:=TurnQ Calm
abbrev TI:=St→Hp→(It→Hp→Prop)→Prop
def PIEQ (qt:Cx→Prop)(X:Cx)(pins:List (Addr×Obj))(σ:St)(tg:Expr)(R:It→Hp→Prop)(itv:Value)(s2:Shared):Prop :=
 ∃(it:Addr) (fp:List Addr) (tn:Nat→Heap→Prop) (J:It) (H':Hp),itv=.ref it∧Inv X pins σ H' s2∧TurnQ qt X.prog X.w X.K tg J fp it tn∧tn 0 s2.heap∧(∀b∈fp,FpOk X pins H' b)∧R J H'
abbrev PIE:=PIEQ Calm
def PIQ (qt:Cx→Prop)(X:Cx)(tg iter:Expr)(wi:TI):Prop :=
 ∀(pins:List (Addr×Obj)) (s:Shared) (σ:St) (H:Hp) (R:It→Hp→Prop),Inv X pins σ H s→wi σ H R→
  wpAny (model X.prog X.w) X.A (eval iter X.env) (fun v s1=>wpAny (model X.prog X.w) X.A (pyIter v) (PIEQ qt X pins σ tg R) X.xe s1) X.xe s
abbrev PI:=PIQ Calm
theorem go_of {M:Model}{A:Around}{E:Value→Shared→Prop}{s:Shared}{tg:Expr}{it:Addr}{u:Value}{o:Obj}{n:String}{vs:Array Value}{Q:Unit→Shared→Prop}(ho:s.heap.get? it=some o)(hc:o.cls=.type n)(hd:o.data=.fields vs)
  (hn:["enumerate","zip","dict_itemiterator","dict_reverseitemiterator","odict_iterator","itertools.zip_longest","itertools.pairwise"].contains n=false) (hQ:Q () s):wpAny M A (letOwnedTupleGo tg (.ref it) u) Q E s:=by
 unfold letOwnedTupleGo
 cases tg<;>first
  |exact wpAny_pure hQ
  |(cases u<;>first
    |exact wpAny_pure hQ
    |(refine wpAny_bind (wpAny_load ho ?_)
      rw[hc,hd]
      show wpAny M A (if(["enumerate","zip","dict_itemiterator","dict_reverseitemiterator","odict_iterator","itertools.zip_longest","itertools.pairwise"].contains n&&vs[0]?==some (rawInt _))=true then _ else _) Q E s
      rw[if_neg (by intro h;rw[hn,Bool.false_and]at h;cases h)]
      exact wpAny_pure hQ))
def Itl (K:PySem.W.Frag)(a:Addr):It :=
 ⟨fun i H=>∃xs x,SqL K H a xs∧xs[i]?=some x,fun i H x H'=>H'=H∧∀xs,SqL K H a xs→xs[i]?=some x,fun i H=>∃xs,SqL K H a xs∧xs.length≤i⟩
def Itt (K:PySem.W.Frag)(a:Addr):It :=
 ⟨fun i H=>∃xs x,SqT K H a xs∧xs[i]?=some x,fun i H x H'=>H'=H∧∀xs,SqT K H a xs→xs[i]?=some x,fun i H=>∃xs,SqT K H a xs∧xs.length≤i⟩
def Itr (lo:Int)(n:Nat):It:=⟨fun i _=>i<n,fun i H x H'=>H'=H∧x=.int (lo+i),fun i _=>n≤i⟩
theorem turn_list {P:Program}{w:World}{K:PySem.W.Frag}{tg:Expr}(a it:Addr):Turn P w K tg (Itl K a) [it] it (fun i h=>h.IsListIter it a i) where
 mem:=by simp
 obj:=fun i h st b hb=>by
  have e:b=it:=by simpa using hb
  subst e
  obtain⟨o,e,c,d⟩:=st
  exact⟨o,e,fun v z=>by rw[d]at z;cases z⟩
 keep:=fun i h h' st k=>st.at fun o e=>k it (by simp) o e
 item:=by
  intro X hP hw hK hc i pins s σ H E I hf st hg
  subst hP hw hK
  obtain⟨xs,x,hq,hx⟩:=hg
  obtain⟨its,rv,p,hz⟩:=I.list hq
  obtain⟨u,hu,ru⟩:=rv.get hx
  obtain⟨f0,f1,f2,f3,f4,f5⟩:=hf it (by simp)
  refine wpAny_pyNext_list_item st p.isList (x:=u) (by simpa using hu) fun h' st' sb=>?_
  have I1:Inv X pins σ H {s with heap:=h'}:=I.turned (t':=s.toks) (fun b o hb e=>(sb.2 b hb).trans e) f0 f1 f3 f4 f5
  obtain⟨o,e,c,d⟩:=id st'
  exact⟨u,rfl,go_of (s:={s with heap:=h'}) e c d (by decide) ⟨x,H,I1,ru,⟨rfl,fun ys hy=>by rw[I.list_inj hy hq];exact hx⟩,st',fun b hb=>(hf b hb).1⟩⟩
 done:=by
  intro X hP hw hK hc i pins s σ H E I hf st hg
  subst hP hw hK
  obtain⟨xs,hq,hx⟩:=hg
  obtain⟨its,rv,p,hz⟩:=I.list hq
  obtain⟨f0,f1,f2,f3,f4,f5⟩:=hf it (by simp)
  have hl:=rv.length
  exact wpAny_pyNext_list_end (I.ok.hd hc) st p.isList (by simp;exact Nat.le_trans (Nat.le_of_eq hl.symm) hx) fun h' eb=>⟨rfl,I.turned (t':=s.toks) (fun b o hb e=>eb b o hb e) f0 f1 f3 f4 f5⟩
 self:=fun _ _ _ _ _ st h=>wpAny_pyIter_listiter st h
theorem turn_tuple {P:Program}{w:World}{K:PySem.W.Frag}{tg:Expr}(a it:Addr):Turn P w K tg (Itt K a) [it] it (fun i h=>h.IsTupleIter it a i) where
 mem:=by simp
 obj:=fun i h st b hb=>by
  have e:b=it:=by simpa using hb
  subst e
  obtain⟨o,e,c,d⟩:=st
  exact⟨o,e,fun v z=>by rw[d]at z;cases z⟩
 keep:=fun i h h' st k=>st.at fun o e=>k it (by simp) o e
 item:=by
  intro X hP hw hK hc i pins s σ H E I hf st hg
  subst hP hw hK
  obtain⟨xs,x,hq,hx⟩:=hg
  obtain⟨its,rv,p,hz⟩:=I.tuple hq
  obtain⟨u,hu,ru⟩:=rv.get hx
  obtain⟨f0,f1,f2,f3,f4,f5⟩:=hf it (by simp)
  refine wpAny_pyNext_tuple_item st (show s.heap.IsTuple a its.toArray from p) (x:=u) (by simpa using hu) fun h' st' sb=>?_
  have I1:Inv X pins σ H {s with heap:=h'}:=I.turned (t':=s.toks) (fun b o hb e=>(sb.2 b hb).trans e) f0 f1 f3 f4 f5
  obtain⟨o,e,c,d⟩:=id st'
  exact⟨u,rfl,go_of (s:={s with heap:=h'}) e c d (by decide) ⟨x,H,I1,ru,⟨rfl,fun ys hy=>by rw[I.tuple_inj hy hq];exact hx⟩,st',fun b hb=>(hf b hb).1⟩⟩
 done:=by
  intro X hP hw hK hc i pins s σ H E I hf st hg
  subst hP hw hK
  obtain⟨xs,hq,hx⟩:=hg
  obtain⟨its,rv,p,hz⟩:=I.tuple hq
  obtain⟨f0,f1,f2,f3,f4,f5⟩:=hf it (by simp)
  have hl:=rv.length
  exact wpAny_pyNext_tuple_end (I.ok.hd hc) st (show s.heap.IsTuple a its.toArray from p) (by simp;exact Nat.le_trans (Nat.le_of_eq hl.symm) hx) fun h' eb=>⟨rfl,I.turned (t':=s.toks) (fun b o hb e=>eb b o hb e) f0 f1 f3 f4 f5⟩
 self:=fun _ _ _ _ _ st h=>wpAny_pyIter_tupleiter st h
theorem turn_range {P:Program}{w:World}{K:PySem.W.Frag}{tg:Expr}(it:Addr)(lo:Int)(n:Nat):Turn P w K tg (Itr lo n) [it] it (fun i h=>IsRangeIter h it (lo+(i:Nat)*1) ((n:Int)-(i:Nat)) 1) where
 mem:=by simp
 obj:=fun i h st b hb=>by
  have e:b=it:=by simpa using hb
  subst e
  exact⟨_,st,fun v z=>by
   have z':Data.fields _=Data.cell v:=z
   cases z'⟩
 keep:=fun i h h' st k=>k it (by simp) _ st
 item:=by
  intro X hP hw hK hc i pins s σ H E I hf st hg
  subst hP hw hK
  obtain⟨f0,f1,f2,f3,f4,f5⟩:=hf it (by simp)
  have W:=Walks.range (prog:=X.prog) (w:=X.w) (I.ok.hd hc) it lo 1 n
  refine W.item i s _ _ hg st fun v h' tk hv st' kk=>?_
  obtain⟨t,rfl⟩:=hv
  have I1:Inv X pins σ H {s with heap:=h',toks:=tk}:=I.turned (fun b o hb e=>kk b o (by simpa using hb) e) f0 f1 f3 f4 f5
  refine⟨_,rfl,go_of (s:={s with heap:=h',toks:=tk}) (n:="range_iterator") st' rfl rfl (by decide) ⟨.int (lo+i),H,I1,⟨t,?_⟩,⟨rfl,rfl⟩,st',fun b hb=>(hf b hb).1⟩⟩
  rw[Int.mul_one]
 done:=by
  intro X hP hw hK hc i pins s σ H E I hf st hg
  subst hP hw hK
  obtain⟨f0,f1,f2,f3,f4,f5⟩:=hf it (by simp)
  exact wpAny_pyNext_range_end (I.ok.hd hc) st (by have:n≤i:=hg;omega) fun h' eb=>⟨rfl,I.turned (t':=s.toks) (fun b o hb e=>eb b o hb e) f0 f1 f3 f4 f5⟩
 self:=fun _ _ _ _ _ st h=>wpAny_pyIter_rangeiter st h
section
variable {X:Cx}{tg:Expr}
inductive iList_ (K:PySem.W.Frag)(R:It→Hp→Prop)(x:V)(H1:Hp):Prop where
 |mk (a):(x=.ref a)→((∃xs,SqL K H1 a xs))→(R (Itl K a) H1)→iList_ K R x H1
def iList (K:PySem.W.Frag)(tl:TE):TI:=fun σ H R=>tl σ H (iList_ K R)
inductive iTup_ (K:PySem.W.Frag)(R:It→Hp→Prop)(x:V)(H1:Hp):Prop where
 |mk (a):(x=.ref a)→((∃xs,SqT K H1 a xs))→(R (Itt K a) H1)→iTup_ K R x H1
def iTup (K:PySem.W.Frag)(tl:TE):TI:=fun σ H R=>tl σ H (iTup_ K R)
theorem pi_list {l:Expr}{tl:TE}(hl:PE X l tl):PI X tg l (iList X.K tl):=by
 intro pins s σ H R I h
 refine thn (hl pins s σ H _ I h) fun v s1 ⟨x,H1,I1,r1,q1⟩=>?_
 obtain⟨a,e,⟨xs,hq⟩,q⟩:=q1
 subst e
 cases r1
 obtain⟨its,rv,p,hz⟩:=I1.list hq
 refine wpAny_pyIter_list p.isList ?_
 refine⟨s1.heap.objs.size,[s1.heap.objs.size],_,_,H1,rfl,I1.kept (t':=s1.toks) fun b o e=>Heap.get?_push_of_some _ e,turn_list a _,⟨_,Heap.get?_push_size _ rfl,rfl,rfl⟩,fun b hb=>?_,q⟩
 have e:b=s1.heap.objs.size:=by simpa using hb
 subst e
 exact I1.fpOk (Nat.le_refl _) (I1.hok.fresh (Nat.le_refl _))
theorem pi_tup {l:Expr}{tl:TE}(hl:PE X l tl):PI X tg l (iTup X.K tl):=by
 intro pins s σ H R I h
 refine thn (hl pins s σ H _ I h) fun v s1 ⟨x,H1,I1,r1,q1⟩=>?_
 obtain⟨a,e,⟨xs,hq⟩,q⟩:=q1
 subst e
 cases r1
 obtain⟨its,rv,p,hz⟩:=I1.tuple hq
 refine wpAny_pyIter_tuple (show s1.heap.IsTuple a its.toArray from p) ?_
 refine⟨s1.heap.objs.size,[s1.heap.objs.size],_,_,H1,rfl,I1.kept (t':=s1.toks) fun b o e=>Heap.get?_push_of_some _ e,turn_tuple a _,⟨_,Heap.get?_push_size _ rfl,rfl,rfl⟩,fun b hb=>?_,q⟩
 have e:b=s1.heap.objs.size:=by simpa using hb
 subst e
 exact I1.fpOk (Nat.le_refl _) (I1.hok.fresh (Nat.le_refl _))
theorem range_it {pins:List (Addr×Obj)}{σ:St}{H:Hp}{s:Shared}{R:It→Hp→Prop}{E:Value→Shared→Prop}{lo hi:Int}{t u v:Tok}{tk:Nat}(I:Inv X pins σ H s)(h1: -(2^62)≤lo)(h2:lo<2^62)(h3: -(2^62)≤hi)(h4:hi<2^62)
  (q:R (Itr lo (hi-lo).toNat) H):wpAny (model X.prog X.w) X.A (pyIter (.ref s.heap.objs.size)) (PIE X pins σ tg R) E {s with heap:=s.heap.push {cls:=.type "range",data:=.fields #[.int lo t, .int hi u, .int 1 v]},toks:=tk}:=by
 refine wpAny_pyIter_range (IsRange.new ..) (small_one h1 h2 h3 h4) ?_
 have I1:Inv X pins σ H {s with heap:=s.heap.push {cls:=.type "range",data:=.fields #[.int lo t, .int hi u, .int 1 v]},toks:=tk}:=I.kept fun b o e=>Heap.get?_push_of_some _ e
 refine⟨(s.heap.push {cls:=.type "range",data:=.fields #[.int lo t, .int hi u, .int 1 v]}).objs.size,[(s.heap.push {cls:=.type "range",data:=.fields #[.int lo t, .int hi u, .int 1 v]}).objs.size],_,_,H,rfl,
  I1.kept (t':=tk) fun b o e=>Heap.get?_push_of_some _ e,turn_range _ lo (hi-lo).toNat,?_,fun b hb=>?_,q⟩
 ·have e1:lo+((0:Nat):Int)*1=lo:=by simp
  have e2:(((hi-lo).toNat:Nat):Int)-((0:Nat):Int)=Builtin.Range.rangeSize lo hi 1:=by rw[rangeSize_one];split<;>omega
  show IsRangeIter _ _ (lo+((0:Nat):Int)*1) ((((hi-lo).toNat:Nat):Int)-((0:Nat):Int)) 1
  rw[e1,e2]
  exact Heap.get?_push_size _ rfl
 ·have e:b=(s.heap.push {cls:=.type "range",data:=.fields #[.int lo t, .int hi u, .int 1 v]}).objs.size:=by simpa using hb
  subst e
  exact I1.fpOk (Nat.le_refl _) (I1.hok.fresh (Nat.le_refl _))
inductive iRng1_ (R:It→Hp→Prop)(vs:List V)(H1:Hp):Prop where
 |mk (j:Int):(vs=[.int j])→(-(2^62)≤j)→(j<2^62)→(R (Itr 0 j.toNat) H1)→iRng1_ R vs H1
def iRng1 (ta:TA):TI:=fun σ H R=>ta σ H (iRng1_ R)
theorem pi_range1 {a:Expr}{ta:TA}{p pos:Pos}(hg:Gl X "range")(hm:X.mg "range"=none)(ha:PA X [a] ta)(hs:starEach [a] X.env=[(false,eval a X.env)]:=by rfl):PI X tg (.Call (.Name "range" p) [a] [] pos) (iRng1 ta):=by
 intro pins s σ H R I h
 refine Call_ (ld_blt I hg hm boot_range (PyProof.Rows.callWith_type1 (thn (ha pos pins s σ H _ I h) fun us s1 ⟨vs,H1,I1,r1,q1⟩=>?_) hs rfl))
 obtain⟨j,e,q1,q2,q⟩:=q1
 subst e
 cases r1 with
 |cons r rr=>
  cases rr
  obtain⟨t,rfl⟩:=r
  exact call_range_1 (range_it I1 (by omega) (by omega) q1 q2 (by simpa using q))
def tFor (wi:TI)(g:TG)(tb:TS):TS:=fun D σ H=>wi σ H fun J H1=>∃W:Nat→Nat→St→Hp→Prop,(∃m,W 0 m σ H1)∧∀i m σ H,W i m σ H→
 (J.stop i H∧D.nx σ H)∨(J.go i H∧∃N:St→Hp→Prop,(∀σ' H',N σ' H'→∃m',m'<m∧W (i+1) m' σ' H')∧∀x H',J.yld i H x H'→g x σ H' fun σ2 H2=>tb (D.lp N) σ2 H2)
def pinsAt (fp:List Addr)(h:Heap):List (Addr×Obj):=fp.filterMap fun b=>(h.get? b).map fun o=>(b,o)
theorem mem_pinsAt {fp:List Addr}{h:Heap}{b:Addr}{o:Obj}(hb:b∈fp)(e:h.get? b=some o):(b,o)∈pinsAt fp h:=List.mem_filterMap.mpr ⟨b,hb,by rw[e];rfl⟩
theorem of_pinsAt {fp:List Addr}{h:Heap}{p:Addr×Obj}(hp:p∈pinsAt fp h):p.1∈fp∧h.get? p.1=some p.2:=by
 obtain⟨b,hb,e⟩:=List.mem_filterMap.mp hp
 cases q:h.get? b with
 |none=>rw[q]at e;cases e
 |some o=>
  rw[q]at e
  have e':(b,o)=p:=Option.some.inj e
  subst e'
  exact⟨hb,q⟩
theorem Inv.pinned {pins:List (Addr×Obj)}{σ:St}{H:Hp}{s:Shared}{fp:List Addr}(I:Inv X pins σ H s)(hf:∀b∈fp,FpOk X pins H b)(ho:∀b∈fp,∃o,s.heap.get? b=some o∧∀v,o.data≠.cell v):Inv X (pins++pinsAt fp s.heap) σ H s :=
 I.pins_of fun p hp=>(List.mem_append.mp hp).elim (fun z=>I.pin p (List.mem_append_right _ z)) fun z=>by
  obtain⟨hb,e⟩:=of_pinsAt z
  obtain⟨f0,f1,f2,_⟩:=hf p.1 hb
  obtain⟨o,e',d⟩:=ho p.1 hb
  rw[e]at e';cases e'
  exact⟨e,f0,f1,f2,d⟩
theorem Inv.unpinned {pins pl:List (Addr×Obj)}{σ:St}{H:Hp}{s:Shared}(I:Inv X (pins++pl) σ H s):Inv X pins σ H s:=I.pins_of fun p hp=>I.pin p (List.mem_append_right _ (List.mem_append_left _ hp))
theorem ps_for {iter:Expr}{body:List Stmt}{wi:TI}{g:TG}{tb:TS}{pos:Pos}(hp:PassesOwn (model X.prog X.w) X.A X.env X.xe)(hc:X.calm=true)(hi:PI X tg iter wi)(hg:PG X tg g)(hb:PSs X body tb)
  (hs:∀x,foldedSetIterable iter X.env x=pure x:=by intro _;rfl):PS X (.For tg iter body [] pos) (tFor wi g tb):=by
 intro pins s σ H D I h
 refine wpAny_For (thn (hi pins s σ H _ I h) fun v s1 h1=>thn h1 fun itv s2 h2=>?_) hs
 obtain⟨it,fp,tn,J,H2,e,I2,T,st2,f2,W,⟨m0,w0⟩,turn⟩:=h2
 subst e
 have stat:∀{H':Hp},(∀b∈fp,H' b=none)→∀b∈fp,FpOk X pins H' b:=fun hn b hb=>⟨hn b hb,(f2 b hb).2⟩
 refine codeAny_forLoop_any (fun n s'=>∃i σ' H',Inv X pins σ' H' s'∧tn i s'.heap∧(∀b∈fp,H' b=none)∧W i n σ' H') ?_ m0 ⟨0,σ,H2,I2,st2,fun b hb=>(f2 b hb).1,w0⟩
 rintro n s3 ⟨i,σ3,H3,I3,st3,fr3,w3⟩
 rcases turn i n σ3 H3 w3 with ⟨stop,qn⟩|⟨go,N,hN,step⟩
 ·refine wpAny_passesOwn hp (thn (T.done X rfl rfl rfl hc i pins s3 σ3 H3 X.xe I3 (stat fr3) st3 stop) fun r s4 ⟨hr,I4⟩=>?_)
  subst hr
  exact wpAny_execs_nil ⟨σ3,H3,I4,qn⟩
 ·refine wpAny_passesOwn hp (thn (T.item X rfl rfl rfl hc i pins s3 σ3 H3 X.xe I3 (stat fr3) st3 go) fun r s4 ⟨u,hr,h4⟩=>?_)
  subst hr
  refine wpAny_passesOwn hp (thn h4 fun _ s5 ⟨x,H5,I5,r5,y5,st5,fr5⟩=>?_)
  have I5':=I5.pinned (stat fr5) (T.obj _ _ st5)
  refine wpAny_passesOwn hp (thn (hg _ s5 σ3 H5 x u _ I5' r5 (step x H5 y5)) fun _ s6 ⟨σ6,H6,I6,q6⟩=>?_)
  refine wpAny_passesOwn hp (thn (hb _ s6 σ6 H6 _ I6 q6) fun f s7 q7=>?_)
  have again:∀{σ7:St} {H7:Hp},Inv X (pins++pinsAt fp s5.heap) σ7 H7 s7→N σ7 H7→∃m,m<n∧∃i σ' H',Inv X pins σ' H' s7∧tn i s7.heap∧(∀b∈fp,H' b=none)∧W i m σ' H':=fun{σ7 H7} I7 n7=>by
   obtain⟨m',hm,w7⟩:=hN σ7 H7 n7
   refine⟨m',hm,i+1,σ7,H7,I7.unpinned,T.keep _ _ _ st5 fun b hb o e=>(I7.pin (b,o) (List.mem_append_right _ (List.mem_append_right _ (mem_pinsAt hb e)))).1,fun b hb=>?_,w7⟩
   obtain⟨o,e,d⟩:=T.obj _ _ st5 b hb
   exact(I7.pin (b,o) (List.mem_append_right _ (List.mem_append_right _ (mem_pinsAt hb e)))).2.1
  cases f with
  |next=>obtain⟨σ7,H7,I7,n7⟩:=q7;exact again I7 n7
  |cont=>obtain⟨σ7,H7,I7,n7⟩:=q7;exact again I7 n7
  |brk=>obtain⟨σ7,H7,I7,q7⟩:=q7;exact⟨σ7,H7,I7.unpinned,q7⟩
  |ret v=>obtain⟨x7,σ7,H7,I7,r7,q7⟩:=q7;exact⟨x7,σ7,H7,I7.unpinned,r7,q7⟩
end
theorem for_list {K:PySem.W.Frag}{a:Addr}{xs:List V}{g:TG}{tb:TS}{D:Ends}{σ:St}{H:Hp}(Pv:Nat→St→Hp→Prop)(h0:Pv 0 σ H)(hl:∀i σ H,i≤xs.length→Pv i σ H→SqL K H a xs)
  (hs:∀i x σ H,xs[i]?=some x→Pv i σ H→g x σ H fun σ2 H2=>tb (D.lp (Pv (i+1))) σ2 H2) (hd:∀σ H,Pv xs.length σ H→D.nx σ H):
  ∃W:Nat→Nat→St→Hp→Prop,(∃m,W 0 m σ H)∧∀i m σ H,W i m σ H→
   ((Itl K a).stop i H∧D.nx σ H)∨((Itl K a).go i H∧∃N:St→Hp→Prop,(∀σ' H',N σ' H'→∃m',m'<m∧W (i+1) m' σ' H')∧∀x H',(Itl K a).yld i H x H'→g x σ H' fun σ2 H2=>tb (D.lp N) σ2 H2):=by
 refine⟨fun i m σ H=>m=xs.length-i∧i≤xs.length∧Pv i σ H,⟨xs.length,by simp,Nat.zero_le _,h0⟩,?_⟩
 rintro i m σ H ⟨rfl,hi,p⟩
 have q:=hl i σ H hi p
 by_cases hlt:i<xs.length
 ·refine .inr ⟨⟨xs,xs[i],q,by simp[hlt]⟩,Pv (i+1),fun σ' H' p'=>⟨xs.length-(i+1),by omega,rfl,hlt,p'⟩,fun x H' y=>?_⟩
  obtain⟨e,y⟩:=y
  subst e
  exact hs i x σ _ (y xs q) p
 ·have e:i=xs.length:=by exact Nat.le_antisymm hi (Nat.not_lt.mp hlt)
  subst e
  exact .inl ⟨⟨xs,q,Nat.le_refl _⟩,hd σ H p⟩
theorem for_tup {K:PySem.W.Frag}{a:Addr}{xs:List V}{g:TG}{tb:TS}{D:Ends}{σ:St}{H:Hp}(Pv:Nat→St→Hp→Prop)(h0:Pv 0 σ H)(hl:∀i σ H,i≤xs.length→Pv i σ H→SqT K H a xs)
  (hs:∀i x σ H,xs[i]?=some x→Pv i σ H→g x σ H fun σ2 H2=>tb (D.lp (Pv (i+1))) σ2 H2) (hd:∀σ H,Pv xs.length σ H→D.nx σ H):
  ∃W:Nat→Nat→St→Hp→Prop,(∃m,W 0 m σ H)∧∀i m σ H,W i m σ H→
   ((Itt K a).stop i H∧D.nx σ H)∨((Itt K a).go i H∧∃N:St→Hp→Prop,(∀σ' H',N σ' H'→∃m',m'<m∧W (i+1) m' σ' H')∧∀x H',(Itt K a).yld i H x H'→g x σ H' fun σ2 H2=>tb (D.lp N) σ2 H2):=by
 refine⟨fun i m σ H=>m=xs.length-i∧i≤xs.length∧Pv i σ H,⟨xs.length,by simp,Nat.zero_le _,h0⟩,?_⟩
 rintro i m σ H ⟨rfl,hi,p⟩
 have q:=hl i σ H hi p
 by_cases hlt:i<xs.length
 ·refine .inr ⟨⟨xs,xs[i],q,by simp[hlt]⟩,Pv (i+1),fun σ' H' p'=>⟨xs.length-(i+1),by omega,rfl,hlt,p'⟩,fun x H' y=>?_⟩
  obtain⟨e,y⟩:=y
  subst e
  exact hs i x σ _ (y xs q) p
 ·have e:i=xs.length:=by exact Nat.le_antisymm hi (Nat.not_lt.mp hlt)
  subst e
  exact .inl ⟨⟨xs,q,Nat.le_refl _⟩,hd σ H p⟩
theorem for_range {lo:Int}{n:Nat}{g:TG}{tb:TS}{D:Ends}{σ:St}{H:Hp}(Pv:Nat→St→Hp→Prop)(h0:Pv 0 σ H)
  (hs:∀i σ H,i<n→Pv i σ H→g (.int (lo+i)) σ H fun σ2 H2=>tb (D.lp (Pv (i+1))) σ2 H2) (hd:∀σ H,Pv n σ H→D.nx σ H):
  ∃W:Nat→Nat→St→Hp→Prop,(∃m,W 0 m σ H)∧∀i m σ H,W i m σ H→
   ((Itr lo n).stop i H∧D.nx σ H)∨((Itr lo n).go i H∧∃N:St→Hp→Prop,(∀σ' H',N σ' H'→∃m',m'<m∧W (i+1) m' σ' H')∧∀x H',(Itr lo n).yld i H x H'→g x σ H' fun σ2 H2=>tb (D.lp N) σ2 H2):=by
 refine⟨fun i m σ H=>m=n-i∧i≤n∧Pv i σ H,⟨n,by simp,Nat.zero_le _,h0⟩,?_⟩
 rintro i m σ H ⟨rfl,hi,p⟩
 by_cases hlt:i<n
 ·refine .inr ⟨hlt,Pv (i+1),fun σ' H' p'=>⟨n-(i+1),by omega,rfl,hlt,p'⟩,fun x H' y=>?_⟩
  obtain⟨e,y⟩:=y
  subst e y
  exact hs i σ _ hlt p
 ·have e:i=n:=by exact Nat.le_antisymm hi (Nat.not_lt.mp hlt)
  subst e
  exact .inl ⟨Nat.le_refl _,hd σ H p⟩
abbrev R2:=V→V→Hp→VK→Prop
def OpR (X:Cx)(f:Value→Value→Sem Value)(r:R2):Prop :=
 ∀(pins:List (Addr×Obj)) (s:Shared) (σ:St) (H:Hp) (x y:V) (v u:Value) (Q:VK),Inv X pins σ H s→RelV x v→RelV y u→r x y H Q→
  wpAny (model X.prog X.w) X.A (f v u) (EP X pins σ Q) X.xe s
def UnR (X:Cx)(f:Value→Sem Value)(r:V→Hp→VK→Prop):Prop :=
 ∀(pins:List (Addr×Obj)) (s:Shared) (σ:St) (H:Hp) (x:V) (v:Value) (Q:VK),Inv X pins σ H s→RelV x v→r x H Q→
  wpAny (model X.prog X.w) X.A (f v) (EP X pins σ Q) X.xe s
def CallR (X:Cx)(f:Value)(r:List V→Hp→VK→Prop):Prop :=
 ∀(pins:List (Addr×Obj)) (s:Shared) (σ:St) (H:Hp) (xs:List V) (us:List Value) (Q:VK),Inv X pins σ H s→Vals xs us→r xs H Q→
  wpAny (model X.prog X.w) X.A (call f us) (EP X pins σ Q) X.xe s
def tOp (r:R2)(ta tb:TE):TE:=fun σ H Q=>ta σ H fun x H1=>tb σ H1 fun y H2=>r x y H2 Q
def tUn (r:V→Hp→VK→Prop)(ta:TE):TE:=fun σ H Q=>ta σ H fun x H1=>r x H1 Q
inductive rI_ (C:Int→Int→Prop)(g:Int→Int→V)(x:V)(y:V)(H:Hp)(Q:VK):Prop where
 |mk (i) (j):(x=.int i)→(y=.int j)→(C i j)→(Q (g i j) H)→rI_ C g x y H Q
def rI (C:Int→Int→Prop)(g:Int→Int→V):R2:=rI_ C g
inductive rI0_ (g:Int→Int→V)(x:V)(y:V)(H:Hp)(Q:VK):Prop where
 |mk (i) (j):(x=.int i)→(y=.int j)→(Q (g i j) H)→rI0_ g x y H Q
def rI0 (g:Int→Int→V):R2:=rI0_ g
def rU (g:Int→V):V→Hp→VK→Prop:=fun x H Q=>∃i,x=.int i∧Q (g i) H
section
variable {X:Cx}{a b c:Expr}{ta tb tc:TE}{pos:Pos}
theorem binT (ha:PE X a ta)(hb:PE X b tb){pins:List (Addr×Obj)}{s:Shared}{σ:St}{H:Hp}{R:V→V→Hp→Prop}(I:Inv X pins σ H s)
  (h:ta σ H fun x H1=>tb σ H1 fun y H2=>R x y H2) {Q:Value→Shared→Prop} {f:Value→Value→Sem Value}
  (hf:∀v u s2 x y H2,Inv X pins σ H2 s2→RelV x v→RelV y u→R x y H2→wpAny (model X.prog X.w) X.A (f v u) Q X.xe s2):
  wpAny (model X.prog X.w) X.A (eval a X.env) (fun v s₁=>wpAny (model X.prog X.w) X.A (eval b X.env) (fun u s₂=>wpAny (model X.prog X.w) X.A (f v u) Q X.xe s₂) X.xe s₁) X.xe s:=by
 refine thn (ha pins s σ H _ I h) fun v s1 ⟨x,H1,I1,r1,q1⟩=>?_
 refine thn (hb pins s1 σ H1 _ I1 q1) fun u s2 ⟨y,H2,I2,r2,q2⟩=>?_
 exact hf v u s2 x y H2 I2 r1 r2 q2
theorem pe_op {op:Operator}{r:R2}(ho:OpR X (binaryOp op) r)(ha:PE X a ta)(hb:PE X b tb):PE X (.BinOp a op b pos) (tOp r ta tb):=by
 intro pins s σ H Q I h
 exact wpAny_BinOp (binT ha hb I h fun v u s2 x y H2 I2 rx ry q=>ho pins s2 σ H2 x y v u Q I2 rx ry q)
theorem pe_un {op:UnaryOp}{r:V→Hp→VK→Prop}(ho:UnR X (unaryOp op) r)(ha:PE X a ta):PE X (.UnaryOp op a pos) (tUn r ta):=by
 intro pins s σ H Q I h
 exact UnaryOp_ (thn (ha pins s σ H _ I h) fun v s1 ⟨x,H1,I1,r1,q1⟩=>ho pins s1 σ H1 x v Q I1 r1 q1)
theorem opI {f:Value→Value→Sem Value}{C:Int→Int→Prop}{g:Int→Int→Int}
  (rule:∀(i j:Int) (t u:Tok) (s:Shared) (Q:Value→Shared→Prop) (E:Value→Shared→Prop),C i j→Q (.int (g i j) s.toks) {s with toks:=s.toks+1}→wpAny (model X.prog X.w) X.A (f (.int i t) (.int j u)) Q E s):
  OpR X f (rI C fun i j=>.int (g i j)):=by
 intro pins s σ H x y v u Q I rx ry h
 obtain⟨i,j,rfl,rfl,hc,q⟩:=h
 obtain⟨t,rfl⟩:=rx
 obtain⟨t',rfl⟩:=ry
 exact rule i j t t' s _ _ hc ⟨.int (g i j),H,I.tok _,⟨_,rfl⟩,q⟩
theorem opI0 {f:Value→Value→Sem Value}{g:Int→Int→Int}
  (rule:∀(i j:Int) (t u:Tok) (s:Shared) (Q:Value→Shared→Prop) (E:Value→Shared→Prop),Q (.int (g i j) s.toks) {s with toks:=s.toks+1}→wpAny (model X.prog X.w) X.A (f (.int i t) (.int j u)) Q E s):
  OpR X f (rI0 fun i j=>.int (g i j)):=by
 intro pins s σ H x y v u Q I rx ry h
 obtain⟨i,j,rfl,rfl,q⟩:=h
 obtain⟨t,rfl⟩:=rx
 obtain⟨t',rfl⟩:=ry
 exact rule i j t t' s _ _ ⟨.int (g i j),H,I.tok _,⟨_,rfl⟩,q⟩
theorem opB0 {f:Value→Value→Sem Value}{g:Int→Int→Bool}
  (rule:∀(i j:Int) (t u:Tok) (s:Shared) (Q:Value→Shared→Prop) (E:Value→Shared→Prop),Q (.bool (g i j)) s→wpAny (model X.prog X.w) X.A (f (.int i t) (.int j u)) Q E s):
  OpR X f (rI0 fun i j=>.bl (g i j)):=by
 intro pins s σ H x y v u Q I rx ry h
 obtain⟨i,j,rfl,rfl,q⟩:=h
 obtain⟨t,rfl⟩:=rx
 obtain⟨t',rfl⟩:=ry
 exact rule i j t t' s _ _ ⟨.bl (g i j),H,I,rfl,q⟩
def CDiv (i j:Int):Prop:=0<j∧j<1073741824
def CPow (i j:Int):Prop:=0≤j∧j≤1000000∧i.natAbs<2^64
def CMul (i j:Int):Prop:=(-(2^64)<i∧i<2^64)∨(-(2^64)<j∧j<2^64)
theorem CMul.ok {i j:Int}(h:CMul i j):IntMulOk i j:=by
 rcases h with ⟨h1,h2⟩|⟨h1,h2⟩
 ·exact .of_left (intBits_le_64 h1 h2)
 ·exact .of_right (intBits_le_64 h1 h2)
theorem op_add:OpR X (binaryOp .Add) (rI0 fun i j=>.int (i+j)):=opI0 fun _ _ _ _ _ _ _ q=>add_int q
theorem op_sub:OpR X (binaryOp .Sub) (rI0 fun i j=>.int (i-j)):=opI0 fun _ _ _ _ _ _ _ q=>sub_int q
theorem op_mul:OpR X (binaryOp .Mult) (rI CMul fun i j=>.int (i*j)):=opI fun _ _ _ _ _ _ _ hc q=>mul_int q hc.ok
theorem op_fdiv:OpR X (binaryOp .FloorDiv) (rI CDiv fun i j=>.int (i / j)):=opI fun i j _ _ _ _ _ hc q=>by
 have h1:(0:Int)<j:=hc.1
 have h2:j<1073741824:=hc.2
 exact floordiv_int (by omega) (by rw[Int.fdiv_eq_ediv_of_nonneg i (by omega)];exact q) (.inl (PyProof.noPylong_small (by omega)))
theorem op_mod:OpR X (binaryOp .Mod) (rI (fun _ j=>0<j) fun i j=>.int (i%j)):=opI fun i j _ _ _ _ _ hc q=>by
 have h1:(0:Int)<j:=hc
 exact mod_int' (by omega) (by rw[Int.fmod_eq_emod_of_nonneg i (by omega)];exact q)
theorem op_pow:OpR X (binaryOp .Pow) (rI CPow fun i j=>.int (i^j.toNat)):=opI fun _ _ _ _ _ _ _ hc q=>pow_int_small hc.1 hc.2.1 hc.2.2 q
theorem unI {f:Value→Sem Value}{g:Int→Int}
  (rule:∀(i:Int) (t:Tok) (s:Shared) (Q:Value→Shared→Prop) (E:Value→Shared→Prop),Q (.int (g i) s.toks) {s with toks:=s.toks+1}→wpAny (model X.prog X.w) X.A (f (.int i t)) Q E s):
  UnR X f (rU fun i=>.int (g i)):=by
 intro pins s σ H x v Q I rx h
 obtain⟨i,rfl,q⟩:=h
 obtain⟨t,rfl⟩:=rx
 exact rule i t s _ _ ⟨.int (g i),H,I.tok _,⟨_,rfl⟩,q⟩
theorem un_neg:UnR X (unaryOp .USub) (rU fun i=>.int (-i)):=unI fun _ _ _ _ _ q=>neg_int q
end
def scal:V→V→Bool
 |.non, .non=>true|.non, .int _=>true|.int _, .non=>true|.non, .bl _=>true|.bl _, .non=>true|.non, .str _=>true|.str _, .non=>true
 |.int _, .int _=>true|.bl _, .bl _=>true|.str _, .str _=>true|.byt _, .byt _=>true
 |.int _, .str _=>true|.str _, .int _=>true|.bl _, .str _=>true|.str _, .bl _=>true
 |_,_=>false
inductive rEq_ (x:V)(y:V)(H:Hp)(Q:VK):Prop where
 |mk:(scal x y=true)→(Q (.bl (decide (x=y))) H)→rEq_ x y H Q
def rEq:R2:=rEq_
inductive rNe_ (x:V)(y:V)(H:Hp)(Q:VK):Prop where
 |mk:(scal x y=true)→(Q (.bl (!decide (x=y))) H)→rNe_ x y H Q
def rNe:R2:=rNe_
theorem dec_int {i j:Int}:decide (V.int i=V.int j)=(i==j):=by
 rw[Bool.eq_iff_iff]
 simp
theorem dec_bl {i j:Bool}:decide (V.bl i=V.bl j)=(i==j):=by
 rw[Bool.eq_iff_iff]
 simp
theorem dec_str {i j:Str}:decide (V.str i=V.str j)=(i==j):=by
 rw[Bool.eq_iff_iff]
 simp
theorem dec_byt {i j:Array UInt8}:decide (V.byt i=V.byt j)=(i.toList==j.toList):=by
 rw[Bool.eq_iff_iff]
 cases i
 cases j
 simp
section
variable {X:Cx}{a b c:Expr}{ta tb tc:TE}{pos:Pos}
theorem fin_bl {pins:List (Addr×Obj)}{σ:St}{H:Hp}{s:Shared}{Q:VK}{k k':Bool}(I:Inv X pins σ H s)(q:Q (.bl k) H)(e:k=k'):EP X pins σ Q (.bool k') s:=by
 subst e
 exact⟨.bl k,H,I,rfl,q⟩
theorem op_eq:OpR X (compareOp .Eq) rEq:=by
 intro pins s σ H x y v u Q I rx ry h
 obtain⟨hs,q⟩:=h
 cases x with
 |non=>
  cases rx
  cases y with
  |non=>cases ry;exact PySem.EqNone.eq_none_none (fin_bl I q (by simp))
  |bl j=>cases ry;exact PySem.EqNone.eq_none_bool (fin_bl I q (by simp))
  |int j=>obtain⟨t',rfl⟩:=ry;exact PySem.EqNone.eq_none_int (fin_bl I q (by simp))
  |str j=>obtain⟨t',rfl⟩:=ry;exact PySem.EqNone.eq_none_str (fin_bl I q (by simp))
  |_=>exact absurd (show false=true from hs) Bool.false_ne_true
 |bl i=>
  cases rx
  cases y with
  |non=>cases ry;exact PySem.EqNone.eq_bool_none (fin_bl I q (by simp))
  |bl j=>cases ry;exact eq_bool (fin_bl I q dec_bl)
  |str j=>obtain⟨t',rfl⟩:=ry;exact PySem.EqMixed.eq_bool_str (fin_bl I q (by simp))
  |_=>exact absurd (show false=true from hs) Bool.false_ne_true
 |int i=>
  obtain⟨t,rfl⟩:=rx
  cases y with
  |non=>cases ry;exact PySem.EqNone.eq_int_none (fin_bl I q (by simp))
  |int j=>obtain⟨t',rfl⟩:=ry;exact eq_int (fin_bl I q dec_int)
  |str j=>obtain⟨t',rfl⟩:=ry;exact PySem.EqMixed.eq_int_str (fin_bl I q (by simp))
  |_=>exact absurd (show false=true from hs) Bool.false_ne_true
 |str i=>
  obtain⟨t,rfl⟩:=rx
  cases y with
  |non=>cases ry;exact PySem.EqNone.eq_str_none (fin_bl I q (by simp))
  |bl j=>cases ry;exact PySem.EqMixed.eq_str_bool (fin_bl I q (by simp))
  |int j=>obtain⟨t',rfl⟩:=ry;exact PySem.EqMixed.eq_str_int (fin_bl I q (by simp))
  |str j=>obtain⟨t',rfl⟩:=ry;exact eq_str (fin_bl I q dec_str)
  |_=>exact absurd (show false=true from hs) Bool.false_ne_true
 |byt i=>
  obtain⟨t,rfl⟩:=rx
  cases y with
  |byt j=>obtain⟨t',rfl⟩:=ry;exact PySem.W.eq_bytes (fin_bl I q dec_byt)
  |_=>exact absurd (show false=true from hs) Bool.false_ne_true
 |_=>cases y<;>exact absurd (show false=true from hs) Bool.false_ne_true
theorem op_ne:OpR X (compareOp .NotEq) rNe:=by
 intro pins s σ H x y v u Q I rx ry h
 obtain⟨hs,q⟩:=h
 cases x with
 |non=>
  cases rx
  cases y with
  |non=>cases ry;exact PySem.EqNone.ne_none_none (fin_bl I q (by simp))
  |bl j=>cases ry;exact PySem.EqNone.ne_none_bool (fin_bl I q (by simp))
  |int j=>obtain⟨t',rfl⟩:=ry;exact PySem.EqNone.ne_none_int (fin_bl I q (by simp))
  |str j=>obtain⟨t',rfl⟩:=ry;exact PySem.EqNone.ne_none_str (fin_bl I q (by simp))
  |_=>exact absurd (show false=true from hs) Bool.false_ne_true
 |bl i=>
  cases rx
  cases y with
  |non=>cases ry;exact PySem.EqNone.ne_bool_none (fin_bl I q (by simp))
  |bl j=>cases ry;exact ne_bool (fin_bl I q (congrArg not dec_bl))
  |str j=>obtain⟨t',rfl⟩:=ry;exact PySem.EqMixed.ne_bool_str (fin_bl I q (by simp))
  |_=>exact absurd (show false=true from hs) Bool.false_ne_true
 |int i=>
  obtain⟨t,rfl⟩:=rx
  cases y with
  |non=>cases ry;exact PySem.EqNone.ne_int_none (fin_bl I q (by simp))
  |int j=>obtain⟨t',rfl⟩:=ry;exact ne_int (fin_bl I q (congrArg not dec_int))
  |str j=>obtain⟨t',rfl⟩:=ry;exact PySem.EqMixed.ne_int_str (fin_bl I q (by simp))
  |_=>exact absurd (show false=true from hs) Bool.false_ne_true
 |str i=>
  obtain⟨t,rfl⟩:=rx
  cases y with
  |non=>cases ry;exact PySem.EqNone.ne_str_none (fin_bl I q (by simp))
  |bl j=>cases ry;exact PySem.EqMixed.ne_str_bool (fin_bl I q (by simp))
  |int j=>obtain⟨t',rfl⟩:=ry;exact PySem.EqMixed.ne_str_int (fin_bl I q (by simp))
  |str j=>obtain⟨t',rfl⟩:=ry;exact ne_str (fin_bl I q (congrArg not dec_str))
  |_=>exact absurd (show false=true from hs) Bool.false_ne_true
 |byt i=>
  obtain⟨t,rfl⟩:=rx
  cases y with
  |byt j=>obtain⟨t',rfl⟩:=ry;exact PySem.W.ne_bytes (fin_bl I q (congrArg not dec_byt))
  |_=>exact absurd (show false=true from hs) Bool.false_ne_true
 |_=>cases y<;>exact absurd (show false=true from hs) Bool.false_ne_true
theorem op_lt:OpR X (compareOp .Lt) (rI0 fun i j=>.bl (decide (i<j))):=opB0 fun _ _ _ _ _ _ _ q=>lt_int q
theorem op_le:OpR X (compareOp .LtE) (rI0 fun i j=>.bl (decide (i≤j))):=opB0 fun _ _ _ _ _ _ _ q=>le_int q
theorem op_gt:OpR X (compareOp .Gt) (rI0 fun i j=>.bl (decide (j<i))):=opB0 fun _ _ _ _ _ _ _ q=>gt_int q
theorem op_ge:OpR X (compareOp .GtE) (rI0 fun i j=>.bl (decide (j≤i))):=opB0 fun _ _ _ _ _ _ _ q=>ge_int q
theorem op_in_str:OpR X (compareOp .In) (fun x y H Q=>∃i j,x=.str i∧y=.str j∧Q (.bl (!(Builtin.Str.occurrences j i 0 j.length 1).isEmpty)) H):=by
 intro pins s σ H x y v u Q I rx ry h
 obtain⟨i,j,rfl,rfl,q⟩:=h
 obtain⟨t,rfl⟩:=rx
 obtain⟨t',rfl⟩:=ry
 exact in_str (fin_bl I q rfl)
theorem op_isN:OpR X (compareOp .Is) (fun x y H Q=>y=.non∧Q (.bl (decide (x=.non))) H):=by
 intro pins s σ H x y v u Q I rx ry h
 obtain⟨rfl,q⟩:=h
 cases ry
 refine is_none_gen (fin_bl I q ?_)
 cases x<;>first
  |(cases rx;rfl)
  |(obtain⟨t,rfl⟩:=rx;rfl)
theorem OpR.or {f:Value→Value→Sem Value}{r r':R2}(h:OpR X f r)(h':OpR X f r'):OpR X f (fun x y H Q=>r x y H Q∨r' x y H Q):=by
 intro pins s σ H x y v u Q I rx ry q
 rcases q with q|q
 ·exact h pins s σ H x y v u Q I rx ry q
 ·exact h' pins s σ H x y v u Q I rx ry q
theorem nomark (b:Expr){op:CmpOp}(h:op≠.In:=by decide)(h2:op≠.NotIn:=by decide):behindInMarks op b=false:=by
 have e1:(op==CmpOp.In)=false:=by cases op<;>first|rfl|exact absurd rfl h
 have e2:(op==CmpOp.NotIn)=false:=by cases op<;>first|rfl|exact absurd rfl h2
 cases b<;>simp[behindInMarks,e1,e2]
theorem pe_cmpR {op:CmpOp}{r:R2}(ho:OpR X (compareOp op) r)(ha:PE X a ta)(hb:PE X b tb)(hm:behindInMarks op b=false:=by exact nomark _):PE X (.Compare a [op] [b] pos) (tOp r ta tb):=by
 intro pins s σ H Q I h
 exact wpAny_Compare1 (binT ha hb I h fun v u s2 x y H2 I2 rx ry q=>ho pins s2 σ H2 x y v u Q I2 rx ry q) hm
inductive tTest_ (Q:Bool→Hp→Prop)(x:V)(H':Hp):Prop where
 |mk (k):(x=.bl k)→(Q k H')→tTest_ Q x H'
def tTest (t:TE):TT:=fun σ H Q=>t σ H (tTest_ Q)
theorem pt_cmpR {op:CmpOp}{r:R2}(ho:OpR X (compareOp op) r)(ha:PE X a ta)(hb:PE X b tb)(hm:behindInMarks op b=false:=by exact nomark _):PT X (.Compare a [op] [b] pos) (tTest (tOp r ta tb)):=by
 intro pins s σ H Q I h
 refine wpAny_isTrue_Compare1 (thn (ha pins s σ H _ I h) fun v s1 ⟨x,H1,I1,r1,q1⟩=>thn (hb pins s1 σ H1 _ I1 q1) fun u s2 ⟨y,H2,I2,r2,q2⟩=>
  thn (ho pins s2 σ H2 x y v u _ I2 r1 r2 q2) fun c s3 ⟨z,H3,I3,r3,k,e,q3⟩=>?_) hm
 subst e
 cases r3
 exact wpAny_truthy_bool ⟨H3,I3,q3⟩
def tChain (r r':R2)(ta tb tc:TE):TE:=fun σ H Q=>ta σ H fun x H1=>tb σ H1 fun y H2=>r x y H2 fun z H3=>∃k,z=.bl k∧
 (if k=true then tc σ H3 fun w' H4=>r' y w' H4 Q else Q (.bl false) H3)
theorem pe_chain {op op':CmpOp}{r r':R2}(ho:OpR X (compareOp op) r)(ho':OpR X (compareOp op') r')(ha:PE X a ta)(hb:PE X b tb)(hc:PE X c tc)
  (hm:lastMarks [op,op'] [b,c]=false:=by with_unfolding_all rfl):PE X (.Compare a [op,op'] [b,c] pos) (tChain r r' ta tb tc):=by
 intro pins s σ H Q I h
 refine Compare_chain (thn (ha pins s σ H _ I h) fun v s1 ⟨x,H1,I1,r1,q1⟩=>chain_link (thn (hb pins s1 σ H1 _ I1 q1) fun u s2 ⟨y,H2,I2,r2,q2⟩=>
  thn (ho pins s2 σ H2 x y v u _ I2 r1 r2 q2) fun d s3 ⟨z,H3,I3,r3,k,e,q3⟩=>?_)) hm
 subst e
 cases r3
 refine wpAny_truthy_bool ?_
 cases k with
 |false=>exact ite_ff ⟨.bl false,H3,I3,rfl,q3⟩
 |true=>exact ite_tt (chain_last (thn (hc pins s3 σ H3 _ I3 q3) fun w' s4 ⟨z',H4,I4,r4,q4⟩=>ho' pins s4 σ H4 y z' u w' Q I4 r2 r4 q4))
theorem pt_chain {op op':CmpOp}{r r':R2}(ho:OpR X (compareOp op) r)(ho':OpR X (compareOp op') r')(ha:PE X a ta)(hb:PE X b tb)(hc:PE X c tc)
  (hm:lastMarks [op,op'] [b,c]=false:=by with_unfolding_all rfl):PT X (.Compare a [op,op'] [b,c] pos) (tTest (tChain r r' ta tb tc)):=by
 intro pins s σ H Q I h
 refine isTrue_chain (thn (ha pins s σ H _ I h) fun v s1 ⟨x,H1,I1,r1,q1⟩=>test_link (thn (hb pins s1 σ H1 _ I1 q1) fun u s2 ⟨y,H2,I2,r2,q2⟩=>
  thn (ho pins s2 σ H2 x y v u _ I2 r1 r2 q2) fun d s3 ⟨z,H3,I3,r3,k,e,q3⟩=>?_)) hm
 subst e
 cases r3
 refine wpAny_truthy_bool ?_
 cases k with
 |false=>
  obtain⟨k',e',q'⟩:=q3
  cases e'
  exact ite_ff ⟨H3,I3,q'⟩
 |true=>
  refine ite_tt (test_last (thn (hc pins s3 σ H3 _ I3 q3) fun w' s4 ⟨z',H4,I4,r4,q4⟩=>thn (ho' pins s4 σ H4 y z' u w' _ I4 r2 r4 q4) fun d' s5 ⟨z2,H5,I5,r5,k2,e2,q5⟩=>?_))
  subst e2
  cases r5
  exact wpAny_truthy_bool ⟨H5,I5,q5⟩
theorem line63:(sizeLine:Nat)<2^63:=by rw[sizeLine_eq];decide
inductive r_op_add_str (x:V)(y:V)(H:Hp)(Q:VK):Prop where
 |mk (i) (j):(x=.str i)→(y=.str j)→(i.length+j.length≤sizeLine)→(Q (.str (i++j)) H)→r_op_add_str x y H Q
theorem op_add_str:OpR X (binaryOp .Add) r_op_add_str:=by
 intro pins s σ H x y v u Q I rx ry h
 obtain⟨i,j,rfl,rfl,hz,q⟩:=h
 obtain⟨t,rfl⟩:=rx
 obtain⟨t',rfl⟩:=ry
 exact add_str (fun t' tk=>⟨.str (i++j),H,I.tok _,⟨_,rfl⟩,q⟩) hz
theorem iop_add_str:OpR X (inplaceOp .Add) (fun x y H Q=>∃i j,x=.str i∧y=.str j∧i.length+j.length≤sizeLine∧Q (.str (i++j)) H):=by
 intro pins s σ H x y v u Q I rx ry h
 obtain⟨i,j,rfl,rfl,hz,q⟩:=h
 obtain⟨t,rfl⟩:=rx
 obtain⟨t',rfl⟩:=ry
 exact iadd_str (fun t' tk=>⟨.str (i++j),H,I.tok _,⟨_,rfl⟩,q⟩) hz
theorem vals1 {x:V}{us:List Value}(r:Vals [x] us):∃u,us=[u]∧RelV x u:=by
 cases r with
 |cons r1 r2=>cases r2;exact⟨_,rfl,r1⟩
theorem vals2 {x y:V}{us:List Value}(r:Vals [x,y] us):∃u w',us=[u,w']∧RelV x u∧RelV y w':=by
 cases r with
 |cons r1 r2=>
  cases r2 with
  |cons r3 r4=>cases r4;exact⟨_,_,rfl,r1,r3⟩
theorem call_abs:CallR X (.builtin "abs") (fun xs H Q=>∃i,xs=[.int i]∧Q (.int (if i<0 then -i else i)) H):=by
 intro pins s σ H xs us Q I r h
 obtain⟨i,rfl,q⟩:=h
 obtain⟨u,rfl,t,rfl⟩:=vals1 r
 exact call_abs_int fun u tk=>⟨.int (if i<0 then -i else i),H,I.tok _,⟨_,rfl⟩,q⟩
theorem call_int1:CallR X (.type "int") (fun xs H Q=>(∃i,xs=[.int i]∧Q (.int i) H)∨∃k,xs=[.bl k]∧Q (.int (if k then 1 else 0)) H):=by
 intro pins s σ H xs us Q I r h
 rcases h with ⟨i,rfl,q⟩|⟨k,rfl,q⟩
 ·obtain⟨u,rfl,t,rfl⟩:=vals1 r
  exact call_int_int ⟨.int i,H,I,⟨_,rfl⟩,q⟩
 ·obtain⟨u,rfl,r1⟩:=vals1 r
  cases r1
  exact call_int_bool ⟨.int (if k then 1 else 0),H,I.tok _,⟨_,rfl⟩,q⟩
inductive r_call_str_int (xs:List V)(H:Hp)(Q:VK):Prop where
 |mk (i):(xs=[.int i])→(i.natAbs.log2<1920)→(Q (.str (toString i)) H)→r_call_str_int xs H Q
theorem call_str_int:CallR X (.type "str") r_call_str_int:=by
 intro pins s σ H xs us Q I r h
 obtain⟨i,rfl,hz,q⟩:=h
 obtain⟨u,rfl,t,rfl⟩:=vals1 r
 exact PySem.P.str_of_int hz ⟨.str _,H,I.tok _,⟨_,rfl⟩,q⟩
end
structure ObjM (h:Heap)(x dx C:Addr)(mA:Str→Option Value):Prop where
 obj:h.get? x=some (PySem.W.instObj C dx)
 ns:h.Ns1 dx mA
 ne:dx≠x
theorem lookIn_ns {h:Heap}{dx:Addr}{mA:Str→Option Value}(n:h.Ns1 dx mA):∃od,h.get? dx=some od∧∀name,PySem.W.lookIn name od=some (mA name):=by
 obtain⟨o,es,ep,ho,hd,hk,_,hm⟩:=n
 refine⟨o,ho,fun name=>?_⟩
 have e:=hm name
 unfold nsFind findBy at e
 rw[←Array.find?_toList]at e
 unfold PySem.W.lookIn
 rw[hd]
 dsimp only
 split
 ·rename_i y q
  rw[q]at e
  exact congrArg some e
 ·rename_i q
  rw[q]at e
  have a:es.toList.any (·.refKey)=false:=by
   rw[List.any_eq_false]
   intro y hy
   obtain⟨z,t,hkey⟩:=hk y (Array.mem_toList_iff.mp hy)
   simp[DictEntry.refKey,hkey]
  have a':¬es.toList.any (·.refKey)=true:=by rw[a];exact Bool.false_ne_true
  rw[if_neg a']
  exact congrArg some e
theorem ObjM.look {h:Heap}{x dx C:Addr}{mA:Str→Option Value}(I:ObjM h x dx C mA):∃od,PySem.W.InstAt h x (PySem.W.instObj C dx) C (some od)∧∀name,PySem.W.lookIn name od=some (mA name) :=
 let ⟨od,ho,hl⟩:=lookIn_ns I.ns
 ⟨od,⟨I.obj,rfl,rfl,ho⟩,hl⟩
section
variable {prog:Program}{w:World}{A:Around}{E:Value→Shared→Prop}{s:Shared}{K:PySem.W.Frag}{x dx C f:Addr}{mA:Str→Option Value}{name:Str}{v:Value}
end
def putF (f:Str)(v:V):List (Str×V)→List (Str×V)
 |[]=>[(f,v)]
 |(g,x)::r=>if g=f then(g,v)::r else(g,x)::putF f v r
theorem RelO.some_of {v:V}{o:Option Value}(r:RelO (some v) o):∃u,o=some u∧RelV v u:=by
 cases o with
 |none=>exact(show False from r).elim
 |some u=>exact⟨u,rfl,r⟩
theorem RelO.none_of {o:Option Value}(r:RelO none o):o=none:=by
 cases o with
 |none=>rfl
 |some u=>exact(show False from r).elim
section
variable {P:Program}{w:World}{H H':Hp}{h h':Heap}{a C dx:Addr}{fs fs':List (Str×V)}
theorem ins_get (hok:HOk P w H h)(e:H a=some (.ins C dx fs)):∃mA,ObjM h a dx C mA∧(∀f,RelO (fs.lookup f) (mA f))∧PySem.Within mA (fs.map (·.1))∧fs.length≤1000∧H dx=some (.own a):=by
 obtain⟨d,z,ne,ob,mA,n,r,q⟩:=(show ObjOk P w H h a (.ins C dx fs) from hok a _ e)
 exact⟨mA,⟨ob,n,ne⟩,r,q,z,d⟩
end
structure Cls (K:PySem.W.Frag)(C:Addr):Prop where
 pg:PySem.W.plainGet K C Str.empty=true
 hd:PySem.W.hasDictIn K C=true
 po:PySem.W.plainOver K C=true
 sa:PySem.W.findIn K (.ref C) "__setattr__"=some (some (.builtin "object.__setattr__"))
theorem Cls.get {K:PySem.W.Frag}{C:Addr}(c:Cls K C)(f:Str):PySem.W.plainGet K C f=true:=c.pg
def NoAttr (K:PySem.W.Frag)(C:Addr)(f:Str):Prop:=PySem.W.findIn K (.ref C) f=some none
section
variable {X:Cx}{pins:List (Addr×Obj)}{σ:St}{H:Hp}{s:Shared}{a C dx:Addr}{fs:List (Str×V)}{f:Str}{v:V}{A:Around}{E:Value→Shared→Prop}
end
inductive tFld_ (K:PySem.W.Frag)(f:Str)(Q:VK)(x:V)(H1:Hp):Prop where
 |mk (a) (C) (dx) (fs) (v):(x=.ref a)→(H1 a=some (.ins C dx fs))→(Cls K C)→(NoAttr K C f)→(fs.lookup f=some v)→(Q v H1)→tFld_ K f Q x H1
inductive sFld_ (K:PySem.W.Frag)(f:Str)(D:Ends)(σ:St)(y:V)(x:V)(H2:Hp):Prop where
 |mk (a) (C) (dx) (fs):(x=.ref a)→(H2 a=some (.ins C dx fs))→(Cls K C)→(NoAttr K C f)→(fs.length<1000)→(D.nx σ (upd H2 a (.ins C dx (putF f y fs))))→sFld_ K f D σ y x H2
section
variable {X:Cx}{o e value:Expr}{f:Str}{pos pos' tpos:Pos}{ta tv:TE}
end
section
variable {X:Cx}{pins:List (Addr×Obj)}{σ:St}{H:Hp}{s:Shared}{A:Around}{E:Value→Shared→Prop}{Q:Value→Shared→Prop}{c:Value}{b:Bool}
inductive TyOf (K:PySem.W.Frag)(H:Hp):V→Value→Prop where
 |non:TyOf K H .non (.type "NoneType")
 |bl (x:Bool):TyOf K H (.bl x) (.type "bool")
 |int (i:Int):TyOf K H (.int i) (.type "int")
 |str (x:Str):TyOf K H (.str x) (.type "str")
 |flt (x:UInt64):TyOf K H (.flt x) (.type "float")
 |lst {a:Addr} {xs:List V} (e:H a=some (.lst xs)):TyOf K H (.ref a) (.type "list")
 |frz {a:Addr} {o:Obj} {xs:List V} (e:H a=some (.frz o (.lst xs))):TyOf K H (.ref a) (.type "list")
 |tup {a:Addr} {xs:List V} (e:H a=some (.tup xs)):TyOf K H (.ref a) (.type "tuple")
 |dK {a:Addr} {kvs:List (Key×V)} (e:H a=some (.dK kvs)):TyOf K H (.ref a) (.type "dict")
 |dT {a:Addr} {kvs:List (List Key×V)} (e:H a=some (.dT kvs)):TyOf K H (.ref a) (.type "dict")
 |ins {a C dx:Addr} {fs:List (Str×V)} (e:H a=some (.ins C dx fs)) (cl:Cls K C) (ha:PySem.W.findIn K (.ref C) "__class__"=some (some (.builtin "object.__class__")))
   (hn:PySem.W.specialIn K (.builtin "object.__class__") "__get__"=some (some (.builtin "getset_descriptor.__get__"))) (htk:PySem.W.takesIn K (.builtin "object.__class__")=some true)
   (hm:PySem.W.mroIn K C (.type "object")=some true):TyOf K H (.ref a) (.ref C)
theorem isinst_ok {x:V}{u t:Value}(I:Inv X pins σ H s)(rx:RelV x u)(ty:TyOf X.K H x t)(e:PySem.W.kitOne X.K t c=some b)(h:∀tk,Q (.bool b) {s with toks:=tk}):
  wpAny (model X.prog X.w) A (call (.builtin "isinstance") [u,c]) Q E s:=by
 cases ty with
 |non=>cases(show u=Value.none from rx);exact PySem.W.kia_one PySem.W.kitx_none I.kIn True.intro e (fun z=>nomatch z) h
 |bl y=>cases(show u=Value.bool y from rx);exact PySem.W.kia_one PySem.W.kitx_bool I.kIn True.intro e (fun z=>nomatch z) h
 |int i=>obtain⟨t,q⟩:=(show ∃t,u=Value.int i t from rx);cases q;exact PySem.W.kia_one PySem.W.kitx_int I.kIn True.intro e (fun z=>nomatch z) h
 |str y=>obtain⟨t,q⟩:=(show ∃t,u=Value.str y t from rx);cases q;exact PySem.W.kia_one PySem.W.kitx_str I.kIn True.intro e (fun z=>nomatch z) h
 |flt y=>obtain⟨t,q⟩:=(show ∃t,u=Value.float y t from rx);cases q;exact PySem.W.kia_one PySem.W.kitx_float I.kIn True.intro e (fun z=>nomatch z) h
 |@lst a xs ea=>
  cases(show u=Value.ref a from rx)
  obtain⟨_,_,n,_,h1⟩:=(show ObjOk X.prog X.w H s.heap a (.lst xs) from I.hok a _ ea)
  exact PySem.W.kia_one PySem.W.kitx_list I.kIn ⟨_,h1,rfl⟩ e (fun z=>nomatch z) h
 |@frz a ob xs ea=>
  cases(show u=Value.ref a from rx)
  obtain⟨_,_,_,n,_,h1⟩:=(show ObjOk X.prog X.w H s.heap a (.frz ob (.lst xs)) from I.hok a _ ea)
  exact PySem.W.kia_one PySem.W.kitx_list I.kIn ⟨_,h1,rfl⟩ e (fun z=>nomatch z) h
 |@tup a xs ea=>
  cases(show u=Value.ref a from rx)
  obtain⟨_,_,_,p⟩:=(show ObjOk X.prog X.w H s.heap a (.tup xs) from I.hok a _ ea)
  obtain⟨o,h1,h2,_⟩:=p
  exact PySem.W.kia_one PySem.W.kitx_tuple I.kIn ⟨o,h1,h2⟩ e (fun z=>nomatch z) h
 |@dK a kvs ea=>
  cases(show u=Value.ref a from rx)
  obtain⟨_,_,vs,_,p⟩:=(show ObjOk X.prog X.w H s.heap a (.dK kvs) from I.hok a _ ea)
  obtain⟨o,es,ep,h1,h2,_⟩:=p
  exact PySem.W.kia_one PySem.W.kitx_dict I.kIn ⟨o,h1,h2.1⟩ e (fun z=>nomatch z) h
 |@dT a kvs ea=>
  cases(show u=Value.ref a from rx)
  obtain⟨_,_,xs,_,o,es,ep,h1,h2,_⟩:=(show ObjOk X.prog X.w H s.heap a (.dT kvs) from I.hok a _ ea)
  exact PySem.W.kia_one PySem.W.kitx_dict I.kIn ⟨o,h1,h2.1⟩ e (fun z=>nomatch z) h
 |@ins a C dx fs ea cl ha hn htk hm=>
  cases(show u=Value.ref a from rx)
  obtain⟨mA,O,_⟩:=ins_get I.hok ea
  obtain⟨od,J,_⟩:=O.look
  exact PySem.W.kia_one (PySem.W.kitx_own (cl.get _) cl.hd ha hn htk hm) I.kIn J e (fun z=>nomatch z) h
end
structure Room (k:Nat)(A:Around):Prop where
 hd:A.handled=none
 dp:A.depth+3*k+5<recursionLimit
 un:A.units+16*k+200<cLine
theorem Room.mono {j k:Nat}{A:Around}(r:Room k A)(h:j≤k):Room j A:=⟨r.hd,by have:=r.dp;omega,by have:=r.un;omega⟩
theorem Room.deeper {k:Nat}{A:Around}(r:Room (k+1) A)(env:Env):Room k (A.deeper env) :=
 ⟨r.hd,by have:=r.dp;show A.depth+1+3*k+5<_;omega,by have:=r.un;show A.units+3+16*k+200<_;omega⟩
theorem Room.depth {k:Nat}{A:Around}(r:Room k A):A.depth<recursionLimit:=by have:=r.dp;omega
theorem Room.units0 {k:Nat}{A:Around}(r:Room k A):A.units<cLine:=by have:=r.un;omega
def tNil:TA:=fun _ H Q=>Q [] H
def tCons (ta:TE)(tr:TA):TA:=fun σ H Q=>ta σ H fun x H1=>tr σ H1 fun xs H2=>Q (x::xs) H2
section
variable {X:Cx}{e:Expr}{es:List Expr}{te:TE}{t:TA}{pos:Pos}
theorem pa_nil:PA X [] tNil:=fun _ _ _ _ H Q I h=>Calls.spliced_nil ⟨[],H,I, .nil,h⟩
theorem pa_cons (ha:PE X e te)(hr:PA X es t)(hs:starEach (e::es) X.env=(false,eval e X.env)::starEach es X.env:=by rfl):PA X (e::es) (tCons te t):=by
 intro pos pins s σ H Q I h
 rw[hs]
 show wpAny _ _ (spliced ((false,eval e X.env)::backTo pos (starEach es X.env))) _ _ s
 refine Calls.spliced_cons (thn (ha pins s σ H _ I h) fun u s1 ⟨x,H1,I1,r1,q1⟩=>?_)
 exact thn (hr pos pins s1 σ H1 _ I1 q1) fun us s2 ⟨xs,H2,I2,r2,q2⟩=>⟨x::xs,H2,I2, .cons r1 r2,q2⟩
inductive tTup_ (Q:VK)(xs:List V)(H1:Hp):Prop where
 |mk:(xs.length≤sizeLine)→(∀p,H1 p=none→Q (.ref p) (upd H1 p (.tup xs)))→tTup_ Q xs H1
def tTup (t:TA):TE:=fun σ H Q=>t σ H (tTup_ Q)
inductive tLst_ (Q:VK)(xs:List V)(H1:Hp):Prop where
 |mk:(xs.length≤sizeLine)→(∀p,H1 p=none→Q (.ref p) (upd H1 p (.lst xs)))→tLst_ Q xs H1
def tLst (t:TA):TE:=fun σ H Q=>t σ H (tLst_ Q)
theorem pe_tup {x1}(h:PA X es t):PE X (.Tuple es x1 pos) (tTup t):=by
 intro pins s σ H Q I hq
 refine wpAny_Tuple_spliced (thn (h pos pins s σ H _ I hq) fun us s1 ⟨xs,H1,I1,r,z,q⟩=>⟨by rw[←r.length];exact z,?_⟩)
 have hf:H1 s1.heap.objs.size=none:=I1.hok.fresh (Nat.le_refl _)
 refine⟨.ref s1.heap.objs.size,upd H1 s1.heap.objs.size (.tup xs),I1.laid (t':=s1.toks) (fun b u e=>Heap.get?_push_of_some _ e) (Nat.le_refl _) ?_,rfl,q _ hf⟩
 exact⟨z,us,r,⟨_,Heap.get?_push_size _ rfl,rfl,_,rfl⟩⟩
theorem pe_lst (h:PA X es t):PE X (.List es pos) (tLst t):=by
 intro pins s σ H Q I hq
 refine wpAny_List_spliced (thn (h pos pins s σ H _ I hq) fun us s1 ⟨xs,H1,I1,r,z,q⟩=>⟨by rw[←r.length];exact z,?_⟩)
 have hf:H1 s1.heap.objs.size=none:=I1.hok.fresh (Nat.le_refl _)
 refine⟨.ref s1.heap.objs.size,upd H1 s1.heap.objs.size (.lst xs),I1.laid (t':=s1.toks) (fun b u e=>Heap.get?_push_of_some _ e) (Nat.le_refl _) ?_,rfl,q _ hf⟩
 exact⟨z,us,0,r,Heap.get?_push_size _ rfl⟩
end
abbrev Sp:=List V→Hp→VK→XK→Prop
abbrev CXT:=List Env→Hp→Shared→XK→Value→Shared→Prop
structure Env0 (P:Program)(w:World)(K:PySem.W.Frag)(mg:Str→Option Value)(base:Heap)(A:Around)(outer:List Env)(s:Shared)(H:Hp):Prop where
 frames:A.frames=some outer
 mod:Mod K mg base
 bs:∀b o,base.get? b=some o→s.heap.get? b=some o∧H b=none
 bsz:base.objs.size≤s.heap.objs.size
 funs:s.heap.FunFrames base outer
 frf:∀b∈frs outer,H b=none
 hok:HOk P w H s.heap
 bare:AllBare s.gens
def CE (outer:List Env)(P:Program)(w:World)(H:Hp)(s:Shared)(Q:VK)(u:Value)(s':Shared):Prop :=
 ∃v H',s'.os=s.os∧AllBare s'.gens∧Un (frs outer) [] H H' s.heap s'.heap∧HOk P w H' s'.heap∧RelV v u∧Q v H'
def CR (CX:CXT)(outer:List Env)(P:Program)(w:World)(H:Hp)(s:Shared)(Q:VK)(E:XK)(r:Result)(s':Shared):Prop :=
 match r with
 |.ok (.ret u)=>CE outer P w H s Q u s'
 |.ok _=>False
 |.error e=>CX outer H s E e s'
structure FnOk (P:Program)(w:World)(K:PySem.W.Frag)(mg:Str→Option Value)(base:Heap)(CX:CXT)(k:Nat)(f:Addr)(fd:FuncData)(ps:List Str)(sp:Sp):Prop where
 len:∀vs H Q E,sp vs H Q E→vs.length=ps.length
 run:∀(A:Around) (outer:List Env) (s:Shared) (H:Hp) (args:Args) (us:List Value) (vs:List V) (Q:VK) (E:XK),Room k A→Env0 P w K mg base A outer s H→BindsTo s fd args (ps.zip us)→Vals vs us→sp vs H Q E→
  codeAny (model P w) A (.call (.ref f) args) (CR CX outer P w H s Q E) s
theorem FnOk.mono {P:Program}{w:World}{K:PySem.W.Frag}{mg:Str→Option Value}{base:Heap}{CX:CXT}{j k:Nat}{f:Addr}{fd:FuncData}{ps:List Str}{sp:Sp}(F:FnOk P w K mg base CX j f fd ps sp)(h:j≤k):
  FnOk P w K mg base CX k f fd ps sp:=⟨F.len,fun A outer s H args us vs Q E hr=>F.run A outer s H args us vs Q E (hr.mono h)⟩
section
variable {X:Cx}{pins:List (Addr×Obj)}{σ:St}{H:Hp}{s s':Shared}
theorem Inv.env0 (I:Inv X pins σ H s):Env0 X.prog X.w X.K X.mg X.base X.A X.stack s H :=
 ⟨I.ok.frames,I.ok.mod,I.bs,Nat.le_trans I.ok.bsz I.sz,I.stack,I.stkFree,I.hok,I.bare⟩
theorem Inv.after {Q:VK}{u:Value}(I:Inv X pins σ H s)(h:CE X.stack X.prog X.w H s Q u s'):EP X pins σ Q u s':=by
 obtain⟨v,H',os,bare,un,hok,r,q⟩:=h
 obtain⟨hh,g,d,t,os'⟩:=s'
 obtain rfl:os'=s.os:=os
 exact⟨v,H',I.call (h':=hh) (g':=g) (d':=d) (t':=t) (ch:=[]) un hok bare (fun b z=>absurd z (by simp)),r,q⟩
end
def tCall (sp:Sp)(dvs:List V)(E:XK)(t:TA):TE:=fun σ H Q=>t σ H fun vs H1=>sp (vs++dvs) H1 Q E
inductive tMeth_ (C:Addr)(m:Str)(sp:Sp)(dvs:List V)(E:XK)(t:TA)(σ:St)(Q:VK)(x:V)(H1:Hp):Prop where
 |mk (a) (dx) (fs):(x=.ref a)→(H1 a=some (.ins C dx fs))→(fs.lookup m=none)→(t σ H1 fun vs H2=>sp (x::(vs++dvs)) H2 Q E)→tMeth_ C m sp dvs E t σ Q x H1
def Binds (K:PySem.W.Frag)(fd:FuncData)(ps:List Str)(ds:List Value):Prop :=
 ∀(s:Shared) (us:List Value),K.In s.heap→(us++ds).length=ps.length→BindsTo s fd ⟨us,[]⟩ (ps.zip (us++ds))
theorem Binds.all {K:PySem.W.Frag}{fd:FuncData}{ps:List Str}(h:∀us:List Value,us.length=ps.length→bindArgs fd ⟨us,[]⟩=pure (ps.zip us)):Binds K fd ps []:=fun s us _ hl=>by
 rw[List.append_nil]at hl ⊢
 exact .of_eq (h us hl)
def Passes (CX:CXT)(X:Cx)(E:XK):Prop:=∀(pins:List (Addr×Obj)) (σ:St) (H:Hp) (s:Shared) (e:Value) (s':Shared),Inv X pins σ H s→CX X.stack H s E e s'→X.xe e s'
section
variable {X:Cx}{CX:CXT}{k:Nat}{f C:Addr}{fd:FuncData}{ps:List Str}{sp:Sp}{dvs:List V}{ds:List Value}{E:XK}{x m:Str}{p pos apos:Pos}{e o:Expr}{es:List Expr}{ta:TE}{t:TA}
theorem run_fn {pins:List (Addr×Obj)}{σ:St}{H:Hp}{s:Shared}{Q:VK}{us:List Value}{vs:List V}(F:FnOk X.prog X.w X.K X.mg X.base CX k f fd ps sp)(hr:Room k X.A)(hb:Binds X.K fd ps ds)(hd:Vals dvs ds)(hx:Passes CX X E)
  (I:Inv X pins σ H s) (r:Vals vs us) (h:sp (vs++dvs) H Q E):wpAny (model X.prog X.w) X.A (call (.ref f) us) (EP X pins σ Q) X.xe s:=by
 have r2:Vals (vs++dvs) (us++ds):=r.append hd
 have hl:(us++ds).length=ps.length:=by rw[←r2.length];exact F.len _ _ _ _ h
 refine wpAny_call (codeAny_mono (F.run X.A X.stack s H ⟨us,[]⟩ (us++ds) (vs++dvs) Q E hr I.env0 (hb s us I.kIn hl) r2 h) fun r s' hq=>?_)
 cases r with
 |error e=>exact hx pins σ H s e s' I hq
 |ok fl=>
  cases fl with
  |ret u=>exact I.after hq
  |next=>exact False.elim hq
  |brk=>exact False.elim hq
  |cont=>exact False.elim hq
theorem pe_call (F:FnOk X.prog X.w X.K X.mg X.base CX k f fd ps sp)(hr:Room k X.A)(hg:Gl X x)(hm:X.mg x=some (.ref f))(hk:PySem.W.keepIn X.K (.ref f)=true)(hb:Binds X.K fd ps ds)(hd:Vals dvs ds)(hx:Passes CX X E)
  (ha:PA X (e::es) t) (hdb:(x==("__debug__":Str))=false:=by decide) (he:starEach (e::es) X.env=(false,eval e X.env)::starEach es X.env:=by rfl) (hpl:(backTo pos (starEach es X.env)).any (·.1)=false:=by rfl):
  PE X (.Call (.Name x p) (e::es) [] pos) (tCall sp dvs E t):=by
 intro pins s σ H Q I h
 refine wpAny_Call_Name_kw (ld_glob I hg hm ?_ hdb)
 refine PySem.W.callWith_K (h₀:=X.base) I.ok.mod.kin hk (thn (ha pos pins s σ H _ I h) fun us s1 ⟨vs,H1,I1,r,q⟩=>⟨I1.kIn,?_⟩) he hpl
 exact run_fn F hr hb hd hx I1 r q
theorem pe_call0 (F:FnOk X.prog X.w X.K X.mg X.base CX k f fd ps sp)(hr:Room k X.A)(hg:Gl X x)(hm:X.mg x=some (.ref f))(hk:PySem.W.keepIn X.K (.ref f)=true)(hb:Binds X.K fd ps ds)(hd:Vals dvs ds)(hx:Passes CX X E)
  (hdb:(x==("__debug__":Str))=false:=by decide):PE X (.Call (.Name x p) [] [] pos) (tCall sp dvs E tNil):=by
 intro pins s σ H Q I h
 refine wpAny_Call_Name_kw (ld_glob I hg hm ?_ hdb)
 exact PySem.W.callWith_K0 I.kIn hk (run_fn (us:=[]) F hr hb hd hx I .nil h)
end
section
variable {X:Cx}{CX:CXT}{k:Nat}{f C:Addr}{fd:FuncData}{ps ks:List Str}{sp:Sp}{E:XK}{x m:Str}{p pos apos kpos:Pos}{e o:Expr}{es:List Expr}{kws:List Keyword}{te ta:TE}{t tk:TA}{nm:Option Str}
variable {g:List Value→List Value→List Value}{gV:List V→List V→List V}
end
structure FnScope (N P:List Str)(sc:Scope):Prop where
 kind:sc.kind=.function
 co:sc.isCoroutine=false
 gen:sc.isGenerator=false
 nd:N.Nodup
 pre:N.take P.length=P
 par:∀x∈P,sc.names.lookup x=some .local∨sc.names.lookup x=some .cell
 nofree:∀y∈sc.names,y.2≠.free
theorem bindL_out {kindOf:Str→Option NameKind}{x:Str}:∀{binds:List (Str×Value)} {m:Str→Option Value},(∀v,(x,v)∉binds)→bindL kindOf binds m x=m x
 |[],_,_=>rfl
 |(n,v)::r,m,h=>by
  unfold bindL
  rw[bindL_out fun w hw=>h w (List.mem_cons_of_mem _ hw)]
  split
  ·have:x≠n:=by rintro rfl;exact h v List.mem_cons_self
   simp[this]
  ·rfl
theorem bindC_out {kindOf:Str→Option NameKind}{x:Str}:∀{binds:List (Str×Value)} {m:Str→Option Value},(∀v,(x,v)∉binds)→bindC kindOf binds m x=m x
 |[],_,_=>rfl
 |(n,v)::r,m,h=>by
  unfold bindC
  rw[bindC_out fun w hw=>h w (List.mem_cons_of_mem _ hw)]
  split
  ·rfl
  ·have:x≠n:=by rintro rfl;exact h v List.mem_cons_self
   simp[this]
theorem bindL_get {kindOf:Str→Option NameKind}{x:Str}{v:Value}{P:List Str}{vs:List Value}{i:Nat}{m:Str→Option Value}(nd:P.Nodup)(h1:P[i]?=some x)(h2:vs[i]?=some v)(hk:kindOf x=some .local):
  bindL kindOf (P.zip vs) m x=some v:=by
 induction P generalizing vs i m with
 |nil=>simp at h1
 |cons p P ih=>cases vs with
  |nil=>simp at h2
  |cons w vs=>
   show bindL kindOf ((p,w)::P.zip vs) m x=_
   unfold bindL
   cases i with
   |zero=>
    cases h1
    cases h2
    rw[bindL_out fun v hv=>(List.nodup_cons.mp nd).1 (List.of_mem_zip hv).1,if_pos hk]
    simp
   |succ i=>exact ih (i:=i) (List.nodup_cons.mp nd).2 h1 h2
theorem bindC_get {kindOf:Str→Option NameKind}{x:Str}{v:Value}{P:List Str}{vs:List Value}{i:Nat}{m:Str→Option Value}(nd:P.Nodup)(h1:P[i]?=some x)(h2:vs[i]?=some v)(hk:kindOf x≠some .local):
  bindC kindOf (P.zip vs) m x=some v:=by
 induction P generalizing vs i m with
 |nil=>simp at h1
 |cons p P ih=>cases vs with
  |nil=>simp at h2
  |cons w vs=>
   show bindC kindOf ((p,w)::P.zip vs) m x=_
   unfold bindC
   cases i with
   |zero=>
    cases h1
    cases h2
    rw[bindC_out fun v hv=>(List.nodup_cons.mp nd).1 (List.of_mem_zip hv).1,if_neg hk]
    simp
   |succ i=>exact ih (i:=i) (List.nodup_cons.mp nd).2 h1 h2
def start (N:List Str)(vs:List V):St:=vs.map some++List.replicate (N.length-vs.length) none
def cxOf (CX:CXT)(P:Program)(w:World)(K:PySem.W.Frag)(mg:Str→Option Value)(base:Heap)(N:List Str)(qual:Str)(scope:Scope)(f:Addr)(cd:Value)(A:Around)(outer:List Env)(s:Shared)(H:Hp)(E:XK):Cx where
 prog:=P
 w:=w
 K:=K
 mg:=mg
 base:=base
 A:=A.deeper (envOfC qual scope s.heap.objs.size f cd)
 N:=N
 s₀:=s
 H₀:=H
 env:=envOfC qual scope s.heap.objs.size f cd
 outer:=outer
 stack:=envOfC qual scope s.heap.objs.size f cd::outer
 ex:=[]
 calm:=true
 fn:=fun _=>true
 pn:=[]
 xe:=fun e s'=>wpAny (model P w) (A.deeper (envOfC qual scope s.heap.objs.size f cd)) (leaving (envOfC qual scope s.heap.objs.size f cd) e) (fun _ s''=>CX outer H s E e s'') (fun e' s''=>CX outer H s E e' s'') s'
theorem cell_has {sc:Scope}{n:Nat}{x:Str}(h:sc.names.lookup x=some .cell):∃c,(cellsFrom n sc.names []).lookup x=some c:=by
 have q:=PySem.W.cellsFrom_some sc.names n [] (.inl h)
 exact Option.isSome_iff_exists.mp q
theorem inv_start {CX:CXT}{P:Program}{w:World}{K:PySem.W.Frag}{mg:Str→Option Value}{base:Heap}{N ps:List Str}{qual:Str}{scope:Scope}{f:Addr}{cd:Value}{A:Around}{outer:List Env}{s s1:Shared}{H:Hp}{E:XK}{us:List Value}{vs:List V}
  (S:FnScope N ps scope) (hd:A.handled=none) (e0:Env0 P w K mg base A outer s H) (hl:vs.length=ps.length) (r:Vals vs us)
  (x:InCallC s s.heap.objs.size (bindL (envOfC qual scope s.heap.objs.size f cd).kindOf (ps.zip us) fun _=>none) (cellsFrom (s.heap.objs.size+1) scope.names []) (bindC (envOfC qual scope s.heap.objs.size f cd).kindOf (ps.zip us) fun _=>none) s1):
  Inv (cxOf CX P w K mg base N qual scope f cd A outer s H E) [] (start N vs) H s1:=by
 have hpl:ps.length≤N.length:=by have:=congrArg List.length S.pre;rw[List.length_take]at this;omega
 obtain⟨h1,tk,rfl,hk⟩:=x.done
 have noA:∀b:Addr,b∉(cxOf CX P w K mg base N qual scope f cd A outer s H E).ex:=fun b z=>absurd (show b∈([]:List Addr) from z) (by simp)
 refine⟨⟨e0.mod,S.kind,rfl,rfl,Nat.le_refl _,fun y z c h1 h2=>?_,fun y hy=>?_,fun y c _ h=>?_,fun _=>hd,Around.frames_deeper e0.frames, .inr ⟨rfl,rfl⟩,fun b z=>absurd z (noA b),e0.bs,e0.bsz,fun b _ _=>noA b,fun b z=>absurd z (noA b),e0.funs,e0.frf⟩,
  rfl,e0.bare,Un.kept hk,⟨_,x.toInCall.ns,fun i y v h1 h2 h3=>?_⟩,fun y c h=>⟨_,x.cell y c h⟩,e0.hok.fresh (Nat.le_refl _),fun y c h=>?_,fun p hp=>absurd (show p∈([]:List (Addr×Obj)) from hp) (by simp),e0.hok.kept hk,?_⟩
 ·exact name_of_addr x.apart (PySem.mem_of_lookup h1) (PySem.mem_of_lookup h2)
 ·have hy:scope.names.lookup y=some .cell∨scope.names.lookup y=some .free:=hy
  rcases hy with hy|hy
  ·exact cell_has hy
  ·exact absurd rfl (S.nofree _ (PySem.mem_of_lookup hy))
 ·exact Nat.le_of_lt (x.above y c (PySem.mem_of_lookup h))
 ·have hi:i<vs.length:=by
   unfold start at h2
   by_cases hi:i<vs.length
   ·exact hi
   ·rw[List.getElem?_append_right (by simpa using hi)]at h2
    rw[List.getElem?_replicate]at h2
    split at h2<;>cases h2
  have ha:vs[i]?=some v:=by
   unfold start at h2
   rw[List.getElem?_append_left (by simpa using hi),List.getElem?_map]at h2
   cases e:vs[i]? with
   |none=>rw[e]at h2;cases h2
   |some a=>rw[e]at h2;cases h2;rfl
  obtain⟨u,hu,rv⟩:=r.get ha
  have hp:ps[i]?=some y:=by
   rw[←S.pre,List.getElem?_take_of_lt (by exact Nat.lt_of_lt_of_eq hi hl)];exact h1
  have ndP:ps.Nodup:=by rw[←S.pre];exact S.nd.sublist (List.take_sublist _ _)
  refine⟨u,rv,?_⟩
  rcases S.par y (List.mem_of_getElem? hp) with k|k
  ·exact .inl ⟨k,bindL_get ndP hp hu k⟩
  ·obtain⟨c,e⟩:=cell_has (n:=s.heap.objs.size+1) k
   refine .inr ⟨.inl k,c,e,?_⟩
   have q:=x.cell y c e
   rw[bindC_get ndP hp hu (by show scope.names.lookup y≠_;rw[k];decide)]at q
   exact q
 ·exact e0.hok.fresh (Nat.le_of_lt (x.above y c (PySem.mem_of_lookup h)))
 ·unfold start
  show _=N.length
  rw[List.length_append,List.length_map,List.length_replicate]
  omega
theorem fn_of {CX:CXT}{P:Program}{w:World}{K:PySem.W.Frag}{mg:Str→Option Value}{base:Heap}{k:Nat}{f:Addr}{name qual:Str}{params:Arguments}{body:List Stmt}{scope:Scope}{dV kV doc pm cdv ct oc:Value}{an od:Option Addr}
  {osl:Array (Option Value)} {N ps:List Str} {sp:Sp} (lk:K.lookup f=some ⟨oc,od, .func (PySem.W.fnOf name qual params body scope dV kV doc pm an cdv ct),osl⟩) (hcd:PySem.W.codeIn K cdv qual=true) (S:FnScope N ps scope)
  (len:∀vs H Q E,sp vs H Q E→vs.length=ps.length)
  (hbody:∀(A:Around) (outer:List Env) (s:Shared) (H:Hp) (vs:List V) (Q:VK) (E:XK),Room k (A.deeper (envOfC qual scope s.heap.objs.size f cdv))→sp vs H Q E→
   ∃t,PSs (cxOf CX P w K mg base N qual scope f cdv A outer s H E) body t∧t (Ends.of Q) (start N vs) H):
  FnOk P w K mg base CX (k+1) f (PySem.W.fnOf name qual params body scope dV kV doc pm an cdv ct) ps sp:=by
 refine⟨len,fun A outer s H args us vs Q E hr e0 hb r hsp=>?_⟩
 have hl:=len _ _ _ _ hsp
 have KX:K.In s.heap:=e0.mod.kin.keeps fun b o e=>(e0.bs b o e).1
 have lim:s.heap.NoLimit:=e0.mod.nolimit.keeps fun b o e=>(e0.bs b o e).1
 have hkind:∀y∈ps.zip us,scope.names.lookup y.1=some .local∨(scope.names.lookup y.1=some .cell∧((cellsFrom (s.heap.objs.size+1) scope.names []).lookup y.1).isSome=true):=fun⟨n,v⟩ hy=>by
  rcases S.par n (List.of_mem_zip hy).1 with q|q
  ·exact .inl q
  ·exact .inr ⟨q,PySem.W.cellsFrom_some _ _ _ (.inl q)⟩
 refine codeAny_call_function hr.depth (KX _ _ lk) rfl S.co S.gen rfl (PySem.W.codeRec_of KX hcd) (hb _ _ _ _ ?_)
 refine wpAny_newFunctionEnv_cells S.kind hkind fun env he s1 x=>?_
 subst he
 refine⟨lim.keeps x.toInCall.keep,codeAny_func ?_⟩
 obtain⟨t,ht,hq⟩:=hbody A outer s H vs Q E (hr.deeper _) hsp
 have I:Inv (cxOf CX P w K mg base N qual scope f cdv A outer s H E) [] (start N vs) H s1:=inv_start S hr.hd e0 hl r x
 refine wpAny_mono (ht [] s1 (start N vs) H _ I hq) (fun fl s' hs=>?_) fun e s' hs=>hs
 have fin:∀{σ':St} {H':Hp} {v:V} {u:Value},Inv (cxOf CX P w K mg base N qual scope f cdv A outer s H E) [] σ' H' s'→RelV v u→Q v H'→CE outer P w H s Q u s' :=
  fun{σ' H' v u} J rv q=>⟨v,H',J.os,J.bare,J.base,J.hok,rv,q⟩
 cases fl with
 |ret u=>
  obtain⟨v,σ',H',J,rv,q⟩:=hs
  exact fin J rv q
 |next=>
  obtain⟨σ',H',J,q⟩:=hs
  exact fin (v:=V.non) (u:=Value.none) J rfl q
 |brk=>
  obtain⟨_,_,_,q⟩:=hs
  exact False.elim q
 |cont=>
  obtain⟨_,_,_,q⟩:=hs
  exact False.elim q
section
variable {X:Cx}{x:Str}{p pos:Pos}{e:Expr}{es:List Expr}{t:TA}{id T:String}{r:List V→Hp→VK→Prop}
def tCB (r:List V→Hp→VK→Prop)(t:TA):TE:=fun σ H Q=>t σ H fun vs H1=>r vs H1 Q
theorem pe_callB (hc:CallR X (.builtin id) r)(hg:Gl X x)(hm:X.mg x=none)(hv:bootBuiltins x=some (.builtin id))(ha:PA X (e::es) t)(hn:x≠"__name__":=by decide)(hdb:(x==("__debug__":Str))=false:=by decide)
  (he:starEach (e::es) X.env=(false,eval e X.env)::starEach es X.env:=by rfl) (hpl:(backTo pos (starEach es X.env)).any (·.1)=false:=by rfl):PE X (.Call (.Name x p) (e::es) [] pos) (tCB r t):=by
 intro pins s σ H Q I h
 refine wpAny_Call_Name_kw (ld_blt I hg hm hv ?_ hn hdb)
 exact PyProof.Rows.callWith_builtin1 (thn (ha pos pins s σ H _ I h) fun us s1 ⟨vs,H1,I1,r1,q1⟩=>hc pins s1 σ H1 vs us Q I1 r1 q1) he hpl
theorem pe_callTy (hc:CallR X (.type T) r)(hg:Gl X x)(hm:X.mg x=none)(hv:bootBuiltins x=some (.type T))(ha:PA X (e::es) t)(hn:x≠"__name__":=by decide)(hdb:(x==("__debug__":Str))=false:=by decide)
  (he:starEach (e::es) X.env=(false,eval e X.env)::starEach es X.env:=by rfl) (hpl:(backTo pos (starEach es X.env)).any (·.1)=false:=by rfl):PE X (.Call (.Name x p) (e::es) [] pos) (tCB r t):=by
 intro pins s σ H Q I h
 refine wpAny_Call_Name_kw (ld_blt I hg hm hv ?_ hn hdb)
 exact PyProof.Rows.callWith_type1 (thn (ha pos pins s σ H _ I h) fun us s1 ⟨vs,H1,I1,r1,q1⟩=>hc pins s1 σ H1 vs us Q I1 r1 q1) he hpl
end
end L2
namespace HT
open PySem PyProof.Rows
section
open PySem.SeqAt
open PySem.AutoSeq1 (wpAny_loadPart')
open PySem.MeetsSeq PySem.MeetsSeq2 PySem.MeetsSeq3
end
section
variable {prog:Program}{w:World}{A:Around}{E:Value→Shared→Prop}{s:Shared}
theorem cat_tup {t b:Addr}{vs ws:List Value}{Q:Value→Shared→Prop}(ht:IsTup s.heap t vs.toArray)(hb:IsTup s.heap b ws.toArray)(hv:vs≠[])
  (h1:ws=[]→Q (.ref t) s) (h2:ws≠[]→Q (.ref s.heap.objs.size) {s with heap:=s.heap.push {cls:=.type "tuple",data:=.seq (vs++ws).toArray}})
  (hsz:vs.length+ws.length≤sizeLine):wpAny (model prog w) A (binaryOp .Add (.ref t) (.ref b)) Q E s:=by
 obtain⟨⟨cls,dd,data,sl⟩,ho,hc,n,hd⟩:=id ht
 obtain⟨⟨cls2,dd2,data2,sl2⟩,ho2,hc2,n2,hd2⟩:=id hb
 simp only at hc hd hc2 hd2
 subst hc hd hc2 hd2
 have e:vs.toArray++ws.toArray=(vs++ws).toArray:=by simp
 by_cases hw:ws=[]
 ·exact concat_meets ⟨_,ho,rfl⟩ ⟨_,ho2,rfl⟩ noFill_tuple_add seq_tuple_add PySem.F.slot_tuple_add PySem.F.entry_tuple_add (PySem.F.args_tuple_add_2 _ _)
   (tuple_addW1 t b vs.toArray ws.toArray n n2 dd dd2 sl sl2 (by simpa using hv) (by simp[hw])) ⟨ho,ho2,h1 hw⟩
 ·refine concat_meets ⟨_,ho,rfl⟩ ⟨_,ho2,rfl⟩ noFill_tuple_add seq_tuple_add PySem.F.slot_tuple_add PySem.F.entry_tuple_add (PySem.F.args_tuple_add_2 _ _)
   (tuple_addW2 t b vs.toArray ws.toArray n n2 dd dd2 sl sl2 (by simpa using hv) (by simpa using hw) (by rw[List.size_toArray,List.size_toArray];exact hsz)) ⟨ho,ho2,?_⟩
  rw[e]
  exact h2 hw
def sIx (n d:Nat):Option Int→Nat
 |none=>d
 |some v=>if v<0 then(v+(n:Int)).toNat else min v.toNat n
theorem sIx_none (n d:Nat):sIx n d none=d:=rfl
theorem sIx_nat (n d k:Nat):sIx n d (some (k:Int))=min k n:=by
 show(if(k:Int)<0 then((k:Int)+(n:Int)).toNat else min (k:Int).toNat n)=min k n
 rw[if_neg (by omega),Int.toNat_natCast]
theorem sIx_le (n d:Nat)(hd:d≤n)(o:Option Int):sIx n d o≤n:=by
 cases o with
 |none=>exact hd
 |some v=>
  show(if v<0 then(v+(n:Int)).toNat else min v.toNat n)≤n
  by_cases hv:v<0
  ·rw[if_pos hv];omega
  ·rw[if_neg hv];exact Nat.min_le_right _ _
theorem clip_eq (v:Int)(n d:Nat):(if v<0 then max (v+(n:Int)) 0 else min v (n:Int))=((sIx n d (some v):Nat):Int):=by
 show(if v<0 then max (v+(n:Int)) 0 else min v (n:Int))=(((if v<0 then(v+(n:Int)).toNat else min v.toNat n):Nat):Int)
 by_cases hv:v<0
 ·simp only[if_pos hv];omega
 ·simp only[if_neg hv];omega
theorem adjust_gen (lo hi:Option Int)(n:Nat):Builtin.Slice.sliceAdjust lo hi 1 (n:Int)=(((sIx n 0 lo:Nat):Int),((sIx n n hi:Nat):Int)):=by
 have h1:¬((1:Int)<0):=by omega
 unfold Builtin.Slice.sliceAdjust
 simp only[h1,if_false]
 refine Prod.ext ?_ ?_
 ·cases lo with
  |none=>rfl
  |some v=>exact clip_eq v n 0
 ·cases hi with
  |none=>rfl
  |some v=>exact clip_eq v n n
theorem places_gen (i j:Nat):Builtin.Slice.slicePlaces (i:Int) (j:Int) 1=j-i:=by
 unfold Builtin.Slice.slicePlaces
 have h1:(1:Int)>0:=by omega
 simp only[h1,if_true,Int.ediv_one]
 split<;>omega
theorem slicePart_ {v:Value}{o:Option Int}{Q:Option Int→Shared→Prop}(p:IsPart v o)(h:Q o s):wpAny (model prog w) A (Builtin.Slice.slicePartIndex v) Q E s:=by
 cases p with
 |none=>exact slicePart_none h
 |int i t=>exact slicePart_int h
theorem sliceApplied_gen {sl:Addr}{vl vu:Value}{lo hi:Option Int}{n:Nat}{Q:Int×Int×Nat→Shared→Prop}(hs:s.heap.IsSliceOf sl vl vu .none)(pl:IsPart vl lo)(pu:IsPart vu hi)
  (h:Q (((sIx n 0 lo:Nat):Int),1,sIx n n hi-sIx n 0 lo) s):wpAny (model prog w) A (Builtin.Slice.sliceApplied (.ref sl) (pure (n:Int))) Q E s:=by
 obtain⟨os,hos,hcs,hds⟩:=id hs
 unfold Builtin.Slice.sliceApplied Builtin.Slice.sliceFields
 refine wpAny_bind (wpAny_bind (wpAny_field hos hds (x:=vl) rfl (wpAny_bind (wpAny_field hos hds (x:=vu) rfl (wpAny_bind (wpAny_field hos hds (x:=.none) rfl (wpAny_pure ?_)))))))
 refine wpAny_bind (slicePart_none ?_)
 show wpAny _ _ (if((1:Int)==0)=true then _ else _) _ _ s
 rw[if_neg (by decide)]
 refine wpAny_bind (slicePart_ pl (wpAny_bind (slicePart_ pu (wpAny_bind (wpAny_pure ?_)))))
 show wpAny _ _ (match Builtin.Slice.sliceAdjust lo hi 1 (n:Int) with|(lo,hi)=>pure (lo,(1:Int),Builtin.Slice.slicePlaces lo hi 1)) _ _ s
 rw[adjust_gen lo hi n]
 show wpAny _ _ (pure (((sIx n 0 lo:Nat):Int),(1:Int),Builtin.Slice.slicePlaces ((sIx n 0 lo:Nat):Int) ((sIx n n hi:Nat):Int) 1)) _ _ s
 rw[places_gen]
 exact wpAny_pure h
theorem pick_gen (xs:Array Value)(i k:Nat):((List.range k).filterMap fun(m:Nat)=>xs[((i:Int)+(m:Int)*1).toNat]?).toArray=((xs.toList.drop i).take k).toArray:=by
 have e:(fun(m:Nat)=>xs[((i:Int)+(m:Int)*1).toNat]?)=fun m=>xs[i+m]?:=by
  funext m
  have:((i:Int)+(m:Int)*1).toNat=i+m:=by omega
  rw[this]
 rw[e]
 have:=pick_run xs i k
 rw[List.filterMap_map]at this
 have e2:((fun x=>xs[x]?)∘fun x=>i+x)=fun m=>xs[i+m]?:=rfl
 rw[e2]at this
 rw[this]
theorem getItem_tuple_cut {t sl:Addr}{items:Array Value}{vl vu:Value}{lo hi:Option Int}{Q:Value→Shared→Prop}(ht:IsTup s.heap t items)(hs:s.heap.IsSliceOf sl vl vu .none)(pl:IsPart vl lo)(pu:IsPart vu hi)
  (hw:¬(sIx items.size 0 lo=0∧sIx items.size items.size hi=items.size))
  (h:Q (.ref s.heap.objs.size) {s with heap:=s.heap.push {cls:=.type "tuple",data:=.seq ((items.toList.drop (sIx items.size 0 lo)).take (sIx items.size items.size hi-sIx items.size 0 lo)).toArray}})
  (hsz:items.size≤sizeLine):wpAny (model prog w) A (getItem (.ref t) (.ref sl)) Q E s:=by
 have htake:sizeOk (.seq ((items.toList.drop (sIx items.size 0 lo)).take (sIx items.size items.size hi-sIx items.size 0 lo)).toArray):=by
  show((items.toList.drop (sIx items.size 0 lo)).take (sIx items.size items.size hi-sIx items.size 0 lo)).toArray.size≤sizeLine
  rw[List.size_toArray,List.length_take,List.length_drop,Array.length_toList]
  omega
 have hj:sIx items.size items.size hi≤items.size:=sIx_le _ _ (Nat.le_refl _) hi
 obtain⟨os,hos,hcs,hds⟩:=id hs
 have hTs:s.TypeIs (.ref sl) "slice":=⟨os,hos,hcs⟩
 unfold getItem
 try with_reducible refine wpAny_holding ?_
 first|refine wpAny_bind (wpAny_pure ?_)|skip
 refine wpAny_bind (wpAny_sequenceKey ht.typeIs (by decide) ?_)
 refine wpAny_bind (wpAny_callSpecial?_slot (name:=Str.ofString "__getitem__") ht.typeIs PyProof.Rows.slot_tuple_getitem
  (wpAny_call_entry PyProof.Rows.slot_tuple_getitem ht.typeIs entry_tuple_getitem ?_ (args_tuple_getitem _ _)))
 show wpAny _ _ (Builtin.Tuple.tupleItemsOf (.ref t)>>=_) _ _ s
 refine wpAny_bind (tupleItemsOf_ ht ?_)
 refine wpAny_bind (wpAny_typeOf hTs ?_)
 rw[if_pos (by decide)]
 refine wpAny_bind (sliceApplied_gen hs pl pu ?_)
 have hno:¬((((sIx items.size 0 lo:Nat):Int)==0&&(1:Int)==1&&(sIx items.size items.size hi-sIx items.size 0 lo)==items.size)=true):=by
  intro q
  rw[Bool.and_eq_true,Bool.and_eq_true]at q
  have q1:((sIx items.size 0 lo:Nat):Int)=0:=eq_of_beq q.1.1
  have q2:sIx items.size items.size hi-sIx items.size 0 lo=items.size:=eq_of_beq q.2
  exact hw ⟨by omega,by omega⟩
 show wpAny _ _ (if(((sIx items.size 0 lo:Nat):Int)==0&&(1:Int)==1&&(sIx items.size items.size hi-sIx items.size 0 lo)==items.size)=true then _ else _) _ _ s
 rw[if_neg hno,pick_gen]
 first
  |exact wpAny_bind (m:=Builtin.Tuple.tupleExact _) (wpAny_newObj_type (wpAny_pure ⟨_,rfl,wpAny_pure h⟩) htake)
  |exact wpAny_bind (m:=Builtin.Tuple.tupleExact _) (wpAny_newObj_type (wpAny_bind (wpAny_pure (wpAny_pure ⟨_,rfl,wpAny_pure h⟩))) htake)
  |exact wpAny_bind (wpAny_bind (m:=Builtin.Tuple.tupleExact _) (wpAny_newObj_type (wpAny_pure (wpAny_pure ⟨_,rfl,wpAny_pure h⟩)) htake))
  |exact wpAny_bind (wpAny_bind (m:=Builtin.Tuple.tupleExact _) (wpAny_newObj_type (wpAny_pure ⟨_,rfl,wpAny_pure h⟩) htake))
end
end HT
namespace L2
open PySem PySem.Spec PyProof.Rows
abbrev TO:=St→Hp→(Option Int→Hp→Prop)→Prop
def PO (X:Cx)(e:Option Expr)(t:TO):Prop :=
 ∀(pins:List (Addr×Obj)) (s:Shared) (σ:St) (H:Hp) (Q:Option Int→Hp→Prop),Inv X pins σ H s→t σ H Q→
  wpAny (model X.prog X.w) X.A (evalPart e X.env) (fun u s'=>∃o H',Inv X pins σ H' s'∧IsPart u o∧Q o H') X.xe s
def tNoPart:TO:=fun _ H Q=>Q none H
inductive tPart_ (Q:Option Int→Hp→Prop)(x:V)(H1:Hp):Prop where
 |mk (i):(x=.int i)→(Q (some i) H1)→tPart_ Q x H1
def tPart (t:TE):TO:=fun σ H Q=>t σ H (tPart_ Q)
section
variable {X:Cx}{e:Expr}{te:TE}{lo hi:Option Expr}{tl th:TO}{pos p2:Pos}
theorem po_none:PO X none tNoPart:=by
 intro pins s σ H Q I h
 rw[evalPart_none]
 exact wpAny_pure ⟨none,H,I, .none,h⟩
theorem po_some (h:PE X e te):PO X (some e) (tPart te):=by
 intro pins s σ H Q I hw
 rw[evalPart_some]
 refine thn (h pins s σ H _ I hw) fun u s1 ⟨x,H1,I1,r1,q1⟩=>?_
 obtain⟨i,rfl,q⟩:=q1
 obtain⟨t,rfl⟩:=r1
 exact⟨some i,H1,I1, .int i t,q⟩
def SlR (X:Cx)(r:V→Option Int→Option Int→Hp→VK→Prop):Prop :=
 ∀(pins:List (Addr×Obj)) (s:Shared) (σ:St) (H:Hp) (x:V) (v vl vu:Value) (lo hi:Option Int) (sl:Addr) (Q:VK),Inv X pins σ H s→RelV x v→s.heap.IsSliceOf sl vl vu .none→IsPart vl lo→IsPart vu hi→r x lo hi H Q→
  ∃T id,typeLookup (.type T) "__getitem__"=pure (some (.builtin id))∧s.TypeIs v T∧wpAny (model X.prog X.w) X.A (getItem v (.ref sl)) (EP X pins σ Q) X.xe s
def tSl (r:V→Option Int→Option Int→Hp→VK→Prop)(te:TE)(tl th:TO):TE:=fun σ H Q=>te σ H fun x H1=>tl σ H1 fun l H2=>th σ H2 fun u H3=>r x l u H3 Q
theorem pe_slice {r:V→Option Int→Option Int→Hp→VK→Prop}(hr:SlR X r)(he:PE X e te)(hl:PO X lo tl)(hu:PO X hi th):PE X (.Subscript e (.Slice lo hi none p2) pos) (tSl r te tl th):=by
 intro pins s σ H Q I h
 refine Subscript_ (thn (he pins s σ H _ I h) fun v s1 ⟨x,H1,I1,r1,q1⟩=>?_)
 refine wpAny_Slice (thn (hl pins s1 σ H1 _ I1 q1) fun vl s2 ⟨l,H2,I2,pl,q2⟩=>thn (hu pins s2 σ H2 _ I2 q2) fun vu s3 ⟨u,H3,I3,pu,q3⟩=>?_)
 rw[evalPart_none]
 refine wpAny_pure ?_
 have I4:Inv X pins σ H3 {s3 with heap:=s3.heap.push {cls:=.type "slice",data:=.fields #[vl,vu, .none]}}:=I3.kept (t':=s3.toks) fun b ob q=>Heap.get?_push_of_some _ q
 obtain⟨T,id,hT,ht,hg⟩:=hr pins {s3 with heap:=s3.heap.push {cls:=.type "slice",data:=.fields #[vl,vu, .none]}} σ H3 x v vl vu l u s3.heap.objs.size Q I4 r1 (Heap.IsSliceOf.new ..) pl pu q3
 show wpAny (model X.prog X.w) X.A (subscriptTail e (.Slice lo hi none p2) v (.ref s3.heap.objs.size)) (EP X pins σ Q) X.xe {s3 with heap:=s3.heap.push {cls:=.type "slice",data:=.fields #[vl,vu, .none]}}
 exact tail_any (ops:=[.ref s3.heap.objs.size,v]) ht hT hg (by with_unfolding_all rfl)
def cutV (xs:List V)(lo hi:Option Int):List V:=(xs.drop (HT.sIx xs.length 0 lo)).take (HT.sIx xs.length xs.length hi-HT.sIx xs.length 0 lo)
theorem cutV_length (xs:List V)(lo hi:Option Int):(cutV xs lo hi).length≤xs.length:=by
 unfold cutV
 rw[List.length_take,List.length_drop]
 omega
inductive rSlT_ (K:PySem.W.Frag)(x:V)(lo:Option Int)(hi:Option Int)(H:Hp)(Q:VK):Prop where
 |mk (a) (xs):(x=.ref a)→(SqT K H a xs)→(¬(HT.sIx xs.length 0 lo=0∧HT.sIx xs.length xs.length hi=xs.length))→(∀p,H p=none→Q (.ref p) (upd H p (.tup (cutV xs lo hi))))→rSlT_ K x lo hi H Q
def rSlT (K:PySem.W.Frag):V→Option Int→Option Int→Hp→VK→Prop:=rSlT_ K
theorem sl_tup:SlR X (rSlT X.K):=by
 intro pins s σ H x v vl vu lo hi sl Q I rx hs pl pu h
 obtain⟨a,xs,rfl,hx,hw,q⟩:=h
 cases rx
 obtain⟨its,r,ht,hz⟩:=I.tuple hx
 have hlen:its.toArray.size=xs.length:=by rw[List.size_toArray];exact r.length.symm
 refine⟨"tuple",_,PyProof.Rows.slot_tuple_getitem.lookup,ht.typeIs,?_⟩
 refine HT.getItem_tuple_cut ht hs pl pu (by rw[hlen];exact hw) ?_ (by rw[hlen];exact hz)
 rw[hlen]
 refine⟨.ref s.heap.objs.size,_,I.laid (t':=s.toks) (o:=.tup (cutV xs lo hi)) (fun b ob q=>Heap.get?_push_of_some _ q) (Nat.le_refl _) ?_,rfl,q _ (I.hok.fresh (Nat.le_refl _))⟩
 exact⟨Nat.le_trans (cutV_length xs lo hi) hz,_,(r.drop (HT.sIx xs.length 0 lo)).take (HT.sIx xs.length xs.length hi-HT.sIx xs.length 0 lo),IsTup.new _ _⟩
inductive rCatT_ (K:PySem.W.Frag)(x:V)(y:V)(H:Hp)(Q:VK):Prop where
 |mk (a) (b) (xs) (ys):(x=.ref a)→(y=.ref b)→(SqT K H a xs)→(SqT K H b ys)→(xs≠[])→(xs.length+ys.length≤sizeLine)→((ys=[]→Q (.ref a) H))→((ys≠[]→∀p,H p=none→Q (.ref p) (upd H p (.tup (xs++ys)))))→rCatT_ K x y H Q
def rCatT (K:PySem.W.Frag):R2:=rCatT_ K
theorem Vals.nil_iff {xs:List V}{us:List Value}(r:Vals xs us):us=[]↔xs=[]:=by
 cases r with
 |nil=>simp
 |cons _ _=>simp
theorem op_catT:OpR X (binaryOp .Add) (rCatT X.K):=by
 intro pins s σ H x y v u Q I rx ry h
 obtain⟨a,b,xs,ys,rfl,rfl,ha,hb,hx,hz,q1,q2⟩:=h
 cases rx
 cases ry
 obtain⟨its,r1,p1,_⟩:=I.tuple ha
 obtain⟨its2,r2,p2,_⟩:=I.tuple hb
 refine HT.cat_tup p1 p2 (fun z=>hx (r1.nil_iff.mp z)) (fun z=>⟨.ref a,H,I,rfl,q1 (r2.nil_iff.mp z)⟩) (fun z=>?_) (by rw[←r1.length,←r2.length];exact hz)
 refine⟨.ref s.heap.objs.size,_,I.laid (t':=s.toks) (o:=.tup (xs++ys)) (fun b ob q=>Heap.get?_push_of_some _ q) (Nat.le_refl _) ?_,rfl,q2 (fun w=>z (r2.nil_iff.mpr w)) _ (I.hok.fresh (Nat.le_refl _))⟩
 exact⟨by rw[List.length_append];exact hz,_,r1.append r2,IsTup.new _ _⟩
end
def ixN (n:Nat)(i:Int):Option Nat:=if 0≤i then(if i<n then some i.toNat else none) else if -(n:Int)≤i then some (i+n).toNat else none
def atI {α:Type}(xs:List α)(i:Int):Option α:=(ixN xs.length i).bind fun j=>xs[j]?
theorem ixN_seq {n:Nat}{i:Int}{j:Nat}(h:ixN n i=some j):seqIndex? i n=some j∧j<n∧-(n:Int)≤i∧i<n:=by
 unfold ixN at h
 by_cases h0:0≤i
 ·rw[if_pos h0]at h
  by_cases h1:i<n
  ·rw[if_pos h1]at h
   have e:i.toNat=j:=Option.some.inj h
   exact⟨by rw[seqIndex_of h0 h1,e],by omega,by omega,h1⟩
  ·rw[if_neg h1]at h;cases h
 ·rw[if_neg h0]at h
  by_cases h1: -(n:Int)≤i
  ·rw[if_pos h1]at h
   have e:(i+n).toNat=j:=Option.some.inj h
   exact⟨by rw[seqIndex_neg (by omega) h1,e],by omega,h1,by omega⟩
  ·rw[if_neg h1]at h;cases h
theorem atI_get {α:Type}{xs:List α}{i:Int}{v:α}(h:atI xs i=some v):∃j,seqIndex? i xs.length=some j∧xs[j]?=some v∧j<xs.length∧-(xs.length:Int)≤i∧i<xs.length:=by
 unfold atI at h
 cases e:ixN xs.length i with
 |none=>rw[e]at h;cases h
 |some j=>
  rw[e]at h
  obtain⟨h1,h2,h3,h4⟩:=ixN_seq e
  exact⟨j,h1,h,h2,h3,h4⟩
theorem atI_nat {α:Type}{xs:List α}{j:Nat}{v:α}(h:xs[j]?=some v):atI xs (j:Int)=some v:=by
 have hj:j<xs.length:=(List.getElem?_eq_some_iff.mp h).1
 have e:ixN xs.length (j:Int)=some j:=by
  unfold ixN
  rw[if_pos (by omega),if_pos (by omega)];simp
 unfold atI;rw[e];exact h
theorem atI_last {α:Type}(xs:List α)(v:α):atI (xs++[v]) (-1)=some v:=by
 have hl:(xs++[v]).length=xs.length+1:=by simp
 have e:ixN (xs++[v]).length (-1)=some xs.length:=by
  unfold ixN
  rw[hl,if_neg (by decide),if_pos (by omega)]
  congr 1
  omega
 unfold atI
 rw[e]
 show(xs++[v])[xs.length]?=some v
 simp
def PlainIx (b:Expr):Prop:=∀o i,subscripted b false o i=operate [o,i] (getItem o i)
def IxR (X:Cx)(r:R2):Prop :=
 ∀(value slice:Expr) (pins:List (Addr×Obj)) (s:Shared) (σ:St) (H:Hp) (x y:V) (v u:Value) (Q:VK),Inv X pins σ H s→RelV x v→RelV y u→r x y H Q→
  subscripted slice false v u=operate [v,u] (getItem v u)→wpAny (model X.prog X.w) X.A (subscriptTail value slice v u) (EP X pins σ Q) X.xe s
def MtR (X:Cx)(id:String)(r:V→List V→Hp→VK→Prop):Prop :=
 ∀(pins:List (Addr×Obj)) (s:Shared) (σ:St) (H:Hp) (x:V) (xs:List V) (v:Value) (us:List Value) (Q:VK),Inv X pins σ H s→RelV x v→Vals xs us→r x xs H Q→
  wpAny (model X.prog X.w) X.A (call (.builtin id) (v::us)) (EP X pins σ Q) X.xe s
section
variable {X:Cx}{a b:Expr}{ta tb:TE}{pos:Pos}
theorem pe_ix {r:R2}(hr:IxR X r)(ha:PE X a ta)(hb:PE X b tb)(hs:PlainIx b:=by intro _ _;rfl):PE X (.Subscript a b pos) (tOp r ta tb):=by
 intro pins s σ H Q I h
 exact Subscript_ (binT ha hb I h fun v u s2 x y H2 I2 rx ry q=>hr a b pins s2 σ H2 x y v u Q I2 rx ry q (hs _ _))
inductive rIxL_ (K:PySem.W.Frag)(x:V)(y:V)(H:Hp)(Q:VK):Prop where
 |mk (p) (xs) (i) (v):(x=.ref p)→(y=.int i)→(SqL K H p xs)→(atI xs i=some v)→(Q v H)→rIxL_ K x y H Q
def rIxL (K:PySem.W.Frag):R2:=rIxL_ K
inductive rIxT_ (K:PySem.W.Frag)(x:V)(y:V)(H:Hp)(Q:VK):Prop where
 |mk (p) (xs) (i) (v):(x=.ref p)→(y=.int i)→(SqT K H p xs)→(atI xs i=some v)→(Q v H)→rIxT_ K x y H Q
def rIxT (K:PySem.W.Frag):R2:=rIxT_ K
def rIxS:R2:=fun x y H Q=>∃z i c,x=.str z∧y=.int i∧z.length≤sizeLine∧atI z.cps.toList i=some c∧Q (.str ⟨#[c]⟩) H
theorem ix_list:IxR X (rIxL X.K):=by
 intro value slice pins s σ H x y v u Q I rx ry h hs
 obtain⟨p,xs,i,z,rfl,rfl,hq,he,q⟩:=h
 cases rx
 obtain⟨t,rfl⟩:=ry
 obtain⟨its,r,pl,hz⟩:=I.list hq
 obtain⟨j,h1,h2,h3,h4,h5⟩:=atI_get he
 obtain⟨w,ew,rw'⟩:=r.get h2
 have hl:=r.length
 have hn:=line63
 have fin:EP X pins σ Q w s:=⟨z,H,I,rw',q⟩
 by_cases h0:0≤i
 ·have hj:i.toNat=j:=by
   rw[seqIndex_of h0 h5]at h1
   exact Option.some.inj h1
  exact item_listR pl.isList h0 (by omega) (by rw[hj];simpa using ew) fin hs
 ·have hj:(i+(its.toArray.size:Int)).toNat=j:=by
   rw[seqIndex_neg (by omega) h4]at h1
   rw[List.size_toArray,←hl]
   exact Option.some.inj h1
  exact subscriptTail_builtinR (x:=w) pl.isList.typeIs slot_list_getitem.lookup
   (wpAny_getItem_list_neg (Q:=fun r s'=>r=w∧EP X pins σ Q r s') pl.isList (by omega) (by rw[List.size_toArray]<;>omega) (by omega) (by rw[hj];simpa using ew) ⟨rfl,fin⟩) hs
theorem ix_tup:IxR X (rIxT X.K):=by
 intro value slice pins s σ H x y v u Q I rx ry h hs
 obtain⟨p,xs,i,z,rfl,rfl,hq,he,q⟩:=h
 cases rx
 obtain⟨t,rfl⟩:=ry
 obtain⟨its,r,pl,hz⟩:=I.tuple hq
 obtain⟨j,h1,h2,h3,h4,h5⟩:=atI_get he
 obtain⟨w,ew,rw'⟩:=r.get h2
 have hl:=r.length
 have hn:=line63
 have fin:EP X pins σ Q w s:=⟨z,H,I,rw',q⟩
 exact subscriptTail_builtinR (x:=w) pl.typeIs slot_tuple_getitem.lookup
  (getItem_tuple (j:=j) (Q:=fun r s'=>r=w∧EP X pins σ Q r s') pl (by omega) (by omega) (by rw[List.size_toArray,←hl];exact h1) (by simpa using ew) ⟨rfl,fin⟩) hs
theorem ix_str:IxR X rIxS:=by
 intro value slice pins s σ H x y v u Q I rx ry h hs
 obtain⟨z,i,c,rfl,rfl,hz,he,q⟩:=h
 obtain⟨t,rfl⟩:=rx
 obtain⟨t',rfl⟩:=ry
 obtain⟨j,h1,h2,h3,h4,h5⟩:=atI_get he
 have hl:z.cps.toList.length=z.length:=by simp[Str.length]
 rw[hl]at h1 h4 h5
 have hn:=line63
 exact tail_any (typeIs_str s z t) slot_str_getitem.lookup (getItem_str (c:=c) (by
  have e1:decide (i< -(2^63:Int))=false:=decide_eq_false (by omega)
  have e2:decide (i≥2^63)=false:=decide_eq_false (by omega)
  rw[e1,e2,Bool.or_false]) (by rw[h1];simpa using h2) ⟨.str ⟨#[c]⟩,H,I.tok _,⟨_,rfl⟩,q⟩) hs
theorem mapSeq_set (its:List Value)(n j:Nat)(u:Value):Obj.mapSeq (·.setIfInBounds j u) {cls:=.type "list",data:=.seq its.toArray n}={cls:=.type "list",data:=.seq (its.set j u).toArray n}:=by
 simp[Obj.mapSeq]
theorem Inv.lst {pins:List (Addr×Obj)}{σ:St}{H:Hp}{s:Shared}{p:Addr}{xs:List V}(I:Inv X pins σ H s)(h:H p=some (.lst xs)):
  ∃(its:List Value) (n:Nat),Vals xs its∧s.heap.get? p=some {cls:=.type "list",data:=.seq its.toArray n}∧xs.length≤sizeLine:=by
 obtain⟨z,its,n,r,e⟩:=I.hok p _ h
 exact⟨its,n,r,e,z⟩
theorem Inv.lstUpd {pins:List (Addr×Obj)}{σ:St}{H:Hp}{s:Shared}{p:Addr}{xs ys:List V}{its its':List Value}{n n':Nat}{f:Obj→Obj}(I:Inv X pins σ H s)(h:H p=some (.lst xs))
  (ho:s.heap.get? p=some {cls:=.type "list",data:=.seq its.toArray n}) (hf:f {cls:=.type "list",data:=.seq its.toArray n}={cls:=.type "list",data:=.seq its'.toArray n'}) (r:Vals ys its') (hz:ys.length≤sizeLine) (t:Nat):
  Inv X pins σ (upd H p (.lst ys)) {s with heap:=s.heap.update p f,toks:=t}:=by
 have e:(s.heap.update p f).get? p=some {cls:=.type "list",data:=.seq its'.toArray n'}:=by
  rw[Heap.get?_update_self f ho (by rw[hf]<;>rfl),hf]
 refine I.write (x:=p) (e:=p) (by rw[h];trivial) (.inl rfl) (fun b u hb q=>(Heap.get?_update_other _ _ (Ne.symm hb)).trans q) ⟨_,e⟩ ?_
 exact⟨hz,its',n',r,e⟩
inductive rSetL_ (o:V)(i:V)(v:V)(H:Hp)(Q:Hp→Prop):Prop where
 |mk (p) (xs) (k) (j):(o=.ref p)→(i=.int k)→(H p=some (.lst xs))→(ixN xs.length k=some j)→(Q (upd H p (.lst (xs.set j v))))→rSetL_ o i v H Q
def rSetL:V→V→V→Hp→(Hp→Prop)→Prop:=rSetL_
theorem set_list:PSet X rSetL:=by
 intro pins s σ H o i v ov iv u Q I ro ri rv h
 obtain⟨p,xs,k,j,rfl,rfl,hp,hj,q⟩:=h
 cases ro
 obtain⟨t,rfl⟩:=ri
 obtain⟨its,n,r,ho,hz⟩:=I.lst hp
 obtain⟨h1,h2,h3,h4⟩:=ixN_seq hj
 have hl:=r.length
 have hn:=line63
 have I':Inv X pins σ (upd H p (.lst (xs.set j v))) {s with heap:=s.heap.update p (Obj.mapSeq (·.setIfInBounds j u))} :=
  I.lstUpd hp ho (mapSeq_set its n j u) (r.set rv j) (by rw[List.length_set];exact hz) s.toks
 by_cases h0:0≤k
 ·have hk:k.toNat=j:=by
   rw[seqIndex_of h0 h4]at h1
   exact Option.some.inj h1
  exact PySem.W.ki_setAt ho h0 (by omega) (by rw[List.size_toArray,←hl];exact h4) (by rw[hk];exact⟨_,I',q⟩)
 ·have hk:(k+(its.toArray.size:Int)).toNat=j:=by
   rw[seqIndex_neg (by omega) h3]at h1
   rw[List.size_toArray,←hl]
   exact Option.some.inj h1
  exact PySem.W.ki_setBack ho (by omega) (by rw[List.size_toArray,←hl];exact h3) (by omega) (by rw[hk];exact⟨_,I',q⟩)
theorem slice_bounds (lo hi:Option Int)(n:Nat):(sliceBounds lo hi none n).1=((HT.sIx n 0 lo:Nat):Int)∧(sliceBounds lo hi none n).2.1=((HT.sIx n n hi:Nat):Int)∧(sliceBounds lo hi none n).2.2=1:=by
 refine⟨?_,?_,rfl⟩
 ·cases lo with
  |none=>simp[sliceBounds,HT.sIx]
  |some i=>
   simp only[sliceBounds,HT.sIx,Option.getD_none,show(1:Int)>0 by decide,if_true]
   by_cases h:i<0
   ·simp only[h,if_true]<;>omega
   ·simp only[h,if_false]<;>omega
 ·cases hi with
  |none=>simp[sliceBounds,HT.sIx]
  |some i=>
   simp only[sliceBounds,HT.sIx,Option.getD_none,show(1:Int)>0 by decide,if_true]
   by_cases h:i<0
   ·simp only[h,if_true]<;>omega
   ·simp only[h,if_false]<;>omega
theorem slicePick_cut (its:List Value)(lo hi:Option Int):slicePick its.toArray lo hi none=((its.drop (HT.sIx its.length 0 lo)).take (HT.sIx its.length its.length hi-HT.sIx its.length 0 lo)).toArray:=by
 obtain⟨h1,h2,h3⟩:=slice_bounds lo hi its.toArray.size
 unfold slicePick
 rw[h1,h2,h3]
 simp only[sliceRange_one,pick_run,List.size_toArray]<;>rfl
def rSlL (K:PySem.W.Frag):V→Option Int→Option Int→Hp→VK→Prop:=fun x lo hi H Q=>∃a xs,x=.ref a∧SqL K H a xs∧∀p,H p=none→Q (.ref p) (upd H p (.lst (cutV xs lo hi)))
theorem sl_list:SlR X (rSlL X.K):=by
 intro pins s σ H x v vl vu lo hi sl Q I rx hs pl pu h
 obtain⟨a,xs,rfl,hx,q⟩:=h
 cases rx
 obtain⟨its,r,ht,hz⟩:=I.list hx
 have hlen:=r.length
 refine⟨"list",_,slot_list_getitem.lookup,ht.isList.typeIs,?_⟩
 refine wpAny_getItem_list_slice ht.isList hs pl pu .none (by simp) ?_ (by rw[List.size_toArray]<;>omega)
 rw[slicePick_cut,←hlen]
 refine⟨.ref s.heap.objs.size,_,I.laid (t':=s.toks) (o:=.lst (cutV xs lo hi)) (fun b ob q=>Heap.get?_push_of_some _ q) (Nat.le_refl _) ?_,rfl,q _ (I.hok.fresh (Nat.le_refl _))⟩
 exact⟨Nat.le_trans (cutV_length xs lo hi) hz,_,0,(r.drop (HT.sIx xs.length 0 lo)).take (HT.sIx xs.length xs.length hi-HT.sIx xs.length 0 lo),Heap.get?_push_size _ rfl⟩
def flatV:V→Bool
 |.non=>true
 |.bl _=>true
 |.int _=>true
 |.str _=>true
 |_=>false
def eqV:V→V→Bool
 |.non, .non=>true
 |.bl a, .bl b=>a==b
 |.bl a, .int b=>(if a then 1 else 0)==b
 |.int a, .bl b=>a==(if b then 1 else 0)
 |.int a, .int b=>a==b
 |.str a, .str b=>a==b
 |_,_=>false
theorem eqAt_V {A:Around}{s:Shared}{y x:V}{u v:Value}(ry:RelV y u)(rx:RelV x v)(fy:flatV y=true)(fx:flatV x=true):SeqAt.EqAt A s u v (eqV y x):=by
 cases y with
 |non=>
  cases ry
  cases x with
  |non=>cases rx;exact SeqAt.EqAt.same _
  |bl b=>cases rx;exact SeqAt.EqAt.none_bool b
  |int b=>obtain⟨t,rfl⟩:=rx;exact SeqAt.EqAt.none_int b t
  |str b=>obtain⟨t,rfl⟩:=rx;exact SeqAt.EqAt.none_str b t
  |_=>exact absurd (show false=true from fx) Bool.false_ne_true
 |bl a=>
  cases ry
  cases x with
  |non=>cases rx;exact SeqAt.EqAt.bool_none a
  |bl b=>cases rx;exact SeqAt.EqAt.bool_bool a b
  |int b=>obtain⟨t,rfl⟩:=rx;exact SeqAt.EqAt.bool_int a b t
  |str b=>obtain⟨t,rfl⟩:=rx;exact SeqAt.EqAt.bool_str a b t
  |_=>exact absurd (show false=true from fx) Bool.false_ne_true
 |int a=>
  obtain⟨t',rfl⟩:=ry
  cases x with
  |non=>cases rx;exact SeqAt.EqAt.int_none a t'
  |bl b=>cases rx;exact SeqAt.EqAt.int_bool a t' b
  |int b=>obtain⟨t,rfl⟩:=rx;exact SeqAt.EqAt.int_int a t' b t
  |str b=>obtain⟨t,rfl⟩:=rx;exact SeqAt.EqAt.int_str a t' b t
  |_=>exact absurd (show false=true from fx) Bool.false_ne_true
 |str a=>
  obtain⟨t',rfl⟩:=ry
  cases x with
  |non=>cases rx;exact SeqAt.EqAt.str_none a t'
  |bl b=>cases rx;exact SeqAt.EqAt.str_bool a t' b
  |int b=>obtain⟨t,rfl⟩:=rx;exact SeqAt.EqAt.str_int a t' b t
  |str b=>obtain⟨t,rfl⟩:=rx;exact SeqAt.EqAt.str_str a t' b t
  |_=>exact absurd (show false=true from fx) Bool.false_ne_true
 |_=>exact absurd (show false=true from fy) Bool.false_ne_true
def eqU (x:V)(u:Value):Bool:=match u with
 |.none=>eqV .non x
 |.bool b=>eqV (.bl b) x
 |.int i _=>eqV (.int i) x
 |.str z _=>eqV (.str z) x
 |_=>false
theorem eqU_of {x y:V}{u:Value}(r:RelV y u)(f:flatV y=true):eqU x u=eqV y x:=by
 cases y with
 |non=>cases r;rfl
 |bl b=>cases r;rfl
 |int i=>obtain⟨t,rfl⟩:=r;rfl
 |str z=>obtain⟨t,rfl⟩:=r;rfl
 |_=>exact absurd (show false=true from f) Bool.false_ne_true
theorem any_eqU {x:V}{xs:List V}{us:List Value}(h:Vals xs us)(f:xs.all flatV=true):us.any (eqU x)=xs.any fun y=>eqV y x:=by
 induction h with
 |nil=>rfl
 |cons r _ ih=>
  rw[List.all_cons,Bool.and_eq_true]at f
  rw[List.any_cons,List.any_cons,eqU_of r f.1,ih f.2]
theorem mem_eqAt {A:Around}{s:Shared}{x:V}{v:Value}(rx:RelV x v)(fx:flatV x=true){xs:List V}{us:List Value}(h:Vals xs us)(f:xs.all flatV=true):∀u∈us,SeqAt.EqAt A s u v (eqU x u):=by
 induction h with
 |nil=>exact fun u hu=>by cases hu
 |cons r _ ih=>
  intro u' hu
  rw[List.all_cons,Bool.and_eq_true]at f
  rcases List.mem_cons.mp hu with rfl|hu
  ·rw[eqU_of r f.1];exact eqAt_V r rx f.1 fx
  ·exact ih f.2 u' hu
def inV (x:V)(xs:List V):Bool:=xs.any fun y=>eqV y x
inductive rIn_ (K:PySem.W.Frag)(neg:Bool)(x:V)(y:V)(H:Hp)(Q:VK):Prop where
 |mk (p) (xs):(y=.ref p)→((SqL K H p xs∨SqT K H p xs))→(flatV x=true)→(xs.all flatV=true)→(Q (.bl (if neg then !inV x xs else inV x xs)) H)→rIn_ K neg x y H Q
def rIn (K:PySem.W.Frag)(neg:Bool):R2:=rIn_ K neg
theorem op_in_seq:OpR X (compareOp .In) (rIn X.K false):=by
 intro pins s σ H x y v u Q I rx ry h
 obtain⟨p,xs,rfl,hq,fx,fs,q⟩:=h
 cases ry
 rcases hq with hq|hq
 ·obtain⟨its,r,pl,hz⟩:=I.list hq
  refine SeqAt.in_listAt (eqU x) pl.isList (fun w hw=>mem_eqAt rx fx r fs w (by simpa using hw)) ⟨.bl _,H,I,rfl,?_⟩
  rw[show its.toArray.any (eqU x)=its.any (eqU x) by simp,any_eqU r fs]
  exact q
 ·obtain⟨its,r,pl,hz⟩:=I.tuple hq
  refine SeqAt.in_tupleAt (eqU x) pl (fun w hw=>mem_eqAt rx fx r fs w (by simpa using hw)) ⟨.bl _,H,I,rfl,?_⟩
  rw[show its.toArray.any (eqU x)=its.any (eqU x) by simp,any_eqU r fs]
  exact q
theorem op_notIn_seq:OpR X (compareOp .NotIn) (rIn X.K true):=by
 intro pins s σ H x y v u Q I rx ry h
 obtain⟨p,xs,rfl,hq,fx,fs,q⟩:=h
 cases ry
 rcases hq with hq|hq
 ·obtain⟨its,r,pl,hz⟩:=I.list hq
  refine SeqAt.notIn_listAt (eqU x) pl.isList (fun w hw=>mem_eqAt rx fx r fs w (by simpa using hw)) ⟨.bl _,H,I,rfl,?_⟩
  rw[show its.toArray.any (eqU x)=its.any (eqU x) by simp,any_eqU r fs]
  exact q
 ·obtain⟨its,r,pl,hz⟩:=I.tuple hq
  refine SeqAt.notIn_tupleAt (eqU x) pl (fun w hw=>mem_eqAt rx fx r fs w (by simpa using hw)) ⟨.bl _,H,I,rfl,?_⟩
  rw[show its.toArray.any (eqU x)=its.any (eqU x) by simp,any_eqU r fs]
  exact q
inductive r_call_len_seq (K:PySem.W.Frag)(xs:List V)(H:Hp)(Q:VK):Prop where
 |mk (p) (ys):(xs=[.ref p])→((SqL K H p ys∨SqT K H p ys))→(Q (.int ys.length) H)→r_call_len_seq K xs H Q
theorem call_len_seq:CallR X (.builtin "len") (r_call_len_seq X.K):=by
 intro pins s σ H xs us Q I r h
 obtain⟨p,ys,rfl,hq,q⟩:=h
 obtain⟨u,rfl,rx⟩:=vals1 r
 cases rx
 have hn:=line63
 rcases hq with hq|hq
 ·obtain⟨its,r',pl,hz⟩:=I.list hq
  have hlen:=r'.length
  exact Calls.call_len_list pl.isList (by simp only[List.size_toArray]<;>omega) ⟨.int ys.length,H,I.tok _,⟨s.toks+1,by rw[List.size_toArray,hlen]⟩,q⟩
 ·obtain⟨its,r',pl,hz⟩:=I.tuple hq
  have hlen:=r'.length
  exact len_tuple pl (by simp only[List.size_toArray]<;>omega) ⟨.int ys.length,H,I.tok _,⟨s.toks+1,by rw[List.size_toArray,hlen]⟩,q⟩
theorem call_len_str:CallR X (.builtin "len") (fun xs H Q=>∃z,xs=[.str z]∧z.length≤sizeLine∧Q (.int z.length) H):=by
 intro pins s σ H xs us Q I r h
 obtain⟨z,rfl,hz,q⟩:=h
 obtain⟨u,rfl,t,rfl⟩:=vals1 r
 have hn:=line63
 exact len_str (by omega) ⟨.int z.length,H,I.tok _,⟨_,rfl⟩,q⟩
theorem CallR.or {f:Value}{r r':List V→Hp→VK→Prop}(h:CallR X f r)(h':CallR X f r'):CallR X f (fun xs H Q=>r xs H Q∨r' xs H Q):=by
 intro pins s σ H xs us Q I rs q
 rcases q with q|q
 ·exact h pins s σ H xs us Q I rs q
 ·exact h' pins s σ H xs us Q I rs q
inductive r_call_list_of (K:PySem.W.Frag)(xs:List V)(H:Hp)(Q:VK):Prop where
 |mk (p) (ys):(xs=[.ref p])→((SqL K H p ys∨SqT K H p ys))→(∀l,H l=none→Q (.ref l) (upd H l (.lst ys)))→r_call_list_of K xs H Q
theorem call_list_of:CallR X (.type "list") (r_call_list_of X.K):=by
 intro pins s σ H xs us Q I r h
 obtain⟨p,ys,rfl,hq,q⟩:=h
 obtain⟨u,rfl,rx⟩:=vals1 r
 cases rx
 have fin:∀(its:List Value),Vals ys its→ys.length≤sizeLine→∀(h':Heap) (c':Nat),(∀b o',s.heap.get? b=some o'→h'.get? b=some o')→
   h'.get? s.heap.objs.size=some {cls:=.type "list",dict:=none,data:=.seq its.toArray c',slots:=#[]}→EP X pins σ Q (.ref s.heap.objs.size) {s with heap:=h'}:=fun its r' hz h' c' kp e=>
  ⟨.ref s.heap.objs.size,_,I.laid (t':=s.toks) kp (Nat.le_refl _) (show ObjOk X.prog X.w _ h' _ (.lst ys) from⟨hz,its,c',r',e⟩),rfl,q _ (I.hok.fresh (Nat.le_refl _))⟩
 rcases hq with hq|hq
 ·obtain⟨its,r',pl,hz⟩:=I.list hq
  have hlen:=r'.length
  obtain⟨o,ho,hc,n,hd⟩:=pl.isList
  exact call_list_seq p (.inl rfl) ho hc hd (fun h' c' kp e=>fin its r' hz h' c' kp e) (by simp only[List.size_toArray]<;>omega)
 ·obtain⟨its,r',pl,hz⟩:=I.tuple hq
  have hlen:=r'.length
  obtain⟨o,ho,hc,n,hd⟩:=pl
  exact call_list_seq p (.inr rfl) ho hc hd (fun h' c' kp e=>fin its r' hz h' c' kp e) (by simp only[List.size_toArray]<;>omega)
inductive r_call_tuple_of (K:PySem.W.Frag)(xs:List V)(H:Hp)(Q:VK):Prop where
 |mk (p) (ys):(xs=[.ref p])→(((SqL K H p ys∧∀l,H l=none→Q (.ref l) (upd H l (.tup ys)))∨(SqT K H p ys∧Q (.ref p) H)))→r_call_tuple_of K xs H Q
theorem call_tuple_of:CallR X (.type "tuple") (r_call_tuple_of X.K):=by
 intro pins s σ H xs us Q I r h
 obtain⟨p,ys,rfl,h⟩:=h
 obtain⟨u,rfl,rx⟩:=vals1 r
 cases rx
 rcases h with ⟨hq,q⟩|⟨hq,q⟩
 ·obtain⟨its,r',pl,hz⟩:=I.list hq
  have hlen:=r'.length
  refine call_tuple_list pl.isList (fun h' kp=>?_) (by simp only[List.size_toArray]<;>omega)
  have I1:Inv X pins σ H {s with heap:=h'}:=I.kept (t':=s.toks) kp
  have I2:Inv X pins σ (upd H h'.objs.size (.tup ys)) {s with heap:=h'.push {cls:=.type "tuple",data:=.seq its.toArray}} :=
   I1.laid (t':=s.toks) (fun b o e=>Heap.get?_push_of_some _ e) (Nat.le_refl _) (show ObjOk X.prog X.w _ _ _ (.tup ys) from⟨hz,its,r',IsTup.new _ _⟩)
  exact⟨.ref h'.objs.size,_,I2,rfl,q _ (I1.hok.fresh (Nat.le_refl _))⟩
 ·obtain⟨its,r',pl,hz⟩:=I.tuple hq
  exact call_tuple_same pl ⟨.ref p,H,I,rfl,q⟩
def tyV (K:PySem.W.Frag)(T:String)(x:V)(H:Hp):Prop:=match x with
 |.str _=>T="str"
 |.int _=>T="int"
 |.ref p=>(T="list"∧∃xs,SqL K H p xs)∨(T="tuple"∧∃o,K.lookup p=some o∧o.cls=.type "tuple"∧o.dict=none)∨
   (T="dict"∧((∃kvs,H p=some (.dK kvs))∨∃kvs,H p=some (.dT kvs)))∨(T="set"∧∃S n,H p=some (.set S n))
 |_=>False
theorem tyV_is {pins:List (Addr×Obj)}{σ:St}{H:Hp}{s:Shared}{T:String}{x:V}{v:Value}(I:Inv X pins σ H s)(r:RelV x v)(ty:tyV X.K T x H):
  s.TypeIs v T∧∀a,v=.ref a→∃ob,s.heap.get? a=some ob∧ob.dict=none:=by
 cases x with
 |str z=>
  obtain⟨t,rfl⟩:=r
  cases(show T="str" from ty)
  exact⟨typeIs_str s z t,fun _ e=>nomatch e⟩
 |int i=>
  obtain⟨t,rfl⟩:=r
  cases(show T="int" from ty)
  exact⟨typeIs_int s i t,fun _ e=>nomatch e⟩
 |ref p=>
  cases r
  rcases ty with ⟨rfl,xs,hq⟩|⟨rfl,o,hk,hc,hd⟩|⟨rfl,hk⟩|⟨rfl,S,n,hk⟩
  ·obtain⟨its,_,pl,_⟩:=I.list hq
   refine⟨pl.isList.typeIs,fun a e=>?_⟩
   cases e
   obtain⟨o,n,e,c,hd,_⟩:=pl
   exact⟨o,e,hd⟩
  ·refine⟨⟨o,I.kIn p o hk,hc⟩,fun a e=>?_⟩
   cases e
   exact⟨o,I.kIn _ o hk,hd⟩
  ·have z:∃o,s.heap.get? p=some o∧o.ExactDict:=by
    rcases hk with ⟨kvs,hk⟩|⟨kvs,hk⟩
    ·obtain⟨_,_,_,_,o,_,_,e,ex,_⟩:=I.hok p _ hk
     exact⟨o,e,ex⟩
    ·obtain⟨_,_,_,_,o,_,_,e,ex,_⟩:=I.hok p _ hk
     exact⟨o,e,ex⟩
   obtain⟨o,e,ex⟩:=z
   refine⟨⟨o,e,ex.1⟩,fun a e2=>?_⟩
   cases e2
   exact⟨o,e,ex.2.1⟩
  ·obtain⟨o,_,_,_,e,ex,_⟩:=I.hok p _ hk
   refine⟨⟨o,e,ex.1⟩,fun a e2=>?_⟩
   cases e2
   exact⟨o,e,ex.2.1⟩
 |_=>exact False.elim ty
inductive tBM0_ (K:PySem.W.Frag)(T:String)(r:V→List V→Hp→VK→Prop)(Q:VK)(x:V)(H1:Hp):Prop where
 |mk:(tyV K T x H1)→(r x [] H1 Q)→tBM0_ K T r Q x H1
def tBM0 (K:PySem.W.Frag)(T:String)(r:V→List V→Hp→VK→Prop)(to:TE):TE:=fun σ H Q=>to σ H (tBM0_ K T r Q)
inductive tBM_ (K:PySem.W.Frag)(T:String)(r:V→List V→Hp→VK→Prop)(t:TA)(σ:St)(Q:VK)(x:V)(H1:Hp):Prop where
 |mk:(tyV K T x H1)→(t σ H1 fun xs H2=>r x xs H2 Q)→tBM_ K T r t σ Q x H1
def tBM (K:PySem.W.Frag)(T:String)(r:V→List V→Hp→VK→Prop)(to:TE)(t:TA):TE:=fun σ H Q=>to σ H (tBM_ K T r t σ Q)
variable {o e:Expr}{es:List Expr}{to:TE}{t:TA}{name:Str}{apos cpos:Pos}{T id:String}{r:V→List V→Hp→VK→Prop}
theorem pe_bm0 (pa:PlainAttrs T)(slot:Slot T name id)(hty:typeOf (.builtin id)=pure (.type "method_descriptor"))(hm:MtR X id r)(ho:PE X o to)
  (hbase:attributeBase o name X.env (eval o X.env)=eval o X.env:=by rfl) (hline:(apos.endLine==cpos.line)=true:=by rfl):PE X (.Call (.Attribute o name apos) [] [] cpos) (tBM0 X.K T r to):=by
 intro pins s σ H Q I h
 refine wpAny_Call_method0_late hbase hline (thn (ho pins s σ H _ I h) fun v s1 ⟨x,H1,I1,r1,ty,q1⟩=>?_)
 obtain⟨h1,h2⟩:=tyV_is I1 r1 ty
 exact⟨T,id,pa,slot,hty,h1,h2,Calls.callWith_builtin rfl (PySem.evalArgs_none (hm pins s1 σ H1 x [] v [] Q I1 r1 .nil q1))⟩
theorem pe_bm (pa:PlainAttrs T)(slot:Slot T name id)(hty:typeOf (.builtin id)=pure (.type "method_descriptor"))(hm:MtR X id r)(ho:PE X o to)(ha:PA X (e::es) t)
  (hbase:attributeBase o name X.env (eval o X.env)=eval o X.env:=by rfl)
  (hfew:((backTo cpos (starEach (e::es) X.env)).all (fun x=>!x.1)&&(backToKw cpos (keywordEach [] X.env)).all (fun x=>x.1.isSome)
   &&decide ((e::es).length+([]:List Keyword).length+(if([]:List Keyword).isEmpty then 0 else 1)<30))=true:=by rfl)
  (hline:(apos.endLine==cpos.line)=true:=by rfl) (hs:starEach (e::es) X.env=(false,eval e X.env)::starEach es X.env:=by rfl) (hplain:(backTo cpos (starEach es X.env)).any (·.1)=false:=by rfl):
  PE X (.Call (.Attribute o name apos) (e::es) [] cpos) (tBM X.K T r to t):=by
 intro pins s σ H Q I h
 refine wpAny_Call_method_late hbase hfew hline rfl (thn (ho pins s σ H _ I h) fun v s1 ⟨x,H1,I1,r1,ty,q1⟩=>?_)
 obtain⟨h1,h2⟩:=tyV_is I1 r1 ty
 refine⟨T,id,pa,slot,hty,h1,h2,?_⟩
 have hA:=ha cpos pins s1 σ H1 _ I1 q1
 rw[hs]at hA ⊢
 refine Calls.callWith_builtin (by show(false||(backTo cpos (starEach es X.env)).any (·.1))=false;rw[hplain]<;>rfl) (Calls.evalArgs_plain ?_)
 exact thn hA fun us s2 ⟨vs,H2,I2,r2,q2⟩=>hm pins s2 σ H2 x vs v us Q I2 r1 r2 q2
end
def MtM (X:Cx)(id:String)(r:V→List V→Hp→VK→Prop):Prop :=
 ∀(pins:List (Addr×Obj)) (s:Shared) (σ:St) (H:Hp) (x:V) (xs:List V) (v:Value) (us:List Value) (Q:VK),Inv X pins σ H s→RelV x v→Vals xs us→r x xs H Q→
  wpAny (model X.prog X.w) X.A (call (.builtin id) (v::us)) (EP X pins σ Q) X.xe s
theorem Vals.one {x:V}{us:List Value}(h:Vals [x] us):∃u,us=[u]∧RelV x u:=by
 cases h with
 |cons r t=>cases t;exact⟨_,rfl,r⟩
theorem Vals.zero:∀{us:List Value},Vals [] us→us=[]
 |_, .nil=>rfl
theorem Vals.dropLast {xs:List V}{us:List Value}(h:Vals xs us):Vals xs.dropLast us.dropLast:=by
 induction h with
 |nil=>exact .nil
 |cons r t ih=>
  cases t with
  |nil=>exact .nil
  |cons q t'=>exact .cons r ih
theorem Vals.eraseIdx:∀{xs:List V} {us:List Value} (i:Nat),Vals xs us→Vals (xs.eraseIdx i) (us.eraseIdx i)
 |_,_,_, .nil=>.nil
 |_,_,0, .cons _ t=>t
 |_,_,i+1, .cons r t=>.cons r (Vals.eraseIdx i t)
theorem erase_last {α:Type}(l:List α):l.eraseIdx (l.length-1)=l.dropLast:=by
 induction l with
 |nil=>rfl
 |cons a r ih=>
  cases r with
  |nil=>rfl
  |cons b r=>
   have e:(a::b::r).length-1=((b::r).length-1)+1:=by
    have h1:(a::b::r).length=r.length+2:=rfl
    have h2:(b::r).length=r.length+1:=rfl
    exact rfl
   rw[e,List.eraseIdx_cons_succ,ih]
   all_goals rfl
theorem len_erase {α:Type}:∀(l:List α) (i:Nat),(l.eraseIdx i).length≤l.length
 |[],_=>Nat.le_refl _
 |_::_,0=>Nat.le_succ _
 |_::r,i+1=>Nat.succ_le_succ (len_erase r i)
section
variable {X:Cx}{pins:List (Addr×Obj)}{σ:St}{H:Hp}{s:Shared}{l b:Addr}{xs ys zs:List V}
theorem Inv.lset {its its':List Value}{n:Nat}{f:Array Value→Array Value}{t':Nat}(I:Inv X pins σ H s)(hH:H l=some (.lst xs))
  (e:s.heap.get? l=some {cls:=.type "list",data:=.seq its.toArray n}) (hf:f its.toArray=its'.toArray) (hv:Vals ys its') (hz:ys.length≤sizeLine):
  Inv X pins σ (upd H l (.lst ys)) {s with heap:=s.heap.update l (Obj.mapSeq f),toks:=t'}:=by
 have q:=PySem.IsL.update e f
 rw[hf]at q
 refine I.write (x:=l) (e:=l) (by rw[hH];exact trivial) (.inl rfl) (fun b' u hb hu=>(Heap.get?_update_other s.heap (Obj.mapSeq f) (Ne.symm hb)).trans hu) ⟨_,q⟩ ?_
 exact⟨hz,its',_,hv,q⟩
theorem Inv.lnew {its:List Value}{t':Nat}(I:Inv X pins σ H s)(hv:Vals ys its)(hz:ys.length≤sizeLine):
  Inv X pins σ (upd H s.heap.objs.size (.lst ys)) {s with heap:=s.heap.push {cls:=.type "list",data:=.seq its.toArray},toks:=t'} :=
 I.laid (fun _ _ q=>Heap.get?_push_of_some _ q) (Nat.le_refl _) ⟨hz,its,0,hv,Heap.get?_push_size _ rfl⟩
theorem Inv.fresh (I:Inv X pins σ H s):H s.heap.objs.size=none:=I.hok.fresh (Nat.le_refl _)
theorem Inv.lstM (I:Inv X pins σ H s)(hH:H l=some (.lst xs)):xs.length≤sizeLine∧∃(its:List Value) (n:Nat),Vals xs its∧xs.length=its.length∧s.heap.get? l=some {cls:=.type "list",data:=.seq its.toArray n}:=by
 obtain⟨z,its,n,r,e⟩:=I.hok l _ hH
 exact⟨z,its,n,r,r.length,e⟩
theorem notLongL {n:Nat}(h:n≤sizeLine):Builtin.List.listTooLong n=false:=by
 unfold Builtin.List.listTooLong
 exact decide_eq_false (by exact Nat.not_lt.mpr h)
end
section
variable {X:Cx}
inductive rAppend_ (x:V)(vs:List V)(H:Hp)(Q:VK):Prop where
 |mk (l) (xs) (y):(x=.ref l)→(vs=[y])→(H l=some (.lst xs))→(xs.length<sizeLine)→(Q .non (upd H l (.lst (xs++[y]))))→rAppend_ x vs H Q
def rAppend:V→List V→Hp→VK→Prop:=rAppend_
theorem mt_append:MtM X "list.append" rAppend:=by
 intro pins s σ H x vs v us Q I rx rv h
 obtain⟨l,xs,y,rfl,rfl,hH,hz,q⟩:=h
 cases rx
 obtain⟨u,rfl,ru⟩:=rv.one
 obtain⟨z,its,n,r,hl,e⟩:=I.lstM hH
 refine call_meets F.slot_list_append ⟨_,e,rfl⟩ F.entry_list_append (F.args_list_append_2 _ _) (PySem.list_append l its.toArray n u (by rw[List.size_toArray];omega)) ⟨e,?_⟩
 refine⟨.non,_,I.lset (its':=its++[u]) hH e (by simp) (r.append (.cons ru .nil)) ?_,rfl,q⟩
 rw[List.length_append,List.length_singleton]
 exact hz
inductive rExtend_ (x:V)(vs:List V)(H:Hp)(Q:VK):Prop where
 |mk (l) (b) (xs) (zs):(x=.ref l)→(vs=[.ref b])→(H l=some (.lst xs))→(H b=some (.lst zs))→(xs.length+zs.length≤sizeLine)→(Q .non (upd H l (.lst (xs++zs))))→rExtend_ x vs H Q
def rExtend:V→List V→Hp→VK→Prop:=rExtend_
theorem mt_extend:MtM X "list.extend" rExtend:=by
 intro pins s σ H x vs v us Q I rx rv h
 obtain⟨l,b,xs,zs,rfl,rfl,hH,hB,hz,q⟩:=h
 cases rx
 obtain⟨u,rfl,ru⟩:=rv.one
 cases ru
 obtain⟨z,its,n,r,hl,e⟩:=I.lstM hH
 obtain⟨z2,its2,n2,r2,hl2,e2⟩:=I.lstM hB
 have hsz:its.toArray.size+its2.toArray.size≤sizeLine:=by rw[List.size_toArray,List.size_toArray];omega
 have hlong:¬(!its.toArray.isEmpty&&Builtin.List.listTooLong (its.toArray.size+its2.toArray.size))=true:=by
  rw[notLongL hsz,Bool.and_false]
  exact Bool.false_ne_true
 refine call_meets F.slot_list_extend ⟨_,e,rfl⟩ F.entry_list_extend (F.args_list_extend_2 _ _)
  (AutoSeq1.list_extend_list_list_0 l its.toArray n b its2.toArray n2 hlong (by rw[List.size_toArray];exact Nat.le_trans (Nat.le_add_right _ _) hsz) (by exact Nat.le_succ_of_le hsz)) ⟨e,e2,?_⟩
 refine⟨.non,_,I.lset (its':=its++its2) hH e (by simp) (r.append r2) ?_,rfl,q⟩
 rw[List.length_append]
 exact hz
inductive rPop_ (x:V)(vs:List V)(H:Hp)(Q:VK):Prop where
 |mk (l) (xs) (y):(x=.ref l)→(vs=[])→(H l=some (.lst xs))→(xs[xs.length-1]?=some y)→(Q y (upd H l (.lst xs.dropLast)))→rPop_ x vs H Q
def rPop:V→List V→Hp→VK→Prop:=rPop_
theorem mt_pop:MtM X "list.pop" rPop:=by
 intro pins s σ H x vs v us Q I rx rv h
 obtain⟨l,xs,y,rfl,rfl,hH,hy,q⟩:=h
 cases rx
 have hus:=rv.zero
 subst hus
 obtain⟨z,its,n,r,hl,e⟩:=I.lstM hH
 obtain⟨u,hu,ru⟩:=r.get hy
 have hy':its.toArray[its.toArray.size-1]?=some u:=by
  show its.toArray[its.length-1]?=some u
  rw[←Array.getElem?_toList,←hl]
  exact hu
 refine call_meets F.slot_list_pop ⟨_,e,rfl⟩ F.entry_list_pop (F.args_list_pop_1 _) (MeetsSeq.list_pop_last l its.toArray n u hy' (by rw[List.size_toArray];omega)) ⟨e,?_⟩
 refine⟨y,_,I.lset (its':=its.dropLast) hH e ?_ r.dropLast ?_,ru,q⟩
 ·show its.toArray.eraseIdxIfInBounds (its.toArray.size-1)=its.dropLast.toArray
  rw[List.size_toArray,List.eraseIdxIfInBounds_toArray,erase_last]
 ·rw[List.length_dropLast]
  omega
def rPopAt:V→List V→Hp→VK→Prop:=fun x vs H Q=>∃l xs i k y,x=.ref l∧vs=[.int i]∧H l=some (.lst xs)∧-(2^63)≤i∧i<2^63∧seqIndex? i xs.length=some k∧xs[k]?=some y∧Q y (upd H l (.lst (xs.eraseIdx k)))
theorem mt_popAt:MtM X "list.pop" rPopAt:=by
 intro pins s σ H x vs v us Q I rx rv h
 obtain⟨l,xs,i,k,y,rfl,rfl,hH,h1,h2,hk,hy,q⟩:=h
 cases rx
 obtain⟨u,rfl,ru⟩:=rv.one
 obtain⟨t,rfl⟩:=ru
 obtain⟨z,its,n,r,hl,e⟩:=I.lstM hH
 obtain⟨w,hw,rw'⟩:=r.get hy
 refine call_meets F.slot_list_pop ⟨_,e,rfl⟩ F.entry_list_pop (F.args_list_pop_2 _ _)
  (MeetsSeq.list_pop_at l its.toArray n i t k w (fitsIndex_both h1 h2) (by rw[List.size_toArray,←hl];exact hk) (by rw[←Array.getElem?_toList];exact hw) (by rw[List.size_toArray];omega)) ⟨e,?_⟩
 refine⟨y,_,I.lset (its':=its.eraseIdx k) hH e ?_ (r.eraseIdx k) ?_,rw',q⟩
 ·show its.toArray.eraseIdxIfInBounds k=(its.eraseIdx k).toArray
  rw[List.eraseIdxIfInBounds_toArray]
 ·have:=len_erase xs k
  exact Nat.le_trans this z
inductive rReverse_ (x:V)(vs:List V)(H:Hp)(Q:VK):Prop where
 |mk (l) (xs):(x=.ref l)→(vs=[])→(H l=some (.lst xs))→(Q .non (upd H l (.lst xs.reverse)))→rReverse_ x vs H Q
inductive rCat_ (x:V)(y:V)(H:Hp)(Q:VK):Prop where
 |mk (l) (b) (xs) (zs):(x=.ref l)→(y=.ref b)→(H l=some (.lst xs))→(H b=some (.lst zs))→(xs.length+zs.length≤sizeLine)→(∀p,H p=none→Q (.ref p) (upd H p (.lst (xs++zs))))→rCat_ x y H Q
def rCat:R2:=rCat_
theorem op_cat:OpR X (binaryOp .Add) rCat:=by
 intro pins s σ H x y v u Q I rx ry h
 obtain⟨l,b,xs,zs,rfl,rfl,hH,hB,hz,q⟩:=h
 cases rx
 cases ry
 obtain⟨z,its,n,r,hl,e⟩:=I.lstM hH
 obtain⟨z2,its2,n2,r2,hl2,e2⟩:=I.lstM hB
 refine PySem.P.add_list e e2 ?_ (by rw[List.size_toArray,List.size_toArray];omega)
 have ea:its.toArray++its2.toArray=(its++its2).toArray:=by simp
 rw[ea]
 exact⟨.ref _,_,I.lnew (t':=s.toks) (r.append r2) (by rw[List.length_append];exact hz),rfl,q _ I.fresh⟩
inductive rRep_ (x:V)(y:V)(H:Hp)(Q:VK):Prop where
 |mk (l) (k) (xs):(x=.ref l)→(y=.int k)→(H l=some (.lst xs))→(-(2^63)≤k)→(k<2^63)→(xs.length*k.toNat≤sizeLine)→(∀p,H p=none→Q (.ref p) (upd H p (.lst (List.replicate k.toNat xs).flatten)))→rRep_ x y H Q
end
section
variable {prog:Program}{w:World}{A:Around}{E:Value→Shared→Prop}{s:Shared}
end
section
variable {X:Cx}
end
end L2
namespace Att
open PySem PySem.W PySem.Calls PyProof.Rows
theorem ints_of_wellAll {P:Params}{h:Heap}:∀(ns:List Int) (vs:List Value),WellAll P h vs (ns.map WData.int)→IntsAre vs ns:=by
 intro ns
 induction ns with
 |nil=>
  intro vs w
  rw[List.map_nil]at w
  cases w
  exact .nil
 |cons n ns ih=>
  intro vs w
  rw[List.map_cons]at w
  cases w with
  |cons a b=>
   cases a
   exact .cons _ _ (ih _ b)
theorem script_of {l:OpenLaw}{n:Nat}(hn:l.most=some n){P:Params}{h:Heap}{args:List WData}{vals:List Value}
  (hpre:l.row.toRowW.claim.pre args=true) (hwl:WellAll P h vals args):
  ∃a vs ns,vals=[Value.ref a]∧args=[WData.list (ns.map WData.int)]∧h.get? a=some {cls:=.type "list",data:=.seq vs.toArray}∧IntsAre vs ns∧ns.length≤n:=by
 have hsh:WShape.hasAll [] args [.list .int]=true:=(pre_splitW hpre).1
 have hc:l.pre.holds [] {args:=args}=true:=(pre_splitW hpre).2
 obtain⟨d,r,rfl,h1,h2⟩:=hasAllW_cons hsh
 obtain rfl:=hasAllW_nil h2
 obtain⟨xs,rfl,h3⟩:=hasW_list h1
 obtain⟨ns,rfl⟩:=items_int h3
 have hlen:ns.length≤n:=by
  unfold OpenLaw.pre at hc
  have h4:(WTm.not (.lt (.lit (.int (n:Int))) (.len (.arg 0)))).holds [] {args:=[.list (ns.map .int)]}=true:=by
   have h4:=(holds_andW hc).1
   rw[hn]at h4
   exact h4
  have h5:=condW_of h4 (w_not (w_lt w_lit (w_len_list (w_arg rfl))))
  rw[List.length_map]at h5
  refine Nat.le_of_not_lt fun q=>?_
  have q':(n:Int)<((ns.length:Nat):Int):=by omega
  first
   |(rw[decide_eq_true q']at h5;exact absurd h5 (by decide))
   |(simp at h5;omega)
 cases hwl with
 |cons w1 w2=>
  cases w2
  cases w1 with
  |list ho hall=>exact⟨_,_,ns,rfl,rfl,ho,ints_of_wellAll ns _ hall,hlen⟩
theorem post_true (l:OpenLaw)(args:List WData):l.row.toRowW.claim.post args (.bool true) args=true :=
 postW_of (r:=l.row.toRowW) (X:=(true==true))
  (show WShape.has [] (.bool true) .bool=true by first|rfl|decide|simp[WShape.has,WShape.arms,WShape.armsAll])
  (show(WTm.eq .res (.lit (.bool true))).value [] {args:=args,res:=some (.bool true),after:=args}=some (.bool (true==true)) from w_eq_bool (w_res rfl) w_lit) rfl
theorem attach_call {l:OpenLaw}{n:Nat}{q:Program}{loose:List Str}{XP:(Str→Option Value)→Heap→Prop}{YP:World→Heap→Prop}{d:DefRec}
  (hn:l.most=some n) (hdf:d.params.defaults=[])
  (call:∀(w:World) (s₀ s₁:Shared) (mg mb:Str→Option Value) (fa:Addr) (o:Obj) (pm cd doc:Value) (a:Addr) (vs:List Value) (ns:List Int),
   Ground q loose [] XP w s₀ mg mb s₁.heap→YP w s₁.heap→
   s₁.heap.get? fa=some o→o.data=.func (docDef d.name d.params d.body d.scope pm cd doc)→s₁.heap.CodeRec cd d.name→mg d.name=some (.ref fa)→
   s₁.heap.get? a=some {cls:=.type "list",data:=.seq vs.toArray}→IntsAre vs ns→ns.length≤n→s₁.gens=#[]→
   codeAny (model l.prog w) callerA (.call (.ref fa) ⟨[.ref a],[]⟩) (fun r s'=>r=.ok (.ret (.bool true))∧OldK s₁.heap s'.heap∧s'.os=s₁.os∧AllBare s'.gens) s₁):
  WalkO q loose XP YP l.row.toRowW d [] (fun f vs=>PySem.call f vs):=by
 intro w s₀ s₁ mg mb G Y fa o pm cd doc dV kV ho hd hcd hD hmg hg args vals as hpre hlay hrd hwl hlo
 obtain rfl:dV=.none:=Dflts.none hD hdf
 obtain rfl:kV=.none:=Dflts.noKw hD
 obtain⟨a,vs,ns,rfl,rfl,hobj,hints,hlen⟩:=script_of hn hpre hwl
 refine enter_call (codeAny_mono (call w s₀ s₁ mg mb fa o pm cd doc a vs ns G Y ho (fd_plain hd) hcd hmg hobj hints hlen hg) fun r s' hq=>?_)
 obtain⟨rfl,h2,h3,h4⟩:=hq
 exact⟨.inl ⟨.bool true, .bool true,[],rfl,fun _=>rfl, .bool true,post_true l _,fun _=>⟨List.Pairwise.nil,fun _ hm=>(nomatch hm)⟩⟩,h2,h3,h4⟩
section
variable {prog:Program}{w:World}{A:Around}{E:Value→Shared→Prop}{s:Shared}{K:Frag}
end
end Att
namespace L2
open PySem PySem.Spec PyProof.Rows
theorem vals_ints:∀{vs:List Value} {ns:List Int},IntsAre vs ns→Vals (ns.map V.int) vs
 |_,_, .nil=>.nil
 |_,_, .cons n t h=>.cons ⟨t,rfl⟩ (vals_ints h)
def Only (H:Hp):Prop:=∀b,H b=none∨∃o xs,H b=some (.frz o (.lst xs))
theorem law_call {P:Program}{w:World}{K:PySem.W.Frag}{mg mb:Str→Option Value}{CX:CXT}{k:Nat}{fa a:Addr}{fd:FuncData}{x:Str}{sp:Sp}{s₁:Shared}{vs:List Value}{ns:List Int}
  (KX:K.In s₁.heap) (hns:s₁.heap.Ns mainGlobals mg) (hb:s₁.heap.Ns builtinsNs mb) (hbb:∀x:Str,x≠"__name__"→mb x=bootBuiltins x) (hlim:s₁.heap.NoLimit) (hg:s₁.gens=#[])
  (ha:s₁.heap.get? a=some {cls:=.type "list",data:=.seq vs.toArray}) (hi:IntsAre vs ns) (hl:ns.length≤sizeLine) (hr:Room k callerA)
  (F:∀base:Heap,K.In base→base.Ns mainGlobals mg→FnOk P w K mg base CX k fa fd [x] sp) (hbind:∀(s:Shared) (u:Value),BindsTo s fd ⟨[u],[]⟩ [(x,u)])
  (hsp:∀H:Hp,Only H→SqL K H a (ns.map V.int)→sp [.ref a] H (fun v _=>v=.bl true) fun _ _ _=>False)
  (hCX:∀H e s',CX [] H s₁ (fun _ _ _=>False) e s'→False):
  codeAny (model P w) callerA (.call (.ref fa) ⟨[.ref a],[]⟩) (fun r s'=>r=.ok (.ret (.bool true))∧OldK s₁.heap s'.heap∧s'.os=s₁.os∧AllBare s'.gens) s₁:=by
 have rv:=vals_ints hi
 have lenV:=hi.length
 have core:∀H:Hp,Only H→SqL K H a (ns.map V.int)→HOk P w H s₁.heap→(∀b,H b≠none→b=a)→(H a≠none→K.lookup a=none)→
   codeAny (model P w) callerA (.call (.ref fa) ⟨[.ref a],[]⟩) (fun r s'=>r=.ok (.ret (.bool true))∧OldK s₁.heap s'.heap∧s'.os=s₁.os∧AllBare s'.gens) s₁:=by
  intro H hO hS hok hA hK
  have base_of:∀{b:Addr} {o:Obj},s₁.heap.get? b=some o→H b=none→(hidT s₁.heap H).get? b=some o:=fun e n=>hidT_get e n
  have noA:∀{b:Addr} {o:Obj} {es:Array DictEntry} {ep:Nat},s₁.heap.get? b=some o→o.data=.dict es ep→H b=none:=fun{b o es ep} e d=>by
   cases q:H b with
   |none=>rfl
   |some u=>
    have e':b=a:=hA b (by rw[q];simp)
    subst e'
    rw[ha]at e;cases e
    have d':Data.seq vs.toArray _=Data.dict es ep:=d
    cases d'
  have nsK:∀{b:Addr} {m:Str→Option Value},s₁.heap.Ns b m→(hidT s₁.heap H).Ns b m:=fun{b m} ⟨o,es,ep,e,d,r⟩=>⟨o,es,ep,base_of e (noA e d),d,r⟩
  have hKb:K.In (hidT s₁.heap H):=fun b o e=>base_of (KX b o e) (by
   cases q:H b with
   |none=>rfl
   |some u=>
    have e':b=a:=hA b (by rw[q];simp)
    subst e'
    rw[hK (by rw[q];simp)]at e;cases e)
  have hM:Mod K mg (hidT s₁.heap H):=⟨hKb,nsK hns,⟨mb,nsK hb,hbb⟩,let ⟨mc,h1,h2⟩:=hlim;⟨mc,nsK h1,h2⟩⟩
  have e0:Env0 P w K mg (hidT s₁.heap H) callerA [] s₁ H:=⟨rfl,hM,fun b o e=>of_hidT e,Nat.le_of_eq (hidT_size _ _),trivial,fun b hb=>absurd (show b∈([]:List Addr) from hb) (by simp),hok, .of_eq hg⟩
  refine codeAny_mono ((F _ hKb (nsK hns)).run callerA [] s₁ H ⟨[.ref a],[]⟩ [.ref a] [.ref a] _ _ hr e0 (hbind s₁ (.ref a)) (.cons rfl .nil) (hsp H hO hS)) fun r s' h=>?_
  cases r with
  |error e=>exact(hCX H e s' h).elim
  |ok fl=>
   cases fl with
   |next=>exact False.elim h
   |brk=>exact False.elim h
   |cont=>exact False.elim h
   |ret u=>
    obtain⟨v,H',os,bare,un,hok',r',q⟩:=h
    have q':v=.bl true:=q
    subst q'
    obtain rfl:u=Value.bool true:=r'
    refine⟨rfl,OldK.of_keep fun b o e=>?_,os,bare⟩
    cases q:H b with
    |none=>exact un.keep b o e q (by intro z;exact absurd (show b∈([]:List Addr) from z) (by simp)) (by simp)
    |some u=>
     rcases hO b with z|⟨ob,xs,z⟩
     ·rw[q]at z;cases z
     ·have z2:=un.frzs b ob _ z
      obtain⟨e1,_⟩:=hok b _ z
      obtain⟨e2,_⟩:=hok' b _ z2
      rw[e]at e1;cases e1
      exact e2
 cases hk:K.lookup a with
 |some o=>
  have e:=KX a o hk
  rw[ha]at e
  cases e
  refine core (fun _=>none) (fun _=>.inl rfl) (.inr ⟨_,vs.toArray,_,hk,rfl,rfl,rfl,by rw[List.size_toArray,lenV];exact hl,by simpa using rv⟩) (fun b u z=>by have z':(none:Option HO)=some u:=z;cases z') (fun b z=>absurd rfl z) fun z=>absurd rfl z
 |none=>
  refine core (fun b=>if b=a then some (.frz {cls:=.type "list",data:=.seq vs.toArray} (.lst (ns.map V.int))) else none) (fun b=>?_) (.inl (.inr ⟨{cls:=.type "list",data:=.seq vs.toArray},if_pos rfl⟩)) (fun b u z=>?_) (fun b z=>?_) fun _=>hk
  ·by_cases hb:b=a
   ·exact .inr ⟨_,_,if_pos hb⟩
   ·exact .inl (if_neg hb)
  ·by_cases hb:b=a
   ·have z':=(if_pos hb).symm.trans z
    cases z'
    subst hb
    exact⟨ha,by rw[List.length_map];exact hl,vs,_,rv,ha⟩
   ·have z':=(if_neg hb).symm.trans z
    cases z'
  ·by_cases hb:b=a
   ·exact hb
   ·exact absurd (if_neg hb) z
theorem walk_of {l:PySem.W.OpenLaw}{n k:Nat}{q:Program}{loose:List Str}{XP:(Str→Option Value)→Heap→Prop}{YP:World→Heap→Prop}{d:DefRec}{K:Params→PySem.W.Frag}{CX:World→CXT}{sp:World→Sp}{x:Str}
  (hn:l.most=some n) (hn2:n≤sizeLine) (hdf:d.params.defaults=[]) (hr:Room k callerA)
  (hY:∀(w:World) (h:Heap),YP w h→(K w.params).In h)
  (F:∀(w:World) (mg:Str→Option Value) (fa:Addr) (h:Heap),(K w.params).In h→h.Ns mainGlobals mg→mg d.name=some (.ref fa)→
   ∃fd:FuncData,(∀(s:Shared) (u:Value),BindsTo s fd ⟨[u],[]⟩ [(x,u)])∧
    ∀base:Heap,(K w.params).In base→base.Ns mainGlobals mg→FnOk l.prog w (K w.params) mg base (CX w) k fa fd [x] (sp w))
  (hsp:∀(w:World) (H:Hp) (a:Addr) (ns:List Int),ns.length≤n→Only H→SqL (K w.params) H a (ns.map V.int)→sp w [.ref a] H (fun v _=>v=.bl true) fun _ _ _=>False)
  (hCX:∀(w:World) (H:Hp) (s:Shared) (e:Value) (s':Shared),CX w [] H s (fun _ _ _=>False) e s'→False):
  PySem.W.WalkO q loose XP YP l.row.toRowW d [] (fun f vs=>PySem.call f vs):=by
 refine Att.attach_call hn hdf fun w s₀ s₁ mg mb fa o pm cd doc a vs ns G Y ho hd hcd hmg hobj hints hlen hg=>?_
 have KX:=hY w _ Y
 obtain⟨fd,hb,hF⟩:=F w mg fa _ KX G.T.g hmg
 exact law_call KX G.T.g G.T.b G.T.builtins G.T.nolimit hg hobj hints (Nat.le_trans hlen hn2) hr hF hb (fun H hO hS=>hsp w H a ns hlen hO hS) fun H e s'=>hCX w H s₁ e s'
def defArgs (s:Stmt):Arguments:=match s with
 |.FunctionDef _ a _ _ _ _ _ _ _ _=>a
 |_=>{posonlyargs:=[],args:=[],vararg:=none,kwonlyargs:=[],kw_defaults:=[],kwarg:=none,defaults:=[]}
def defBody (s:Stmt):List Stmt:=match s with
 |.FunctionDef _ _ b _ _ _ _ _ _ _=>b
 |_=>[]
def defScope (s:Stmt):Scope:=match s with
 |.FunctionDef _ _ _ _ _ _ sc _ _ _=>sc
 |_=>{kind:=.function,names:=[],isGenerator:=false,isCoroutine:=false}
abbrev CX0:CXT:=fun _ _ _ _ _ _=>False
abbrev E0:XK:=fun _ _ _=>False
theorem pass0 {X:Cx}:Passes CX0 X E0:=fun _ _ _ _ _ _ _ h=>h.elim
structure Fun (K:PySem.W.Frag)(x qual:Str)(st:Stmt)(f:Addr)(fd:FuncData):Prop where
 ex:∃(oc:Value) (od:Option Addr) (kV doc pm:Value) (an:Option Addr) (cdv ct:Value) (osl:Array (Option Value)),
  fd=PySem.W.fnOf x qual (defArgs st) (defBody st) (defScope st) .none kV doc pm an cdv ct∧K.lookup f=some ⟨oc,od, .func fd,osl⟩∧PySem.W.codeIn K cdv qual=true
 kp:PySem.W.keepIn K (.ref f)=true
section
variable {P:Program}{w:World}{K:PySem.W.Frag}{mg:Str→Option Value}{base:Heap}
theorem Fun.ok {x qual:Str}{st:Stmt}{f:Addr}{fd:FuncData}{N ps:List Str}{k:Nat}{sp:Sp}(F:Fun K x qual st f fd)(S:FnScope N ps (defScope st))
  (hbody:∀(cdv:Value) (A:Around) (outer:List Env) (s:Shared) (H:Hp) (vs:List V) (Q:VK) (E:XK),Room k (A.deeper (envOfC qual (defScope st) s.heap.objs.size f cdv))→sp vs H Q E→
   ∃t,PSs (cxOf CX0 P w K mg base N qual (defScope st) f cdv A outer s H E).nox (defBody st) t∧t (Ends.of Q) (start N vs) H) (len:∀vs H Q E,sp vs H Q E→vs.length=ps.length:=by rintro _ _ _ _ ⟨⟩;subst_vars;rfl):FnOk P w K mg base CX0 (k+1) f fd ps sp:=by
 obtain⟨oc,od,kV,doc,pm,an,cdv,ct,osl,rfl,lk,hcd⟩:=F.ex
 refine fn_of lk hcd S len fun A outer s H vs Q E hr hsp=>?_
 obtain⟨t,h,q⟩:=hbody cdv A outer s H vs Q E hr hsp
 exact⟨t,h.nox,q⟩
theorem Fun.binds {x qual:Str}{st:Stmt}{f:Addr}{fd:FuncData}{ps:List Str}(F:Fun K x qual st f fd)
  (h:∀(kV doc pm:Value) (an:Option Addr) (cdv ct:Value) (us:List Value),us.length=ps.length→bindArgs (PySem.W.fnOf x qual (defArgs st) (defBody st) (defScope st) .none kV doc pm an cdv ct) ⟨us,[]⟩=pure (ps.zip us)):Binds K fd ps []:=by
 obtain⟨oc,od,kV,doc,pm,an,cdv,ct,osl,rfl,lk,hcd⟩:=F.ex
 exact .all (h kV doc pm an cdv ct)
theorem fun_mk {x qual:Str}{st:Stmt}{f:Addr}{oc:Value}{od an:Option Addr}{osl:Array (Option Value)}{kV doc pm cdv ct:Value}(l:K.lookup f=some ⟨oc,od, .func (PySem.W.fnOf x qual (defArgs st) (defBody st) (defScope st) .none kV doc pm an cdv ct),osl⟩)
  (c:PySem.W.codeIn K cdv qual=true) (k:PySem.W.keepIn K (.ref f)=true):Fun K x qual st f (PySem.W.fnOf x qual (defArgs st) (defBody st) (defScope st) .none kV doc pm an cdv ct):=⟨⟨oc,od,kV,doc,pm,an,cdv,ct,osl,rfl,l,c⟩,k⟩
end
section
variable {X:Cx}
theorem pv (i:Nat){x:Str}{pos:Pos}(hN:X.N[i]?=some x:=by rfl)(hv:Vis X.env.scope x:=by first|exact Or.inl rfl|exact Or.inr (Or.inl rfl)|exact Or.inr (Or.inr rfl))(hd:(x==("__debug__":Str))=false:=by decide)
  (hcd:(x==("__classdict__":Str))=false:=by decide):PE X (.Name x pos) (tVar i):=pe_var hN hv hd hcd
end
theorem iteF {A B:Prop}(h:B):if false=true then A else B:=by
 rw[if_neg Bool.false_ne_true]
 exact h
theorem iteT {A B:Prop}(h:A):if true=true then A else B:=by
 rw[if_pos rfl]
 exact h
theorem ite2 {c A B:Prop}[Decidable c](h1:c→A)(h2:¬c→B):if c then A else B:=by
 by_cases h:c
 ·rw[if_pos h]
  exact h1 h
 ·rw[if_neg h]
  exact h2 h
def Same (H H':Hp):Prop:=∀b o,H b=some o→H' b=some o
theorem Same.refl (H:Hp):Same H H:=fun _ _ h=>h
theorem Same.trans {H H1 H2:Hp}(a:Same H H1)(b:Same H1 H2):Same H H2:=fun c o h=>b c o (a c o h)
theorem Same.free {H H':Hp}(e:Same H H'){l:Addr}(h:H' l=Option.none):H l=Option.none:=by
 cases q:H l with
 |none=>rfl
 |some o=>
  rw[e l o q]at h
  cases h
theorem Same.seq {K:PySem.W.Frag}{H H':Hp}{a:Addr}{xs:List V}(e:Same H H')(h:SqL K H a xs):SqL K H' a xs:=by
 rcases h with (h|⟨o,h⟩)|h
 ·exact .inl (.inl (e _ _ h))
 ·exact .inl (.inr ⟨o,e _ _ h⟩)
 ·exact .inr h
def closL (cells:List (Str×Addr)):List (Str×NameKind)→List (Str×Addr)→List (Str×Addr)
 |[],acc=>acc
 |(n,k)::r,acc=>if k==.free then(match cells.lookup n with|some c=>closL cells r ((n,c)::acc)|none=>closL cells r acc) else closL cells r acc
theorem closL_forIn {env:Env}:∀(names:List (Str×NameKind)) (acc:List (Str×Addr)),(∀p∈names,p.2=.free→∃c,env.cells.lookup p.1=some c)→
  (forIn names acc fun(x:Str×NameKind) (r:List (Str×Addr))=>(if(x.2==NameKind.free)=true then(do let a ←cellOf env x.1;pure (ForInStep.yield ((x.1,a)::r))) else pure (ForInStep.yield r):Sem (ForInStep (List (Str×Addr)))))=pure (closL env.cells names acc):=by
 intro names
 induction names with
 |nil=>intro acc _;rfl
 |cons p r ih=>
  intro acc h
  obtain⟨n,k⟩:=p
  rw[List.forIn_cons]
  cases hk:k==NameKind.free with
  |false=>
   simp only[hk,Bool.false_eq_true,if_false,pure_bind,closL]
   exact ih acc fun q hq=>h q (List.mem_cons_of_mem _ hq)
  |true=>
   have e:k=.free:=by simpa using hk
   obtain⟨c,hc⟩:=h (n,k) List.mem_cons_self e
   simp only[hk,if_true,closL,cellOf,hc,pure_bind]
   exact ih _ fun q hq=>h q (List.mem_cons_of_mem _ hq)
theorem closL_eq {scope:Scope}{env:Env}(h:∀p∈scope.names,p.2=.free→∃c,env.cells.lookup p.1=some c):closureFor scope env=pure (closL env.cells scope.names []):=by
 have q:=closL_forIn (env:=env) scope.names [] h
 simp only[closureFor]
 first
  |exact q
  |(rw[←q];simp)
  |simpa using q
theorem closL_look {cells:List (Str×Addr)}:∀(names:List (Str×NameKind)) (acc:List (Str×Addr)) (y:Str) (c:Addr),(closL cells names acc).lookup y=some c→cells.lookup y=some c∨acc.lookup y=some c:=by
 intro names
 induction names with
 |nil=>intro acc y c h;exact .inr h
 |cons p r ih=>
  intro acc y c h
  obtain⟨n,k⟩:=p
  unfold closL at h
  split at h
  ·split at h
   ·rename_i c' hc
    rcases ih _ y c h with q|q
    ·exact .inl q
    ·rw[List.lookup_cons]at q
     cases e:y==n with
     |true=>
      rw[e]at q
      have e':y=n:=by simpa using e
      subst e'
      have q':some c'=some c:=q
      rw[←q'];exact .inl hc
     |false=>rw[e]at q;exact .inr q
   ·exact ih _ y c h
  ·exact ih _ y c h
theorem closL_acc {cells:List (Str×Addr)}:∀(names:List (Str×NameKind)) (acc:List (Str×Addr)) (y:Str),(∃c,acc.lookup y=some c)→∃c,(closL cells names acc).lookup y=some c:=by
 intro names
 induction names with
 |nil=>intro acc y h;exact h
 |cons p r ih=>
  intro acc y h
  obtain⟨n,k⟩:=p
  unfold closL
  split
  ·split
   ·refine ih _ y ?_
    rw[List.lookup_cons]
    cases e:y==n with
    |true=>exact⟨_,rfl⟩
    |false=>exact h
   ·exact ih _ y h
  ·exact ih _ y h
theorem closL_has {cells:List (Str×Addr)}:∀(names:List (Str×NameKind)) (acc:List (Str×Addr)) (y:Str),(y,NameKind.free)∈names→(∃c,cells.lookup y=some c)→∃c,(closL cells names acc).lookup y=some c:=by
 intro names
 induction names with
 |nil=>intro acc y h _;cases h
 |cons p r ih=>
  intro acc y h hc
  obtain⟨n,k⟩:=p
  unfold closL
  rcases List.mem_cons.mp h with e|h
  ·cases e
   obtain⟨c,hc⟩:=hc
   simp only[beq_self_eq_true,if_true,hc]
   exact closL_acc _ _ _ ⟨c,by rw[List.lookup_cons,beq_self_eq_true]⟩
  ·split
   ·split
    ·exact ih _ y h hc
    ·exact ih _ y h hc
   ·exact ih _ y h hc
def cxComp (X:Cx)(N':List Str)(scope:Scope)(C:Addr)(s₀:Shared)(H₀:Hp)(ex:List Addr):Cx :=
 {X with N:=N',s₀:=s₀,H₀:=H₀,env:=compEnvC scope (closL X.env.cells scope.names []) C X.env,outer:=X.stack,stack:=X.stack,ex:=ex,fn:=fun _=>false,xe:=fun _ _=>False}
def cxCompE (X:Cx)(N':List Str)(scope:Scope)(C:Addr)(s₀:Shared)(H₀:Hp)(ex:List Addr)(XE:Addr→Shared→Hp→List Addr→Value→Shared→Prop):Cx:={cxComp X N' scope C s₀ H₀ ex with xe:=XE C s₀ H₀ ex}
def noX:Addr→Shared→Hp→List Addr→Value→Shared→Prop:=fun _ _ _ _ _ _=>False
theorem cxE_no (X:Cx)(N':List Str)(scope:Scope)(C:Addr)(s₀:Shared)(H₀:Hp)(ex:List Addr):cxCompE X N' scope C s₀ H₀ ex noX=cxComp X N' scope C s₀ H₀ ex:=rfl
def PTs (X:Cx)(ifs:List Expr)(t:TT):Prop :=
 ∀(pins:List (Addr×Obj)) (s:Shared) (σ:St) (H:Hp) (Q:Bool→Hp→Prop),Inv X pins σ H s→t σ H Q→
  wpAny (model X.prog X.w) X.A (forIn ifs true fun c r=>if r=true then do let ok ←isTrue c X.env (eval c X.env);pure (ForInStep.yield ok) else pure (ForInStep.yield r)) (TP X pins σ Q) X.xe s
def tTrue:TT:=fun _ H Q=>Q true H
theorem pts_nil {X:Cx}:PTs X [] tTrue:=fun _ _ _ H _ I h=>wpAny_tests_nil ⟨H,I,h⟩
theorem pts_one {X:Cx}{c:Expr}{t:TT}(h:PT X c t):PTs X [c] t:=fun pins s σ H Q I q=>wpAny_tests_one (h pins s σ H Q I q)
section
variable {prog:Program}{w:World}{A:Around}{R:Result→Shared→Prop}{s:Shared}
theorem compLoop_go {elt target iter:Expr}{ifs:List Expr}{scope:Scope}{pos:Pos}{it acc:Value}{env:Env}(I:Nat→Shared→Prop)(E':Value→Shared→Prop)(hE:∀e s,E' e s→notedBy (model prog w) A env (fun x s'=>R (.error x) s') e s)
  (turn:∀n s,I n s→wpAny (model prog w) A (pyNext it) (fun r s₁=>match r with
   |none=>R (.ok .next) s₁
   |some v=>wpAny (model prog w) A (letOwnedTupleGo target it v) (fun _ s₀=>wpAny (model prog w) A (assign target env v) (fun _ s₂=>
     wpAny (model prog w) A (forIn ifs true fun c r=>if r=true then do let ok ←isTrue c env (eval c env);pure (ForInStep.yield ok) else pure (ForInStep.yield r)) (fun ok s₃=>
      if ok=true then wpAny (model prog w) A (eval elt env) (fun x s₄=>
       wpAny (model prog w) A (call (.builtin "list.append") [acc,x]) (fun _ s₅=>∃m,m<n∧I m s₅) E' s₄) E' s₃
      else ∃m,m<n∧I m s₃) E' s₂) E' s₀) E' s₁) E' s)
  (n:Nat) (h:I n s):
  codeAny (model prog w) A (.compLoop (.ListComp elt [⟨target,iter,ifs,0⟩] scope pos) 0 it acc env) R s:=by
 refine codeAny_loop rfl I (fun n s hI=>?_) n h
 show wpAny _ A ((compTurn (.ListComp elt [⟨target,iter,ifs,0⟩] scope pos) 0 it acc env).onRaise (fun x=>do noteFrame x env;theTreesLotGoes x)) _ _ s
 refine wpAny_noted ?_
 rw[compTurn_list]
 refine wpAny_bind (wpAny_standAt (wpAny_bind (wpAny_mono (turn n s hI) (fun r s₁ h₁=>?_) hE)))
 cases r with
 |none=>exact wpAny_pure h₁
 |some v=>
  refine wpAny_bind (wpAny_mono h₁ (fun _ s₀ h₀=>?_) hE)
  refine wpAny_bind (wpAny_mono h₀ (fun _ s₂ h₂=>wpAny_bind (wpAny_mono h₂ (fun ok s₃ h₃=>?_) hE)) hE)
  cases ok with
  |false=>exact wpAny_pure ⟨rfl,h₃⟩
  |true=>
   exact wpAny_bind (wpAny_bind (wpAny_mono h₃ (fun x s₄ h₄=>wpAny_bind (wpAny_mono h₄ (fun _ s₅ h₅=>wpAny_pure (wpAny_pure ⟨rfl,h₅⟩)) hE)) hE))
end
structure CompScope (X:Cx)(x:Str)(frees:List Str)(idx:List Nat)(scope:Scope):Prop where
 kind:scope.kind=.function
 nocell:∀y∈scope.names,y.2≠.cell
 loc:∀y∈scope.names,y.2=.local→scope.names.lookup y.1=some .local
 tgt:scope.names.lookup x=some .local
 nd:(x::frees).Nodup
 fr:∀y∈scope.names,y.2=.free→X.env.kindOf y.1=some .cell∨X.env.kindOf y.1=some .free
 ix:∀(j:Nat) (y:Str),frees[j]?=some y→∃k,idx[j]?=some k∧X.N[k]?=some y
 len:idx.length=frees.length
 cl:∀y∈frees,(y,NameKind.free)∈scope.names
def outs (σ:St)(idx:List Nat):St:=idx.map fun k=>(σ[k]?).join
def CompW (J:It)(tt:TT)(te:TE)(σ':St)(Q:VK)(H1:Hp):Prop:=∃W:Nat→Nat→List V→Hp→Prop,(∃m,W 0 m [] H1)∧∀i m vs H2,W i m vs H2→
 vs.length<sizeLine∧((J.stop i H2∧∀l,H2 l=none→Q (.ref l) (upd H2 l (.lst vs)))∨
  (J.go i H2∧∀x H3,J.yld i H2 x H3→tt (some x::σ') H3 fun b H4=>if b=true then te (some x::σ') H4 fun v H5=>∃m',m'<m∧W (i+1) m' (vs++[v]) H5 else ∃m',m'<m∧W (i+1) m' vs H4))
def tComp (idx:List Nat)(wi:TI)(tt:TT)(te:TE):TE:=fun σ H Q=>wi σ H fun J H1=>CompW J tt te (outs σ idx) Q H1
theorem Vals.snoc {xs:List V}{us:List Value}{x:V}{u:Value}(h:Vals xs us)(r:RelV x u):Vals (xs++[x]) (us++[u]):=Vals.append h (.cons r .nil)
theorem mem_of_lookup' {α β:Type}[BEq α][LawfulBEq α]{l:List (α×β)}{x:α}{b:β}(h:l.lookup x=some b):(x,b)∈l:=by
 induction l with
 |nil=>simp at h
 |cons p r ih=>
  obtain⟨n,k⟩:=p
  rw[List.lookup_cons]at h
  cases e:x==n with
  |true=>
   rw[e]at h
   have e':x=n:=by simpa using e
   have h':k=b:=Option.some.inj h
   subst e' h'
   exact List.mem_cons_self
  |false=>rw[e]at h;exact List.mem_cons_of_mem _ (ih h)
theorem relabel_free {scope:Scope}{env:Env}{y:Str}(h:(relabel scope env).names.lookup y=some .cell∨(relabel scope env).names.lookup y=some .free)(hc:∀y∈scope.names,y.2≠.cell):(y,NameKind.free)∈scope.names:=by
 have q:∃k,(y,k)∈(relabel scope env).names∧(k=.cell∨k=.free):=by
  rcases h with h|h
  ·exact⟨_,mem_of_lookup' h, .inl rfl⟩
  ·exact⟨_,mem_of_lookup' h, .inr rfl⟩
 obtain⟨k,hm,hk⟩:=q
 obtain⟨⟨n,k'⟩,hm',e⟩:=List.mem_map.mp hm
 dsimp only at e
 split at e
 ·rename_i hf
  cases e
  have:k'=.free:=by
   simp only[Bool.and_eq_true,beq_iff_eq]at hf
   exact hf.1.1
  subst this
  exact hm'
 ·cases e
  rcases hk with rfl|rfl
  ·exact absurd rfl (hc _ hm')
  ·exact hm'
theorem lookup_relabel_free {env:Env}:∀{names:List (Str×NameKind)} {x:Str},names.lookup x=some .free→
  ((names.map fun(n,k)=>if(k==NameKind.free&&env.scope.kind==.function&&env.kindOf n==some .cell) then(n,NameKind.cell) else(n,k)).lookup x=some .cell∨
   (names.map fun(n,k)=>if(k==NameKind.free&&env.scope.kind==.function&&env.kindOf n==some .cell) then(n,NameKind.cell) else(n,k)).lookup x=some .free)
 |[],_,h=>by simp at h
 |(n,k)::r,x,h=>by
  have ih:=@lookup_relabel_free env r x
  rw[List.map_cons]
  cases hx:x==n with
  |true=>
   simp only[List.lookup_cons,hx]at h
   have hk:k=.free:=Option.some.inj h
   subst hk
   by_cases hc:(NameKind.free==NameKind.free&&env.scope.kind==.function&&env.kindOf n==some .cell)=true
   ·left
    simp only[hc,if_true,List.lookup_cons,hx]
   ·right
    simp only[hc,if_false,List.lookup_cons,hx,Bool.false_eq_true]
  |false=>
   simp only[List.lookup_cons,hx]at h
   by_cases hc:(k==NameKind.free&&env.scope.kind==.function&&env.kindOf n==some .cell)=true
   ·simp only[hc,if_true,List.lookup_cons,hx];exact ih h
   ·simp only[hc,if_false,List.lookup_cons,hx,Bool.false_eq_true];exact ih h
theorem Inv.track {X:Cx}{pins:List (Addr×Obj)}{σ:St}{H:Hp}{s:Shared}{D:Addr}{vs:List V}{its:List Value}{k:Nat}(I:Inv X pins σ H s)(hD:H D=none)(hz:vs.length≤sizeLine)(hv:Vals vs its)
  (e:s.heap.get? D=some {cls:=.type "list",data:=.seq its.toArray k}) (h1:D∈X.ex∨X.s₀.heap.objs.size≤D) (h2:D≠X.env.locals) (h3:∀x c,X.env.cells.lookup x=some c→c≠D) (h4:∀p∈X.pn++pins,p.1≠D):
  Inv X pins σ (upd H D (.lst vs)) s:=by
 obtain⟨hh,g,d,t,o⟩:=s
 have nD:∀b u,H b=some u→b≠D:=fun b u q z=>by rw[z,hD]at q;cases q
 refine I.step (g':=g) (d':=d) (t':=t) (h':=hh) (ch:=[D]) (fun b hb=>?_) (fun b o _ _ _ q _=>q) (fun b o _ _ _ q _=>⟨o.slots,q⟩) (fun b o hb q n=>?_) (fun b o _ q=>⟨o,q⟩)
  (fun b xs q=>by rw[upd_ne (nD b _ q)];exact q) (fun b o u q=>by rw[upd_ne (nD b _ q)];exact q) (fun b ps q=>⟨#[],by rw[upd_ne (nD b _ q),q];simp⟩) (fun m q=>q) (fun b u q=>?_) I.bare
 ·have z:b=D:=by simpa using hb
  subst z
  exact⟨h1,h2,h3,h4⟩
 ·rw[upd_ne (by simpa using hb)];exact n
 ·by_cases z:b=D
  ·subst z
   rw[upd_same]at q;cases q
   exact⟨hz,its,k,hv,e⟩
  ·rw[upd_ne z]at q
   exact(I.hok b u q).stay (fun _ _ _ q=>q) (fun c q=>by rw[upd_ne (nD c _ q)];exact q) fun c xs q=>by rw[upd_ne (nD c _ q)];exact q
structure CompScopeM (X:Cx)(frees:List Str)(idx:List Nat)(scope:Scope):Prop where
 kind:scope.kind=.function
 nocell:∀y∈scope.names,y.2≠.cell
 loc:∀y∈scope.names,y.2=.local→scope.names.lookup y.1=some .local
 fr:∀y∈scope.names,y.2=.free→X.env.kindOf y.1=some .cell∨X.env.kindOf y.1=some .free
 ix:∀(j:Nat) (y:Str),frees[j]?=some y→∃k,idx[j]?=some k∧X.N[k]?=some y
 len:idx.length=frees.length
 cl:∀y∈frees,(y,NameKind.free)∈scope.names
def CompWM (n:Nat)(J:It)(g:TG)(tt:TT)(te:TE)(σ':St)(Q:VK)(H1:Hp):Prop:=∃W:Nat→Nat→List V→Hp→Prop,(∃m,W 0 m [] H1)∧∀i m vs H2,W i m vs H2→
 vs.length<sizeLine∧((J.stop i H2∧∀l,H2 l=none→Q (.ref l) (upd H2 l (.lst vs)))∨
  (J.go i H2∧∀(τ:St) x H3,τ.length=n→J.yld i H2 x H3→g x (τ++σ') H3 fun σ1 H4=>(∃τ':St,σ1=τ'++σ'∧τ'.length=n)∧
   tt σ1 H4 fun b H5=>if b=true then te σ1 H5 fun v H6=>∃m',m'<m∧W (i+1) m' (vs++[v]) H6 else ∃m',m'<m∧W (i+1) m' vs H5))
def tCompM (n:Nat)(idx:List Nat)(wi:TI)(g:TG)(tt:TT)(te:TE):TE:=fun σ H Q=>wi σ H fun J H1=>CompWM n J g tt te (outs σ idx) Q H1
theorem comp_core {X:Cx}{elt iter tg:Expr}{M:List Str}{g:TG}{pos p1:Pos}{ifs:List Expr}{scope:Scope}{frees:List Str}{idx:List Nat}{wi:TI}{tt:TT}{te:TE}{XE:Addr→Shared→Hp→List Addr→Value→Shared→Prop}
  {qt:Cx→Prop} (hc:∀C s₀ H₀ ex,qt (cxCompE X (M++frees) scope C s₀ H₀ ex XE)) (S:CompScopeM X frees idx scope) (hfl:∀y∈frees,scope.names.lookup y=some .free) (hi:PIQ qt X tg iter wi) (hg:∀C s₀ H₀ ex,PG (cxCompE X (M++frees) scope C s₀ H₀ ex XE) tg g)
  (ht:∀C s₀ H₀ ex,PTs (cxCompE X (M++frees) scope C s₀ H₀ ex XE) ifs tt) (he:∀C s₀ H₀ ex,PE (cxCompE X (M++frees) scope C s₀ H₀ ex XE) elt te)
  (hs:∀v,foldedSetIterable iter X.env v=pure v) {use:Option (Value→Sem Unit)} {Q':Value→Shared→Prop} {pins:List (Addr×Obj)} {s:Shared} {σ:St} {H:Hp} {Q:VK} (I:Inv X pins σ H s) (h:tCompM M.length idx wi g tt te σ H Q)
  (hxe:∀C s2 H2 ex D,Inv X pins σ H2 s2→(∀b∈ex,FpOk X pins H2 b)→s2.heap.objs.size≤C→D≠C→∀e s',XE C s2 H2 ex e s'→notedBy (model X.prog X.w) X.A (compEnvC scope (closL X.env.cells scope.names []) C X.env) (fun x s''=>compPost (model X.prog X.w) X.A X.xe use Q' (.ref D) C (.error x) s'') e s')
  (hpost:∀(D C:Addr) (H':Hp) m4 (s4:Shared),s4.heap.Ns C m4→(∀h',Heap.SameBut C s4.heap h'→Inv X pins σ H' {s4 with heap:=h'})→H' C=none→C≠X.env.locals→C∉X.fs→X.s₀.heap.objs.size≤C→(∀z c,X.env.cells.lookup z=some c→c≠C)→(∀p∈X.pn++pins,p.1≠C)→Q (.ref D) H'→
   compPost (model X.prog X.w) X.A X.xe use Q' (.ref D) C (.ok .next) s4):
  wpAny (model X.prog X.w) X.A (comprehension (.ListComp elt [⟨tg,iter,ifs,0⟩] scope pos) scope X.env p1 (newList []) (firstAsync [⟨tg,iter,ifs,0⟩]) (firstIter [⟨tg,iter,ifs,0⟩] X.env) use) Q' X.xe s:=by
 have hclos:=closL_eq (scope:=scope) (env:=X.env) fun p hp hf=>I.ok.has p.1 (S.fr p hp hf)
 refine wpAny_comprehension_free (use:=use) rfl hs hclos S.kind S.loc (thn (hi pins s σ H _ I h) fun v s1 h1=>thn h1 fun itv s2 h2=>?_)
 obtain⟨it,fp,tn,J,H2,rfl,I2,T,st2,f2,W,⟨m0,w0⟩,turn⟩:=h2
 refine wpAny_newObj_type (wpAny_newFunctionEnv S.nocell (by intro y hy;simp at hy) (fun h₁ hns₁ hsb₁=>?_) S.kind)
 dsimp only at hns₁ hsb₁ ⊢
 generalize hH2:s2.heap.push {cls:=.type "list",dict:=none,data:=.seq ([]:List Value).toArray}=G2 at hns₁ hsb₁ ⊢
 have hCe:G2.objs.size=s2.heap.objs.size+1:=by rw[←hH2,Heap.size_push]
 generalize hC:G2.objs.size=C at hns₁ hsb₁ hCe ⊢
 have hCle:s2.heap.objs.size≤C:=by omega
 have hDC:s2.heap.objs.size≠C:=by omega
 have below:∀b,b<s2.heap.objs.size→b≠C:=fun b hb=>by omega
 have old:∀b o,s2.heap.get? b=some o→h₁.get? b=some o:=fun b o e=>hsb₁.extBut b o (below b (Heap.lt_size e)) (Heap.get?_push_of_some _ (hH2 ▸ Heap.get?_push_of_some _ e))
 have hacc:∃k,h₁.get? s2.heap.objs.size=some {cls:=.type "list",data:=.seq ([]:List Value).toArray k}:=⟨_,hsb₁.extBut _ _ hDC (Heap.get?_push_of_some _ (hH2 ▸ Heap.get?_push_size _ rfl))⟩
 have look:∀y c,(closL X.env.cells scope.names []).lookup y=some c→X.env.cells.lookup y=some c:=fun y c e=>by
  rcases closL_look _ _ y c e with q|q
  ·exact q
  ·cases q
 have fpD:∀b∈fp,b<s2.heap.objs.size:=fun b hb=>by
  obtain⟨o,e,_⟩:=T.obj _ _ st2 b hb
  exact Heap.lt_size e
 have ok':(cxCompE X (M++frees) scope C s2 H2 fp XE).Ok:={
  mod:=I2.ok.mod
  kind:=S.kind
  glob:=I2.ok.glob
  blt:=I2.ok.blt
  above:=hCle
  inj:=fun y z c e1 e2=>I2.ok.inj y z c (look y c e1) (look z c e2)
  has:=fun y hy=>by
   have q:=relabel_free (scope:=scope) (env:=X.env) hy S.nocell
   exact closL_has _ _ y q (I2.ok.has y (S.fr _ q rfl))
  cab:=fun y c hf=>by cases hf
  hd:=I2.ok.hd
  frames:=I2.ok.frames
  stk:=.inl rfl
  exf:=fun b hb=>⟨below b (fpD b hb),fun y c e=>(f2 b hb).2.2.2.2.1 y c (look y c e)⟩
  bs:=I2.bs
  bsz:=Nat.le_trans I2.ok.bsz I2.sz
  noex:=fun b o e hb=>by
   rcases(f2 b hb).2.2.2.1 with z|z
   ·exact I2.ok.noex b o e z
   ·exact absurd (Nat.lt_of_lt_of_le (Heap.lt_size e) (Nat.le_trans I2.ok.bsz z)) (Nat.lt_irrefl _)
  exfs:=fun b hb hf=>by
   rcases List.mem_cons.mp (I2.stkSub b hf) with z|z
   ·exact(f2 b hb).2.1 z
   ·exact(f2 b hb).2.2.1 z
  funs:=I2.stack
  frf:=I2.stkFree}
 have Dfs:s2.heap.objs.size∉frs X.stack:=fun hb=>by
  rcases List.mem_cons.mp (I2.stkSub _ hb) with z|z
  ·have q:=I2.lt
   rw[←z]at q
   exact Nat.lt_irrefl _ q
  ·exact I2.nofs (Nat.le_refl _) z
 have Dcell:∀y c,X.env.cells.lookup y=some c→c≠s2.heap.objs.size:=fun y c e z=>by
  obtain⟨v,q⟩:=I2.cell y c e
  have q':=q.lt
  rw[z]at q'
  exact Nat.lt_irrefl _ q'
 have Dpin:∀p∈X.pn++pins,p.1≠s2.heap.objs.size:=fun p hp z=>by
  have q':=Heap.lt_size (I2.pin p hp).1
  rw[z]at q'
  exact Nat.lt_irrefl _ q'
 have I3:Inv (cxCompE X (M++frees) scope C s2 H2 fp XE) pins (List.replicate M.length none++outs σ idx) H2 {s2 with heap:=h₁,toks:=s2.toks+([]:List (Str×Value)).length}:={
  ok:=ok'
  os:=rfl
  bare:=I2.bare
  base:=Un.kept old
  loc:=by
   refine⟨_,hns₁,fun i y v e1 e2 e3=>?_⟩
   by_cases hi':i<M.length
   ·rw[List.getElem?_append_left (by rw[List.length_replicate];exact hi'),List.getElem?_replicate,if_pos hi']at e2
    cases e2
   ·obtain⟨j,rfl⟩:∃j,i=M.length+j:=⟨i-M.length,by omega⟩
    have e1':frees[j]?=some y:=by
     have e1'':(M++frees)[M.length+j]?=some y:=e1
     rw[List.getElem?_append_right (Nat.le_add_right _ _),Nat.add_sub_cancel_left]at e1''
     exact e1''
    have e2':(outs σ idx)[j]?=some (some v):=by
     rw[List.getElem?_append_right (by rw[List.length_replicate];exact Nat.le_add_right _ _),List.length_replicate,Nat.add_sub_cancel_left]at e2
     exact e2
    obtain⟨k,hk,hN⟩:=S.ix j y e1'
    have hy:y∈frees:=List.mem_of_getElem? e1'
    have e4:σ[k]?=some (some v):=by
     unfold outs at e2'
     rw[List.getElem?_map,hk]at e2'
     have e5:(σ[k]?).join=some v:=Option.some.inj e2'
     cases q:σ[k]? with
     |none=>rw[q]at e5;cases e5
     |some o=>rw[q]at e5;exact congrArg some e5
    obtain⟨m,hn,hl⟩:=I2.loc
    have kin:=S.fr _ (S.cl y hy) rfl
    have vis:Vis X.env.scope y:=by
     rcases kin with z|z
     ·exact .inr (.inl z)
     ·exact .inr (.inr z)
    obtain⟨u,r,l⟩:=hl k y v hN e4 vis
    refine⟨u,r, .inr ⟨lookup_relabel_free (env:=X.env) (hfl y hy),?_⟩⟩
    rcases l with ⟨z,_⟩|⟨_,c,ec,ic⟩
    ·rcases kin with z'|z'
     ·have z'':X.env.kindOf y=some .cell:=z'
      rw[z]at z'';cases z''
     ·have z'':X.env.kindOf y=some .free:=z'
      rw[z]at z'';cases z''
    ·obtain⟨c',ec'⟩:=closL_has (cells:=X.env.cells) scope.names [] y (S.cl y hy) ⟨c,ec⟩
     have:c'=c:=Option.some.inj ((look y c' ec').symm.trans ec)
     subst this
     obtain⟨o,ho,hd⟩:=ic
     exact⟨c',ec',o,old _ _ ho,hd⟩
  cell:=fun y c e=>by
   obtain⟨v,o,ho,hd⟩:=I2.cell y c (look y c e)
   exact⟨v,o,old _ _ ho,hd⟩
  free:=I2.hok.fresh hCle
  freeC:=fun y c e=>I2.freeC y c (look y c e)
  pin:=fun p hp=>by
   obtain⟨e,n,ne,nf,d⟩:=I2.pin p hp
   refine⟨old _ _ e,n,below _ (Heap.lt_size e),fun hb=>?_,d⟩
   rcases List.mem_cons.mp (I2.stkSub _ hb) with z|z
   ·exact ne z
   ·exact nf z
  hok:=I2.hok.kept old
  len:=by simp[cxCompE,cxComp,outs,S.len]}
 have fok:∀{pp:List (Addr×Obj)} {H':Hp},(∀b∈fp,H' b=none)→(∀p∈pp,p.1=s2.heap.objs.size)→∀b∈fp,FpOk (cxCompE X (M++frees) scope C s2 H2 fp XE) (pins++pp) H' b:=fun{pp H'} hn hp b hb=>by
  obtain⟨_,f1,f2',f3,f4,f5⟩:=f2 b hb
  refine⟨hn b hb,below b (fpD b hb),fun hf=>?_, .inl hb,fun y c e=>f4 y c (look y c e),fun p hpp z=>?_⟩
  ·rcases List.mem_cons.mp (I2.stkSub b hf) with z|z
   ·exact f1 z
   ·exact f2' z
  ·have hpp':p∈X.pn++(pins++pp):=hpp
   rw[←List.append_assoc]at hpp'
   rcases List.mem_append.mp hpp' with q|q
   ·exact f5 p q z
   ·have q':=fpD b hb
    rw[←z,hp p q]at q'
    exact Nat.lt_irrefl _ q'
 have loop:∀s3:Shared,s3={s2 with heap:=h₁,toks:=s2.toks+([]:List (Str×Value)).length}→
   codeAny (model X.prog X.w) X.A (.compLoop (.ListComp elt [⟨tg,iter,ifs,0⟩] scope pos) 0 (.ref it) (.ref s2.heap.objs.size) (compEnvC scope (closL X.env.cells scope.names []) C X.env))
    (compPost (model X.prog X.w) X.A X.xe use Q' (.ref s2.heap.objs.size) C) s3:=by
  rintro s3 rfl
  obtain⟨k0,hacc⟩:=hacc
  refine compLoop_go (fun n s'=>∃i τ vs H' its k,(τ:St).length=M.length∧Inv (cxCompE X (M++frees) scope C s2 H2 fp XE) pins (τ++outs σ idx) H' s'∧tn i s'.heap∧(∀b∈fp,H' b=none)∧H' s2.heap.objs.size=none∧
   s'.heap.get? s2.heap.objs.size=some {cls:=.type "list",data:=.seq its.toArray k}∧Vals vs its∧W i n vs H') (XE C s2 H2 fp) (hxe C s2 H2 fp s2.heap.objs.size I2 f2 hCle hDC) ?_ m0
   ⟨0,List.replicate M.length none,[],H2,[],k0,by simp,I3,T.keep _ _ _ st2 fun b _ o e=>old b o e,fun b hb=>(f2 b hb).1,I2.hok.fresh (Nat.le_refl _),hacc, .nil,w0⟩
  rintro n s' ⟨i,τ,vs,H',its,k,lτ,I',st',fr',hD',hg',hv',w'⟩
  obtain⟨hlen,alt⟩:=turn i n vs H' w'
  have IP:Inv (cxCompE X (M++frees) scope C s2 H2 fp XE) (pins++[(s2.heap.objs.size,{cls:=.type "list",data:=.seq its.toArray k})]) (τ++outs σ idx) H' s' :=
   I'.pins_of fun p hp=>(List.mem_append.mp hp).elim (fun z=>I'.pin p (List.mem_append_right _ z)) fun z=>by
    have z':p=(s2.heap.objs.size,{cls:=.type "list",data:=.seq its.toArray k}):=by simpa using z
    subst z'
    exact⟨hg',hD',hDC,Dfs,fun v q=>by cases q⟩
  have FP:=fok (pp:=[(s2.heap.objs.size,{cls:=.type "list",data:=.seq its.toArray k})]) fr' (fun p hp=>by
   have z':p=(s2.heap.objs.size,{cls:=.type "list",data:=.seq its.toArray k}):=by simpa using hp
   rw[z'])
  rcases alt with ⟨stop,qn⟩|⟨go,step⟩
  ·refine thn (T.done (cxCompE X (M++frees) scope C s2 H2 fp XE) rfl rfl rfl (hc C s2 H2 fp) i _ s' _ H' (XE C s2 H2 fp) IP FP st' stop) fun r s4 ⟨hr,I4⟩=>?_
   subst hr
   obtain⟨m4,hn4,_⟩:=id I4.loc
   refine hpost s2.heap.objs.size C (upd H' s2.heap.objs.size (.lst vs)) m4 s4 hn4 (fun h' hsb=>?_) (by rw[upd_ne (Ne.symm hDC)];exact I4.free) (fun z=>by have q:=I2.lt;rw[←z]at q;exact Nat.lt_irrefl _ (Nat.lt_of_lt_of_le q hCle)) (I2.nofs hCle) (Nat.le_trans I2.sz hCle) (fun z c e zz=>by
    obtain⟨v,q⟩:=I2.cell z c e
    have q':=q.lt
    rw[zz]at q'
    exact Nat.lt_irrefl _ (Nat.lt_of_lt_of_le q' hCle)) (fun p hp zz=>by
    have q':=Heap.lt_size (I2.pin p hp).1
    rw[zz]at q'
    exact Nat.lt_irrefl _ (Nat.lt_of_lt_of_le q' hCle)) (qn _ hD')
   have gD:s4.heap.get? s2.heap.objs.size=some {cls:=.type "list",data:=.seq its.toArray k}:=(I4.pin (s2.heap.objs.size,_) (List.mem_append_right _ (List.mem_append_right _ (List.mem_singleton.mpr rfl)))).1
   have hx:∀b o,b≠C→s4.heap.get? b=some o→h'.get? b=some o:=fun b o hb e=>(hsb.2 b hb).trans e
   have J1:Inv X pins σ H' {s4 with heap:=h'}:=by
    refine I2.call' (ch:=fp) I4.os ⟨fun b o e n hb hx'=>?_,fun b o e n hb hx'=>?_,I4.base.free,fun b o e hx'=>?_,I4.base.tups,I4.base.frzs,I4.base.tbls⟩ (fun b u e=>?_) I4.bare fun b hb=>?_
    ·exact hx b o (below b (Heap.lt_size e)) (I4.base.keep b o e n hb hx')
    ·obtain⟨sl,q⟩:=I4.base.slot b o e n hb hx'
     exact⟨sl,hx b _ (below b (Heap.lt_size e)) q⟩
    ·obtain⟨o',q⟩:=I4.base.there b o e hx'
     exact⟨o',hx b _ (below b (Heap.lt_size e)) q⟩
    ·refine(I4.hok b u e).stay (fun c v hcc q=>hx c v ?_ q) (fun _ q=>q) fun _ _ q=>q
     rintro rfl
     rcases hcc with z|z
     ·rw[←z]at e
      have:=I4.free
      rw[show H' c=none from this]at e;cases e
     ·have:=I4.free
      rw[show H' c=none from this]at z;cases z
    ·obtain⟨_,f1,f2',f3,f4,f5⟩:=f2 b hb
     exact⟨f3,f1,f4,f5⟩
   exact J1.track hD' (Nat.le_of_lt hlen) hv' (hx _ _ hDC gD) (.inr I2.sz) (fun z=>by have q:=I2.lt;rw[←z]at q;exact Nat.lt_irrefl _ q) Dcell Dpin
  ·refine thn (T.item (cxCompE X (M++frees) scope C s2 H2 fp XE) rfl rfl rfl (hc C s2 H2 fp) i _ s' _ H' (XE C s2 H2 fp) IP FP st' go) fun r s4 ⟨u,hr,h4⟩=>?_
   subst hr
   refine thn h4 fun _ s5 ⟨xv,H5,I5,r5,y5,st5,fr5⟩=>?_
   have I5':=I5.pinned (fok (pp:=[(s2.heap.objs.size,{cls:=.type "list",data:=.seq its.toArray k})]) fr5 (fun p hp=>by
    have z':p=(s2.heap.objs.size,{cls:=.type "list",data:=.seq its.toArray k}):=by simpa using hp
    rw[z'])) (T.obj _ _ st5)
   have q6:=step τ xv H5 lτ y5
   refine thn (hg C s2 H2 fp _ s5 _ H5 xv _ _ I5' r5 q6) fun _ s6 ⟨σ6,H6,I6,⟨τ6,e6,l6⟩,q6'⟩=>?_
   subst e6
   refine thn (ht C s2 H2 fp _ s6 _ H6 _ I6 q6') fun b s7 ⟨H7,I7,q7⟩=>?_
   have keepT:∀{s8:Shared} {σ8:St} {H8:Hp},Inv (cxCompE X (M++frees) scope C s2 H2 fp XE) ((pins++[(s2.heap.objs.size,{cls:=.type "list",data:=.seq its.toArray k})])++pinsAt fp s5.heap) σ8 H8 s8→
     tn (i+1) s8.heap∧(∀b∈fp,H8 b=none)∧H8 s2.heap.objs.size=none∧s8.heap.get? s2.heap.objs.size=some {cls:=.type "list",data:=.seq its.toArray k}:=fun{s8 σ8 H8} I8=>by
    refine⟨T.keep _ _ _ st5 fun b hb o e=>(I8.pin (b,o) (List.mem_append_right _ (List.mem_append_right _ (mem_pinsAt hb e)))).1,fun b hb=>?_,?_,?_⟩
    ·obtain⟨o,e,d⟩:=T.obj _ _ st5 b hb
     exact(I8.pin (b,o) (List.mem_append_right _ (List.mem_append_right _ (mem_pinsAt hb e)))).2.1
    ·exact(I8.pin (s2.heap.objs.size,_) (List.mem_append_right _ (List.mem_append_left _ (List.mem_append_right _ (List.mem_singleton.mpr rfl))))).2.1
    ·exact(I8.pin (s2.heap.objs.size,_) (List.mem_append_right _ (List.mem_append_left _ (List.mem_append_right _ (List.mem_singleton.mpr rfl))))).1
   cases b with
   |false=>
    rw[if_neg Bool.false_ne_true]at q7 ⊢
    obtain⟨m',hm,w7⟩:=q7
    obtain⟨a1,a2,a3,a4⟩:=keepT I7
    exact⟨m',hm,i+1,τ6,vs,H7,its,k,l6,I7.unpinned.unpinned,a1,a2,a3,a4,hv',w7⟩
   |true=>
    rw[if_pos rfl]at q7 ⊢
    refine thn (he C s2 H2 fp _ s7 _ H7 _ I7 q7) fun u8 s8 ⟨v8,H8,I8,r8,m',hm,w8⟩=>?_
    obtain⟨a1,a2,a3,a4⟩:=keepT I8
    refine wpAny_list_append_plain (items:=its.toArray) ⟨k,a4⟩ (fun h9 pl sb=>?_) (by rw[List.size_toArray,←hv'.length];exact Nat.le_of_lt hlen)
    obtain⟨k9,e9⟩:=pl
    have ne:∀b∈fp,b≠s2.heap.objs.size:=fun b hb=>Nat.ne_of_lt (fpD b hb)
    have I9:Inv (cxCompE X (M++frees) scope C s2 H2 fp XE) pins (τ6++outs σ idx) H8 {s8 with heap:=h9} :=
     I8.unpinned.unpinned.turned (t':=s8.toks) (fun b o hb e=>(sb.2 b hb).trans e) a3 hDC (.inr (Nat.le_refl _)) (fun y c e=>Dcell y c (look y c e)) Dpin
    refine⟨m',hm,i+1,τ6,vs++[v8],H8,its++[u8],k9,l6,I9,T.keep _ _ _ a1 fun b hb o e=>(sb.2 b (ne b hb)).trans e,a2,a3,?_,hv'.snoc r8,w8⟩
    rw[List.push_toArray]at e9
    exact e9
 exact codeAny_compStart_list (loop _ rfl) (T.self _ 0 _ _ _ (T.keep _ _ _ st2 fun b _ o e=>old b o e) (loop _ rfl))
theorem pe_lcompM {X:Cx}{elt iter tg:Expr}{M:List Str}{g:TG}{pos:Pos}{ifs:List Expr}{scope:Scope}{frees:List Str}{idx:List Nat}{wi:TI}{tt:TT}{te:TE}
  {qt:Cx→Prop} (hc:∀C s₀ H₀ ex,qt (cxComp X (M++frees) scope C s₀ H₀ ex)) (S:CompScopeM X frees idx scope) (hfl:∀y∈frees,scope.names.lookup y=some .free) (hi:PIQ qt X tg iter wi) (hg:∀C s₀ H₀ ex,PG (cxComp X (M++frees) scope C s₀ H₀ ex) tg g)
  (ht:∀C s₀ H₀ ex,PTs (cxComp X (M++frees) scope C s₀ H₀ ex) ifs tt) (he:∀C s₀ H₀ ex,PE (cxComp X (M++frees) scope C s₀ H₀ ex) elt te)
  (hs:∀v,foldedSetIterable iter X.env v=pure v:=by intro _;rfl):PE X (.ListComp elt [⟨tg,iter,ifs,0⟩] scope pos) (tCompM M.length idx wi g tt te):=by
 intro pins s σ H Q I h
 rw[eval_ListComp]
 exact comp_core (M:=M) (g:=g) (XE:=noX) (use:=none) (Q':=EP X pins σ Q) (fun C s₀ H₀ ex=>by rw[cxE_no];exact hc C s₀ H₀ ex) S hfl hi (fun C s₀ H₀ ex=>by rw[cxE_no];exact hg C s₀ H₀ ex) (fun C s₀ H₀ ex=>by rw[cxE_no];exact ht C s₀ H₀ ex) (fun C s₀ H₀ ex=>by rw[cxE_no];exact he C s₀ H₀ ex) hs I h (fun _ _ _ _ _ _ _ _ _ _ _ (z:False)=>z.elim) fun D C H' m4 s4 hn hJ _ _ _ _ _ _ q=>by
  show ∃m,s4.heap.Ns C m∧∀h',Heap.SameBut C s4.heap h'→EP X pins σ Q (.ref D) {s4 with heap:=h'}
  exact⟨m4,hn,fun h' hsb=>⟨.ref D,H',hJ h' hsb,rfl,q⟩⟩
theorem compW_M {J:It}{tt:TT}{te:TE}{σ':St}{Q:VK}{H1:Hp}:CompWM 1 J (gName 0) tt te σ' Q H1=CompW J tt te σ' Q H1:=by
 refine propext ⟨fun⟨W,h0,h⟩=>⟨W,h0,fun i m vs H2 w=>?_⟩,fun⟨W,h0,h⟩=>⟨W,h0,fun i m vs H2 w=>?_⟩⟩
 ·obtain⟨l,h⟩:=h i m vs H2 w
  exact⟨l,h.imp id fun⟨go,st⟩=>⟨go,fun x H3 y=>(st [none] x H3 rfl y).2⟩⟩
 ·obtain⟨l,h⟩:=h i m vs H2 w
  refine⟨l,h.imp id fun⟨go,st⟩=>⟨go,fun τ x H3 lτ y=>?_⟩⟩
  match τ,lτ with
  |[o],_=>exact⟨⟨[some x],rfl,rfl⟩,st x H3 y⟩
theorem tComp_M {idx:List Nat}{wi:TI}{tt:TT}{te:TE}:tCompM 1 idx wi (gName 0) tt te=tComp idx wi tt te:=by
 funext σ H Q
 unfold tCompM tComp
 exact congrArg (wi σ H) (funext fun J=>funext fun H1=>compW_M)
theorem pe_lcomp {X:Cx}{elt iter:Expr}{x:Str}{px pos:Pos}{ifs:List Expr}{scope:Scope}{frees:List Str}{idx:List Nat}{wi:TI}{tt:TT}{te:TE}
  {qt:Cx→Prop} (hc:∀C s₀ H₀ ex,qt (cxComp X (x::frees) scope C s₀ H₀ ex)) (S:CompScope X x frees idx scope) (hfl:∀y∈frees,scope.names.lookup y=some .free) (hi:PIQ qt X (.Name x px) iter wi)
  (ht:∀C s₀ H₀ ex,PTs (cxComp X (x::frees) scope C s₀ H₀ ex) ifs tt) (he:∀C s₀ H₀ ex,PE (cxComp X (x::frees) scope C s₀ H₀ ex) elt te)
  (hs:∀v,foldedSetIterable iter X.env v=pure v:=by intro _;rfl):PE X (.ListComp elt [⟨.Name x px,iter,ifs,0⟩] scope pos) (tComp idx wi tt te):=by
 have h:=pe_lcompM (M:=[x]) (g:=gName 0) (pos:=pos) hc ⟨S.kind,S.nocell,S.loc,S.fr,S.ix,S.len,S.cl⟩ hfl hi (fun C s₀ H₀ ex=>pg_name (i:=0) S.nd rfl (.inl (lookup_relabel_local S.tgt)) (.inr (lookup_relabel_local S.tgt))) ht he hs
 exact tComp_M ▸ h
section
variable {X:Cx}
theorem boolsAre_of:∀{bs:List Bool} {us:List Value},Vals (bs.map V.bl) us→LSm.BoolsAre us bs:=by
 intro bs
 induction bs with
 |nil=>intro us h;cases h;exact .nil
 |cons b r ih=>
  intro us h
  cases h with
  |cons h1 h2=>
   cases(show _=Value.bool b from h1)
   exact .cons b (ih h2)
theorem call_all (hc:X.calm=true):CallR X (.builtin "all") (fun xs H Q=>∃(p:Addr) (bs:List Bool),xs=[.ref p]∧SqL X.K H p (bs.map V.bl)∧Q (.bl (bs.all id)) H):=by
 intro pins s σ H xs us Q I r h
 obtain⟨p,bs,rfl,hq,q⟩:=h
 obtain⟨u,rfl,rx⟩:=vals1 r
 cases rx
 obtain⟨its,r',pl,hz⟩:=I.list hq
 have hl:=pl.isList
 have hb:=boolsAre_of r'
 have hlt:p<s.heap.objs.size:=by obtain⟨_,e,_⟩:=hl;exact Heap.lt_size e
 refine call_all_walk (wpAny_pyIter_list hl ?_)
 refine⟨s.heap.objs.size,[s.heap.objs.size,p],[s.heap.objs.size],its.toArray.size,_,_,fun i=>(bs[i]?).getD true,rfl,Walks.list (A:=X.A.in1) (I.ok.hd hc) _ p (Nat.ne_of_lt hlt) its.toArray,
  ⟨⟨_,Heap.get?_push_size _ rfl,rfl,rfl⟩,hl.push _⟩,fun i v s' Q' E' hP hQ=>?_,fun h' tk hk=>?_⟩
 ·obtain⟨b,e,rfl⟩:=hb.get i v (by simpa using hP)
  simp only[e,Option.getD_some]at hQ
  exact wpAny_truthy_bool hQ
 ·have e:((List.range its.toArray.size).all fun i=>(bs[i]?).getD true)=bs.all id:=by
   rw[List.size_toArray,hb.length];exact LSm.range_all bs
  rw[e]
  exact⟨.bl (bs.all id),H,I.kept (LSm.kept_iter hk),rfl,q⟩
theorem call_isi:CallR X (.builtin "isinstance") (fun xs H Q=>∃x t T b,xs=[x, .ty T]∧TyOf X.K H x t∧PySem.W.kitOne X.K t (.type T)=some b∧Q (.bl b) H):=by
 intro pins s σ H xs us Q I r h
 obtain⟨x,t,T,b,rfl,ty,e,q⟩:=h
 obtain⟨u,w',rfl,rx,ry⟩:=vals2 r
 cases(show w'=Value.type T from ry)
 exact isinst_ok I rx ty e fun tk=>⟨.bl b,H,I.tok tk,rfl,q⟩
theorem sl_str:SlR X (fun x lo hi H Q=>∃z,x=.str z∧z.length≤sizeLine∧Q (.str (Txt.slice z lo hi)) H):=by
 intro pins s σ H x v vl vu lo hi sl Q I rx hs pl pu h
 obtain⟨z,rfl,hz,q⟩:=h
 obtain⟨t,rfl⟩:=rx
 refine⟨"str",_,F.slot_str_getitem.lookup,typeIs_str _ _ _,?_⟩
 have fin:∀l u:Option (Int×Tok),vl=partValue l→vu=partValue u→l.map (·.1)=lo→u.map (·.1)=hi→wpAny (model X.prog X.w) X.A (getItem (.str z t) (.ref sl)) (EP X pins σ Q) X.xe s:=fun l u e1 e2 e3 e4=>by
  subst e1 e2 e3 e4
  refine wpAny_getItem_str_slice (l:=l) (u:=u) (st:=none) hs rfl (post_val_or_str ⟨Nat.le_trans (Txt.slice_le z _ _) hz,fun t' k=>⟨.str _,H,I.tok k,⟨t',rfl⟩,q⟩⟩)
 cases pl<;>cases pu<;>first
  |exact fin none none rfl rfl rfl rfl
  |exact fin none (some (_,_)) rfl rfl rfl rfl
  |exact fin (some (_,_)) none rfl rfl rfl rfl
  |exact fin (some (_,_)) (some (_,_)) rfl rfl rfl rfl
theorem mt_startswith:MtR X "str.startswith" (fun x xs H Q=>∃z y,x=.str z∧xs=[.str y]∧Q (.bl (Txt.startswith z y)) H):=by
 intro pins s σ H x xs v us Q I rx rs h
 obtain⟨z,y,rfl,rfl,q⟩:=h
 obtain⟨t,rfl⟩:=rx
 obtain⟨u,rfl,t',rfl⟩:=vals1 rs
 exact SC.startswith ⟨.bl _,H,I,rfl,q⟩
theorem vals_strValues:∀l:List (Str×Tok),Vals ((l.map (·.1)).map V.str) (strValues l)
 |[]=>.nil
 |(x,t)::r=>.cons ⟨t,rfl⟩ (vals_strValues r)
theorem mt_split:MtR X "str.split" (fun x xs H Q=>∃z y,x=.str z∧xs=[.str y]∧z.length≤sizeLine∧1≤y.length∧(Txt.split z y).length≤sizeLine∧∀l,H l=none→Q (.ref l) (upd H l (.lst ((Txt.split z y).map V.str)))):=by
 intro pins s σ H x xs v us Q I rx rs h
 obtain⟨z,y,rfl,rfl,hz,hy,hn,q⟩:=h
 obtain⟨t,rfl⟩:=rx
 obtain⟨u,rfl,t',rfl⟩:=vals1 rs
 have hy':(y.length==0)=false:=by simp;exact Nat.ne_of_gt hy
 have fin:∀(l:List (Str×Tok)) (k:Nat),l.map (·.1)=Txt.split z y→EP X pins σ Q (.ref s.heap.objs.size) {s with toks:=k,heap:=s.heap.push {cls:=.type "list",data:=.seq (strValues l).toArray}}:=fun l k e=>by
  have hv:=vals_strValues l
  rw[e]at hv
  refine⟨.ref s.heap.objs.size,_,I.lnew (t':=k) hv (by rw[List.length_map];exact hn),rfl,q _ I.fresh⟩
 cases h1:(decide (z.length<y.length)||decide (Builtin.Str.strKind z<Builtin.Str.strKind y))
 ·cases hf:(Builtin.Str.occurrences z y 0 z.length (z.length+1)).isEmpty
  ·have e:Txt.split z y=Builtin.Str.partsBetween z (Builtin.Str.occurrences z y 0 z.length (z.length+1)) y.length:=(if_neg (ne_true_of_eq_false h1)).trans (if_neg (ne_true_of_eq_false hf))
   refine call_meets F.slot_str_split (typeIs_str _ _ _) F.entry_str_split (F.args_str_split_2 _ _) (meets_str_split_sep z y t t' h1 hy' hf hz (by rw[←e];exact hn)) ?_
   show EP X pins σ Q _ {s with toks:=_,heap:=s.heap.push {cls:=.type "list",data:=.seq (strsFrom s.toks (Builtin.Str.partsBetween z (Builtin.Str.occurrences z y 0 z.length (z.length+1)) y.length)).toArray}}
   rw[strsFrom_eq]
   exact fin (numbered s.toks _) _ ((numbered_texts _ _).trans e.symm)
  ·exact call_meets F.slot_str_split (typeIs_str _ _ _) F.entry_str_split (F.args_str_split_2 _ _) (meets_str_split_not_found z y t t' h1 hy' hf) (fin [(z,t)] s.toks ((if_neg (ne_true_of_eq_false h1)).trans (if_pos hf)).symm)
 ·exact call_meets F.slot_str_split (typeIs_str _ _ _) F.entry_str_split (F.args_str_split_2 _ _) (meets_str_split_cannot_occur z y t t' h1) (fin [(z,t)] s.toks (if_pos h1).symm)
theorem op_eq_tupstr (hu:X.A.units<cLine):OpR X (compareOp .Eq) (fun x y H Q=>∃a xs z,x=.ref a∧y=.str z∧SqT X.K H a xs∧Q (.bl false) H):=by
 intro pins s σ H x y v u Q I rx ry h
 obtain⟨a,xs,z,rfl,rfl,hq,q⟩:=h
 cases rx
 obtain⟨t,rfl⟩:=ry
 obtain⟨its,r,ht,hz⟩:=I.tuple hq
 exact SeqAt.RcAt.tuple_str z t (show s.heap.IsTuple a its.toArray from ht) hu _ _ _ _ ⟨.bl false,H,I,rfl,q⟩
theorem pe_callV {CX:CXT}{k:Nat}{f:Addr}{fd:FuncData}{ps:List Str}{sp:Sp}{E:XK}{x:Str}{p pos:Pos}{e:Expr}{es:List Expr}{t:TA}{i:Nat}
  (F:FnOk X.prog X.w X.K X.mg X.base CX k f fd ps sp) (hr:Room k X.A) (hN:X.N[i]?=some x) (hv:Vis X.env.scope x) (hk:PySem.W.keepIn X.K (.ref f)=true) (hb:Binds X.K fd ps []) (hx:Passes CX X E)
  (ha:PA X (e::es) t) (hdb:(x==("__debug__":Str))=false:=by decide) (hcd:(x==("__classdict__":Str))=false:=by decide) (he:starEach (e::es) X.env=(false,eval e X.env)::starEach es X.env:=by rfl) (hpl:(backTo pos (starEach es X.env)).any (·.1)=false:=by rfl):
  PE X (.Call (.Name x p) (e::es) [] pos) (fun σ H Q=>σ[i]?=some (some (.ref f))∧tCall sp [] E t σ H Q):=by
 intro pins s σ H Q I h
 obtain⟨hi,h⟩:=h
 refine wpAny_Call_Name_kw ?_
 refine wpAny_mono (pe_var (pos:=p) hN hv hdb hcd pins s σ H (fun v H1=>v=.ref f∧H1=H) I ⟨_,hi,rfl,rfl⟩) (fun u s1 ⟨v,H1,I1,r1,e1,e2⟩=>?_) (fun _ _ z=>z)
 subst e1 e2
 cases r1
 refine PySem.W.callWith_K (h₀:=X.base) I1.ok.mod.kin hk (thn (ha pos pins s1 σ H1 _ I1 h) fun us s2 ⟨vs,H2,I2,r,q⟩=>⟨I2.kIn,?_⟩) he hpl
 exact run_fn F hr hb .nil hx I2 r q
end
def compOk (osc:Scope)(N:List Str)(x:Str)(frees:List Str)(idx:List Nat)(scope:Scope):Bool :=
 scope.kind==.function&&(scope.names.all (fun y=>y.2 !=.cell)&&(scope.names.all (fun y=>y.2 !=.local||scope.names.lookup y.1==some .local)&&(scope.names.all (fun y=>y.2 !=.free||(osc.names.lookup y.1==some .cell||osc.names.lookup y.1==some .free))&&
 (scope.names.lookup x==some .local&&(decide (x::frees).Nodup&&(idx.length==frees.length&&((idx.zip frees).all (fun p=>N[p.1]?==some p.2)&&frees.all (fun y=>scope.names.lookup y==some .free))))))))
theorem zip_get {α β:Type}{l:List α}{r:List β}{j:Nat}{y:β}(e:l.length=r.length)(h:r[j]?=some y):∃k,l[j]?=some k∧(k,y)∈l.zip r:=by
 induction l generalizing r j with
 |nil=>cases r with
  |nil=>simp at h
  |cons=>cases e
 |cons a l ih=>cases r with
  |nil=>cases e
  |cons b r=>cases j with
   |zero=>cases h;exact⟨a,rfl,by simp⟩
   |succ j=>
    obtain⟨k,h1,h2⟩:=ih (j:=j) (Nat.succ.inj e) h
    exact⟨k,h1,List.mem_cons_of_mem _ h2⟩
theorem compOk_scope {X:Cx}{osc:Scope}{N:List Str}{x:Str}{frees:List Str}{idx:List Nat}{scope:Scope}(h:compOk osc N x frees idx scope=true)(ho:X.env.scope=osc)(hN:X.N=N):
  CompScope X x frees idx scope∧∀y∈frees,scope.names.lookup y=some .free:=by
 unfold compOk at h
 simp only[Bool.and_eq_true,List.all_eq_true,Bool.or_eq_true,bne_iff_ne,beq_iff_eq,decide_eq_true_eq]at h
 obtain⟨h1,h2,h3,h4,h5,h6,h7,h8,h9⟩:=h
 have fl:∀y∈frees,scope.names.lookup y=some .free:=fun y hy=>h9 y hy
 refine⟨⟨h1,h2,fun y hy e=>?_,h5,h6,fun y hy e=>?_,fun j y hj=>?_,h7,fun y hy=>mem_of_lookup' (fl y hy)⟩,fl⟩
 ·rcases h3 y hy with q|q
  ·exact absurd e q
  ·exact q
 ·have q:osc.names.lookup y.1=some .cell∨osc.names.lookup y.1=some .free:=by
   rcases h4 y hy with q|q
   ·exact absurd e q
   ·exact q
  rw[←ho]at q
  exact q
 ·obtain⟨k,e1,e2⟩:=zip_get h7 hj
  exact⟨k,e1,by rw[hN];exact h8 (k,y) e2⟩
theorem pe_lc {X:Cx}{elt iter:Expr}{x:Str}{px pos:Pos}{ifs:List Expr}{scope:Scope}{wi:TI}{tt:TT}{te:TE}(osc:Scope)(N:List Str)(frees:List Str)(idx:List Nat)
  (hk:compOk osc N x frees idx scope=true) (hi:PI X (.Name x px) iter wi)
  (ht:∀C s₀ H₀ ex,PTs (cxComp X (x::frees) scope C s₀ H₀ ex) ifs tt) (he:∀C s₀ H₀ ex,PE (cxComp X (x::frees) scope C s₀ H₀ ex) elt te)
  (ho:X.env.scope=osc:=by rfl) (hN:X.N=N:=by rfl) (hc:X.calm=true:=by rfl) (hs:∀v,foldedSetIterable iter X.env v=pure v:=by intro _;rfl):PE X (.ListComp elt [⟨.Name x px,iter,ifs,0⟩] scope pos) (tComp idx wi tt te):=by
 obtain⟨S,fl⟩:=compOk_scope (X:=X) hk ho hN
 exact pe_lcomp (qt:=Calm) (fun _ _ _ _=>hc) S fl hi ht he hs
def Nx (n i:Nat)(p:Prop):Prop:=∃m',m'<n-i∧m'=n-(i+1)∧i+1≤n∧p
theorem nx {n i:Nat}{p:Prop}(h:i<n)(q:p):Nx n i p:=⟨n-(i+1),by omega,rfl,h,q⟩
theorem comp_range {lo:Int}{n:Nat}{tt:TT}{te:TE}{σ':St}{Q:VK}{H:Hp}(Pv:Nat→List V→Hp→Prop)(h0:Pv 0 [] H)(hlen:∀i vs H2,i≤n→Pv i vs H2→vs.length<sizeLine)
  (hs:∀i vs H2,i<n→Pv i vs H2→tt (some (.int (lo+i))::σ') H2 fun b H4=>if b=true then te (some (.int (lo+i))::σ') H4 fun v H5=>Nx n i (Pv (i+1) (vs++[v]) H5) else Nx n i (Pv (i+1) vs H4))
  (hd:∀vs H2,Pv n vs H2→∀l,H2 l=none→Q (.ref l) (upd H2 l (.lst vs))):CompW (Itr lo n) tt te σ' Q H:=by
 refine⟨fun i m vs H=>m=n-i∧i≤n∧Pv i vs H,⟨n,by simp,Nat.zero_le _,h0⟩,?_⟩
 rintro i m vs H2 ⟨rfl,hi,p⟩
 refine⟨hlen i vs H2 hi p,?_⟩
 by_cases hlt:i<n
 ·refine .inr ⟨hlt,?_⟩
  rintro v H3 ⟨rfl,rfl⟩
  exact hs i vs H3 hlt p
 ·have e:i=n:=by exact Nat.le_antisymm hi (Nat.not_lt.mp hlt)
  subst e
  exact .inl ⟨Nat.le_refl _,hd vs H2 p⟩
def EntryIs (w:World)(p:Str×V)(e:DictEntry):Prop:=e.hash=hashStr w p.1∧(∃t,e.key=.str p.1 t)∧RelV p.2 e.val
def StrDict (K:PySem.W.Frag)(w:World)(a:Addr)(fs:List (Str×V)):Prop :=
 (a==sysModules)=false∧∃o es ep,K.lookup a=some o∧o.ExactDict∧o.data=.dict es ep∧Paired (EntryIs w) fs es.toList
theorem entries_find {w:World}{P:Program}{fs:List (Str×V)}{es:List DictEntry}(k:Str)(hh:Paired (EntryIs w) fs es):RelO (fs.lookup k) ((es.find? fun e=>(strKind P w).is k e.key).map (·.val)):=by
 induction hh with
 |nil=>trivial
 |@cons p e _ _ h t ih=>
  obtain⟨h1,⟨t',h2⟩,h3⟩:=h
  obtain⟨x,v⟩:=p
  rw[List.lookup_cons,List.find?_cons]
  have q:(strKind P w).is k e.key=(k==x):=by
   show Value.isStrOf k e.key=_
   rw[h2]
   show Value.isStrOf k (.str x t')=_
   rw[Bool.eq_iff_iff]
   simp[Value.isStrOf]
   first|done|(constructor<;>intro z<;>first|exact z|exact z.symm)
  rw[q]
  cases k==x with
  |true=>exact h3
  |false=>exact ih
section
variable {X:Cx}{pins:List (Addr×Obj)}{σ:St}{H:Hp}{s:Shared}
theorem Inv.strDict {a:Addr}{fs:List (Str×V)}(I:Inv X pins σ H s)(d:StrDict X.K X.w a fs):∃f,s.heap.MapOf (strKind X.prog X.w) a f∧∀k,RelO (fs.lookup k) (f k):=by
 obtain⟨_,o,es,ep,h1,h2,h3,h4⟩:=d
 refine⟨fun k=>findBy (strKind X.prog X.w).is es k,⟨o,es,ep,I.kIn _ _ h1,h2,h3,fun e he=>?_,fun k=>rfl⟩,fun k=>?_⟩
 ·have key:∀{fs:List (Str×V)} {l:List DictEntry},Paired (EntryIs X.w) fs l→e∈l→∃k,(strKind X.prog X.w).is k e.key=true∧e.hash=(strKind X.prog X.w).hash k:=by
   intro fs l p
   induction p with
   |nil=>intro hm;cases hm
   |@cons p e' l₁ l₂ h t ih=>
    intro hm
    rcases List.mem_cons.mp hm with rfl|hm
    ·obtain⟨q1,⟨t',q2⟩,_⟩:=h
     refine⟨p.1,?_,q1⟩
     show Value.isStrOf p.1 e.key=true
     rw[q2]
     simp[Value.isStrOf]
    ·exact ih hm
  exact key h4 (Array.mem_toList_iff.mpr he)
 ·have q:=entries_find (P:=X.prog) k h4
  show RelO (fs.lookup k) ((Array.find? (fun e=>(strKind X.prog X.w).is k e.key) es).map (·.val))
  rw[←Array.find?_toList]
  exact q
theorem op_in_dict:OpR X (compareOp .In) (fun x y H Q=>∃z a fs,x=.str z∧y=.ref a∧StrDict X.K X.w a fs∧Q (.bl (fs.lookup z).isSome) H):=by
 intro pins s σ H x y v u Q I rx ry h
 obtain⟨z,a,fs,rfl,rfl,d,q⟩:=h
 obtain⟨t,rfl⟩:=rx
 cases ry
 obtain⟨f,hm,hf⟩:=I.strDict d
 refine wpAny_in_of (knd:=strKind X.prog X.w) (k:=z) (by show Value.isStrOf z (.str z t)=true;simp[Value.isStrOf]) d.1 hm ?_
 have e:(f z).isSome=(fs.lookup z).isSome:=by
  have:=hf z
  cases h1:fs.lookup z with
  |none=>rw[h1]at this;rw[RelO.none_of this];rfl
  |some v=>rw[h1]at this;obtain⟨u,e,_⟩:=RelO.some_of this;rw[e];rfl
 rw[e]
 exact⟨.bl _,H,I.tok _,rfl,q⟩
theorem ix_dict:IxR X (fun x y H Q=>∃z a fs v,x=.ref a∧y=.str z∧StrDict X.K X.w a fs∧fs.lookup z=some v∧Q v H):=by
 intro value slice pins s σ H x y v u Q I rx ry h hs
 obtain⟨z,a,fs,r,rfl,rfl,d,hl,q⟩:=h
 cases rx
 obtain⟨t,rfl⟩:=ry
 obtain⟨f,hm,hf⟩:=I.strDict d
 have:=hf z
 rw[hl]at this
 obtain⟨w',e,rw'⟩:=RelO.some_of this
 exact tail_any (ops:=[.ref a, .str z t]) hm.typeIs PySem.F.slot_dict_getitem.lookup (wpAny_getItem_of (knd:=strKind X.prog X.w) (k:=z) (by show Value.isStrOf z (.str z t)=true;simp[Value.isStrOf]) hm e ⟨r,H,I.tok _,rw',q⟩) hs
theorem pe_callE {CX:CXT}{func:Expr}{tf:TE}{pos:Pos}{e:Expr}{es:List Expr}{t:TA}{E:XK}(ok:Addr→Sp→Prop)
  (hok:∀f sp,ok f sp→∃k fd ps,FnOk X.prog X.w X.K X.mg X.base CX k f fd ps sp∧Room k X.A∧PySem.W.keepIn X.K (.ref f)=true∧Binds X.K fd ps []) (hf:PE X func tf) (hx:Passes CX X E)
  (ha:PA X (e::es) t) (hev:eval (.Call func (e::es) [] pos) X.env=(do callWith pos (←eval func X.env) [] (backTo pos (starEach (e::es) X.env)) (backToKw pos (keywordEach [] X.env))):=by rfl)
  (he:starEach (e::es) X.env=(false,eval e X.env)::starEach es X.env:=by rfl) (hpl:(backTo pos (starEach es X.env)).any (·.1)=false:=by rfl):
  PE X (.Call func (e::es) [] pos) (fun σ H Q=>tf σ H fun x H1=>∃f sp,x=.ref f∧ok f sp∧tCall sp [] E t σ H1 Q):=by
 intro pins s σ H Q I h
 refine Call_ (thn (hf pins s σ H _ I h) fun u s1 ⟨x,H1,I1,r1,f,sp,ex,hfo,q⟩=>?_) hev
 subst ex
 cases r1
 obtain⟨k,fd,ps,F,hr,hk,hb⟩:=hok f sp hfo
 refine PySem.W.callWith_K (h₀:=X.base) I1.ok.mod.kin hk (thn (ha pos pins s1 σ H1 _ I1 q) fun us s2 ⟨vs,H2,I2,r,q2⟩=>⟨I2.kIn,?_⟩) he hpl
 exact run_fn F hr hb .nil hx I2 r q2
end
section
variable {X:Cx}
theorem get_list:PGet X (fun x y H Q=>∃(p:Addr) (xs:List V) (i:Nat) (v:V),x=.ref p∧y=.int i∧SqL X.K H p xs∧xs[i]?=some v∧Q v H):=by
 intro pins s σ H o i ov iv Q I ro ri h
 obtain⟨p,xs,k,v,rfl,rfl,hq,hv,q⟩:=h
 cases ro
 obtain⟨t,rfl⟩:=ri
 obtain⟨its,r,pl,hz⟩:=I.list hq
 obtain⟨w,ew,rw'⟩:=r.get hv
 have hn:=line63
 have hl:=r.length
 have hk:k<xs.length:=by
  rcases Nat.lt_or_ge k xs.length with z|z
  ·exact z
  ·rw[List.getElem?_eq_none_iff.mpr z]at hv;cases hv
 exact wpAny_getItem_list pl.isList (by omega) (by omega) (by simpa using ew) ⟨v,H,I,rw',q⟩
end
end L2
namespace Fw
open PySem PySem.Spec PyProof.Rows L2
def splL (c:Nat):List Nat→List (List Nat)
 |[]=>[[]]
 |a::r=>if a=c then[]::splL c r else match splL c r with
  |p::ps=>(a::p)::ps
  |[]=>[[a]]
theorem splL_ne (c:Nat):∀l,splL c l≠[]
 |[]=>by simp[splL]
 |a::r=>by
  unfold splL
  split
  ·simp
  ·split<;>simp
theorem splL_free {c:Nat}:∀{l:List Nat},c∉l→splL c l=[l]
 |[],_=>rfl
 |a::r,h=>by
  have h1:a≠c:=fun e=>h (by simp[e])
  have h2:c∉r:=fun e=>h (List.mem_cons_of_mem _ e)
  unfold splL
  rw[if_neg h1,splL_free h2]
theorem splL_app {c:Nat}:∀{l:List Nat} (r:List Nat),c∉l→splL c (l++c::r)=l::splL c r
 |[],r,_=>by simp[splL]
 |a::l,r,h=>by
  have h1:a≠c:=fun e=>h (by simp[e])
  have h2:c∉l:=fun e=>h (List.mem_cons_of_mem _ e)
  rw[List.cons_append]
  conv=>lhs;unfold splL
  rw[if_neg h1,splL_app r h2]
theorem splL_join (c:Nat):∀(ps:List Str),ps≠[]→(∀p∈ps,c∉p.cps.toList)→splL c (Str.join ⟨#[c]⟩ ps).cps.toList=ps.map (·.cps.toList)
 |[],h,_=>absurd rfl h
 |[p],_,hf=>by
  show splL c p.cps.toList=[p.cps.toList]
  exact splL_free (hf p (by simp))
 |p::q::r,_,hf=>by
  have ih:=splL_join c (q::r) (by simp) fun x hx=>hf x (List.mem_cons_of_mem _ hx)
  show splL c (p++⟨#[c]⟩++Str.join ⟨#[c]⟩ (q::r)).cps.toList=_
  have e:(p++⟨#[c]⟩++Str.join ⟨#[c]⟩ (q::r)).cps.toList=p.cps.toList++c::(Str.join ⟨#[c]⟩ (q::r)).cps.toList:=by
   show((p.cps++#[c])++(Str.join ⟨#[c]⟩ (q::r)).cps).toList=_
   simp
  rw[e,splL_app _ (hf p (by simp)),ih]
  rfl
theorem cnt_nn (c:Nat):∀l,(0:Int)≤cnt c l
 |[]=>Int.le_refl 0
 |n::r=>by
  have:=cnt_nn c r
  rw[cnt_cons]
  split<;>omega
theorem split_eq (x:Str)(c:Nat):(Txt.split x ⟨#[c]⟩).map (·.cps.toList)=splL c x.cps.toList:=by
 have h1:=StrLaws.join_split x ⟨#[c]⟩
 have h2:=StrLaws.split_free x c
 by_cases e:Txt.split x ⟨#[c]⟩=[]
 ·exfalso
  have:=split_len x c
  rw[e]at this
  have h3:=cnt_nn c x.cps.toList
  simp at this
  omega
 ·have:=splL_join c _ e h2
  rw[h1]at this
  exact this.symm
theorem slice1 (x:Str)(h:1≤x.length):Txt.slice x (some 1) none=⟨(x.cps.toList.drop 1).toArray⟩:=by
 have q:=slice_closes_fromL (x:=x) (i:=1) (b:=x.length) (by omega) (by omega) rfl
 have q':=eq_of_beq q
 rw[q']
 have e:((x.length:Int)-1).toNat=(x.cps.toList.drop 1).length:=by
  rw[List.length_drop]
  show _=x.cps.toList.length-1
  have:x.cps.toList.length=x.length:=by simp[Str.length]
  omega
 have e2:((x.cps.toList.drop (1:Int).toNat).take ((x.length:Int)-1).toNat)=x.cps.toList.drop 1:=by
  rw[e]
  show(x.cps.toList.drop 1).take (x.cps.toList.drop 1).length=_
  exact List.take_length
 first
  |exact congrArg (fun l=>(⟨l.toArray⟩:Str)) e2
  |(rw[e2])
def smallS:Str:="abcdefghijklmnopqrstuvwxyz"
def greatS:Str:="ABCDEFGHIJKLMNOPQRSTUVWXYZ"
def keptL:List Str:=["num","fun","call","let","ring","case","make","pick","plus","minus","times","less","if","kind","record","face","hide","val","part","maker","apply","main"]
def inS (y:Str)(c:Nat):Bool:=decide (c∈y.cps.toList)
def allS (z y:Str):Bool:=z.cps.toList.all (inS y)
def okLen (z:Str):Bool:=decide (1≤z.length)&&decide (z.length≤8)
def smallB (z:Str):Bool:=okLen z&&allS z smallS
def nameB (z:Str):Bool:=smallB z&& !decide (z∈keptL)
def restS (z:Str):Str:=⟨(z.cps.toList.drop 1).toArray⟩
def greatB (z:Str):Bool:=okLen z&&(inS greatS (z.cps.toList.getD 0 0)&&allS (restS z) smallS)
def pathB (z:Str):Bool:=match splL 46 z.cps.toList with
 |[a,b]=>greatB ⟨a.toArray⟩&&nameB ⟨b.toArray⟩
 |_=>false
def varB (z:Str):Bool:=decide (z.cps.toList.head?=some 63)&&smallB (restS z)
def leafB (z:Str):Bool:=decide (z="num")||varB z||nameB z||pathB z
def headB (z:Str):Bool:=nameB z||pathB z
theorem len_toList (z:Str):z.cps.toList.length=z.length:=by simp[Str.length]
theorem str_ext {a b:Str}(h:a.cps.toList=b.cps.toList):a=b:=by
 cases a;cases b
 simp only[Str.mk.injEq]
 exact Array.toList_inj.mp h
theorem small_range {c:Nat}(h:inS smallS c=true):97≤c∧c≤122:=by
 have h':c∈smallS.cps.toList:=of_decide_eq_true h
 have:∀d∈smallS.cps.toList,97≤d∧d≤122:=by decide+kernel
 exact this c h'
theorem great_range {c:Nat}(h:inS greatS c=true):65≤c∧c≤90:=by
 have h':c∈greatS.cps.toList:=of_decide_eq_true h
 have:∀d∈greatS.cps.toList,65≤d∧d≤90:=by decide+kernel
 exact this c h'
theorem smallS_len:smallS.length=26:=by decide+kernel
theorem greatS_len:greatS.length=26:=by decide+kernel
structure IsLet (z:Str)(n:Nat):Prop where
 len:z.length=n
 all:allS z smallS=true
theorem IsLet.mem {z:Str}{n:Nat}(h:IsLet z n){c:Nat}(hc:c∈z.cps.toList):97≤c∧c≤122 :=
 small_range (List.all_eq_true.mp h.all c hc)
theorem isLet_nil:IsLet "" 0:=⟨by decide+kernel,by decide+kernel⟩
theorem cps_app (a b:Str):(a++b).cps.toList=a.cps.toList++b.cps.toList:=by
 show(a.cps++b.cps).toList=_
 simp
theorem len_app (a b:Str):(a++b).length=a.length+b.length:=by
 rw[←len_toList,cps_app,List.length_append,len_toList,len_toList]
theorem isLet_snoc {z:Str}{n:Nat}{c:Nat}(h:IsLet z n)(hc:c∈smallS.cps.toList):IsLet (z++⟨#[c]⟩) (n+1):=by
 refine⟨by rw[len_app,h.len];rfl,?_⟩
 unfold allS
 rw[cps_app,List.all_append]
 have:=h.all
 unfold allS at this
 rw[this]
 simp[inS,hc]
theorem kept_q:∀k∈keptL,nameB (k++"q")=true:=by decide+kernel
theorem small_name {z:Str}{n:Nat}(h:IsLet z n)(h1:1≤n)(h2:n≤8)(hk:z∉keptL):nameB z=true:=by
 unfold nameB smallB okLen
 rw[h.len,h.all,decide_eq_true h1,decide_eq_true h2,decide_eq_false hk]
 rfl
theorem name_let {z:Str}(h:nameB z=true):∃n,IsLet z n∧1≤n∧n≤8∧z∉keptL:=by
 unfold nameB smallB okLen at h
 simp only[Bool.and_eq_true,decide_eq_true_eq,Bool.not_eq_true',decide_eq_false_iff_not]at h
 exact⟨z.length,⟨rfl,h.1.2⟩,h.1.1.1,h.1.1.2,h.2⟩
theorem great_mk {c:Nat}{z:Str}{n:Nat}(hc:c∈greatS.cps.toList)(h:IsLet z n)(h2:n≤7):greatB (⟨#[c]⟩++z)=true:=by
 have e:(⟨#[c]⟩++z:Str).cps.toList=c::z.cps.toList:=by rw[cps_app];rfl
 have er:restS (⟨#[c]⟩++z)=z:=by
  apply str_ext
  unfold restS
  rw[e]
  simp
 have el:(⟨#[c]⟩++z:Str).length=n+1:=by rw[len_app,h.len];show 1+n=n+1;omega
 unfold greatB okLen
 rw[el,er,e,h.all]
 simp[inS,hc]
 exact h2
theorem great_parts {z:Str}(h:greatB z=true):∃c r,z.cps.toList=c::r∧65≤c∧c≤90∧(∀d∈r,97≤d∧d≤122)∧r.length≤7:=by
 unfold greatB okLen at h
 simp only[Bool.and_eq_true,decide_eq_true_eq]at h
 obtain⟨⟨h1,h2⟩,h3,h4⟩:=h
 cases e:z.cps.toList with
 |nil=>rw[←len_toList,e]at h1;simp at h1
 |cons c r=>
  rw[e]at h3
  have h3':inS greatS c=true:=h3
  refine⟨c,r,rfl,(great_range h3').1,(great_range h3').2,fun d hd=>?_,?_⟩
  ·unfold allS restS at h4
   rw[e]at h4
   exact small_range (List.all_eq_true.mp h4 d (by simpa using hd))
  ·rw[←len_toList,e]at h2
   simp at h2
   exact h2
theorem var_mk {z:Str}{n:Nat}(h:IsLet z n)(h1:1≤n)(h2:n≤8):varB ("?"++z)=true:=by
 have e:("?"++z:Str).cps.toList=63::z.cps.toList:=by rw[cps_app];rfl
 have er:restS ("?"++z)=z:=by
  apply str_ext
  unfold restS
  rw[e]
  simp
 unfold varB smallB okLen
 rw[er,e,h.len,h.all,decide_eq_true h1,decide_eq_true h2]
 simp
theorem path_mk {g z:Str}(hg:greatB g=true)(hz:nameB z=true):pathB (g++"."++z)=true:=by
 obtain⟨c,r,e,h1,h2,h3,h4⟩:=great_parts hg
 obtain⟨n,hl,_⟩:=name_let hz
 have eg:(g++"."++z:Str).cps.toList=g.cps.toList++46::z.cps.toList:=by
  rw[cps_app,cps_app]
  simp
  rfl
 have g46:46∉g.cps.toList:=by
  rw[e]
  intro hm
  rcases List.mem_cons.mp hm with q|q
  ·omega
  ·have:=h3 _ q;omega
 have z46:46∉z.cps.toList:=fun hm=>by have:=hl.mem hm;omega
 unfold pathB
 rw[eg,splL_app _ g46,splL_free z46]
 show(greatB ⟨g.cps.toList.toArray⟩&&nameB ⟨z.cps.toList.toArray⟩)=true
 have a:(⟨g.cps.toList.toArray⟩:Str)=g:=str_ext (by simp)
 have b:(⟨z.cps.toList.toArray⟩:Str)=z:=str_ext (by simp)
 rw[a,b,hg,hz]
 rfl
theorem num_not:headB "num"=false∧leafB "num"=true:=by decide+kernel
theorem arrow_not:leafB "->"=false∧headB "->"=false:=by decide+kernel
inductive T where
 |int (i:Int)
 |str (x:Str)
 |tup (l:List T)
mutual
def T.sz:T→Nat
 |.int _=>1
 |.str _=>1
 |.tup l=>1+szs l
def szs:List T→Nat
 |[]=>0
 |t::r=>t.sz+szs r
end
theorem sz_pos:∀t:T,1≤t.sz
 |.int _=>by simp[T.sz]
 |.str _=>by simp[T.sz]
 |.tup l=>by simp[T.sz]
theorem szs_app:∀(a b:List T),szs (a++b)=szs a+szs b
 |[],b=>by simp[szs]
 |t::r,b=>by simp[szs,szs_app r b,Nat.add_assoc]
theorem len_szs:∀l:List T,l.length≤szs l
 |[]=>by simp[szs]
 |t::r=>by
  have:=len_szs r
  have:=sz_pos t
  simp[szs]
  omega
mutual
inductive Rep (H:Hp):V→T→Prop where
 |int (i:Int):Rep H (.int i) (.int i)
 |str (x:Str) (h:x.length≤100000):Rep H (.str x) (.str x)
 |tup {a:Addr} {vs:List V} {ts:List T} (h:H a=some (.tup vs)) (r:Reps H vs ts):Rep H (.ref a) (.tup ts)
inductive Reps (H:Hp):List V→List T→Prop where
 |nil:Reps H [] []
 |cons {v:V} {t:T} {vs:List V} {ts:List T} (r:Rep H v t) (q:Reps H vs ts):Reps H (v::vs) (t::ts)
end
mutual
theorem Rep.mono {H H':Hp}(e:∀b xs,H b=some (.tup xs)→H' b=some (.tup xs)):∀{v:V} {t:T},Rep H v t→Rep H' v t
 |_,_, .int i=>.int i
 |_,_, .str x h=>.str x h
 |_,_, .tup h r=>.tup (e _ _ h) (Reps.mono e r)
theorem Reps.mono {H H':Hp}(e:∀b xs,H b=some (.tup xs)→H' b=some (.tup xs)):∀{vs:List V} {ts:List T},Reps H vs ts→Reps H' vs ts
 |_,_, .nil=>.nil
 |_,_, .cons r q=>.cons (Rep.mono e r) (Reps.mono e q)
end
theorem Rep.same {H H':Hp}(e:Same H H'){v:V}{t:T}(r:Rep H v t):Rep H' v t:=r.mono fun b xs h=>e b _ h
theorem Reps.same {H H':Hp}(e:Same H H'){vs:List V}{ts:List T}(r:Reps H vs ts):Reps H' vs ts:=r.mono fun b xs h=>e b _ h
theorem Reps.length {H:Hp}:∀{vs:List V} {ts:List T},Reps H vs ts→vs.length=ts.length
 |_,_, .nil=>rfl
 |_,_, .cons _ q=>congrArg (·+1) q.length
theorem Reps.append {H:Hp}:∀{vs ws:List V} {ts us:List T},Reps H vs ts→Reps H ws us→Reps H (vs++ws) (ts++us)
 |_,_,_,_, .nil,q=>q
 |_,_,_,_, .cons r p,q=>.cons r (Reps.append p q)
theorem Reps.snoc_inv {H:Hp}{vs:List V}{ts:List T}(r:Reps H vs ts)(h:vs≠[]):∃ws us v t,vs=ws++[v]∧ts=us++[t]∧Reps H ws us∧Rep H v t:=by
 induction vs generalizing ts with
 |nil=>exact absurd rfl h
 |cons v vs ih=>
  cases r with
  |@cons _ t _ ts' r q=>
   by_cases e:vs=[]
   ·subst e
    cases q
    exact⟨[],[],v,t,rfl,rfl, .nil,r⟩
   ·obtain⟨ws,us,v',t',rfl,rfl,q1,q2⟩:=ih q e
    exact⟨v::ws,t::us,v',t',rfl,rfl, .cons r q1,q2⟩
theorem same_new {H:Hp}{p:Addr}(h:H p=none)(o:HO):Same H (upd H p o):=fun b u q=>by rw[upd_ne (ne_of_none q h)];exact q
section
variable (kids:T→Option (List T))
inductive Good:T→Prop where
 |mk {t:T} {l:List T} (h:kids t=some l) (q:∀k∈l,Good k):Good t
inductive Bad:T→Prop where
 |none {t:T} (h:kids t=none):Bad t
 |kid {t:T} {l:List T} {k:T} (h:kids t=some l) (m:k∈l) (q:Bad k):Bad t
end
def onStr (f:Str→Bool):T→Bool
 |.str z=>f z
 |_=>false
def kidsK:T→Option (List T)
 |.int _=>none
 |.str z=>if leafB z=true then some [] else none
 |.tup []=>none
 |.tup (h::r)=>if r.length=2∧onStr (fun z=>decide (z="->")) h=true then some r else if(1≤r.length∧r.length≤3)∧onStr headB h=true then some r else none
theorem kidsK_str (z:Str):kidsK (.str z)=if leafB z=true then some [] else none:=rfl
theorem kidsK_cons (h:T)(r:List T):kidsK (.tup (h::r))=if r.length=2∧onStr (fun z=>decide (z="->")) h=true then some r else if(1≤r.length∧r.length≤3)∧onStr headB h=true then some r else none:=rfl
theorem kidsK_dec {t:T}{l:List T}(h:kidsK t=some l):szs l<t.sz:=by
 cases t with
 |int i=>cases h
 |str z=>
  rw[kidsK_str]at h
  by_cases e:leafB z=true
  ·rw[if_pos e]at h
   cases h
   simp[szs,T.sz]
  ·rw[if_neg e]at h
   cases h
 |tup ts=>
  cases ts with
  |nil=>cases h
  |cons a r=>
   have e:l=r:=by
    rw[kidsK_cons]at h
    by_cases e:r.length=2∧onStr (fun z=>decide (z="->")) a=true
    ·rw[if_pos e]at h
     exact(Option.some.inj h).symm
    ·rw[if_neg e]at h
     by_cases e':(1≤r.length∧r.length≤3)∧onStr headB a=true
     ·rw[if_pos e']at h
      exact(Option.some.inj h).symm
     ·rw[if_neg e']at h
      cases h
   subst e
   have:=sz_pos a
   simp[szs,T.sz]
   omega
def Has (P:Program)(w:World)(K:PySem.W.Frag)(mg:Str→Option Value)(base:Heap)(k:Nat)(x:Str)(ps:List Str)(sp:Sp):Prop :=
 ∃f fd,FnOk P w K mg base CX0 k f fd ps sp∧Binds K fd ps []∧PySem.W.keepIn K (.ref f)=true∧mg x=some (.ref f)
theorem pcall {X:Cx}{k j:Nat}{x:Str}{ps:List Str}{sp:Sp}{p pos:Pos}{e:Expr}{es:List Expr}{t:TA}(h:Has X.prog X.w X.K X.mg X.base k x ps sp)(hr:Room j X.A)(hkj:k≤j)(hg:Gl X x)(ha:PA X (e::es) t)
  (hdb:(x==("__debug__":Str))=false:=by decide) (he:starEach (e::es) X.env=(false,eval e X.env)::starEach es X.env:=by rfl) (hpl:(backTo pos (starEach es X.env)).any (·.1)=false:=by rfl):
  PE X (.Call (.Name x p) (e::es) [] pos) (tCall sp [] E0 t):=by
 obtain⟨f,fd,h1,h2,h3,h4⟩:=h
 exact pe_call h1 (hr.mono hkj) hg h4 h3 h2 .nil pass0 ha hdb he hpl
theorem pcall0 {X:Cx}{k j:Nat}{x:Str}{ps:List Str}{sp:Sp}{p pos:Pos}(h:Has X.prog X.w X.K X.mg X.base k x ps sp)(hr:Room j X.A)(hkj:k≤j)(hg:Gl X x)
  (hdb:(x==("__debug__":Str))=false:=by decide):PE X (.Call (.Name x p) [] [] pos) (tCall sp [] E0 tNil):=by
 obtain⟨f,fd,h1,h2,h3,h4⟩:=h
 exact pe_call0 h1 (hr.mono hkj) hg h4 h3 h2 .nil pass0 hdb
def spT (f:T→Bool):Sp:=fun vs H Q _=>∃v t,vs=[v]∧Rep H v t∧∀H',Same H H'→Q (.bl (f t)) H'
def spWithin (kids:T→Option (List T)):Sp:=fun vs H Q _=>∃v t,vs=[v]∧Rep H v t∧(kids t=none→∀H',Same H H'→Q .non H')∧
 ∀l,kids t=some l→∀H' p ws,Same H H'→H p=none→H' p=some (.lst ws)→Reps H' ws l→Q (.ref p) H'
def spFits (kids:T→Option (List T)):Sp:=fun vs H Q _=>∃v t b,vs=[v]∧Rep H v t∧t.sz≤100000∧((b=true∧Good kids t)∨(b=false∧Bad kids t))∧∀H',Same H H'→Q (.bl b) H'
def spAllFit (kids:T→Option (List T))(g:Addr):Sp:=fun vs H Q _=>∃v t b,vs=[v, .ref g]∧Rep H v t∧t.sz≤100000∧((b=true∧Good kids t)∨(b=false∧Bad kids t))∧∀H',Same H H'→Q (.bl b) H'
def spAllOf:Sp:=fun vs H Q _=>∃x y,vs=[.str x, .str y]∧x.length≤100000∧∀H',Same H H'→Q (.bl (allS x y)) H'
def tyT:T→Value
 |.int _=>.type "int"
 |.str _=>.type "str"
 |.tup _=>.type "tuple"
def isStrT:T→Bool
 |.str _=>true
 |_=>false
def isTupT:T→Bool
 |.tup _=>true
 |_=>false
theorem rep_ty {K:PySem.W.Frag}{H:Hp}{v:V}{t:T}(r:Rep H v t):TyOf K H v (tyT t):=by
 cases r with
 |int i=>exact .int i
 |str x h=>exact .str x
 |tup h q=>exact .tup h
theorem kit_str (K:PySem.W.Frag)(t:T):PySem.W.kitOne K (tyT t) (.type "str")=some (isStrT t):=by
 cases t with
 |int i=>first|rfl|(with_unfolding_all rfl)|kernel_rfl
 |str x=>first|rfl|(with_unfolding_all rfl)|kernel_rfl
 |tup l=>first|rfl|(with_unfolding_all rfl)|kernel_rfl
theorem kit_tup (K:PySem.W.Frag)(t:T):PySem.W.kitOne K (tyT t) (.type "tuple")=some (isTupT t):=by
 cases t with
 |int i=>first|rfl|(with_unfolding_all rfl)|kernel_rfl
 |str x=>first|rfl|(with_unfolding_all rfl)|kernel_rfl
 |tup l=>first|rfl|(with_unfolding_all rfl)|kernel_rfl
structure Gb (K:PySem.W.Frag)(mg:Str→Option Value):Prop where
 len:mg "len"=none
 all:mg "all"=none
 isi:mg "isinstance"=none
 str:mg "str"=none
 tuple:mg "tuple"=none
 list:mg "list"=none
 range:mg "range"=none
 small:∃t,mg "SMALL_LETTERS"=some (.str smallS t)
 great:∃t,mg "GREAT_LETTERS"=some (.str greatS t)
 most:∃t,mg "MOST_LETTERS"=some (.int 8 t)
 kept:∃a,mg "KEPT"=some (.ref a)∧∀H,SqT K H a (keptL.map V.str)
theorem tt1 {σ:L2.St}{H:Hp}{Q:Bool→Hp→Prop}(h:Q true H):tTrue σ H Q:=h
theorem small {n:Nat}(h:n≤1000000):n≤sizeLine:=Nat.le_trans h (by decide)
theorem small' {n:Nat}(h:n≤1000000):n<sizeLine:=Nat.lt_of_le_of_lt h (by decide)
theorem eqV_str (a b:Str):eqV (.str a) (.str b)=decide (a=b):=by
 show(a==b)=_
 rw[Bool.eq_iff_iff]
 simp
theorem inV_str (z:Str):∀l:List Str,inV (.str z) (l.map V.str)=decide (z∈l)
 |[]=>by simp[inV]
 |a::r=>by
  have ih:=inV_str z r
  unfold inV at ih ⊢
  rw[List.map_cons,List.any_cons,ih,eqV_str,Bool.eq_iff_iff]
  simp only[Bool.or_eq_true,decide_eq_true_eq,List.mem_cons]
  constructor
  ·rintro(h|h)
   ·exact .inl h.symm
   ·exact .inr h
  ·rintro(h|h)
   ·exact .inl h.symm
   ·exact .inr h
theorem flat_strs:∀l:List Str,(l.map V.str).all flatV=true
 |[]=>rfl
 |a::r=>by rw[List.map_cons,List.all_cons,flat_strs r];rfl
theorem dot_eq:(Str.ofString ".":Str)=⟨#[46]⟩:=by decide+kernel
theorem qm_eq:(Str.ofString "?":Str)=⟨#[63]⟩:=by decide+kernel
theorem starts_qm (z:Str):Txt.startswith z "?"=decide (z.cps.toList.head?=some 63):=by
 rw[qm_eq]
 unfold Txt.startswith
 obtain⟨a⟩:=z
 obtain⟨l⟩:=a
 cases l with
 |nil=>rfl
 |cons c r=>
  simp[Builtin.Str.subAt,Str.length,Nat.all]
  rw[Bool.eq_iff_iff]
  simp
theorem smallB_lo {z:Str}(h:¬1≤z.length):smallB z=false:=by
 unfold smallB okLen
 rw[decide_eq_false h]
 rfl
theorem smallB_hi {z:Str}(h:¬z.length≤8):smallB z=false:=by
 unfold smallB okLen
 rw[decide_eq_false h]
 simp
theorem smallB_in {z:Str}(h1:1≤z.length)(h2:z.length≤8):smallB z=allS z smallS:=by
 unfold smallB okLen
 rw[decide_eq_true h1,decide_eq_true h2]
 simp
theorem greatB_lo {z:Str}(h:¬1≤z.length):greatB z=false:=by
 unfold greatB okLen
 rw[decide_eq_false h]
 rfl
theorem greatB_hi {z:Str}(h:¬z.length≤8):greatB z=false:=by
 unfold greatB okLen
 rw[decide_eq_false h]
 simp
theorem greatB_in {z:Str}(h1:1≤z.length)(h2:z.length≤8):greatB z=(inS greatS (z.cps.toList.getD 0 0)&&allS (restS z) smallS):=by
 unfold greatB okLen
 rw[decide_eq_true h1,decide_eq_true h2]
 simp
theorem rest_slice {z:Str}(h:1≤z.length):Txt.slice z (some 1) none=restS z:=slice1 z h
theorem rest_len (z:Str):(restS z).length≤z.length:=by
 rw[←len_toList,←len_toList]
 unfold restS
 simp
theorem first_at {z:Str}(h:1≤z.length):atI z.cps.toList (0:Int)=some (z.cps.toList.getD 0 0):=by
 refine atI_nat (j:=0) ?_
 have:0<z.cps.toList.length:=by rw[len_toList];exact h
 rw[List.getElem?_eq_getElem this]
 simp[List.getD_eq_getElem?_getD,List.getElem?_eq_getElem this]
theorem cut1 (vs:List V):cutV vs (some 1) none=vs.drop 1:=by
 unfold cutV
 rw[HT.sIx_none]
 have e:HT.sIx vs.length 0 (some 1)=min 1 vs.length:=HT.sIx_nat vs.length 0 1
 rw[e]
 cases vs with
 |nil=>rfl
 |cons a r=>
  have:min 1 (a::r).length=1:=by simp
  rw[this]
  simp
theorem cut1_not {vs:List V}(h:vs≠[]):¬(HT.sIx vs.length 0 (some 1)=0∧HT.sIx vs.length vs.length none=vs.length):=by
 have e:HT.sIx vs.length 0 (some 1)=min 1 vs.length:=HT.sIx_nat vs.length 0 1
 rw[e]
 have:0<vs.length:=List.length_pos_iff.mpr h
 omega
theorem pathB_two {z a b:Str}(h:Txt.split z "."=[a,b]):pathB z=(greatB a&&nameB b):=by
 have q:=split_eq z 46
 rw[←dot_eq,h]at q
 unfold pathB
 rw[←q]
 show(greatB ⟨a.cps.toList.toArray⟩&&nameB ⟨b.cps.toList.toArray⟩)=_
 have e1:(⟨a.cps.toList.toArray⟩:Str)=a:=str_ext (by simp)
 have e2:(⟨b.cps.toList.toArray⟩:Str)=b:=str_ext (by simp)
 rw[e1,e2]
theorem pathB_other {z:Str}(h:(Txt.split z ".").length≠2):pathB z=false:=by
 have q:=split_eq z 46
 rw[←dot_eq]at q
 have q2:=congrArg List.length q
 rw[List.length_map]at q2
 unfold pathB
 split
 ·rename_i a b e
  rw[e]at q2
  exact absurd q2 h
 ·rfl
theorem split_short (z:Str):(Txt.split z ".").length≤z.length+1:=by
 have:=split_weight z "." (by decide+kernel)
 exact Nat.le_trans (Nat.le_add_left _ _) this
def Ev (t:TE)(σ:L2.St)(H:Hp)(v:V):Prop:=∀Q:VK,(∀H',Same H H'→Q v H')→t σ H Q
def Tst (t:TT)(σ:L2.St)(H:Hp)(c:Bool):Prop:=∀Q:Bool→Hp→Prop,(∀H',Same H H'→Q c H')→t σ H Q
section
variable {ta tb tc:TE}{t u:TT}{σ:L2.St}{H:Hp}{v x y z:V}{c c1 c2:Bool}{K:PySem.W.Frag}
theorem ev_var {i:Nat}(h:σ[i]?=some (some v)):Ev (tVar i) σ H v:=fun Q q=>⟨v,h,q H (Same.refl H)⟩
theorem ev_c:Ev (tC v) σ H v:=fun Q q=>q H (Same.refl H)
theorem ev_and (h1:Ev ta σ H (.bl c1))(h2:c1=true→∀H',Same H H'→Ev tb σ H' (.bl c2)):Ev (tAndV ta tb) σ H (.bl (c1&&c2)):=fun Q q=>h1 _ fun H' e=>⟨c1,rfl,by
 cases c1 with
 |true=>exact iteT (h2 rfl H' e Q fun H2 e2=>q H2 (e.trans e2))
 |false=>exact iteF (q H' e)⟩
theorem ev_or (h1:Ev ta σ H (.bl c1))(h2:c1=false→∀H',Same H H'→Ev tb σ H' (.bl c2)):Ev (tOrV ta tb) σ H (.bl (c1||c2)):=fun Q q=>h1 _ fun H' e=>⟨c1,rfl,by
 cases c1 with
 |false=>exact iteF (h2 rfl H' e Q fun H2 e2=>q H2 (e.trans e2))
 |true=>exact iteT (q H' e)⟩
theorem ev_not (h1:Ev ta σ H (.bl c)):Ev (tNotV ta) σ H (.bl (!c)):=fun Q q=>h1 _ fun H' e=>⟨c,rfl,q H' e⟩
theorem ts_b (h:Ev ta σ H (.bl c)):Tst (tB ta) σ H c:=fun Q q=>h _ fun H' e=>⟨c,rfl,q H' e⟩
theorem ts_t (h:Ev ta σ H (.bl c)):Tst (tTest ta) σ H c:=fun Q q=>h _ fun H' e=>⟨c,rfl,q H' e⟩
theorem ts_and (h1:Tst t σ H c1)(h2:c1=true→∀H',Same H H'→Tst u σ H' c2):Tst (tAnd t u) σ H (c1&&c2):=fun Q q=>h1 _ fun H' e=>by
 cases c1 with
 |true=>exact iteT (h2 rfl H' e Q fun H2 e2=>q H2 (e.trans e2))
 |false=>exact iteF (q H' e)
theorem ts_or (h1:Tst t σ H c1)(h2:c1=false→∀H',Same H H'→Tst u σ H' c2):Tst (tOr t u) σ H (c1||c2):=fun Q q=>h1 _ fun H' e=>by
 cases c1 with
 |false=>exact iteF (h2 rfl H' e Q fun H2 e2=>q H2 (e.trans e2))
 |true=>exact iteT (q H' e)
theorem ts_not (h1:Tst t σ H c):Tst (tNot t) σ H (!c):=fun Q q=>h1 _ fun H' e=>q H' e
theorem ev_op {r:R2}(h1:Ev ta σ H x)(h2:∀H',Same H H'→Ev tb σ H' y)(h3:∀H' Q,Same H H'→Q z H'→r x y H' Q):Ev (tOp r ta tb) σ H z:=fun Q q=>h1 _ fun H1 e1=>h2 H1 e1 _ fun H2 e2=>h3 H2 Q (e1.trans e2) (q H2 (e1.trans e2))
theorem st_if {tst:TT}{a b:TS}{D:Ends}(h:Tst tst σ H c)(h1:c=true→∀H',Same H H'→a D σ H')(h2:c=false→∀H',Same H H'→b D σ H'):tIfS tst a b D σ H:=h _ fun H' e=>by
 cases c with
 |true=>exact iteT (h1 rfl H' e)
 |false=>exact iteF (h2 rfl H' e)
theorem ev_eqI {i j:Int}(h1:Ev ta σ H (.int i))(h2:∀H',Same H H'→Ev tb σ H' (.int j)):Ev (tOp rEq ta tb) σ H (.bl (decide (i=j))) :=
 ev_op h1 h2 fun H' Q e q=>⟨rfl,by rw[dec_int,Bool.beq_eq_decide_eq];exact q⟩
theorem ev_chain {i j k:Int}{ta tb tc:TE}(h1:Ev ta σ H (.int i))(h2:∀H',Same H H'→Ev tb σ H' (.int j))(h3:∀H',Same H H'→Ev tc σ H' (.int k)):
  Ev (tChain (rI0 fun i j=>.bl (decide (i≤j))) (rI0 fun i j=>.bl (decide (i≤j))) ta tb tc) σ H (.bl (decide (i≤j)&&decide (j≤k))):=fun Q q=>h1 _ fun H1 e1=>h2 H1 e1 _ fun H2 e2=>⟨i,j,rfl,rfl,_,rfl,by
 cases hc:decide (i≤j) with
 |true=>
  rw[hc,Bool.true_and]at q
  exact iteT (h3 H2 (e1.trans e2) _ fun H3 e3=>⟨j,k,rfl,rfl,q H3 ((e1.trans e2).trans e3)⟩)
 |false=>
  rw[hc,Bool.false_and]at q
  exact iteF (q H2 (e1.trans e2))⟩
theorem same_seqT {H H':Hp}{a:Addr}{xs:List V}(e:Same H H')(h:SqT K H a xs):SqT K H' a xs:=by
 rcases h with (h|⟨o,h⟩)|h
 ·exact .inl (.inl (e _ _ h))
 ·exact .inl (.inr ⟨o,e _ _ h⟩)
 ·exact .inr h
theorem ev_ixT {a:Addr}{vs:List V}{i:Int}(h1:Ev ta σ H (.ref a))(h2:∀H',Same H H'→Ev tb σ H' (.int i))(s:SqT K H a vs)(hv:atI vs i=some v):Ev (tOp (rIxT K) ta tb) σ H v :=
 ev_op h1 h2 fun H' Q e q=>⟨a,vs,i,v,rfl,rfl,same_seqT e s,hv,q⟩
theorem ev_ixL {a:Addr}{vs:List V}{i:Int}(h1:Ev ta σ H (.ref a))(h2:∀H',Same H H'→Ev tb σ H' (.int i))(s:SqL K H a vs)(hv:atI vs i=some v):Ev (tOp (rIxL K) ta tb) σ H v :=
 ev_op h1 h2 fun H' Q e q=>⟨a,vs,i,v,rfl,rfl,e.seq s,hv,q⟩
theorem ev_isi {T':String}{t:T}{f:T→Bool}(h:Ev ta σ H v)(r:Rep H v t)(hk:∀t,PySem.W.kitOne K (tyT t) (.type T')=some (f t)):
  Ev (tCB (fun xs H Q=>∃x t T b,xs=[x, .ty T]∧TyOf K H x t∧PySem.W.kitOne K t (.type T)=some b∧Q (.bl b) H) (tCons ta (tCons (tC (.ty T')) tNil))) σ H (.bl (f t)) :=
 fun Q q=>h _ fun H' e=>⟨v,_,T',_,rfl,rep_ty (r.same e),hk t,q H' e⟩
theorem ev_spT {f:T→Bool}{t:T}(h:Ev ta σ H v)(r:Rep H v t):Ev (tCall (spT f) [] E0 (tCons ta tNil)) σ H (.bl (f t)):=fun Q q=>h _ fun H' e=>⟨v,t,rfl,r.same e,fun H2 e2=>q H2 (e.trans e2)⟩
end
theorem eq_thing {K:PySem.W.Frag}{H:Hp}{v:V}{t:T}{z:Str}{Q:VK}(r:Rep H v t)(q:Q (.bl (onStr (fun x=>decide (x=z)) t)) H):
  rEq v (.str z) H Q∨∃a xs y,v=.ref a∧(V.str z)=.str y∧SqT K H a xs∧Q (.bl false) H:=by
 cases r with
 |int i=>exact .inl ⟨rfl,by rw[decide_eq_false (by intro e;cases e)];exact q⟩
 |str x h=>exact .inl ⟨rfl,by rw[dec_str,Bool.beq_eq_decide_eq];exact q⟩
 |tup h r=>exact .inr ⟨_,_,_,rfl,rfl,SqT.of h,q⟩
theorem ev_eqT {K:PySem.W.Frag}{ta tb:TE}{σ:L2.St}{H:Hp}{v:V}{t:T}{z:Str}(h1:Ev ta σ H v)(r:Rep H v t)(h2:∀H',Same H H'→Ev tb σ H' (.str z)):
  Ev (tOp (fun x y H Q=>rEq x y H Q∨∃a xs z,x=.ref a∧y=.str z∧SqT K H a xs∧Q (.bl false) H) ta tb) σ H (.bl (onStr (fun x=>decide (x=z)) t)) :=
 ev_op h1 h2 fun H' Q e q=>eq_thing (r.same e) q
end Fw
namespace L2
open PySem PySem.Spec PyProof.Rows
theorem mt_stripC {X:Cx}:MtR X "str.strip" (fun x xs H Q=>∃z y,x=V.str z∧xs=[.str y]∧z.length≤sizeLine∧Q (.str (Txt.stripChars z y)) H):=by
 intro pins s σ H x xs v us Q I rx rs h
 obtain⟨z,y,rfl,rfl,hz,q⟩:=h
 obtain⟨t,rfl⟩:=rx
 obtain⟨u,rfl,ru⟩:=vals1 rs
 obtain⟨t',rfl⟩:=ru
 exact SCL.stripChars (fun t2 k _=>⟨.str (Txt.stripChars z y),H,I.tok k,⟨t2,rfl⟩,q⟩) hz
end L2
namespace Fw
open PySem PySem.Spec PyProof.Rows L2
theorem empty_len {x:Str}(h:x.length=0):x="":=by
 obtain⟨c⟩:=x
 have e:c=#[]:=Array.eq_empty_of_size_eq_zero h
 rw[e]
 decide+kernel
theorem tw_all {α:Type}(p:α→Bool):∀l:List α,l.all p=true→l.takeWhile p=l
 |[],_=>rfl
 |a::r,h=>by
  rw[List.all_cons,Bool.and_eq_true]at h
  rw[List.takeWhile_cons,if_pos h.1,tw_all p r h.2]
theorem tw_len {α:Type}(p:α→Bool):∀l:List α,l.all p=false→(l.takeWhile p).length<l.length
 |[],h=>by cases h
 |a::r,h=>by
  rw[List.takeWhile_cons]
  by_cases c:p a=true
  ·rw[if_pos c]
   rw[List.all_cons,c,Bool.true_and]at h
   exact Nat.succ_lt_succ (tw_len p r h)
  ·rw[if_neg c]
   exact Nat.succ_pos _
theorem tw_drop {α:Type}(p:α→Bool):∀l:List α,l.all p=false→(l.drop (l.takeWhile p).length).all p=false
 |[],h=>by cases h
 |a::r,h=>by
  rw[List.takeWhile_cons]
  by_cases c:p a=true
  ·rw[if_pos c]
   rw[List.all_cons,c,Bool.true_and]at h
   exact tw_drop p r h
  ·rw[if_neg c]
   exact h
theorem strip_len (x y:Str):(Txt.stripChars x y).length=0↔allS x y=true:=by
 have hn:x.cps.toList.length=x.length:=len_toList x
 have ep:∀c,y.cps.contains c=inS y c:=fun c=>by
  unfold inS
  rw[←Array.contains_toList]
  exact List.contains_eq_mem c y.cps.toList
 have ef:(fun c=>y.cps.contains c)=inS y:=funext ep
 unfold Txt.stripChars Txt.stripBy stripSame stripped stripHi stripLo
 simp only[if_true]
 have ef':y.cps.contains=inS y:=ef
 rw[ef']
 have ea:allS x y=x.cps.toList.all (inS y):=rfl
 rw[ea]
 generalize x.cps.toList=l at hn
 by_cases h:l.all (inS y)=true
 ·rw[tw_all _ l h,List.drop_eq_nil_of_le (Nat.le_refl _)]
  refine⟨fun _=>h,fun _=>?_⟩
  show(if(l.length==0&&x.length-0==x.length)=true then x else Builtin.Str.strSub x l.length (x.length-0)).length=0
  by_cases hc:(l.length==0&&x.length-0==x.length)=true
  ·rw[if_pos hc]
   rw[Bool.and_eq_true,beq_iff_eq,beq_iff_eq]at hc
   omega
  ·rw[if_neg hc]
   show(x.cps.extract l.length (x.length-0)).size=0
   rw[Array.size_extract]
   omega
 ·have h':l.all (inS y)=false:=by simpa using h
  have a1:=tw_len _ l h'
  have a2:=tw_drop _ l h'
  rw[←List.all_reverse]at a2
  have a3:=tw_len _ _ a2
  rw[List.length_reverse,List.length_drop]at a3
  refine⟨fun hz=>?_,fun h2=>absurd h2 h⟩
  exfalso
  split at hz
  ·omega
  ·have hz':(x.cps.extract (List.takeWhile (inS y) l).length (x.length-(List.takeWhile (inS y) (List.drop (List.takeWhile (inS y) l).length l).reverse).length)).size=0:=hz
   rw[Array.size_extract]at hz'
   have hs:x.cps.size=x.length:=rfl
   omega
theorem strip_is (x y:Str):decide (V.str (Txt.stripChars x y)=V.str "")=allS x y:=by
 have h:=strip_len x y
 by_cases c:allS x y=true
 ·rw[c]
  exact decide_eq_true (congrArg V.str (empty_len (h.mpr c)))
 ·have c':allS x y=false:=by simpa using c
  rw[c']
  refine decide_eq_false fun e=>c (h.mp ?_)
  injection e with e'
  rw[e']
  decide+kernel
def top (i:Nat):Stmt:=PySem.Challenge.pw_facework_k08_whole_programs_go_round.main.body.getD i (.Pass ⟨0,0,0,0⟩)
section
variable {P:Program}{w:World}{K:PySem.W.Frag}{mg:Str→Option Value}{base:Heap}{f:Addr}{fd:FuncData}
abbrev s_all_of:Stmt:=top 11
theorem sc_all_of:FnScope ["text","signs"] ["text","signs"] (defScope s_all_of):=⟨rfl,rfl,rfl,by decide+kernel,rfl,by decide+kernel,by decide+kernel⟩
theorem ok_all_of (F:Fun K "all_of" "all_of" s_all_of f fd)(G:Gb K mg):FnOk P w K mg base CX0 1 f fd ["text","signs"] spAllOf:=by
 refine F.ok sc_all_of (len:=fun vs H Q E h=>(by obtain⟨x,y,rfl,_⟩:=h;rfl)) (fun cdv A outer s H vs Q E hr h=>?_)
 obtain⟨x,y,rfl,hx,q⟩:=h
 refine⟨_,pss_one (ps_ret (pe_cmpR op_eq (pe_bm PySem.F.plainAttrs_str PySem.F.slot_str_strip PySem.F.type_str_strip mt_stripC (pv 0) (pa_cons (pv 1) pa_nil)) pe_str (nomark _))),?_⟩
 refine⟨_,rfl,rfl,_,rfl,x,y,rfl,rfl,small (by omega),rfl,?_⟩
 rw[strip_is]
 exact q H (Same.refl H)
abbrev s_is_small:Stmt:=top 12
theorem sc_is_small:FnScope ["thing"] ["thing"] (defScope s_is_small):=⟨rfl,rfl,rfl,by decide+kernel,rfl,by decide+kernel,by decide+kernel⟩
theorem ok_is_small (F:Fun K "is_small" "is_small" s_is_small f fd)(G:Gb K mg)(h1:Has P w K mg base 1 "all_of" ["text","signs"] spAllOf):FnOk P w K mg base CX0 2 f fd ["thing"] (spT (onStr smallB)):=by
 refine F.ok sc_is_small (len:=fun vs H Q E h=>(by obtain⟨v,t,rfl,_⟩:=h;rfl)) (fun cdv A outer s H vs Q E hr h=>?_)
 obtain⟨v,t,rfl,rt,q⟩:=h
 obtain⟨t1,hsm⟩:=G.small
 obtain⟨t2,hmo⟩:=G.most
 refine⟨_,pss_one (ps_ret (pe_and (pe_callB call_isi rfl G.isi boot_isinstance (pa_cons (pv 0) (pa_cons (pe_bltn (v:=.ty "str") rfl G.str boot_str rfl) pa_nil)))
  (pe_and (pe_chain op_le op_le pe_int (pe_callB call_len_str rfl G.len PySem.boot_len (pa_cons (pv 0) pa_nil)) (pe_glob (v:=.int 8) rfl hmo ⟨_,rfl⟩))
   (pe_one (pcall h1 hr (by decide) rfl (pa_cons (pv 0) (pa_cons (pe_glob (v:=.str smallS) rfl hsm ⟨_,rfl⟩) pa_nil))))))),?_⟩
 refine⟨_,rfl,_,_,_,_,rfl,rep_ty rt,kit_str K t,_,rfl,?_⟩
 cases rt with
 |int i=>exact iteF (q H (Same.refl H))
 |tup h r=>exact iteF (q H (Same.refl H))
 |str z hz=>
  have q':∀H',Same H H'→Q (.bl (smallB z)) H':=q
  refine iteT ⟨_,rfl,z,rfl,small (by omega),1,z.length,rfl,rfl,_,rfl,?_⟩
  refine ite2 (fun c=>?_) (fun c=>?_)
  ·have c1:(1:Int)≤z.length:=of_decide_eq_true c
   refine⟨_,_,rfl,rfl,_,rfl,?_⟩
   refine ite2 (fun d=>?_) (fun d=>?_)
   ·have d1:(z.length:Int)≤8:=of_decide_eq_true d
    rw[smallB_in (by omega) (by omega)]at q'
    exact⟨_,rfl,z,smallS,rfl,hz,q'⟩
   ·have d1:¬(z.length:Int)≤8:=of_decide_eq_false (Bool.eq_false_iff.mpr d)
    rw[smallB_hi (by omega)]at q'
    exact q' H (Same.refl H)
  ·have c1:¬(1:Int)≤z.length:=of_decide_eq_false (Bool.eq_false_iff.mpr c)
   rw[smallB_lo (by omega)]at q'
   exact⟨_,rfl,iteF (q' H (Same.refl H))⟩
abbrev s_is_name:Stmt:=top 13
theorem sc_is_name:FnScope ["thing"] ["thing"] (defScope s_is_name):=⟨rfl,rfl,rfl,by decide+kernel,rfl,by decide+kernel,by decide+kernel⟩
theorem ok_is_name (F:Fun K "is_name" "is_name" s_is_name f fd)(G:Gb K mg)(h1:Has P w K mg base 2 "is_small" ["thing"] (spT (onStr smallB))):FnOk P w K mg base CX0 3 f fd ["thing"] (spT (onStr nameB)):=by
 refine F.ok sc_is_name (len:=fun vs H Q E h=>(by obtain⟨v,t,rfl,_⟩:=h;rfl)) (fun cdv A outer s H vs Q E hr h=>?_)
 obtain⟨v,t,rfl,rt,q⟩:=h
 obtain⟨a,hke,hkt⟩:=G.kept
 refine⟨_,pss_one (ps_ret (pe_and (pcall h1 hr (by decide) rfl (pa_cons (pv 0) pa_nil)) (pe_one (pe_cmpR op_notIn_seq (pv 0) (pe_glob (v:=.ref a) rfl hke rfl) (by with_unfolding_all rfl))))),?_⟩
 refine⟨_,rfl,v,t,rfl,rt,fun H' e=>⟨_,rfl,?_⟩⟩
 cases rt with
 |int i=>exact iteF (q H' e)
 |tup h r=>exact iteF (q H' e)
 |str z hz=>
  have q':∀H',Same H H'→Q (.bl (nameB z)) H':=q
  show if smallB z=true then _ else _
  cases hs:smallB z with
  |false=>
   unfold nameB at q'
   rw[hs]at q'
   exact iteF (q' H' e)
  |true=>
   unfold nameB at q'
   rw[hs]at q'
   refine iteT ⟨_,rfl,a,keptL.map V.str,rfl, .inr (hkt H'),rfl,flat_strs _,?_⟩
   rw[if_pos rfl,inV_str]
   exact q' H' e
abbrev s_is_great:Stmt:=top 14
theorem sc_is_great:FnScope ["thing"] ["thing"] (defScope s_is_great):=⟨rfl,rfl,rfl,by decide+kernel,rfl,by decide+kernel,by decide+kernel⟩
theorem ok_is_great (F:Fun K "is_great" "is_great" s_is_great f fd)(G:Gb K mg)(h1:Has P w K mg base 1 "all_of" ["text","signs"] spAllOf):FnOk P w K mg base CX0 2 f fd ["thing"] (spT (onStr greatB)):=by
 refine F.ok sc_is_great (len:=fun vs H Q E h=>(by obtain⟨v,t,rfl,_⟩:=h;rfl)) (fun cdv A outer s H vs Q E hr h=>?_)
 obtain⟨v,t,rfl,rt,q⟩:=h
 obtain⟨t1,hsm⟩:=G.small
 obtain⟨t2,hmo⟩:=G.most
 obtain⟨t3,hgr⟩:=G.great
 refine⟨_,pss_cons (ps_if (PW.pt (pw_or (pt_not (pt_val (pe_callB call_isi rfl G.isi boot_isinstance (pa_cons (pv 0) (pa_cons (pe_bltn (v:=.ty "str") rfl G.str boot_str rfl) pa_nil)))))
   (pw_or1 (pt_not (pt_chain op_le op_le pe_int (pe_callB call_len_str rfl G.len PySem.boot_len (pa_cons (pv 0) pa_nil)) (pe_glob (v:=.int 8) rfl hmo ⟨_,rfl⟩)))))) (pss_one (ps_ret pe_bl)) pss_nil)
  (pss_one (ps_ret (pe_and (pe_cmpR op_in_str (pe_ix ix_str (pv 0) pe_int (fun _ _=>rfl)) (pe_glob (v:=.str greatS) rfl hgr ⟨_,rfl⟩) (by with_unfolding_all rfl))
   (pe_one (pcall h1 hr (by decide) rfl (pa_cons (pe_slice sl_str (pv 0) (po_some pe_int) po_none) (pa_cons (pe_glob (v:=.str smallS) rfl hsm ⟨_,rfl⟩) pa_nil))))))),?_⟩
 refine⟨_,rfl,_,_,_,_,rfl,rep_ty rt,kit_str K t,_,rfl,?_⟩
 cases rt with
 |int i=>exact iteT (iteT (q H (Same.refl H)))
 |tup h r=>exact iteT (iteT (q H (Same.refl H)))
 |str z hz=>
  have q':∀H',Same H H'→Q (.bl (greatB z)) H':=q
  refine iteF ⟨_,rfl,z,rfl,small (by omega),1,z.length,rfl,rfl,_,rfl,?_⟩
  refine ite2 (fun c=>?_) (fun c=>?_)
  ·have c1:(1:Int)≤z.length:=of_decide_eq_true c
   refine⟨_,_,rfl,rfl,_,rfl,?_⟩
   refine ite2 (fun d=>?_) (fun d=>?_)
   ·have d1:¬(z.length:Int)≤8:=of_decide_eq_false (by simpa using d)
    rw[greatB_hi (by omega)]at q'
    exact q' H (Same.refl H)
   ·have d1:(z.length:Int)≤8:=of_decide_eq_true (by simpa using d)
    rw[greatB_in (by omega) (by omega)]at q'
    refine⟨_,rfl,z,0,_,rfl,rfl,small (by omega),first_at (by omega),_,_,rfl,rfl,_,rfl,?_⟩
    rw[StrLaws.found_one]
    show if inS greatS (z.cps.toList.getD 0 0)=true then _ else _
    cases hg:inS greatS (z.cps.toList.getD 0 0) with
    |false=>
     rw[hg]at q'
     exact iteF (q' H (Same.refl H))
    |true=>
     rw[hg,Bool.true_and]at q'
     refine iteT ⟨_,rfl,1,rfl,z,rfl,small (by omega),?_⟩
     have rl:=rest_len z
     refine⟨restS z,smallS,?_,by omega,q'⟩
     rw[rest_slice (by omega)]
     rfl
  ·have c1:¬(1:Int)≤z.length:=of_decide_eq_false (Bool.eq_false_iff.mpr c)
   rw[greatB_lo (by omega)]at q'
   exact⟨_,rfl,iteT (q' H (Same.refl H))⟩
abbrev s_is_path:Stmt:=top 15
theorem sc_is_path:FnScope ["thing","sides"] ["thing"] (defScope s_is_path):=⟨rfl,rfl,rfl,by decide+kernel,rfl,by decide+kernel,by decide+kernel⟩
theorem ok_is_path (F:Fun K "is_path" "is_path" s_is_path f fd)(G:Gb K mg)(h1:Has P w K mg base 3 "is_name" ["thing"] (spT (onStr nameB)))(h2:Has P w K mg base 2 "is_great" ["thing"] (spT (onStr greatB))):FnOk P w K mg base CX0 4 f fd ["thing"] (spT (onStr pathB)):=by
 refine F.ok sc_is_path (len:=fun vs H Q E h=>(by obtain⟨v,t,rfl,_⟩:=h;rfl)) (fun cdv A outer s H vs Q E hr h=>?_)
 obtain⟨v,t,rfl,rt,q⟩:=h
 refine⟨_,pss_cons (ps_if (pt_not (pt_val (pe_callB call_isi rfl G.isi boot_isinstance (pa_cons (pv 0) (pa_cons (pe_bltn (v:=.ty "str") rfl G.str boot_str rfl) pa_nil))))) (pss_one (ps_ret pe_bl)) pss_nil)
  (pss_cons (ps_set (i:=1) sc_is_path.nd rfl (Or.inl rfl) (pe_bm PySem.F.plainAttrs_str PySem.F.slot_str_split PySem.F.type_str_split mt_split (pv 0) (pa_cons pe_str pa_nil)))
   (pss_one (ps_ret (pe_and (pe_cmpR op_eq (pe_callB call_len_seq rfl G.len PySem.boot_len (pa_cons (pv 1) pa_nil)) pe_int (nomark _))
    (pe_and (pcall h2 hr (by decide) rfl (pa_cons (pe_ix ix_list (pv 1) pe_int (fun _ _=>rfl)) pa_nil))
     (pe_one (pcall h1 hr (by decide) rfl (pa_cons (pe_ix ix_list (pv 1) pe_int (fun _ _=>rfl)) pa_nil)))))))),?_⟩
 refine⟨_,rfl,_,_,_,_,rfl,rep_ty rt,kit_str K t,_,rfl,?_⟩
 cases rt with
 |int i=>exact iteT (q H (Same.refl H))
 |tup h r=>exact iteT (q H (Same.refl H))
 |str z hz=>
  have q':∀H',Same H H'→Q (.bl (pathB z)) H':=q
  have sl:=split_short z
  refine iteF ⟨_,rfl,rfl,z,".",rfl,rfl,small (by omega),by decide+kernel,small (by omega),fun l hl=>?_⟩
  have g1:=same_new hl (.lst ((Txt.split z ".").map V.str))
  refine⟨_,rfl,l,_,rfl, .inl (SqL.of upd_same),rfl,_,rfl,?_⟩
  refine ite2 (fun c=>?_) (fun c=>?_)
  ·have c1:(Txt.split z ".").length=2:=by
    have:=of_decide_eq_true c
    injection this with e
    rw[List.length_map]at e
    omega
   obtain⟨a,b,e⟩:∃a b,Txt.split z "."=[a,b]:=by
    match hh:Txt.split z ".",c1 with
    |[a,b],_=>exact⟨a,b,rfl⟩
   have la:a.length≤z.length:=part_short (y:=".") (by rw[e];simp)
   have lb:b.length≤z.length:=part_short (y:=".") (by rw[e];simp)
   rw[pathB_two e]at q'
   refine⟨_,rfl,l,_,0, .str a,rfl,rfl,SqL.of upd_same,atI_nat (j:=0) (by rw[e];rfl), .str a, .str a,rfl, .str a (by omega),fun H2 e2=>⟨_,rfl,?_⟩⟩
   show if greatB a=true then _ else _
   cases hg:greatB a with
   |false=>
    rw[hg]at q'
    exact iteF (q' H2 (g1.trans e2))
   |true=>
    rw[hg,Bool.true_and]at q'
    refine iteT ⟨_,rfl,l,_,1, .str b,rfl,rfl,SqL.of (e2 _ _ upd_same),atI_nat (j:=1) (by rw[e];rfl), .str b, .str b,rfl, .str b (by omega),fun H3 e3=>q' H3 (g1.trans (e2.trans e3))⟩
  ·have c1:(Txt.split z ".").length≠2:=fun e=>c (by rw[List.length_map,e];rfl)
   rw[pathB_other c1]at q'
   exact q' _ g1
end
theorem atH {vs:List V}{v:V}{ws:List V}(h:vs=v::ws):atI vs (0:Int)=some v:=by subst h;exact atI_nat (j:=0) rfl
section
variable {P:Program}{w:World}{K:PySem.W.Frag}{mg:Str→Option Value}{base:Heap}{f:Addr}{fd:FuncData}
abbrev s_is_variable:Stmt:=top 16
theorem sc_is_variable:FnScope ["thing"] ["thing"] (defScope s_is_variable):=⟨rfl,rfl,rfl,by decide+kernel,rfl,by decide+kernel,by decide+kernel⟩
theorem ok_is_variable (F:Fun K "is_variable" "is_variable" s_is_variable f fd)(G:Gb K mg)(h1:Has P w K mg base 2 "is_small" ["thing"] (spT (onStr smallB))):FnOk P w K mg base CX0 3 f fd ["thing"] (spT (onStr varB)):=by
 refine F.ok sc_is_variable (len:=fun vs H Q E h=>(by obtain⟨v,t,rfl,_⟩:=h;rfl)) (fun cdv A outer s H vs Q E hr h=>?_)
 obtain⟨v,t,rfl,rt,q⟩:=h
 refine⟨_,pss_one (ps_ret (pe_and (pe_callB call_isi rfl G.isi boot_isinstance (pa_cons (pv 0) (pa_cons (pe_bltn (v:=.ty "str") rfl G.str boot_str rfl) pa_nil)))
  (pe_and (pe_bm PySem.F.plainAttrs_str PySem.F.slot_str_startswith PySem.F.type_str_startswith mt_startswith (pv 0) (pa_cons pe_str pa_nil))
   (pe_one (pcall h1 hr (by decide) rfl (pa_cons (pe_slice sl_str (pv 0) (po_some pe_int) po_none) pa_nil)))))),?_⟩
 refine⟨_,rfl,_,_,_,_,rfl,rep_ty rt,kit_str K t,_,rfl,?_⟩
 cases rt with
 |int i=>exact iteF (q H (Same.refl H))
 |tup h r=>exact iteF (q H (Same.refl H))
 |str z hz=>
  have q':∀H',Same H H'→Q (.bl (varB z)) H':=q
  refine iteT ⟨_,rfl,rfl,z,"?",rfl,rfl,_,rfl,?_⟩
  rw[starts_qm]
  unfold varB at q'
  cases hh:decide (z.cps.toList.head?=some 63) with
  |false=>
   rw[hh]at q'
   exact iteF (q' H (Same.refl H))
  |true=>
   rw[hh,Bool.true_and]at q'
   have h63:=of_decide_eq_true hh
   have hl:1≤z.length:=by
    rw[←len_toList]
    cases e:z.cps.toList with
    |nil=>rw[e]at h63;cases h63
    |cons c r=>simp
   have rl:=rest_len z
   refine iteT ⟨_,rfl,1,rfl,z,rfl,small (by omega),?_⟩
   refine⟨.str (restS z), .str (restS z),?_, .str _ (by omega),q'⟩
   rw[rest_slice hl]
   rfl
end
def StOk (H:Hp)(st:Addr):Prop:=∃ns:List Int,ns≠[]∧ns.length≤100∧H st=some (.lst (ns.map V.int))
def Grow (st:Addr)(H H':Hp):Prop:=(∀b o,b≠st→H b=some o→H' b=some o)∧StOk H' st
theorem Grow.refl {st:Addr}{H:Hp}(h:StOk H st):Grow st H H:=⟨fun _ _ _ e=>e,h⟩
theorem Grow.trans {st:Addr}{H H1 H2:Hp}(a:Grow st H H1)(b:Grow st H1 H2):Grow st H H2:=⟨fun c o hc e=>b.1 c o hc (a.1 c o hc e),b.2⟩
theorem Grow.ok {st:Addr}{H H':Hp}(a:Grow st H H'):StOk H' st:=a.2
theorem StOk.same {st:Addr}{H H':Hp}(h:StOk H st)(e:Same H H'):StOk H' st:=by
 obtain⟨ns,h1,h2,h3⟩:=h
 exact⟨ns,h1,h2,e _ _ h3⟩
theorem grow_same {st:Addr}{H H':Hp}(h:StOk H st)(e:Same H H'):Grow st H H':=⟨fun b o _ q=>e b o q,h.same e⟩
theorem grow_new {st p:Addr}{H:Hp}{o:HO}(h:StOk H st)(hp:H p=none):Grow st H (upd H p o):=grow_same h (same_new hp o)
theorem grow_set {st:Addr}{H:Hp}{ns:List Int}(h1:ns≠[])(h2:ns.length≤100):Grow st H (upd H st (.lst (ns.map V.int))):=⟨fun b o hb e=>by rw[upd_ne hb];exact e,ns,h1,h2,upd_same⟩
theorem StOk.ne_tup {st b:Addr}{H:Hp}{xs:List V}(h:StOk H st)(e:H b=some (.tup xs)):b≠st:=by
 obtain⟨ns,_,_,h3⟩:=h
 exact ne_of e h3 (by intro z;cases z)
theorem Grow.tups {st:Addr}{H H':Hp}(a:Grow st H H')(h:StOk H st):∀b xs,H b=some (.tup xs)→H' b=some (.tup xs):=fun b xs e=>a.1 b _ (h.ne_tup e) e
theorem Rep.grow {st:Addr}{H H':Hp}{v:V}{t:T}(r:Rep H v t)(a:Grow st H H')(h:StOk H st):Rep H' v t:=r.mono (a.tups h)
theorem Reps.grow {st:Addr}{H H':Hp}{vs:List V}{ts:List T}(r:Reps H vs ts)(a:Grow st H H')(h:StOk H st):Reps H' vs ts:=r.mono (a.tups h)
theorem ix0 (k:Nat):ixN (k+1) 0=some 0:=by
 unfold ixN
 rw[if_pos (by omega),if_pos (by omega)]
 rfl
theorem sq0 (k:Nat):seqIndex? 0 (k+1)=some 0:=(ixN_seq (ix0 k)).1
def spNext:Sp:=fun vs H Q _=>∃(st:Addr) (m:Int),vs=[.ref st, .int m]∧StOk H st∧0<m∧m<1000000∧∀(d:Int) H',0≤d→d<m→Grow st H H'→Q (.int d) H'
section
variable {P:Program}{w:World}{K:PySem.W.Frag}{mg:Str→Option Value}{base:Heap}{f:Addr}{fd:FuncData}
abbrev s_next:Stmt:=top 77
theorem sc_next:FnScope ["_law_state","_law_many","_law_digit"] ["_law_state","_law_many"] (defScope s_next):=⟨rfl,rfl,rfl,by decide+kernel,rfl,by decide+kernel,by decide+kernel⟩
theorem ok_next (F:Fun K "_law_next" "_law_next" s_next f fd)(ml:mg "len"=none):FnOk P w K mg base CX0 1 f fd ["_law_state","_law_many"] spNext:=by
 refine F.ok sc_next (len:=fun vs H Q E h=>(by obtain⟨st,m,rfl,_⟩:=h;rfl)) (fun cdv A outer s H vs Q E hr h=>?_)
 obtain⟨st,m,rfl,hs,m0,m1,q⟩:=h
 obtain⟨ns,hne,hle,hst⟩:=id hs
 refine⟨_,pss_cons (ps_if (pt_cmpR op_gt (pe_callB call_len_seq rfl ml PySem.boot_len (pa_cons (pv 0) pa_nil)) pe_int (nomark _))
   (pss_cons (ps_set (i:=2) sc_next.nd rfl (Or.inl rfl) (pe_op op_mod (pe_ix ix_list (pv 0) pe_int (fun _ _=>rfl)) (pv 1)))
   (pss_cons (ps_asg (pe_op op_fdiv (pe_ix ix_list (pv 0) pe_int (fun _ _=>rfl)) (pv 1)) (pg_sub (pv 0) pe_int set_list))
   (pss_cons (ps_if (pt_cmpR op_in_seq (pe_ix ix_list (pv 0) pe_int (fun _ _=>rfl)) (pe_tup (pa_cons pe_int (pa_cons (pe_un un_neg pe_int) pa_nil))) (by with_unfolding_all rfl))
    (pss_one (ps_expr (pe_bm PySem.F.plainAttrs_list PySem.F.slot_list_pop PySem.F.type_list_pop mt_popAt (pv 0) (pa_cons pe_int pa_nil)))) pss_nil)
   (pss_one (ps_ret (pv 2)))))) pss_nil)
  (pss_cons (ps_asg (pe_op op_mod (pe_op op_add (pe_op op_mul (pe_ix ix_list (pv 0) pe_int (fun _ _=>rfl)) pe_int) pe_int) (pe_op op_sub (pe_op op_pow pe_int pe_int) pe_int)) (pg_sub (pv 0) pe_int set_list))
  (pss_one (ps_ret (pe_op op_mod (pe_op op_fdiv (pe_ix ix_list (pv 0) pe_int (fun _ _=>rfl)) pe_int) (pv 1))))),?_⟩
 cases ns with
 |nil=>exact absurd rfl hne
 |cons n r=>
  refine⟨_,rfl,st,_,rfl, .inl (SqL.of hst),_,_,rfl,rfl,_,rfl,?_⟩
  refine ite2 (fun c=>?_) (fun c=>?_)
  ·have c1:(1:Int)<(((n::r).map V.int).length:Nat):=of_decide_eq_true c
   have hr0:r≠[]:=fun e=>by rw[e]at c1;simp at c1
   refine⟨_,rfl,st,_,0, .int n,rfl,rfl,SqL.of hst,atI_nat (j:=0) rfl,_,rfl,n,m,rfl,rfl,m0,?_⟩
   refine⟨_,rfl,st,_,0, .int n,rfl,rfl,SqL.of hst,atI_nat (j:=0) rfl,_,rfl,n,m,rfl,rfl,⟨m0,by omega⟩,?_⟩
   refine⟨_,rfl,st,_,0,0,rfl,rfl,hst,by rw[List.length_map];exact ix0 _,?_⟩
   have g1:Grow st H (upd H st (.lst ((n / m::r).map V.int))):=grow_set (by simp) (by simpa using hle)
   refine⟨_,rfl,st,_,0, .int (n / m),rfl,rfl,SqL.of upd_same,atI_nat (j:=0) rfl,1,rfl,small (by show 2≤1000000;decide),fun p hp=>?_⟩
   have g2:Grow st _ (upd (upd H st (.lst ((n / m::r).map V.int))) p (.tup [.int 0, .int (-1)])):=grow_new g1.ok hp
   refine⟨p,[.int 0, .int (-1)],rfl, .inr (SqT.of upd_same),rfl,rfl,_,rfl,?_⟩
   have hd0:0≤n%m:=Int.emod_nonneg _ (by omega)
   have hd1:n%m<m:=Int.emod_lt_of_pos _ m0
   have hst2:(upd (upd H st (.lst ((n / m::r).map V.int))) p (.tup [.int 0, .int (-1)])) st=some (.lst ((n / m::r).map V.int)):=(same_new hp _) _ _ upd_same
   refine ite2 (fun c2=>?_) (fun c2=>?_)
   ·refine⟨_,rfl, .inl ⟨rfl,_,SqL.of hst2⟩,st,_,0,0, .int (n / m),rfl,rfl,hst2,by decide,by decide,?_,rfl,?_⟩
    ·rw[List.length_map]
     exact sq0 _
    ·refine⟨_,rfl,q _ _ hd0 hd1 ((g1.trans g2).trans ?_)⟩
     exact grow_set (ns:=r) hr0 (by simp at hle;omega)
   ·exact⟨_,rfl,q _ _ hd0 hd1 (g1.trans g2)⟩
  ·refine⟨_,rfl,st,_,0, .int n,rfl,rfl,SqL.of hst,atI_nat (j:=0) rfl,_,_,rfl,rfl, .inr ⟨by decide,by decide⟩,_,_,rfl,rfl,_,_,rfl,rfl,⟨by decide,by decide,by decide⟩,_,_,rfl,rfl,_,_,rfl,rfl,(by show(0:Int)<2^61-1;decide),?_⟩
   refine⟨_,rfl,st,_,0,0,rfl,rfl,hst,by rw[List.length_map];exact ix0 _,?_⟩
   have g1:∀x,Grow st H (upd H st (.lst ((x::r).map V.int))):=fun x=>grow_set (by simp) (by simpa using hle)
   refine⟨_,rfl,st,_,0, .int _,rfl,rfl,SqL.of upd_same,atI_nat (j:=0) rfl,_,_,rfl,rfl,⟨by decide,by decide⟩,_,rfl,_,_,rfl,rfl,m0,?_⟩
   exact q _ _ (Int.emod_nonneg _ (by omega)) (Int.emod_lt_of_pos _ m0) (g1 _)
end
def spDrawn (K:PySem.W.Frag):Sp:=fun vs H Q _=>∃(a:Addr) (ns:List Int),vs=[.ref a]∧SqL K H a (ns.map V.int)∧ns.length≤63∧∀p H',Same H H'→H p=none→StOk H' p→Q (.ref p) H'
def spKept:Sp:=fun vs H Q _=>vs=[]∧∀p H',Same H H'→H p=none→H' p=some (.lst (keptL.map V.str))→Q (.ref p) H'
def spLetters:Sp:=fun vs H Q _=>∃(st:Addr) (n:Nat),vs=[.ref st, .int n]∧StOk H st∧n≤8∧∀z H',IsLet z n→Grow st H H'→Q (.str z) H'
def spStr (p:Str→Prop):Sp:=fun vs H Q _=>∃(st:Addr),vs=[.ref st]∧StOk H st∧∀z H',p z→z.length≤100→Grow st H H'→Q (.str z) H'
def spInt:Sp:=fun vs H Q _=>∃(st:Addr),vs=[.ref st]∧StOk H st∧∀(i:Int) H',-(10^30)<i→i<10^30→Grow st H H'→Q (.int i) H'
theorem at_any {α:Type}{xs:List α}{d:Int}(h0:0≤d)(h1:d<xs.length):∃v,atI xs d=some v∧v∈xs:=by
 have hd:d.toNat<xs.length:=by omega
 refine⟨xs[d.toNat],?_,List.getElem_mem hd⟩
 have e:((d.toNat:Nat):Int)=d:=by omega
 have q:=atI_nat (xs:=xs) (j:=d.toNat) (v:=xs[d.toNat]) (List.getElem?_eq_getElem hd)
 rw[e]at q
 exact q
theorem at_small {d:Int}(h0:0≤d)(h1:d<26):∃c,atI smallS.cps.toList d=some c∧c∈smallS.cps.toList :=
 at_any h0 (by rw[len_toList,smallS_len];exact h1)
theorem at_great {d:Int}(h0:0≤d)(h1:d<26):∃c,atI greatS.cps.toList d=some c∧c∈greatS.cps.toList :=
 at_any h0 (by rw[len_toList,greatS_len];exact h1)
theorem head_name {z:Str}(h:nameB z=true):headB z=true:=by unfold headB;rw[h];rfl
theorem head_path {z:Str}(h:pathB z=true):headB z=true:=by unfold headB;rw[h];simp
theorem leaf_var {z:Str}(h:varB z=true):leafB z=true:=by unfold leafB;rw[h];simp
theorem leaf_name {z:Str}(h:nameB z=true):leafB z=true:=by unfold leafB;rw[h];simp
theorem leaf_path {z:Str}(h:pathB z=true):leafB z=true:=by unfold leafB;rw[h];simp
theorem kept_split:Txt.split ("num fun call let ring case make pick plus minus times less if kind record face"++" hide val part maker apply main") " "=keptL:=by decide+kernel
theorem smallS_le:smallS.length≤1000:=by rw[smallS_len];decide
theorem greatS_le:greatS.length≤1000:=by rw[greatS_len];decide
theorem Grow.at_ {st p:Addr}{H H':Hp}{o:HO}(a:Grow st H H')(h:StOk H st)(hp:∀ns,o≠.lst (List.map V.int ns))(e:H p=some o):H' p=some o:=by
 obtain⟨ns,_,_,h3⟩:=h
 exact a.1 p o (ne_of e h3 (hp ns)) e
section
variable {P:Program}{w:World}{K:PySem.W.Frag}{mg:Str→Option Value}{base:Heap}{f:Addr}{fd:FuncData}
abbrev s_drawn:Stmt:=top 78
theorem sc_drawn:FnScope ["_law_script","_law_seed","_law_cell"] ["_law_script"] (defScope s_drawn):=⟨rfl,rfl,rfl,by decide+kernel,rfl,by decide+kernel,by decide+kernel⟩
theorem ok_drawn (F:Fun K "_law_drawn" "_law_drawn" s_drawn f fd)(ml:mg "len"=none):FnOk P w K mg base CX0 1 f fd ["_law_script"] (spDrawn K):=by
 refine F.ok sc_drawn (len:=fun vs H Q E h=>(by obtain⟨a,ns,rfl,_⟩:=h;rfl)) (fun cdv A outer s H vs Q E hr h=>?_)
 obtain⟨a,ns,rfl,hS,h63,q⟩:=h
 refine⟨_,pss_cons (ps_set (i:=1) sc_drawn.nd rfl (Or.inl rfl) pe_int)
  (pss_cons (ps_for PassesOwn.never rfl (pi_list (pv 0)) (pg_name (i:=2) sc_drawn.nd rfl (Or.inl rfl)) (pss_one (ps_set (i:=1) sc_drawn.nd rfl (Or.inl rfl)
   (pe_op op_mod (pe_op op_add (pe_op op_add (pe_op op_mul (pv 1) pe_int) (pe_op op_mod (pv 2) (pe_op op_pow pe_int pe_int))) pe_int) (pe_op op_sub (pe_op op_pow pe_int pe_int) pe_int)))))
  (pss_cons (ps_if (PW.pt (pw_and (pt_cmpR op_gt (pe_callB call_len_seq rfl ml PySem.boot_len (pa_cons (pv 0) pa_nil)) pe_int (nomark _)) (pw_and1 (pt_cmpR op_eq (pe_op op_mod (pe_ix ix_list (pv 0) pe_int (fun _ _=>rfl)) pe_int) pe_int (nomark _)))))
   (pss_one (ps_ret (pe_op op_cat (pe_op op_cat (pe_lst (pa_cons (pe_op op_fdiv (pe_ix ix_list (pv 0) pe_int (fun _ _=>rfl)) pe_int) pa_nil)) (pe_slice sl_list (pv 0) (po_some pe_int) (po_some pe_int))) (pe_lst (pa_cons (pv 1) pa_nil))))) pss_nil)
  (pss_one (ps_ret (pe_lst (pa_cons (pv 1) pa_nil)))))),?_⟩
 refine⟨_,rfl,a,rfl,⟨_,hS⟩,for_list (xs:=ns.map V.int) (fun i σ H'=>H'=H∧∃(x:Int) (o:Option V),σ=[some (.ref a),some (.int x),o]) ⟨rfl,1000003,none,rfl⟩ ?_ ?_ ?_⟩
 ·rintro i σ H' _ ⟨rfl,_⟩
  exact hS
 ·rintro i x σ H' hx ⟨rfl,y,o,rfl⟩
  rw[List.getElem?_map]at hx
  cases hn:ns[i]? with
  |none=>rw[hn]at hx;cases hx
  |some n=>
   rw[hn]at hx
   cases hx
   refine⟨_,rfl,_,_,rfl,rfl, .inr ⟨by decide,by decide⟩,_,rfl,_,_,rfl,rfl,⟨by decide,by decide,by decide⟩,_,_,rfl,rfl,(by show(0:Int)<10^30;decide),_,_,rfl,rfl,_,_,rfl,rfl,_,_,rfl,rfl,⟨by decide,by decide,by decide⟩,_,_,rfl,rfl,_,_,rfl,rfl,(by show(0:Int)<2^61-1;decide),?_⟩
   exact⟨rfl,_,_,rfl⟩
 ·rintro σ H' ⟨rfl,x,o,rfl⟩
  have last:∀H1 D,Same H' H1→D.rt=Q→tRet (tLst (tCons (tVar 1) tNil)) D [some (.ref a),some (.int x),o] H1:=fun H1 D e hD=>by
   refine⟨_,rfl,small (by show 1≤1000000;decide),fun p hp=>?_⟩
   rw[hD]
   exact q p _ (e.trans (same_new hp _)) (e.free hp) ⟨[x],by simp,by simp,upd_same⟩
  refine⟨_,rfl,a,_,rfl, .inl hS,_,_,rfl,rfl,_,rfl,?_⟩
  refine ite2 (fun c=>?_) (fun c=>?_)
  ·have c1:(0:Int)<((ns.map V.int).length:Nat):=of_decide_eq_true c
   cases ns with
   |nil=>simp at c1
   |cons n r=>
    refine⟨_,rfl,a,_,0, .int n,rfl,rfl,hS,atI_nat (j:=0) rfl,_,_,rfl,rfl,(by show(0:Int)<2;decide),rfl,_,rfl,?_⟩
    refine ite2 (fun c2=>?_) (fun c2=>?_)
    ·refine⟨_,rfl,a,_,0, .int n,rfl,rfl,hS,atI_nat (j:=0) rfl,_,_,rfl,rfl,⟨by decide,by decide⟩,small (by show 1≤1000000;decide),fun p1 hp1=>?_⟩
     have e1:=same_new hp1 (.lst [V.int (n / 2)])
     refine⟨_,rfl,1,rfl,63,rfl,a,_,rfl,e1.seq hS,fun p2 hp2=>?_⟩
     have e2:=same_new hp2 (.lst (cutV ((n::r).map V.int) (some 1) (some 63)))
     obtain⟨ms,hms⟩:∃ms:List Int,cutV ((n::r).map V.int) (some 1) (some 63)=ms.map V.int:=by
      unfold cutV
      rw[←List.map_drop,←List.map_take]
      exact⟨_,rfl⟩
     have hml:ms.length≤63:=by
      have:=cutV_length ((n::r).map V.int) (some 1) (some 63)
      rw[hms,List.length_map,List.length_map]at this
      omega
     refine⟨p1,p2,_,_,rfl,rfl,e2 _ _ upd_same,upd_same,?_,fun p3 hp3=>?_⟩
     ·rw[hms,List.length_map]
      exact small (by simp;omega)
     have e3:=same_new hp3 (.lst ([V.int (n / 2)]++cutV ((n::r).map V.int) (some 1) (some 63)))
     refine⟨_,rfl,small (by show 1≤1000000;decide),fun p4 hp4=>?_⟩
     have e4:=same_new hp4 (.lst [V.int x])
     refine⟨p3,p4,_,_,rfl,rfl,e4 _ _ upd_same,upd_same,?_,fun p5 hp5=>?_⟩
     ·rw[hms]
      exact small (by simp;omega)
     refine q p5 _ (e1.trans (e2.trans (e3.trans (e4.trans (same_new hp5 _))))) ((e1.trans (e2.trans (e3.trans e4))).free hp5) ⟨n / 2::(ms++[x]),by simp,by simp;omega,?_⟩
     rw[upd_same,hms]
     simp
    ·exact last _ _ (Same.refl _) rfl
  ·exact last _ _ (Same.refl _) rfl
abbrev s_kept:Stmt:=top 79
theorem sc_kept:FnScope ["_law_words"] [] (defScope s_kept):=⟨rfl,rfl,rfl,by decide+kernel,rfl,by decide+kernel,by decide+kernel⟩
theorem ok_kept (F:Fun K "_law_kept" "_law_kept" s_kept f fd):FnOk P w K mg base CX0 1 f fd [] spKept:=by
 refine F.ok sc_kept (len:=fun vs H Q E h=>(by obtain⟨rfl,_⟩:=h;rfl)) (fun cdv A outer s H vs Q E hr h=>?_)
 obtain⟨rfl,q⟩:=h
 refine⟨_,pss_cons (ps_set (i:=0) sc_kept.nd rfl (Or.inl rfl) pe_str) (pss_one (ps_ret (pe_bm PySem.F.plainAttrs_str PySem.F.slot_str_split PySem.F.type_str_split mt_split (pe_op op_add_str (pv 0) pe_str) (pa_cons pe_str pa_nil)))),?_⟩
 refine⟨_,rfl,_,_,rfl,rfl,small (by decide+kernel),rfl,_," ",rfl,rfl,small (by decide+kernel),by decide+kernel,?_,fun l hl=>?_⟩
 ·rw[kept_split]
  exact small (by decide+kernel)
 ·rw[kept_split]
  exact q l _ (same_new hl _) hl upd_same
abbrev s_letters:Stmt:=top 80
theorem sc_letters:FnScope ["_law_state","_law_long","_law_word","_law_k"] ["_law_state","_law_long"] (defScope s_letters):=⟨rfl,rfl,rfl,by decide+kernel,rfl,by decide+kernel,by decide+kernel⟩
theorem ok_letters (F:Fun K "_law_letters" "_law_letters" s_letters f fd)(mr:mg "range"=none)(h1:Has P w K mg base 1 "_law_next" ["_law_state","_law_many"] spNext):FnOk P w K mg base CX0 2 f fd ["_law_state","_law_long"] spLetters:=by
 refine F.ok sc_letters (len:=fun vs H Q E h=>(by obtain⟨st,n,rfl,_⟩:=h;rfl)) (fun cdv A outer s H vs Q E hr h=>?_)
 obtain⟨st,n,rfl,hs,hn,q⟩:=h
 refine⟨_,pss_cons (ps_set (i:=2) sc_letters.nd rfl (Or.inl rfl) pe_str)
  (pss_cons (ps_for PassesOwn.never rfl (pi_range1 rfl mr (pa_cons (pv 1) pa_nil)) (pg_name (i:=3) sc_letters.nd rfl (Or.inl rfl))
   (pss_one (ps_aug (i:=2) sc_letters.nd rfl (Or.inl rfl) (pe_ix ix_str pe_str (pcall h1 hr (by decide) rfl (pa_cons (pv 0) (pa_cons pe_int pa_nil))) (fun _ _=>rfl)) iop_add_str)))
  (pss_one (ps_ret (pv 2)))),?_⟩
 refine⟨_,rfl,n,rfl,by omega,by omega,for_range (n:=(n:Int).toNat) (fun i σ H'=>∃(z:Str) (o:Option V),σ=[some (.ref st),some (.int n),some (.str z),o]∧IsLet z i∧Grow st H H') ⟨"",none,rfl,isLet_nil,Grow.refl hs⟩ ?_ ?_⟩
 ·rintro i σ H' hi ⟨z,o,rfl,hz,g⟩
  refine⟨_,rfl,_,rfl,st,26,rfl,g.ok,by decide,by decide,fun d H2 d0 d1 g2=>?_⟩
  obtain⟨c,hc,hm⟩:=at_small d0 d1
  refine⟨smallS,d,c,rfl,rfl,small (by have:=smallS_le;omega),hc,z,⟨#[c]⟩,rfl,rfl,small ?_,?_⟩
  ·rw[hz.len]
   show i+1≤1000000
   omega
  ·exact⟨z++⟨#[c]⟩,_,rfl,isLet_snoc hz hm,g.trans g2⟩
 ·rintro σ H' ⟨z,o,rfl,hz,g⟩
  exact⟨_,rfl,q z H' (by simpa using hz) g⟩
abbrev s_small:Stmt:=top 81
theorem sc_small:FnScope ["_law_state","_law_word"] ["_law_state"] (defScope s_small):=⟨rfl,rfl,rfl,by decide+kernel,rfl,by decide+kernel,by decide+kernel⟩
theorem ok_small (F:Fun K "_law_small" "_law_small" s_small f fd)(h1:Has P w K mg base 1 "_law_next" ["_law_state","_law_many"] spNext)(h2:Has P w K mg base 2 "_law_letters" ["_law_state","_law_long"] spLetters)(h3:Has P w K mg base 1 "_law_kept" [] spKept):
  FnOk P w K mg base CX0 3 f fd ["_law_state"] (spStr fun z=>nameB z=true):=by
 refine F.ok sc_small (len:=fun vs H Q E h=>(by obtain⟨st,rfl,_⟩:=h;rfl)) (fun cdv A outer s H vs Q E hr h=>?_)
 obtain⟨st,rfl,hs,q⟩:=h
 refine⟨_,pss_cons (ps_set (i:=1) sc_small.nd rfl (Or.inl rfl) (pcall h2 hr (by decide) rfl (pa_cons (pv 0) (pa_cons (pe_op op_add pe_int (pcall h1 hr (by decide) rfl (pa_cons (pv 0) (pa_cons pe_int pa_nil)))) pa_nil))))
  (pss_cons (ps_if (pt_cmpR op_in_seq (pv 1) (pcall0 h3 hr (by decide) rfl) (by with_unfolding_all rfl)) (pss_one (ps_ret (pe_op op_add_str (pv 1) pe_str))) pss_nil)
  (pss_one (ps_ret (pv 1)))),?_⟩
 refine⟨_,rfl,_,rfl,st,8,rfl,hs,by decide,by decide,fun d H1 d0 d1 g1=>?_⟩
 refine⟨1,d,rfl,rfl,st,(1+d).toNat,?_,g1.ok,by omega,fun z H2 hz g2=>?_⟩
 ·have e:(((1+d).toNat:Nat):Int)=1+d:=by omega
  rw[e]
  rfl
 have hl:z.length≤8:=by rw[hz.len];omega
 refine⟨_,rfl,rfl,fun p H3 e3 hp hk=>?_⟩
 refine⟨p,_,rfl, .inl (SqL.of hk),rfl,flat_strs _,_,rfl,?_⟩
 rw[if_neg Bool.false_ne_true,inV_str]
 have g3:=grow_same (g1.trans g2).ok e3
 refine ite2 (fun c=>?_) (fun c=>?_)
 ·have c1:z∈keptL:=of_decide_eq_true c
  refine⟨_,rfl,z,"q",rfl,rfl,small ?_,?_⟩
  ·show z.length+1≤1000000
   omega
  ·exact q _ _ (kept_q z c1) (by rw[len_app];show z.length+1≤100;omega) ((g1.trans g2).trans g3)
 ·have c1:z∉keptL:=of_decide_eq_false (Bool.eq_false_iff.mpr c)
  exact⟨_,rfl,q z _ (small_name hz (by omega) (by omega) c1) (by omega) ((g1.trans g2).trans g3)⟩
abbrev s_great:Stmt:=top 82
theorem sc_great:FnScope ["_law_state","_law_sign"] ["_law_state"] (defScope s_great):=⟨rfl,rfl,rfl,by decide+kernel,rfl,by decide+kernel,by decide+kernel⟩
theorem ok_great (F:Fun K "_law_great" "_law_great" s_great f fd)(h1:Has P w K mg base 1 "_law_next" ["_law_state","_law_many"] spNext)(h2:Has P w K mg base 2 "_law_letters" ["_law_state","_law_long"] spLetters):
  FnOk P w K mg base CX0 3 f fd ["_law_state"] (spStr fun z=>greatB z=true):=by
 refine F.ok sc_great (len:=fun vs H Q E h=>(by obtain⟨st,rfl,_⟩:=h;rfl)) (fun cdv A outer s H vs Q E hr h=>?_)
 obtain⟨st,rfl,hs,q⟩:=h
 refine⟨_,pss_cons (ps_set (i:=1) sc_great.nd rfl (Or.inl rfl) (pe_ix ix_str pe_str (pcall h1 hr (by decide) rfl (pa_cons (pv 0) (pa_cons pe_int pa_nil))) (fun _ _=>rfl)))
  (pss_one (ps_ret (pe_op op_add_str (pv 1) (pcall h2 hr (by decide) rfl (pa_cons (pv 0) (pa_cons (pcall h1 hr (by decide) rfl (pa_cons (pv 0) (pa_cons pe_int pa_nil))) pa_nil)))))),?_⟩
 refine⟨_,rfl,st,26,rfl,hs,by decide,by decide,fun d H1 d0 d1 g1=>?_⟩
 obtain⟨c,hc,hm⟩:=at_great d0 d1
 refine⟨greatS,d,c,rfl,rfl,small (by have:=greatS_le;omega),hc,?_⟩
 refine⟨_,rfl,_,rfl,_,rfl,st,8,rfl,g1.ok,by decide,by decide,fun e H2 e0 e1 g2=>?_⟩
 refine⟨st,e.toNat,?_,g2.ok,by omega,fun z H3 hz g3=>?_⟩
 ·have e':((e.toNat:Nat):Int)=e:=by omega
  rw[e']
  rfl
 have hl:z.length≤7:=by rw[hz.len];omega
 refine⟨⟨#[c]⟩,z,rfl,rfl,small ?_,?_⟩
 ·show 1+z.length≤1000000
  omega
 ·exact q _ _ (great_mk hm hz (by omega)) (by rw[len_app];show 1+z.length≤100;omega) ((g1.trans g2).trans g3)
abbrev s_path:Stmt:=top 83
theorem sc_path:FnScope ["_law_state","_law_part"] ["_law_state"] (defScope s_path):=⟨rfl,rfl,rfl,by decide+kernel,rfl,by decide+kernel,by decide+kernel⟩
theorem ok_path (F:Fun K "_law_path" "_law_path" s_path f fd)(h1:Has P w K mg base 3 "_law_great" ["_law_state"] (spStr fun z=>greatB z=true))(h2:Has P w K mg base 3 "_law_small" ["_law_state"] (spStr fun z=>nameB z=true)):
  FnOk P w K mg base CX0 4 f fd ["_law_state"] (spStr fun z=>pathB z=true):=by
 refine F.ok sc_path (len:=fun vs H Q E h=>(by obtain⟨st,rfl,_⟩:=h;rfl)) (fun cdv A outer s H vs Q E hr h=>?_)
 obtain⟨st,rfl,hs,q⟩:=h
 refine⟨_,pss_cons (ps_set (i:=1) sc_path.nd rfl (Or.inl rfl) (pcall h1 hr (by decide) rfl (pa_cons (pv 0) pa_nil)))
  (pss_one (ps_ret (pe_op op_add_str (pe_op op_add_str (pv 1) pe_str) (pcall h2 hr (by decide) rfl (pa_cons (pv 0) pa_nil))))),?_⟩
 refine⟨_,rfl,st,rfl,hs,fun z H1 hz lz g1=>?_⟩
 refine⟨_,rfl,z,".",rfl,rfl,small (by show z.length+1≤1000000;omega),_,rfl,st,rfl,g1.ok,fun y H2 hy ly g2=>?_⟩
 have e:(z++"."++y:Str).length=z.length+1+y.length:=by rw[len_app,len_app];rfl
 obtain⟨c,r,hcr,_,_,_,hr7⟩:=great_parts hz
 have lz8:z.length≤8:=by rw[←len_toList,hcr];simp;omega
 obtain⟨n,hl,_,hn8,_⟩:=name_let hy
 have ly8:y.length≤8:=by rw[hl.len];exact hn8
 have lz1:(z++".":Str).length=z.length+1:=by rw[len_app];rfl
 refine⟨_,y,rfl,rfl,small (by rw[lz1];omega),?_⟩
 exact q _ _ (path_mk hz hy) (by rw[e];omega) (g1.trans g2)
abbrev s_variable:Stmt:=top 84
theorem sc_variable:FnScope ["_law_state"] ["_law_state"] (defScope s_variable):=⟨rfl,rfl,rfl,by decide+kernel,rfl,by decide+kernel,by decide+kernel⟩
theorem ok_variable (F:Fun K "_law_variable" "_law_variable" s_variable f fd)(h1:Has P w K mg base 1 "_law_next" ["_law_state","_law_many"] spNext)(h2:Has P w K mg base 2 "_law_letters" ["_law_state","_law_long"] spLetters):
  FnOk P w K mg base CX0 3 f fd ["_law_state"] (spStr fun z=>varB z=true):=by
 refine F.ok sc_variable (len:=fun vs H Q E h=>(by obtain⟨st,rfl,_⟩:=h;rfl)) (fun cdv A outer s H vs Q E hr h=>?_)
 obtain⟨st,rfl,hs,q⟩:=h
 refine⟨_,pss_one (ps_ret (pe_op op_add_str pe_str (pcall h2 hr (by decide) rfl (pa_cons (pv 0) (pa_cons (pe_op op_add pe_int (pcall h1 hr (by decide) rfl (pa_cons (pv 0) (pa_cons pe_int pa_nil)))) pa_nil))))),?_⟩
 refine⟨_,rfl,_,rfl,st,8,rfl,hs,by decide,by decide,fun d H1 d0 d1 g1=>?_⟩
 refine⟨1,d,rfl,rfl,st,(1+d).toNat,?_,g1.ok,by omega,fun z H2 hz g2=>?_⟩
 ·have e:(((1+d).toNat:Nat):Int)=1+d:=by omega
  rw[e]
  rfl
 have hl:z.length≤8:=by rw[hz.len];omega
 refine⟨"?",z,rfl,rfl,small (by show 1+z.length≤1000000;omega),?_⟩
 exact q _ _ (var_mk hz (by omega) (by omega)) (by rw[len_app];show 1+z.length≤100;omega) (g1.trans g2)
abbrev s_number:Stmt:=top 85
theorem sc_number:FnScope ["_law_state","_law_number_here","_law_k"] ["_law_state"] (defScope s_number):=⟨rfl,rfl,rfl,by decide+kernel,rfl,by decide+kernel,by decide+kernel⟩
theorem ok_number (F:Fun K "_law_number" "_law_number" s_number f fd)(mr:mg "range"=none)(h1:Has P w K mg base 1 "_law_next" ["_law_state","_law_many"] spNext):FnOk P w K mg base CX0 2 f fd ["_law_state"] spInt:=by
 refine F.ok sc_number (len:=fun vs H Q E h=>(by obtain⟨st,rfl,_⟩:=h;rfl)) (fun cdv A outer s H vs Q E hr h=>?_)
 obtain⟨st,rfl,hs,q⟩:=h
 refine⟨_,pss_cons (ps_set (i:=1) sc_number.nd rfl (Or.inl rfl) (pcall h1 hr (by decide) rfl (pa_cons (pv 0) (pa_cons pe_int pa_nil))))
  (pss_cons (ps_if (pt_cmpR op_eq (pcall h1 hr (by decide) rfl (pa_cons (pv 0) (pa_cons pe_int pa_nil))) pe_int (nomark _))
   (pss_one (ps_for PassesOwn.never rfl (pi_range1 rfl mr (pa_cons (pcall h1 hr (by decide) rfl (pa_cons (pv 0) (pa_cons pe_int pa_nil))) pa_nil)) (pg_name (i:=2) sc_number.nd rfl (Or.inl rfl))
    (pss_one (ps_set (i:=1) sc_number.nd rfl (Or.inl rfl) (pe_op op_add (pe_op op_mul (pv 1) pe_int) (pcall h1 hr (by decide) rfl (pa_cons (pv 0) (pa_cons pe_int pa_nil)))))))) pss_nil)
  (pss_cons (ps_if (pt_cmpR op_eq (pcall h1 hr (by decide) rfl (pa_cons (pv 0) (pa_cons pe_int pa_nil))) pe_int (nomark _)) (pss_one (ps_ret (pe_un un_neg (pv 1)))) pss_nil)
  (pss_one (ps_ret (pv 1))))),?_⟩
 refine⟨_,rfl,st,10,rfl,hs,by decide,by decide,fun d H1 d0 d1 g1=>?_⟩
 refine⟨_,rfl,st,4,rfl,g1.ok,by decide,by decide,fun e H2 e0 e1 g2=>⟨rfl,_,rfl,?_⟩⟩
 have tail:∀(x:Int) (o:Option V) (H3:Hp),0≤x→x<10^30→Grow st H H3→tSeq (tIfS (tTest (tOp rEq (tCall spNext [] E0 (tCons (tVar 0) (tCons (tC (.int 3)) tNil))) (tC (.int 0)))) (tRet (tUn (rU fun i=>.int (-i)) (tVar 1))) tNext) (tRet (tVar 1)) {nx:=fun _ H'=>Q .non H',rt:=Q} [some (.ref st),some (.int x),o] H3:=fun x o H3 x0 x1 g=>by
  refine⟨_,rfl,st,3,rfl,g.ok,by decide,by decide,fun y H4 y0 y1 g4=>⟨rfl,_,rfl,?_⟩⟩
  refine ite2 (fun c=>?_) (fun c=>?_)
  ·exact⟨_,rfl,x,rfl,q _ _ (by omega) (by omega) (g.trans g4)⟩
  ·exact⟨_,rfl,q _ _ (by omega) (by omega) (g.trans g4)⟩
 refine ite2 (fun c=>?_) (fun c=>?_)
 ·refine⟨_,rfl,st,30,rfl,g2.ok,by decide,by decide,fun n H3 n0 n1 g3=>?_⟩
  refine⟨n,rfl,by omega,by omega,for_range (n:=n.toNat) (fun i σ H'=>∃(x:Int) (o:Option V),σ=[some (.ref st),some (.int x),o]∧0≤x∧x<10^(i+1)∧Grow st H H') ⟨d,none,rfl,d0,by simpa using d1,(g1.trans g2).trans g3⟩ ?_ ?_⟩
  ·rintro i σ H' hi ⟨x,o,rfl,x0,x1,g⟩
   refine⟨_,rfl,_,_,rfl,rfl, .inr ⟨by decide,by decide⟩,_,rfl,st,10,rfl,g.ok,by decide,by decide,fun y H4 y0 y1 g4=>⟨_,_,rfl,rfl,?_⟩⟩
   refine⟨_,_,rfl,?_,?_,g.trans g4⟩
   ·show 0≤x*10+y
    omega
   ·show x*10+y<10^(i+1+1)
    rw[Int.pow_succ]
    omega
  ·rintro σ H' ⟨x,o,rfl,x0,x1,g⟩
   refine tail x o H' x0 (Int.lt_of_lt_of_le x1 ?_) g
   exact_mod_cast Nat.pow_le_pow_right (by decide:0<10) (by omega:n.toNat+1≤30)
 ·exact tail d none H2 d0 (by omega) (g1.trans g2)
end
end Fw
namespace L2
open PySem PySem.Spec PyProof.Rows
section
variable {X:Cx}
end
end L2
namespace PySem
namespace Heap
def TracedAtX (g bse:Heap)(e:Addr)(cls a0 fl:Value):Prop :=
 ∃ob ws T oT ts,g.get? e=some ob∧(ob.cls=cls∧ws[0]?=some a0∧ws[2]?=some .none)∧ob.data=.fields ws∧ws[1]?=some (.ref T)∧bse.get? T=none∧T≠e∧g.get? T=some oT∧oT.data=.fields ts∧ts[3]?=some fl
def HeldX (bse:Heap)(l:List Env)(e:Addr)(cls a0:Value)(L:Addr)(g:Heap):Prop:=bse.StaysIn g∧bse.get? e=none∧g.FunFrames bse l∧g.TracedAtX bse e cls a0 (rawInt L)
end Heap
section
variable {M:Model}{A:Around}{E:Value→Shared→Prop}{s:Shared}{bse:Heap}{env:Env}{outer:List Env}{L e:Addr}{cls a0 fl:Value}{Q:Unit→Shared→Prop}
end
end PySem
namespace L2
open PySem PySem.Spec PyProof.Rows
section
variable {P:Program}{w:World}{K:PySem.W.Frag}{mg:Str→Option Value}{base:Heap}{N:List Str}{qual:Str}{scope:Scope}{f:Addr}{cd:Value}{A:Around}{outer:List Env}{s:Shared}{H:Hp}{E:XK}{CX:CXT}
end
section
variable {P:Program}{w:World}{K:PySem.W.Frag}{mg:Str→Option Value}{base:Heap}{N:List Str}{qual:Str}{scope:Scope}{f:Addr}{cd:Value}{A:Around}{outer:List Env}{s:Shared}{H:Hp}{E:XK}
end
end L2
namespace PySem
end PySem
namespace L2
open PySem PySem.Spec PyProof.Rows
section
variable {X:Cx}{pins p2:List (Addr×Obj)}{σ:St}{H:Hp}{s:Shared}{xe:Value→Shared→Prop}
end
section
variable {X:Cx}{pins p2:List (Addr×Obj)}{σ:St}{H:Hp}{s:Shared}{ea:Addr}
end
section
variable {P:Program}{w:World}{H H':Hp}{h h':Heap}{a b c:Addr}{o:Obj}
end
open PySem PySem.Spec PyProof.Rows PySem.Builtin.Getset_descriptor
section
variable {K:PySem.W.Frag}{M:Model}{h:Heap}{x C:Addr}{name:Str}{ax gx:Value}
end
section
variable {prog:Program}{w:World}{A:Around}{E:Value→Shared→Prop}{s:Shared}{K:PySem.W.Frag}{x C:Addr}{ob:Obj}
variable (g0:PySem.W.findIn K (.ref C) "__getattribute__"=some (some (.builtin "BaseException.__getattribute__")))(g1:PySem.W.findIn K (.ref C) "__getattr__"=some none)(gb:PySem.W.mroIn K C (.type "BaseException")=some true)
 (g2:PySem.W.findIn K (.ref C) "__class__"=some (some (.builtin "object.__class__"))) (g3:PySem.W.specialIn K (.builtin "object.__class__") "__get__"=some (some (.builtin "getset_descriptor.__get__")))
 (g4:PySem.W.takesIn K (.builtin "object.__class__")=some true) (g5:PySem.W.mroIn K C (.type "object")=some true)
include g0 g1 gb g2 g3 g4 g5
end
section
variable {X:Cx}
end
def HT (X:Cx)(pins:List (Addr×Obj))(EX:St→XK):Value→Shared→Prop:=fun e s2=>∃(ea C:Addr) (σ:St) (H':Hp) (s1:Shared) (B:Heap) (t:Addr) (h4:Heap),e=.ref ea∧s2={s1 with heap:=h4}∧Inv X pins σ H' s1∧H' ea=none∧
 Heap.HeldX B (X.env::X.outer) ea (.ref C) (.ref t) X.env.locals h4∧s1.heap.UpToSlots h4∧(∀p∈X.pn++pins,p.1≠ea)∧
 (∀b o,s1.heap.get? b=some o→b∉frs X.stack→(H' b≠none∨(∃o',X.s₀.heap.get? b=some o')∨b∈(X.pn++pins).map (·.1))→B.get? b=some o)∧EX σ (.ref C) (some ea) H'
section
variable {X:Cx}
end
section
variable {κ:Type}[DecidableEq κ]
def valV (kvs:List (κ×V))(k:κ):Option V:=(kvs.find? fun kv=>decide (kv.1=k)).map (·.2)
def putK (kvs:List (κ×V))(k:κ)(v:V):List (κ×V) :=
 if(kvs.any fun kv=>decide (kv.1=k))=true then kvs.map (fun kv=>if kv.1=k then(kv.1,v) else kv) else kvs++[(k,v)]
end
section
variable {P:Program}{w:World}{H:Hp}{h:Heap}{a:Addr}
end
def DGet (H:Hp)(a:Addr)(y:V)(r:Option V):Prop :=
 (∃kvs k,Rd H a (.dK kvs)∧y=kV k∧r=valV kvs k)∨∃kvs k b,Rd H a (.dT kvs)∧y=.ref b∧H b=some (.tup (k.map kV))∧r=valV kvs k
def DPut (H:Hp)(a:Addr)(y v:V)(H':Hp):Prop :=
 (∃kvs k,H a=some (.dK kvs)∧y=kV k∧kvs.length<sizeLine∧H'=upd H a (.dK (putK kvs k v)))∨
 ∃kvs k b,H a=some (.dT kvs)∧y=.ref b∧H b=some (.tup (k.map kV))∧kvs.length<sizeLine∧H'=upd H a (.dT (putK kvs k v))
section
variable {X:Cx}{pins:List (Addr×Obj)}{σ:St}{H:Hp}{s:Shared}{a:Addr}{y v:V}{u r:Value}{o:Option V}{A:Around}{E:Value→Shared→Prop}
end
section
variable {X:Cx}{pins:List (Addr×Obj)}{σ:St}{H:Hp}{s:Shared}{a:Addr}{kvs:List (Key×V)}{k:Key}{u:Value}{A:Around}{E:Value→Shared→Prop}
end
inductive tDGet_ (Q:VK)(x:V)(y:V)(H2:Hp):Prop where
 |mk (a) (v):(x=.ref a)→(DGet H2 a y (some v))→(Q v H2)→tDGet_ Q x y H2
inductive sDPut_ (D:Ends)(σ:St)(v:V)(x:V)(y:V)(H3:Hp):Prop where
 |mk (a) (H4):(x=.ref a)→(DPut H3 a y v H4)→(D.nx σ H4)→sDPut_ D σ v x y H3
section
variable {X:Cx}{o i e value:Expr}{pos pos' tpos:Pos}{td ty tv:TE}
end
section
variable {X:Cx}{pos:Pos}
end
section
variable {X:Cx}{pins:List (Addr×Obj)}{σ:St}{H:Hp}{s:Shared}{a:Addr}{y d:V}{u r:Value}{o:Option V}{A:Around}{E:Value→Shared→Prop}
end
section
variable {X:Cx}{o e f:Expr}{apos cpos:Pos}{td ty tx:TE}
end
section
variable {X:Cx}{pins:List (Addr×Obj)}{σ:St}{H:Hp}{s:Shared}{a:Addr}{kvs:List (Key×V)}{A:Around}{E:Value→Shared→Prop}
end
section
variable {X:Cx}{pins:List (Addr×Obj)}{σ:St}{H:Hp}{s:Shared}{a:Addr}{y:V}{u:Value}{A:Around}{E:Value→Shared→Prop}
end
section
variable {X:Cx}
end
section
variable {κ:Type}[DecidableEq κ]
end
section
variable {X:Cx}
end
section
variable {K:PySem.W.Frag}{i:Nat}{w z:Str}{t u e:TS}{D:Ends}{σ:St}{H:Hp}{a:Addr}{xs:List V}
end
section
variable {X:Cx}
theorem ixL (K:PySem.W.Frag)(h:X.K=K:=by rfl):IxR X (rIxL K):=h ▸ ix_list
theorem clen (K:PySem.W.Frag)(h:X.K=K:=by rfl):CallR X (.builtin "len") (r_call_len_seq K):=h ▸ call_len_seq
theorem piL (K:PySem.W.Frag){tg l:Expr}{tl:TE}(hl:PE X l tl)(h:X.K=K:=by rfl):PI X tg l (iList K tl):=h ▸ pi_list hl
theorem piT (K:PySem.W.Frag){tg l:Expr}{tl:TE}(hl:PE X l tl)(h:X.K=K:=by rfl):PI X tg l (iTup K tl):=h ▸ pi_tup hl
theorem pgT (K:PySem.W.Frag){es:List Expr}{k:Nat}{t:TGs}{n:Nat}{pos:Pos}(hc:X.calm=true)(hq:PGs X es t)(hn:(assignEach es X.env).length=n:=by rfl)(hst:(assignEach es X.env).findIdx? (·.1)=none:=by rfl)(h:X.K=K:=by rfl):PG X (.Tuple es k pos) (gTup K n t):=h ▸ pg_tup hc hq hn hst
theorem ctup (K:PySem.W.Frag)(h:X.K=K:=by rfl):CallR X (.type "tuple") (r_call_tuple_of K):=h ▸ call_tuple_of
theorem papp (K:PySem.W.Frag){o e:Expr}{es:List Expr}{apos cpos:Pos}{to:TE}{t:TA}(ho:PE X o to)(ha:PA X (e::es) t)(hbase:attributeBase o "append" X.env (eval o X.env)=eval o X.env:=by rfl)
  (hfew:((backTo cpos (starEach (e::es) X.env)).all (fun x=>!x.1)&&(backToKw cpos (keywordEach [] X.env)).all (fun x=>x.1.isSome)&&decide ((e::es).length+([]:List Keyword).length+(if([]:List Keyword).isEmpty then 0 else 1)<30))=true:=by rfl)
  (hline:(apos.endLine==cpos.line)=true:=by rfl) (hs:starEach (e::es) X.env=(false,eval e X.env)::starEach es X.env:=by rfl) (hplain:(backTo cpos (starEach es X.env)).any (·.1)=false:=by rfl) (h:X.K=K:=by rfl):
  PE X (.Call (.Attribute o "append" apos) (e::es) [] cpos) (tBM K "list" rAppend to t):=h ▸ pe_bm PySem.F.plainAttrs_list PySem.F.slot_list_append PySem.F.type_list_append mt_append ho ha hbase hfew hline hs hplain
theorem ppop (K:PySem.W.Frag){o:Expr}{apos cpos:Pos}{to:TE}(ho:PE X o to)(hbase:attributeBase o "pop" X.env (eval o X.env)=eval o X.env:=by rfl)(hline:(apos.endLine==cpos.line)=true:=by rfl)(h:X.K=K:=by rfl):
  PE X (.Call (.Attribute o "pop" apos) [] [] cpos) (tBM0 K "list" rPop to):=h ▸ pe_bm0 PySem.F.plainAttrs_list PySem.F.slot_list_pop PySem.F.type_list_pop mt_pop ho hbase hline
theorem pset (i:Nat){x:Str}{e:Expr}{te:TE}{pos pos':Pos}(hN:X.N.Nodup)(he:PE X e te)(hi:X.N[i]?=some x:=by rfl)(hx:Loc X.env.scope x:=by exact Or.inl rfl)(hs:swapsWith e (some (.Name x pos')) pos.line X.env=pure false:=by rfl)(hf:X.fn x=true∨X.env.scope.names.lookup x=some .local:=by first|exact .inl rfl|exact .inr rfl):
  PS X (.Assign [.Name x pos'] e pos) (tAsg te (gName i)):=ps_set hN hi hx he hs hf
end
end L2
namespace Fw
open PySem PySem.Spec PyProof.Rows L2
abbrev s_is_word:Stmt:=top 17
abbrev s_is_nt:Stmt:=top 20
def figS:Str:="0123456789"
def wordB (z:Str):Bool:=smallB z||(greatB z||(pathB z||(varB z||decide (V.str z=.str "->"))))
def figs (z:Str):Str:=if z.cps.toList.head?=some 45 then restS z else z
def ntB (z:Str):Bool:=(decide (1≤(figs z).length)&&decide ((figs z).length≤30))&&(allS (figs z) figS&&(decide (V.str z=.str "0")|| !decide (V.str ⟨#[(figs z).cps.toList.getD 0 0]⟩=.str "0")))
inductive spS (g:Str→Bool)(vs:List V)(H:Hp)(Q:VK)(E_:XK):Prop where
 |mk (z:Str):vs=[.str z]→z.length≤100000→(∀H',Same H H'→Q (.bl (g z)) H')→spS g vs H Q E_
theorem starts_mi (z:Str):Txt.startswith z "-"=decide (z.cps.toList.head?=some 45):=by
 rw[show("-":Str)=⟨#[45]⟩ by decide+kernel]
 unfold Txt.startswith
 obtain⟨a⟩:=z
 obtain⟨l⟩:=a
 cases l with
 |nil=>rfl
 |cons c r=>
  simp[Builtin.Str.subAt,Str.length,Nat.all]
  rw[Bool.eq_iff_iff]
  simp
theorem pe_weak {X:Cx}{e:Expr}{t t':TE}(h:PE X e t)(q:∀σ H Q,t' σ H Q→t σ H Q):PE X e t':=fun pins s σ H Q I h'=>h pins s σ H Q I (q _ _ _ h')
section
variable {P:Program}{w:World}{K:PySem.W.Frag}{mg:Str→Option Value}{base:Heap}{f:Addr}{fd:FuncData}
theorem sc_is_word:FnScope ["thing"] ["thing"] (defScope s_is_word):=⟨rfl,rfl,rfl,by decide+kernel,rfl,by decide+kernel,by decide+kernel⟩
theorem ok_is_word (F:Fun K "is_word" "is_word" s_is_word f fd)(har:∃t,mg "ARROW"=some (.str "->" t))(h1:Has P w K mg base 2 "is_small" ["thing"] (spT (onStr smallB)))(h2:Has P w K mg base 2 "is_great" ["thing"] (spT (onStr greatB)))
  (h3:Has P w K mg base 4 "is_path" ["thing"] (spT (onStr pathB))) (h4:Has P w K mg base 3 "is_variable" ["thing"] (spT (onStr varB))):FnOk P w K mg base CX0 5 f fd ["thing"] (spS wordB):=by
 refine F.ok sc_is_word (fun cdv A outer s H vs Q E hr h=>?_)
 obtain⟨z,rfl,hz,q⟩:=h
 obtain⟨t1,ha⟩:=har
 refine⟨_,pss_one (ps_ret (pe_or (pcall h1 hr (by decide) rfl (pa_cons (pv 0) pa_nil)) (pe_or (pcall h2 hr (by decide) rfl (pa_cons (pv 0) pa_nil)) (pe_or (pcall h3 hr (by decide) rfl (pa_cons (pv 0) pa_nil))
  (pe_or (pcall h4 hr (by decide) rfl (pa_cons (pv 0) pa_nil)) (pe_one (pe_cmpR op_eq (pv 0) (pe_glob (v:=.str "->") rfl ha ⟨_,rfl⟩) (nomark _)))))))),?_⟩
 unfold wordB at q
 refine⟨_,rfl, .str z, .str z,rfl, .str z hz,fun H1 e1=>⟨_,rfl,?_⟩⟩
 show if smallB z=true then _ else _
 cases c1:smallB z with
 |true=>rw[c1]at q;exact iteT (q H1 e1)
 |false=>
  rw[c1]at q
  refine iteF ⟨_,rfl, .str z, .str z,rfl, .str z hz,fun H2 e2=>⟨_,rfl,?_⟩⟩
  show if greatB z=true then _ else _
  cases c2:greatB z with
  |true=>rw[c2]at q;exact iteT (q H2 (e1.trans e2))
  |false=>
   rw[c2]at q
   refine iteF ⟨_,rfl, .str z, .str z,rfl, .str z hz,fun H3 e3=>⟨_,rfl,?_⟩⟩
   show if pathB z=true then _ else _
   cases c3:pathB z with
   |true=>rw[c3]at q;exact iteT (q H3 ((e1.trans e2).trans e3))
   |false=>
    rw[c3]at q
    refine iteF ⟨_,rfl, .str z, .str z,rfl, .str z hz,fun H4 e4=>⟨_,rfl,?_⟩⟩
    show if varB z=true then _ else _
    cases c4:varB z with
    |true=>rw[c4]at q;exact iteT (q H4 (((e1.trans e2).trans e3).trans e4))
    |false=>
     rw[c4]at q
     refine iteF ⟨_,rfl,rfl,?_⟩
     exact q H4 (((e1.trans e2).trans e3).trans e4)
theorem sc_is_nt:FnScope ["text","figures"] ["text"] (defScope s_is_nt):=⟨rfl,rfl,rfl,by decide+kernel,rfl,by decide+kernel,by decide+kernel⟩
theorem ok_is_nt (F:Fun K "is_number_text" "is_number_text" s_is_nt f fd)(ml:mg "len"=none)(hfi:∃t,mg "FIGURES"=some (.str figS t))(hmo:∃t,mg "MOST_FIGURES"=some (.int 30 t))(h1:Has P w K mg base 1 "all_of" ["text","signs"] spAllOf):
  FnOk P w K mg base CX0 2 f fd ["text"] (spS ntB):=by
 refine F.ok sc_is_nt (fun cdv A outer s H vs Q E hr h=>?_)
 obtain⟨z,rfl,hz,q⟩:=h
 obtain⟨t1,hf⟩:=hfi
 obtain⟨t2,hm⟩:=hmo
 have rl:=rest_len z
 have fl:(figs z).length≤100000:=by unfold figs;split<;>omega
 refine⟨_,pss_cons (pset 1 sc_is_nt.nd (pe_weak (t':=fun σ H' Q'=>σ=[some (.str z),none]∧Q' (.str (figs z)) H') (pe_ifExp (pt_val (pe_bm PySem.F.plainAttrs_str PySem.F.slot_str_startswith PySem.F.type_str_startswith mt_startswith (pv 0) (pa_cons pe_str pa_nil))) (pe_slice sl_str (pv 0) (po_some pe_int) po_none) (pv 0)) ?w))
  (pss_cons (ps_if (PW.pt (pw_or (pt_not (pt_chain op_le op_le pe_int (pe_callB call_len_str rfl ml PySem.boot_len (pa_cons (pv 1) pa_nil)) (pe_glob (v:=.int 30) rfl hm ⟨_,rfl⟩)))
   (pw_or1 (pt_not (pt_val (pcall h1 hr (by decide) rfl (pa_cons (pv 1) (pa_cons (pe_glob (v:=.str figS) rfl hf ⟨_,rfl⟩) pa_nil)))))))) (pss_one (ps_ret pe_bl)) pss_nil)
  (pss_one (ps_ret (pe_or (pe_cmpR op_eq (pv 0) pe_str (nomark _)) (pe_one (pe_cmpR op_ne (pe_ix ix_str (pv 1) pe_int (fun _ _=>rfl)) pe_str (nomark _))))))),?_⟩
 case w=>
  rintro σ H' Q' ⟨rfl,q'⟩
  refine⟨_,rfl,rfl,z,"-",rfl,rfl,_,rfl,?_⟩
  rw[starts_mi]
  unfold figs at q'
  refine ite2 (fun c=>?_) (fun c=>?_)
  ·have c':=of_decide_eq_true c
   rw[if_pos c']at q'
   have hl:1≤z.length:=by
    rw[←len_toList]
    cases e:z.cps.toList with
    |nil=>rw[e]at c';cases c'
    |cons c r=>simp
   refine⟨_,rfl,1,rfl,z,rfl,small (by omega),?_⟩
   rw[rest_slice hl]
   exact q'
  ·rw[if_neg (of_decide_eq_false (Bool.eq_false_iff.mpr c))]at q'
   exact⟨_,rfl,q'⟩
 unfold ntB at q
 refine⟨rfl,?_⟩
 refine⟨_,rfl,figs z,rfl,small (by omega),1,(figs z).length,rfl,rfl,_,rfl,?_⟩
 refine ite2 (fun c=>?_) (fun c=>?_)
 ·have c1:(1:Int)≤(figs z).length:=of_decide_eq_true c
  have c2:1≤(figs z).length:=by omega
  rw[decide_eq_true c2]at q
  refine⟨_,_,rfl,rfl,_,rfl,?_⟩
  refine ite2 (fun d=>?_) (fun d=>?_)
  ·have d1:¬((figs z).length:Int)≤30:=of_decide_eq_false (by simpa using d)
   rw[decide_eq_false (show ¬(figs z).length≤30 by omega)]at q
   exact q H (Same.refl H)
  ·have d1:((figs z).length:Int)≤30:=of_decide_eq_true (by simpa using d)
   rw[decide_eq_true (show(figs z).length≤30 by omega)]at q
   refine⟨_,rfl,figs z,figS,rfl,fl,fun H1 e1=>?_⟩
   refine⟨_,rfl,?_⟩
   cases ha:allS (figs z) figS with
   |false=>rw[ha]at q;exact iteT (q H1 e1)
   |true=>
    rw[ha]at q
    refine iteF ⟨_,rfl,rfl,_,rfl,?_⟩
    cases hb:decide (V.str z=.str "0") with
    |true=>rw[hb]at q;exact iteT (q H1 e1)
    |false=>
     rw[hb]at q
     exact iteF ⟨_,rfl,figs z,0,_,rfl,rfl,small (by omega),first_at c2,rfl,q H1 e1⟩
 ·have c1:¬(1:Int)≤(figs z).length:=of_decide_eq_false (Bool.eq_false_iff.mpr c)
  rw[decide_eq_false (show ¬1≤(figs z).length by omega)]at q
  exact⟨_,rfl,iteT (q H (Same.refl H))⟩
end
end Fw
namespace L2
open PySem PySem.Spec PyProof.Rows
theorem runs_toks {M:Model}{Γ:PySem.Ctx}{p:Pos}{t:Sem Fin}{fs:List Frame}{s s':Shared}{e:End}(h:Runs M Γ p t fs s e s'):s.toks≤s'.toks:=by
 induction h<;>first
  |exact Nat.le_refl _
  |assumption
  |exact Nat.le_of_succ_le (by assumption)
  |(simp only[Shared.setGen]at*;omega)
  |omega
theorem wakes_toks {M:Model}{Γ:PySem.Ctx}{p:Pos}{g:Nat}{r:Resume}{s s':Shared}{res:GenResult}(h:Wakes M Γ p g r s res s'):s.toks≤s'.toks:=by
 unfold Wakes at h
 split at h
 ·exact h.elim
 ·split at h
  ·obtain⟨e1,s1,h1,_,_,rfl⟩:=h
   have:=runs_toks h1
   simp only[Shared.setGen]at*
   exact this
  ·rw[h.2];exact Nat.le_refl _
  ·rw[h.2];exact Nat.le_refl _
 ·obtain⟨e1,s1,h1,_,_,rfl⟩:=h
  have:=runs_toks h1
  simp only[Shared.setGen]at*
  exact this
 ·rw[h.2];exact Nat.le_refl _
 ·rw[h.2];exact Nat.le_refl _
theorem wp_toks {α:Type}{M:Model}{Γ:PySem.Ctx}{n:Nat}(t:Sem α){Q:α→Pos→Shared→Prop}{E:Value→Pos→Shared→Prop}{p:Pos}{s:Shared}(hn:n≤s.toks)(h:Sem.wp M Γ t Q E p s):
  Sem.wp M Γ t (fun a p' s'=>Q a p' s'∧n≤s'.toks) E p s:=by
 induction t generalizing p s with
 |pure x=>exact⟨h,hn⟩
 |raise v=>exact h
 |unsupported|finish|yield|fork|await|register=>exact h
 |rule _ k ih|«at» _ k ih|alloc _ k ih|loadIfAlive _ k ih|point _ k ih|ask k ih|os _ _ k ih|handled _ k ih|newGen _ k ih|stack k ih|thread k ih=>exact ih _ hn h
 |fresh k ih=>exact ih _ (Nat.le_succ_of_le hn) h
 |load a _ k ih|genState a k ih=>
  obtain⟨o,ho,h⟩:=h
  exact⟨o,ho,ih _ hn h⟩
 |update a _ f k ih|choose _ _ k ih=>exact⟨h.1,ih _ hn h.2⟩
 |call c hd g l k ih=>
  obtain⟨r,s',hr,h⟩:=h
  exact⟨r,s',hr,ih r (Nat.le_trans hn (runs_toks hr)) h⟩
 |resume g r _ k ih=>
  obtain⟨res,s',hw,h⟩:=h
  exact⟨res,s',hw,ih res (Nat.le_trans hn (wakes_toks hw)) h⟩
theorem wpAny_toks {α:Type}{M:Model}{A:Around}{t:Sem α}{Q:α→Shared→Prop}{E:Value→Shared→Prop}{s:Shared}(h:wpAny M A t Q E s):wpAny M A t (fun a s'=>Q a s'∧s.toks≤s'.toks) E s :=
 fun Γ p hA=>wp_toks t (Nat.le_refl _) (h Γ p hA)
theorem wpAny_tk {α:Type}{M:Model}{A:Around}{t:Sem α}{Q:α→Shared→Prop}{E:Value→Shared→Prop}{s:Shared}(h:wpAny M A t (fun a s'=>s.toks≤s'.toks→Q a s') E s):wpAny M A t Q E s :=
 wpAny_mono (wpAny_toks h) (fun _ _ q=>q.1 q.2) fun _ _ e=>e
def PEt (X:Cx)(e:Expr)(t:TE):Prop :=
 ∀(pins:List (Addr×Obj)) (s:Shared) (σ:St) (H:Hp) (Q:VK),0<s.toks→Inv X pins σ H s→t σ H Q→wpAny (model X.prog X.w) X.A (eval e X.env) (EP X pins σ Q) X.xe s
def PSt (X:Cx)(st:Stmt)(t:TS):Prop :=
 ∀(pins:List (Addr×Obj)) (s:Shared) (σ:St) (H:Hp) (D:Ends),0<s.toks→Inv X pins σ H s→t D σ H→wpAny (model X.prog X.w) X.A (exec st X.env) (SP X pins D) X.xe s
def PSst (X:Cx)(st:List Stmt)(t:TS):Prop :=
 ∀(pins:List (Addr×Obj)) (s:Shared) (σ:St) (H:Hp) (D:Ends),0<s.toks→Inv X pins σ H s→t D σ H→wpAny (model X.prog X.w) X.A (execs st X.env) (SP X pins D) X.xe s
theorem PE.t {X:Cx}{e:Expr}{t:TE}(h:PE X e t):PEt X e t:=fun pins s σ H Q _=>h pins s σ H Q
theorem PS.t {X:Cx}{e:Stmt}{t:TS}(h:PS X e t):PSt X e t:=fun pins s σ H Q _=>h pins s σ H Q
theorem PSs.t {X:Cx}{e:List Stmt}{t:TS}(h:PSs X e t):PSst X e t:=fun pins s σ H Q _=>h pins s σ H Q
section
variable {X:Cx}{st:Stmt}{rest:List Stmt}{t u:TS}
theorem psst_cons (h1:PSt X st t)(h2:PSst X rest u):PSst X (st::rest) (tSeq t u):=by
 intro pins s σ H D h0 I h
 refine wpAny_execs_cons (wpAny_tk (thn (h1 pins s σ H {D with nx:=u D} h0 I h) fun f s1 q k=>?_))
 cases f with
 |next=>
  obtain⟨σ',H',I',q⟩:=q
  exact h2 pins s1 σ' H' D (Nat.lt_of_lt_of_le h0 k) I' q
 |ret v=>exact q
 |brk=>exact q
 |cont=>exact q
theorem pst_set {i:Nat}{x:Str}{e:Expr}{te:TE}{pos pos':Pos}(hN:X.N.Nodup)(he:PEt X e te)(hi:X.N[i]?=some x:=by rfl)(hx:Loc X.env.scope x:=by exact Or.inl rfl)(hs:swapsWith e (some (.Name x pos')) pos.line X.env=pure false:=by rfl)(hf:X.fn x=true∨X.env.scope.names.lookup x=some .local:=by first|exact .inl rfl|exact .inr rfl):
  PSt X (.Assign [.Name x pos'] e pos) (tAsg te (gName i)):=by
 intro pins s σ H D h0 I h
 refine wpAny_Assign_Name (thn (he pins s σ H _ h0 I h) fun v s1 ⟨y,H1,I1,r1,q1⟩=>?_) hs
 exact store_ok I1 hN hi hx r1 (fun s2 I2=>⟨_,H1,I2,q1⟩) hf
inductive tRep_ (y z:Str)(Q:VK)(x:V)(H1:Hp):Prop where
 |mk (w:Str):x=.str w→w.length+(w.length+1)*z.length≤16777216→Q (.str (Txt.replace w y z)) H1→tRep_ y z Q x H1
def tRep (y z:Str)(to:TE):TE:=fun σ H Q=>to σ H (tRep_ y z Q)
theorem pe_rep {o:Expr}{to:TE}{y z:Str}{j1 j2 p1 p2 cpos apos}(ho:PEt X o to)
  (hbase:attributeBase o "replace" X.env (eval o X.env)=eval o X.env:=by rfl)
  (hfew:((backTo cpos (starEach [.Constant (.str y) j1 p1, .Constant (.str z) j2 p2] X.env)).all (fun x=>!x.1)&&(backToKw cpos (keywordEach [] X.env)).all (fun x=>x.1.isSome)
   &&decide (([.Constant (.str y) j1 p1, .Constant (.str z) j2 p2]:List Expr).length+([]:List Keyword).length+(if([]:List Keyword).isEmpty then 0 else 1)<30))=true:=by rfl)
  (hline:(apos.endLine==cpos.line)=true:=by rfl) (hyz:(y==z)=false:=by decide):
  PEt X (.Call (.Attribute o "replace" apos) [.Constant (.str y) j1 p1, .Constant (.str z) j2 p2] [] cpos) (tRep y z to):=by
 intro pins s σ H Q h0 I h
 refine wpAny_Call_method_late hbase hfew hline rfl (wpAny_tk (thn (ho pins s σ H _ h0 I h) fun v s1 ⟨x,H1,I1,r1,q1⟩ hk=>?_))
 obtain⟨w,rfl,hl,q⟩:=q1
 obtain⟨tw,rfl⟩:=r1
 refine⟨"str","str.replace",PySem.F.plainAttrs_str,PySem.F.slot_str_replace,PySem.F.type_str_replace,?_,?_,?_⟩
 ·exact typeIs_str s1 w tw
 ·exact fun _ e=>nomatch e
 ·refine Calls.callWith_builtin rfl (Calls.evalArgs_plain ?_)
  refine Calls.spliced_cons (Calls.Constant_str (k:=0) (pos:=p1) ?_)
  show wpAny _ _ (spliced ((false,eval (.Constant (.str z) j2 p2) X.env)::backTo cpos (starEach [] X.env))) _ _ _
  refine Calls.spliced_cons (Calls.Constant_str (k:=0) (pos:=p1) ?_)
  show wpAny _ _ (spliced []) _ _ _
  refine Calls.spliced_nil ?_
  exact SC.replace (by show s1.toks≠0;omega) (by show s1.toks+1≠0;omega) (by show s1.toks≠s1.toks+1;omega) hyz hl (fun t' k=>⟨.str _,H1,I1.tok k,⟨_,rfl⟩,q⟩)
end
structure FnOkT (P:Program)(w:World)(K:PySem.W.Frag)(mg:Str→Option Value)(base:Heap)(CX:CXT)(k:Nat)(f:Addr)(fd:FuncData)(ps:List Str)(sp:Sp):Prop where
 len:∀vs H Q E,sp vs H Q E→vs.length=ps.length
 run:∀(A:Around) (outer:List Env) (s:Shared) (H:Hp) (args:Args) (us:List Value) (vs:List V) (Q:VK) (E:XK),0<s.toks→Room k A→Env0 P w K mg base A outer s H→BindsTo s fd args (ps.zip us)→Vals vs us→sp vs H Q E→
  codeAny (model P w) A (.call (.ref f) args) (CR CX outer P w H s Q E) s
theorem fn_ofT {CX:CXT}{P:Program}{w:World}{K:PySem.W.Frag}{mg:Str→Option Value}{base:Heap}{k:Nat}{f:Addr}{name qual:Str}{params:Arguments}{body:List Stmt}{scope:Scope}{dV kV doc pm cdv ct oc:Value}{an od:Option Addr}
  {osl:Array (Option Value)} {N ps:List Str} {sp:Sp} (lk:K.lookup f=some ⟨oc,od, .func (PySem.W.fnOf name qual params body scope dV kV doc pm an cdv ct),osl⟩) (hcd:PySem.W.codeIn K cdv qual=true) (S:FnScope N ps scope)
  (len:∀vs H Q E,sp vs H Q E→vs.length=ps.length)
  (hbody:∀(A:Around) (outer:List Env) (s:Shared) (H:Hp) (vs:List V) (Q:VK) (E:XK),Room k (A.deeper (envOfC qual scope s.heap.objs.size f cdv))→sp vs H Q E→
   ∃t,PSst (cxOf CX P w K mg base N qual scope f cdv A outer s H E) body t∧t (Ends.of Q) (start N vs) H):
  FnOkT P w K mg base CX (k+1) f (PySem.W.fnOf name qual params body scope dV kV doc pm an cdv ct) ps sp:=by
 refine⟨len,fun A outer s H args us vs Q E h0 hr e0 hb r hsp=>?_⟩
 have hl:=len _ _ _ _ hsp
 have KX:K.In s.heap:=e0.mod.kin.keeps fun b o e=>(e0.bs b o e).1
 have lim:s.heap.NoLimit:=e0.mod.nolimit.keeps fun b o e=>(e0.bs b o e).1
 have hkind:∀y∈ps.zip us,scope.names.lookup y.1=some .local∨(scope.names.lookup y.1=some .cell∧((cellsFrom (s.heap.objs.size+1) scope.names []).lookup y.1).isSome=true):=fun⟨n,v⟩ hy=>by
  rcases S.par n (List.of_mem_zip hy).1 with q|q
  ·exact .inl q
  ·exact .inr ⟨q,PySem.W.cellsFrom_some _ _ _ (.inl q)⟩
 refine codeAny_call_function hr.depth (KX _ _ lk) rfl S.co S.gen rfl (PySem.W.codeRec_of KX hcd) (hb _ _ _ _ ?_)
 refine wpAny_tk (wpAny_newFunctionEnv_cells S.kind hkind fun env he s1 x hk=>?_)
 subst he
 refine⟨lim.keeps x.toInCall.keep,codeAny_func ?_⟩
 obtain⟨t,ht,hq⟩:=hbody A outer s H vs Q E (hr.deeper _) hsp
 have I:Inv (cxOf CX P w K mg base N qual scope f cdv A outer s H E) [] (start N vs) H s1:=inv_start S hr.hd e0 hl r x
 refine wpAny_mono (ht [] s1 (start N vs) H _ (Nat.lt_of_lt_of_le h0 hk) I hq) (fun fl s' hs=>?_) fun e s' hs=>hs
 have fin:∀{σ':St} {H':Hp} {v:V} {u:Value},Inv (cxOf CX P w K mg base N qual scope f cdv A outer s H E) [] σ' H' s'→RelV v u→Q v H'→CE outer P w H s Q u s' :=
  fun{σ' H' v u} J rv q=>⟨v,H',J.os,J.bare,J.base,J.hok,rv,q⟩
 cases fl with
 |ret u=>
  obtain⟨v,σ',H',J,rv,q⟩:=hs
  exact fin J rv q
 |next=>
  obtain⟨σ',H',J,q⟩:=hs
  exact fin (v:=V.non) (u:=Value.none) J rfl q
 |brk=>
  obtain⟨_,_,_,q⟩:=hs
  exact False.elim q
 |cont=>
  obtain⟨_,_,_,q⟩:=hs
  exact False.elim q
section
variable {X:Cx}{CX:CXT}{k:Nat}{f C:Addr}{fd:FuncData}{ps:List Str}{sp:Sp}{dvs:List V}{ds:List Value}{E:XK}{x m:Str}{p pos apos:Pos}{e o:Expr}{es:List Expr}{ta:TE}{t:TA}
theorem run_fnT {pins:List (Addr×Obj)}{σ:St}{H:Hp}{s:Shared}{Q:VK}{us:List Value}{vs:List V}(F:FnOkT X.prog X.w X.K X.mg X.base CX k f fd ps sp)(hr:Room k X.A)(hb:Binds X.K fd ps ds)(hd:Vals dvs ds)(hx:Passes CX X E)
  (h0:0<s.toks) (I:Inv X pins σ H s) (r:Vals vs us) (h:sp (vs++dvs) H Q E):wpAny (model X.prog X.w) X.A (call (.ref f) us) (EP X pins σ Q) X.xe s:=by
 have r2:Vals (vs++dvs) (us++ds):=r.append hd
 have hl:(us++ds).length=ps.length:=by rw[←r2.length];exact F.len _ _ _ _ h
 refine wpAny_call (codeAny_mono (F.run X.A X.stack s H ⟨us,[]⟩ (us++ds) (vs++dvs) Q E h0 hr I.env0 (hb s us I.kIn hl) r2 h) fun r s' hq=>?_)
 cases r with
 |error e=>exact hx pins σ H s e s' I hq
 |ok fl=>
  cases fl with
  |ret u=>exact I.after hq
  |next=>exact False.elim hq
  |brk=>exact False.elim hq
  |cont=>exact False.elim hq
theorem pe_callTk (F:FnOkT X.prog X.w X.K X.mg X.base CX k f fd ps sp)(hr:Room k X.A)(hg:Gl X x)(hm:X.mg x=some (.ref f))(hk:PySem.W.keepIn X.K (.ref f)=true)(hb:Binds X.K fd ps ds)(hd:Vals dvs ds)(hx:Passes CX X E)
  (ha:PA X (e::es) t) (hdb:(x==("__debug__":Str))=false:=by decide) (he:starEach (e::es) X.env=(false,eval e X.env)::starEach es X.env:=by rfl) (hpl:(backTo pos (starEach es X.env)).any (·.1)=false:=by rfl):
  PEt X (.Call (.Name x p) (e::es) [] pos) (tCall sp dvs E t):=by
 intro pins s σ H Q h0 I h
 refine wpAny_Call_Name_kw (ld_glob I hg hm ?_ hdb)
 refine PySem.W.callWith_K (h₀:=X.base) I.ok.mod.kin hk (wpAny_tk (thn (ha pos pins s σ H _ I h) fun us s1 ⟨vs,H1,I1,r,q⟩ hk'=>⟨I1.kIn,?_⟩)) he hpl
 exact run_fnT F hr hb hd hx (Nat.lt_of_lt_of_le h0 hk') I1 r q
end
def PIt (X:Cx)(tg iter:Expr)(wi:TI):Prop :=
 ∀(pins:List (Addr×Obj)) (s:Shared) (σ:St) (H:Hp) (R:It→Hp→Prop),0<s.toks→Inv X pins σ H s→wi σ H R→
  wpAny (model X.prog X.w) X.A (eval iter X.env) (fun v s1=>wpAny (model X.prog X.w) X.A (pyIter v) (PIE X pins σ tg R) X.xe s1) X.xe s
section
variable {X:Cx}{tg:Expr}
theorem pit_list {l:Expr}{tl:TE}(hl:PEt X l tl):PIt X tg l (iList X.K tl):=by
 intro pins s σ H R h0 I h
 refine thn (hl pins s σ H _ h0 I h) fun v s1 ⟨x,H1,I1,r1,q1⟩=>?_
 obtain⟨a,e,⟨xs,hq⟩,q⟩:=q1
 subst e
 cases r1
 obtain⟨its,rv,p,hz⟩:=I1.list hq
 refine wpAny_pyIter_list p.isList ?_
 refine⟨s1.heap.objs.size,[s1.heap.objs.size],_,_,H1,rfl,I1.kept (t':=s1.toks) fun b o e=>Heap.get?_push_of_some _ e,turn_list a _,⟨_,Heap.get?_push_size _ rfl,rfl,rfl⟩,fun b hb=>?_,q⟩
 have e:b=s1.heap.objs.size:=by simpa using hb
 subst e
 exact I1.fpOk (Nat.le_refl _) (I1.hok.fresh (Nat.le_refl _))
theorem pst_for {iter:Expr}{body:List Stmt}{wi:TI}{g:TG}{tb:TS}{pos:Pos}(hp:PassesOwn (model X.prog X.w) X.A X.env X.xe)(hc:X.calm=true)(hi:PIt X tg iter wi)(hg:PG X tg g)(hb:PSs X body tb)
  (hs:∀x,foldedSetIterable iter X.env x=pure x:=by intro _;rfl):PSt X (.For tg iter body [] pos) (tFor wi g tb):=by
 intro pins s σ H D h0 I h
 refine wpAny_For (thn (hi pins s σ H _ h0 I h) fun v s1 h1=>thn h1 fun itv s2 h2=>?_) hs
 obtain⟨it,fp,tn,J,H2,e,I2,T,st2,f2,W,⟨m0,w0⟩,turn⟩:=h2
 subst e
 have stat:∀{H':Hp},(∀b∈fp,H' b=none)→∀b∈fp,FpOk X pins H' b:=fun hn b hb=>⟨hn b hb,(f2 b hb).2⟩
 refine codeAny_forLoop_any (fun n s'=>∃i σ' H',Inv X pins σ' H' s'∧tn i s'.heap∧(∀b∈fp,H' b=none)∧W i n σ' H') ?_ m0 ⟨0,σ,H2,I2,st2,fun b hb=>(f2 b hb).1,w0⟩
 rintro n s3 ⟨i,σ3,H3,I3,st3,fr3,w3⟩
 rcases turn i n σ3 H3 w3 with ⟨stop,qn⟩|⟨go,N,hN,step⟩
 ·refine wpAny_passesOwn hp (thn (T.done X rfl rfl rfl hc i pins s3 σ3 H3 X.xe I3 (stat fr3) st3 stop) fun r s4 ⟨hr,I4⟩=>?_)
  subst hr
  exact wpAny_execs_nil ⟨σ3,H3,I4,qn⟩
 ·refine wpAny_passesOwn hp (thn (T.item X rfl rfl rfl hc i pins s3 σ3 H3 X.xe I3 (stat fr3) st3 go) fun r s4 ⟨u,hr,h4⟩=>?_)
  subst hr
  refine wpAny_passesOwn hp (thn h4 fun _ s5 ⟨x,H5,I5,r5,y5,st5,fr5⟩=>?_)
  have I5':=I5.pinned (stat fr5) (T.obj _ _ st5)
  refine wpAny_passesOwn hp (thn (hg _ s5 σ3 H5 x u _ I5' r5 (step x H5 y5)) fun _ s6 ⟨σ6,H6,I6,q6⟩=>?_)
  refine wpAny_passesOwn hp (thn (hb _ s6 σ6 H6 _ I6 q6) fun f s7 q7=>?_)
  have again:∀{σ7:St} {H7:Hp},Inv X (pins++pinsAt fp s5.heap) σ7 H7 s7→N σ7 H7→∃m,m<n∧∃i σ' H',Inv X pins σ' H' s7∧tn i s7.heap∧(∀b∈fp,H' b=none)∧W i m σ' H':=fun{σ7 H7} I7 n7=>by
   obtain⟨m',hm,w7⟩:=hN σ7 H7 n7
   refine⟨m',hm,i+1,σ7,H7,I7.unpinned,T.keep _ _ _ st5 fun b hb o e=>(I7.pin (b,o) (List.mem_append_right _ (List.mem_append_right _ (mem_pinsAt hb e)))).1,fun b hb=>?_,w7⟩
   obtain⟨o,e,d⟩:=T.obj _ _ st5 b hb
   exact(I7.pin (b,o) (List.mem_append_right _ (List.mem_append_right _ (mem_pinsAt hb e)))).2.1
  cases f with
  |next=>obtain⟨σ7,H7,I7,n7⟩:=q7;exact again I7 n7
  |cont=>obtain⟨σ7,H7,I7,n7⟩:=q7;exact again I7 n7
  |brk=>obtain⟨σ7,H7,I7,q7⟩:=q7;exact⟨σ7,H7,I7.unpinned,q7⟩
  |ret v=>obtain⟨x7,σ7,H7,I7,r7,q7⟩:=q7;exact⟨x7,σ7,H7,I7.unpinned,r7,q7⟩
end
theorem PSst.nox {X:Cx}{st:List Stmt}{t:TS}(h:PSst X.nox st t):PSst X st t:=fun pins s σ H D h0 I hw=>
 wpAny_mono (h pins s σ H D h0 (I.wish _) hw) (fun _ _ q=>q.unwish) fun _ _ z=>False.elim z
section
variable {P:Program}{w:World}{K:PySem.W.Frag}{mg:Str→Option Value}{base:Heap}
theorem Fun.okTk {x qual:Str}{st:Stmt}{f:Addr}{fd:FuncData}{N ps:List Str}{k:Nat}{sp:Sp}(F:Fun K x qual st f fd)(S:FnScope N ps (defScope st))
  (hbody:∀(cdv:Value) (A:Around) (outer:List Env) (s:Shared) (H:Hp) (vs:List V) (Q:VK) (E:XK),Room k (A.deeper (envOfC qual (defScope st) s.heap.objs.size f cdv))→sp vs H Q E→
   ∃t,PSst (cxOf CX0 P w K mg base N qual (defScope st) f cdv A outer s H E).nox (defBody st) t∧t (Ends.of Q) (start N vs) H) (len:∀vs H Q E,sp vs H Q E→vs.length=ps.length:=by rintro _ _ _ _ ⟨⟩;subst_vars;rfl):FnOkT P w K mg base CX0 (k+1) f fd ps sp:=by
 obtain⟨oc,od,kV,doc,pm,an,cdv,ct,osl,rfl,lk,hcd⟩:=F.ex
 refine fn_ofT lk hcd S len fun A outer s H vs Q E hr hsp=>?_
 obtain⟨t,h,q⟩:=hbody cdv A outer s H vs Q E hr hsp
 exact⟨t,PSst.nox h,q⟩
end
def PE1 (X:Cx)(e:Expr)(t:TE):Prop :=
 ∀(pins:List (Addr×Obj)) (s:Shared) (σ:St) (H:Hp) (Q:VK),Inv X pins σ H s→t σ H Q→wpAny (model X.prog X.w) X.A (eval e X.env) (fun v s'=>EP X pins σ Q v s'∧0<s'.toks) X.xe s
def PT1 (X:Cx)(e:Expr)(t:TT):Prop :=
 ∀(pins:List (Addr×Obj)) (s:Shared) (σ:St) (H:Hp) (Q:Bool→Hp→Prop),Inv X pins σ H s→t σ H Q→wpAny (model X.prog X.w) X.A (isTrue e X.env (eval e X.env)) (fun b s'=>TP X pins σ Q b s'∧0<s'.toks) X.xe s
section
variable {X:Cx}{x:Str}{p pos:Pos}{e a b:Expr}{es:List Expr}{t:TA}{ta tb:TE}
theorem pe1_len (hg:Gl X "len")(hm:X.mg "len"=none)(ha:PA X (e::es) t)
  (he:starEach (e::es) X.env=(false,eval e X.env)::starEach es X.env:=by rfl) (hpl:(backTo pos (starEach es X.env)).any (·.1)=false:=by rfl):
  PE1 X (.Call (.Name "len" p) (e::es) [] pos) (tCB (fun xs H Q=>∃z,xs=[.str z]∧z.length≤sizeLine∧Q (.int z.length) H) t):=by
 intro pins s σ H Q I h
 refine wpAny_Call_Name_kw (ld_blt I hg hm PySem.boot_len ?_ (by decide) (by decide))
 refine PyProof.Rows.callWith_builtin1 (thn (ha pos pins s σ H _ I h) fun us s1 ⟨vs,H1,I1,r1,q1⟩=>?_) he hpl
 obtain⟨z,rfl,hz,q⟩:=q1
 obtain⟨u,rfl,t,rfl⟩:=vals1 r1
 have hn:=line63
 exact len_str (by omega) ⟨⟨.int z.length,H1,I1.tok _,⟨_,rfl⟩,q⟩,Nat.succ_pos _⟩
theorem pt1_cmp {op:CmpOp}{r:R2}(ho:OpR X (compareOp op) r)(ha:PE1 X a ta)(hb:PE X b tb)(hm:behindInMarks op b=false:=by exact nomark _):PT1 X (.Compare a [op] [b] pos) (tTest (tOp r ta tb)):=by
 intro pins s σ H Q I h
 refine wpAny_isTrue_Compare1 (thn (ha pins s σ H _ I h) fun v s1 ⟨⟨x,H1,I1,r1,q1⟩,k1⟩=>wpAny_tk (thn (hb pins s1 σ H1 _ I1 q1) fun u s2 ⟨y,H2,I2,r2,q2⟩ k2=>
  wpAny_tk (thn (ho pins s2 σ H2 x y v u _ I2 r1 r2 q2) fun c s3 ⟨z,H3,I3,r3,k,e,q3⟩ k3=>?_))) hm
 subst e
 cases r3
 exact wpAny_truthy_bool ⟨⟨H3,I3,q3⟩,Nat.lt_of_lt_of_le k1 (Nat.le_trans k2 k3)⟩
def tFst (tc:TT)(u:TS):TS:=fun D σ H=>tc σ H fun d H1=>d=false∧u D σ H1
theorem pss_fst {c:Expr}{sts rest:List Stmt}{tc:TT}{u:TS}(hc:PT1 X c tc)(hr:PSst X rest u):PSs X (.If c sts [] pos::rest) (tFst tc u):=by
 intro pins s σ H D I h
 refine wpAny_execs_cons (wpAny_If (thn (hc pins s σ H _ I h) fun d s1 ⟨⟨H1,I1,e,q1⟩,k⟩=>?_))
 subst e
 exact wpAny_execs_nil (hr pins s1 σ H1 D k I1 q1)
end
end L2
namespace Fw
open PySem PySem.Spec PyProof.Rows L2
def repL (c:Nat)(ys l:List Nat):List Nat:=l.flatMap fun a=>if a=c then ys else[a]
def joinL (ys:List Nat):List (List Nat)→List Nat
 |[]=>[]
 |[x]=>x
 |x::y::r=>x++ys++joinL ys (y::r)
theorem join_cps (z:Str):∀ps:List Str,(Str.join z ps).cps.toList=joinL z.cps.toList (ps.map (·.cps.toList))
 |[]=>rfl
 |[p]=>rfl
 |p::q::r=>by
  have ih:=join_cps z (q::r)
  show(p++z++Str.join z (q::r)).cps.toList=_
  rw[cps_app,cps_app,ih]
  rfl
theorem joinL_cons (ys:List Nat)(x:List Nat)(ps:List (List Nat))(h:ps≠[]):joinL ys (x::ps)=x++ys++joinL ys ps:=by
 cases ps with
 |nil=>exact absurd rfl h
 |cons p r=>rfl
theorem joinL_splL (c:Nat)(ys:List Nat):∀l,joinL ys (splL c l)=repL c ys l
 |[]=>rfl
 |a::r=>by
  have ih:=joinL_splL c ys r
  unfold splL
  unfold repL at ih ⊢
  rw[List.flatMap_cons]
  by_cases h:a=c
  ·rw[if_pos h,if_pos h,joinL_cons _ _ _ (splL_ne c r),ih]
   rfl
  ·rw[if_neg h,if_neg h]
   cases e:splL c r with
   |nil=>exact absurd e (splL_ne c r)
   |cons p ps=>
    rw[e]at ih
    show joinL ys ((a::p)::ps)=a::_
    rw[←ih]
    cases ps with
    |nil=>rfl
    |cons q r=>rfl
theorem rep_cps (x:Str)(c:Nat)(z:Str):(Txt.replace x ⟨#[c]⟩ z).cps.toList=repL c z.cps.toList x.cps.toList:=by
 rw[StrLaws.replace_one,join_cps,split_eq,joinL_splL]
theorem repL_len {c:Nat}{ys:List Nat}{k:Nat}(h:ys.length≤k)(h1:1≤k):∀l,(repL c ys l).length≤k*l.length
 |[]=>by simp[repL]
 |a::r=>by
  have ih:=repL_len (c:=c) h h1 r
  unfold repL at ih ⊢
  rw[List.flatMap_cons,List.length_append,List.length_cons]
  have:(if a=c then ys else[a]).length≤k:=by
   split
   ·exact h
   ·exact h1
  rw[Nat.mul_succ]
  omega
def spacedL (l:List Nat):List Nat:=repL 41 [32,41,32] (repL 40 [32,40,32] (repL 10 [32] l))
def piecesL (l:List Nat):List (List Nat):=(splL 32 (spacedL l)).filter (fun p=>!p.isEmpty)
def sp1 (z:Str):Str:=Txt.replace z "\n" " "
def sp2 (z:Str):Str:=Txt.replace (sp1 z) "(" " ( "
def sp3 (z:Str):Str:=Txt.replace (sp2 z) ")" " ) "
theorem sp1_cps (z:Str):(sp1 z).cps.toList=repL 10 [32] z.cps.toList:=by
 unfold sp1
 rw[show("\n":Str)=⟨#[10]⟩ by decide+kernel,rep_cps]
 rfl
theorem sp2_cps (z:Str):(sp2 z).cps.toList=repL 40 [32,40,32] (repL 10 [32] z.cps.toList):=by
 unfold sp2
 rw[show("(":Str)=⟨#[40]⟩ by decide+kernel,rep_cps,sp1_cps]
 rfl
theorem sp3_cps (z:Str):(sp3 z).cps.toList=spacedL z.cps.toList:=by
 unfold sp3
 rw[show(")":Str)=⟨#[41]⟩ by decide+kernel,rep_cps,sp2_cps]
 rfl
theorem sp1_len (z:Str):(sp1 z).length≤z.length:=by
 rw[←len_toList,sp1_cps,←len_toList]
 have:=repL_len (c:=10) (ys:=[32]) (k:=1) (Nat.le_refl _) (Nat.le_refl _) z.cps.toList
 omega
theorem sp2_len (z:Str):(sp2 z).length≤3*z.length:=by
 rw[←len_toList,sp2_cps]
 have h1:=sp1_len z
 rw[←len_toList,sp1_cps]at h1
 have:=repL_len (c:=40) (ys:=[32,40,32]) (k:=3) (Nat.le_refl _) (by decide) (repL 10 [32] z.cps.toList)
 omega
theorem sp3_len (z:Str):(sp3 z).length≤9*z.length:=by
 rw[←len_toList,sp3_cps]
 have h1:=sp2_len z
 rw[←len_toList,sp2_cps]at h1
 have:=repL_len (c:=41) (ys:=[32,41,32]) (k:=3) (Nat.le_refl _) (by decide) (repL 40 [32,40,32] (repL 10 [32] z.cps.toList))
 unfold spacedL
 omega
theorem splL_len (c:Nat):∀l,(splL c l).length≤l.length+1
 |[]=>by simp[splL]
 |a::r=>by
  have ih:=splL_len c r
  unfold splL
  split
  ·simp;exact ih
  ·cases e:splL c r with
   |nil=>simp
   |cons p ps=>rw[e]at ih;simp at ih ⊢;omega
def piecesS (z:Str):List Str:=(Txt.split (sp3 z) " ").filter fun p=>!decide (V.str p=.str "")
theorem split_lenL (z:Str):(Txt.split (sp3 z) " ").length≤9*z.length+1:=by
 have h:=split_eq (sp3 z) 32
 have h1:=splL_len 32 (sp3 z).cps.toList
 rw[←h,List.length_map,len_toList]at h1
 rw[show(" ":Str)=⟨#[32]⟩ by decide+kernel]
 have:=sp3_len z
 omega
abbrev s_pcs:Stmt:=top 24
theorem comp_lst {K:PySem.W.Frag}{H:Hp}{a:Addr}{xs:List V}{tt:TT}{te:TE}{σ':L2.St}{Q:VK}(Pv:Nat→List V→Hp→Prop)(h0:Pv 0 [] H)(hl:∀i vs H,i≤xs.length→Pv i vs H→SqL K H a xs∧vs.length<sizeLine)
  (hs:∀i x vs H2,i<xs.length→xs[i]?=some x→Pv i vs H2→tt (some x::σ') H2 fun b H4=>if b=true then te (some x::σ') H4 fun v H5=>Nx xs.length i (Pv (i+1) (vs++[v]) H5) else Nx xs.length i (Pv (i+1) vs H4))
  (hd:∀vs H2,Pv xs.length vs H2→∀l,H2 l=none→Q (.ref l) (upd H2 l (.lst vs))):CompW (Itl K a) tt te σ' Q H:=by
 refine⟨fun i m vs H=>m=xs.length-i∧i≤xs.length∧Pv i vs H,⟨xs.length,by simp,Nat.zero_le _,h0⟩,?_⟩
 rintro i m vs H2 ⟨rfl,hi,p⟩
 obtain⟨q1,q2⟩:=hl i vs H2 hi p
 refine⟨q2,?_⟩
 by_cases hlt:i<xs.length
 ·refine .inr ⟨⟨xs,xs[i],q1,by simp[hlt]⟩,?_⟩
  rintro x H3 ⟨e,y⟩
  subst e
  exact hs i x vs _ hlt (y xs q1) p
 ·have e:i=xs.length:=by exact Nat.le_antisymm hi (Nat.not_lt.mp hlt)
  subst e
  exact .inl ⟨⟨xs,q1,Nat.le_refl _⟩,hd vs H2 p⟩
def HasT (P:Program)(w:World)(K:PySem.W.Frag)(mg:Str→Option Value)(base:Heap)(k:Nat)(x:Str)(ps:List Str)(sp:Sp):Prop :=
 ∃f fd,FnOkT P w K mg base CX0 k f fd ps sp∧Binds K fd ps []∧PySem.W.keepIn K (.ref f)=true∧mg x=some (.ref f)
theorem pcallTk {X:Cx}{k j:Nat}{x:Str}{ps:List Str}{sp:Sp}{p pos:Pos}{e:Expr}{es:List Expr}{t:TA}(h:HasT X.prog X.w X.K X.mg X.base k x ps sp)(hr:Room j X.A)(hkj:k≤j)(hg:Gl X x)(ha:PA X (e::es) t)
  (hdb:(x==("__debug__":Str))=false:=by decide) (he:starEach (e::es) X.env=(false,eval e X.env)::starEach es X.env:=by rfl) (hpl:(backTo pos (starEach es X.env)).any (·.1)=false:=by rfl):
  PEt X (.Call (.Name x p) (e::es) [] pos) (tCall sp [] E0 t):=by
 obtain⟨f,fd,h1,h2,h3,h4⟩:=h
 exact pe_callTk h1 (hr.mono hkj) hg h4 h3 h2 .nil pass0 ha hdb he hpl
inductive spPcs (vs:List V)(H:Hp)(Q:VK)(E_:XK):Prop where
 |mk (z:Str):vs=[.str z]→z.length≤6000→(∀p H',Same H H'→H p=none→H' p=some (.lst ((piecesS z).map V.str))→Q (.ref p) H')→spPcs vs H Q E_
section
variable {P:Program}{w:World}{K:PySem.W.Frag}{mg:Str→Option Value}{base:Heap}{f:Addr}{fd:FuncData}
theorem sc_pcs:FnScope ["text","spaced"] ["text"] (defScope s_pcs):=⟨rfl,rfl,rfl,by decide+kernel,rfl,by decide+kernel,by decide+kernel⟩
theorem ok_pcs (F:Fun K "pieces_of" "pieces_of" s_pcs f fd):FnOkT P w K mg base CX0 1 f fd ["text"] spPcs:=by
 refine F.okTk sc_pcs (fun cdv A outer s H vs Q E hr h=>?_)
 obtain⟨z,rfl,hz,q⟩:=h
 refine⟨_,psst_cons (pst_set (i:=1) sc_pcs.nd (pe_rep (pe_rep (pe_rep (PE.t (pv 0))))))
  (PSs.t (pss_one (ps_ret (pe_lc (defScope s_pcs) ["text","spaced"] [] [] (by decide+kernel) (piL K (pe_bm PySem.F.plainAttrs_str PySem.F.slot_str_split PySem.F.type_str_split mt_split (pv 1) (pa_cons pe_str pa_nil)))
   (fun C s₀ H₀ ex=>pts_one (pt_cmpR op_ne (pv 0) pe_str)) (fun C s₀ H₀ ex=>pv 0))))),?_⟩
 have l1:=sp1_len z
 have l2:=sp2_len z
 have l3:=sp3_len z
 have l4:=split_lenL z
 refine⟨_,rfl,z,rfl,by show z.length+(z.length+1)*1≤_;omega,sp1 z,rfl,by show(sp1 z).length+((sp1 z).length+1)*3≤_;omega,sp2 z,rfl,by show(sp2 z).length+((sp2 z).length+1)*3≤_;omega,?_⟩
 have flt:∀(l:List Str) (i:Nat) (x:Str),l[i]?=some x→((l.take (i+1)).filter fun p=>!decide (V.str p=.str ""))=((l.take i).filter fun p=>!decide (V.str p=.str ""))++(if decide (V.str x=.str "")=true then[] else[x]):=by
  intro l i x hx
  rw[List.take_add_one,hx,List.filter_append]
  show _++List.filter _ [x]=_
  refine congrArg _ ?_
  rw[List.filter_cons]
  cases e:decide (V.str x=.str "")<;>rfl
 refine⟨_,rfl,rfl,sp3 z," ",rfl,rfl,small (by omega),by decide,small (by omega),fun l hl=>⟨l,rfl,⟨_,SqL.of upd_same⟩,?_⟩⟩
 refine comp_lst (xs:=(Txt.split (sp3 z) " ").map V.str) (fun i vs H'=>H'=upd H l (.lst ((Txt.split (sp3 z) " ").map V.str))∧vs=(((Txt.split (sp3 z) " ").take i).filter fun p=>!decide (V.str p=.str "")).map V.str) ⟨rfl,rfl⟩ ?_ ?_ ?_
 ·rintro i vs H' hi ⟨rfl,rfl⟩
  refine⟨SqL.of upd_same,small' ?_⟩
  rw[List.length_map]
  have h1:=List.length_filter_le (fun p=>!decide (V.str p=.str "")) ((Txt.split (sp3 z) " ").take i)
  rw[List.length_take]at h1
  omega
 ·rintro i x vs H' hi hx ⟨rfl,rfl⟩
  rw[List.getElem?_map]at hx
  cases e:(Txt.split (sp3 z) " ")[i]? with
  |none=>rw[e]at hx;cases hx
  |some y=>
   rw[e]at hx
   cases hx
   have f1:=flt _ i y e
   refine⟨_,rfl,rfl,_,rfl,?_⟩
   cases c:decide (V.str y=.str "") with
   |true=>
    rw[c]at f1
    refine iteF (nx hi ⟨rfl,?_⟩)
    rw[f1]
    simp
   |false=>
    rw[c]at f1
    refine iteT ⟨_,rfl,nx hi ⟨rfl,?_⟩⟩
    rw[f1]
    simp
 ·rintro vs H' ⟨rfl,rfl⟩ b hb
  have hbl:b≠l:=fun e=>by rw[e,upd_same]at hb;cases hb
  have hb':H b=none:=by rw[upd_ne hbl]at hb;exact hb
  refine q b _ ((same_new hl _).trans (same_new hb _)) hb' ?_
  rw[upd_same,List.length_map,List.take_length]
  rfl
end
abbrev s_tho:Stmt:=top 25
abbrev s_beg:Stmt:=top 26
abbrev s_end:Stmt:=top 27
theorem call_intS {X:Cx}:CallR X (.type "int") (fun xs H Q=>∃z n,xs=[.str z]∧PySem.intText? z=some n∧z.length≤640∧Q (.int n) H):=by
 intro pins s σ H xs us Q I r h
 obtain⟨z,n,rfl,hn,hl,q⟩:=h
 obtain⟨u,rfl,t,rfl⟩:=vals1 r
 exact PySem.W.KIN.call_text hn hl ⟨.int n,H,I.tok _,⟨_,rfl⟩,q⟩
theorem boot_int':bootBuiltins "int"=some (.type "int"):=by decide+kernel
def thingT (z:Str):Option T:=if ntB z=true then(PySem.intText? z).map T.int else if wordB z=true then some (.str z) else none
inductive spTho (vs:List V)(H:Hp)(Q:VK)(E_:XK):Prop where
 |mk (z:Str) (t:T):vs=[.str z]→z.length≤100→thingT z=some t→(∀v H',Same H H'→Rep H' v t→Q v H')→spTho vs H Q E_
inductive spBeg (vs:List V)(H:Hp)(Q:VK)(E_:XK):Prop where
 |mk (a:Addr) (ls:List V):vs=[.ref a]→H a=some (.lst ls)→ls.length≤20→(∀p,H p=none→Q .non (upd (upd H p (.lst [])) a (.lst (ls++[.ref p]))))→spBeg vs H Q E_
inductive spEnd (vs:List V)(H:Hp)(Q:VK)(E_:XK):Prop where
 |mk (a b c:Addr) (ls us ws:List V):vs=[.ref a]→H a=some (.lst (ls++[.ref b]++[.ref c]))→H b=some (.lst ws)→H c=some (.lst us)→a≠b→a≠c→ls.length≤100→ws.length≤100000→
   (∀p,H p=none→Q .non (upd (upd (upd H a (.lst (ls++[.ref b]))) p (.tup us)) b (.lst (ws++[.ref p]))))→spEnd vs H Q E_
section
variable {P:Program}{w:World}{K:PySem.W.Frag}{mg:Str→Option Value}{base:Heap}{f:Addr}{fd:FuncData}
theorem sc_tho:FnScope ["piece"] ["piece"] (defScope s_tho):=⟨rfl,rfl,rfl,by decide+kernel,rfl,by decide+kernel,by decide+kernel⟩
theorem sc_beg:FnScope ["levels"] ["levels"] (defScope s_beg):=⟨rfl,rfl,rfl,by decide+kernel,rfl,by decide+kernel,by decide+kernel⟩
theorem sc_end:FnScope ["levels","inner"] ["levels"] (defScope s_end):=⟨rfl,rfl,rfl,by decide+kernel,rfl,by decide+kernel,by decide+kernel⟩
theorem ok_tho (F:Fun K "thing_of" "thing_of" s_tho f fd)(mi:mg "int"=none)(h1:Has P w K mg base 2 "is_number_text" ["text"] (spS ntB))(h2:Has P w K mg base 5 "is_word" ["thing"] (spS wordB)):FnOk P w K mg base CX0 6 f fd ["piece"] spTho:=by
 refine F.ok sc_tho (fun cdv A outer s H vs Q E hr h=>?_)
 obtain⟨z,t,rfl,hz,ht,q⟩:=h
 refine⟨_,pss_cons (ps_if (pt_val (pcall h1 hr (by decide) rfl (pa_cons (pv 0) pa_nil))) (pss_one (ps_ret (pe_callTy call_intS rfl mi boot_int' (pa_cons (pv 0) pa_nil)))) pss_nil)
  (pss_cons (ps_if (pt_val (pcall h2 hr (by decide) rfl (pa_cons (pv 0) pa_nil))) (pss_one (ps_ret (pv 0))) pss_nil) (pss_one ps_never)),?_⟩
 unfold thingT at ht
 refine⟨_,rfl,z,rfl,by omega,fun H1 e1=>⟨_,rfl,?_⟩⟩
 cases c:ntB z with
 |true=>
  rw[c,if_pos rfl]at ht
  cases hn:PySem.intText? z with
  |none=>rw[hn]at ht;cases ht
  |some n=>
   rw[hn]at ht
   cases ht
   exact iteT ⟨_,rfl,z,n,rfl,hn,by omega,q _ _ e1 (.int n)⟩
 |false=>
  rw[c,if_neg Bool.false_ne_true]at ht
  refine iteF ⟨_,rfl,z,rfl,by omega,fun H2 e2=>⟨_,rfl,?_⟩⟩
  cases c2:wordB z with
  |false=>rw[c2,if_neg Bool.false_ne_true]at ht;cases ht
  |true=>
   rw[c2,if_pos rfl]at ht
   cases ht
   exact iteT ⟨_,rfl,q _ _ (e1.trans e2) (.str z (by omega))⟩
theorem ok_beg (F:Fun K "begin_bracket" "begin_bracket" s_beg f fd)(ml:mg "len"=none)(hm:∃t,mg "MOST_BRACKETS"=some (.int 20 t)):FnOk P w K mg base CX0 1 f fd ["levels"] spBeg:=by
 refine F.ok sc_beg (fun cdv A outer s H vs Q E hr h=>?_)
 obtain⟨a,ls,rfl,ha,hl,q⟩:=h
 obtain⟨t,hm⟩:=hm
 refine⟨_,pss_cons (ps_if (pt_cmpR op_gt (pe_callB (clen K) rfl ml PySem.boot_len (pa_cons (pv 0) pa_nil)) (pe_glob (v:=.int 20) rfl hm ⟨_,rfl⟩)) pss_never pss_nil)
  (pss_one (ps_expr (papp K (pv 0) (pa_cons (pe_lst pa_nil) pa_nil)))),?_⟩
 refine⟨_,rfl,a,_,rfl, .inl (SqL.of ha),_,_,rfl,rfl,_,rfl,?_⟩
 rw[decide_eq_false (by omega)]
 refine iteF ⟨_,rfl, .inl ⟨rfl,_,SqL.of ha⟩,small (by decide),fun p hp=>?_⟩
 have np:a≠p:=fun e=>by rw[e,hp]at ha;cases ha
 exact⟨a,ls, .ref p,rfl,rfl,by rw[upd_ne np];exact ha,small' (by omega),q p hp⟩
theorem ok_end (F:Fun K "end_bracket" "end_bracket" s_end f fd)(ml:mg "len"=none)(mt:mg "tuple"=none):FnOk P w K mg base CX0 1 f fd ["levels"] spEnd:=by
 refine F.ok sc_end (fun cdv A outer s H vs Q E hr h=>?_)
 obtain⟨a,b,c,ls,us,ws,rfl,ha,hb,hc,n1,n2,hl,hw,q⟩:=h
 refine⟨_,pss_cons (ps_if (pt_cmpR op_eq (pe_callB (clen K) rfl ml PySem.boot_len (pa_cons (pv 0) pa_nil)) pe_int) pss_never pss_nil)
  (pss_cons (pset 1 sc_end.nd (ppop K (pv 0)))
  (pss_one (ps_expr (papp K (pe_ix (ixL K) (pv 0) (pe_un un_neg pe_int)) (pa_cons (pe_callTy (ctup K) rfl mt boot_tuple (pa_cons (pv 1) pa_nil)) pa_nil))))),?_⟩
 refine⟨_,rfl,a,_,rfl, .inl (SqL.of ha),rfl,_,rfl,?_⟩
 rw[decide_eq_false (by intro e;have:=V.int.inj e;simp at this;omega)]
 refine iteF ⟨_,rfl, .inl ⟨rfl,_,SqL.of ha⟩,a,_, .ref c,rfl,rfl,ha,by simp,?_⟩
 rw[List.dropLast_concat]
 refine⟨_,rfl,1,rfl,a,_,-1, .ref b,rfl,rfl,SqL.of upd_same,atI_last _ _, .inl ⟨rfl,_,SqL.of (by rw[upd_ne n1.symm];exact hb)⟩,?_⟩
 refine⟨_,rfl,c,us,rfl, .inl ⟨SqL.of (by rw[upd_ne n2.symm];exact hc),fun p hp=>?_⟩⟩
 have pa:p≠a:=fun e=>by rw[e,upd_same]at hp;cases hp
 have hp':H p=none:=by rw[upd_ne pa]at hp;exact hp
 have pb:b≠p:=fun e=>by rw[e,hp']at hb;cases hb
 exact⟨b,ws, .ref p,rfl,rfl,by rw[upd_ne pb,upd_ne n1.symm];exact hb,small' (by omega),q p hp'⟩
end
abbrev s_ths:Stmt:=top 28
def stepP (st:List (List T))(p:Str):Option (List (List T)) :=
 if decide (V.str p=.str "(")=true then(if st.length≤20 then some ([]::st) else none)
 else if decide (V.str p=.str ")")=true then(match st with
  |a::b::r=>some ((b++[.tup a])::r)
  |_=>none)
 else match thingT p,st with
  |some t,a::r=>some ((a++[t])::r)
  |_,_=>none
def pars:List (List T)→List Str→Option (List (List T))
 |st,[]=>some st
 |st,p::r=>(stepP st p).bind fun st'=>pars st' r
inductive Lvs (n:Nat)(H:Hp):List Addr→List (List T)→Prop where
 |nil:Lvs n H [] []
 |cons {b:Addr} {as:List Addr} {st:List (List T)} {vs:List V} {ts:List T}:H b=some (.lst vs)→Reps H vs ts→vs.length≤n→b∉as→Lvs n H as st→Lvs n H (b::as) (ts::st)
theorem Lvs.keep {n n':Nat}{H H':Hp}(hn:n≤n')(ht:∀b xs,H b=some (.tup xs)→H' b=some (.tup xs)):∀{as:List Addr} {st:List (List T)},(∀b∈as,H' b=H b)→Lvs n H as st→Lvs n' H' as st:=by
 intro as st h L
 induction L with
 |nil=>exact .nil
 |cons h1 r hl nb L ih=>exact .cons ((h _ (by simp)).trans h1) (r.mono ht) (Nat.le_trans hl hn) nb (ih fun b hb=>h b (List.mem_cons_of_mem _ hb))
theorem Lvs.len {n:Nat}{H:Hp}{as:List Addr}{st:List (List T)}(L:Lvs n H as st):as.length=st.length:=by
 induction L with
 |nil=>rfl
 |cons _ _ _ _ _ ih=>simp[ih]
theorem Reps.snoc {H:Hp}{vs:List V}{ts:List T}{v:V}{t:T}(r:Reps H vs ts)(q:Rep H v t):Reps H (vs++[v]) (ts++[t]):=by
 induction vs generalizing ts with
 |nil=>cases r;exact .cons q .nil
 |cons a vs ih=>
  cases r with
  |cons r1 r2=>exact .cons r1 (ih r2)
inductive spThs (vs:List V)(H:Hp)(Q:VK)(E_:XK):Prop where
 |mk (z:Str) (ts:List T):vs=[.str z]→z.length≤6000→pars [[]] (piecesS z)=some [ts]→(∀p∈piecesS z,p.length≤100)→(∀v H',Same H H'→Rep H' v (.tup ts)→Q v H')→spThs vs H Q E_
theorem piecesS_len (z:Str):(piecesS z).length≤9*z.length+1:=by
 have:=List.length_filter_le (fun p=>!decide (V.str p=.str "")) (Txt.split (sp3 z) " ")
 have:=split_lenL z
 unfold piecesS
 omega
section
variable {P:Program}{w:World}{K:PySem.W.Frag}{mg:Str→Option Value}{base:Heap}{f:Addr}{fd:FuncData}
theorem sc_ths:FnScope ["text","levels","piece"] ["text"] (defScope s_ths):=⟨rfl,rfl,rfl,by decide+kernel,rfl,by decide+kernel,by decide+kernel⟩
structure Lp (H:Hp)(a pl:Addr)(ps:List Str)(ts:List T)(z:Str)(i:Nat)(σ:L2.St)(H':Hp):Prop where
 ex:∃(as:List Addr) (st:List (List T)) (pc:Option V),σ=[some (.str z),some (.ref a),pc]∧pars st (ps.drop i)=some [ts]∧H' a=some (.lst (as.reverse.map V.ref))∧Lvs i H' as st∧a∉as∧(∀b∈as,b≠pl∧H b=none)∧st.length≤21
 li:H' pl=some (.lst (ps.map V.str))
 sm:Same H H'
theorem ok_ths (F:Fun K "things_of" "things_of" s_ths f fd)(ml:mg "len"=none)(mt:mg "tuple"=none)(hm:∃t,mg "MOST_SIGNS"=some (.int 6000 t))(h1:HasT P w K mg base 1 "pieces_of" ["text"] spPcs)(h2:Has P w K mg base 1 "begin_bracket" ["levels"] spBeg)
  (h3:Has P w K mg base 1 "end_bracket" ["levels"] spEnd) (h4:Has P w K mg base 6 "thing_of" ["piece"] spTho):FnOk P w K mg base CX0 7 f fd ["text"] spThs:=by
 refine F.ok sc_ths (fun cdv A outer s H vs Q E hr h=>?_)
 obtain⟨z,ts,rfl,hz,hp,hl,q⟩:=h
 obtain⟨t0,hm⟩:=hm
 refine⟨_,pss_fst (pt1_cmp op_gt (pe1_len rfl ml (pa_cons (pv 0) pa_nil)) (pe_glob (v:=.int 6000) rfl hm ⟨_,rfl⟩))
  (psst_cons (PS.t (pset 1 sc_ths.nd (pe_lst (pa_cons (pe_lst pa_nil) pa_nil))))
  (psst_cons (pst_for PassesOwn.never rfl (pit_list (pcallTk h1 hr (by decide) rfl (pa_cons (pv 0) pa_nil))) (pg_name (i:=2) sc_ths.nd rfl (Or.inl rfl))
   (pss_one (ps_if (pt_cmpR op_eq (pv 2) pe_str) (pss_one (ps_expr (pcall h2 hr (by decide) rfl (pa_cons (pv 1) pa_nil))))
    (pss_one (ps_if (pt_cmpR op_eq (pv 2) pe_str) (pss_one (ps_expr (pcall h3 hr (by decide) rfl (pa_cons (pv 1) pa_nil))))
     (pss_one (ps_expr (papp K (pe_ix (ixL K) (pv 1) (pe_un un_neg pe_int)) (pa_cons (pcall h4 hr (by decide) rfl (pa_cons (pv 2) pa_nil)) pa_nil)))))))))
  (PSs.t (pss_cons (ps_if (pt_cmpR op_gt (pe_callB (clen K) rfl ml PySem.boot_len (pa_cons (pv 1) pa_nil)) pe_int) pss_never pss_nil)
   (pss_one (ps_ret (pe_callTy (ctup K) rfl mt boot_tuple (pa_cons (pe_ix (ixL K) (pv 1) pe_int) pa_nil)))))))),?_⟩
 refine⟨_,rfl,z,rfl,small (by omega),_,_,rfl,rfl,_,rfl,?_⟩
 refine⟨decide_eq_false (by omega),?_⟩
 refine⟨small (by decide),fun b hb=>⟨small (by show 1≤1000000;decide),fun a ha=>?_⟩⟩
 have ab:a≠b:=fun e=>by rw[e,upd_same]at ha;cases ha
 have ha':H a=none:=by rw[upd_ne ab]at ha;exact ha
 have s1:Same H (upd (upd H b (.lst [])) a (.lst [.ref b])):=(same_new hb _).trans (same_new ha _)
 refine⟨_,rfl,z,rfl,hz,fun pl H1 e1 hpl hli=>⟨pl,rfl,⟨_,SqL.of hli⟩,?_⟩⟩
 have np:H pl=none:=by
  cases e:H pl with
  |none=>rfl
  |some o=>rw[s1 _ _ e]at hpl;cases hpl
 have apl:a≠pl:=fun e=>by rw[←e,upd_same]at hpl;cases hpl
 have bpl:b≠pl:=fun e=>by rw[←e,upd_ne ab.symm,upd_same]at hpl;cases hpl
 have psl:=piecesS_len z
 refine for_list (xs:=(piecesS z).map V.str) (Lp H a pl (piecesS z) ts z) ?_ ?_ ?_ ?_
 ·refine⟨⟨[b],[[]],none,rfl,hp,e1 _ _ (by rw[upd_same];rfl), .cons (e1 _ _ (by rw[upd_ne ab.symm,upd_same])) .nil (Nat.le_refl _) (by simp) .nil,by simpa using ab,fun c hc=>?_,(by show 1≤21;decide)⟩,hli,s1.trans e1⟩
  obtain rfl:c=b:=by simpa using hc
  exact⟨bpl,hb⟩
 ·rintro i σ H' hi ⟨_,li,_⟩
  exact SqL.of li
 ·rintro i x σ H' hx ⟨⟨as,st,pc,rfl,hps,hla,L,na,hfr,h21⟩,li,sm⟩
  rw[List.getElem?_map]at hx
  cases e:(piecesS z)[i]? with
  |none=>rw[e]at hx;cases hx
  |some p=>
  rw[e]at hx
  cases hx
  have hil:i<(piecesS z).length:=(List.getElem?_eq_some_iff.mp e).1
  have hlp:=hl p (List.mem_of_getElem? e)
  have hd:(piecesS z).drop i=p::(piecesS z).drop (i+1):=by
   rw[List.drop_eq_getElem_cons hil]
   congr 1
   exact(List.getElem?_eq_some_iff.mp e).2
  rw[hd]at hps
  unfold pars at hps
  cases hst:stepP st p with
  |none=>rw[hst]at hps;cases hps
  |some st'=>
  rw[hst]at hps
  have hps':pars st' ((piecesS z).drop (i+1))=some [ts]:=hps
  have apl':a≠pl:=apl
  have aH:∀o,H' a=some o→H a=none:=fun _ _=>ha'
  unfold stepP at hst
  refine⟨_,rfl,rfl,_,rfl,?_⟩
  cases c1:decide (V.str p=.str "(") with
  |true=>
   rw[c1,if_pos rfl]at hst
   by_cases hsl:st.length≤20
   ·rw[if_pos hsl]at hst
    cases hst
    refine iteT ⟨_,rfl,a,_,rfl,hla,by rw[List.length_map,List.length_reverse,L.len];exact hsl,fun n hn=>?_⟩
    have n1:n≠a:=fun e=>by rw[e,hla]at hn;cases hn
    have n2:n≠pl:=fun e=>by rw[e,li]at hn;cases hn
    have n3:n∉as:=fun hm=>by
     have:∀{as st},Lvs i H' as st→n∈as→False:=by
      intro as st L
      induction L with
      |nil=>intro h;cases h
      |cons h1 _ _ _ _ ih=>
       intro h
       rcases List.mem_cons.mp h with rfl|h
       ·rw[h1]at hn;cases hn
       ·exact ih h
     exact this L hm
    have hnH:H n=none:=by
     cases e:H n with
     |none=>rfl
     |some o=>rw[sm _ _ e]at hn;cases hn
    have keep:∀c o,c≠n→c≠a→H' c=o→upd (upd H' n (.lst [])) a (.lst (as.reverse.map V.ref++[.ref n])) c=o:=fun c o h1 h2 h=>by rw[upd_ne h2,upd_ne h1];exact h
    refine⟨⟨n::as,[]::st,_,rfl,hps',?_, .cons (by rw[upd_ne n1,upd_same]) .nil (Nat.zero_le _) n3 (L.keep (Nat.le_succ i) (fun c xs h=>keep c _ (fun e=>by rw[e,hn]at h;cases h) (fun e=>by rw[e,hla]at h;cases h) h) fun c hc=>keep c _ (fun e=>n3 (e ▸ hc)) (fun e=>na (e ▸ hc)) rfl),?_,fun c hc=>?_,(by show st.length+1≤21;omega)⟩,keep pl _ n2.symm apl'.symm li,fun c o h=>?_⟩
    ·rw[upd_same,List.reverse_cons,List.map_append];rfl
    ·intro hm
     rcases List.mem_cons.mp hm with h|h
     ·exact n1 h.symm
     ·exact na h
    ·rcases List.mem_cons.mp hc with rfl|h
     ·exact⟨n2,hnH⟩
     ·exact hfr c h
    ·exact keep c _ (fun e=>by rw[e,hnH]at h;cases h) (fun e=>by rw[e,ha']at h;cases h) (sm _ _ h)
   ·rw[if_neg hsl]at hst;cases hst
  |false=>
   rw[c1,if_neg Bool.false_ne_true]at hst
   refine iteF ⟨_,rfl,rfl,_,rfl,?_⟩
   cases c2:decide (V.str p=.str ")") with
   |true=>
    rw[c2,if_pos rfl]at hst
    cases L with
    |nil=>cases hst
    |@cons c as st us t1 hc ru lu nc L=>
    cases L with
    |nil=>cases hst
    |@cons b as st ws t2 hb' rw' lw nb L=>
    cases hst
    have e1:((c::b::as).reverse.map V.ref)=as.reverse.map V.ref++[.ref b]++[.ref c]:=by simp
    rw[e1]at hla
    have ac:a≠c:=fun e=>na (by rw[e];simp)
    have ab':a≠b:=fun e=>na (by rw[e];simp)
    have hll:=L.len
    simp only[List.length_cons]at h21
    refine iteT ⟨_,rfl,a,b,c,_,us,ws,rfl,hla,hb',hc,ab',ac,by rw[List.length_map,List.length_reverse];omega,by omega,fun n hn=>?_⟩
    have n1:n≠a:=fun e=>by rw[e,hla]at hn;cases hn
    have n2:n≠pl:=fun e=>by rw[e,li]at hn;cases hn
    have n3:n≠b:=fun e=>by rw[e,hb']at hn;cases hn
    have hnH:H n=none:=by
     cases e:H n with
     |none=>rfl
     |some o=>rw[sm _ _ e]at hn;cases hn
    have keep:∀d o,d≠n→d≠a→d≠b→H' d=o→upd (upd (upd H' a (.lst (as.reverse.map V.ref++[.ref b]))) n (.tup us)) b (.lst (ws++[.ref n])) d=o:=fun d o h1 h2 h3 h=>by rw[upd_ne h3,upd_ne h1,upd_ne h2];exact h
    have kt:∀d xs,H' d=some (.tup xs)→upd (upd (upd H' a (.lst (as.reverse.map V.ref++[.ref b]))) n (.tup us)) b (.lst (ws++[.ref n])) d=some (.tup xs):=fun d xs h=>keep d _ (fun e=>by rw[e,hn]at h;cases h) (fun e=>by rw[e,hla]at h;cases h) (fun e=>by rw[e,hb']at h;cases h) h
    have hfb:=hfr b (by simp)
    refine⟨⟨b::as,(t2++[.tup t1])::st,_,rfl,hps',?_, .cons upd_same ((rw'.mono kt).snoc (.tup (by rw[upd_ne n3,upd_same]) (ru.mono kt))) (by simp;omega) nb (L.keep (Nat.le_succ i) kt fun d hd=>?_),fun h=>na (List.mem_cons_of_mem _ h),fun d hd=>hfr d (List.mem_cons_of_mem _ hd),by simp;omega⟩,keep pl _ n2.symm apl'.symm hfb.1.symm li,fun d o h=>?_⟩
    ·rw[upd_ne ab',upd_ne n1.symm,upd_same,List.reverse_cons,List.map_append];rfl
    ·exact keep d _ (fun e=>by
      have:∀{as st},Lvs i H' as st→n∈as→False:=by
       intro as st L
       induction L with
       |nil=>intro h;cases h
       |cons h1 _ _ _ _ ih=>
        intro h
        rcases List.mem_cons.mp h with rfl|h
        ·rw[h1]at hn;cases hn
        ·exact ih h
      exact this L (e ▸ hd)) (fun e=>na (by rw[←e];simp[hd])) (fun e=>nb (e ▸ hd)) rfl
    ·exact keep d _ (fun e=>by rw[e,hnH]at h;cases h) (fun e=>by rw[e,ha']at h;cases h) (fun e=>by rw[e,hfb.2]at h;cases h) (sm _ _ h)
   |false=>
    rw[c2,if_neg Bool.false_ne_true]at hst
    cases ht:thingT p with
    |none=>rw[ht]at hst;cases hst
    |some t=>
    rw[ht]at hst
    cases L with
    |nil=>cases hst
    |@cons c as st us t1 hc ru lu nc L=>
    cases hst
    have e1:((c::as).reverse.map V.ref)=as.reverse.map V.ref++[.ref c]:=by simp
    have hla2:=hla
    rw[e1]at hla2
    have ac:a≠c:=fun e=>na (by rw[e];simp)
    refine iteF ⟨_,rfl,1,rfl,a,_,-1, .ref c,rfl,rfl,SqL.of hla2,atI_last _ _, .inl ⟨rfl,_,SqL.of hc⟩,?_⟩
    refine⟨_,rfl,p,t,rfl,hlp,ht,fun v H2 e2 rv=>?_⟩
    refine⟨c,us,v,rfl,rfl,e2 _ _ hc,small' (by omega),?_⟩
    have hfc:=hfr c (by simp)
    have kt:∀d xs,H' d=some (.tup xs)→upd H2 c (.lst (us++[v])) d=some (.tup xs):=fun d xs h=>by
     rw[upd_ne (fun e=>by rw[e,hc]at h;cases h)];exact e2 _ _ h
    have rv':Rep (upd H2 c (.lst (us++[v]))) v t:=rv.mono fun d xs h=>by
     rw[upd_ne (fun e=>by rw[e,e2 _ _ hc]at h;cases h)];exact h
    refine⟨⟨c::as,(t1++[t])::st,_,rfl,hps',by rw[upd_ne ac];exact e2 _ _ hla, .cons upd_same ((ru.mono kt).snoc rv') (by simp;omega) nc ?_,na,hfr,h21⟩,by rw[upd_ne hfc.1.symm];exact e2 _ _ li,fun d o h=>?_⟩
    ·have:∀{as st},c∉as→Lvs i H' as st→Lvs (i+1) (upd H2 c (.lst (us++[v]))) as st:=by
      intro as st hn L
      induction L with
      |nil=>exact .nil
      |cons h1 r hl nb L ih=>
       refine .cons ?_ (r.mono kt) (Nat.le_succ_of_le hl) nb (ih fun h=>hn (List.mem_cons_of_mem _ h))
       rw[upd_ne (fun e=>hn (by rw[←e];simp))]
       exact e2 _ _ h1
     exact this nc L
    ·rw[upd_ne (fun e=>by rw[e,hfc.2]at h;cases h)]
     exact e2 _ _ (sm _ _ h)
 ·rintro σ H' ⟨⟨as,st,pc,rfl,hps,hla,L,na,hfr,h21⟩,li,sm⟩
  rw[List.length_map,List.drop_length]at hps
  cases hps
  cases L with
  |@cons c as st us t1 hc ru lu nc L=>
  cases L
  refine⟨_,rfl,a,_,rfl, .inl (SqL.of hla),_,_,rfl,rfl,_,rfl,?_⟩
  refine iteF ⟨_,rfl,a,_,0, .ref c,rfl,rfl,SqL.of hla,rfl,c,us,rfl, .inl ⟨SqL.of hc,fun l hl=>?_⟩⟩
  exact q _ _ (sm.trans (same_new hl _)) (.tup upd_same (ru.same (same_new hl _)))
end
def pcT:T→Str
 |.int i=>Str.ofString (toString i)
 |.str z=>z
 |.tup _=>""
def Clean (l:List Nat):Prop:=∀c∈l,c≠32∧c≠10∧c≠40∧c≠41
structure AtomOk (t:T):Prop where
 nt:∀l,t≠.tup l
 th:thingT (pcT t)=some t
 cl:Clean (pcT t).cps.toList
 lo:1≤(pcT t).length
 hi:(pcT t).length≤31
 lg:∀i,t=.int i→i.natAbs.log2<1920
mutual
def pcs:T→List Str
 |.int i=>[pcT (.int i)]
 |.str z=>[z]
 |.tup l=>("(":Str)::(pcss l++[(")":Str)])
def pcss:List T→List Str
 |[]=>[]
 |t::r=>pcs t++pcss r
end
inductive Tr:Nat→T→Prop where
 |at {n:Nat} {t:T}:AtomOk t→Tr n t
 |tp {n:Nat} {l:List T}:(∀t∈l,Tr n t)→Tr (n+1) (.tup l)
theorem Tr.mono {n:Nat}{t:T}(h:Tr n t):∀{m:Nat},n≤m→Tr m t:=by
 induction h with
 |«at» a=>intro m _;exact .at a
 |tp _ ih=>
  intro m hm
  obtain⟨k,rfl⟩:∃k,m=k+1:=⟨m-1,by omega⟩
  exact .tp fun t ht=>ih t ht (by omega)
theorem pcs_at {t:T}(h:AtomOk t):pcs t=[pcT t]:=by
 cases t with
 |int i=>simp[pcs]
 |str z=>simp[pcs,pcT]
 |tup l=>exact absurd rfl (h.nt l)
theorem lb_cps:("(":Str).cps.toList=[40]:=by decide+kernel
theorem rb_cps:(")":Str).cps.toList=[41]:=by decide+kernel
theorem clean_ne {p:Str}(h:Clean p.cps.toList):decide (V.str p=.str "(")=false∧decide (V.str p=.str ")")=false:=by
 refine⟨decide_eq_false fun e=>?_,decide_eq_false fun e=>?_⟩
 ·have:=V.str.inj e
  rw[this,lb_cps]at h
  exact(h 40 (by simp)).2.2.1 rfl
 ·have:=V.str.inj e
  rw[this,rb_cps]at h
  exact(h 41 (by simp)).2.2.2 rfl
theorem pars_tr {n:Nat}{t:T}(h:Tr n t):∀(a:List T) (r:List (List T)) (rest:List Str),r.length+n≤20→pars (a::r) (pcs t++rest)=pars ((a++[t])::r) rest:=by
 induction h with
 |«at» A=>
  intro a r rest _
  rw[pcs_at A]
  show(stepP (a::r) _).bind _=_
  obtain⟨c1,c2⟩:=clean_ne A.cl
  unfold stepP
  rw[c1,c2,if_neg Bool.false_ne_true,if_neg Bool.false_ne_true,A.th]
  rfl
 |@tp n l _ ih=>
  intro a r rest hn
  have all:∀(l':List T),(∀t∈l',t∈l)→∀(b:List T) (rest:List Str),pars (b::a::r) (pcss l'++rest)=pars ((b++l')::a::r) rest:=by
   intro l'
   induction l' with
   |nil=>intro _ b rest;simp[pcss]
   |cons t l' ih2=>
    intro hl b rest
    rw[pcss,List.append_assoc,ih t (hl t (by simp)) b (a::r) _ (by simp;omega),ih2 (fun t ht=>hl t (List.mem_cons_of_mem _ ht)) (b++[t]) rest,List.append_assoc]
    rfl
  rw[pcs]
  show(stepP (a::r) "(").bind (fun st'=>pars st' ((pcss l++[(")":Str)])++rest))=_
  have e1:stepP (a::r) "("=some ([]::a::r):=by
   unfold stepP
   rw[decide_eq_true rfl,if_pos rfl,if_pos (by simp;omega)]
  rw[e1]
  show pars ([]::a::r) ((pcss l++[(")":Str)])++rest)=_
  rw[List.append_assoc,all l (fun t ht=>ht) [] _]
  show(stepP (([]++l)::a::r) ")").bind (fun st'=>pars st' rest)=_
  have e2:stepP (([]++l)::a::r) ")"=some ((a++[.tup l])::r):=by
   unfold stepP
   rw[decide_eq_false (show ¬V.str ")"=V.str "(" by decide+kernel),if_neg Bool.false_ne_true,decide_eq_true rfl,if_pos rfl]
   rfl
  rw[e2]
  rfl
theorem pars_all {l:List T}(h:∀t∈l,Tr 20 t):pars [[]] (pcss l)=some [l]:=by
 have all:∀(l':List T),(∀t∈l',Tr 20 t)→∀(b:List T),pars [b] (pcss l')=some [b++l']:=by
  intro l'
  induction l' with
  |nil=>intro _ b;simp[pcss,pars]
  |cons t l' ih=>
   intro hl b
   rw[pcss,pars_tr (hl t (by simp)) b [] _ (by simp),ih (fun t ht=>hl t (List.mem_cons_of_mem _ ht)) (b++[t]),List.append_assoc]
   rfl
 exact all l h []
def wt (p:Str):Nat:=p.length+3
def wts (ps:List Str):Nat:=(ps.map wt).sum
theorem wts_app (a b:List Str):wts (a++b)=wts a+wts b:=by unfold wts;rw[List.map_append,List.sum_append]
theorem wts_cons (p:Str)(b:List Str):wts (p::b)=wt p+wts b:=rfl
theorem wts_nil:wts []=0:=rfl
theorem wt_lb:wt "("=4:=by decide+kernel
theorem wt_rb:wt ")"=4:=by decide+kernel
theorem wts_at {t:T}(h:AtomOk t):wts (pcs t)≤34:=by
 rw[pcs_at h,wts_cons,wts_nil]
 have:=h.hi
 unfold wt
 omega
theorem wts_tup (l:List T):wts (pcs (.tup l))=8+wts (pcss l):=by
 rw[pcs,wts_cons,wts_app,wts_cons,wts_nil,wt_lb,wt_rb]
 omega
theorem pcss_app (a b:List T):pcss (a++b)=pcss a++pcss b:=by
 induction a with
 |nil=>rfl
 |cons t a ih=>rw[List.cons_append,pcss,pcss,ih,List.append_assoc]
theorem pcss_one (t:T):pcss [t]=pcs t:=by rw[pcss,pcss,List.append_nil]
def wordsL (l:List Nat):List (List Nat):=(splL 32 l).filter (fun p=>!p.isEmpty)
theorem splL_cons (c a:Nat)(l:List Nat):splL c (a::l)=if a=c then[]::splL c l else match splL c l with
  |p::ps=>(a::p)::ps
  |[]=>[[a]]:=by
 rw[splL]<;>(split<;>first|rfl|(cases splL c l<;>rfl))
theorem splL_app2 (c:Nat)(r:List Nat):∀l,splL c (l++c::r)=splL c l++splL c r
 |[]=>by simp[splL]
 |a::l=>by
  have ih:=splL_app2 c r l
  rw[List.cons_append,splL_cons,splL_cons]
  by_cases h:a=c
  ·rw[if_pos h,if_pos h,ih];rfl
  ·rw[if_neg h,if_neg h,ih]
   cases e:splL c l with
   |nil=>exact absurd e (splL_ne c l)
   |cons p ps=>rfl
theorem words_app (l r:List Nat):wordsL (l++32::r)=wordsL l++wordsL r:=by
 unfold wordsL
 rw[splL_app2,List.filter_append]
theorem words_nil:wordsL []=[]:=rfl
theorem words_one {p:List Nat}(h:32∉p)(hn:p≠[]):wordsL p=[p]:=by
 unfold wordsL
 rw[splL_free h]
 cases p with
 |nil=>exact absurd rfl hn
 |cons a r=>rfl
theorem words_blank (r:List Nat):wordsL (32::r)=wordsL r:=words_app [] r
def fC (c:Nat):List Nat:=if c=10 then[32] else if c=40 then[32,40,32] else if c=41 then[32,41,32] else[c]
theorem spaced_is (l:List Nat):spacedL l=l.flatMap fC:=by
 unfold spacedL repL
 rw[List.flatMap_assoc,List.flatMap_assoc]
 congr 1
 funext c
 unfold fC
 by_cases h1:c=10
 ·subst h1;rfl
 ·by_cases h2:c=40
  ·subst h2;rfl
  ·by_cases h3:c=41
   ·subst h3;rfl
   ·simp[h1,h2,h3]
theorem clean_flat {p:List Nat}(h:Clean p):p.flatMap fC=p:=by
 induction p with
 |nil=>rfl
 |cons a r ih=>
  rw[List.flatMap_cons,ih fun c hc=>h c (List.mem_cons_of_mem _ hc)]
  have ha:=h a (by simp)
  unfold fC
  rw[if_neg ha.2.1,if_neg ha.2.2.1,if_neg ha.2.2.2]
  rfl
def Opn (l:List Nat)(ps:List (List Nat)):Prop:=∀r,wordsL (l.flatMap fC++32::r)=ps++wordsL r
def Cls (l:List Nat)(ps:List (List Nat)):Prop:=∀r,wordsL (l.flatMap fC++r)=ps++wordsL r
theorem Cls.opn {l:List Nat}{ps:List (List Nat)}(h:Cls l ps):Opn l ps:=fun r=>by rw[h,words_blank]
theorem cls_nil:Cls [] []:=fun r=>rfl
def GapL (g:List Nat):Prop:=∀c∈g,c=32∨c=10
theorem gap_flat {g:List Nat}(h:GapL g):g.flatMap fC=List.replicate g.length 32:=by
 induction g with
 |nil=>rfl
 |cons a r ih=>
  rw[List.flatMap_cons,ih fun c hc=>h c (List.mem_cons_of_mem _ hc)]
  rcases h a (by simp) with rfl|rfl<;>rfl
theorem words_rep (n:Nat)(r:List Nat):wordsL (List.replicate n 32++r)=wordsL r:=by
 induction n with
 |zero=>rfl
 |succ n ih=>rw[List.replicate_succ,List.cons_append,words_blank,ih]
theorem Cls.gap {l g:List Nat}{ps:List (List Nat)}(h:Cls l ps)(hg:GapL g):Cls (l++g) ps:=fun r=>by
 rw[List.flatMap_append,List.append_assoc,h,gap_flat hg,words_rep]
theorem Opn.gap1 {l g:List Nat}{ps:List (List Nat)}(h:Opn l ps)(hg:GapL g)(h1:1≤g.length):Cls (l++g) ps:=fun r=>by
 rw[List.flatMap_append,List.append_assoc,gap_flat hg]
 obtain⟨k,hk⟩:∃k,g.length=k+1:=⟨g.length-1,by omega⟩
 rw[hk,List.replicate_succ,List.cons_append,h,words_rep]
theorem Opn.gap {l g:List Nat}{ps:List (List Nat)}(h:Opn l ps)(hg:GapL g):Opn (l++g) ps:=by
 cases g with
 |nil=>rw[List.append_nil];exact h
 |cons a r=>exact(h.gap1 hg (by simp)).opn
theorem Opn.lb {l:List Nat}{ps:List (List Nat)}(h:Opn l ps):Cls (l++[40]) (ps++[[40]]):=fun r=>by
 rw[List.flatMap_append,List.append_assoc]
 show wordsL (l.flatMap fC++32::([40]++32::r))=_
 rw[h,words_app,words_one (by decide) (by decide),List.append_assoc]
theorem Opn.rb {l:List Nat}{ps:List (List Nat)}(h:Opn l ps):Cls (l++[41]) (ps++[[41]]):=fun r=>by
 rw[List.flatMap_append,List.append_assoc]
 show wordsL (l.flatMap fC++32::([41]++32::r))=_
 rw[h,words_app,words_one (by decide) (by decide),List.append_assoc]
theorem Cls.word {l p:List Nat}{ps:List (List Nat)}(h:Cls l ps)(hp:Clean p)(hn:p≠[]):Opn (l++p) (ps++[p]):=fun r=>by
 rw[List.flatMap_append,List.append_assoc,clean_flat hp,h,words_app,words_one (fun hm=>(hp 32 hm).1 rfl) hn,List.append_assoc]
theorem Opn.end {l:List Nat}{ps:List (List Nat)}(h:Opn l ps):piecesL l=ps:=by
 have h1:=h []
 rw[words_app,words_nil,List.append_nil,List.append_nil]at h1
 unfold piecesL
 rw[spaced_is]
 exact h1
theorem pieces_of_opn {z:Str}{ps:List Str}(h:Opn z.cps.toList (ps.map (·.cps.toList))):piecesS z=ps:=by
 have h1:=h.end
 have inj:∀{a b:List Str},a.map (·.cps.toList)=b.map (·.cps.toList)→a=b:=by
  intro a
  induction a with
  |nil=>intro b e;cases b with|nil=>rfl|cons x b=>cases e
  |cons x a ih=>
   intro b e
   cases b with
   |nil=>cases e
   |cons y b=>
    simp only[List.map_cons,List.cons.injEq]at e
    rw[str_ext e.1,ih e.2]
 refine inj ?_
 rw[←h1]
 unfold piecesS piecesL
 rw[←sp3_cps,←split_eq,show(" ":Str)=⟨#[32]⟩ by decide+kernel,List.filter_map]
 congr 1
 refine List.filter_congr fun p _=>?_
 show(!decide (V.str p=.str ""))= !(p.cps.toList.isEmpty)
 congr 1
 cases e:p.cps.toList.isEmpty with
 |true=>
  have:p="":=str_ext (by rw[List.isEmpty_iff.mp e];decide+kernel)
  exact decide_eq_true (by rw[this])
 |false=>
  refine decide_eq_false fun z=>?_
  have:=V.str.inj z
  rw[this]at e
  exact absurd e (by decide+kernel)
theorem nt_no {z:Str}{c:Nat}{r:List Nat}(e:z.cps.toList=c::r)(h1:c≠45)(h2:inS figS c=false):ntB z=false:=by
 have f:figs z=z:=by unfold figs;rw[e];simp[h1]
 unfold ntB
 rw[f]
 have:allS z figS=false:=by
  unfold allS
  rw[e,List.all_cons,h2]
  rfl
 rw[this]
 simp
theorem not_fig {c:Nat}(h:57<c):inS figS c=false:=by
 refine decide_eq_false fun hm=>?_
 have:∀d∈figS.cps.toList,d≤57:=by decide+kernel
 exact absurd (this c hm) (by omega)
theorem word_ok {z:Str}{c:Nat}{r:List Nat}(e:z.cps.toList=c::r)(h1:57<c)(hw:wordB z=true)(hl:z.length≤31)(hc:∀d∈z.cps.toList,46≤d):AtomOk (.str z) where
 nt:=fun l h=>by cases h
 th:=by
  show thingT z=_
  unfold thingT
  rw[nt_no e (by omega) (not_fig h1),hw,if_neg Bool.false_ne_true,if_pos rfl]
 cl:=fun d hd=>by
  have:=hc d hd
  exact⟨by omega,by omega,by omega,by omega⟩
 lo:=by
  show 1≤z.length
  rw[←len_toList,e]
  simp
 hi:=hl
 lg:=fun i h=>nomatch h
theorem small_ok {z:Str}(h:smallB z=true):AtomOk (.str z):=by
 have h':=h
 unfold smallB okLen at h'
 simp only[Bool.and_eq_true,decide_eq_true_eq]at h'
 obtain⟨⟨h1,h2⟩,h3⟩:=h'
 have hc:∀d∈z.cps.toList,97≤d∧d≤122:=fun d hd=>small_range (List.all_eq_true.mp h3 d hd)
 cases e:z.cps.toList with
 |nil=>rw[←len_toList,e]at h1;simp at h1
 |cons c r=>
  have:=hc c (by rw[e];simp)
  exact word_ok e (by omega) (by unfold wordB;rw[h];rfl) (by omega) fun d hd=>by have:=hc d hd;omega
theorem name_ok {z:Str}(h:nameB z=true):AtomOk (.str z):=by
 unfold nameB at h
 simp only[Bool.and_eq_true]at h
 exact small_ok h.1
theorem kept_ok {z:Str}(h:z∈keptL):AtomOk (.str z):=small_ok ((show ∀k∈keptL,smallB k=true by decide+kernel) z h)
theorem great_ok {z:Str}(h:greatB z=true):AtomOk (.str z):=by
 obtain⟨c,r,e,h1,h2,h3,h4⟩:=great_parts h
 refine word_ok e (by omega) (by unfold wordB;rw[h];simp) (by rw[←len_toList,e];simp;omega) fun d hd=>?_
 rw[e]at hd
 rcases List.mem_cons.mp hd with rfl|hd
 ·omega
 ·have:=h3 d hd;omega
theorem pathB_ok {z:Str}(h:pathB z=true):AtomOk (.str z):=by
 have h':=h
 unfold pathB at h'
 have hj:=split_eq z 46
 split at h'
 ·rename_i a b hs
  simp only[Bool.and_eq_true]at h'
  obtain⟨c,r,e,h1,h2,h3,h4⟩:=great_parts h'.1
  obtain⟨n,hl,n1,n8,_⟩:=name_let h'.2
  have e':a=c::r:=e
  have hz:z.cps.toList=joinL [46] [a,b]:=by
   have:=joinL_splL 46 [46] z.cps.toList
   rw[hs]at this
   rw[this]
   unfold repL
   have:∀l:List Nat,(l.flatMap fun a=>if a=46 then[46] else[a])=l:=by
    intro l
    induction l with
    |nil=>rfl
    |cons x l ih=>
     rw[List.flatMap_cons,ih]
     split
     ·rename_i hx;rw[hx];rfl
     ·rfl
   exact(this _).symm
  have hz':z.cps.toList=c::(r++46::b):=by rw[hz,e'];show c::r++[46]++b=_;simp
  have bl:b.length≤8:=by
   have:=hl.len
   rw[←len_toList]at this
   have e3:(⟨b.toArray⟩:Str).cps.toList=b:=rfl
   rw[e3]at this
   omega
  refine word_ok hz' (by omega) (by unfold wordB;rw[h];simp) (by rw[←len_toList,hz'];simp;omega) fun d hd=>?_
  rw[hz']at hd
  rcases List.mem_cons.mp hd with rfl|hd
  ·omega
  ·rcases List.mem_append.mp hd with hd|hd
   ·have:=h3 d hd;omega
   ·rcases List.mem_cons.mp hd with rfl|hd
    ·omega
    ·have:=hl.mem (show d∈(⟨b.toArray⟩:Str).cps.toList from hd);omega
 ·cases h'
theorem var_ok {z:Str}(h:varB z=true):AtomOk (.str z):=by
 have h':=h
 unfold varB smallB okLen at h'
 simp only[Bool.and_eq_true,decide_eq_true_eq]at h'
 obtain⟨h1,⟨h2,h3⟩,h4⟩:=h'
 cases e:z.cps.toList with
 |nil=>rw[e]at h1;cases h1
 |cons c r=>
  rw[e]at h1
  cases h1
  have er:(restS z).cps.toList=r:=by unfold restS;rw[e];rfl
  have hr:∀d∈r,97≤d∧d≤122:=fun d hd=>small_range (List.all_eq_true.mp h4 d (by rw[er];exact hd))
  refine word_ok e (by decide) (by unfold wordB;rw[h];simp) ?_ fun d hd=>?_
  ·rw[←len_toList,e]
   rw[←len_toList,er]at h3
   simp
   omega
  ·rw[e]at hd
   rcases List.mem_cons.mp hd with rfl|hd
   ·decide
   ·have:=hr d hd;omega
theorem arrow_ok:AtomOk (.str "->") where
 nt:=fun l h=>by cases h
 th:=by
  show thingT "->"=_
  unfold thingT
  rw[show ntB "->"=false by decide+kernel,show wordB "->"=true by decide+kernel]
  rfl
 cl:=by
  show Clean ("->":Str).cps.toList
  rw[show("->":Str).cps.toList=[45,62] by decide+kernel]
  intro c hc
  simp at hc
  rcases hc with rfl|rfl<;>decide
 lo:=by decide+kernel
 hi:=by decide+kernel
 lg:=fun i h=>nomatch h
theorem fig_in {c:Nat}(h1:48≤c)(h2:c≤57):inS figS c=true:=by
 have:∀d:Nat,d<58→48≤d→inS figS d=true:=by decide+kernel
 exact this c (by omega) h1
theorem digs (m:Nat):(∀c∈(Nat.toDigits 10 m).map Char.toNat,48≤c∧c≤57):=by
 intro c hc
 obtain⟨ch,hch,e⟩:=List.mem_map.mp hc
 rw[←e]
 exact digit_range (Nat.isDigit_of_mem_toDigits (by decide) (by decide) hch)
theorem digs_first {m:Nat}(h:1≤m):∃c r,(Nat.toDigits 10 m).map Char.toNat=c::r∧c≠48:=by
 induction m using Nat.strongRecOn with
 |_ m ih=>
  by_cases hm:m<10
  ·rw[Nat.toDigits_of_lt_base hm]
   refine⟨(Nat.digitChar m).toNat,[],rfl,?_⟩
   have:∀d:Nat,d<10→1≤d→(Nat.digitChar d).toNat≠48:=by decide
   exact this m hm h
  ·have hm':m%10<10:=Nat.mod_lt m (by decide)
   have t:Nat.toDigits 10 (m / 10)++Nat.toDigits 10 (m%10)=Nat.toDigits 10 (10*(m / 10)+m%10):=Nat.toDigits_append_toDigits (by decide) (by omega) hm'
   rw[Nat.div_add_mod]at t
   obtain⟨c,r,e,hc⟩:=ih (m / 10) (by omega) (by omega)
   exact⟨c,r++(Nat.toDigits 10 (m%10)).map Char.toNat,by rw[←t,List.map_append,e];rfl,hc⟩
theorem digs_len {m:Nat}(h:m<10^30):((Nat.toDigits 10 m).map Char.toNat).length≤30:=by
 have:=(Nat.length_repr_le_iff (n:=m) (k:=30) (by decide)).mpr h
 rw[List.length_map]
 have e:(Nat.repr m).length=(Nat.toDigits 10 m).length:=by rw[←String.length_toList,Nat.toList_repr]
 omega
theorem digs_ne (m:Nat):(Nat.toDigits 10 m).map Char.toNat≠[]:=by
 intro e
 have h:=toDigits_len_ge 10 m
 rw[List.map_eq_nil_iff.mp e]at h
 exact absurd h (by decide)
theorem num_ok {z:Str}{i:Int}{m:Nat}(hm:m<10^30)(h:(z.cps.toList=(Nat.toDigits 10 m).map Char.toNat∧i=m)∨(z.cps.toList=45::(Nat.toDigits 10 m).map Char.toNat∧i= -(m:Int)∧1≤m)):
  thingT z=some (.int i)∧Clean z.cps.toList∧1≤z.length∧z.length≤31:=by
 have hd:=digs m
 have hl:=digs_len hm
 have hne:=digs_ne m
 have al:∀{y:Str},y.cps.toList=(Nat.toDigits 10 m).map Char.toNat→allS y figS=true:=fun{y} e=>by
  unfold allS
  rw[e]
  exact List.all_eq_true.mpr fun c hc=>fig_in (hd c hc).1 (hd c hc).2
 have lpos:1≤((Nat.toDigits 10 m).map Char.toNat).length:=List.length_pos_iff.mpr hne
 have fst:∀{y:Str},y.cps.toList=(Nat.toDigits 10 m).map Char.toNat→1≤m→decide (V.str ⟨#[y.cps.toList.getD 0 0]⟩=.str "0")=false:=fun{y} e h1=>by
  obtain⟨c,r,e2,hc⟩:=digs_first h1
  rw[e,e2]
  refine decide_eq_false fun q=>?_
  have q2:(⟨#[c]⟩:Str)="0":=V.str.inj q
  rw[show("0":Str)=⟨#[48]⟩ by decide+kernel]at q2
  injection q2 with q3
  simp at q3
  exact hc q3
 rcases h with ⟨e,rfl⟩|⟨e,rfl,h1⟩
 ·have zl:z.length=((Nat.toDigits 10 m).map Char.toNat).length:=by rw[←len_toList,e]
  have f:figs z=z:=by
   unfold figs
   refine if_neg fun q=>?_
   rw[e]at q
   cases e2:(Nat.toDigits 10 m).map Char.toNat with
   |nil=>exact hne e2
   |cons c r=>
    rw[e2]at q hd
    cases q
    exact absurd (hd 45 (by simp)).1 (by decide)
  have nt:ntB z=true:=by
   unfold ntB
   rw[f,al e,decide_eq_true (show 1≤z.length by omega),decide_eq_true (show z.length≤30 by omega)]
   by_cases h0:m=0
   ·have:z="0":=str_ext (by rw[e,h0];decide+kernel)
    rw[decide_eq_true (show V.str z=.str "0" by rw[this])]
    rfl
   ·rw[fst e (by omega)]
    simp
  refine⟨?_,fun c hc=>?_,by omega,by omega⟩
  ·unfold thingT
   rw[nt,if_pos rfl,intText_digits (by rw[e];exact hd) (by rw[e];exact hne) (by omega),e,PySem.W.KIN.val_back]
   rfl
  ·rw[e]at hc
   have:=hd c hc
   exact⟨by omega,by omega,by omega,by omega⟩
 ·have zl:z.length=((Nat.toDigits 10 m).map Char.toNat).length+1:=by rw[←len_toList,e];rfl
  have f:figs z=restS z:=by
   unfold figs
   exact if_pos (by rw[e];rfl)
  have er:(restS z).cps.toList=(Nat.toDigits 10 m).map Char.toNat:=by unfold restS;rw[e];rfl
  have rl:(restS z).length=((Nat.toDigits 10 m).map Char.toNat).length:=by rw[←len_toList,er]
  have nt:ntB z=true:=by
   unfold ntB
   rw[f,al er,decide_eq_true (show 1≤(restS z).length by omega),decide_eq_true (show(restS z).length≤30 by omega),fst er h1]
   simp
  refine⟨?_,fun c hc=>?_,by omega,by omega⟩
  ·unfold thingT
   rw[nt,if_pos rfl,intText_neg e hd hne (by omega),PySem.W.KIN.val_back]
   rfl
  ·rw[e]at hc
   rcases List.mem_cons.mp hc with rfl|hc
   ·decide
   ·have:=hd c hc
    exact⟨by omega,by omega,by omega,by omega⟩
theorem int_ok {i:Int}(h1: -(10^30)<i)(h2:i<10^30):AtomOk (.int i):=by
 have key:thingT (Str.ofString (toString i))=some (.int i)∧Clean (Str.ofString (toString i)).cps.toList∧1≤(Str.ofString (toString i)).length∧(Str.ofString (toString i)).length≤31:=by
  cases i with
  |ofNat m=>exact num_ok (m:=m) (by have h3:(m:Int)<10^30:=h2;omega) (.inl ⟨PySem.W.KIN.signs_num m,rfl⟩)
  |negSucc m=>
   refine num_ok (m:=m+1) (by omega) (.inr ⟨?_,by omega,by omega⟩)
   rw[signs_ofString]
   show("-"++Nat.repr (m+1)).toList.map Char.toNat=_
   rw[String.toList_append,List.map_append,Nat.toList_repr]
   rfl
 have lg:i.natAbs.log2<1920:=by
  by_cases h0:i.natAbs=0
  ·rw[h0];decide
  ·exact Nat.lt_trans ((Nat.log2_lt h0 (k:=100)).mpr (by omega)) (by decide)
 exact⟨(fun l h=>nomatch h),key.1,key.2.1,key.2.2.1,key.2.2.2,fun j e=>by cases e;exact lg⟩
end Fw
namespace L2
open PySem PySem.Spec PyProof.Rows
theorem ps_lcompM {X:Cx}{elt iter tg:Expr}{M:List Str}{g gy:TG}{y:Str}{py pos pos0:Pos}{ifs:List Expr}{scope:Scope}{frees:List Str}{idx:List Nat}{wi:TI}{tt:TT}{te:TE}
  (hc:X.calm=true) (S:CompScopeM X frees idx scope) (hfl:∀y∈frees,scope.names.lookup y=some .free) (hi:PI X tg iter wi) (hgy:PG X (.Name y py) gy) (hg:∀C s₀ H₀ ex,PG (cxComp X (M++frees) scope C s₀ H₀ ex) tg g)
  (ht:∀C s₀ H₀ ex,PTs (cxComp X (M++frees) scope C s₀ H₀ ex) ifs tt) (he:∀C s₀ H₀ ex,PE (cxComp X (M++frees) scope C s₀ H₀ ex) elt te)
  (hsw:swapsWith (.ListComp elt [⟨tg,iter,ifs,0⟩] scope pos) (some (.Name y py)) pos0.line X.env=pure true)
  (hs:∀v,foldedSetIterable iter X.env v=pure v:=by intro _;rfl):PS X (.Assign [.Name y py] (.ListComp elt [⟨tg,iter,ifs,0⟩] scope pos) pos0) (tAsg (tCompM M.length idx wi g tt te) gy):=by
 intro pins s σ H D I h
 rw[exec_Assign_Name_used _ _ _ _ hsw]
 refine wpAny_bind (wpAny_standAt ?_)
 refine wpAny_bind ?_
 show wpAny _ _ (comprehension (.ListComp elt [⟨tg,iter,ifs,0⟩] scope pos) scope X.env _ (newList []) _ _ (some (assign (.Name y py) X.env))>>=fun _=>pure ()) _ _ s
 refine wpAny_bind (wpAny_mono (Q:=fun _ s'=>∃σ' H',Inv X pins σ' H' s'∧D.nx σ' H') ?_ (fun _ s' h'=>wpAny_pure (wpAny_pure h')) fun _ _ h'=>h')
 refine comp_core (M:=M) (g:=g) (XE:=noX) (use:=some (assign (.Name y py) X.env)) (Q':=fun _ s'=>∃σ' H',Inv X pins σ' H' s'∧D.nx σ' H') (qt:=Calm) (fun _ _ _ _=>hc) S hfl hi (fun C s₀ H₀ ex=>by rw[cxE_no];exact hg C s₀ H₀ ex) (fun C s₀ H₀ ex=>by rw[cxE_no];exact ht C s₀ H₀ ex) (fun C s₀ H₀ ex=>by rw[cxE_no];exact he C s₀ H₀ ex) hs I h (fun _ _ _ _ _ _ _ _ _ _ _ (z:False)=>z.elim) fun Dd C H' m4 s4 hn4 hJ HC nC nfC szC celC pinC q=>?_
 show wpAny _ _ (assign (.Name y py) X.env (.ref Dd)) _ _ s4
 have I5:=hJ s4.heap ⟨rfl,fun _ _=>rfl⟩
 obtain⟨oC,es,ep,gC,rC⟩:=id hn4
 have IPn:Inv X (pins++[(C,oC)]) σ H' s4:=I5.pins_of fun p hp=>(List.mem_append.mp hp).elim (fun z=>I5.pin p (List.mem_append_right _ z)) fun z=>by
  have z':p=(C,oC):=by simpa using z
  subst z'
  exact⟨gC,HC,nC,nfC,fun v q=>by have q2:oC.data=.cell v:=q;have q3:=rC.1;rw[q2]at q3;cases q3⟩
 refine thn (hgy _ s4 σ _ (.ref Dd) _ _ IPn rfl q) fun _ s6 ⟨σ6,H6,I6,q6⟩=>?_
 have pC:=I6.pin (C,oC) (List.mem_append_right _ (List.mem_append_right _ (List.mem_singleton.mpr rfl)))
 exact⟨m4,hn4.at' (fun o e=>by rw[gC]at e;cases e;exact pC.1),fun h'' sb=>⟨σ6,H6,I6.unpinned.turned (t':=s6.toks) (fun b o hb e=>(sb.2 b hb).trans e) pC.2.1 nC (.inr szC) celC pinC,q6⟩⟩
theorem ps_lcomp {X:Cx}{elt iter:Expr}{x y:Str}{px py pos pos0:Pos}{ifs:List Expr}{scope:Scope}{frees:List Str}{idx:List Nat}{wi:TI}{tt:TT}{te:TE}{g:TG}
  (hc:X.calm=true) (S:CompScope X x frees idx scope) (hfl:∀y∈frees,scope.names.lookup y=some .free) (hi:PI X (.Name x px) iter wi) (hgy:PG X (.Name y py) g)
  (ht:∀C s₀ H₀ ex,PTs (cxComp X (x::frees) scope C s₀ H₀ ex) ifs tt) (he:∀C s₀ H₀ ex,PE (cxComp X (x::frees) scope C s₀ H₀ ex) elt te)
  (hsw:swapsWith (.ListComp elt [⟨.Name x px,iter,ifs,0⟩] scope pos) (some (.Name y py)) pos0.line X.env=pure true)
  (hs:∀v,foldedSetIterable iter X.env v=pure v:=by intro _;rfl):PS X (.Assign [.Name y py] (.ListComp elt [⟨.Name x px,iter,ifs,0⟩] scope pos) pos0) (tAsg (tComp idx wi tt te) g):=by
 have h:=ps_lcompM (M:=[x]) (g:=gName 0) hc ⟨S.kind,S.nocell,S.loc,S.fr,S.ix,S.len,S.cl⟩ hfl hi hgy (fun C s₀ H₀ ex=>pg_name (i:=0) S.nd rfl (.inl (lookup_relabel_local S.tgt)) (.inr (lookup_relabel_local S.tgt))) ht he hsw hs
 exact tComp_M ▸ h
theorem ps_lc {X:Cx}{elt iter:Expr}{x y:Str}{px py pos pos0:Pos}{ifs:List Expr}{scope:Scope}{wi:TI}{tt:TT}{te:TE}{g:TG}(osc:Scope)(N:List Str)(frees:List Str)(idx:List Nat)
  (hk:compOk osc N x frees idx scope=true) (hi:PI X (.Name x px) iter wi) (hgy:PG X (.Name y py) g)
  (ht:∀C s₀ H₀ ex,PTs (cxComp X (x::frees) scope C s₀ H₀ ex) ifs tt) (he:∀C s₀ H₀ ex,PE (cxComp X (x::frees) scope C s₀ H₀ ex) elt te)
  (hsw:swapsWith (.ListComp elt [⟨.Name x px,iter,ifs,0⟩] scope pos) (some (.Name y py)) pos0.line X.env=pure true)
  (ho:X.env.scope=osc:=by rfl) (hN:X.N=N:=by rfl) (hc:X.calm=true:=by rfl) (hs:∀v,foldedSetIterable iter X.env v=pure v:=by intro _;rfl):
  PS X (.Assign [.Name y py] (.ListComp elt [⟨.Name x px,iter,ifs,0⟩] scope pos) pos0) (tAsg (tComp idx wi tt te) g):=by
 obtain⟨S,fl⟩:=compOk_scope (X:=X) hk ho hN
 exact ps_lcomp hc S fl hi hgy ht he hsw hs
end L2
namespace Fw
open PySem PySem.Spec PyProof.Rows L2
theorem big {n:Nat}(h:n≤16000000):n≤sizeLine:=Nat.le_trans h (by decide)
theorem pcss_snoc (l:List T)(t:T):pcss (l++[t])=pcss l++pcs t:=by rw[pcss_app,pcss_one]
theorem fresh_st {st p:Addr}{H:Hp}(h:StOk H st)(hp:H p=none):p≠st:=fun e=>by
 obtain⟨ns,_,_,h3⟩:=h
 rw[e,h3]at hp
 cases hp
abbrev s_pc:Stmt:=top 93
theorem call_strS {X:Cx}:CallR X (.type "str") (fun xs H Q=>∃z,xs=[.str z]∧Q (.str z) H):=by
 intro pins s σ H xs us Q I r h
 obtain⟨z,rfl,q⟩:=h
 obtain⟨u,rfl,t,rfl⟩:=vals1 r
 exact PySem.P.str_of_str ⟨.str z,H,I,⟨_,rfl⟩,q⟩
inductive spPc (n:Nat)(vs:List V)(H:Hp)(Q:VK)(E_:XK):Prop where
 |mk (v:V) (t:T):vs=[v]→Rep H v t→Tr n t→wts (pcs t)≤20000000→(∀p H',Same H H'→H p=none→H' p=some (.lst ((pcs t).map V.str))→Q (.ref p) H')→spPc n vs H Q E_
def spPcN:Nat→Sp
 |0=>fun _ _ _ _=>False
 |n+1=>spPc n
theorem wts_len (l:List Str):3*l.length≤wts l:=by
 induction l with
 |nil=>simp[wts]
 |cons a l ih=>
  rw[wts_cons,List.length_cons]
  unfold wt
  omega
theorem Reps.get {H:Hp}{vs:List V}{ts:List T}(r:Reps H vs ts){i:Nat}{v:V}(h:vs[i]?=some v):∃t,ts[i]?=some t∧Rep H v t:=by
 induction vs generalizing ts i with
 |nil=>cases h
 |cons a vs ih=>
  cases r with
  |cons r1 r2=>
   cases i with
   |zero=>cases h;exact⟨_,rfl,r1⟩
   |succ i=>exact ih r2 h
section
variable {P:Program}{w:World}{K:PySem.W.Frag}{mg:Str→Option Value}{base:Heap}{f:Addr}{fd:FuncData}
theorem sc_pc:FnScope ["_law_thing","_law_pieces_here","_law_part"] ["_law_thing"] (defScope s_pc):=⟨rfl,rfl,rfl,by decide+kernel,rfl,by decide+kernel,by decide+kernel⟩
theorem ok_pc {n:Nat}(F:Fun K "_law_pieces" "_law_pieces" s_pc f fd)(mi:mg "isinstance"=none)(mt:mg "tuple"=none)(ms:mg "str"=none)(h2:Has P w K mg base n "_law_pieces" ["_law_thing"] (spPcN n)):FnOk P w K mg base CX0 (n+1) f fd ["_law_thing"] (spPc n):=by
 refine F.ok sc_pc (fun cdv A outer s H vs Q E hr h=>?_)
 obtain⟨v,t,rfl,rt,tr,hw,q⟩:=h
 refine⟨_,pss_cons (ps_if (pt_not (pt_val (pe_callB call_isi rfl mi boot_isinstance (pa_cons (pv 0) (pa_cons (pe_bltn (v:=.ty "tuple") rfl mt boot_tuple rfl) pa_nil)))))
   (pss_one (ps_ret (pe_lst (pa_cons (pe_callTy (call_str_int.or call_strS) rfl ms boot_str (pa_cons (pv 0) pa_nil)) pa_nil)))) pss_nil)
  (pss_cons (pset 1 sc_pc.nd (pe_lst (pa_cons pe_str pa_nil)))
  (pss_cons (ps_for PassesOwn.never rfl (piT K (pv 0)) (pg_name (i:=2) sc_pc.nd rfl (Or.inl rfl)) (pss_one (ps_expr (pe_bm PySem.F.plainAttrs_list PySem.F.slot_list_extend PySem.F.type_list_extend mt_extend (pv 1) (pa_cons (pcall h2 hr (Nat.le_refl _) rfl (pa_cons (pv 2) pa_nil)) pa_nil)))))
  (pss_one (ps_ret (pe_op op_cat (pv 1) (pe_lst (pa_cons pe_str pa_nil))))))) ,?_⟩
 refine⟨_,rfl,_,_,_,_,rfl,rep_ty rt,kit_tup K t,_,rfl,?_⟩
 cases rt with
 |int i=>
  cases tr with
  |«at» A=>
   refine iteT ⟨_,rfl, .inl ⟨i,rfl,A.lg i rfl,small (by show 1≤1000000;decide),fun p hp=>?_⟩⟩
   refine q p _ (same_new hp _) hp ?_
   rw[upd_same,pcs_at A]
   rfl
 |str z hz=>
  cases tr with
  |«at» A=>
   refine iteT ⟨_,rfl, .inr ⟨z,rfl,small (by show 1≤1000000;decide),fun p hp=>?_⟩⟩
   refine q p _ (same_new hp _) hp ?_
   rw[upd_same,pcs_at A]
   rfl
 |@tup a vs ts ha r=>
  cases tr with
  |«at» A=>exact absurd rfl (A.nt ts)
  |@tp n _ tr=>
  rw[wts_tup]at hw
  have wi:∀i,wts (pcss (ts.take i))≤wts (pcss ts):=fun i=>by
   have e:pcss ts=pcss (ts.take i)++pcss (ts.drop i):=by rw[←pcss_app,List.take_append_drop]
   rw[e,wts_app]
   omega
  refine iteF ⟨small (by show 1≤1000000;decide),fun l hl=>?_⟩
  have al:a≠l:=fun e=>by rw[e,hl]at ha;cases ha
  have s1:=same_new hl (.lst [.str "("])
  have lv:=r.length
  refine⟨_,rfl,a,rfl,⟨_,SqT.of (s1 _ _ ha)⟩,?_⟩
  refine for_tup (xs:=vs) (fun i σ H'=>(∃k,σ=[some (.ref a),some (.ref l),k])∧H' l=some (.lst ((("(":Str)::pcss (ts.take i)).map V.str))∧Same H H') ⟨⟨_,rfl⟩,upd_same,s1⟩ ?_ ?_ ?_
  ·rintro i σ H' hi ⟨_,_,e⟩
   exact SqT.of (e _ _ ha)
  ·rintro i x σ H' hx ⟨⟨k,rfl⟩,hl',e⟩
   obtain⟨t',ht',rx⟩:=r.get hx
   have hm:t'∈ts:=List.mem_of_getElem? ht'
   have tk:ts.take (i+1)=ts.take i++[t']:=by rw[List.take_add_one,ht'];rfl
   have w1:=wi (i+1)
   rw[tk,pcss_snoc,wts_app]at w1
   refine⟨_,rfl, .inl ⟨rfl,_,SqL.of hl'⟩,_,rfl,?_⟩
   refine⟨x,t',rfl,rx.same e,tr t' hm,by omega,fun p H2 e2 hp hp2=>?_⟩
   have lp:l≠p:=fun z=>by rw[←z,hl']at hp;cases hp
   have b1:=wts_len (pcss (ts.take i))
   have b2:=wts_len (pcs t')
   refine⟨l,p,_,_,rfl,rfl,e2 _ _ hl',hp2,big (by simp only[List.length_map,List.length_cons];omega),⟨_,rfl⟩,?_,fun b o h=>?_⟩
   ·rw[upd_same,tk,pcss_snoc,←List.map_append]
    rfl
   ·rw[upd_ne (fun z=>by rw[z,hl]at h;cases h)]
    exact e2 _ _ (e _ _ h)
  ·rintro σ H' ⟨⟨k,rfl⟩,hl',e⟩
   rw[lv,List.take_length]at hl'
   refine⟨_,rfl,small (by show 1≤1000000;decide),fun m hm=>?_⟩
   have lm:l≠m:=fun z=>by rw[←z,hl']at hm;cases hm
   have b1:=wts_len (pcss ts)
   refine⟨l,m,_,_,rfl,rfl,by rw[upd_ne lm];exact hl',upd_same,big (by simp only[List.length_map,List.length_cons,List.length_nil];omega),fun p hp=>?_⟩
   have e3:=(e.trans (same_new hm (.lst [.str ")"]))).trans (same_new hp (.lst ((("(":Str)::pcss ts).map V.str++[.str ")"])))
   refine q p _ e3 ?_ ?_
   ·cases h:H p with
    |none=>rfl
    |some o=>rw[same_new hm _ _ _ (e _ _ h)]at hp;cases hp
   ·rw[upd_same,pcs,List.map_cons,List.map_cons,List.map_append]
    rfl
theorem pc_all (F:Fun K "_law_pieces" "_law_pieces" s_pc f fd)(mi:mg "isinstance"=none)(mt:mg "tuple"=none)(ms:mg "str"=none)(hb:Binds K fd ["_law_thing"] [])(hk:PySem.W.keepIn K (.ref f)=true)(hm:mg "_law_pieces"=some (.ref f))(n:Nat):Has P w K mg base n "_law_pieces" ["_law_thing"] (spPcN n):=by
 induction n with
 |zero=>exact⟨f,fd,⟨fun _ _ _ _ h=>h.elim,fun _ _ _ _ _ _ _ _ _ _ _ _ _ h=>h.elim⟩,hb,hk,hm⟩
 |succ n ih=>exact⟨f,fd,ok_pc F mi mt ms ih,hb,hk,hm⟩
end
abbrev s_gap:Stmt:=top 94
abbrev s_wr:Stmt:=top 95
abbrev nW:List Str:=["_law_state","_law_pieces_here","_law_text","_law_ahead","_law_least","_law_piece"]
inductive spGap (vs:List V)(H:Hp)(Q:VK)(E_:XK):Prop where
 |mk (st:Addr) (n:Nat):vs=[.ref st, .int n]→StOk H st→n≤1→(∀g H',GapL g.cps.toList→n≤g.length→g.length≤n+2→Grow st H H'→Q (.str g) H')→spGap vs H Q E_
section
variable {P:Program}{w:World}{K:PySem.W.Frag}{mg:Str→Option Value}{base:Heap}{f:Addr}{fd:FuncData}
theorem sc_gap:FnScope ["_law_state","_law_least","_law_gap_here","_law_k"] ["_law_state","_law_least"] (defScope s_gap):=⟨rfl,rfl,rfl,by decide+kernel,rfl,by decide+kernel,by decide+kernel⟩
theorem ok_gap (F:Fun K "_law_gap" "_law_gap" s_gap f fd)(mr:mg "range"=none)(h0:Has P w K mg base 1 "_law_next" ["_law_state","_law_many"] spNext):FnOk P w K mg base CX0 2 f fd ["_law_state","_law_least"] spGap:=by
 refine F.ok sc_gap (fun cdv A outer s H vs Q E hr h=>?_)
 obtain⟨st,n,rfl,hs,hn,q⟩:=h
 refine⟨_,pss_cons (pset 2 sc_gap.nd pe_str)
  (pss_cons (ps_for PassesOwn.never rfl (pi_range1 rfl mr (pa_cons (pe_op op_add (pv 1) (pe_ix (ixL K) (pe_lst (pa_cons pe_int (pa_cons pe_int (pa_cons pe_int (pa_cons pe_int (pa_cons pe_int pa_nil)))))) (pcall h0 hr (by decide) rfl (pa_cons (pv 0) (pa_cons pe_int pa_nil))))) pa_nil)) (pg_name (i:=3) sc_gap.nd rfl (Or.inl rfl))
   (pss_one (ps_aug (i:=2) sc_gap.nd rfl (Or.inl rfl) (pe_ix ix_str pe_str (pcall h0 hr (by decide) rfl (pa_cons (pv 0) (pa_cons pe_int pa_nil))) (fun _ _=>rfl)) iop_add_str)))
  (pss_one (ps_ret (pv 2)))),?_⟩
 refine⟨_,rfl,small (by show 5≤1000000;decide),fun l hl=>⟨_,rfl,st,5,rfl,hs.same (same_new hl _),by decide,by decide,fun d H1 d0 d1 g1=>?_⟩⟩
 have nl:=fresh_st hs hl
 have gg:Grow st H H1:=(grow_new hs hl).trans g1
 have hl1:=g1.1 _ _ nl upd_same
 have hat:∃m:Nat,m≤2∧atI [V.int 0, .int 0, .int 0, .int 1, .int 2] d=some (.int m):=by
  have:d=0∨d=1∨d=2∨d=3∨d=4:=by omega
  rcases this with rfl|rfl|rfl|rfl|rfl
  ·exact⟨0,by decide,rfl⟩
  ·exact⟨0,by decide,rfl⟩
  ·exact⟨0,by decide,rfl⟩
  ·exact⟨1,by decide,rfl⟩
  ·exact⟨2,by decide,rfl⟩
 obtain⟨m,hm,hat⟩:=hat
 refine⟨l,_,d, .int m,rfl,rfl,SqL.of hl1,hat,n,m,rfl,rfl,(n:Int)+m,rfl,by omega,by omega,?_⟩
 refine for_range (n:=((n:Int)+m).toNat) (fun i σ H'=>∃(z:Str) (o:Option V),σ=[some (.ref st),some (.int n),some (.str z),o]∧GapL z.cps.toList∧z.length=i∧Grow st H H') ⟨"",none,rfl,(by rw[show("":Str).cps.toList=[] by decide+kernel];intro c hc;cases hc),by decide+kernel,gg⟩ ?_ ?_
 ·rintro i σ H' hi ⟨z,o,rfl,hz,hl,g⟩
  refine⟨_,rfl,_,rfl,st,2,rfl,g.ok,by decide,by decide,fun e H2 e0 e1 g2=>?_⟩
  obtain⟨c,hc,hc2⟩:∃c,atI (" \n":Str).cps.toList e=some c∧(c=32∨c=10):=by
   rw[show(" \n":Str).cps.toList=[32,10] by decide+kernel]
   have:e=0∨e=1:=by omega
   rcases this with rfl|rfl
   ·exact⟨32,rfl, .inl rfl⟩
   ·exact⟨10,rfl, .inr rfl⟩
  have l1:(z++⟨#[c]⟩:Str).length=z.length+1:=len_app _ _
  refine⟨" \n",e,c,rfl,rfl,small (by rw[show(" \n":Str).length=2 by decide+kernel];decide),hc,z,⟨#[c]⟩,rfl,rfl,small (by show z.length+1≤1000000;omega),?_⟩
  refine⟨z++⟨#[c]⟩,_,rfl,?_,by omega,g.trans g2⟩
  rw[cps_app]
  intro x hx
  rcases List.mem_append.mp hx with h|h
  ·exact hz x h
  ·have:x=c:=by simpa using h
   rw[this];exact hc2
 ·rintro σ H' ⟨z,o,rfl,hz,hl,g⟩
  exact⟨_,rfl,q z H' hz (by omega) (by omega) g⟩
def brL:List Str:=["(",")"]
def isBr (p:Str):Bool:=decide (p∈brL)
structure PcOk (p:Str):Prop where
 ok:isBr p=true∨(isBr p=false∧Clean p.cps.toList∧p.cps.toList≠[])
inductive spWr (vs:List V)(H:Hp)(Q:VK)(E_:XK):Prop where
 |mk (st pl:Addr) (ps:List Str):vs=[.ref st, .ref pl]→StOk H st→pl≠st→H pl=some (.lst (ps.map V.str))→(∀p∈ps,PcOk p)→wts ps≤5800→(∀z H',Opn z.cps.toList (ps.map (·.cps.toList))→z.length≤wts ps+4→Grow st H H'→Q (.str z) H')→spWr vs H Q E_
def tLeast:TE:=fun σ H Q=>∃(a b:V) (z ah p:Str) (ls:Option V),σ=[some a,some b,some (.str z),some (.str ah),ls,some (.str p)]∧∀(n:Nat) H',Same H H'→n≤1→(isBr ah=false→isBr p=false→n=1)→Q (.int n) H'
theorem brs:[V.str "(",V.str ")"]=brL.map V.str:=rfl
theorem sc_wr:FnScope nW ["_law_state","_law_pieces_here"] (defScope s_wr):=⟨rfl,rfl,rfl,by decide+kernel,rfl,by decide+kernel,by decide+kernel⟩
theorem ok_wr (F:Fun K "_law_written" "_law_written" s_wr f fd)(mi:mg "int"=none)(h1:Has P w K mg base 2 "_law_gap" ["_law_state","_law_least"] spGap):FnOk P w K mg base CX0 3 f fd ["_law_state","_law_pieces_here"] spWr:=by
 refine F.ok sc_wr (fun cdv A outer s H vs Q E hr h=>?_)
 obtain⟨st,pl,ps,rfl,hs,np,hp,ok,hw,q⟩:=h
 refine⟨_,pss_cons (pset 2 sc_wr.nd (pcall h1 hr (by decide) rfl (pa_cons (pv 0) (pa_cons pe_int pa_nil))))
  (pss_cons (pset 3 sc_wr.nd pe_str)
  (pss_cons (ps_for PassesOwn.never rfl (piL K (pv 1)) (pg_name (i:=5) sc_wr.nd rfl (Or.inl rfl))
   (pss_cons (pset 4 sc_wr.nd (pe_weak (t':=tLeast) (pe_callTy call_int1 rfl mi boot_int' (pa_cons (pe_and (pe_cmpR op_notIn_seq (pv 3) (pe_tup (pa_cons pe_str (pa_cons pe_str pa_nil))) (by with_unfolding_all rfl)) (pe_one (pe_cmpR op_notIn_seq (pv 5) (pe_tup (pa_cons pe_str (pa_cons pe_str pa_nil))) (by with_unfolding_all rfl)))) pa_nil)) ?w))
   (pss_cons (ps_aug (i:=2) sc_wr.nd rfl (Or.inl rfl) (pe_op op_add_str (pcall h1 hr (by decide) rfl (pa_cons (pv 0) (pa_cons (pv 4) pa_nil))) (pv 5)) iop_add_str)
   (pss_one (pset 3 sc_wr.nd (pv 5))))))
  (pss_one (ps_ret (pe_op op_add_str (pv 2) (pcall h1 hr (by decide) rfl (pa_cons (pv 0) (pa_cons pe_int pa_nil)))))))),?_⟩
 case w=>
  rintro σ H' Q' ⟨a,b,z,ah,p,ls,rfl,q'⟩
  refine⟨_,rfl,small (by show 2≤1000000;decide),fun t1 h1'=>⟨t1,_,rfl, .inr (SqT.of upd_same),rfl,by rw[brs];exact flat_strs _,_,rfl,?_⟩⟩
  rw[if_pos rfl,brs,inV_str]
  show if(!isBr ah)=true then _ else _
  have e1:=same_new h1' (.tup (brL.map V.str))
  cases c1:isBr ah with
  |true=>exact iteF (.inr ⟨false,rfl,q' 0 _ e1 (by decide) (fun h=>by rw[c1]at h;cases h)⟩)
  |false=>
   refine iteT ⟨_,rfl,small (by show 2≤1000000;decide),fun t2 h2'=>⟨t2,_,rfl, .inr (SqT.of upd_same),rfl,by rw[brs];exact flat_strs _,?_⟩⟩
   rw[if_pos rfl,brs,inV_str]
   have e2:=same_new h2' (.tup (brL.map V.str))
   refine .inr ⟨!isBr p,rfl,?_⟩
   cases c2:isBr p with
   |true=>exact q' 0 _ (e1.trans e2) (by decide) (fun _ h=>by rw[c2]at h;cases h)
   |false=>exact q' 1 _ (e1.trans e2) (by decide) (fun _ _=>rfl)
 refine⟨_,rfl,st,0,rfl,hs,by decide,fun g0 H1 hg0 _ l0 gr0=>?_⟩
 refine⟨_,rfl,pl,rfl,⟨_,SqL.of (gr0.1 _ _ np hp)⟩,?_⟩
 refine for_list (xs:=ps.map V.str) (fun i σ H'=>∃(z ah:Str) (ls pc:Option V),σ=[some (.ref st),some (.ref pl),some (.str z),some (.str ah),ls,pc]∧(isBr ah=true→Cls z.cps.toList ((ps.take i).map (·.cps.toList)))∧Opn z.cps.toList ((ps.take i).map (·.cps.toList))∧z.length≤wts (ps.take i)+2∧Grow st H H') ?_ ?_ ?_ ?_
 ·have c0:=cls_nil.gap hg0
  rw[List.nil_append]at c0
  exact⟨g0,"(",none,none,rfl,fun _=>c0,c0.opn,by simp[wts];omega,gr0⟩
 ·rintro i σ H' hi ⟨_,_,_,_,_,_,_,_,g⟩
  exact SqL.of (g.1 _ _ np hp)
 ·rintro i x σ H' hx ⟨z,ah,ls,pc,rfl,hc,ho,hl,g⟩
  rw[List.getElem?_map]at hx
  cases e:ps[i]? with
  |none=>rw[e]at hx;cases hx
  |some p=>
  rw[e]at hx
  cases hx
  have pok:=(ok p (List.mem_of_getElem? e)).ok
  have tk:ps.take (i+1)=ps.take i++[p]:=by rw[List.take_add_one,e];rfl
  have wi:wts (ps.take (i+1))≤wts ps:=by
   have e2:ps=ps.take (i+1)++ps.drop (i+1):=(List.take_append_drop _ _).symm
   conv=>rhs;rw[e2,wts_app]
   omega
  rw[tk,wts_app,wts_cons,wts_nil]at wi
  unfold wt at wi
  refine⟨_,_,z,ah,p,ls,rfl,fun n H2 e2 hn hn1=>?_⟩
  have g2:=g.trans (grow_same g.ok e2)
  refine⟨_,rfl,_,rfl,_,rfl,st,n,rfl,g2.ok,hn,fun gp H3 hgp l1 l2 g3=>⟨_,rfl,gp,p,rfl,rfl,small (by omega),z,gp++p,rfl,rfl,small (by rw[len_app];omega),?_⟩⟩
  have ez:(z++(gp++p):Str).cps.toList=z.cps.toList++gp.cps.toList++p.cps.toList:=by rw[cps_app,cps_app,List.append_assoc]
  have em:(ps.take (i+1)).map (·.cps.toList)=(ps.take i).map (·.cps.toList)++[p.cps.toList]:=by rw[tk,List.map_append];rfl
  have lz:(z++(gp++p):Str).length≤wts (ps.take (i+1))+2:=by
   rw[len_app,len_app,tk,wts_app,wts_cons,wts_nil]
   unfold wt
   omega
  have og:Opn (z.cps.toList++gp.cps.toList) ((ps.take i).map (·.cps.toList)):=ho.gap hgp
  refine⟨_,rfl,z++(gp++p),p,_,_,rfl,?_⟩
  rw[ez,em]
  rcases pok with hb|⟨hb,hcl,hne⟩
  ·have hcls:Cls (z.cps.toList++gp.cps.toList++p.cps.toList) ((ps.take i).map (·.cps.toList)++[p.cps.toList]):=by
    have:p="("∨p=")":=by
     have:=of_decide_eq_true hb
     unfold brL at this
     simpa using this
    rcases this with rfl|rfl
    ·rw[lb_cps];exact og.lb
    ·rw[rb_cps];exact og.rb
   exact⟨fun _=>hcls,hcls.opn,lz,g2.trans g3⟩
  ·refine⟨(fun h=>by rw[hb]at h;cases h),?_,lz,g2.trans g3⟩
   refine Cls.word ?_ hcl hne
   cases c1:isBr ah with
   |true=>exact(hc c1).gap hgp
   |false=>
    have:=hn1 c1 hb
    exact ho.gap1 hgp (by rw[len_toList];omega)
 ·rintro σ H' ⟨z,ah,ls,pc,rfl,hc,ho,hl,g⟩
  rw[List.length_map,List.take_length]at ho hl
  refine⟨_,rfl,_,rfl,st,0,rfl,g.ok,by decide,fun g1 H2 hg1 _ l1 gr1=>?_⟩
  have la:=len_app z g1
  refine⟨z,g1,rfl,rfl,small (by omega),?_⟩
  refine q (z++g1) H2 ?_ (by omega) (g.trans gr1)
  rw[cps_app]
  exact ho.gap hg1
end
end Fw
namespace PySem
open PyProof.Rows
namespace F
theorem owner_rvt:Manifest.owners.lookup (String.ofList ['d','e','s','r','e','v','e','r'].reverse)=some Manifest.sig_reversed:=by kernel_rfl
theorem slot_rvt_next:Slot "reversed" "__next__" "reversed.__next__" :=
 .of (owner:="reversed") (n:="__next__") (by rw[typeLookup_type,builtinLookup_eq_fast];kernel_rfl) (by decide+kernel) (by decide+kernel) (by decide+kernel)
  (by first|exact .inl (by decide+kernel)|exact .inr (by decide+kernel)) (by rw[isSubtype_type];kernel_rfl)
theorem entry_rvt_next:entryFor table "reversed.__next__"=some Builtin.«reversed.__next__»:=entryFor_of_tree (by kernel_rfl)
theorem args_rvt_next (a:Value):argsOk "reversed.__next__" ⟨[a],[]⟩:=by
 unfold argsOk;rw[signature?_of (id:="reversed.__next__") (n:=['_','_','t','x','e','n','_','_']) (o:=['d','e','s','r','e','v','e','r']) (by kernel_rfl) owner_rvt];kernel_rfl
theorem slot_rvt_iter:Slot "reversed" "__iter__" "reversed.__iter__" :=
 .of (owner:="reversed") (n:="__iter__") (by rw[typeLookup_type,builtinLookup_eq_fast];kernel_rfl) (by decide+kernel) (by decide+kernel) (by decide+kernel)
  (by first|exact .inl (by decide+kernel)|exact .inr (by decide+kernel)) (by rw[isSubtype_type];kernel_rfl)
theorem args_rvt_iter (a:Value):argsOk "reversed.__iter__" ⟨[a],[]⟩:=by
 unfold argsOk;rw[signature?_of (id:="reversed.__iter__") (n:=['_','_','r','e','t','i','_','_']) (o:=['d','e','s','r','e','v','e','r']) (by kernel_rfl) owner_rvt];kernel_rfl
theorem entry_rvt_iter:entryFor table "reversed.__iter__"=some Builtin.«dict_keyiterator.__iter__» :=
 entryFor_alias (id':="dict_keyiterator.__iter__") (by kernel_rfl) (by first|rfl|decide+kernel|(unfold String.splitOn;simp+decide [String.splitOnAux])) (by decide+kernel) (by kernel_rfl)
theorem slot_rvt_hint:Slot "reversed" "__length_hint__" "reversed.__length_hint__" :=
 .of (owner:="reversed") (n:="__length_hint__") (by rw[typeLookup_type,builtinLookup_eq_fast];kernel_rfl) (by decide+kernel) (by decide+kernel) (by decide+kernel)
  (by first|exact .inl (by decide+kernel)|exact .inr (by decide+kernel)) (by rw[isSubtype_type];kernel_rfl)
theorem entry_rvt_hint:entryFor table "reversed.__length_hint__"=some Builtin.«reversed.__length_hint__»:=entryFor_of_tree (by kernel_rfl)
theorem args_rvt_hint (a:Value):argsOk "reversed.__length_hint__" ⟨[a],[]⟩:=by
 unfold argsOk;rw[signature?_of (id:="reversed.__length_hint__") (n:=['_','_','t','n','i','h','_','h','t','g','n','e','l','_','_']) (o:=['d','e','s','r','e','v','e','r']) (by kernel_rfl) owner_rvt];kernel_rfl
theorem nolen_rvt:typeLookup (.type "reversed") "__len__"=pure none:=by rw[typeLookup_type,builtinLookup_eq_fast];kernel_rfl
theorem tup_norev:typeLookup (.type "tuple") "__reversed__"=pure none:=by rw[typeLookup_type,builtinLookup_eq_fast];kernel_rfl
theorem slot_rvt_init:Slot "reversed" "__init__" "object.__init__" :=
 .of (owner:="object") (n:="__init__") (by rw[typeLookup_type,builtinLookup_eq_fast];kernel_rfl) (by decide+kernel) (by decide+kernel) (by decide+kernel)
  (by first|exact .inl (by decide+kernel)|exact .inr (by decide+kernel)) (by rw[isSubtype_type];kernel_rfl)
theorem called_reversed:TypeCalled "reversed" "reversed.__new__" "object.__init__" :=
 ⟨by decide+kernel,by decide+kernel,⟨_,_,mro_reversed⟩,made_reversed,by decide+kernel,by rw[isSubtype_type];kernel_rfl,slot_rvt_init⟩
end F
def rvtObj (l:Addr)(i:Int):Obj:={cls:=.type "reversed",data:=.fields #[.ref l,rawInt i]}
def Heap.IsRvt (h:Heap)(a l:Addr)(i:Int):Prop:=h.get? a=some (rvtObj l i)
theorem Heap.IsRvt.typeIs {s:Shared}{a l:Addr}{i:Int}(x:s.heap.IsRvt a l i):s.TypeIs (.ref a) "reversed":=⟨_,x,rfl⟩
section
variable {prog:Program}{w:World}{A:Around}{E:Value→Shared→Prop}{s:Shared}
theorem meets_rvt_new (l:Addr)(xs:Array Value)(hz:(xs.size:Int)<2^63):
  Meets (Builtin.«reversed.__new__» ⟨[.type "reversed", .ref l],[]⟩) (fun _ R s=>IsTup s.heap l xs∧
   R (.ok (.ret (.ref s.heap.objs.size))) {s with heap:=s.heap.push (rvtObj l ((xs.size:Int)-1)),toks:=s.toks+1+1}) :=
 .of_wp fun prog w A R s h=>by
  obtain⟨hl,h⟩:=h
  unfold Builtin.«reversed.__new__»
  refine wpAny_bind (wpAny_of_eq (newClass_reversed _) ?_)
  try dsimp only
  refine wpAny_bind (wpAny_of_eq (a:=()) (by first|rfl|kernel_rfl) ?_)
  refine wpAny_bind (wpAny_of_eq (a:=()) (by first|rfl|kernel_rfl) ?_)
  try dsimp only
  refine wpAny_bind (wpAny_specialOf hl.typeIs F.tup_norev ?_)
  try dsimp only
  refine wpAny_bind ?_
  show wpAny _ _ (isInstance (.ref l) (.type "dict")>>=_) _ _ _
  refine wpAny_bind (wpAny_isInstance (b:=false) hl.typeIs F.sub_tuple_dict ?_)
  rw[if_neg Bool.false_ne_true]
  show wpAny _ _ (specialOf (Value.ref l) (Str.ofString "__getitem__")>>=_) _ _ _
  refine wpAny_bind (wpAny_specialOf hl.typeIs F.slot_tuple_getitem.lookup ?_)
  dsimp only
  rw[if_pos (by decide)]
  refine wpAny_pure ?_
  rw[if_neg (by decide)]
  refine wpAny_bind (len_tuple hl hz ?_)
  refine wpAny_bind (m:=asInt? (.int _ _)) (wpAny_pure ?_)
  dsimp only
  refine wpAny_bind ?_
  show wpAny _ _ (newObj (.type "reversed") (.fields #[Value.ref l,rawInt ((xs.size:Int)-1)])) _ _ _
  refine wpAny_newObj_type ?_
  exact wpAny_pure ⟨_,rfl,h⟩
theorem call_reversed_tuple {l:Addr}{xs:Array Value}{Q:Value→Shared→Prop}(hl:IsTup s.heap l xs)(hz:(xs.size:Int)<2^63)
  (h:Q (.ref s.heap.objs.size) {s with heap:=s.heap.push (rvtObj l ((xs.size:Int)-1)),toks:=s.toks+1+1}):wpAny (model prog w) A (call (.type "reversed") [.ref l]) Q E s :=
 callType_new F.called_reversed (by decide) (F.typeCall_reversed_1 _) (F.newCall_reversed_1 _) (fun obj=>F.args_object_init_2 obj _) F.entry_reversed_new (meets_rvt_new l xs hz)
  ⟨hl,⟨_,Heap.get?_push_size _ rfl,rfl⟩,h⟩
theorem wpAny_pyNext_rvt_item {it l:Addr}{i:Nat}{xs:Array Value}{x:Value}{Q:Option Value→Shared→Prop}(hit:s.heap.IsRvt it l (i:Int))(hl:IsTup s.heap l xs)(hz:(xs.size:Int)<2^63)(hx:xs[i]?=some x)
  (hQ:∀h' tk,s.toks≤tk→h'.IsRvt it l ((i:Int)-1)→Heap.SameBut it s.heap h'→Q (some x) {s with heap:=h',toks:=tk}):wpAny (model prog w) A (pyNext (.ref it)) Q E s:=by
 have hlt:i<xs.size:=(Array.getElem?_eq_some_iff.mp hx).1
 unfold pyNext
 refine wpAny_bind (wpAny_attempt (wpAny_callSpecial?_slot (name:=Str.ofString "__next__") hit.typeIs F.slot_rvt_next
  (wpAny_call_entry F.slot_rvt_next hit.typeIs F.entry_rvt_next ?_ (F.args_rvt_next _))))
 unfold Builtin.«reversed.__next__»
 refine wpAny_bind (wpAny_of_eq (a:=(Value.ref it,[])) rfl ?_)
 try dsimp only
 refine wpAny_bind (wpAny_field hit rfl (x:=.ref l) rfl ?_)
 show wpAny _ _ (field (.ref it) 1>>=_) _ _ s
 refine wpAny_bind (wpAny_field hit rfl (x:=rawInt (i:Int)) rfl ?_)
 show wpAny _ _ (if(i:Int)<0 then _ else _) _ _ s
 rw[if_neg (by omega)]
 refine wpAny_bind (wpAny_specialOf hl.typeIs F.slot_tuple_getitem.lookup ?_)
 rw[if_neg (by simp)]
 refine wpAny_bind (wpAny_mkInt ?_)
 refine wpAny_bind (wpAny_attempt ?_)
 refine getItem_tuple (j:=i) (x:=x) hl (by omega) (by omega) (by unfold seqIndex?;simp;omega) hx ?_
 dsimp only
 refine wpAny_bind (wpAny_field (s:={s with toks:=_}) hit rfl (x:=rawInt (i:Int)) rfl ?_)
 show wpAny _ _ (setField (Value.ref it) 1 (rawInt ((i:Int)-1))>>=fun _=>ret x) _ _ _
 refine wpAny_bind (wpAny_setField_rec (s:={s with toks:=s.toks+1}) hit (by simp) fun h' e1 e2=>?_)
 exact wpAny_pure ⟨x,rfl,wpAny_pure (hQ h' (s.toks+1) (Nat.le_succ _) e1 e2)⟩
theorem wpAny_pyNext_rvt_end {it l:Addr}{Q:Option Value→Shared→Prop}(hh:A.handled=none)(hit:s.heap.IsRvt it l (-1))
  (hQ:∀h',Heap.ExtBut it s.heap h'→Q none {s with heap:=h'}):wpAny (model prog w) A (pyNext (.ref it)) Q E s:=by
 unfold pyNext
 refine wpAny_bind (wpAny_attempt (wpAny_callSpecial?_slot (name:=Str.ofString "__next__") hit.typeIs F.slot_rvt_next
  (wpAny_call_entry F.slot_rvt_next hit.typeIs F.entry_rvt_next ?_ (F.args_rvt_next _))))
 unfold Builtin.«reversed.__next__»
 refine wpAny_bind (wpAny_of_eq (a:=(Value.ref it,[])) rfl ?_)
 try dsimp only
 refine wpAny_bind (wpAny_field hit rfl (x:=.ref l) rfl ?_)
 show wpAny _ _ (field (.ref it) 1>>=_) _ _ s
 refine wpAny_bind (wpAny_field hit rfl (x:=rawInt (-1)) rfl ?_)
 show wpAny _ _ (if(-1:Int)<0 then _ else _) _ _ s
 rw[if_pos (by decide)]
 refine wpAny_bind (wpAny_rule ?_)
 refine wpAny_bind ?_
 show wpAny _ _ (setField (.ref it) 1 (rawInt (-1))>>=fun _=>setField (.ref it) 0 .none) _ _ _
 refine wpAny_bind (wpAny_setField_rec hit (by simp) fun h1 e1 f1=>?_)
 refine wpAny_setField_rec (s:={s with heap:=h1}) e1 (by simp) fun h2 e2 f2=>?_
 first
 |show wpAny _ _ (newExc (.type "StopIteration") []>>=_) _ _ _
 |(refine wpAny_bind ?_;show wpAny _ _ (newExc (.type "StopIteration") []>>=_) _ _ _)
 refine wpAny_bind ?_
 simp only[newExc,newTuple]
 refine wpAny_bind (wpAny_newObj_type ?_ (by size_fits))
 refine wpAny_bind (m:=firstArgMember _ _) (wpAny_of_eq (a:=Value.none) (by first|rfl|(simp only[firstArgMember];rfl)) ?_)
 refine wpAny_newObj_type ?_ (by size_fits)
 simp only[raiseNew]
 refine wpAny_bind (wpAny_handled ?_)
 first|rw[show A.in1.handled=none from hh]|rw[hh]
 refine wpAny_bind (wpAny_pure (wpAny_throw ?_))
 refine wpAny_bind (wpAny_isInstance (T:="StopIteration") (b:=true) ⟨_,Heap.get?_push_size _ rfl,rfl⟩ isSubtype_stop ?_)
 exact wpAny_pure (hQ _ (fun b o hb e=>Heap.get?_push_of_some _ (Heap.get?_push_of_some _ (f2.extBut b o hb (f1.extBut b o hb e)))))
theorem wpAny_pyIter_rvt {it l:Addr}{i:Int}{Q:Value→Shared→Prop}(hit:s.heap.IsRvt it l i)(h:Q (.ref it) s):wpAny (model prog w) A (pyIter (.ref it)) Q E s:=by
 refine wpAny_pyIter_slot hit.typeIs F.slot_rvt_iter (wpAny_call_entry F.slot_rvt_iter hit.typeIs F.entry_rvt_iter ?_ (F.args_rvt_iter _))
 show wpAny _ _ (ret (.ref it)) _ _ s
 exact wpAny_pure ⟨_,rfl,"reversed",_,hit.typeIs,F.slot_rvt_next.lookup,h⟩
theorem WalksS.rvt (hh:A.handled=none)(I l:Addr)(hne:l≠I)(xs:Array Value)(hz:(xs.size:Int)<2^63):
  WalksS prog w A I [I,l] [I] (fun a b=>a=b) xs.size (fun i v=>xs[xs.size-1-i]?=some v) (fun i s=>s.heap.IsRvt I l ((xs.size:Int)-1-(i:Int))∧IsTup s.heap l xs) where
 sub:=fun b hb=>by simp at hb;simp[hb]
 grefl:=fun _=>rfl
 gtrans:=fun _ _ _ a b=>a.trans b
 frame:=fun i s h' tk x _ hk=>⟨hk I (by simp) _ x.1,by obtain⟨o,ho,r⟩:=x.2;exact⟨o,hk l (by simp) _ ho,r⟩⟩
 item:=fun i s Q E hi x hQ=>by
  have e:(xs.size:Int)-1-(i:Int)=((xs.size-1-i:Nat):Int):=by omega
  have hit:=x.1
  rw[e]at hit
  have hx:xs[xs.size-1-i]?=some (xs[xs.size-1-i]'(by omega)):=Array.getElem?_eq_getElem (by omega)
  refine wpAny_pyNext_rvt_item hit x.2 hz hx fun h' tk ht hit' hs'=>?_
  have e2:((xs.size-1-i:Nat):Int)-1=(xs.size:Int)-1-((i+1:Nat):Int):=by omega
  rw[e2]at hit'
  refine hQ _ {s with heap:=h',toks:=tk} hx ⟨hit',x.2.extBut hs'.extBut hne⟩ ⟨fun b o hb eo=>hs'.extBut b o (fun h=>hb (by simp[h])) eo,rfl,rfl,rfl,ht⟩
 done:=fun s Q E x hQ=>by
  have e:(xs.size:Int)-1-(xs.size:Int)= -1:=by omega
  have hit:=x.1
  rw[e]at hit
  exact wpAny_pyNext_rvt_end hh hit fun h' he'=>hQ {s with heap:=h'} ⟨fun b o hb eo=>he' b o (fun h=>hb (by simp[h])) eo,rfl,rfl,rfl,Nat.le_refl _⟩
 self:=fun _ _ _ _ x hQ=>wpAny_pyIter_rvt x.1 hQ
end
end PySem
namespace PySem
open PyProof.Rows
section
variable {prog:Program}{w:World}{A:Around}{E:Value→Shared→Prop}{s:Shared}
theorem call_rvt_hint {it l:Addr}{i:Int}{xs:Array Value}{Q:Value→Shared→Prop}(hit:s.heap.IsRvt it l i)(hl:IsTup s.heap l xs)(hz:(xs.size:Int)<2^63)(hi:i+1≤xs.size)
  (hQ:∀u tk,s.toks≤tk→Q (.int (i+1) u) {s with toks:=tk}):wpAny (model prog w) A (call (.builtin "reversed.__length_hint__") [.ref it]) Q E s:=by
 refine wpAny_call_entry F.slot_rvt_hint hit.typeIs F.entry_rvt_hint ?_ (F.args_rvt_hint _)
 unfold Builtin.«reversed.__length_hint__»
 refine wpAny_bind (wpAny_of_eq (a:=Value.ref it) rfl ?_)
 refine wpAny_bind (wpAny_field hit rfl (x:=.ref l) rfl ?_)
 rw[if_neg (show ¬((Value.ref l==Value.none)=true) from Bool.false_ne_true)]
 refine wpAny_bind (len_tuple hl hz ?_)
 refine wpAny_bind (m:=asInt? (.int _ _)) (wpAny_pure ?_)
 dsimp only
 refine wpAny_bind (wpAny_field (s:={s with toks:=_}) hit rfl (x:=rawInt i) rfl ?_)
 show wpAny _ _ (if((xs.size:Nat):Int)<i+1 then _ else retInt (i+1)) _ _ _
 rw[if_neg (by omega)]
 refine wpAny_bind (wpAny_mkInt (wpAny_pure ⟨_,rfl,?_⟩))
 exact hQ _ _ (by show s.toks≤s.toks+1+1+1;omega)
end
section
variable {prog:Program}{w:World}{A:Around}{s:Shared}{R:Result→Shared→Prop}
theorem wpAny_extend_rvt (hh:A.handled=none)(S I l:Addr)(res:Value)(c₀:Nat){xs:Array Value}(hn:xs.size≤sizeLine)(hlI:l≠I)(hSI:S≠I)(hSl:S≠l)(hit:s.heap.IsRvt I l ((xs.size:Int)-1))(hl:IsTup s.heap l xs)
  (hS:s.heap.get? S=some {cls:=.type "list",data:=.seq #[] c₀})
  (hR:∀s' acc' c',Moved [S,I] (fun a b=>a=b) s s'→s'.heap.get? S=some {cls:=.type "list",dict:=none,data:=.seq acc' c',slots:=#[]}→ItemsOf (fun i v=>xs[xs.size-1-i]?=some v) acc' xs.size→R (.ok (.ret res)) s'):
  wpAny (model prog w) A.in1 (Builtin.List.listExtendWith (.ref S) (.ref I) res)
   (fun fin s'=>match fin with|.done f=>R (.ok f) s'|.again c'=>c'.quiet=true∧codeAny (model prog w) A c' R s') (fun e s'=>R (.error e) s') s:=by
 have l63:=L2.line63
 have hz:(xs.size:Int)<2^63:=by omega
 have W:=WalksS.rvt (prog:=prog) (w:=w) (A:=A.in1) hh I l hlI xs hz
 have hSf:S∉[I,l]:=by simp[hSI,hSl]
 unfold Builtin.List.listExtendWith
 refine wpAny_bind (wpAny_typeOf hit.typeIs ?_)
 have h1:Builtin.List.listSameRef (.ref S) (.ref I)=false:=by simp[Builtin.List.listSameRef,hSI]
 have h2:(Value.type "reversed"==Value.type "list")=false:=by decide
 have h3:(Value.type "reversed"==Value.type "tuple")=false:=by decide
 simp only[h1,h2,h3,Bool.or_false,Bool.false_eq_true,if_false]
 refine wpAny_bind (wpAny_pyIter_rvt hit ?_)
 refine wpAny_bind (wpAny_holding ?_)
 unfold Builtin.List.listLengthHint
 refine wpAny_bind (wpAny_specialOf hit.typeIs F.nolen_rvt ?_)
 show wpAny _ A.in1 (specialOf (Value.ref I) (Str.ofString "__length_hint__")>>=_) _ _ _
 refine wpAny_bind (wpAny_specialOf hit.typeIs F.slot_rvt_hint.lookup ?_)
 (generalize hid:("reversed.__length_hint__":String)=id0;(fail_if_success (clear hid id0));wp_delta;rw[show splitId id0=some ("reversed","__length_hint__") from by subst hid;decide+kernel];subst hid)
 refine wpAny_bind (wpAny_isInstance (b:=true) hit.typeIs (by rw[isSubtype_type];kernel_rfl) ?_)
 rw[if_neg (by decide)]
 dsimp only
 rw[if_neg (by decide+kernel)]
 refine wpAny_bind (wpAny_rule ?_)
 refine wpAny_bind (wpAny_of_eq (F.slot_rvt_hint.bind _) ?_)
 dsimp only
 refine wpAny_bind (wpAny_attempt (call_rvt_hint hit hl hz (by omega) fun u tk htk=>?_))
 dsimp only
 refine wpAny_bind (m:=asInt? (.int _ _)) (wpAny_pure ?_)
 dsimp only
 have ei:((xs.size:Int)-1+1)=xs.size:=by omega
 rw[ei]
 have f1:Builtin.List.listFitsIndex (xs.size:Int)=true:=by unfold Builtin.List.listFitsIndex;simp;exact hz
 have f2:Builtin.List.listTooLong (xs.size:Int).toNat=false:=by unfold Builtin.List.listTooLong;simp;exact hn
 rw[if_neg (by rw[f1];decide),if_neg (by omega),if_neg (by rw[f2];decide)]
 refine wpAny_pure ?_
 have hit':Heap.IsRvt ({s with toks:=tk}:Shared).heap I l ((xs.size:Int)-1):=hit
 have key:∀(h':Heap) (c₁:Nat),h'.get? S=some {cls:=.type "list",data:=.seq #[] c₁}→(∀b o,b≠S→s.heap.get? b=some o→h'.get? b=some o)→
   codeAny (model prog w) A (.builtin "list.extend.loop" ⟨[.ref S, .ref I,res],[]⟩) R {s with heap:=h',toks:=tk}:=fun h' c₁ hS' kp=>by
  have st:(fun(i:Nat) (s:Shared)=>s.heap.IsRvt I l ((xs.size:Int)-1-(i:Int))∧IsTup s.heap l xs) 0 {s with heap:=h',toks:=tk}:=by
   refine⟨?_,?_⟩
   ·have e:(xs.size:Int)-1-((0:Nat):Int)=(xs.size:Int)-1:=by omega
    show Heap.IsRvt h' I l ((xs.size:Int)-1-((0:Nat):Int))
    rw[e]
    exact kp I _ (Ne.symm hSI) hit
   ·obtain⟨o,ho,r⟩:=hl
    exact⟨o,kp l _ (Ne.symm hSl) ho,r⟩
  refine codeAny_extend_loopS W hn S hSf res xs.size 0 _ #[] c₁ rfl (Nat.zero_le _) st hS' (ItemsOf.nil _) fun s' acc' c' hm hS'' hacc=>?_
  exact hR s' acc' c' ⟨fun b o hb e=>hm.heap b o hb (kp b o (fun z=>hb (by simp[z])) e),hm.gens,hm.drawn,hm.os,Nat.le_trans htk hm.toks⟩ hS'' hacc
 split
 ·refine wpAny_bind (wpAny_rule ?_)
  refine wpAny_bind ?_
  show wpAny _ A.in1 (updateSeq S (·.push .none)>>=fun _=>updateSeq S (·.pop)) _ _ _
  clear l63 hz f1 f2 ei hn
  refine wpAny_bind (wpAny_updateSeq (s:={s with toks:=tk}) hS rfl ?_)
  have hS₂:=Heap.get?_update_self (Obj.mapSeq (·.push Value.none)) hS rfl
  refine wpAny_updateSeq (hz:=by seq_fits) hS₂ rfl ?_
  have hS₃:=Heap.get?_update_self (Obj.mapSeq (·.pop)) hS₂ rfl
  exact wpAny_pure ⟨plainId_quiet F.plain_extend_loop _,key _ _ hS₃ fun b o hb e=>(Heap.get?_update_other _ _ (Ne.symm hb)).trans ((Heap.get?_update_other _ _ (Ne.symm hb)).trans e)⟩
 ·exact wpAny_pure ⟨plainId_quiet F.plain_extend_loop _,key _ _ hS fun b o _ e=>e⟩
theorem wpAny_list_init_rvt (hh:A.handled=none)(S I l:Addr){xs:Array Value}(hn:xs.size≤sizeLine)(hlI:l≠I)(hSI:S≠I)(hSl:S≠l)(hit:s.heap.IsRvt I l ((xs.size:Int)-1))(hl:IsTup s.heap l xs)
  (hS:s.heap.get? S=some {cls:=.type "list",data:=.seq #[]})
  (hR:∀s' acc' c',Moved [S,I] (fun a b=>a=b) s s'→s'.heap.get? S=some {cls:=.type "list",dict:=none,data:=.seq acc' c',slots:=#[]}→ItemsOf (fun i v=>xs[xs.size-1-i]?=some v) acc' xs.size→R (.ok (.ret .none)) s'):
  wpAny (model prog w) A.in1 (Builtin.«list.__init__» ⟨[.ref S, .ref I],[]⟩)
   (fun fin s'=>match fin with|.done f=>R (.ok f) s'|.again c'=>c'.quiet=true∧codeAny (model prog w) A c' R s') (fun e s'=>R (.error e) s') s:=by
 show wpAny _ A.in1 (do let old ←Builtin.List.listItems (.ref S);Builtin.List.listUpdate (.ref S) (fun _=>#[]);letGo old.toList.reverse;Builtin.List.listExtendWith (.ref S) (.ref I) .none) _ _ s
 refine wpAny_bind ?_
 unfold Builtin.List.listItems
 refine wpAny_bind (wpAny_seqItems hS rfl (wpAny_pure ?_))
 show wpAny _ A.in1 (updateSeq S (fun _=>#[])>>=fun _=>letGo (#[]:Array Value).toList.reverse>>=fun _=>Builtin.List.listExtendWith (.ref S) (.ref I) .none) _ _ s
 refine wpAny_bind (wpAny_updateSeq hS rfl ?_)
 have hS₂:=Heap.get?_update_self (Obj.mapSeq (fun _=>(#[]:Array Value))) hS rfl
 have oth:∀b o,b≠S→s.heap.get? b=some o→(s.heap.update S (Obj.mapSeq (fun _=>(#[]:Array Value)))).get? b=some o :=
  fun b o hb e=>(Heap.get?_update_other _ _ (Ne.symm hb)).trans e
 refine wpAny_bind (wpAny_letGo ?_)
 refine wpAny_extend_rvt hh S I l .none _ hn hlI hSI hSl (oth _ _ (Ne.symm hSI) hit) (by obtain⟨o,ho,r⟩:=hl;exact⟨o,oth _ _ (Ne.symm hSl) ho,r⟩) hS₂ fun s' acc' c' hm hS' hacc=>?_
 exact hR s' acc' c' ⟨fun b o hb e=>hm.heap b o hb (oth b o (fun z=>hb (by simp[z])) e),hm.gens,hm.drawn,hm.os,hm.toks⟩ hS' hacc
end
section
variable {prog:Program}{w:World}{A:Around}{E:Value→Shared→Prop}{s:Shared}
theorem call_list_rvt {Q:Value→Shared→Prop}(hh:A.handled=none)(I l:Addr){xs:Array Value}(hn:xs.size≤sizeLine)(hlI:l≠I)(hit:s.heap.IsRvt I l ((xs.size:Int)-1))(hl:IsTup s.heap l xs)
  (hQ:∀s' acc' c',Moved [s.heap.objs.size,I] (fun a b=>a=b) s s'→s'.heap.get? s.heap.objs.size=some {cls:=.type "list",dict:=none,data:=.seq acc' c',slots:=#[]}→ItemsOf (fun i v=>xs[xs.size-1-i]?=some v) acc' xs.size→Q (.ref s.heap.objs.size) s'):
  wpAny (model prog w) A (call (.type "list") [.ref I]) Q E s:=by
 refine callType_codes (Q₁:=fun obj s₁=>obj=.ref s.heap.objs.size∧s₁={s with heap:=s.heap.push {cls:=.type "list",data:=.seq #[]}}) F.called_list (F.typeCall_list_1 _) F.entry_list_init
  (code_list_new _ ⟨rfl,rfl⟩) fun obj s₁ h₁=>?_
 obtain⟨rfl,rfl⟩:=h₁
 have hS:(s.heap.push {cls:=.type "list",data:=.seq #[]}).get? s.heap.objs.size=some {cls:=.type "list",data:=.seq #[]}:=Heap.get?_push_size _ rfl
 have hSI:s.heap.objs.size≠I:=fun e=>Nat.lt_irrefl _ (by have:=Heap.lt_size hit;rw[←e]at this;exact this)
 have hSl:s.heap.objs.size≠l:=fun e=>by
  obtain⟨o,ho,_⟩:=hl
  have:=Heap.lt_size ho
  rw[←e]at this
  exact Nat.lt_irrefl _ this
 refine⟨⟨_,hS,rfl⟩,F.args_list_init_2 _ _,wpAny_list_init_rvt (A:=A.in1) (s:={s with heap:=s.heap.push {cls:=.type "list",data:=.seq #[]}}) hh _ I l hn hlI hSI hSl (Heap.get?_push_of_some _ hit) (hl.push _) hS fun s' acc' c' hm hS' hacc=>?_⟩
 exact⟨rfl,hQ s' acc' c' ⟨fun b o hb e=>hm.heap b o hb (Heap.get?_push_of_some _ e),hm.gens,hm.drawn,hm.os,hm.toks⟩ hS' hacc⟩
end
end PySem
namespace L2
open PySem PySem.Spec PyProof.Rows
section
variable {X:Cx}
theorem boot_rev:bootBuiltins "reversed"=some (.type "reversed"):=PyProof.Rows.boot_reversed
def tListRev (K:PySem.W.Frag)(te:TE):TE:=fun σ H Q=>te σ H fun x H1=>∃a xs,x=.ref a∧SqT K H1 a xs∧∀l,H1 l=none→Q (.ref l) (upd H1 l (.lst xs.reverse))
theorem Vals.of_get:∀{xs:List V} {us:List Value},xs.length=us.length→(∀(i:Nat) (x:V) (u:Value),xs[i]?=some x→us[i]?=some u→RelV x u)→Vals xs us
 |[],[],_,_=>.nil
 |[],_::_,h,_=>by simp at h
 |_::_,[],h,_=>by simp at h
 |x::xs,u::us,h,g=>.cons (g 0 x u rfl rfl) (Vals.of_get (by simpa using h) fun i a b e f=>g (i+1) a b (by simpa using e) (by simpa using f))
theorem pe_listRev {e:Expr}{te:TE}{p pos p2 pos2:Pos}(hc:X.calm=true)(hgl:Gl X "list")(hml:X.mg "list"=none)(hgr:Gl X "reversed")(hmr:X.mg "reversed"=none)(he:PE X e te)
  (hs1:starEach [Expr.Call (.Name "reversed" p2) [e] [] pos2] X.env=[(false,eval (Expr.Call (.Name "reversed" p2) [e] [] pos2) X.env)]:=by rfl) (hs2:starEach [e] X.env=[(false,eval e X.env)]:=by rfl):
  PE X (.Call (.Name "list" p) [.Call (.Name "reversed" p2) [e] [] pos2] [] pos) (tListRev X.K te):=by
 intro pins s σ H Q I h
 refine wpAny_Call_Name_kw (ld_blt I hgl hml boot_list ?_ (by decide) (by decide))
 refine PyProof.Rows.callWith_type1 ?_ hs1 rfl
 rw[hs1]
 refine Calls.spliced_cons ?_
 refine wpAny_Call_Name_kw (ld_blt I hgr hmr boot_rev ?_ (by decide) (by decide))
 refine PyProof.Rows.callWith_type1 ?_ hs2 rfl
 rw[hs2]
 refine Calls.spliced_cons (thn (he pins s σ H _ I h) fun u s1 ⟨x,H1,I1,r1,q1⟩=>?_)
 refine Calls.spliced_nil ?_
 obtain⟨a,xs,rfl,hq,q⟩:=q1
 cases r1
 obtain⟨its,rv,pt,hz⟩:=I1.tuple hq
 have hlen:=rv.length
 have h63:=line63
 refine call_reversed_tuple pt (by simp;omega) ?_
 refine Calls.spliced_nil ?_
 have ha:a<s1.heap.objs.size:=by obtain⟨o,ho,_⟩:=pt;exact Heap.lt_size ho
 refine call_list_rvt (I1.ok.hd hc) s1.heap.objs.size a (xs:=its.toArray) (by simp;omega) (Nat.ne_of_lt ha) (Heap.get?_push_size _ rfl) (pt.push _) fun s' acc c hm hS hacc=>?_
 obtain⟨h',g',d',t',o'⟩:=s'
 have eg:s1.gens=g':=hm.gens
 have ed:d'=s1.drawn:=hm.drawn
 have eo:o'=s1.os:=hm.os
 subst eg ed eo
 have sz:(s1.heap.push (rvtObj a (((its.toArray).size:Int)-1))).objs.size=s1.heap.objs.size+1:=Heap.size_push ..
 have kp:∀b o,s1.heap.get? b=some o→h'.get? b=some o:=fun b o e=>by
  have hb:=Heap.lt_size e
  refine hm.heap b o ?_ (Heap.get?_push_of_some _ e)
  simp only[List.mem_cons,List.not_mem_nil,or_false,not_or]
  exact⟨Nat.ne_of_lt (Nat.lt_of_lt_of_le hb (Nat.le_of_lt (by rw[sz];exact Nat.lt_succ_self _))),Nat.ne_of_lt hb⟩
 have va:Vals xs.reverse acc.toList:=by
  refine Vals.of_get (by rw[List.length_reverse,hlen];have:=hacc.1;simp at this;simp[this]) fun i x u e f=>?_
  have hi:i<xs.length:=by have:=(List.getElem?_eq_some_iff.mp e).1;simpa using this
  rw[List.getElem?_reverse hi]at e
  have f':acc[i]?=some u:=by simpa using f
  have g:=hacc.2 i u f'
  have g':its[xs.length-1-i]?=some u:=by
   have:its.toArray[its.toArray.size-1-i]?=some u:=g
   simp only[List.size_toArray,List.getElem?_toArray]at this
   rw[hlen];exact this
  obtain⟨u',hu',ru⟩:=rv.get e
  rw[g']at hu'
  cases hu'
  exact ru
 have ea:acc.toList.toArray=acc:=by simp
 refine⟨.ref _,_,I1.laid (t':=t') kp (a:=(s1.heap.push (rvtObj a (((its.toArray).size:Int)-1))).objs.size) (by rw[sz];exact Nat.le_succ _) (show ObjOk X.prog X.w _ h' _ (.lst xs.reverse) from⟨by simpa using hz,acc.toList,c,va,by rw[ea];exact hS⟩),rfl,q _ (I1.hok.fresh (by rw[sz];exact Nat.le_succ _))⟩
end
end L2
namespace PySem
open PyProof.Rows
section
variable {prog:Program}{w:World}{A:Around}{E:Value→Shared→Prop}{s:Shared}
theorem nextOfT_item {it t:Addr}{i:Nat}{xs:Array Value}{x:Value}{Q:Value→Shared→Prop}(hit:s.heap.IsTupleIter it t i)(ht:s.heap.IsTuple t xs)(hx:xs[i]?=some x)
  (hQ:∀h',h'.IsTupleIter it t (i+1)→Heap.SameBut it s.heap h'→Q x {s with heap:=h'}):wpAny (model prog w) A (Builtin.SmallTypes.nextOf (.ref it)) Q E s:=by
 obtain⟨o,ho,hc,hd⟩:=id hit
 obtain⟨u,hu,_,n,hn⟩:=ht
 unfold Builtin.SmallTypes.nextOf
 refine wpAny_bind (wpAny_callSpecial?_slot (name:=Str.ofString "__next__") hit.typeIs F.slot_tuple_iterator_next (wpAny_call_entry F.slot_tuple_iterator_next hit.typeIs F.entry_tuple_iterator_next ?_ (F.args_tuple_iterator_next_1 _)))
 show wpAny _ _ (field (.ref it) 0>>=_) _ _ s
 refine wpAny_bind (wpAny_field ho hd (x:=.ref t) rfl ?_)
 rw[if_neg (show ¬((Value.ref t==Value.none)=true) from Bool.false_ne_true)]
 show wpAny _ _ (field (.ref it) 1>>=_) _ _ s
 refine wpAny_bind (wpAny_field ho hd (x:=.int i 0) rfl ?_)
 show wpAny _ _ (seqItems? (.ref t)>>=_) _ _ s
 refine wpAny_bind (wpAny_seqItems hu hn ?_)
 simp only[Int.toNat_natCast,hx]
 refine wpAny_bind (wpAny_setField ho hd (by simp) (wpAny_pure ⟨x,rfl,wpAny_pure (hQ _ ⟨_,Heap.get?_update_self _ ho (Obj.isFreed_of_fields (Obj.data_mapFields hd _)),(Obj.cls_mapFields ..).trans hc,by rw[Obj.data_mapFields hd];simp[rawInt]⟩ (Heap.SameBut.update ..))⟩))
theorem nextOfT_end {it t:Addr}{i:Nat}{xs:Array Value}{Q:Value→Shared→Prop}(hh:A.handled=none)(hit:s.heap.IsTupleIter it t i)(ht:s.heap.IsTuple t xs)(hx:xs[i]?=none)
  (hE:∀h' e,Heap.ExtBut it s.heap h'→(∃o,h'.get? e=some o∧o.cls=.type "StopIteration")→E (.ref e) {s with heap:=h'}):wpAny (model prog w) A (Builtin.SmallTypes.nextOf (.ref it)) Q E s:=by
 obtain⟨o,ho,hc,hd⟩:=id hit
 obtain⟨u,hu,_,n,hn⟩:=ht
 unfold Builtin.SmallTypes.nextOf
 refine wpAny_bind (wpAny_callSpecial?_slot (name:=Str.ofString "__next__") hit.typeIs F.slot_tuple_iterator_next (wpAny_call_entry F.slot_tuple_iterator_next hit.typeIs F.entry_tuple_iterator_next ?_ (F.args_tuple_iterator_next_1 _)))
 show wpAny _ _ (field (.ref it) 0>>=_) _ _ s
 refine wpAny_bind (wpAny_field ho hd (x:=.ref t) rfl ?_)
 rw[if_neg (show ¬((Value.ref t==Value.none)=true) from Bool.false_ne_true)]
 show wpAny _ _ (field (.ref it) 1>>=_) _ _ s
 refine wpAny_bind (wpAny_field ho hd (x:=.int i 0) rfl ?_)
 show wpAny _ _ (seqItems? (.ref t)>>=_) _ _ s
 refine wpAny_bind (wpAny_seqItems hu hn ?_)
 simp only[Int.toNat_natCast,hx]
 refine wpAny_bind (wpAny_rule (wpAny_bind (wpAny_setField ho hd (by simp) ?_)))
 show wpAny _ _ (newExc (.type "StopIteration") []>>=_) _ _ _
 refine wpAny_bind ?_
 simp only[newExc,newTuple]
 refine wpAny_bind (wpAny_newObj_type ?_ (by size_fits))
 refine wpAny_bind (m:=firstArgMember _ _) (wpAny_of_eq (a:=Value.none) (by first|rfl|(simp only[firstArgMember];rfl)) ?_)
 refine wpAny_newObj_type ?_ (by size_fits)
 simp only[raiseNew]
 refine wpAny_bind (wpAny_handled ?_)
 first|rw[show A.in1.handled=none from hh]|rw[hh]
 exact wpAny_bind (wpAny_pure (wpAny_throw (hE _ _ (((Heap.SameBut.update ..).extBut.push _).push _) ⟨_,Heap.get?_push_size _ rfl,rfl⟩)))
structure ZipT (h:Heap)(z TI TO i1 i2 t1 t2:Addr)(k:Nat):Prop where
 nd:[z,TI,TO,i1,i2].Nodup
 zz:IsZip h z TI TO .none
 ti:IsPair h TI (.ref i1) (.ref i2)
 tO:∃a b,IsPair h TO a b
 j1:h.IsTupleIter i1 t1 k
 j2:h.IsTupleIter i2 t2 k
theorem zipT_item {z TI TO i1 i2 t1 t2:Addr}{k:Nat}{xs ys:Array Value}{x y:Value}{Q:Option Value→Shared→Prop}(Z:ZipT s.heap z TI TO i1 i2 t1 t2 k)(n1:t1∉[z,TO,i1,i2])(n2:t2∉[z,TO,i1,i2])
  (h1:s.heap.IsTuple t1 xs) (h2:s.heap.IsTuple t2 ys) (hx:xs[k]?=some x) (hy:ys[k]?=some y)
  (hQ:∀h',IsZip h' z TI TO (rawInt s.heap.objs.size)→IsPair h' TI (.ref i1) (.ref i2)→IsPair h' TO x y→h'.IsTupleIter i1 t1 (k+1)→h'.IsTupleIter i2 t2 (k+1)→IsPair h' s.heap.objs.size x y→h'.objs.size=s.heap.objs.size+1→
   (∀c o,c∉[z,TO,i1,i2]→s.heap.get? c=some o→h'.get? c=some o)→Q (some (.ref s.heap.objs.size)) {s with heap:=h'}):wpAny (model prog w) A (pyNext (.ref z)) Q E s:=by
 obtain⟨nd,zz,ti,⟨a,b,tO⟩,j1,j2⟩:=Z
 simp only[List.nodup_cons,List.mem_cons,List.not_mem_nil,or_false,not_or,List.nodup_nil,and_true,not_false_eq_true]at nd n1 n2
 obtain⟨⟨zTI,zTO,z1,z2⟩,⟨TITO,TI1,TI2⟩,⟨TO1,TO2⟩,i12⟩:=nd
 obtain⟨a1,a2,a3,a4⟩:=n1
 obtain⟨b1,b2,b3,b4⟩:=n2
 have hT:s.TypeIs (.ref z) "zip":=⟨_,zz,rfl⟩
 unfold pyNext
 refine wpAny_bind (wpAny_attempt (wpAny_callSpecial?_slot (name:=Str.ofString "__next__") hT F.slot_zip_next (wpAny_call_entry F.slot_zip_next hT F.entry_zip_next ?_ (F.args_zip_next_1 _))))
 show wpAny _ _ (field (.ref z) 2>>=_) _ _ _
 refine wpAny_bind (wpAny_field zz rfl (x:=.bool false) rfl ?_)
 show wpAny _ _ (field (.ref z) 3>>=_) _ _ _
 refine wpAny_bind (wpAny_field zz rfl (x:=.ref TI) rfl (wpAny_bind (wpAny_seqItems ti rfl ?_)))
 show wpAny _ _ (Builtin.SmallTypes.ownedTupleIsFree (.ref z)>>=_) _ _ _
 refine wpAny_bind ?_
 unfold Builtin.SmallTypes.ownedTupleIsFree
 refine wpAny_bind (wpAny_field zz rfl (x:=.none) rfl (wpAny_pure ?_))
 simp only[if_true]
 refine wpAny_bind (wpAny_rule (wpAny_bind (wpAny_field zz rfl (x:=.ref TO) rfl (wpAny_bind (wpAny_setField_rec zz (by simp) fun g1 q1 r1=>?_)))))
 replace q1:IsZip g1 z TI TO .ellipsis:=q1
 refine wpAny_bind ?_
 simp only[List.zipIdx_cons,List.zipIdx_nil,List.forIn_cons,List.forIn_nil]
 refine wpAny_bind (wpAny_bind (wpAny_onRaise ?_))
 show wpAny _ _ (Builtin.SmallTypes.nextOf (.ref i1)>>=_) _ _ _
 refine wpAny_bind (nextOfT_item (j1.extBut r1.extBut (Ne.symm z1)) (h1.extBut r1.extBut a1) hx fun g2 q2 r2=>wpAny_pure ?_)
 have tO2:IsPair g2 TO a b:=r2.extBut _ _ TO1 (r1.extBut _ _ (Ne.symm zTO) tO)
 refine wpAny_bind (wpAny_seqItems tO2 rfl (wpAny_bind (wpAny_updateSeq_pair tO2 fun g3 q3 r3=>?_)))
 replace q3:IsPair g3 TO x b:=q3
 refine wpAny_bind (wpAny_letGo (wpAny_pure ?_))
 refine wpAny_bind (wpAny_bind (wpAny_onRaise ?_))
 show wpAny _ _ (Builtin.SmallTypes.nextOf (.ref i2)>>=_) _ _ _
 refine wpAny_bind (nextOfT_item (((j2.extBut r1.extBut (Ne.symm z2)).extBut r2.extBut (Ne.symm i12)).extBut r3.extBut (Ne.symm TO2)) (((h2.extBut r1.extBut b1).extBut r2.extBut b3).extBut r3.extBut b2) hy fun g4 q4 r4=>wpAny_pure ?_)
 have tO4:IsPair g4 TO x b:=r4.extBut _ _ TO2 q3
 refine wpAny_bind (wpAny_seqItems tO4 rfl (wpAny_bind (wpAny_updateSeq_pair tO4 fun g5 q5 r5=>?_)))
 replace q5:IsPair g5 TO x y:=q5
 refine wpAny_bind (wpAny_letGo (wpAny_pure (wpAny_pure ?_)))
 refine wpAny_bind (wpAny_seqItems q5 rfl (wpAny_bind (wpAny_newTuple ?_)))
 have sz:g5.objs.size=s.heap.objs.size:=by rw[r5.1,r4.1,r3.1,r2.1,r1.1]
 have kp5:∀c o,c≠z→c≠TO→c≠i1→c≠i2→s.heap.get? c=some o→g5.get? c=some o:=fun c o c1 c2 c3 c4 e=>r5.extBut _ _ c2 (r4.extBut _ _ c4 (r3.extBut _ _ c2 (r2.extBut _ _ c3 (r1.extBut _ _ c1 e))))
 have zz5:IsZip g5 z TI TO .ellipsis:=r5.extBut _ _ zTO (r4.extBut _ _ z2 (r3.extBut _ _ zTO (r2.extBut _ _ z1 q1)))
 have k15:g5.IsTupleIter i1 t1 (k+1):=((q2.extBut r3.extBut (Ne.symm TO1)).extBut r4.extBut i12).extBut r5.extBut (Ne.symm TO1)
 have k25:g5.IsTupleIter i2 t2 (k+1):=q4.extBut r5.extBut (Ne.symm TO2)
 have ti5:IsPair g5 TI (.ref i1) (.ref i2):=kp5 _ _ (Ne.symm zTI) TITO TI1 TI2 ti
 show wpAny _ _ (Builtin.SmallTypes.ownedTupleHandOut (.ref z) (.ref g5.objs.size)>>=_) _ _ _
 refine wpAny_bind ?_
 unfold Builtin.SmallTypes.ownedTupleHandOut
 refine wpAny_bind (wpAny_setField_rec (Heap.get?_push_of_some _ zz5) (by simp) fun g7 q7 r7=>?_)
 replace q7:IsZip g7 z TI TO (rawInt g5.objs.size):=q7
 refine wpAny_setField_rec q7 (by simp) fun g8 q8 r8=>?_
 replace q8:IsZip g8 z TI TO (rawInt g5.objs.size):=q8
 have up:∀c o,c≠z→g5.get? c=some o→g8.get? c=some o:=fun c o c1 e=>r8.extBut _ _ c1 (r7.extBut _ _ c1 (Heap.get?_push_of_some _ e))
 have new:IsPair g8 g5.objs.size x y:=r8.extBut _ _ (Nat.ne_of_gt (Heap.lt_size zz5)) (r7.extBut _ _ (Nat.ne_of_gt (Heap.lt_size zz5)) (Heap.get?_push_size _ rfl))
 have sz8:g8.objs.size=s.heap.objs.size+1:=by rw[r8.1,r7.1,Heap.size_push,sz]
 rw[sz]at q8 new
 refine wpAny_pure ⟨_,rfl,?_⟩
 refine wpAny_pure ?_
 show Q (some (.ref g5.objs.size)) _
 rw[sz]
 exact hQ g8 q8 (up _ _ (Ne.symm zTI) ti5) (up _ _ (Ne.symm zTO) q5) (let ⟨o,e,r⟩:=k15;⟨o,up _ o (Ne.symm z1) e,r⟩) (let ⟨o,e,r⟩:=k25;⟨o,up _ o (Ne.symm z2) e,r⟩) new sz8 fun c o hc e=>by
  simp only[List.mem_cons,List.not_mem_nil,or_false,not_or]at hc
  exact up c o hc.1 (kp5 c o hc.1 hc.2.1 hc.2.2.1 hc.2.2.2 e)
theorem zipT_end {z TI TO i1 i2 t1 t2:Addr}{k:Nat}{xs:Array Value}{Q:Option Value→Shared→Prop}(hh:A.handled=none)(Z:ZipT s.heap z TI TO i1 i2 t1 t2 k)(n1:t1∉[z,TO,i1,i2])
  (h1:s.heap.IsTuple t1 xs) (hx:xs[k]?=none) (hQ:∀h',(∀c o,c∉[z,TO,i1,i2]→s.heap.get? c=some o→h'.get? c=some o)→Q none {s with heap:=h'}):wpAny (model prog w) A (pyNext (.ref z)) Q E s:=by
 obtain⟨nd,zz,ti,⟨a,b,tO⟩,j1,j2⟩:=Z
 simp only[List.nodup_cons,List.mem_cons,List.not_mem_nil,or_false,not_or,List.nodup_nil,and_true,not_false_eq_true]at nd n1
 obtain⟨⟨zTI,zTO,z1,z2⟩,⟨TITO,TI1,TI2⟩,⟨TO1,TO2⟩,i12⟩:=nd
 obtain⟨a1,a2,a3,a4⟩:=n1
 have hT:s.TypeIs (.ref z) "zip":=⟨_,zz,rfl⟩
 unfold pyNext
 refine wpAny_bind (wpAny_attempt (wpAny_callSpecial?_slot (name:=Str.ofString "__next__") hT F.slot_zip_next (wpAny_call_entry F.slot_zip_next hT F.entry_zip_next ?_ (F.args_zip_next_1 _))))
 show wpAny _ _ (field (.ref z) 2>>=_) _ _ _
 refine wpAny_bind (wpAny_field zz rfl (x:=.bool false) rfl ?_)
 show wpAny _ _ (field (.ref z) 3>>=_) _ _ _
 refine wpAny_bind (wpAny_field zz rfl (x:=.ref TI) rfl (wpAny_bind (wpAny_seqItems ti rfl ?_)))
 show wpAny _ _ (Builtin.SmallTypes.ownedTupleIsFree (.ref z)>>=_) _ _ _
 refine wpAny_bind ?_
 unfold Builtin.SmallTypes.ownedTupleIsFree
 refine wpAny_bind (wpAny_field zz rfl (x:=.none) rfl (wpAny_pure ?_))
 simp only[if_true]
 refine wpAny_bind (wpAny_rule (wpAny_bind (wpAny_field zz rfl (x:=.ref TO) rfl (wpAny_bind (wpAny_setField_rec zz (by simp) fun g1 q1 r1=>?_)))))
 replace q1:IsZip g1 z TI TO .ellipsis:=q1
 refine wpAny_bind ?_
 simp only[List.zipIdx_cons,List.zipIdx_nil,List.forIn_cons,List.forIn_nil]
 refine wpAny_bind (wpAny_bind (wpAny_onRaise ?_))
 show wpAny _ _ (Builtin.SmallTypes.nextOf (.ref i1)>>=_) _ _ _
 refine wpAny_bind (nextOfT_end hh (j1.extBut r1.extBut (Ne.symm z1)) (h1.extBut r1.extBut a1) hx fun g2 e r2 he=>?_)
 obtain⟨oe,ho,hc⟩:=he
 have zz2:IsZip g2 z TI TO .ellipsis:=r2 _ _ z1 q1
 have ez:e≠z:=fun q=>by subst q;rw[zz2]at ho;cases ho;simp at hc
 refine wpAny_setField_rec (s:={s with heap:=g2}) zz2 (by simp) fun g3 q3 r3=>?_
 refine wpAny_bind (wpAny_isInstance (T:="StopIteration") (b:=true) ⟨oe,r3.extBut _ _ ez ho,hc⟩ isSubtype_stop ?_)
 exact wpAny_pure (hQ _ fun c o hcc e=>by
  simp only[List.mem_cons,List.not_mem_nil,or_false,not_or]at hcc
  exact r3.extBut _ _ hcc.1 (r2 _ _ hcc.2.2.1 (r1.extBut _ _ hcc.1 e)))
abbrev zt1 (h:Heap)(t1:Addr):Heap:=h.push {cls:=.type "tuple_iterator",data:=.fields #[.ref t1, .int 0 0]}
abbrev zt2 (h:Heap)(t1 t2:Addr):Heap:=(zt1 h t1).push {cls:=.type "tuple_iterator",data:=.fields #[.ref t2, .int 0 0]}
abbrev zt3 (h:Heap)(t1 t2:Addr):Heap:=(zt2 h t1 t2).push {cls:=.type "tuple",data:=.seq #[.ref h.objs.size, .ref (zt1 h t1).objs.size]}
abbrev zt4 (h:Heap)(t1 t2:Addr):Heap:=(zt3 h t1 t2).push {cls:=.type "tuple",data:=.seq #[.none, .none]}
abbrev zt5 (h:Heap)(t1 t2:Addr):Heap:=(zt4 h t1 t2).push {cls:=.type "zip",data:=.fields #[.none, .bool false, .bool false, .ref (zt2 h t1 t2).objs.size, .ref (zt3 h t1 t2).objs.size]}
theorem meets_zipT (t1 t2:Addr)(xs ys:Array Value):
  Meets (Builtin.«zip.__new__» ⟨[.type "zip", .ref t1, .ref t2],[]⟩) (fun _ R s=>s.heap.IsTuple t1 xs∧s.heap.IsTuple t2 ys∧R (.ok (.ret (.ref (zt4 s.heap t1 t2).objs.size))) {s with heap:=zt5 s.heap t1 t2}) :=
 .of_wp fun prog w A R s h=>by
  obtain⟨hp,g,d,tk,os⟩:=s
  obtain⟨h1,h2,h⟩:=h
  have hsub:=sub_zip
  have q1:Heap.IsTuple (Shared.heap ⟨hp,g,d,tk,os⟩) t1 xs:=h1
  have q2:Heap.IsTuple (Shared.heap ⟨hp.push {cls:=.type "tuple_iterator",data:=.fields #[.ref t1, .int 0 0]},g,d,tk,os⟩) t2 ys:=Heap.IsTuple.push h2 _
  wp_walk using wpAny_pyIter_tuple q1,wpAny_pyIter_tuple q2
  exact⟨_,rfl,h⟩
theorem call_zipT {t1 t2:Addr}{xs ys:Array Value}{Q:Value→Shared→Prop}(h1:s.heap.IsTuple t1 xs)(h2:s.heap.IsTuple t2 ys)
  (h:∀h' z TI TO i1 i2,s.heap.objs.size≤z→s.heap.objs.size≤TI→s.heap.objs.size≤TO→s.heap.objs.size≤i1→s.heap.objs.size≤i2→ZipT h' z TI TO i1 i2 t1 t2 0→(∀c o,s.heap.get? c=some o→h'.get? c=some o)→Q (.ref z) {s with heap:=h'}):
  wpAny (model prog w) A (call (.type "zip") [.ref t1, .ref t2]) Q E s:=by
 refine callType_new F.called_zip (by decide) (F.typeCall_zip_2 _ _) (F.newCall_zip_2 _ _) (fun obj=>F.args_object_init_3 obj _ _) F.entry_zip_new (meets_zipT t1 t2 xs ys) ⟨h1,h2,?_⟩
 have z1:(zt1 s.heap t1).objs.size=s.heap.objs.size+1:=Heap.size_push ..
 have z2:(zt2 s.heap t1 t2).objs.size=s.heap.objs.size+2:=by rw[Heap.size_push,z1]
 have z3:(zt3 s.heap t1 t2).objs.size=s.heap.objs.size+3:=by rw[Heap.size_push,z2]
 have z4:(zt4 s.heap t1 t2).objs.size=s.heap.objs.size+4:=by rw[Heap.size_push,z3]
 have p5:(zt5 s.heap t1 t2).get? (zt4 s.heap t1 t2).objs.size=some _:=Heap.get?_push_size _ rfl
 have p4:(zt5 s.heap t1 t2).get? (zt3 s.heap t1 t2).objs.size=some _:=Heap.get?_push_of_some _ (Heap.get?_push_size _ rfl)
 have p3:(zt5 s.heap t1 t2).get? (zt2 s.heap t1 t2).objs.size=some _:=Heap.get?_push_of_some _ (Heap.get?_push_of_some _ (Heap.get?_push_size _ rfl))
 have p2:(zt5 s.heap t1 t2).get? (zt1 s.heap t1).objs.size=some _:=Heap.get?_push_of_some _ (Heap.get?_push_of_some _ (Heap.get?_push_of_some _ (Heap.get?_push_size _ rfl)))
 have p1:(zt5 s.heap t1 t2).get? s.heap.objs.size=some _:=Heap.get?_push_of_some _ (Heap.get?_push_of_some _ (Heap.get?_push_of_some _ (Heap.get?_push_of_some _ (Heap.get?_push_size _ rfl))))
 refine⟨⟨_,p5,rfl⟩,h _ _ _ _ _ _ ?_ ?_ ?_ (Nat.le_refl _) ?_ ⟨?_,p5,p3,⟨_,_,p4⟩,⟨_,p1,rfl,rfl⟩,⟨_,p2,rfl,rfl⟩⟩ fun c o e=>Heap.get?_push_of_some _ (Heap.get?_push_of_some _ (Heap.get?_push_of_some _ (Heap.get?_push_of_some _ (Heap.get?_push_of_some _ e))))⟩
 ·rw[z4];exact Nat.le_add_right _ _
 ·rw[z2];exact Nat.le_add_right _ _
 ·rw[z3];exact Nat.le_add_right _ _
 ·rw[z1];exact Nat.le_add_right _ _
 ·rw[z1,z2,z3,z4]
  generalize s.heap.objs.size=n
  simp only[List.nodup_cons,List.mem_cons,List.not_mem_nil,or_false,not_or,List.nodup_nil,and_true,not_false_eq_true]
  refine⟨⟨?_,?_,?_,?_⟩,⟨?_,?_,?_⟩,⟨?_,?_⟩,?_⟩<;>(intro q;simp at q)
end
end PySem
namespace L2
open PySem PySem.Spec PyProof.Rows
def compOkM (osc:Scope)(N:List Str)(frees:List Str)(idx:List Nat)(scope:Scope):Bool :=
 scope.kind==.function&&(scope.names.all (fun y=>y.2 !=.cell)&&(scope.names.all (fun y=>y.2 !=.local||scope.names.lookup y.1==some .local)&&(scope.names.all (fun y=>y.2 !=.free||(osc.names.lookup y.1==some .cell||osc.names.lookup y.1==some .free))&&
 (idx.length==frees.length&&((idx.zip frees).all (fun p=>N[p.1]?==some p.2)&&frees.all (fun y=>scope.names.lookup y==some .free))))))
theorem compOkM_scope {X:Cx}{osc:Scope}{N:List Str}{frees:List Str}{idx:List Nat}{scope:Scope}(h:compOkM osc N frees idx scope=true)(ho:X.env.scope=osc)(hN:X.N=N):
  CompScopeM X frees idx scope∧∀y∈frees,scope.names.lookup y=some .free:=by
 unfold compOkM at h
 simp only[Bool.and_eq_true,List.all_eq_true,Bool.or_eq_true,bne_iff_ne,beq_iff_eq,decide_eq_true_eq]at h
 obtain⟨h1,h2,h3,h4,h7,h8,h9⟩:=h
 have fl:∀y∈frees,scope.names.lookup y=some .free:=fun y hy=>h9 y hy
 refine⟨⟨h1,h2,fun y hy e=>?_,fun y hy e=>?_,fun j y hj=>?_,h7,fun y hy=>mem_of_lookup' (fl y hy)⟩,fl⟩
 ·rcases h3 y hy with q|q
  ·exact absurd e q
  ·exact q
 ·have q:osc.names.lookup y.1=some .cell∨osc.names.lookup y.1=some .free:=by
   rcases h4 y hy with q|q
   ·exact absurd e q
   ·exact q
  rw[←ho]at q
  exact q
 ·obtain⟨k,e1,e2⟩:=zip_get h7 hj
  exact⟨k,e1,by rw[hN];exact h8 (k,y) e2⟩
theorem pe_lcM {X:Cx}{elt iter tg:Expr}{pos:Pos}{ifs:List Expr}{scope:Scope}{wi:TI}{g:TG}{tt:TT}{te:TE}(osc:Scope)(N:List Str)(M frees:List Str)(idx:List Nat)
  (hk:compOkM osc N frees idx scope=true) (hi:PI X tg iter wi) (hg:∀C s₀ H₀ ex,PG (cxComp X (M++frees) scope C s₀ H₀ ex) tg g)
  (ht:∀C s₀ H₀ ex,PTs (cxComp X (M++frees) scope C s₀ H₀ ex) ifs tt) (he:∀C s₀ H₀ ex,PE (cxComp X (M++frees) scope C s₀ H₀ ex) elt te)
  (ho:X.env.scope=osc:=by rfl) (hN:X.N=N:=by rfl) (hc:X.calm=true:=by rfl) (hs:∀v,foldedSetIterable iter X.env v=pure v:=by intro _;rfl):PE X (.ListComp elt [⟨tg,iter,ifs,0⟩] scope pos) (tCompM M.length idx wi g tt te):=by
 obtain⟨S,fl⟩:=compOkM_scope (X:=X) hk ho hN
 exact pe_lcompM (qt:=Calm) (fun _ _ _ _=>hc) S fl hi hg ht he hs
section
variable {X:Cx}{pins:List (Addr×Obj)}{σ:St}{H:Hp}{s:Shared}{h':Heap}
theorem Inv.turnedL {t':Nat}{ch:List Addr}(I:Inv X pins σ H s)(k:∀b o,b∉ch→s.heap.get? b=some o→h'.get? b=some o)(hf:∀b∈ch,FpOk X pins H b):Inv X pins σ H {s with heap:=h',toks:=t'}:=by
 have nit:∀b u,H b=some u→b∉ch:=fun b u e z=>by rw[(hf b z).1]at e;cases e
 refine I.step (g':=s.gens) (d':=s.drawn) (ch:=ch) (fun b hb=>?_) (fun b o _ _ hc e _=>k b o hc e) (fun b o _ _ hc e _=>⟨o.slots,k b o hc e⟩) (fun _ _ _ _ n=>n)
  (fun b o hc e=>⟨o,k b o hc e⟩) (fun _ _ e=>e) (fun _ _ _ e=>e) (fun b ps e=>⟨#[],by rw[e];simp⟩) (fun m hm=>?_) (fun b u e=>?_) I.bare
 ·obtain⟨f0,f1,f2,f3,f4,f5⟩:=hf b hb
  exact⟨f3,f1,f4,f5⟩
 ·obtain⟨o,es,ep,ho,r⟩:=hm
  exact⟨o,es,ep,k _ o (fun z=>(hf _ z).2.1 rfl) ho,r⟩
 ·refine(I.hok b u e).stay (fun c v hc q=>k c v ?_ q) (fun _ q=>q) fun _ _ q=>q
  rcases hc with z|z
  ·rw[z];exact nit b u e
  ·exact nit c _ z
theorem Inv.trackT {D:Addr}{vs:List V}{its:List Value}(I:Inv X pins σ H s)(hf:FpOk X pins H D)(hz:vs.length≤sizeLine)(hv:Vals vs its)(e:IsTup s.heap D its.toArray):Inv X pins σ (upd H D (.tup vs)) s:=by
 obtain⟨hD,h2,_,h1,h3,h4⟩:=hf
 obtain⟨hh,g,d,t,o⟩:=s
 have nD:∀b u,H b=some u→b≠D:=fun b u q z=>by rw[z,hD]at q;cases q
 refine I.step (g':=g) (d':=d) (t':=t) (h':=hh) (ch:=[D]) (fun b hb=>?_) (fun b o _ _ _ q _=>q) (fun b o _ _ _ q _=>⟨o.slots,q⟩) (fun b o hb q n=>?_) (fun b o _ q=>⟨o,q⟩)
  (fun b xs q=>by rw[upd_ne (nD b _ q)];exact q) (fun b o u q=>by rw[upd_ne (nD b _ q)];exact q) (fun b ps q=>⟨#[],by rw[upd_ne (nD b _ q),q];simp⟩) (fun m q=>q) (fun b u q=>?_) I.bare
 ·have z:b=D:=by simpa using hb
  subst z
  exact⟨h1,h2,h3,h4⟩
 ·rw[upd_ne (by simpa using hb)];exact n
 ·by_cases z:b=D
  ·subst z
   rw[upd_same]at q;cases q
   exact⟨hz,its,hv,e⟩
  ·rw[upd_ne z]at q
   exact(I.hok b u q).stay (fun _ _ _ q=>q) (fun c q=>by rw[upd_ne (nD c _ q)];exact q) fun c xs q=>by rw[upd_ne (nD c _ q)];exact q
end
def Itz (a b:Addr):It :=
 ⟨fun i H=>∃xs ys x y,H a=some (.tup xs)∧H b=some (.tup ys)∧xs[i]?=some x∧ys[i]?=some y,
  fun i H v H'=>∃(T:Addr) (xs ys:List V) (x y:V),H a=some (.tup xs)∧H b=some (.tup ys)∧xs[i]?=some x∧ys[i]?=some y∧H T=none∧v=.ref T∧H'=upd H T (.tup [x,y]),
  fun i H=>∃xs,H a=some (.tup xs)∧xs.length≤i⟩
theorem turn_zip {P:Program}{w:World}{K:PySem.W.Frag}{elts:List Expr}{x1}{pos:Pos}(a b z TI TO i1 i2:Addr):Turn P w K (.Tuple elts x1 pos) (Itz a b) [z,TI,TO,i1,i2] z (fun i h=>ZipT h z TI TO i1 i2 a b i) where
 mem:=by simp
 obj:=fun i h st c hc=>by
  simp only[List.mem_cons,List.not_mem_nil,or_false]at hc
  obtain⟨nd,zz,ti,⟨u,v,tO⟩,⟨o1,j1,c1,d1⟩,⟨o2,j2,c2,d2⟩⟩:=st
  rcases hc with rfl|rfl|rfl|rfl|rfl
  ·exact⟨_,zz,fun v q=>by cases q⟩
  ·exact⟨_,ti,fun v q=>by cases q⟩
  ·exact⟨_,tO,fun v q=>by cases q⟩
  ·exact⟨o1,j1,fun v q=>by rw[d1]at q;cases q⟩
  ·exact⟨o2,j2,fun v q=>by rw[d2]at q;cases q⟩
 keep:=fun i h h' st k=>by
  obtain⟨nd,zz,ti,⟨u,v,tO⟩,⟨o1,j1,r1⟩,⟨o2,j2,r2⟩⟩:=st
  exact⟨nd,k _ (by simp) _ zz,k _ (by simp) _ ti,⟨u,v,k _ (by simp) _ tO⟩,⟨o1,k _ (by simp) _ j1,r1⟩,⟨o2,k _ (by simp) _ j2,r2⟩⟩
 item:=by
  intro X hP hw hK hc i pins s σ H E I hf st hg
  subst hP hw hK
  obtain⟨xs,ys,x,y,ha,hb,hx,hy⟩:=hg
  obtain⟨its1,rv1,p1,z1⟩:=I.tuple (SqT.of ha)
  obtain⟨its2,rv2,p2,z2⟩:=I.tuple (SqT.of hb)
  obtain⟨u1,hu1,ru1⟩:=rv1.get hx
  obtain⟨u2,hu2,ru2⟩:=rv2.get hy
  have sub:∀c∈[z,TO,i1,i2],c∈[z,TI,TO,i1,i2]:=fun c hc=>by
   simp only[List.mem_cons,List.not_mem_nil,or_false]at hc ⊢
   rcases hc with h|h|h|h
   ·exact .inl h
   ·exact .inr (.inr (.inl h))
   ·exact .inr (.inr (.inr (.inl h)))
   ·exact .inr (.inr (.inr (.inr h)))
  have no:∀c u,H c=some u→c∉[z,TO,i1,i2]:=fun c u e q=>by rw[(hf c (sub c q)).1]at e;cases e
  have lt:∀c∈[z,TI,TO,i1,i2],c<s.heap.objs.size:=fun c hc=>by
   simp only[List.mem_cons,List.not_mem_nil,or_false]at hc
   obtain⟨nd,zz,ti,⟨u,v,tO⟩,⟨o1,j1,c1,d1⟩,⟨o2,j2,c2,d2⟩⟩:=st
   rcases hc with rfl|rfl|rfl|rfl|rfl
   ·exact Heap.lt_size zz
   ·exact Heap.lt_size ti
   ·exact Heap.lt_size tO
   ·exact Heap.lt_size j1
   ·exact Heap.lt_size j2
  refine zipT_item st (no a _ ha) (no b _ hb) (show s.heap.IsTuple a its1.toArray from p1) (show s.heap.IsTuple b its2.toArray from p2) (x:=u1) (y:=u2) (by simpa using hu1) (by simpa using hu2) fun h' q1 q2 q3 q4 q5 q6 _ kp=>⟨_,rfl,?_⟩
  refine wpAny_letOwnedTupleGo_zip (s:={s with heap:=h'}) q1 fun h2 q7 r7=>?_
  have nd:=st.nd
  have I1:Inv X pins σ H {s with heap:=h2}:=I.turnedL (t':=s.toks) (ch:=[z,TO,i1,i2]) (fun c o hc e=>r7.extBut c o (fun q=>hc (by simp[q])) (kp c o hc e)) fun c hc=>hf c (sub c hc)
  have fr:H s.heap.objs.size=none:=I.hok.fresh (Nat.le_refl _)
  have ne:∀c∈[z,TI,TO,i1,i2],c≠s.heap.objs.size:=fun c hc q=>by have:=lt c hc;rw[q]at this;exact Nat.lt_irrefl _ this
  have I2:=I1.trackT (D:=s.heap.objs.size) (vs:=[x,y]) (its:=[u1,u2]) (I.fpOk (Nat.le_refl _) fr) (by show 2≤sizeLine;rw[sizeLine_eq];decide) (.cons ru1 (.cons ru2 .nil)) ⟨_,r7.extBut _ _ (Ne.symm (ne z (by simp))) q6,rfl,_,rfl⟩
  simp only[List.nodup_cons,List.mem_cons,List.not_mem_nil,or_false,not_or,List.nodup_nil,and_true,not_false_eq_true]at nd
  obtain⟨⟨zTI,zTO,z1',z2'⟩,_⟩:=nd
  refine⟨.ref s.heap.objs.size,_,I2,rfl,⟨_,xs,ys,x,y,ha,hb,hx,hy,fr,rfl,rfl⟩,⟨st.nd,q7,r7.extBut _ _ (Ne.symm zTI) q2,⟨_,_,r7.extBut _ _ (Ne.symm zTO) q3⟩,q4.extBut r7.extBut (Ne.symm z1'),q5.extBut r7.extBut (Ne.symm z2')⟩,fun c hc=>?_⟩
  rw[upd_ne (ne c hc)]
  exact(hf c hc).1
 done:=by
  intro X hP hw hK hc i pins s σ H E I hf st hg
  subst hP hw hK
  obtain⟨xs,ha,hx⟩:=hg
  obtain⟨its1,rv1,p1,z1⟩:=I.tuple (SqT.of ha)
  have hl:=rv1.length
  have sub:∀c∈[z,TO,i1,i2],c∈[z,TI,TO,i1,i2]:=fun c hc=>by
   simp only[List.mem_cons,List.not_mem_nil,or_false]at hc ⊢
   rcases hc with h|h|h|h
   ·exact .inl h
   ·exact .inr (.inr (.inl h))
   ·exact .inr (.inr (.inr (.inl h)))
   ·exact .inr (.inr (.inr (.inr h)))
  have no:∀c u,H c=some u→c∉[z,TO,i1,i2]:=fun c u e q=>by rw[(hf c (sub c q)).1]at e;cases e
  exact zipT_end (I.ok.hd hc) st (no a _ ha) (show s.heap.IsTuple a its1.toArray from p1) (by simp;exact Nat.le_trans (Nat.le_of_eq hl.symm) hx) fun h' kp=>⟨rfl,I.turnedL (t':=s.toks) (ch:=[z,TO,i1,i2]) kp fun c hc=>hf c (sub c hc)⟩
 self:=fun _ _ _ _ _ st h=>wpAny_pyIter_zip st.zz h
theorem boot_zip':bootBuiltins "zip"=some (.type "zip"):=by decide+kernel
def iZip (ta:TA):TI:=fun σ H R=>ta σ H fun vs H1=>∃a b xs ys,vs=[.ref a, .ref b]∧H1 a=some (.tup xs)∧H1 b=some (.tup ys)∧R (Itz a b) H1
theorem pi_zip {X:Cx}{e1 e2:Expr}{ta:TA}{p pos pt:Pos}{elts:List Expr}{x1}(hg:Gl X "zip")(hm:X.mg "zip"=none)(ha:PA X [e1,e2] ta)
  (hs:starEach [e1,e2] X.env=[(false,eval e1 X.env),(false,eval e2 X.env)]:=by rfl) (hs2:starEach [e2] X.env=[(false,eval e2 X.env)]:=by rfl):PI X (.Tuple elts x1 pt) (.Call (.Name "zip" p) [e1,e2] [] pos) (iZip ta):=by
 intro pins s σ H R I h
 refine Call_ (ld_blt I hg hm boot_zip' (PyProof.Rows.callWith_type1 (thn (ha pos pins s σ H _ I h) fun us s1 ⟨vs,H1,I1,r1,q1⟩=>?_) (by rw[hs,hs2]) (by rw[hs2];rfl)))
 obtain⟨a,b,xs,ys,rfl,h1,h2,q⟩:=q1
 cases r1 with
 |cons r rr=>
  cases rr with
  |cons r' rr=>
   cases rr
   cases r
   cases r'
   obtain⟨its1,rv1,p1,z1⟩:=I1.tuple (SqT.of h1)
   obtain⟨its2,rv2,p2,z2⟩:=I1.tuple (SqT.of h2)
   refine call_zipT (show s1.heap.IsTuple a its1.toArray from p1) (show s1.heap.IsTuple b its2.toArray from p2) fun h' z TI TO i1 i2 l1 l2 l3 l4 l5 Z kp=>?_
   refine wpAny_pyIter_zip (s:={s1 with heap:=h'}) Z.zz ?_
   refine⟨z,[z,TI,TO,i1,i2],_,_,H1,rfl,I1.kept (t':=s1.toks) kp,turn_zip a b z TI TO i1 i2,Z,fun c hc=>?_,q⟩
   simp only[List.mem_cons,List.not_mem_nil,or_false]at hc
   rcases hc with rfl|rfl|rfl|rfl|rfl
   ·exact I1.fpOk l1 (I1.hok.fresh l1)
   ·exact I1.fpOk l2 (I1.hok.fresh l2)
   ·exact I1.fpOk l3 (I1.hok.fresh l3)
   ·exact I1.fpOk l4 (I1.hok.fresh l4)
   ·exact I1.fpOk l5 (I1.hok.fresh l5)
end L2
namespace Fw
open PySem PySem.Spec PyProof.Rows L2
abbrev s_same:Stmt:=top 106
def isIntT:T→Bool
 |.int _=>true
 |_=>false
theorem kit_int (K:PySem.W.Frag)(t:T):PySem.W.kitOne K (tyT t) (.type "int")=some (isIntT t):=by
 cases t with
 |int i=>first|rfl|(with_unfolding_all rfl)|kernel_rfl
 |str x=>first|rfl|(with_unfolding_all rfl)|kernel_rfl
 |tup l=>first|rfl|(with_unfolding_all rfl)|kernel_rfl
theorem kit_bool (K:PySem.W.Frag)(t:T):PySem.W.kitOne K (tyT t) (.type "bool")=some false:=by
 cases t with
 |int i=>first|rfl|(with_unfolding_all rfl)|kernel_rfl
 |str x=>first|rfl|(with_unfolding_all rfl)|kernel_rfl
 |tup l=>first|rfl|(with_unfolding_all rfl)|kernel_rfl
theorem comp_zip {H:Hp}{n:Nat}{a b:Addr}{xs ys:List V}{g:TG}{tt:TT}{te:TE}{σ':L2.St}{Q:VK}(hlen:xs.length=ys.length)(Pv:Nat→List V→Hp→Prop)(h0:Pv 0 [] H)
  (hl:∀i vs H,i≤xs.length→Pv i vs H→H a=some (.tup xs)∧H b=some (.tup ys)∧vs.length<sizeLine)
  (hs:∀i x y (T:Addr) vs H2 (τ:L2.St),τ.length=n→i<xs.length→xs[i]?=some x→ys[i]?=some y→H2 T=none→Pv i vs H2→g (.ref T) (τ++σ') (upd H2 T (.tup [x,y])) fun σ1 H3=>(∃τ':L2.St,σ1=τ'++σ'∧τ'.length=n)∧tt σ1 H3 fun b H4=>if b=true then te σ1 H4 fun v H5=>Nx xs.length i (Pv (i+1) (vs++[v]) H5) else Nx xs.length i (Pv (i+1) vs H4))
  (hd:∀vs H2,Pv xs.length vs H2→∀l,H2 l=none→Q (.ref l) (upd H2 l (.lst vs))):CompWM n (Itz a b) g tt te σ' Q H:=by
 refine⟨fun i m vs H=>m=xs.length-i∧i≤xs.length∧Pv i vs H,⟨xs.length,by simp,Nat.zero_le _,h0⟩,?_⟩
 rintro i m vs H2 ⟨rfl,hi,p⟩
 obtain⟨q1,q2,q3⟩:=hl i vs H2 hi p
 refine⟨q3,?_⟩
 by_cases hlt:i<xs.length
 ·refine .inr ⟨⟨xs,ys,xs[i],ys[i],q1,q2,by simp[hlt],by simp[←hlen,hlt]⟩,?_⟩
  rintro τ v H3 lτ ⟨T,xs',ys',x,y,e1,e2,hx,hy,hT,rfl,rfl⟩
  rw[q1]at e1
  rw[q2]at e2
  cases e1
  cases e2
  exact hs i x y T vs _ τ lτ hlt hx hy hT p
 ·have e:i=xs.length:=by omega
  subst e
  exact .inl ⟨⟨xs,q1,Nat.le_refl _⟩,hd vs H2 p⟩
inductive spSame (n:Nat)(vs:List V)(H:Hp)(Q:VK)(E_:XK):Prop where
 |mk (v1 v2:V) (t:T):vs=[v1,v2]→Rep H v1 t→Rep H v2 t→Tr n t→wts (pcs t)≤6000→(∀H',Same H H'→Q (.bl true) H')→spSame n vs H Q E_
def spSameN:Nat→Sp
 |0=>fun _ _ _ _=>False
 |n+1=>spSame n
theorem wts_mem {t:T}{l:List T}(h:t∈l):wts (pcs t)≤wts (pcss l):=by
 induction l with
 |nil=>cases h
 |cons a l ih=>
  rw[pcss,wts_app]
  rcases List.mem_cons.mp h with rfl|h
  ·omega
  ·have:=ih h;omega
theorem pcs_pos (t:T):3≤wts (pcs t):=by
 have:1≤(pcs t).length:=by cases t<;>simp[pcs]
 have:=wts_len (pcs t)
 omega
theorem pcss_len (l:List T):3*l.length≤wts (pcss l):=by
 induction l with
 |nil=>simp[pcss,wts]
 |cons a l ih=>
  rw[pcss,wts_app,List.length_cons]
  have:=pcs_pos a
  omega
section
variable {P:Program}{w:World}{K:PySem.W.Frag}{mg:Str→Option Value}{base:Heap}{f:Addr}{fd:FuncData}
theorem sc_same:FnScope ["_law_told","_law_due"] ["_law_told","_law_due"] (defScope s_same):=⟨rfl,rfl,rfl,by decide+kernel,rfl,by decide+kernel,by decide+kernel⟩
theorem comp_nd2:((["_law_one","_law_other"]:List Str)++([]:List Str)).Nodup:=by decide+kernel
set_option maxHeartbeats 1000000 in
theorem ok_same {n:Nat}(F:Fun K "_law_same" "_law_same" s_same f fd)(mi:mg "isinstance"=none)(mt:mg "tuple"=none)(ms:mg "str"=none)(mn:mg "int"=none)(mb:mg "bool"=none)(ml:mg "len"=none)(ma:mg "all"=none)(mz:mg "zip"=none)
  (h2:Has P w K mg base n "_law_same" ["_law_told","_law_due"] (spSameN n)):FnOk P w K mg base CX0 (n+1) f fd ["_law_told","_law_due"] (spSame n):=by
 refine F.ok sc_same (fun cdv A outer s H vs Q E hr h=>?_)
 obtain⟨v1,v2,t,rfl,r1,r2,kt,hw,q⟩:=h
 refine⟨_,pss_cons (ps_if (pt_val (pe_callB call_isi rfl mi boot_isinstance (pa_cons (pv 1) (pa_cons (pe_bltn (v:=.ty "tuple") rfl mt boot_tuple rfl) pa_nil))))
   (pss_cons (ps_if (PW.pt (pw_or (pt_not (pt_val (pe_callB call_isi rfl mi boot_isinstance (pa_cons (pv 0) (pa_cons (pe_bltn (v:=.ty "tuple") rfl mt boot_tuple rfl) pa_nil)))))
     (pw_or1 (pt_cmpR op_ne (pe_callB (clen K) rfl ml PySem.boot_len (pa_cons (pv 0) pa_nil)) (pe_callB (clen K) rfl ml PySem.boot_len (pa_cons (pv 1) pa_nil)) (nomark _))))) (pss_one (ps_ret pe_bl)) pss_nil)
   (pss_one (ps_ret (pe_callB (call_all rfl) rfl ma boot_all (pa_cons
    (pe_lcM (g:=gTup K 2 (gCons (gName 0) (gCons (gName 1) gNil))) (defScope s_same) ["_law_told","_law_due"] ["_law_one","_law_other"] [] [] (by decide+kernel) (pi_zip rfl mz (pa_cons (pv 0) (pa_cons (pv 1) pa_nil)))
     (fun C s₀ H₀ ex=>pgT K (n:=2) rfl (pgs_cons (pg_name (i:=0) comp_nd2 rfl (Or.inl rfl) (Or.inr rfl)) (pgs_cons (pg_name (i:=1) comp_nd2 rfl (Or.inl rfl) (Or.inr rfl)) pgs_nil)))
     (fun C s₀ H₀ ex=>pts_nil) (fun C s₀ H₀ ex=>pcall h2 hr (Nat.le_refl _) rfl (pa_cons (pv 0) (pa_cons (pv 1) pa_nil)))) pa_nil))))) pss_nil)
  (pss_cons (ps_if (pt_val (pe_callB call_isi rfl mi boot_isinstance (pa_cons (pv 1) (pa_cons (pe_bltn (v:=.ty "str") rfl ms boot_str rfl) pa_nil))))
   (pss_one (ps_ret (pe_and (pe_callB call_isi rfl mi boot_isinstance (pa_cons (pv 0) (pa_cons (pe_bltn (v:=.ty "str") rfl ms boot_str rfl) pa_nil))) (pe_one (pe_cmpR op_eq (pv 0) (pv 1) (nomark _)))))) pss_nil)
  (pss_one (ps_ret (pe_and (pe_callB call_isi rfl mi boot_isinstance (pa_cons (pv 0) (pa_cons (pe_bltn (v:=.ty "int") rfl mn PyProof.Rows.boot_int rfl) pa_nil)))
   (pe_and (pe_not (pe_callB call_isi rfl mi boot_isinstance (pa_cons (pv 0) (pa_cons (pe_bltn (v:=.ty "bool") rfl mb PyProof.Rows.boot_bool rfl) pa_nil)))) (pe_one (pe_cmpR op_eq (pv 0) (pv 1) (nomark _)))))))),?_⟩
 refine⟨_,rfl,_,_,_,_,rfl,rep_ty r2,kit_tup K t,_,rfl,?_⟩
 cases kt with
 |«at» A0=>
  cases r1 with
  |int i=>
   cases r2
   refine iteF ⟨_,rfl,_,_,_,_,rfl, .int i,kit_str K (.int i),_,rfl,iteF ?_⟩
   refine⟨_,rfl,_,_,_,_,rfl, .int i,kit_int K (.int i),_,rfl,iteT ⟨_,rfl,_,_,_,_,rfl, .int i,kit_bool K (.int i),_,rfl,_,rfl,iteT ⟨_,rfl,_,rfl,rfl,?_⟩⟩⟩
   rw[decide_eq_true rfl]
   exact q _ (Same.refl _)
  |str z hz=>
   cases r2
   refine iteF ⟨_,rfl,_,_,_,_,rfl, .str z,kit_str K (.str z),_,rfl,iteT ?_⟩
   refine⟨_,rfl,_,_,_,_,rfl, .str z,kit_str K (.str z),_,rfl,iteT ⟨_,rfl,_,rfl,rfl,?_⟩⟩
   rw[decide_eq_true rfl]
   exact q _ (Same.refl _)
  |tup _ _=>exact absurd rfl (A0.nt _)
 |@tp j ks hk=>
  rw[wts_tup]at hw
  have kl:=pcss_len ks
  refine iteT ?_
  cases r1 with
  |@tup a xs _ ha ra=>
   cases r2 with
   |@tup b ys _ hb rb=>
    have lx:=ra.length
    have ly:=rb.length
    refine⟨_,rfl,_,_,_,_,rfl, .tup ha,kit_tup K (.tup []),_,rfl,iteF ?_⟩
    refine⟨_,rfl,a,xs,rfl, .inr (SqT.of ha),_,rfl,b,ys,rfl, .inr (SqT.of hb),rfl,_,rfl,?_⟩
    rw[show xs.length=ys.length by omega,decide_eq_true rfl]
    refine iteF ?_
    refine⟨_,rfl,_,rfl,a,b,xs,ys,rfl,ha,hb,comp_zip (xs:=xs) (ys:=ys) (by omega) (fun i ws H'=>Same H H'∧ws=List.replicate i (V.bl true)) ⟨Same.refl _,rfl⟩ ?_ ?_ ?_⟩
    ·rintro i ws H' hi ⟨e,rfl⟩
     exact⟨e _ _ ha,e _ _ hb,small' (by rw[List.length_replicate];omega)⟩
    ·rintro i x y T0 ws H' τ lτ hi hx hy hT ⟨e,rfl⟩
     obtain⟨t1,ht1,rx⟩:=ra.get hx
     obtain⟨t2,ht2,ry⟩:=rb.get hy
     rw[ht1]at ht2
     cases ht2
     have hm:t1∈ks:=List.mem_of_getElem? ht1
     have kt1:Tr j t1:=hk t1 hm
     have wm:=wts_mem hm
     have eT:=same_new hT (.tup [x,y])
     match τ,lτ with
     |[o1,o2],_=>
      refine⟨T0,[x,y],rfl,SqT.of upd_same,rfl,x,[y],rfl,y,[],rfl,rfl,⟨[some x,some y],rfl,rfl⟩,?_⟩
      have eA:=e.trans eT
      refine tt1 (iteT ⟨_,rfl,_,rfl,x,y,t1,rfl,rx.same eA,ry.same eA,kt1,by omega,fun H5 e5=>nx hi ⟨eA.trans e5,?_⟩⟩)
      rw[List.replicate_succ']
    ·rintro ws H' ⟨e,rfl⟩ l hl
     refine⟨l,List.replicate xs.length true,rfl,?_,?_⟩
     ·rw[List.map_replicate]
      exact SqL.of upd_same
     ·have:(List.replicate xs.length true).all id=true:=by
       rw[List.all_eq_true]
       intro b hb
       rw[(List.mem_replicate.mp hb).2]
       rfl
      rw[this]
      exact q _ (e.trans (same_new hl _))
theorem same_all (F:Fun K "_law_same" "_law_same" s_same f fd)(bF:Binds K fd ["_law_told","_law_due"] [])(hk:PySem.W.keepIn K (.ref f)=true)(mF:mg "_law_same"=some (.ref f))(mi:mg "isinstance"=none)(mt:mg "tuple"=none)(ms:mg "str"=none)(mn:mg "int"=none)(mb:mg "bool"=none)(ml:mg "len"=none)(ma:mg "all"=none)(mz:mg "zip"=none)(n:Nat):
  Has P w K mg base n "_law_same" ["_law_told","_law_due"] (spSameN n):=by
 induction n with
 |zero=>exact⟨f,fd,⟨fun _ _ _ _ h=>h.elim,fun _ _ _ _ _ _ _ _ _ _ _ _ _ h=>h.elim⟩,bF,hk,mF⟩
 |succ n ih=>exact⟨f,fd,ok_same F mi mt ms mn mb ml ma mz ih,bF,hk,mF⟩
end
theorem ev_lenC {K:PySem.W.Frag}{ta:TE}{σ:L2.St}{H:Hp}{a:Addr}{vs:List V}(h:Ev ta σ H (.ref a))(s:SqT K H a vs):Ev (tCB (r_call_len_seq K) (tCons ta tNil)) σ H (.int vs.length) :=
 fun Q q=>h _ fun H' e=>⟨a,vs,rfl, .inr (same_seqT e s),q H' e⟩
abbrev s_all_fit:Stmt:=top 41
abbrev s_kinds_within:Stmt:=top 42
abbrev s_is_kind:Stmt:=top 43
section
variable {P:Program}{w:World}{K:PySem.W.Frag}{mg:Str→Option Value}{base:Heap}{f:Addr}{fd:FuncData}
theorem sc_all_fit:FnScope ["thing","within","waiting","inner"] ["thing","within"] (defScope s_all_fit):=⟨rfl,rfl,rfl,by decide+kernel,rfl,by decide+kernel,by decide+kernel⟩
theorem ok_all_fit {kids:T→Option (List T)}(dec:∀{t l},kids t=some l→szs l<t.sz){g:Addr}{gd:FuncData}{k:Nat}(F:Fun K "all_fit" "all_fit" s_all_fit f fd)(G:Gb K mg)(hg:FnOk P w K mg base CX0 k g gd ["thing"] (spWithin kids))(kg:PySem.W.keepIn K (.ref g)=true)(bg:Binds K gd ["thing"] []):
  FnOk P w K mg base CX0 (k+1) f fd ["thing","within"] (spAllFit kids g):=by
 refine F.ok sc_all_fit (len:=fun vs H Q E h=>(by obtain⟨v,t,b,rfl,_⟩:=h;rfl)) (fun cdv A outer s H vs Q E hr h=>?_)
 obtain⟨v,t,b,rfl,rt,hsz,hb,q⟩:=h
 refine⟨_,pss_cons (ps_set (i:=2) sc_all_fit.nd rfl (Or.inl rfl) (pe_lst (pa_cons (pv 0) pa_nil)))
  (pss_cons (ps_while PassesOwn.never (pt_cmpR op_gt (pe_callB call_len_seq rfl G.len PySem.boot_len (pa_cons (pv 2) pa_nil)) pe_int (nomark _))
   (pss_cons (ps_set (i:=3) sc_all_fit.nd rfl (Or.inl rfl) (pe_callV (i:=1) hg hr rfl (Or.inl rfl) kg bg pass0 (pa_cons (pe_bm0 PySem.F.plainAttrs_list PySem.F.slot_list_pop PySem.F.type_list_pop mt_pop (pv 2)) pa_nil)))
   (pss_cons (ps_if (pt_cmpR op_isN (pv 3) pe_non (nomark _)) (pss_one (ps_ret pe_bl)) pss_nil)
   (pss_one (ps_expr (pe_bm PySem.F.plainAttrs_list PySem.F.slot_list_extend PySem.F.type_list_extend mt_extend (pv 2) (pa_cons (pv 3) pa_nil)))))))
  (pss_one (ps_ret pe_bl))),?_⟩
 refine⟨_,rfl,small (by show 1≤1000000;decide),fun l hl=>?_⟩
 refine⟨fun m σ H'=>∃(o:Option V) (vs:List V) (ts:List T),σ=[some v,some (.ref g),some (.ref l),o]∧H' l=some (.lst vs)∧Reps H' vs ts∧m=szs ts∧szs ts≤100000∧(∀c u,c≠l→H c=some u→H' c=some u)∧
   ((b=true∧∀t∈ts,Good kids t)∨(b=false∧∃t∈ts,Bad kids t)),⟨szs [t],none,[v],[t],rfl,upd_same, .cons (rt.same (same_new hl _)) .nil,rfl,by simpa[szs] using hsz,fun c u hc e=>by rw[upd_ne hc];exact e,?_⟩,?_⟩
 ·rcases hb with ⟨h1,h2⟩|⟨h1,h2⟩
  ·exact .inl ⟨h1,fun t' ht'=>by rw[List.mem_singleton.mp ht'];exact h2⟩
  ·exact .inr ⟨h1,t,List.mem_singleton.mpr rfl,h2⟩
 rintro m σ H1 ⟨o,vs,ts,rfl,hl1,hr1,rfl,hs1,hk1,alt⟩
 refine⟨_,rfl,l,vs,rfl, .inl (SqL.of hl1),_,_,rfl,rfl,_,rfl,?_⟩
 refine ite2 (fun c=>?_) (fun c=>?_)
 ·have c1:(0:Int)<vs.length:=of_decide_eq_true c
  have ne:vs≠[]:=fun e=>by rw[e]at c1;simp at c1
  obtain⟨ws,us,v',t',rfl,rfl,hws,hv'⟩:=hr1.snoc_inv ne
  have tupsU:∀b xs,H1 b=some (.tup xs)→(upd H1 l (.lst (ws++[v']).dropLast)) b=some (.tup xs):=fun b xs h=>by
   rw[upd_ne (ne_of h hl1 (by intro z;cases z))];exact h
  have sameH:∀{H2:Hp},Same (upd H1 l (.lst (ws++[v']).dropLast)) H2→∀c u,c≠l→H c=some u→H2 c=some u:=fun{H2} e c u hc h=>e c u (by rw[upd_ne hc];exact hk1 c u hc h)
  refine⟨_,fun _ _ h=>h,?_⟩
  refine⟨rfl,_,rfl, .inl ⟨rfl,_,SqL.of hl1⟩,l,ws++[v'],v',rfl,rfl,hl1,by simp,v',t',rfl,hv'.mono tupsU,fun hn H2 e2=>?_,fun kl hkl H2 p zs e2 hp hp2 hr2=>?_⟩
  ·refine⟨_,rfl,rfl,_,rfl,?_⟩
   refine iteT ?_
   rcases alt with ⟨h1,h2⟩|⟨h1,h2⟩
   ·have:=h2 t' (by simp)
    cases this with
    |mk h _=>rw[hn]at h;cases h
   ·subst h1
    exact q H2 fun c u h=>sameH e2 c u (ne_of_none h hl) h
  ·refine⟨_,rfl,rfl,_,rfl,?_⟩
   refine iteF ?_
   have hl2:H2 l=some (.lst ws):=by
    have:=e2 l _ upd_same
    rw[this,List.dropLast_concat]
   have hpl:p≠l:=fun z=>by
    rw[z,upd_same]at hp;cases hp
   have hlen:ws.length+zs.length≤100000:=by
    have l1:=len_szs us
    have l2:=len_szs kl
    have l3:=hws.length
    have l4:=hr2.length
    have l5:=dec hkl
    rw[szs_app]at hs1
    simp[szs]at hs1
    omega
   refine⟨_,rfl, .inl ⟨rfl,_,SqL.of hl2⟩,_,rfl,l,p,ws,zs,rfl,rfl,hl2,hp2,small (by omega),?_⟩
   have tups2:∀b xs,H2 b=some (.tup xs)→(upd H2 l (.lst (ws++zs))) b=some (.tup xs):=fun b xs h=>by
    rw[upd_ne (ne_of h hl2 (by intro z;cases z))];exact h
   have dk:=dec hkl
   refine⟨szs (us++kl),by rw[szs_app,szs_app];simp[szs];omega,some (.ref p),ws++zs,us++kl,rfl,upd_same,((hws.mono tupsU).same e2 |>.append hr2).mono tups2,rfl,by rw[szs_app];rw[szs_app]at hs1;simp[szs]at hs1;omega,
    fun c u hc h=>by rw[upd_ne hc];exact sameH e2 c u hc h,?_⟩
   rcases alt with ⟨h1,h2⟩|⟨h1,t2,h2,h3⟩
   ·refine .inl ⟨h1,fun t3 ht3=>?_⟩
    rcases List.mem_append.mp ht3 with z|z
    ·exact h2 t3 (by simp[z])
    ·have:=h2 t' (by simp)
     cases this with
     |mk h q3=>
      rw[hkl]at h;cases h
      exact q3 t3 z
   ·refine .inr ⟨h1,?_⟩
    rcases List.mem_append.mp h2 with z|z
    ·exact⟨t2,List.mem_append_left _ z,h3⟩
    ·have e:t2=t':=List.mem_singleton.mp z
     subst e
     cases h3 with
     |none h=>rw[hkl]at h;cases h
     |@kid _ l' k' h m q3=>
      rw[hkl]at h;cases h
      exact⟨k',List.mem_append_right _ m,q3⟩
 ·have c1:¬(0:Int)<vs.length:=of_decide_eq_false (Bool.eq_false_iff.mpr c)
  have e:vs=[]:=List.length_eq_zero_iff.mp (by omega)
  subst e
  cases hr1
  rcases alt with ⟨h1,h2⟩|⟨h1,t2,h2,_⟩
  ·subst h1
   exact q H1 fun c u h=>hk1 c u (ne_of_none h hl) h
  ·cases h2
def hdB (f:T→Bool):List T→Bool
 |h::_=>f h
 |[]=>false
theorem leaf_eq (z:Str):(decide (z="num")||(varB z||(nameB z||pathB z)))=leafB z:=by
 unfold leafB
 simp only[Bool.or_assoc]
theorem sc_kinds_within:FnScope ["thing","alone"] ["thing"] (defScope s_kinds_within):=⟨rfl,rfl,rfl,by decide+kernel,rfl,by decide+kernel,by decide+kernel⟩
theorem ok_kinds_within (F:Fun K "kinds_within" "kinds_within" s_kinds_within f fd)(G:Gb K mg)(har:∃t,mg "ARROW"=some (.str "->" t))(hv:Has P w K mg base 3 "is_variable" ["thing"] (spT (onStr varB)))(hn:Has P w K mg base 3 "is_name" ["thing"] (spT (onStr nameB)))
  (hp:Has P w K mg base 4 "is_path" ["thing"] (spT (onStr pathB))):FnOk P w K mg base CX0 5 f fd ["thing"] (spWithin kidsK):=by
 refine F.ok sc_kinds_within (len:=fun vs H Q E h=>(by obtain⟨v,t,rfl,_⟩:=h;rfl)) (fun cdv A outer s H vs Q E hr h=>?_)
 obtain⟨v,t,rfl,rt,q1,q2⟩:=h
 obtain⟨t1,har⟩:=har
 refine⟨_,pss_cons (ps_if (pt_not (pt_val (pe_callB call_isi rfl G.isi boot_isinstance (pa_cons (pv 0) (pa_cons (pe_bltn (v:=.ty "tuple") rfl G.tuple boot_tuple rfl) pa_nil)))))
   (pss_cons (ps_set (i:=1) sc_kinds_within.nd rfl (Or.inl rfl) (pe_or (pe_cmpR (OpR.or op_eq (op_eq_tupstr hr.units0)) (pv 0) pe_str (nomark _)) (pe_or (pcall hv hr (by decide) rfl (pa_cons (pv 0) pa_nil)) (pe_or (pcall hn hr (by decide) rfl (pa_cons (pv 0) pa_nil)) (pe_one (pcall hp hr (by decide) rfl (pa_cons (pv 0) pa_nil)))))))
    (pss_one (ps_ret (pe_ifExp (pt_val (pv 1)) (pe_lst pa_nil) pe_non)))) pss_nil)
  (pss_cons (ps_if (PW.pt (pw_and (pt_cmpR op_eq (pe_callB call_len_seq rfl G.len PySem.boot_len (pa_cons (pv 0) pa_nil)) pe_int (nomark _)) (pw_and1 (pt_cmpR (OpR.or op_eq (op_eq_tupstr hr.units0)) (pe_ix ix_tup (pv 0) pe_int (fun _ _=>rfl)) (pe_glob (v:=.str "->") rfl har ⟨_,rfl⟩) (nomark _)))))
   (pss_one (ps_ret (pe_callTy call_list_of rfl G.list boot_list (pa_cons (pe_slice sl_tup (pv 0) (po_some pe_int) po_none) pa_nil)))) pss_nil)
  (pss_cons (ps_if (PW.pt (pw_and (pt_chain op_le op_le pe_int (pe_callB call_len_seq rfl G.len PySem.boot_len (pa_cons (pv 0) pa_nil)) pe_int)
    (pw_and1 (PW.pt (pw_or (pt_val (pcall hn hr (by decide) rfl (pa_cons (pe_ix ix_tup (pv 0) pe_int (fun _ _=>rfl)) pa_nil))) (pw_or1 (pt_val (pcall hp hr (by decide) rfl (pa_cons (pe_ix ix_tup (pv 0) pe_int (fun _ _=>rfl)) pa_nil)))))))))
   (pss_one (ps_ret (pe_callTy call_list_of rfl G.list boot_list (pa_cons (pe_slice sl_tup (pv 0) (po_some pe_int) po_none) pa_nil)))) pss_nil)
  (pss_one (ps_ret pe_non)))),?_⟩
 refine st_if (ts_not (ts_b (ev_isi (ev_var rfl) rt (kit_tup K)))) (fun c H1 e1=>?_) (fun c H1 e1=>?_)
 ·--no tuple
  refine ev_or (ev_eqT (ev_var rfl) (rt.same e1) fun _ _=>ev_c) (fun _ H2 e2=>ev_or (ev_spT (ev_var rfl) (rt.same (e1.trans e2))) (fun _ H3 e3=>ev_or (ev_spT (ev_var rfl) (rt.same (e1.trans (e2.trans e3))))
   (fun _ H4 e4=>ev_spT (ev_var rfl) (rt.same (e1.trans (e2.trans (e3.trans e4))))))) _ fun H5 e5=>?_
  have tail:∀(c:Bool),(c=true→kidsK t=some [])→(c=false→kidsK t=none)→tIf (tB (tVar 1)) (tLst tNil) (tC .non) [some v,some (.bl c)] H5 Q:=fun c h1 h2=>by
   cases c with
   |true=>exact⟨_,rfl,_,rfl,iteT ⟨small (by show 0≤1000000;decide),fun l hl=>q2 [] (h1 rfl) _ l [] ((e1.trans e5).trans (same_new hl _)) ((e1.trans e5).free hl) upd_same .nil⟩⟩
   |false=>exact⟨_,rfl,_,rfl,iteF (q1 (h2 rfl) _ (e1.trans e5))⟩
  cases t with
  |int i=>exact tail _ (fun z=>by cases z) (fun _=>rfl)
  |tup ts=>cases c
  |str z=>
   refine tail _ (fun z'=>?_) (fun z'=>?_)
   ·have z2:(decide (z="num")||(varB z||(nameB z||pathB z)))=true:=z'
    rw[leaf_eq]at z2
    rw[kidsK_str,if_pos z2]
   ·have z2:(decide (z="num")||(varB z||(nameB z||pathB z)))=false:=z'
    rw[leaf_eq]at z2
    rw[kidsK_str,if_neg (by rw[z2];exact Bool.false_ne_true)]
 ·--a tuple
  cases rt with
  |int i=>cases c
  |str z h=>cases c
  |@tup a vs ts ha hr'=>
   have hS:∀{H2:Hp},Same H1 H2→SqT K H2 a vs:=fun e=>SqT.of (e _ _ (e1 _ _ ha))
   have hlen:=hr'.length
   have cut:∀(H2:Hp) (D:Ends) (o:Option V),Same H1 H2→D.rt=Q→∀h r,ts=h::r→kidsK (.tup ts)=some r→tRet (tCB (r_call_list_of K) (tCons (tSl (rSlT K) (tVar 0) (tPart (tC (.int 1))) tNoPart) tNil)) D [some (.ref a),o] H2:=fun H2 D o e2 hD h r hts hk=>by
    have hne:vs≠[]:=fun z=>by rw[z,hts]at hlen;cases hlen
    refine⟨_,rfl,1,rfl,a,vs,rfl,hS e2,cut1_not hne,fun p hp=>?_⟩
    refine⟨p,vs.drop 1,rfl, .inr (SqT.of (by rw[upd_same,cut1])),fun l hl=>?_⟩
    rw[hD]
    have g:Same H2 (upd (upd H2 p (.tup (cutV vs (some 1) none))) l (.lst (vs.drop 1))):=(same_new hp _).trans (same_new hl _)
    refine q2 r hk _ l (vs.drop 1) ((e1.trans e2).trans g) ((e1.trans e2).free ((same_new hp _).free hl)) upd_same ?_
    subst hts
    cases hr' with
    |cons r1 r2=>exact r2.same ((e1.trans e2).trans g)
   refine st_if (ts_and (ts_t (ev_eqI (ev_lenC (ev_var rfl) (hS (Same.refl _))) fun _ _=>ev_c)) (c2:=hdB (onStr fun z=>decide (z="->")) ts) (fun c3 H2 e2=>?_)) (fun c3 H2 e2=>?_) (fun c3 H2 e2=>?_)
   ·have c4:(vs.length:Int)=3:=of_decide_eq_true c3
    cases hr' with
    |nil=>simp at c4
    |@cons v0 t0 vs' ts' r1 r2=>exact ts_t (ev_eqT (ev_ixT (ev_var rfl) (fun _ _=>ev_c) (hS e2) (atH rfl)) (r1.same (e1.trans e2)) fun _ _=>ev_c)
   ·simp only[Bool.and_eq_true,decide_eq_true_eq]at c3
    cases hts:ts with
    |nil=>rw[hts]at hlen;rw[hlen]at c3;simp at c3
    |cons h r=>
     refine cut H2 _ _ e2 rfl h r hts ?_
     rw[hts]at c3 hlen
     have h2:r.length=2:=by simp at hlen;omega
     rw[hts,kidsK_cons,if_pos ⟨h2,c3.2⟩]
   ·have hn3:¬(vs.length=3∧hdB (onStr fun z=>decide (z="->")) ts=true):=fun z=>by
     rw[z.2]at c3
     simp at c3
     omega
    refine st_if (ts_and (ts_t (ev_chain ev_c (fun _ e=>ev_lenC (ev_var rfl) (hS (e2.trans e))) fun _ _=>ev_c)) (c2:=hdB (fun h=>onStr nameB h||onStr pathB h) ts) (fun c4 H3 e3=>?_)) (fun c4 H3 e3=>?_) (fun c4 H3 e3=>?_)
    ·have c5:2≤(vs.length:Int):=by simp at c4;omega
     cases hr' with
     |nil=>simp at c5
     |@cons v0 t0 vs' ts' r1 r2=>
      refine ts_or (ts_b (ev_spT (ev_ixT (ev_var rfl) (fun _ _=>ev_c) (hS (e2.trans e3)) (atH rfl)) (r1.same (e1.trans (e2.trans e3))))) (fun _ H4 e4=>ts_b (ev_spT (ev_ixT (ev_var rfl) (fun _ _=>ev_c) (hS (e2.trans (e3.trans e4))) (atH rfl)) (r1.same (e1.trans (e2.trans (e3.trans e4))))))
    ·simp only[Bool.and_eq_true,decide_eq_true_eq]at c4
     cases hts:ts with
     |nil=>rw[hts]at hlen;rw[hlen]at c4;simp at c4
     |cons h r=>
      refine cut H3 _ _ (e2.trans e3) rfl h r hts ?_
      rw[hts]at c4 hlen hn3
      have h2:1≤r.length∧r.length≤3:=by simp at hlen;omega
      have h3:onStr headB h=true:=by
       have:=c4.2
       cases h with
       |int i=>cases this
       |tup l=>cases this
       |str z=>exact this
      have h4:¬(r.length=2∧onStr (fun z=>decide (z="->")) h=true):=fun z=>hn3 ⟨by rw[hlen];simp;omega,z.2⟩
      rw[hts,kidsK_cons,if_neg h4,if_pos ⟨h2,h3⟩]
    ·refine q1 ?_ H3 ((e1.trans e2).trans e3)
     cases hts:ts with
     |nil=>rfl
     |cons h r=>
      rw[hts]at c4 hlen hn3
      have h4:¬(r.length=2∧onStr (fun z=>decide (z="->")) h=true):=fun z=>hn3 ⟨by rw[hlen];simp;omega,z.2⟩
      have h5:¬((1≤r.length∧r.length≤3)∧onStr headB h=true):=fun z=>by
       have z2:(onStr nameB h||onStr pathB h)=true:=by
        cases h with
        |int i=>exact z.2
        |tup l=>exact z.2
        |str x=>exact z.2
       have z3:(decide ((2:Int)≤vs.length)&&decide ((vs.length:Int)≤4))=true:=by
        simp at hlen
        simp
        omega
       have c5:((decide ((2:Int)≤vs.length)&&decide ((vs.length:Int)≤4))&&(onStr nameB h||onStr pathB h))=false:=c4
       rw[z2,z3]at c5
       cases c5
      rw[kidsK_cons,if_neg h4,if_neg h5]
theorem sc_is_kind:FnScope ["thing"] ["thing"] (defScope s_is_kind):=⟨rfl,rfl,rfl,by decide+kernel,rfl,by decide+kernel,by decide+kernel⟩
theorem ok_is_kind {g:Addr}(F:Fun K "is_kind" "is_kind" s_is_kind f fd)(hm:mg "kinds_within"=some (.ref g))(h1:Has P w K mg base 6 "all_fit" ["thing","within"] (spAllFit kidsK g)):FnOk P w K mg base CX0 7 f fd ["thing"] (spFits kidsK):=by
 refine F.ok sc_is_kind (len:=fun vs H Q E h=>(by obtain⟨v,t,b,rfl,_⟩:=h;rfl)) (fun cdv A outer s H vs Q E hr h=>?_)
 obtain⟨v,t,b,rfl,h⟩:=h
 refine⟨_,pss_one (ps_ret (pcall h1 hr (by decide) rfl (pa_cons (pv 0) (pa_cons (pe_glob (v:=.ref g) rfl hm rfl) pa_nil)))),?_⟩
 exact⟨_,rfl,v,t,b,rfl,h⟩
end
def lenIn (lo hi:Nat)(l:List T):Bool:=decide (lo≤l.length)&&decide (l.length≤hi)
def hasLenT (lo hi:Nat):T→Bool
 |.tup l=>lenIn lo hi l
 |_=>false
def isListT (lo hi:Nat)(f:T→Bool):T→Bool
 |.tup l=>lenIn lo hi l&&l.all f
 |_=>false
def numT:T→Bool
 |.int i=>decide ((if i<0 then -i else i)<10^30)
 |_=>false
def funcB:T→Bool
 |.tup [a,b,_]=>onStr nameB a&&onStr nameB b
 |_=>false
def armB:T→Bool
 |.tup [.tup (g::ns),_]=>decide (ns.length≤4)&&(onStr greatB g&&ns.all (onStr nameB))
 |_=>false
def at2:T→T
 |.tup (_::_::e::_)=>e
 |t=>t
def at1:T→T
 |.tup (_::e::_)=>e
 |t=>t
def rowsOf:T→List T
 |.tup l=>l.map at2
 |_=>[]
def kidsF:Nat→List T→Option (List T)
 |0,[a,e]=>if onStr nameB a=true then some [e] else none
 |1,[a,b]=>some [a,b]
 |2,[a,e,g]=>if onStr nameB a=true then some [e,g] else none
 |3,[rows,e]=>if isListT 1 4 funcB rows=true then some (rowsOf rows++[e]) else none
 |4,e::arms=>if(lenIn 1 6 arms&&arms.all armB)=true then some (e::arms.map at1) else none
 |5,a::es=>if(lenIn 1 4 es&&onStr nameB a)=true then some es else none
 |6,[a,b,c]=>some [a,b,c]
 |_,_=>none
def formsL:List (Str×Nat):=[("fun",0),("call",1),("let",2),("ring",3),("case",4),("make",5),("pick",0),("plus",1),("minus",1),("times",1),("less",1),("if",6)]
def formOf (z:Str):Option Nat:=formsL.lookup z
def leafPB (z:Str):Bool:=nameB z||(pathB z||greatB z)
def kidsP:T→Option (List T)
 |.int i=>if numT (.int i)=true then some [] else none
 |.str z=>if leafPB z=true then some [] else none
 |.tup (.str z::r)=>if greatB z=true then(if lenIn 1 4 r=true then some r else none) else(match formOf z with|some n=>kidsF n r|none=>none)
 |.tup _=>none
def EvT (t:TE)(σ:L2.St)(H:Hp)(x:T):Prop:=∀Q:VK,(∀v H',Same H H'→Rep H' v x→Q v H')→t σ H Q
def Ret (H:Hp)(Q:VK)(l:List T):Prop:=∀H' p ws,Same H H'→H p=none→H' p=some (.lst ws)→Reps H' ws l→Q (.ref p) H'
section
variable {ta tb:TE}{σ:L2.St}{H:Hp}{v:V}{x:T}{K:PySem.W.Frag}
theorem et_ev (h:Ev ta σ H v)(r:Rep H v x):EvT ta σ H x:=fun Q q=>h _ fun H' e=>q v H' e (r.same e)
theorem ev_spT' {f:T→Bool}(h:EvT ta σ H x):Ev (tCall (spT f) [] E0 (tCons ta tNil)) σ H (.bl (f x)):=fun Q q=>h _ fun v H' e r=>⟨v,x,rfl,r,fun H2 e2=>q H2 (e.trans e2)⟩
theorem Reps.at_ {H:Hp}:∀{vs:List V} {ts:List T} {i:Nat} {t:T},Reps H vs ts→ts[i]?=some t→∃v,vs[i]?=some v∧Rep H v t
 |_,_,_,_, .nil,h=>by simp at h
 |_,_,0,_, .cons r _,h=>by
  simp at h;subst h
  exact⟨_,rfl,r⟩
 |_,_,i+1,t, .cons _ q,h=>by
  obtain⟨v,h1,h2⟩:=q.at_ (i:=i) (t:=t) (by simpa using h)
  exact⟨v,by simpa using h1,h2⟩
theorem Reps.drop {H:Hp}:∀{vs:List V} {ts:List T} (n:Nat),Reps H vs ts→Reps H (vs.drop n) (ts.drop n)
 |_,_,0,r=>r
 |_,_,_+1, .nil=>.nil
 |_,_,n+1, .cons _ q=>Reps.drop n q
theorem et_ix {a:Addr}{vs:List V}{ts:List T}{i:Nat}{tb:TE}(h1:Ev ta σ H (.ref a))(h2:∀H',Same H H'→Ev tb σ H' (.int i))(s:H a=some (.tup vs))(r:Reps H vs ts)(hi:ts[i]?=some x):EvT (tOp (rIxT K) ta tb) σ H x:=by
 obtain⟨v,e1,e2⟩:=r.at_ hi
 exact et_ev (ev_ixT h1 h2 (SqT.of s) (atI_nat e1)) e2
theorem cutn (vs:List V)(n:Nat):cutV vs (some (n:Int)) none=vs.drop n:=by
 unfold cutV
 rw[HT.sIx_none,HT.sIx_nat]
 by_cases h:n≤vs.length
 ·rw[Nat.min_eq_left h]
  exact List.take_of_length_le (by rw[List.length_drop];omega)
 ·rw[Nat.min_eq_right (by omega),List.drop_eq_nil_of_le (Nat.le_refl _),List.drop_eq_nil_of_le (by omega)]
  simp
theorem cutn_not {vs:List V}{n:Nat}(h:vs≠[])(hn:1≤n):¬(HT.sIx vs.length 0 (some (n:Int))=0∧HT.sIx vs.length vs.length none=vs.length):=by
 rw[HT.sIx_nat]
 have:0<vs.length:=List.length_pos_iff.mpr h
 omega
theorem et_cut {a:Addr}{vs:List V}{ts:List T}{n:Nat}(h1:Ev ta σ H (.ref a))(s:H a=some (.tup vs))(r:Reps H vs ts)(hne:ts≠[])(hn:1≤n):EvT (tSl (rSlT K) ta (tPart (tC (.int (n:Nat)))) tNoPart) σ H (.tup (ts.drop n)):=fun Q q=>h1 _ fun H' e=>by
 have hv:vs≠[]:=fun z=>by
  have:=r.length
  rw[z]at this
  cases ts with
  |nil=>exact hne rfl
  |cons _ _=>simp at this
 refine⟨n,rfl,a,vs,rfl,SqT.of (e _ _ s),cutn_not hv hn,fun p hp=>q _ _ (e.trans (same_new hp _)) (.tup upd_same ?_)⟩
 rw[cutn]
 exact(r.drop n).same (e.trans (same_new hp _))
theorem ret_cut {a:Addr}{vs:List V}{ts:List T}{n:Nat}{Q:VK}(h1:Ev ta σ H (.ref a))(s:H a=some (.tup vs))(r:Reps H vs ts)(hne:ts≠[])(hn:1≤n)(q:Ret H Q (ts.drop n)):
  tCB (r_call_list_of K) (tCons (tSl (rSlT K) ta (tPart (tC (.int (n:Nat)))) tNoPart) tNil) σ H Q :=
 et_cut (K:=K) h1 s r hne hn _ fun v H' e rv=>by
  cases rv with
  |tup h r'=>exact⟨_,_,rfl, .inr (SqT.of h),fun l hl=>q _ l _ (e.trans (same_new hl _)) (e.free hl) upd_same (r'.same (same_new hl _))⟩
theorem Ret.same {Q:VK}{l:List T}{H':Hp}(q:Ret H Q l)(e:Same H H'):Ret H' Q l:=fun H2 p ws e2 hp hp2 hr=>q H2 p ws (e.trans e2) (e.free hp) hp2 hr
theorem comp_tup {a:Addr}{xs:List V}{tt:TT}{te:TE}{σ':L2.St}{Q:VK}(Pv:Nat→List V→Hp→Prop)(h0:Pv 0 [] H)(hl:∀i vs H,i≤xs.length→Pv i vs H→SqT K H a xs∧vs.length<sizeLine)
  (hs:∀i x vs H2,i<xs.length→xs[i]?=some x→Pv i vs H2→tt (some x::σ') H2 fun b H4=>if b=true then te (some x::σ') H4 fun v H5=>Nx xs.length i (Pv (i+1) (vs++[v]) H5) else Nx xs.length i (Pv (i+1) vs H4))
  (hd:∀vs H2,Pv xs.length vs H2→∀l,H2 l=none→Q (.ref l) (upd H2 l (.lst vs))):CompW (Itt K a) tt te σ' Q H:=by
 refine⟨fun i m vs H=>m=xs.length-i∧i≤xs.length∧Pv i vs H,⟨xs.length,by simp,Nat.zero_le _,h0⟩,?_⟩
 rintro i m vs H2 ⟨rfl,hi,p⟩
 obtain⟨q1,q2⟩:=hl i vs H2 hi p
 refine⟨q2,?_⟩
 by_cases hlt:i<xs.length
 ·refine .inr ⟨⟨xs,xs[i],q1,by simp[hlt]⟩,?_⟩
  rintro x H3 ⟨e,y⟩
  subst e
  exact hs i x vs _ hlt (y xs q1) p
 ·have e:i=xs.length:=by omega
  subst e
  exact .inl ⟨⟨xs,q1,Nat.le_refl _⟩,hd vs H2 p⟩
end
def spHasLen:Sp:=fun vs H Q _=>∃(v:V) (t:T) (lo hi:Nat),vs=[v, .int lo, .int hi]∧Rep H v t∧∀H',Same H H'→Q (.bl (hasLenT lo hi t)) H'
def spAllAre (f:T→Bool)(g:Addr):Sp:=fun vs H Q _=>∃a us ts,vs=[.ref a, .ref g]∧H a=some (.tup us)∧Reps H us ts∧ts.length≤100000∧∀H',Same H H'→Q (.bl (ts.all f)) H'
def spList (f:T→Bool)(g:Addr):Sp:=fun vs H Q _=>∃(v:V) (t:T) (lo hi:Nat),vs=[v, .int lo, .int hi, .ref g]∧Rep H v t∧hi≤1000∧∀H',Same H H'→Q (.bl (isListT lo hi f t)) H'
def spForm (n:Nat):Sp:=fun vs H Q _=>∃a us h r,vs=[.ref a]∧H a=some (.tup us)∧Reps H us (h::r)∧(kidsF n r=none→∀H',Same H H'→Q .non H')∧∀l,kidsF n r=some l→Ret H Q l
theorem ev_hasLen {ta:TE}{σ:L2.St}{H:Hp}{x:T}(lo hi:Nat)(h:EvT ta σ H x):Ev (tCall spHasLen [] E0 (tCons ta (tCons (tC (.int lo)) (tCons (tC (.int hi)) tNil)))) σ H (.bl (hasLenT lo hi x)):=fun Q q=>h _ fun v H' e r=>⟨v,x,lo,hi,rfl,r,fun H2 e2=>q H2 (e.trans e2)⟩
theorem ev_list {ta:TE}{σ:L2.St}{H:Hp}{x:T}{fB:T→Bool}{g:Addr}(lo hi:Nat)(hh:hi≤1000)(h:EvT ta σ H x):Ev (tCall (spList fB g) [] E0 (tCons ta (tCons (tC (.int lo)) (tCons (tC (.int hi)) (tCons (tC (.ref g)) tNil))))) σ H (.bl (isListT lo hi fB x)):=fun Q q=>h _ fun v H' e r=>⟨v,x,lo,hi,rfl,r,hh,fun H2 e2=>q H2 (e.trans e2)⟩
theorem ev_allAre {ta:TE}{σ:L2.St}{H:Hp}{ts:List T}{fB:T→Bool}{g:Addr}(hh:ts.length≤100000)(h:EvT ta σ H (.tup ts)):Ev (tCall (spAllAre fB g) [] E0 (tCons ta (tCons (tC (.ref g)) tNil))) σ H (.bl (ts.all fB)):=fun Q q=>h _ fun v H' e r=>by
 cases r with
 |tup h r=>exact⟨_,_,ts,rfl,h,r,hh,fun H2 e2=>q H2 (e.trans e2)⟩
theorem et_ix' {K:PySem.W.Frag}{ta tb:TE}{σ:L2.St}{H:Hp}{x:T}{ts:List T}{i:Nat}(h1:EvT ta σ H (.tup ts))(h2:∀H',Same H H'→Ev tb σ H' (.int i))(hi:ts[i]?=some x):EvT (tOp (rIxT K) ta tb) σ H x:=fun Q q=>h1 _ fun v H1 e1 r1=>h2 H1 e1 _ fun H2 e2=>by
 cases r1 with
 |tup h r=>
  obtain⟨u,q1,q2⟩:=r.at_ hi
  exact⟨_,_,i,u,rfl,rfl,SqT.of (e2 _ _ h),atI_nat q1,q u H2 (e1.trans e2) (q2.same e2)⟩
theorem et_cut' {K:PySem.W.Frag}{ta:TE}{σ:L2.St}{H:Hp}{ts:List T}{n:Nat}(h1:EvT ta σ H (.tup ts))(hne:ts≠[])(hn:1≤n):EvT (tSl (rSlT K) ta (tPart (tC (.int (n:Nat)))) tNoPart) σ H (.tup (ts.drop n)):=fun Q q=>h1 _ fun v H1 e1 r1=>by
 cases r1 with
 |@tup a vs _ h r=>
  have hv:vs≠[]:=fun z=>by
   have:=r.length
   rw[z]at this
   cases ts with
   |nil=>exact hne rfl
   |cons _ _=>simp at this
  refine⟨n,rfl,a,vs,rfl,SqT.of h,cutn_not hv hn,fun p hp=>q _ _ (e1.trans (same_new hp _)) (.tup upd_same ?_)⟩
  rw[cutn]
  exact(r.drop n).same (same_new hp _)
def n0B (f:T→Bool):T→Bool
 |.tup (a::_)=>f a
 |_=>false
def n1B (f:T→Bool):T→Bool
 |.tup (_::b::_)=>f b
 |_=>false
theorem funcB_eq (t:T):(hasLenT 3 3 t&&(n0B (onStr nameB) t&&n1B (onStr nameB) t))=funcB t:=by
 cases t with
 |int i=>rfl
 |str z=>rfl
 |tup l=>
  match l with
  |[]=>rfl
  |[_]=>rfl
  |[_,_]=>rfl
  |[a,b,c]=>simp[hasLenT,lenIn,n0B,n1B,funcB]
  |_::_::_::_::r=>simp[hasLenT,lenIn,funcB]
section
variable {P:Program}{w:World}{K:PySem.W.Frag}{mg:Str→Option Value}{base:Heap}{f:Addr}{fd:FuncData}
abbrev s_is_whole:Stmt:=top 18
abbrev s_is_number:Stmt:=top 19
abbrev s_has_length:Stmt:=top 38
abbrev s_all_are:Stmt:=top 39
abbrev s_is_list:Stmt:=top 40
abbrev s_two_within:Stmt:=top 44
abbrev s_three_within:Stmt:=top 45
abbrev s_named_within:Stmt:=top 46
abbrev s_let_within:Stmt:=top 47
abbrev s_make_within:Stmt:=top 48
abbrev s_is_function_form:Stmt:=top 49
abbrev s_ring_within:Stmt:=top 50
abbrev s_is_arm_form:Stmt:=top 51
abbrev s_case_within:Stmt:=top 52
abbrev s_phrases_within:Stmt:=top 54
abbrev s_is_phrase:Stmt:=top 55
theorem sc_is_whole:FnScope ["thing"] ["thing"] (defScope s_is_whole):=⟨rfl,rfl,rfl,by decide+kernel,rfl,by decide+kernel,by decide+kernel⟩
theorem ok_is_whole (F:Fun K "is_whole" "is_whole" s_is_whole f fd)(G:Gb K mg)(mi:mg "int"=none)(mb:mg "bool"=none):FnOk P w K mg base CX0 1 f fd ["thing"] (spT isIntT):=by
 refine F.ok sc_is_whole (len:=fun vs H Q E h=>(by obtain⟨v,t,rfl,_⟩:=h;rfl)) (fun cdv A outer s H vs Q E hr h=>?_)
 obtain⟨v,t,rfl,rt,q⟩:=h
 refine⟨_,pss_one (ps_ret (pe_and (pe_callB call_isi rfl G.isi boot_isinstance (pa_cons (pv 0) (pa_cons (pe_bltn (v:=.ty "int") rfl mi PyProof.Rows.boot_int rfl) pa_nil)))
  (pe_one (pe_not (pe_callB call_isi rfl G.isi boot_isinstance (pa_cons (pv 0) (pa_cons (pe_bltn (v:=.ty "bool") rfl mb PyProof.Rows.boot_bool rfl) pa_nil))))))),?_⟩
 refine ev_and (ev_isi (ev_var (σ:=L2.start ["thing"] [v]) rfl) rt (kit_int K)) (fun _ H' e=>ev_not (ev_isi (f:=fun _=>false) (ev_var rfl) (rt.same e) (kit_bool K))) _ fun H' e'=>?_
 have z:(isIntT t&& !(fun _=>false) t)=isIntT t:=by simp
 rw[z]
 exact q H' e'
theorem sc_is_number:FnScope ["thing"] ["thing"] (defScope s_is_number):=⟨rfl,rfl,rfl,by decide+kernel,rfl,by decide+kernel,by decide+kernel⟩
theorem ok_is_number (F:Fun K "is_number" "is_number" s_is_number f fd)(ma:mg "abs"=none)(h1:Has P w K mg base 1 "is_whole" ["thing"] (spT isIntT)):FnOk P w K mg base CX0 2 f fd ["thing"] (spT numT):=by
 refine F.ok sc_is_number (len:=fun vs H Q E h=>(by obtain⟨v,t,rfl,_⟩:=h;rfl)) (fun cdv A outer s H vs Q E hr h=>?_)
 obtain⟨v,t,rfl,rt,q⟩:=h
 refine⟨_,pss_one (ps_ret (pe_and (pcall h1 hr (by decide) rfl (pa_cons (pv 0) pa_nil)) (pe_one (pe_cmpR op_lt (pe_callB call_abs rfl ma PyProof.Rows.boot_abs (pa_cons (pv 0) pa_nil)) (pe_op op_pow pe_int pe_int) (nomark _))))),?_⟩
 refine ev_spT (ev_var (σ:=L2.start ["thing"] [v]) rfl) rt _ fun H' e'=>⟨_,rfl,?_⟩
 cases rt with
 |str z h=>exact iteF (q H' e')
 |tup h r=>exact iteF (q H' e')
 |int i=>exact iteT ⟨_,rfl,i,rfl,_,_,rfl,rfl,⟨by decide,by decide,by decide⟩,_,_,rfl,rfl,q H' e'⟩
theorem sc_has_length:FnScope ["thing","least","most"] ["thing","least","most"] (defScope s_has_length):=⟨rfl,rfl,rfl,by decide+kernel,rfl,by decide+kernel,by decide+kernel⟩
theorem ok_has_length (F:Fun K "has_length" "has_length" s_has_length f fd)(G:Gb K mg):FnOk P w K mg base CX0 1 f fd ["thing","least","most"] spHasLen:=by
 refine F.ok sc_has_length (len:=fun vs H Q E h=>(by obtain⟨v,t,lo,hi,rfl,_⟩:=h;rfl)) (fun cdv A outer s H vs Q E hr h=>?_)
 obtain⟨v,t,lo,hi,rfl,rt,q⟩:=h
 refine⟨_,pss_one (ps_ret (pe_and (pe_callB call_isi rfl G.isi boot_isinstance (pa_cons (pv 0) (pa_cons (pe_bltn (v:=.ty "tuple") rfl G.tuple boot_tuple rfl) pa_nil)))
  (pe_one (pe_chain op_le op_le (pv 1) (pe_callB call_len_seq rfl G.len PySem.boot_len (pa_cons (pv 0) pa_nil)) (pv 2))))),?_⟩
 refine ev_and (c2:=hasLenT lo hi t) (ev_isi (ev_var (i:=0) (σ:=L2.start ["thing","least","most"] [v, .int lo, .int hi]) rfl) rt (kit_tup K)) (fun c H1 e1=>?_) _ fun H' e'=>?_
 ·cases rt with
  |str z h=>cases c
  |int i=>cases c
  |@tup a us ts h r=>
   have z:hasLenT lo hi (.tup ts)=(decide ((lo:Int)≤us.length)&&decide ((us.length:Int)≤hi)):=by
    show(decide (lo≤ts.length)&&decide (ts.length≤hi))=_
    rw[r.length]
    congr 1
    ·rw[Bool.eq_iff_iff];simp
    ·rw[Bool.eq_iff_iff];simp
   rw[z]
   exact ev_chain (ev_var rfl) (fun _ e2=>ev_lenC (ev_var rfl) (SqT.of (e2 _ _ (e1 _ _ h)))) (fun _ _=>ev_var rfl)
 ·have z:(isTupT t&&hasLenT lo hi t)=hasLenT lo hi t:=by
   cases t<;>rfl
  rw[z]
  exact q H' e'
theorem sc_all_are:FnScope ["things","fits"] ["things","fits"] (defScope s_all_are):=⟨rfl,rfl,rfl,by decide+kernel,rfl,by decide+kernel,by decide+kernel⟩
theorem ok_all_are {fB:T→Bool}{g:Addr}{gd:FuncData}{k:Nat}(F:Fun K "all_are" "all_are" s_all_are f fd)(G:Gb K mg)(hg:FnOk P w K mg base CX0 k g gd ["thing"] (spT fB))(kg:PySem.W.keepIn K (.ref g)=true)(bg:Binds K gd ["thing"] []):
  FnOk P w K mg base CX0 (k+1) f fd ["things","fits"] (spAllAre fB g):=by
 refine F.ok sc_all_are (len:=fun vs H Q E h=>(by obtain⟨a,us,ts,rfl,_⟩:=h;rfl)) (fun cdv A outer s H vs Q E hr h=>?_)
 obtain⟨a,us,ts,rfl,ha,hr',hl,q⟩:=h
 refine⟨_,pss_one (ps_ret (pe_callB (call_all rfl) rfl G.all boot_all (pa_cons (pe_lc (defScope s_all_are) ["things","fits"] ["fits"] [1] (by decide+kernel) (pi_tup (pv 0)) (fun C s₀ H₀ ex=>pts_nil)
  (fun C s₀ H₀ ex=>pe_callV (i:=1) hg hr rfl (Or.inr (Or.inl rfl)) kg bg pass0 (pa_cons (pv 0) pa_nil))) pa_nil))),?_⟩
 refine⟨_,rfl,a,rfl,⟨us,SqT.of ha⟩,?_⟩
 refine comp_tup (xs:=us) (fun i vs H2=>Same H H2∧vs=(ts.take i).map fun t=>V.bl (fB t)) ⟨Same.refl H,rfl⟩ ?_ ?_ ?_
 ·rintro i vs H2 hi ⟨e,rfl⟩
  refine⟨SqT.of (e _ _ ha),?_⟩
  rw[List.length_map,List.length_take]
  exact small' (by omega)
 ·rintro i x vs H2 hi hx ⟨e,rfl⟩
  refine tt1 (iteT ⟨rfl,?_⟩)
  have hti:i<ts.length:=by rw[←hr'.length];exact hi
  obtain⟨v,e1,e2⟩:=hr'.at_ (List.getElem?_eq_getElem hti)
  rw[hx]at e1
  cases e1
  refine⟨_,rfl,x,_,rfl,e2.same e,fun H3 e3=>nx hi ⟨e.trans e3,?_⟩⟩
  rw[List.take_succ,List.getElem?_eq_getElem hti,Option.toList_some,List.map_append]
  rfl
 ·rintro vs H2 ⟨e,rfl⟩ l hl'
  refine⟨l,ts.map fB,rfl,SqL.of ?_,?_⟩
  ·rw[upd_same,List.map_map,List.take_of_length_le (by rw[hr'.length];exact Nat.le_refl _)]
   rfl
  ·have z:((ts.map fB).all id)=ts.all fB:=by
    rw[List.all_map]
    rfl
   rw[z]
   exact q _ (e.trans (same_new hl' _))
theorem sc_is_list:FnScope ["thing","least","most","fits"] ["thing","least","most","fits"] (defScope s_is_list):=⟨rfl,rfl,rfl,by decide+kernel,rfl,by decide+kernel,by decide+kernel⟩
theorem ok_is_list {fB:T→Bool}{g:Addr}{k:Nat}(F:Fun K "is_list" "is_list" s_is_list f fd)(h1:Has P w K mg base 1 "has_length" ["thing","least","most"] spHasLen)(h2:Has P w K mg base (k+1) "all_are" ["things","fits"] (spAllAre fB g)):
  FnOk P w K mg base CX0 (k+2) f fd ["thing","least","most","fits"] (spList fB g):=by
 refine F.ok sc_is_list (len:=fun vs H Q E h=>(by obtain⟨v,t,lo,hi,rfl,_⟩:=h;rfl)) (fun cdv A outer s H vs Q E hr h=>?_)
 obtain⟨v,t,lo,hi,rfl,rt,hhi,q⟩:=h
 refine⟨_,pss_one (ps_ret (pe_and (pcall h1 hr (by omega) rfl (pa_cons (pv 0) (pa_cons (pv 1) (pa_cons (pv 2) pa_nil)))) (pe_one (pcall h2 hr (by omega) rfl (pa_cons (pv 0) (pa_cons (pv 3) pa_nil)))))),?_⟩
 refine⟨_,rfl,_,rfl,_,rfl,v,t,lo,hi,rfl,rt,fun H' e'=>⟨_,rfl,?_⟩⟩
 cases rt with
 |str z h=>exact iteF (q H' e')
 |int i=>exact iteF (q H' e')
 |@tup a us ts h r=>
  have q':∀H',Same H H'→Q (.bl (lenIn lo hi ts&&ts.all fB)) H':=q
  show if lenIn lo hi ts=true then _ else _
  cases hl:lenIn lo hi ts with
  |false=>
   rw[hl]at q'
   exact iteF (q' H' e')
  |true=>
   rw[hl,Bool.true_and]at q'
   unfold lenIn at hl
   simp only[Bool.and_eq_true,decide_eq_true_eq]at hl
   exact iteT ⟨_,rfl,_,rfl,a,us,ts,rfl,e' _ _ h,r.same e',by omega,fun H2 e2=>q' H2 (e'.trans e2)⟩
theorem sc_two_within:FnScope ["thing"] ["thing"] (defScope s_two_within):=⟨rfl,rfl,rfl,by decide+kernel,rfl,by decide+kernel,by decide+kernel⟩
theorem ok_two_within (F:Fun K "two_within" "two_within" s_two_within f fd)(G:Gb K mg):FnOk P w K mg base CX0 1 f fd ["thing"] (spForm 1):=by
 refine F.ok sc_two_within (len:=fun vs H Q E h=>(by obtain⟨a,us,h,r,rfl,_⟩:=h;rfl)) (fun cdv A outer s H vs Q E hr h=>?_)
 obtain⟨a,us,h,r,rfl,ha,hr',q1,q2⟩:=h
 refine⟨_,pss_one (ps_ret (pe_ifExp (pt_cmpR op_eq (pe_callB call_len_seq rfl G.len PySem.boot_len (pa_cons (pv 0) pa_nil)) pe_int (nomark _)) (pe_callTy call_list_of rfl G.list boot_list (pa_cons (pe_slice sl_tup (pv 0) (po_some pe_int) po_none) pa_nil)) pe_non)),?_⟩
 have hl:=hr'.length
 refine ts_t (ev_eqI (ev_lenC (K:=K) (ev_var (σ:=L2.start ["thing"] [.ref a]) rfl) (SqT.of ha)) fun _ _=>ev_c) _ fun H' e'=>?_
 refine ite2 (fun c=>?_) (fun c=>?_)
 ·have c1:us.length=3:=by have:=of_decide_eq_true c;omega
  refine ret_cut (n:=1) (ev_var rfl) (e' _ _ ha) (hr'.same e') (by simp) (by decide) ((q2 r ?_).same e')
  match r,(show r.length=2 by simp at hl;omega) with
  |[x,y],_=>rfl
 ·have c1:us.length≠3:=fun z=>c (by rw[z];rfl)
  refine q1 ?_ H' e'
  match r,(show r.length≠2 by simp at hl;omega) with
  |[],_=>rfl
  |[_],_=>rfl
  |[_,_],z=>exact absurd rfl z
  |_::_::_::_,_=>rfl
theorem sc_three_within:FnScope ["thing"] ["thing"] (defScope s_three_within):=⟨rfl,rfl,rfl,by decide+kernel,rfl,by decide+kernel,by decide+kernel⟩
theorem ok_three_within (F:Fun K "three_within" "three_within" s_three_within f fd)(G:Gb K mg):FnOk P w K mg base CX0 1 f fd ["thing"] (spForm 6):=by
 refine F.ok sc_three_within (len:=fun vs H Q E h=>(by obtain⟨a,us,h,r,rfl,_⟩:=h;rfl)) (fun cdv A outer s H vs Q E hr h=>?_)
 obtain⟨a,us,h,r,rfl,ha,hr',q1,q2⟩:=h
 refine⟨_,pss_one (ps_ret (pe_ifExp (pt_cmpR op_eq (pe_callB call_len_seq rfl G.len PySem.boot_len (pa_cons (pv 0) pa_nil)) pe_int (nomark _)) (pe_callTy call_list_of rfl G.list boot_list (pa_cons (pe_slice sl_tup (pv 0) (po_some pe_int) po_none) pa_nil)) pe_non)),?_⟩
 have hl:=hr'.length
 refine ts_t (ev_eqI (ev_lenC (K:=K) (ev_var (σ:=L2.start ["thing"] [.ref a]) rfl) (SqT.of ha)) fun _ _=>ev_c) _ fun H' e'=>?_
 refine ite2 (fun c=>?_) (fun c=>?_)
 ·have c1:us.length=4:=by have:=of_decide_eq_true c;omega
  refine ret_cut (n:=1) (ev_var rfl) (e' _ _ ha) (hr'.same e') (by simp) (by decide) ((q2 r ?_).same e')
  match r,(show r.length=3 by simp at hl;omega) with
  |[x,y,z],_=>rfl
 ·have c1:us.length≠4:=fun z=>c (by rw[z];rfl)
  refine q1 ?_ H' e'
  match r,(show r.length≠3 by simp at hl;omega) with
  |[],_=>rfl
  |[_],_=>rfl
  |[_,_],_=>rfl
  |[_,_,_],z=>exact absurd rfl z
  |_::_::_::_::_,_=>rfl
theorem sc_named_within:FnScope ["thing"] ["thing"] (defScope s_named_within):=⟨rfl,rfl,rfl,by decide+kernel,rfl,by decide+kernel,by decide+kernel⟩
theorem ok_named_within (F:Fun K "named_within" "named_within" s_named_within f fd)(G:Gb K mg)(h1:Has P w K mg base 3 "is_name" ["thing"] (spT (onStr nameB))):FnOk P w K mg base CX0 4 f fd ["thing"] (spForm 0):=by
 refine F.ok sc_named_within (len:=fun vs H Q E h=>(by obtain⟨a,us,h,r,rfl,_⟩:=h;rfl)) (fun cdv A outer s H vs Q E hr h=>?_)
 obtain⟨a,us,h,r,rfl,ha,hr',q1,q2⟩:=h
 refine⟨_,pss_one (ps_ret (pe_ifExp (PW.pt (pw_and (pt_cmpR op_eq (pe_callB call_len_seq rfl G.len PySem.boot_len (pa_cons (pv 0) pa_nil)) pe_int (nomark _)) (pw_and1 (pt_val (pcall h1 hr (by decide) rfl (pa_cons (pe_ix ix_tup (pv 0) pe_int (fun _ _=>rfl)) pa_nil))))))
  (pe_lst (pa_cons (pe_ix ix_tup (pv 0) pe_int (fun _ _=>rfl)) pa_nil)) pe_non)),?_⟩
 have hl:=hr'.length
 refine ts_and (c2:=hdB (onStr nameB) r) (ts_t (ev_eqI (ev_lenC (K:=K) (ev_var (σ:=L2.start ["thing"] [.ref a]) rfl) (SqT.of ha)) fun _ _=>ev_c)) (fun c H1 e1=>?_) _ fun H' e'=>?_
 ·have c1:us.length=3:=by have:=of_decide_eq_true c;omega
  match r,(show r.length=2 by simp at hl;omega),hr' with
  |[x,y],_,hr'=>exact ts_b (ev_spT' (et_ix (i:=1) (ev_var rfl) (fun _ _=>ev_c) (e1 _ _ ha) (hr'.same e1) rfl))
 ·refine ite2 (fun c=>?_) (fun c=>?_)
  ·simp only[Bool.and_eq_true,decide_eq_true_eq]at c
   match r,(show r.length=2 by simp at hl;omega),hr',c.2,q2 with
   |[x,y],_,hr',c2,q2=>
    refine et_ix (K:=K) (i:=2) (ev_var rfl) (fun _ _=>ev_c) (e' _ _ ha) (hr'.same e') rfl _ fun v H2 e2 rv=>⟨small (by show 1≤1000000;decide),fun l hl'=>?_⟩
    have z:onStr nameB x=true:=c2
    exact q2 [y] (by show(if onStr nameB x=true then _ else _)=_;rw[if_pos z]) _ l [v] ((e'.trans e2).trans (same_new hl' _)) ((e'.trans e2).free hl') upd_same (.cons (rv.same (same_new hl' _)) .nil)
  ·refine q1 ?_ H' e'
   match r,hl,c with
   |[],_,_=>rfl
   |[_],_,_=>rfl
   |[x,y],hl,c=>
    have z:¬onStr nameB x=true:=fun z=>c (by
     have:us.length=3:=by simp at hl;omega
     show(decide ((us.length:Int)=3)&&onStr nameB x)=true
     rw[z,this];rfl)
    show(if onStr nameB x=true then _ else _)=_
    rw[if_neg z]
   |_::_::_::_,_,_=>rfl
theorem sc_let_within:FnScope ["thing"] ["thing"] (defScope s_let_within):=⟨rfl,rfl,rfl,by decide+kernel,rfl,by decide+kernel,by decide+kernel⟩
theorem ok_let_within (F:Fun K "let_within" "let_within" s_let_within f fd)(G:Gb K mg)(h1:Has P w K mg base 3 "is_name" ["thing"] (spT (onStr nameB))):FnOk P w K mg base CX0 4 f fd ["thing"] (spForm 2):=by
 refine F.ok sc_let_within (len:=fun vs H Q E h=>(by obtain⟨a,us,h,r,rfl,_⟩:=h;rfl)) (fun cdv A outer s H vs Q E hr h=>?_)
 obtain⟨a,us,h,r,rfl,ha,hr',q1,q2⟩:=h
 refine⟨_,pss_one (ps_ret (pe_ifExp (PW.pt (pw_and (pt_cmpR op_eq (pe_callB call_len_seq rfl G.len PySem.boot_len (pa_cons (pv 0) pa_nil)) pe_int (nomark _)) (pw_and1 (pt_val (pcall h1 hr (by decide) rfl (pa_cons (pe_ix ix_tup (pv 0) pe_int (fun _ _=>rfl)) pa_nil))))))
  (pe_callTy call_list_of rfl G.list boot_list (pa_cons (pe_slice sl_tup (pv 0) (po_some pe_int) po_none) pa_nil)) pe_non)),?_⟩
 have hl:=hr'.length
 refine ts_and (c2:=hdB (onStr nameB) r) (ts_t (ev_eqI (ev_lenC (K:=K) (ev_var (σ:=L2.start ["thing"] [.ref a]) rfl) (SqT.of ha)) fun _ _=>ev_c)) (fun c H1 e1=>?_) _ fun H' e'=>?_
 ·have c1:us.length=4:=by have:=of_decide_eq_true c;omega
  match r,(show r.length=3 by simp at hl;omega),hr' with
  |[x,y,z],_,hr'=>exact ts_b (ev_spT' (et_ix (i:=1) (ev_var rfl) (fun _ _=>ev_c) (e1 _ _ ha) (hr'.same e1) rfl))
 ·refine ite2 (fun c=>?_) (fun c=>?_)
  ·simp only[Bool.and_eq_true,decide_eq_true_eq]at c
   match r,(show r.length=3 by simp at hl;omega),hr',c.2,q2 with
   |[x,y,z],_,hr',c2,q2=>
    have z':onStr nameB x=true:=c2
    exact ret_cut (n:=2) (ev_var rfl) (e' _ _ ha) (hr'.same e') (by simp) (by decide) ((q2 [y,z] (by show(if onStr nameB x=true then _ else _)=_;rw[if_pos z'])).same e')
  ·refine q1 ?_ H' e'
   match r,hl,c with
   |[],_,_=>rfl
   |[_],_,_=>rfl
   |[_,_],_,_=>rfl
   |[x,y,z],hl,c=>
    have z':¬onStr nameB x=true:=fun z'=>c (by
     have:us.length=4:=by simp at hl;omega
     show(decide ((us.length:Int)=4)&&onStr nameB x)=true
     rw[z',this];rfl)
    show(if onStr nameB x=true then _ else _)=_
    rw[if_neg z']
   |_::_::_::_::_,_,_=>rfl
theorem sc_make_within:FnScope ["thing"] ["thing"] (defScope s_make_within):=⟨rfl,rfl,rfl,by decide+kernel,rfl,by decide+kernel,by decide+kernel⟩
theorem ok_make_within (F:Fun K "make_within" "make_within" s_make_within f fd)(G:Gb K mg)(h1:Has P w K mg base 3 "is_name" ["thing"] (spT (onStr nameB))):FnOk P w K mg base CX0 4 f fd ["thing"] (spForm 5):=by
 refine F.ok sc_make_within (len:=fun vs H Q E h=>(by obtain⟨a,us,h,r,rfl,_⟩:=h;rfl)) (fun cdv A outer s H vs Q E hr h=>?_)
 obtain⟨a,us,h,r,rfl,ha,hr',q1,q2⟩:=h
 refine⟨_,pss_one (ps_ret (pe_ifExp (PW.pt (pw_and (pt_chain op_le op_le pe_int (pe_callB call_len_seq rfl G.len PySem.boot_len (pa_cons (pv 0) pa_nil)) pe_int) (pw_and1 (pt_val (pcall h1 hr (by decide) rfl (pa_cons (pe_ix ix_tup (pv 0) pe_int (fun _ _=>rfl)) pa_nil))))))
  (pe_callTy call_list_of rfl G.list boot_list (pa_cons (pe_slice sl_tup (pv 0) (po_some pe_int) po_none) pa_nil)) pe_non)),?_⟩
 have hl:=hr'.length
 refine ts_and (c2:=hdB (onStr nameB) r) (ts_t (ev_chain ev_c (fun _ e=>ev_lenC (K:=K) (ev_var (σ:=L2.start ["thing"] [.ref a]) rfl) (SqT.of (e _ _ ha))) fun _ _=>ev_c)) (fun c H1 e1=>?_) _ fun H' e'=>?_
 ·simp only[Bool.and_eq_true,decide_eq_true_eq]at c
  match r,hl,hr' with
  |[],hl,_=>simp at hl;omega
  |x::r',hl,hr'=>exact ts_b (ev_spT' (et_ix (i:=1) (ev_var rfl) (fun _ _=>ev_c) (e1 _ _ ha) (hr'.same e1) rfl))
 ·refine ite2 (fun c=>?_) (fun c=>?_)
  ·simp only[Bool.and_eq_true,decide_eq_true_eq]at c
   match r,hl,hr',c.2,q2 with
   |[],hl,_,_,_=>simp at hl;omega
   |x::r',hl,hr',c2,q2=>
    have z':(lenIn 1 4 r'&&onStr nameB x)=true:=by
     have c2':onStr nameB x=true:=c2
     simp at hl
     rw[c2']
     simp[lenIn]
     omega
    exact ret_cut (n:=2) (ev_var rfl) (e' _ _ ha) (hr'.same e') (by simp) (by decide) ((q2 r' (by show(if _=true then _ else _)=_;rw[if_pos z'])).same e')
  ·refine q1 ?_ H' e'
   match r,hl,c with
   |[],_,_=>rfl
   |x::r',hl,c=>
    have z':¬(lenIn 1 4 r'&&onStr nameB x)=true:=fun z'=>c (by
     simp[lenIn]at z'
     simp at hl
     show((decide ((3:Int)≤us.length)&&decide ((us.length:Int)≤6))&&onStr nameB x)=true
     rw[z'.2]
     simp
     omega)
    show(if _=true then _ else _)=_
    rw[if_neg z']
theorem sc_is_function_form:FnScope ["thing"] ["thing"] (defScope s_is_function_form):=⟨rfl,rfl,rfl,by decide+kernel,rfl,by decide+kernel,by decide+kernel⟩
theorem ok_is_function_form (F:Fun K "is_function_form" "is_function_form" s_is_function_form f fd)(h1:Has P w K mg base 3 "is_name" ["thing"] (spT (onStr nameB)))(h2:Has P w K mg base 1 "has_length" ["thing","least","most"] spHasLen):FnOk P w K mg base CX0 4 f fd ["thing"] (spT funcB):=by
 refine F.ok sc_is_function_form (len:=fun vs H Q E h=>(by obtain⟨v,t,rfl,_⟩:=h;rfl)) (fun cdv A outer s H vs Q E hr h=>?_)
 obtain⟨v,t,rfl,rt,q⟩:=h
 refine⟨_,pss_one (ps_ret (pe_and (pcall h2 hr (by decide) rfl (pa_cons (pv 0) (pa_cons pe_int (pa_cons pe_int pa_nil)))) (pe_and (pcall h1 hr (by decide) rfl (pa_cons (pe_ix ix_tup (pv 0) pe_int (fun _ _=>rfl)) pa_nil)) (pe_one (pcall h1 hr (by decide) rfl (pa_cons (pe_ix ix_tup (pv 0) pe_int (fun _ _=>rfl)) pa_nil)))))),?_⟩
 refine ev_and (ev_hasLen 3 3 (et_ev (ev_var (i:=0) (σ:=L2.start ["thing"] [v]) rfl) rt)) (c2:=n0B (onStr nameB) t&&n1B (onStr nameB) t) (fun c H1 e1=>?_) _ fun H' e'=>?_
 ·cases rt with
  |int i=>cases c
  |str z h=>cases c
  |@tup a us ts h r=>
   have c':lenIn 3 3 ts=true:=c
   simp only[lenIn,Bool.and_eq_true,decide_eq_true_eq]at c'
   match ts,(show ts.length=3 by omega),r with
   |[x,y,z],_,r=>exact ev_and (ev_spT' (et_ix (i:=0) (ev_var rfl) (fun _ _=>ev_c) (e1 _ _ h) (r.same e1) rfl)) (fun _ H2 e2=>ev_spT' (et_ix (i:=1) (ev_var rfl) (fun _ _=>ev_c) ((e1.trans e2) _ _ h) (r.same (e1.trans e2)) rfl))
 ·rw[funcB_eq]
  exact q H' e'
theorem sc_ring_within:FnScope ["thing"] ["thing"] (defScope s_ring_within):=⟨rfl,rfl,rfl,by decide+kernel,rfl,by decide+kernel,by decide+kernel⟩
theorem func_at2 {x:T}(h:funcB x=true):∃ts,x=.tup ts∧ts[2]?=some (at2 x):=by
 match x,h with
 |.tup [a,b,c],_=>exact⟨_,rfl,rfl⟩
theorem ok_ring_within {g:Addr}(F:Fun K "ring_within" "ring_within" s_ring_within f fd)(G:Gb K mg)(hm:mg "is_function_form"=some (.ref g))(h1:Has P w K mg base 6 "is_list" ["thing","least","most","fits"] (spList funcB g)):FnOk P w K mg base CX0 7 f fd ["thing"] (spForm 3):=by
 refine F.ok sc_ring_within (len:=fun vs H Q E h=>(by obtain⟨a,us,h,r,rfl,_⟩:=h;rfl)) (fun cdv A outer s H vs Q E hr h=>?_)
 obtain⟨a,us,h,r,rfl,ha,hr',q1,q2⟩:=h
 refine⟨_,pss_cons (ps_if (PW.pt (pw_or (pt_cmpR op_ne (pe_callB call_len_seq rfl G.len PySem.boot_len (pa_cons (pv 0) pa_nil)) pe_int (nomark _)) (pw_or1 (pt_not (pt_val (pcall h1 hr (by decide) rfl (pa_cons (pe_ix ix_tup (pv 0) pe_int (fun _ _=>rfl)) (pa_cons pe_int (pa_cons pe_int (pa_cons (pe_glob (v:=.ref g) rfl hm rfl) pa_nil)))))))))) (pss_one (ps_ret pe_non)) pss_nil)
  (pss_one (ps_ret (pe_op op_cat (pe_lc (te:=tOp (rIxT K) (tVar 0) (tC (.int 2))) (defScope s_ring_within) ["thing"] [] [] (by decide+kernel) (pi_tup (pe_ix ix_tup (pv 0) pe_int (fun _ _=>rfl))) (fun C s₀ H₀ ex=>pts_nil) (fun C s₀ H₀ ex=>pe_ix ix_tup (pv 0) pe_int (fun _ _=>rfl)))
   (pe_lst (pa_cons (pe_ix ix_tup (pv 0) pe_int (fun _ _=>rfl)) pa_nil))))),?_⟩
 have hl:=hr'.length
 have ev_ne:Ev (tOp rNe (tCB (r_call_len_seq K) (tCons (tVar 0) tNil)) (tC (.int 3))) (L2.start ["thing"] [.ref a]) H (.bl (!decide ((us.length:Int)=3))) :=
  ev_op (ev_lenC (ev_var rfl) (SqT.of ha)) (fun _ _=>ev_c) fun H' Q e q=>⟨rfl,by rw[dec_int,Bool.beq_eq_decide_eq];exact q⟩
 refine st_if (ts_or (ts_t ev_ne) (c2:=!(hdB (isListT 1 4 funcB) r)) (fun c H1 e1=>?_)) (fun c H1 e1=>?_) (fun c H1 e1=>?_)
 ·have c1:us.length=3:=by simp at c;omega
  match r,(show r.length=2 by simp at hl;omega),hr' with
  |[x,y],_,hr'=>exact ts_not (ts_b (ev_list 1 4 (by decide) (et_ix (i:=1) (ev_var rfl) (fun _ _=>ev_c) (e1 _ _ ha) (hr'.same e1) rfl)))
 ·refine q1 ?_ H1 e1
  match r,hl,c with
  |[],_,_=>rfl
  |[_],_,_=>rfl
  |[x,y],hl,c=>
   have z:¬isListT 1 4 funcB x=true:=fun z=>by
    have:us.length=3:=by simp at hl;omega
    have c':((!decide ((us.length:Int)=3))||(!(isListT 1 4 funcB x)))=true:=c
    rw[z,this]at c'
    cases c'
   show(if _=true then _ else _)=_
   rw[if_neg z]
  |_::_::_::_,_,_=>rfl
 ·have c1:us.length=3∧hdB (isListT 1 4 funcB) r=true:=by
   rw[Bool.or_eq_false_iff]at c
   simp at c
   exact⟨by omega,c.2⟩
  match r,(show r.length=2 by simp at hl;omega),hr',c1.2,q2 with
  |[.tup rows,y],_,hr',c2,q2=>
   have c3:isListT 1 4 funcB (.tup rows)=true:=c2
   have c4:(lenIn 1 4 rows&&rows.all funcB)=true:=c3
   simp only[lenIn,Bool.and_eq_true,decide_eq_true_eq,List.all_eq_true]at c4
   have q3:=q2 (rows.map at2++[y]) (by show(if _=true then _ else _)=_;rw[if_pos c3];rfl)
   have hr1:=hr'.same e1
   refine et_ix (K:=K) (i:=1) (ev_var rfl) (fun _ _=>ev_c) (e1 _ _ ha) hr1 rfl _ fun v H2 e2 rv=>?_
   cases rv with
   |@tup b ws _ hb rb=>
    refine⟨b,rfl,⟨ws,SqT.of hb⟩,?_⟩
    have lb:=rb.length
    refine comp_tup (xs:=ws) (fun i vs H3=>Same H2 H3∧Reps H3 vs ((rows.take i).map at2)) ⟨Same.refl _, .nil⟩ ?_ ?_ ?_
    ·rintro i vs H3 hi ⟨e3,r3⟩
     refine⟨SqT.of (e3 _ _ hb),small' ?_⟩
     rw[r3.length,List.length_map,List.length_take]
     omega
    ·rintro i x vs H3 hi hx ⟨e3,r3⟩
     have hti:i<rows.length:=by rw[←lb];exact hi
     obtain⟨v',k1,k2⟩:=rb.at_ (List.getElem?_eq_getElem hti)
     rw[hx]at k1
     cases k1
     obtain⟨ts,k3,k4⟩:=func_at2 (c4.2 rows[i] (List.getElem_mem hti))
     refine tt1 (iteT ?_)
     have k5:=k2.same e3
     rw[k3]at k5
     cases k5 with
     |tup hx' rx'=>
      refine et_ix (K:=K) (i:=2) (ev_var rfl) (fun _ _=>ev_c) hx' rx' k4 _ fun v4 H4 e4 r4=>nx hi ⟨e3.trans e4,?_⟩
      rw[List.take_succ,List.getElem?_eq_getElem hti,Option.toList_some,List.map_append]
      exact(r3.same e4).append (.cons r4 .nil)
    ·rintro vs H3 ⟨e3,r3⟩ l hl'
     rw[List.take_of_length_le (by omega)]at r3
     have e5:=same_new hl' (.lst vs)
     refine et_ix (K:=K) (i:=2) (ev_var rfl) (fun _ _=>ev_c) (((e2.trans e3).trans e5) _ _ (e1 _ _ ha)) (hr1.same ((e2.trans e3).trans e5)) rfl _ fun v6 H6 e6 r6=>⟨small (by show 1≤1000000;decide),fun p hp=>?_⟩
     have e7:=same_new hp (.lst [v6])
     refine⟨l,p,vs,[v6],rfl,rfl,e7 _ _ (e6 _ _ upd_same),upd_same,small ?_,fun p2 hp2=>?_⟩
     ·rw[r3.length,List.length_map]
      show _+1≤1000000
      omega
     have e8:=same_new hp2 (.lst (vs++[v6]))
     have eall:=((((((e1.trans e2).trans e3).trans e5).trans e6).trans e7))
     exact q3 _ p2 _ (eall.trans e8) (eall.free hp2) upd_same (((r3.same (((e5.trans e6).trans e7).trans e8)).append (.cons (r6.same (e7.trans e8)) .nil)))
theorem arm_shape (t:T):(hasLenT 2 2 t=true∧n0B (hasLenT 1 5) t=true→∃g ns e,t=.tup [.tup (g::ns),e]∧ns.length≤4)∧(¬(hasLenT 2 2 t=true∧n0B (hasLenT 1 5) t=true)→armB t=false):=by
 constructor
 ·rintro⟨h1,h2⟩
  match t,h1,h2 with
  |.tup [x,e],_,h2=>
   match x,h2 with
   |.tup [],h2=>cases h2
   |.tup (g::ns),h2=>
    have h3:lenIn 1 5 (g::ns)=true:=h2
    simp[lenIn]at h3
    exact⟨g,ns,e,rfl,h3⟩
  |.tup [],h1,_=>cases h1
  |.tup [_],h1,_=>cases h1
  |.tup (_::_::_::r),h1,_=>
   have h3:lenIn 2 2 (_::_::_::r)=true:=h1
   simp[lenIn]at h3
 ·intro h
  match t,h with
  |.int _,_=>rfl
  |.str _,_=>rfl
  |.tup [],_=>rfl
  |.tup [x],_=>
   cases x with
   |tup l=>cases l<;>rfl
   |_=>rfl
  |.tup [.int _,_],_=>rfl
  |.tup [.str _,_],_=>rfl
  |.tup [.tup [],_],_=>rfl
  |.tup [.tup (g::ns),e],h=>
   have h4:¬ns.length≤4:=fun z=>h ⟨rfl,by show lenIn 1 5 (g::ns)=true;simp[lenIn];omega⟩
   show(decide (ns.length≤4)&&_)=false
   rw[decide_eq_false h4]
   rfl
  |.tup (x::_::_::_),_=>
   cases x with
   |tup l=>cases l<;>rfl
   |_=>rfl
theorem sc_is_arm_form:FnScope ["thing"] ["thing"] (defScope s_is_arm_form):=⟨rfl,rfl,rfl,by decide+kernel,rfl,by decide+kernel,by decide+kernel⟩
theorem ok_is_arm_form {g:Addr}(F:Fun K "is_arm_form" "is_arm_form" s_is_arm_form f fd)(hm:mg "is_name"=some (.ref g))(h1:Has P w K mg base 2 "is_great" ["thing"] (spT (onStr greatB)))(h2:Has P w K mg base 1 "has_length" ["thing","least","most"] spHasLen)
  (h3:Has P w K mg base 4 "all_are" ["things","fits"] (spAllAre (onStr nameB) g)):FnOk P w K mg base CX0 5 f fd ["thing"] (spT armB):=by
 refine F.ok sc_is_arm_form (len:=fun vs H Q E h=>(by obtain⟨v,t,rfl,_⟩:=h;rfl)) (fun cdv A outer s H vs Q E hr h=>?_)
 obtain⟨v,t,rfl,rt,q⟩:=h
 refine⟨_,pss_cons (ps_if (PW.pt (pw_or (pt_not (pt_val (pcall h2 hr (by decide) rfl (pa_cons (pv 0) (pa_cons pe_int (pa_cons pe_int pa_nil)))))) (pw_or1 (pt_not (pt_val (pcall h2 hr (by decide) rfl (pa_cons (pe_ix ix_tup (pv 0) pe_int (fun _ _=>rfl)) (pa_cons pe_int (pa_cons pe_int pa_nil))))))))) (pss_one (ps_ret pe_bl)) pss_nil)
  (pss_one (ps_ret (pe_and (pcall h1 hr (by decide) rfl (pa_cons (pe_ix ix_tup (pe_ix ix_tup (pv 0) pe_int (fun _ _=>rfl)) pe_int (fun _ _=>rfl)) pa_nil)) (pe_one (pcall h3 hr (by decide) rfl (pa_cons (pe_slice sl_tup (pe_ix ix_tup (pv 0) pe_int (fun _ _=>rfl)) (po_some pe_int) po_none) (pa_cons (pe_glob (v:=.ref g) rfl hm rfl) pa_nil))))))),?_⟩
 have sh:=arm_shape t
 refine st_if (ts_or (ts_not (ts_b (ev_hasLen 2 2 (et_ev (ev_var (i:=0) (σ:=L2.start ["thing"] [v]) rfl) rt)))) (c2:=!(n0B (hasLenT 1 5) t)) (fun c H1 e1=>?_)) (fun c H1 e1=>?_) (fun c H1 e1=>?_)
 ·have c1:hasLenT 2 2 t=true:=by simpa using c
  cases rt with
  |int i=>cases c1
  |str z h=>cases c1
  |@tup a us ts h r=>
   have c2:lenIn 2 2 ts=true:=c1
   simp only[lenIn,Bool.and_eq_true,decide_eq_true_eq]at c2
   match ts,(show ts.length=2 by omega),r with
   |[x,y],_,r=>exact ts_not (ts_b (ev_hasLen 1 5 (et_ix (i:=0) (ev_var rfl) (fun _ _=>ev_c) (e1 _ _ h) (r.same e1) rfl)))
 ·have z:armB t=false:=sh.2 fun⟨z1,z2⟩=>by rw[z1,z2]at c;cases c
  rw[z]at q
  exact q H1 e1
 ·rw[Bool.or_eq_false_iff]at c
  obtain⟨gt,ns,e,rfl,hn⟩:=sh.1 ⟨by simpa using c.1,by simpa using c.2⟩
  cases rt with
  |@tup a us _ h r=>
   have r1:=r.same e1
   have t0:∀H2,Same H1 H2→EvT (tOp (rIxT K) (tVar 0) (tC (.int 0))) (L2.start ["thing"] [.ref a]) H2 (.tup (gt::ns)):=fun H2 e2=>et_ix (i:=0) (ev_var rfl) (fun _ _=>ev_c) ((e1.trans e2) _ _ h) (r.same (e1.trans e2)) rfl
   refine ev_and (ev_spT' (et_ix' (i:=0) (t0 H1 (Same.refl _)) (fun _ _=>ev_c) rfl)) (fun _ H2 e2=>ev_allAre (ts:=ns) (by omega) (et_cut' (n:=1) (t0 H2 e2) (by simp) (by decide))) _ fun H2 e2=>?_
   have q':=q H2 (e1.trans e2)
   have z:armB (.tup [.tup (gt::ns),e])=(onStr greatB gt&&ns.all (onStr nameB)):=by
    show(decide (ns.length≤4)&&_)=_
    rw[decide_eq_true hn,Bool.true_and]
   rw[z]at q'
   exact q'
theorem sc_case_within:FnScope ["thing"] ["thing"] (defScope s_case_within):=⟨rfl,rfl,rfl,by decide+kernel,rfl,by decide+kernel,by decide+kernel⟩
theorem arm_at1 {x:T}(h:armB x=true):∃ts,x=.tup ts∧ts[1]?=some (at1 x):=by
 match x,h with
 |.tup [.tup (g::ns),e],_=>exact⟨_,rfl,rfl⟩
theorem ok_case_within {g:Addr}(F:Fun K "case_within" "case_within" s_case_within f fd)(hm:mg "is_arm_form"=some (.ref g))(h1:Has P w K mg base 7 "is_list" ["thing","least","most","fits"] (spList armB g)):FnOk P w K mg base CX0 8 f fd ["thing"] (spForm 4):=by
 refine F.ok sc_case_within (len:=fun vs H Q E h=>(by obtain⟨a,us,h,r,rfl,_⟩:=h;rfl)) (fun cdv A outer s H vs Q E hr h=>?_)
 obtain⟨a,us,h,r,rfl,ha,hr',q1,q2⟩:=h
 refine⟨_,pss_cons (ps_if (pt_not (pt_val (pcall h1 hr (by decide) rfl (pa_cons (pe_slice sl_tup (pv 0) (po_some pe_int) po_none) (pa_cons pe_int (pa_cons pe_int (pa_cons (pe_glob (v:=.ref g) rfl hm rfl) pa_nil))))))) (pss_one (ps_ret pe_non)) pss_nil)
  (pss_one (ps_ret (pe_op op_cat (pe_lst (pa_cons (pe_ix ix_tup (pv 0) pe_int (fun _ _=>rfl)) pa_nil))
   (pe_lc (te:=tOp (rIxT K) (tVar 0) (tC (.int 1))) (defScope s_case_within) ["thing"] [] [] (by decide+kernel) (pi_tup (pe_slice sl_tup (pv 0) (po_some pe_int) po_none)) (fun C s₀ H₀ ex=>pts_nil) (fun C s₀ H₀ ex=>pe_ix ix_tup (pv 0) pe_int (fun _ _=>rfl)))))),?_⟩
 have hl:=hr'.length
 refine st_if (ts_not (ts_b (ev_list 1 6 (by decide) (et_cut (n:=2) (ev_var (i:=0) (σ:=L2.start ["thing"] [.ref a]) rfl) ha hr' (by simp) (by decide))))) (fun c H1 e1=>?_) (fun c H1 e1=>?_)
 ·refine q1 ?_ H1 e1
  match r,c with
  |[],_=>rfl
  |e::arms,c=>
   have z:¬(lenIn 1 6 arms&&arms.all armB)=true:=fun z=>by
    have c':(!(lenIn 1 6 arms&&arms.all armB))=true:=c
    rw[z]at c'
    cases c'
   show(if _=true then _ else _)=_
   rw[if_neg z]
 ·match r,c,q2,hr',hl with
  |[],c,_,_,_=>cases c
  |y::arms,c,q2,hr',hl=>
   have c3:(lenIn 1 6 arms&&arms.all armB)=true:=by
    have c':(!(lenIn 1 6 arms&&arms.all armB))=false:=c
    simpa using c'
   have q3:=q2 (y::arms.map at1) (by show(if _=true then _ else _)=_;rw[if_pos c3])
   simp only[lenIn,Bool.and_eq_true,decide_eq_true_eq,List.all_eq_true]at c3
   have hr1:=hr'.same e1
   refine et_ix (K:=K) (i:=1) (ev_var rfl) (fun _ _=>ev_c) (e1 _ _ ha) hr1 rfl _ fun v1 H2 e2 rv=>⟨small (by show 1≤1000000;decide),fun p hp=>?_⟩
   have e3:=same_new hp (.lst [v1])
   refine et_cut (K:=K) (n:=2) (ev_var rfl) ((e2.trans e3) _ _ (e1 _ _ ha)) (hr1.same (e2.trans e3)) (by simp) (by decide) _ fun v4 H4 e4 r4=>?_
   cases r4 with
   |@tup b ws _ hb rb=>
    have rb':Reps H4 ws arms:=rb
    refine⟨b,rfl,⟨ws,SqT.of hb⟩,?_⟩
    have lb:=rb'.length
    refine comp_tup (xs:=ws) (fun i vs H5=>Same H4 H5∧Reps H5 vs ((arms.take i).map at1)) ⟨Same.refl _, .nil⟩ ?_ ?_ ?_
    ·rintro i vs H5 hi ⟨e5,r5⟩
     refine⟨SqT.of (e5 _ _ hb),small' ?_⟩
     rw[r5.length,List.length_map,List.length_take]
     omega
    ·rintro i x vs H5 hi hx ⟨e5,r5⟩
     have hti:i<arms.length:=by rw[←lb];exact hi
     obtain⟨v',k1,k2⟩:=rb'.at_ (List.getElem?_eq_getElem hti)
     rw[hx]at k1
     cases k1
     obtain⟨ts,k3,k4⟩:=arm_at1 (c3.2 arms[i] (List.getElem_mem hti))
     refine tt1 (iteT ?_)
     have k5:=k2.same e5
     rw[k3]at k5
     cases k5 with
     |tup hx' rx'=>
      refine et_ix (K:=K) (i:=1) (ev_var rfl) (fun _ _=>ev_c) hx' rx' k4 _ fun v6 H6 e6 r6=>nx hi ⟨e5.trans e6,?_⟩
      rw[List.take_succ,List.getElem?_eq_getElem hti,Option.toList_some,List.map_append]
      exact(r5.same e6).append (.cons r6 .nil)
    ·rintro vs H5 ⟨e5,r5⟩ l hl'
     rw[List.take_of_length_le (by omega)]at r5
     have e6:=same_new hl' (.lst vs)
     refine⟨p,l,[v1],vs,rfl,rfl,((e4.trans e5).trans e6) _ _ upd_same,upd_same,small ?_,fun p2 hp2=>?_⟩
     ·rw[r5.length,List.length_map]
      show 1+_≤1000000
      omega
     have e8:=same_new hp2 (.lst ([v1]++vs))
     have eall:=(((((e1.trans e2).trans e3).trans e4).trans e5).trans e6)
     exact q3 _ p2 _ (eall.trans e8) (eall.free hp2) upd_same (.cons (rv.same ((((e3.trans e4).trans e5).trans e6).trans e8)) (r5.same (e6.trans e8)))
theorem sc_phrases_within:FnScope ["thing","alone"] ["thing"] (defScope s_phrases_within):=⟨rfl,rfl,rfl,by decide+kernel,rfl,by decide+kernel,by decide+kernel⟩
theorem forms_lookup (fn:Nat→Addr)(z:Str):∀l:List (Str×Nat),(l.map fun p=>(p.1,V.ref (fn p.2))).lookup z=(l.lookup z).map fun n=>V.ref (fn n)
 |[]=>rfl
 |(x,n)::r=>by
  rw[List.map_cons,List.lookup_cons,List.lookup_cons,forms_lookup fn z r]
  cases z==x<;>rfl
theorem kidsP_str (z:Str)(r:List T):kidsP (.tup (.str z::r))=if greatB z=true then(if lenIn 1 4 r=true then some r else none) else(match formOf z with|some n=>kidsF n r|none=>none):=rfl
theorem ok_phrases_within {fn:Nat→Addr}{df:Addr}(F:Fun K "phrases_within" "phrases_within" s_phrases_within f fd)(G:Gb K mg)(hd:mg "PHRASE_FORMS"=some (.ref df))(D:StrDict K w df (formsL.map fun p=>(p.1,V.ref (fn p.2))))
  (hf:∀n,n≤6→∃gd,FnOk P w K mg base CX0 8 (fn n) gd ["thing"] (spForm n)∧Binds K gd ["thing"] []∧PySem.W.keepIn K (.ref (fn n))=true)
  (h1:Has P w K mg base 2 "is_number" ["thing"] (spT numT)) (h2:Has P w K mg base 3 "is_name" ["thing"] (spT (onStr nameB))) (h3:Has P w K mg base 4 "is_path" ["thing"] (spT (onStr pathB))) (h4:Has P w K mg base 2 "is_great" ["thing"] (spT (onStr greatB))):
  FnOk P w K mg base CX0 9 f fd ["thing"] (spWithin kidsP):=by
 refine F.ok sc_phrases_within (len:=fun vs H Q E h=>(by obtain⟨v,t,rfl,_⟩:=h;rfl)) (fun cdv A outer s H vs Q E hr h=>?_)
 obtain⟨v,t,rfl,rt,q1,q2⟩:=h
 refine⟨_,pss_cons (ps_if (pt_not (pt_val (pe_callB call_isi rfl G.isi boot_isinstance (pa_cons (pv 0) (pa_cons (pe_bltn (v:=.ty "tuple") rfl G.tuple boot_tuple rfl) pa_nil)))))
   (pss_cons (ps_set (i:=1) sc_phrases_within.nd rfl (Or.inl rfl) (pe_or (pcall h1 hr (by decide) rfl (pa_cons (pv 0) pa_nil)) (pe_or (pcall h2 hr (by decide) rfl (pa_cons (pv 0) pa_nil)) (pe_or (pcall h3 hr (by decide) rfl (pa_cons (pv 0) pa_nil)) (pe_one (pcall h4 hr (by decide) rfl (pa_cons (pv 0) pa_nil)))))))
    (pss_one (ps_ret (pe_ifExp (pt_val (pv 1)) (pe_lst pa_nil) pe_non)))) pss_nil)
  (pss_cons (ps_if (PW.pt (pw_or (pt_cmpR op_eq (pe_callB call_len_seq rfl G.len PySem.boot_len (pa_cons (pv 0) pa_nil)) pe_int (nomark _)) (pw_or1 (pt_not (pt_val (pe_callB call_isi rfl G.isi boot_isinstance (pa_cons (pe_ix ix_tup (pv 0) pe_int (fun _ _=>rfl)) (pa_cons (pe_bltn (v:=.ty "str") rfl G.str boot_str rfl) pa_nil))))))))
   (pss_one (ps_ret pe_non)) pss_nil)
  (pss_cons (ps_if (pt_val (pcall h4 hr (by decide) rfl (pa_cons (pe_ix ix_tup (pv 0) pe_int (fun _ _=>rfl)) pa_nil)))
   (pss_one (ps_ret (pe_ifExp (pt_chain op_le op_le pe_int (pe_callB call_len_seq rfl G.len PySem.boot_len (pa_cons (pv 0) pa_nil)) pe_int) (pe_callTy call_list_of rfl G.list boot_list (pa_cons (pe_slice sl_tup (pv 0) (po_some pe_int) po_none) pa_nil)) pe_non))) pss_nil)
  (pss_cons (ps_if (pt_cmpR op_in_dict (pe_ix ix_tup (pv 0) pe_int (fun _ _=>rfl)) (pe_glob (v:=.ref df) rfl hd rfl) (by with_unfolding_all rfl))
   (pss_one (ps_ret (pe_callE (E:=E0) (fun f sp=>∃n,n≤6∧f=fn n∧sp=spForm n) (fun f sp ⟨n,hn,e1,e2⟩=>by
     subst e1 e2
     obtain⟨gd,k1,k2,k3⟩:=hf n hn
     exact⟨8,gd,["thing"],k1,hr,k3,k2⟩) (pe_ix ix_dict (pe_glob (v:=.ref df) rfl hd rfl) (pe_ix ix_tup (pv 0) pe_int (fun _ _=>rfl)) (fun _ _=>rfl)) pass0 (pa_cons (pv 0) pa_nil)))) pss_nil)
  (pss_one (ps_ret pe_non))))),?_⟩
 refine st_if (ts_not (ts_b (ev_isi (ev_var (i:=0) rfl) rt (kit_tup K)))) (fun c H1 e1=>?_) (fun c H1 e1=>?_)
 ·--no tuple
  refine ev_or (ev_spT (ev_var rfl) (rt.same e1)) (fun _ H2 e2=>ev_or (ev_spT (ev_var rfl) (rt.same (e1.trans e2))) (fun _ H3 e3=>ev_or (ev_spT (ev_var rfl) (rt.same (e1.trans (e2.trans e3))))
   (fun _ H4 e4=>ev_spT (ev_var rfl) (rt.same (e1.trans (e2.trans (e3.trans e4))))))) _ fun H5 e5=>?_
  have tail:∀(c:Bool),(c=true→kidsP t=some [])→(c=false→kidsP t=none)→tIf (tB (tVar 1)) (tLst tNil) (tC .non) [some v,some (.bl c)] H5 Q:=fun c k1 k2=>by
   cases c with
   |true=>exact⟨_,rfl,_,rfl,iteT ⟨small (by show 0≤1000000;decide),fun l hl=>q2 [] (k1 rfl) _ l [] ((e1.trans e5).trans (same_new hl _)) ((e1.trans e5).free hl) upd_same .nil⟩⟩
   |false=>exact⟨_,rfl,_,rfl,iteF (q1 (k2 rfl) _ (e1.trans e5))⟩
  cases t with
  |int i=>
   refine tail _ (fun z=>?_) (fun z=>?_)
   ·have z':(numT (.int i)||(false||(false||false)))=true:=z
    have z2:numT (.int i)=true:=by simpa using z'
    show(if _=true then _ else _)=_
    rw[if_pos z2]
   ·have z':(numT (.int i)||(false||(false||false)))=false:=z
    have z2:¬numT (.int i)=true:=by simpa using z'
    show(if _=true then _ else _)=_
    rw[if_neg z2]
  |tup ts=>cases c
  |str x=>
   refine tail _ (fun z=>?_) (fun z=>?_)
   ·have z':leafPB x=true:=z
    show(if _=true then _ else _)=_
    rw[if_pos z']
   ·have z':¬leafPB x=true:=by
     have z2:leafPB x=false:=z
     rw[z2]
     exact Bool.false_ne_true
    show(if _=true then _ else _)=_
    rw[if_neg z']
 ·--a tuple
  cases rt with
  |int i=>cases c
  |str z h=>cases c
  |@tup a us ts ha hr'=>
   have hl:=hr'.length
   have at0:∀{H2:Hp} {o:Option V} {h:T} {r:List T},Same H1 H2→ts=h::r→EvT (tOp (rIxT K) (tVar 0) (tC (.int 0))) [some (.ref a),o] H2 h:=fun{H2 o h r} e2 hts=>by
    subst hts
    exact et_ix (i:=0) (ev_var rfl) (fun _ _=>ev_c) ((e1.trans e2) _ _ ha) (hr'.same (e1.trans e2)) rfl
   refine st_if (ts_or (ts_t (ev_eqI (ev_lenC (ev_var rfl) (SqT.of (e1 _ _ ha))) fun _ _=>ev_c)) (c2:=!(hdB isStrT ts)) (fun c3 H2 e2=>?_)) (fun c3 H2 e2=>?_) (fun c3 H2 e2=>?_)
   ·cases hts:ts with
    |nil=>rw[hts]at hl;simp at c3;exact absurd hl (by simpa using c3)
    |cons h r=>
     refine ts_not (ts_b ?_)
     exact fun Q q=>at0 e2 hts _ fun v H3 e3 r3=>⟨v,_,"str",_,rfl,rep_ty r3,kit_str K h,q H3 e3⟩
   ·refine q1 ?_ H2 (e1.trans e2)
    cases hts:ts with
    |nil=>rfl
    |cons h r=>
     rw[hts]at c3 hl
     have z:isStrT h=false:=by
      have c4:(decide ((us.length:Int)=0)||(!(isStrT h)))=true:=c3
      have:¬(us.length:Int)=0:=by simp at hl;omega
      rw[decide_eq_false this,Bool.false_or]at c4
      simpa using c4
     cases h with
     |int i=>rfl
     |str x=>cases z
     |tup l=>rfl
   ·cases hts:ts with
    |nil=>rw[hts]at hl c3;rw[hl]at c3;cases c3
    |cons h r=>
     rw[hts]at c3 hl
     have z:isStrT h=true:=by
      rw[Bool.or_eq_false_iff]at c3
      have:=c3.2
      simpa[hdB] using this
     cases h with
     |int i=>cases z
     |tup l=>cases z
     |str x=>
      rw[hts]at q1 q2
      have hr2:Reps H us (.str x::r):=by rw[hts]at hr';exact hr'
      have g2:=e1.trans e2
      refine st_if (ts_b (ev_spT' (at0 e2 hts))) (fun c4 H3 e3=>?_) (fun c4 H3 e3=>?_)
      ·have c5:greatB x=true:=c4
       have g3:=g2.trans e3
       refine ts_t (ev_chain ev_c (fun _ e=>ev_lenC (K:=K) (ev_var (i:=0) rfl) (SqT.of ((g3.trans e) _ _ ha))) fun _ _=>ev_c) _ fun H4 e4=>?_
       have g4:=g3.trans e4
       refine ite2 (fun c6=>?_) (fun c6=>?_)
       ·have c7:lenIn 1 4 r=true:=by
         simp at c6 hl
         simp[lenIn]
         omega
        have k:kidsP (.tup (.str x::r))=some r:=by rw[kidsP_str,if_pos c5,if_pos c7]
        exact ret_cut (n:=1) (ts:=.str x::r) (ev_var rfl) (g4 _ _ ha) (hr2.same g4) (by simp) (by decide) ((show Ret H Q r from q2 r k).same g4)
       ·have c7:¬lenIn 1 4 r=true:=fun z=>c6 (by
         simp[lenIn]at z
         simp at hl
         simp
         omega)
        exact q1 (by rw[kidsP_str,if_pos c5,if_neg c7]) H4 g4
      ·have c5:¬greatB x=true:=by
        have c5':greatB x=false:=c4
        rw[c5']
        exact Bool.false_ne_true
       have g3:=g2.trans e3
       have tin:Tst (tTest (tOp (fun x y H Q=>∃z a fs,x=.str z∧y=.ref a∧StrDict K w a fs∧Q (.bl (fs.lookup z).isSome) H) (tOp (rIxT K) (tVar 0) (tC (.int 0))) (tC (.ref df)))) [some (.ref a),none] H3 (formOf x).isSome:=by
        refine ts_t fun Q q=>at0 (e2.trans e3) hts _ fun v H4 e4 r4=>?_
        cases r4 with
        |str _ hx=>
         refine⟨x,df,_,rfl,rfl,D,?_⟩
         rw[forms_lookup,Option.isSome_map]
         exact q H4 e4
       refine st_if tin (fun c6 H4 e4=>?_) (fun c6 H4 e4=>?_)
       ·have g4:=g3.trans e4
        obtain⟨n,hn⟩:=Option.isSome_iff_exists.mp c6
        have hn6:n≤6:=by
         have:∀p∈formsL,p.2≤6:=by decide+kernel
         exact this (x,n) (mem_of_lookup' hn)
        refine at0 ((e2.trans e3).trans e4) hts _ fun v H5 e5 r5=>?_
        cases r5 with
        |str _ hx=>
         have g5:=g4.trans e5
         refine⟨x,df,_,V.ref (fn n),rfl,rfl,D,?_,fn n,spForm n,rfl,⟨n,hn6,rfl,rfl⟩,_,rfl,a,us, .str x,r,rfl,g5 _ _ ha,hr2.same g5,fun k H6 e6=>?_,fun l k=>?_⟩
         ·rw[forms_lookup]
          show(formOf x).map _=_
          rw[hn]
          rfl
         ·exact q1 (by rw[kidsP_str,if_neg c5,hn];exact k) H6 (g5.trans e6)
         ·exact(show Ret H Q l from q2 l (by rw[kidsP_str,if_neg c5,hn];exact k)).same g5
       ·have hn:formOf x=none:=by simpa using c6
        exact q1 (by rw[kidsP_str,if_neg c5,hn]) H4 (g3.trans e4)
theorem sc_is_phrase:FnScope ["thing"] ["thing"] (defScope s_is_phrase):=⟨rfl,rfl,rfl,by decide+kernel,rfl,by decide+kernel,by decide+kernel⟩
theorem ok_is_phrase {g:Addr}(F:Fun K "is_phrase" "is_phrase" s_is_phrase f fd)(hm:mg "phrases_within"=some (.ref g))(h1:Has P w K mg base 10 "all_fit" ["thing","within"] (spAllFit kidsP g)):FnOk P w K mg base CX0 11 f fd ["thing"] (spFits kidsP):=by
 refine F.ok sc_is_phrase (len:=fun vs H Q E h=>(by obtain⟨v,t,b,rfl,_⟩:=h;rfl)) (fun cdv A outer s H vs Q E hr h=>?_)
 obtain⟨v,t,b,rfl,h⟩:=h
 refine⟨_,pss_one (ps_ret (pcall h1 hr (by decide) rfl (pa_cons (pv 0) (pa_cons (pe_glob (v:=.ref g) rfl hm rfl) pa_nil)))),?_⟩
 exact⟨_,rfl,v,t,b,rfl,h⟩
end
theorem at2_sz (t:T):(at2 t).sz≤t.sz:=by
 unfold at2
 split
 ·simp[T.sz,szs];omega
 ·exact Nat.le_refl _
theorem at1_sz (t:T):(at1 t).sz≤t.sz:=by
 unfold at1
 split
 ·simp[T.sz,szs];omega
 ·exact Nat.le_refl _
theorem map_sz {f:T→T}(h:∀t,(f t).sz≤t.sz):∀l,szs (l.map f)≤szs l
 |[]=>Nat.le_refl _
 |t::r=>by
  have h1:=h t
  have h2:=map_sz h r
  simp only[List.map_cons,szs]
  omega
theorem kidsF_dec {n:Nat}{r l:List T}(h:kidsF n r=some l):szs l≤szs r:=by
 unfold kidsF at h
 split at h
 ·split at h
  ·cases h;simp[szs]
  ·cases h
 ·cases h;simp[szs]
 ·split at h
  ·cases h;simp[szs]
  ·cases h
 ·rename_i rows e
  split at h
  ·cases h
   have:szs (rowsOf rows)≤rows.sz:=by
    unfold rowsOf
    split
    ·have:=map_sz at2_sz ‹List T›
     simp only[T.sz]
     omega
    ·simp[szs]
   rw[szs_app]
   simp[szs]
   omega
  ·cases h
 ·rename_i e arms
  split at h
  ·cases h
   have:=map_sz at1_sz arms
   simp only[szs]
   omega
  ·cases h
 ·split at h
  ·cases h;simp[szs]
  ·cases h
 ·cases h;simp[szs]
 ·cases h
theorem kidsP_dec {t:T}{l:List T}(h:kidsP t=some l):szs l<t.sz:=by
 cases t with
 |int i=>
  have h':(if numT (.int i)=true then some [] else none)=some l:=h
  split at h'
  ·cases h';simp[szs,T.sz]
  ·cases h'
 |str z=>
  have h':(if leafPB z=true then some [] else none)=some l:=h
  split at h'
  ·cases h';simp[szs,T.sz]
  ·cases h'
 |tup ts=>
  match ts,h with
  |.str z::r,h=>
   rw[kidsP_str]at h
   simp only[T.sz,szs]
   split at h
   ·split at h
    ·cases h;omega
    ·cases h
   ·split at h
    ·have:=kidsF_dec h
     omega
    ·cases h
theorem Good.not {kids:T→Option (List T)}{t:T}(h:Good kids t):¬Bad kids t:=by
 induction h with
 |mk h q ih=>
  intro b
  cases b with
  |none z=>rw[h]at z;cases z
  |kid z m b=>rw[h]at z;cases z;exact ih _ m b
theorem sz_mem {t:T}:∀{l:List T},t∈l→t.sz≤szs l
 |[],h=>by cases h
 |a::l,h=>by
  rcases List.mem_cons.mp h with rfl|h
  ·simp only[szs];omega
  ·have:=sz_mem h
   simp only[szs];omega
theorem good_or {kids:T→Option (List T)}(dec:∀{t l},kids t=some l→szs l<t.sz):∀(n:Nat) (t:T),t.sz≤n→Good kids t∨Bad kids t
 |0,t,h=>by have:=sz_pos t;omega
 |n+1,t,h=>by
  cases e:kids t with
  |none=>exact .inr (.none e)
  |some l=>
   have d:=dec e
   by_cases b:∃k∈l,Bad kids k
   ·obtain⟨k,m,b⟩:=b
    exact .inr (.kid e m b)
   ·refine .inl (.mk e fun k m=>?_)
    rcases good_or dec n k (by have:=sz_mem m;omega) with g|g
    ·exact g
    ·exact absurd ⟨k,m,g⟩ b
open Classical in
noncomputable def fitB (kids:T→Option (List T)) (t:T):Bool:=decide (Good kids t)
noncomputable def kindB:T→Bool:=fitB kidsK
noncomputable def phraseB:T→Bool:=fitB kidsP
open Classical in
theorem fitB_good {kids:T→Option (List T)}{t:T}(h:Good kids t):fitB kids t=true:=by
 unfold fitB
 exact decide_eq_true h
open Classical in
theorem fitB_bad {kids:T→Option (List T)}{t:T}(h:Bad kids t):fitB kids t=false:=by
 unfold fitB
 exact decide_eq_false fun g=>g.not h
def spZ (f:T→Bool):Sp:=fun vs H Q _=>∃v t,vs=[v]∧Rep H v t∧t.sz≤100000∧∀H',Same H H'→Q (.bl (f t)) H'
def spAllZ (f:T→Bool)(g:Addr):Sp:=fun vs H Q _=>∃a us ts,vs=[.ref a, .ref g]∧H a=some (.tup us)∧Reps H us ts∧szs ts≤100000∧∀H',Same H H'→Q (.bl (ts.all f)) H'
def spListZ (f:T→Bool)(g:Addr):Sp:=fun vs H Q _=>∃(v:V) (t:T) (lo hi:Nat),vs=[v, .int lo, .int hi, .ref g]∧Rep H v t∧t.sz≤100000∧∀H',Same H H'→Q (.bl (isListT lo hi f t)) H'
theorem szs_len:∀l:List T,l.length≤szs l
 |[]=>Nat.le_refl _
 |a::l=>by
  have:=szs_len l
  have:=sz_pos a
  simp only[szs,List.length_cons]
  omega
section
variable {P:Program}{w:World}{K:PySem.W.Frag}{mg:Str→Option Value}{base:Heap}{f:Addr}{fd:FuncData}
theorem fz {fB:T→Bool}{k:Nat}(F:FnOk P w K mg base CX0 k f fd ["thing"] (spT fB)):FnOk P w K mg base CX0 k f fd ["thing"] (spZ fB) :=
 ⟨fun vs H Q E h=>(by obtain⟨v,t,rfl,_⟩:=h;rfl),fun A outer s H args us vs Q E hr e0 hb r h=>F.run A outer s H args us vs Q E hr e0 hb r (by obtain⟨v,t,e,rt,_,q⟩:=h;exact⟨v,t,e,rt,q⟩)⟩
theorem ffit {kids:T→Option (List T)}(dec:∀{t l},kids t=some l→szs l<t.sz){k:Nat}(F:FnOk P w K mg base CX0 k f fd ["thing"] (spFits kids)):FnOk P w K mg base CX0 k f fd ["thing"] (spZ (fitB kids)) :=
 ⟨fun vs H Q E h=>(by obtain⟨v,t,rfl,_⟩:=h;rfl),fun A outer s H args us vs Q E hr e0 hb r h=>F.run A outer s H args us vs Q E hr e0 hb r (by
  obtain⟨v,t,e,rt,hz,q⟩:=h
  rcases good_or dec _ t (Nat.le_refl _) with g|g
  ·exact⟨v,t,true,e,rt,hz, .inl ⟨rfl,g⟩,by rw[fitB_good g]at q;exact q⟩
  ·exact⟨v,t,false,e,rt,hz, .inr ⟨rfl,g⟩,by rw[fitB_bad g]at q;exact q⟩)⟩
theorem Has.z {fB:T→Bool}{k:Nat}{x:Str}(h:Has P w K mg base k x ["thing"] (spT fB)):Has P w K mg base k x ["thing"] (spZ fB):=by
 obtain⟨f,fd,h1,h2⟩:=h
 exact⟨f,fd,fz h1,h2⟩
theorem ok_allZ {fB:T→Bool}{g:Addr}{gd:FuncData}{k:Nat}(F:Fun K "all_are" "all_are" s_all_are f fd)(G:Gb K mg)(hg:FnOk P w K mg base CX0 k g gd ["thing"] (spZ fB))(kg:PySem.W.keepIn K (.ref g)=true)(bg:Binds K gd ["thing"] []):
  FnOk P w K mg base CX0 (k+1) f fd ["things","fits"] (spAllZ fB g):=by
 refine F.ok sc_all_are (len:=fun vs H Q E h=>(by obtain⟨a,us,ts,rfl,_⟩:=h;rfl)) (fun cdv A outer s H vs Q E hr h=>?_)
 obtain⟨a,us,ts,rfl,ha,hr',hl,q⟩:=h
 have hl2:=szs_len ts
 refine⟨_,pss_one (ps_ret (pe_callB (call_all rfl) rfl G.all boot_all (pa_cons (pe_lc (defScope s_all_are) ["things","fits"] ["fits"] [1] (by decide+kernel) (pi_tup (pv 0)) (fun C s₀ H₀ ex=>pts_nil)
  (fun C s₀ H₀ ex=>pe_callV (i:=1) hg hr rfl (Or.inr (Or.inl rfl)) kg bg pass0 (pa_cons (pv 0) pa_nil))) pa_nil))),?_⟩
 refine⟨_,rfl,a,rfl,⟨us,SqT.of ha⟩,?_⟩
 refine comp_tup (xs:=us) (fun i vs H2=>Same H H2∧vs=(ts.take i).map fun t=>V.bl (fB t)) ⟨Same.refl H,rfl⟩ ?_ ?_ ?_
 ·rintro i vs H2 hi ⟨e,rfl⟩
  refine⟨SqT.of (e _ _ ha),?_⟩
  rw[List.length_map,List.length_take]
  exact small' (by omega)
 ·rintro i x vs H2 hi hx ⟨e,rfl⟩
  refine tt1 (iteT ⟨rfl,?_⟩)
  have hti:i<ts.length:=by rw[←hr'.length];exact hi
  obtain⟨v,e1,e2⟩:=hr'.at_ (List.getElem?_eq_getElem hti)
  rw[hx]at e1
  cases e1
  have hz:(ts[i]).sz≤100000:=Nat.le_trans (sz_mem (List.getElem_mem hti)) hl
  refine⟨_,rfl,x,_,rfl,e2.same e,hz,fun H3 e3=>nx hi ⟨e.trans e3,?_⟩⟩
  rw[List.take_succ,List.getElem?_eq_getElem hti,Option.toList_some,List.map_append]
  rfl
 ·rintro vs H2 ⟨e,rfl⟩ l hl'
  refine⟨l,ts.map fB,rfl,SqL.of ?_,?_⟩
  ·rw[upd_same,List.map_map,List.take_of_length_le (by rw[hr'.length];exact Nat.le_refl _)]
   rfl
  ·have z:((ts.map fB).all id)=ts.all fB:=by
    rw[List.all_map]
    rfl
   rw[z]
   exact q _ (e.trans (same_new hl' _))
theorem ok_listZ {fB:T→Bool}{g:Addr}{k:Nat}(F:Fun K "is_list" "is_list" s_is_list f fd)(h1:Has P w K mg base 1 "has_length" ["thing","least","most"] spHasLen)(h2:Has P w K mg base (k+1) "all_are" ["things","fits"] (spAllZ fB g)):
  FnOk P w K mg base CX0 (k+2) f fd ["thing","least","most","fits"] (spListZ fB g):=by
 refine F.ok sc_is_list (len:=fun vs H Q E h=>(by obtain⟨v,t,lo,hi,rfl,_⟩:=h;rfl)) (fun cdv A outer s H vs Q E hr h=>?_)
 obtain⟨v,t,lo,hi,rfl,rt,hz,q⟩:=h
 refine⟨_,pss_one (ps_ret (pe_and (pcall h1 hr (by omega) rfl (pa_cons (pv 0) (pa_cons (pv 1) (pa_cons (pv 2) pa_nil)))) (pe_one (pcall h2 hr (by omega) rfl (pa_cons (pv 0) (pa_cons (pv 3) pa_nil)))))),?_⟩
 refine⟨_,rfl,_,rfl,_,rfl,v,t,lo,hi,rfl,rt,fun H' e'=>⟨_,rfl,?_⟩⟩
 cases rt with
 |str z h=>exact iteF (q H' e')
 |int i=>exact iteF (q H' e')
 |@tup a us ts h r=>
  have q':∀H',Same H H'→Q (.bl (lenIn lo hi ts&&ts.all fB)) H':=q
  show if lenIn lo hi ts=true then _ else _
  cases hl:lenIn lo hi ts with
  |false=>
   rw[hl]at q'
   exact iteF (q' H' e')
  |true=>
   rw[hl,Bool.true_and]at q'
   simp only[T.sz]at hz
   exact iteT ⟨_,rfl,_,rfl,a,us,ts,rfl,e' _ _ h,r.same e',by omega,fun H2 e2=>q' H2 (e'.trans e2)⟩
end
def lenT:T→Nat
 |.tup l=>l.length
 |_=>0
def atB (i:Nat)(f:T→Bool):T→Bool
 |.tup l=>(match l[i]? with|some x=>f x|none=>false)
 |_=>false
def dropB (n:Nat)(f:T→Bool):T→Bool
 |.tup l=>f (.tup (l.drop n))
 |_=>false
def allB (f:T→Bool):T→Bool
 |.tup l=>l.all f
 |_=>false
def isW (w:Str):T→Bool:=onStr fun x=>decide (x=w)
structure Th (H:Hp)(σ:L2.St)(t:T):Prop where
 ex:∃v,σ[0]?=some (some v)∧Rep H v t
 sz:t.sz≤100000
section
variable {K:PySem.W.Frag}{ta:TE}{σ:L2.St}{H H':Hp}{t x:T}{i n lo hi:Nat}{f:T→Bool}{g:Addr}
theorem Th.same (h:Th H σ t)(e:Same H H'):Th H' σ t:=by
 obtain⟨⟨v,h1,h2⟩,h3⟩:=h
 exact⟨⟨v,h1,h2.same e⟩,h3⟩
theorem th_var (h:Th H σ t):EvT (tVar 0) σ H t:=by
 obtain⟨⟨v,h1,h2⟩,_⟩:=h
 exact et_ev (ev_var h1) h2
theorem szs_drop (n:Nat)(l:List T):szs (l.drop n)≤szs l:=by
 induction l generalizing n with
 |nil=>simp
 |cons a l ih=>
  cases n with
  |zero=>exact Nat.le_refl _
  |succ n=>have:=ih n;simp only[List.drop_succ_cons,szs];omega
theorem len_tup (h:i<lenT t):∃l,t=.tup l∧i<l.length:=by
 cases t with
 |tup l=>exact⟨l,rfl,h⟩
 |int j=>exact absurd h (Nat.not_lt_zero _)
 |str z=>exact absurd h (Nat.not_lt_zero _)
theorem hl_len (h:hasLenT lo hi t=true):lo≤lenT t∧lenT t≤hi:=by
 cases t with
 |tup l=>
  have h':lenIn lo hi l=true:=h
  have h2:lo≤l.length∧l.length≤hi:=by simpa[lenIn] using h'
  exact h2
 |int j=>cases h
 |str z=>cases h
theorem th_at (h:Th H σ t)(c:i<lenT t):∃x,(∀f,atB i f t=f x)∧x.sz≤100000∧EvT (tOp (rIxT K) (tVar 0) (tC (.int i))) σ H x:=by
 obtain⟨l,rfl,hl⟩:=len_tup c
 have e:l[i]?=some l[i]:=List.getElem?_eq_getElem hl
 refine⟨l[i],fun f=>?_,?_,et_ix' (i:=i) (th_var h) (fun _ _=>ev_c) e⟩
 ·show(match l[i]? with|some x=>f x|none=>false)=_
  rw[e]
 ·have:=sz_mem (List.getElem_mem hl)
  have:=h.sz
  simp only[T.sz]at this
  omega
theorem th_drop (h:Th H σ t)(c:0<lenT t)(hn:1≤n):∃l,t=.tup l∧T.sz (.tup (l.drop n))≤100000∧EvT (tSl (rSlT K) (tVar 0) (tPart (tC (.int n))) tNoPart) σ H (.tup (l.drop n)):=by
 obtain⟨l,rfl,hl⟩:=len_tup c
 refine⟨l,rfl,?_,et_cut' (th_var h) (List.ne_nil_of_length_pos hl) hn⟩
 have:=szs_drop n l
 have:=h.sz
 simp only[T.sz]at this ⊢
 omega
theorem ez (h:EvT ta σ H x)(hz:x.sz≤100000):Ev (tCall (spZ f) [] E0 (tCons ta tNil)) σ H (.bl (f x)):=fun Q q=>h _ fun v H' e r=>⟨v,x,rfl,r,hz,fun H2 e2=>q H2 (e.trans e2)⟩
theorem z_var (h:Th H σ t):Ev (tCall (spZ f) [] E0 (tCons (tVar 0) tNil)) σ H (.bl (f t)):=ez (th_var h) h.sz
theorem z_at (i:Nat)(h:Th H σ t)(c:i<lenT t):Ev (tCall (spZ f) [] E0 (tCons (tOp (rIxT K) (tVar 0) (tC (.int i))) tNil)) σ H (.bl (atB i f t)):=by
 obtain⟨x,e,hz,hx⟩:=th_at (K:=K) h c
 rw[e]
 exact ez hx hz
theorem z_has (lo hi:Nat)(h:Th H σ t):Ev (tCall spHasLen [] E0 (tCons (tVar 0) (tCons (tC (.int lo)) (tCons (tC (.int hi)) tNil)))) σ H (.bl (hasLenT lo hi t)):=ev_hasLen lo hi (th_var h)
theorem el (lo hi:Nat)(h:EvT ta σ H x)(hz:x.sz≤100000):Ev (tCall (spListZ f g) [] E0 (tCons ta (tCons (tC (.int lo)) (tCons (tC (.int hi)) (tCons (tC (.ref g)) tNil))))) σ H (.bl (isListT lo hi f x)) :=
 fun Q q=>h _ fun v H' e r=>⟨v,x,lo,hi,rfl,r,hz,fun H2 e2=>q H2 (e.trans e2)⟩
theorem l_var (lo hi:Nat)(h:Th H σ t):Ev (tCall (spListZ f g) [] E0 (tCons (tVar 0) (tCons (tC (.int lo)) (tCons (tC (.int hi)) (tCons (tC (.ref g)) tNil))))) σ H (.bl (isListT lo hi f t)):=el lo hi (th_var h) h.sz
theorem l_at (i lo hi:Nat)(h:Th H σ t)(c:i<lenT t):Ev (tCall (spListZ f g) [] E0 (tCons (tOp (rIxT K) (tVar 0) (tC (.int i))) (tCons (tC (.int lo)) (tCons (tC (.int hi)) (tCons (tC (.ref g)) tNil))))) σ H (.bl (atB i (isListT lo hi f) t)):=by
 obtain⟨x,e,hz,hx⟩:=th_at (K:=K) h c
 rw[e]
 exact el lo hi hx hz
theorem l_drop (n lo hi:Nat)(h:Th H σ t)(c:0<lenT t)(hn:1≤n:=by decide):Ev (tCall (spListZ f g) [] E0 (tCons (tSl (rSlT K) (tVar 0) (tPart (tC (.int n))) tNoPart) (tCons (tC (.int lo)) (tCons (tC (.int hi)) (tCons (tC (.ref g)) tNil))))) σ H (.bl (dropB n (isListT lo hi f) t)):=by
 obtain⟨l,rfl,hz,hx⟩:=th_drop (K:=K) h c hn
 exact el lo hi hx hz
theorem z_drop (n:Nat)(h:Th H σ t)(c:0<lenT t)(hn:1≤n:=by decide):Ev (tCall (spZ f) [] E0 (tCons (tSl (rSlT K) (tVar 0) (tPart (tC (.int n))) tNoPart) tNil)) σ H (.bl (dropB n f t)):=by
 obtain⟨l,rfl,hz,hx⟩:=th_drop (K:=K) h c hn
 exact ez hx hz
theorem a_drop (n:Nat)(h:Th H σ t)(c:0<lenT t)(hn:1≤n:=by decide):Ev (tCall (spAllZ f g) [] E0 (tCons (tSl (rSlT K) (tVar 0) (tPart (tC (.int n))) tNoPart) (tCons (tC (.ref g)) tNil))) σ H (.bl (dropB n (allB f) t)):=by
 obtain⟨l,rfl,hz,hx⟩:=th_drop (K:=K) h c hn
 refine fun Q q=>hx _ fun v H' e r=>?_
 cases r with
 |tup h r=>
  simp only[T.sz]at hz
  exact⟨_,_,_,rfl,h,r,by omega,fun H2 e2=>q H2 (e.trans e2)⟩
theorem q_at (i:Nat)(z:Str)(h:Th H σ t)(c:i<lenT t):Ev (tOp (fun x y H Q=>rEq x y H Q∨∃a xs z,x=.ref a∧y=.str z∧SqT K H a xs∧Q (.bl false) H) (tOp (rIxT K) (tVar 0) (tC (.int i))) (tC (.str z))) σ H (.bl (atB i (isW z) t)):=by
 obtain⟨x,e,hz,hx⟩:=th_at (K:=K) h c
 rw[e]
 exact fun Q q=>hx _ fun v H' e r=>eq_thing r (q H' e)
theorem len_v (h:Th H σ t)(c:isTupT t=true):Ev (tCB (r_call_len_seq K) (tCons (tVar 0) tNil)) σ H (.int (lenT t)):=by
 obtain⟨⟨v,h1,h2⟩,_⟩:=h
 cases h2 with
 |int i=>cases c
 |str z hz=>cases c
 |@tup a vs ts ha r=>
  have:=ev_lenC (K:=K) (ev_var h1) (SqT.of ha)
  rw[r.length]at this
  exact this
theorem c_lt {j k:Int}{ta tb:TE}(h1:Ev ta σ H (.int j))(h2:∀H',Same H H'→Ev tb σ H' (.int k)):Ev (tOp (rI0 fun i j=>.bl (decide (i<j))) ta tb) σ H (.bl (decide (j<k))):=ev_op h1 h2 fun H' Q e q=>⟨j,k,rfl,rfl,q⟩
theorem c_ge {j k:Int}{ta tb:TE}(h1:Ev ta σ H (.int j))(h2:∀H',Same H H'→Ev tb σ H' (.int k)):Ev (tOp (rI0 fun i j=>.bl (decide (j≤i))) ta tb) σ H (.bl (decide (k≤j))):=ev_op h1 h2 fun H' Q e q=>⟨j,k,rfl,rfl,q⟩
end
abbrev s_is_tag_row:Stmt:=top 56
abbrev s_is_field_row:Stmt:=top 57
abbrev s_is_sort_declaration:Stmt:=top 58
abbrev s_is_kind_declaration:Stmt:=top 59
abbrev s_is_record_declaration:Stmt:=top 60
abbrev s_is_given_face:Stmt:=top 61
abbrev s_is_giver:Stmt:=top 62
abbrev s_is_hide_count:Stmt:=top 63
abbrev s_is_item:Stmt:=top 64
abbrev s_is_face_declaration:Stmt:=top 65
abbrev s_is_body_item:Stmt:=top 66
abbrev s_is_body:Stmt:=top 67
abbrev s_is_part_declaration:Stmt:=top 68
abbrev s_is_maker_declaration:Stmt:=top 69
abbrev s_is_apply_declaration:Stmt:=top 70
abbrev nmB:T→Bool:=onStr nameB
abbrev grB:T→Bool:=onStr greatB
abbrev vrB:T→Bool:=onStr varB
noncomputable def tagB (t:T):Bool:=hasLenT 1 5 t&&(atB 0 grB t&&dropB 1 (allB kindB) t)
noncomputable def fieldB (t:T):Bool:=hasLenT 2 2 t&&(atB 0 nmB t&&atB 1 kindB t)
noncomputable def sortB (most:Nat) (rowB:T→Bool) (t:T):Bool:=!(decide ((lenT t:Int)<3)|| !(atB 1 nmB t))&&(atB 2 (isListT 0 3 vrB) t&&dropB 3 (isListT 1 most rowB) t)
noncomputable def kindDB:T→Bool:=sortB 6 tagB
noncomputable def recDB:T→Bool:=sortB 4 fieldB
def givenB (t:T):Bool:=grB t||isListT 2 3 grB t
def giverB (t:T):Bool:=hasLenT 2 2 t&&(atB 0 grB t&&atB 1 givenB t)
def in02:T→Bool
 |.int i=>decide (0≤i)&&decide (i≤2)
 |_=>false
def hideB (t:T):Bool:=numT t&&in02 t
noncomputable def itemB (t:T):Bool:=!(!(hasLenT 3 3 t)|| !(atB 1 nmB t))&&(if atB 0 (isW "hide") t=true then atB 2 hideB t else(atB 0 (isW "val") t&&atB 2 kindB t))
noncomputable def faceDB (t:T):Bool:=!(decide ((lenT t:Int)<3)|| !(atB 1 grB t))&&(atB 2 (isListT 0 2 giverB) t&&dropB 3 (isListT 0 24 itemB) t)
noncomputable def bodyItemB (t:T):Bool:=!(!(hasLenT 3 4 t)|| !(atB 1 nmB t))&&(if atB 0 (isW "hide") t=true then(decide ((lenT t:Int)=4)&&(atB 2 (isListT 0 2 vrB) t&&atB 3 kindB t)) else(atB 0 (isW "val") t&&(decide ((lenT t:Int)=3)&&atB 2 phraseB t)))
noncomputable def bodyB:T→Bool:=isListT 0 24 bodyItemB
noncomputable def partDB (t:T):Bool:=decide (3≤(lenT t:Int))&&(atB 1 grB t&&(atB 2 givenB t&&dropB 3 bodyB t))
noncomputable def makerDB (t:T):Bool:=!(decide ((lenT t:Int)<4)|| !(atB 1 grB t))&&(atB 2 (isListT 1 2 giverB) t&&(atB 3 givenB t&&dropB 4 bodyB t))
def applyDB (t:T):Bool:=dropB 1 (isListT 3 4 grB) t
def spU (f:T→Bool):Sp:=fun vs H Q _=>∃v t,vs=[v]∧Rep H v t∧t.sz≤100000∧0<lenT t∧∀H',Same H H'→Q (.bl (f t)) H'
theorem tup_of {t:T}{i:Nat}(h:i<lenT t):isTupT t=true:=by
 obtain⟨l,rfl,_⟩:=len_tup h
 rfl
theorem ret_if {tst:TT}{b:TS}{Q:VK}{σ:L2.St}{H:Hp}{c d:Bool}(h:Tst tst σ H c)(q:∀H',Same H H'→Q (.bl (!c&&d)) H')(h2:c=false→∀H',Same H H'→(∀H2,Same H' H2→Q (.bl d) H2)→b (Ends.of Q) σ H'):
  tSeq (tIfS tst (tRet (tC (.bl false))) tNext) b (Ends.of Q) σ H:=by
 refine st_if h (fun c H1 e1=>?_) (fun c H1 e1=>?_)
 ·subst c
  exact q H1 e1
 ·subst c
  exact h2 rfl H1 e1 fun H2 e2=>q H2 (e1.trans e2)
section
variable {P:Program}{w:World}{K:PySem.W.Frag}{mg:Str→Option Value}{base:Heap}{f:Addr}{fd:FuncData}
theorem sc_is_tag_row:FnScope ["thing"] ["thing"] (defScope s_is_tag_row):=⟨rfl,rfl,rfl,by decide+kernel,rfl,by decide+kernel,by decide+kernel⟩
theorem ok_is_tag_row {gK:Addr}(F:Fun K "is_tag_row" "is_tag_row" s_is_tag_row f fd)(hl:Has P w K mg base 1 "has_length" ["thing","least","most"] spHasLen)(hg:Has P w K mg base 2 "is_great" ["thing"] (spZ grB))(ha:Has P w K mg base 8 "all_are" ["things","fits"] (spAllZ kindB gK))(mk:mg "is_kind"=some (.ref gK)):FnOk P w K mg base CX0 9 f fd ["thing"] (spZ tagB):=by
 refine F.ok sc_is_tag_row (len:=fun vs H Q E h=>(by obtain⟨v,t,rfl,_⟩:=h;rfl)) (fun cdv A outer s H vs Q E hr h=>?_)
 obtain⟨v,t,rfl,rt,hz,q⟩:=h
 have T0:Th H (L2.start ["thing"] [v]) t:=⟨⟨v,rfl,rt⟩,hz⟩
 refine⟨_,pss_one (ps_ret (pe_and (pcall hl hr (by decide) rfl (pa_cons (pv 0) (pa_cons pe_int (pa_cons pe_int pa_nil)))) (pe_and (pcall hg hr (by decide) rfl (pa_cons (pe_ix ix_tup (pv 0) pe_int (fun _ _=>rfl)) pa_nil)) (pe_one (pcall ha hr (by decide) rfl (pa_cons (pe_slice sl_tup (pv 0) (po_some pe_int) po_none) (pa_cons (pe_glob (v:=.ref gK) rfl mk rfl) pa_nil))))))),?_⟩
 exact ev_and (z_has 1 5 T0) (fun c H1 e1=>ev_and (z_at 0 (T0.same e1) (by have:=hl_len c;omega)) (fun _ H2 e2=>a_drop 1 (T0.same (e1.trans e2)) (by have:=hl_len c;omega))) Q q
theorem sc_is_field_row:FnScope ["thing"] ["thing"] (defScope s_is_field_row):=⟨rfl,rfl,rfl,by decide+kernel,rfl,by decide+kernel,by decide+kernel⟩
theorem ok_is_field_row (F:Fun K "is_field_row" "is_field_row" s_is_field_row f fd)(hl:Has P w K mg base 1 "has_length" ["thing","least","most"] spHasLen)(hn:Has P w K mg base 3 "is_name" ["thing"] (spZ nmB))(hk:Has P w K mg base 7 "is_kind" ["thing"] (spZ kindB)):FnOk P w K mg base CX0 8 f fd ["thing"] (spZ fieldB):=by
 refine F.ok sc_is_field_row (len:=fun vs H Q E h=>(by obtain⟨v,t,rfl,_⟩:=h;rfl)) (fun cdv A outer s H vs Q E hr h=>?_)
 obtain⟨v,t,rfl,rt,hz,q⟩:=h
 have T0:Th H (L2.start ["thing"] [v]) t:=⟨⟨v,rfl,rt⟩,hz⟩
 refine⟨_,pss_one (ps_ret (pe_and (pcall hl hr (by decide) rfl (pa_cons (pv 0) (pa_cons pe_int (pa_cons pe_int pa_nil)))) (pe_and (pcall hn hr (by decide) rfl (pa_cons (pe_ix ix_tup (pv 0) pe_int (fun _ _=>rfl)) pa_nil)) (pe_one (pcall hk hr (by decide) rfl (pa_cons (pe_ix ix_tup (pv 0) pe_int (fun _ _=>rfl)) pa_nil)))))),?_⟩
 exact ev_and (z_has 2 2 T0) (fun c H1 e1=>ev_and (z_at 0 (T0.same e1) (by have:=hl_len c;omega)) (fun _ H2 e2=>z_at 1 (T0.same (e1.trans e2)) (by have:=hl_len c;omega))) Q q
theorem sc_is_given_face:FnScope ["thing"] ["thing"] (defScope s_is_given_face):=⟨rfl,rfl,rfl,by decide+kernel,rfl,by decide+kernel,by decide+kernel⟩
theorem ok_is_given_face {gG:Addr}(F:Fun K "is_given_face" "is_given_face" s_is_given_face f fd)(hg:Has P w K mg base 2 "is_great" ["thing"] (spZ grB))(hs:Has P w K mg base 4 "is_list" ["thing","least","most","fits"] (spListZ grB gG))(mG:mg "is_great"=some (.ref gG)):FnOk P w K mg base CX0 5 f fd ["thing"] (spZ givenB):=by
 refine F.ok sc_is_given_face (len:=fun vs H Q E h=>(by obtain⟨v,t,rfl,_⟩:=h;rfl)) (fun cdv A outer s H vs Q E hr h=>?_)
 obtain⟨v,t,rfl,rt,hz,q⟩:=h
 have T0:Th H (L2.start ["thing"] [v]) t:=⟨⟨v,rfl,rt⟩,hz⟩
 refine⟨_,pss_one (ps_ret (pe_or (pcall hg hr (by decide) rfl (pa_cons (pv 0) pa_nil)) (pe_one (pcall hs hr (by decide) rfl (pa_cons (pv 0) (pa_cons pe_int (pa_cons pe_int (pa_cons (pe_glob (v:=.ref gG) rfl mG rfl) pa_nil)))))))),?_⟩
 exact ev_or (z_var T0) (fun _ H1 e1=>l_var 2 3 (T0.same e1)) Q q
theorem sc_is_giver:FnScope ["thing"] ["thing"] (defScope s_is_giver):=⟨rfl,rfl,rfl,by decide+kernel,rfl,by decide+kernel,by decide+kernel⟩
theorem ok_is_giver (F:Fun K "is_giver" "is_giver" s_is_giver f fd)(hl:Has P w K mg base 1 "has_length" ["thing","least","most"] spHasLen)(hg:Has P w K mg base 2 "is_great" ["thing"] (spZ grB))(hv:Has P w K mg base 5 "is_given_face" ["thing"] (spZ givenB)):FnOk P w K mg base CX0 6 f fd ["thing"] (spZ giverB):=by
 refine F.ok sc_is_giver (len:=fun vs H Q E h=>(by obtain⟨v,t,rfl,_⟩:=h;rfl)) (fun cdv A outer s H vs Q E hr h=>?_)
 obtain⟨v,t,rfl,rt,hz,q⟩:=h
 have T0:Th H (L2.start ["thing"] [v]) t:=⟨⟨v,rfl,rt⟩,hz⟩
 refine⟨_,pss_one (ps_ret (pe_and (pcall hl hr (by decide) rfl (pa_cons (pv 0) (pa_cons pe_int (pa_cons pe_int pa_nil)))) (pe_and (pcall hg hr (by decide) rfl (pa_cons (pe_ix ix_tup (pv 0) pe_int (fun _ _=>rfl)) pa_nil)) (pe_one (pcall hv hr (by decide) rfl (pa_cons (pe_ix ix_tup (pv 0) pe_int (fun _ _=>rfl)) pa_nil)))))),?_⟩
 exact ev_and (z_has 2 2 T0) (fun c H1 e1=>ev_and (z_at 0 (T0.same e1) (by have:=hl_len c;omega)) (fun _ H2 e2=>z_at 1 (T0.same (e1.trans e2)) (by have:=hl_len c;omega))) Q q
theorem sc_is_hide_count:FnScope ["thing"] ["thing"] (defScope s_is_hide_count):=⟨rfl,rfl,rfl,by decide+kernel,rfl,by decide+kernel,by decide+kernel⟩
theorem ok_is_hide_count (F:Fun K "is_hide_count" "is_hide_count" s_is_hide_count f fd)(hn:Has P w K mg base 2 "is_number" ["thing"] (spZ numT)):FnOk P w K mg base CX0 3 f fd ["thing"] (spZ hideB):=by
 refine F.ok sc_is_hide_count (len:=fun vs H Q E h=>(by obtain⟨v,t,rfl,_⟩:=h;rfl)) (fun cdv A outer s H vs Q E hr h=>?_)
 obtain⟨v,t,rfl,rt,hz,q⟩:=h
 have T0:Th H (L2.start ["thing"] [v]) t:=⟨⟨v,rfl,rt⟩,hz⟩
 refine⟨_,pss_one (ps_ret (pe_and (pcall hn hr (by decide) rfl (pa_cons (pv 0) pa_nil)) (pe_one (pe_chain op_le op_le pe_int (pv 0) pe_int)))),?_⟩
 refine ev_and (z_var T0) (c2:=in02 t) (fun c H1 e1=>?_) Q q
 cases rt with
 |str z h=>cases c
 |tup h r=>cases c
 |int i=>exact ev_chain ev_c (fun _ _=>ev_var rfl) (fun _ _=>ev_c)
theorem sc_is_item:FnScope ["thing"] ["thing"] (defScope s_is_item):=⟨rfl,rfl,rfl,by decide+kernel,rfl,by decide+kernel,by decide+kernel⟩
theorem ok_is_item (F:Fun K "is_item" "is_item" s_is_item f fd)(hl:Has P w K mg base 1 "has_length" ["thing","least","most"] spHasLen)(hn:Has P w K mg base 3 "is_name" ["thing"] (spZ nmB))(hh:Has P w K mg base 3 "is_hide_count" ["thing"] (spZ hideB))(hk:Has P w K mg base 7 "is_kind" ["thing"] (spZ kindB)):FnOk P w K mg base CX0 8 f fd ["thing"] (spZ itemB):=by
 refine F.ok sc_is_item (len:=fun vs H Q E h=>(by obtain⟨v,t,rfl,_⟩:=h;rfl)) (fun cdv A outer s H vs Q E hr h=>?_)
 obtain⟨v,t,rfl,rt,hz,q⟩:=h
 have T0:Th H (L2.start ["thing"] [v]) t:=⟨⟨v,rfl,rt⟩,hz⟩
 refine⟨_,pss_cons (ps_if (PW.pt (pw_or (pt_not (pt_val (pcall hl hr (by decide) rfl (pa_cons (pv 0) (pa_cons pe_int (pa_cons pe_int pa_nil)))))) (pw_or1 (pt_not (pt_val (pcall hn hr (by decide) rfl (pa_cons (pe_ix ix_tup (pv 0) pe_int (fun _ _=>rfl)) pa_nil))))))) (pss_one (ps_ret pe_bl)) pss_nil) (pss_cons (ps_if (pt_cmpR (OpR.or op_eq (op_eq_tupstr hr.units0)) (pe_ix ix_tup (pv 0) pe_int (fun _ _=>rfl)) pe_str (nomark _)) (pss_one (ps_ret (pcall hh hr (by decide) rfl (pa_cons (pe_ix ix_tup (pv 0) pe_int (fun _ _=>rfl)) pa_nil)))) pss_nil) (pss_one (ps_ret (pe_and (pe_cmpR (OpR.or op_eq (op_eq_tupstr hr.units0)) (pe_ix ix_tup (pv 0) pe_int (fun _ _=>rfl)) pe_str (nomark _)) (pe_one (pcall hk hr (by decide) rfl (pa_cons (pe_ix ix_tup (pv 0) pe_int (fun _ _=>rfl)) pa_nil))))))),?_⟩
 refine ret_if (ts_or (ts_not (ts_b (z_has 3 3 T0))) (c2:=!(atB 1 nmB t)) (fun c H1 e1=>ts_not (ts_b (z_at 1 (T0.same e1) (by have:=hl_len (t:=t) (by simpa using c);omega))))) q (fun c H1 e1 q1=>?_)
 rw[Bool.or_eq_false_iff]at c
 have c1:hasLenT 3 3 t=true:=by simpa using c.1
 have T1:=T0.same e1
 refine st_if (ts_t (q_at 0 "hide" T1 (by have:=hl_len c1;omega))) (fun c2 H2 e2=>?_) (fun c2 H2 e2=>?_)
 ·refine z_at 2 (T1.same e2) (by have:=hl_len c1;omega) _ fun H3 e3=>?_
  have:=q1 H3 (e2.trans e3)
  rw[if_pos c2]at this
  exact this
 ·refine ev_and (q_at 0 "val" (T1.same e2) (by have:=hl_len c1;omega)) (fun _ H3 e3=>z_at 2 (T1.same (e2.trans e3)) (by have:=hl_len c1;omega)) _ fun H3 e3=>?_
  have:=q1 H3 (e2.trans e3)
  rw[if_neg (by rw[c2];exact Bool.false_ne_true)]at this
  exact this
theorem sc_is_body_item:FnScope ["thing"] ["thing"] (defScope s_is_body_item):=⟨rfl,rfl,rfl,by decide+kernel,rfl,by decide+kernel,by decide+kernel⟩
theorem ok_is_body_item {gV:Addr}(F:Fun K "is_body_item" "is_body_item" s_is_body_item f fd)(ml:mg "len"=none)(hl:Has P w K mg base 1 "has_length" ["thing","least","most"] spHasLen)(hn:Has P w K mg base 3 "is_name" ["thing"] (spZ nmB))(hv:Has P w K mg base 5 "is_list" ["thing","least","most","fits"] (spListZ vrB gV))(mV:mg "is_variable"=some (.ref gV))(hk:Has P w K mg base 7 "is_kind" ["thing"] (spZ kindB))(hp:Has P w K mg base 11 "is_phrase" ["thing"] (spZ phraseB)):FnOk P w K mg base CX0 12 f fd ["thing"] (spZ bodyItemB):=by
 refine F.ok sc_is_body_item (len:=fun vs H Q E h=>(by obtain⟨v,t,rfl,_⟩:=h;rfl)) (fun cdv A outer s H vs Q E hr h=>?_)
 obtain⟨v,t,rfl,rt,hz,q⟩:=h
 have T0:Th H (L2.start ["thing"] [v]) t:=⟨⟨v,rfl,rt⟩,hz⟩
 refine⟨_,pss_cons (ps_if (PW.pt (pw_or (pt_not (pt_val (pcall hl hr (by decide) rfl (pa_cons (pv 0) (pa_cons pe_int (pa_cons pe_int pa_nil)))))) (pw_or1 (pt_not (pt_val (pcall hn hr (by decide) rfl (pa_cons (pe_ix ix_tup (pv 0) pe_int (fun _ _=>rfl)) pa_nil))))))) (pss_one (ps_ret pe_bl)) pss_nil) (pss_cons (ps_if (pt_cmpR (OpR.or op_eq (op_eq_tupstr hr.units0)) (pe_ix ix_tup (pv 0) pe_int (fun _ _=>rfl)) pe_str (nomark _)) (pss_one (ps_ret (pe_and (pe_cmpR op_eq (pe_callB call_len_seq rfl ml PySem.boot_len (pa_cons (pv 0) pa_nil)) pe_int (nomark _)) (pe_and (pcall hv hr (by decide) rfl (pa_cons (pe_ix ix_tup (pv 0) pe_int (fun _ _=>rfl)) (pa_cons pe_int (pa_cons pe_int (pa_cons (pe_glob (v:=.ref gV) rfl mV rfl) pa_nil))))) (pe_one (pcall hk hr (by decide) rfl (pa_cons (pe_ix ix_tup (pv 0) pe_int (fun _ _=>rfl)) pa_nil))))))) pss_nil) (pss_one (ps_ret (pe_and (pe_cmpR (OpR.or op_eq (op_eq_tupstr hr.units0)) (pe_ix ix_tup (pv 0) pe_int (fun _ _=>rfl)) pe_str (nomark _)) (pe_and (pe_cmpR op_eq (pe_callB call_len_seq rfl ml PySem.boot_len (pa_cons (pv 0) pa_nil)) pe_int (nomark _)) (pe_one (pcall hp hr (by decide) rfl (pa_cons (pe_ix ix_tup (pv 0) pe_int (fun _ _=>rfl)) pa_nil)))))))),?_⟩
 refine ret_if (ts_or (ts_not (ts_b (z_has 3 4 T0))) (c2:=!(atB 1 nmB t)) (fun c H1 e1=>ts_not (ts_b (z_at 1 (T0.same e1) (by have:=hl_len (t:=t) (by simpa using c);omega))))) q (fun c H1 e1 q1=>?_)
 rw[Bool.or_eq_false_iff]at c
 have c1:hasLenT 3 4 t=true:=by simpa using c.1
 have T1:=T0.same e1
 have tp:isTupT t=true:=tup_of (i:=0) (by have:=hl_len c1;omega)
 refine st_if (ts_t (q_at 0 "hide" T1 (by have:=hl_len c1;omega))) (fun c2 H2 e2=>?_) (fun c2 H2 e2=>?_)
 ·have T2:=T1.same e2
  refine ev_and (ev_eqI (len_v T2 tp) (fun _ _=>ev_c)) (fun c3 H3 e3=>ev_and (l_at 2 0 2 (T2.same e3) (by have:=hl_len c1;omega)) (fun _ H4 e4=>z_at 3 (T2.same (e3.trans e4)) (by have:=of_decide_eq_true c3;omega))) _ fun H3 e3=>?_
  have:=q1 H3 (e2.trans e3)
  rw[if_pos c2]at this
  exact this
 ·have T2:=T1.same e2
  refine ev_and (q_at 0 "val" T2 (by have:=hl_len c1;omega)) (fun _ H3 e3=>ev_and (ev_eqI (len_v (T2.same e3) tp) (fun _ _=>ev_c)) (fun c3 H4 e4=>z_at 2 (T2.same (e3.trans e4)) (by have:=of_decide_eq_true c3;omega))) _ fun H3 e3=>?_
  have:=q1 H3 (e2.trans e3)
  rw[if_neg (by rw[c2];exact Bool.false_ne_true)]at this
  exact this
theorem sc_is_body:FnScope ["things"] ["things"] (defScope s_is_body):=⟨rfl,rfl,rfl,by decide+kernel,rfl,by decide+kernel,by decide+kernel⟩
theorem ok_is_body {gB:Addr}(F:Fun K "is_body" "is_body" s_is_body f fd)(hs:Has P w K mg base 14 "is_list" ["thing","least","most","fits"] (spListZ bodyItemB gB))(mB:mg "is_body_item"=some (.ref gB))(vi:∃t,mg "MOST_ITEMS"=some (.int 24 t)):FnOk P w K mg base CX0 15 f fd ["things"] (spZ bodyB):=by
 refine F.ok sc_is_body (len:=fun vs H Q E h=>(by obtain⟨v,t,rfl,_⟩:=h;rfl)) (fun cdv A outer s H vs Q E hr h=>?_)
 obtain⟨v,t,rfl,rt,hz,q⟩:=h
 obtain⟨ti,vi⟩:=vi
 have T0:Th H (L2.start ["things"] [v]) t:=⟨⟨v,rfl,rt⟩,hz⟩
 refine⟨_,pss_one (ps_ret (pcall hs hr (by decide) rfl (pa_cons (pv 0) (pa_cons pe_int (pa_cons (pe_glob (v:=.int 24) rfl vi ⟨_,rfl⟩) (pa_cons (pe_glob (v:=.ref gB) rfl mB rfl) pa_nil)))))),?_⟩
 exact l_var 0 24 T0 Q q
def spSort (rowB:T→Bool)(g:Addr):Sp:=fun vs H Q _=>∃(v:V) (t:T) (most:Nat),vs=[v, .int most, .ref g]∧Rep H v t∧t.sz≤100000∧0<lenT t∧∀H',Same H H'→Q (.bl (sortB most rowB t)) H'
theorem sc_is_sort_declaration:FnScope ["thing","most","is_row"] ["thing","most","is_row"] (defScope s_is_sort_declaration):=⟨rfl,rfl,rfl,by decide+kernel,rfl,by decide+kernel,by decide+kernel⟩
theorem ok_is_sort_declaration {gV g:Addr}{rowB:T→Bool}{k:Nat}(F:Fun K "is_sort_declaration" "is_sort_declaration" s_is_sort_declaration f fd)(ml:mg "len"=none)(hn:Has P w K mg base 3 "is_name" ["thing"] (spZ nmB))(hv:Has P w K mg base 5 "is_list" ["thing","least","most","fits"] (spListZ vrB gV))(mV:mg "is_variable"=some (.ref gV))(hs:Has P w K mg base (k+5) "is_list" ["thing","least","most","fits"] (spListZ rowB g)):
  FnOk P w K mg base CX0 (k+6) f fd ["thing","most","is_row"] (spSort rowB g):=by
 refine F.ok sc_is_sort_declaration (len:=fun vs H Q E h=>(by obtain⟨v,t,m,rfl,_⟩:=h;rfl)) (fun cdv A outer s H vs Q E hr h=>?_)
 obtain⟨v,t,most,rfl,rt,hz,hp,q⟩:=h
 have T0:Th H (L2.start ["thing","most","is_row"] [v, .int most, .ref g]) t:=⟨⟨v,rfl,rt⟩,hz⟩
 refine⟨_,pss_cons (ps_if (PW.pt (pw_or (pt_cmpR op_lt (pe_callB call_len_seq rfl ml PySem.boot_len (pa_cons (pv 0) pa_nil)) pe_int (nomark _)) (pw_or1 (pt_not (pt_val (pcall hn hr (by omega) rfl (pa_cons (pe_ix ix_tup (pv 0) pe_int (fun _ _=>rfl)) pa_nil))))))) (pss_one (ps_ret pe_bl)) pss_nil)
  (pss_one (ps_ret (pe_and (pcall hv hr (by omega) rfl (pa_cons (pe_ix ix_tup (pv 0) pe_int (fun _ _=>rfl)) (pa_cons pe_int (pa_cons pe_int (pa_cons (pe_glob (v:=.ref gV) rfl mV rfl) pa_nil))))) (pe_one (pcall hs hr (by omega) rfl (pa_cons (pe_slice sl_tup (pv 0) (po_some pe_int) po_none) (pa_cons pe_int (pa_cons (pv 1) (pa_cons (pv 2) pa_nil))))))))),?_⟩
 refine ret_if (ts_or (ts_t (c_lt (len_v T0 (tup_of hp)) (fun _ _=>ev_c))) (c2:=!(atB 1 nmB t)) (fun c H1 e1=>ts_not (ts_b (z_at 1 (T0.same e1) (by have:=of_decide_eq_false c;omega))))) q (fun c H1 e1 q1=>?_)
 rw[Bool.or_eq_false_iff]at c
 have c1:=of_decide_eq_false c.1
 have T1:=T0.same e1
 refine ev_and (l_at 2 0 3 T1 (by omega)) (fun _ H2 e2=>?_) Q q1
 obtain⟨l,rfl,hz2,hx⟩:=th_drop (K:=K) (n:=3) (T1.same e2) hp (by decide)
 exact fun Q' q'=>hx _ fun v' H' e r=>⟨_,rfl,_,rfl,v',_,1,most,rfl,r,hz2,fun H2 e2=>q' H2 (e.trans e2)⟩
theorem sc_is_kind_declaration:FnScope ["thing"] ["thing"] (defScope s_is_kind_declaration):=⟨rfl,rfl,rfl,by decide+kernel,rfl,by decide+kernel,by decide+kernel⟩
theorem ok_is_kind_declaration {gT:Addr}(F:Fun K "is_kind_declaration" "is_kind_declaration" s_is_kind_declaration f fd)(hs:Has P w K mg base 12 "is_sort_declaration" ["thing","most","is_row"] (spSort tagB gT))(mr:mg "is_tag_row"=some (.ref gT)):FnOk P w K mg base CX0 13 f fd ["thing"] (spU kindDB):=by
 refine F.ok sc_is_kind_declaration (len:=fun vs H Q E h=>(by obtain⟨v,t,rfl,_⟩:=h;rfl)) (fun cdv A outer s H vs Q E hr h=>?_)
 obtain⟨v,t,rfl,rt,hz,hp,q⟩:=h
 have T0:Th H (L2.start ["thing"] [v]) t:=⟨⟨v,rfl,rt⟩,hz⟩
 refine⟨_,pss_one (ps_ret (pcall hs hr (by decide) rfl (pa_cons (pv 0) (pa_cons pe_int (pa_cons (pe_glob (v:=.ref gT) rfl mr rfl) pa_nil))))),?_⟩
 exact⟨_,rfl,v,t,6,rfl,rt,hz,hp,q⟩
theorem sc_is_record_declaration:FnScope ["thing"] ["thing"] (defScope s_is_record_declaration):=⟨rfl,rfl,rfl,by decide+kernel,rfl,by decide+kernel,by decide+kernel⟩
theorem ok_is_record_declaration {gF:Addr}(F:Fun K "is_record_declaration" "is_record_declaration" s_is_record_declaration f fd)(hs:Has P w K mg base 12 "is_sort_declaration" ["thing","most","is_row"] (spSort fieldB gF))(mr:mg "is_field_row"=some (.ref gF)):FnOk P w K mg base CX0 13 f fd ["thing"] (spU recDB):=by
 refine F.ok sc_is_record_declaration (len:=fun vs H Q E h=>(by obtain⟨v,t,rfl,_⟩:=h;rfl)) (fun cdv A outer s H vs Q E hr h=>?_)
 obtain⟨v,t,rfl,rt,hz,hp,q⟩:=h
 have T0:Th H (L2.start ["thing"] [v]) t:=⟨⟨v,rfl,rt⟩,hz⟩
 refine⟨_,pss_one (ps_ret (pcall hs hr (by decide) rfl (pa_cons (pv 0) (pa_cons pe_int (pa_cons (pe_glob (v:=.ref gF) rfl mr rfl) pa_nil))))),?_⟩
 exact⟨_,rfl,v,t,4,rfl,rt,hz,hp,q⟩
theorem sc_is_face_declaration:FnScope ["thing"] ["thing"] (defScope s_is_face_declaration):=⟨rfl,rfl,rfl,by decide+kernel,rfl,by decide+kernel,by decide+kernel⟩
theorem ok_is_face_declaration {gR gI:Addr}(F:Fun K "is_face_declaration" "is_face_declaration" s_is_face_declaration f fd)(ml:mg "len"=none)(hg:Has P w K mg base 2 "is_great" ["thing"] (spZ grB))(h1:Has P w K mg base 8 "is_list" ["thing","least","most","fits"] (spListZ giverB gR))(mR:mg "is_giver"=some (.ref gR))(h2:Has P w K mg base 10 "is_list" ["thing","least","most","fits"] (spListZ itemB gI))(mI:mg "is_item"=some (.ref gI))(vg:∃t,mg "MOST_GIVERS"=some (.int 2 t))(vi:∃t,mg "MOST_ITEMS"=some (.int 24 t)):FnOk P w K mg base CX0 11 f fd ["thing"] (spU faceDB):=by
 refine F.ok sc_is_face_declaration (len:=fun vs H Q E h=>(by obtain⟨v,t,rfl,_⟩:=h;rfl)) (fun cdv A outer s H vs Q E hr h=>?_)
 obtain⟨v,t,rfl,rt,hz,hp,q⟩:=h
 obtain⟨tg,vg⟩:=vg
 obtain⟨ti,vi⟩:=vi
 have T0:Th H (L2.start ["thing"] [v]) t:=⟨⟨v,rfl,rt⟩,hz⟩
 refine⟨_,pss_cons (ps_if (PW.pt (pw_or (pt_cmpR op_lt (pe_callB call_len_seq rfl ml PySem.boot_len (pa_cons (pv 0) pa_nil)) pe_int (nomark _)) (pw_or1 (pt_not (pt_val (pcall hg hr (by decide) rfl (pa_cons (pe_ix ix_tup (pv 0) pe_int (fun _ _=>rfl)) pa_nil))))))) (pss_one (ps_ret pe_bl)) pss_nil) (pss_one (ps_ret (pe_and (pcall h1 hr (by decide) rfl (pa_cons (pe_ix ix_tup (pv 0) pe_int (fun _ _=>rfl)) (pa_cons pe_int (pa_cons (pe_glob (v:=.int 2) rfl vg ⟨_,rfl⟩) (pa_cons (pe_glob (v:=.ref gR) rfl mR rfl) pa_nil))))) (pe_one (pcall h2 hr (by decide) rfl (pa_cons (pe_slice sl_tup (pv 0) (po_some pe_int) po_none) (pa_cons pe_int (pa_cons (pe_glob (v:=.int 24) rfl vi ⟨_,rfl⟩) (pa_cons (pe_glob (v:=.ref gI) rfl mI rfl) pa_nil))))))))),?_⟩
 refine ret_if (ts_or (ts_t (c_lt (len_v T0 (tup_of hp)) (fun _ _=>ev_c))) (c2:=!(atB 1 grB t)) (fun c H1 e1=>ts_not (ts_b (z_at 1 (T0.same e1) (by have:=of_decide_eq_false c;omega))))) q (fun c H1 e1 q1=>?_)
 rw[Bool.or_eq_false_iff]at c
 have c1:=of_decide_eq_false c.1
 have T1:=T0.same e1
 exact ev_and (l_at 2 0 2 T1 (by omega)) (fun _ H2 e2=>l_drop 3 0 24 (T1.same e2) hp) Q q1
theorem sc_is_maker_declaration:FnScope ["thing"] ["thing"] (defScope s_is_maker_declaration):=⟨rfl,rfl,rfl,by decide+kernel,rfl,by decide+kernel,by decide+kernel⟩
theorem ok_is_maker_declaration {gR:Addr}(F:Fun K "is_maker_declaration" "is_maker_declaration" s_is_maker_declaration f fd)(ml:mg "len"=none)(hg:Has P w K mg base 2 "is_great" ["thing"] (spZ grB))(h1:Has P w K mg base 8 "is_list" ["thing","least","most","fits"] (spListZ giverB gR))(mR:mg "is_giver"=some (.ref gR))(hv:Has P w K mg base 5 "is_given_face" ["thing"] (spZ givenB))(hb:Has P w K mg base 15 "is_body" ["things"] (spZ bodyB))(vg:∃t,mg "MOST_GIVERS"=some (.int 2 t)):FnOk P w K mg base CX0 16 f fd ["thing"] (spU makerDB):=by
 refine F.ok sc_is_maker_declaration (len:=fun vs H Q E h=>(by obtain⟨v,t,rfl,_⟩:=h;rfl)) (fun cdv A outer s H vs Q E hr h=>?_)
 obtain⟨v,t,rfl,rt,hz,hp,q⟩:=h
 obtain⟨tg,vg⟩:=vg
 have T0:Th H (L2.start ["thing"] [v]) t:=⟨⟨v,rfl,rt⟩,hz⟩
 refine⟨_,pss_cons (ps_if (PW.pt (pw_or (pt_cmpR op_lt (pe_callB call_len_seq rfl ml PySem.boot_len (pa_cons (pv 0) pa_nil)) pe_int (nomark _)) (pw_or1 (pt_not (pt_val (pcall hg hr (by decide) rfl (pa_cons (pe_ix ix_tup (pv 0) pe_int (fun _ _=>rfl)) pa_nil))))))) (pss_one (ps_ret pe_bl)) pss_nil) (pss_one (ps_ret (pe_and (pcall h1 hr (by decide) rfl (pa_cons (pe_ix ix_tup (pv 0) pe_int (fun _ _=>rfl)) (pa_cons pe_int (pa_cons (pe_glob (v:=.int 2) rfl vg ⟨_,rfl⟩) (pa_cons (pe_glob (v:=.ref gR) rfl mR rfl) pa_nil))))) (pe_and (pcall hv hr (by decide) rfl (pa_cons (pe_ix ix_tup (pv 0) pe_int (fun _ _=>rfl)) pa_nil)) (pe_one (pcall hb hr (by decide) rfl (pa_cons (pe_slice sl_tup (pv 0) (po_some pe_int) po_none) pa_nil))))))),?_⟩
 refine ret_if (ts_or (ts_t (c_lt (len_v T0 (tup_of hp)) (fun _ _=>ev_c))) (c2:=!(atB 1 grB t)) (fun c H1 e1=>ts_not (ts_b (z_at 1 (T0.same e1) (by have:=of_decide_eq_false c;omega))))) q (fun c H1 e1 q1=>?_)
 rw[Bool.or_eq_false_iff]at c
 have c1:=of_decide_eq_false c.1
 have T1:=T0.same e1
 exact ev_and (l_at 2 1 2 T1 (by omega)) (fun _ H2 e2=>ev_and (z_at 3 (T1.same e2) (by omega)) (fun _ H3 e3=>z_drop 4 (T1.same (e2.trans e3)) hp)) Q q1
theorem sc_is_part_declaration:FnScope ["thing"] ["thing"] (defScope s_is_part_declaration):=⟨rfl,rfl,rfl,by decide+kernel,rfl,by decide+kernel,by decide+kernel⟩
theorem ok_is_part_declaration (F:Fun K "is_part_declaration" "is_part_declaration" s_is_part_declaration f fd)(ml:mg "len"=none)(hg:Has P w K mg base 2 "is_great" ["thing"] (spZ grB))(hv:Has P w K mg base 5 "is_given_face" ["thing"] (spZ givenB))(hb:Has P w K mg base 15 "is_body" ["things"] (spZ bodyB)):FnOk P w K mg base CX0 16 f fd ["thing"] (spU partDB):=by
 refine F.ok sc_is_part_declaration (len:=fun vs H Q E h=>(by obtain⟨v,t,rfl,_⟩:=h;rfl)) (fun cdv A outer s H vs Q E hr h=>?_)
 obtain⟨v,t,rfl,rt,hz,hp,q⟩:=h
 have T0:Th H (L2.start ["thing"] [v]) t:=⟨⟨v,rfl,rt⟩,hz⟩
 refine⟨_,pss_one (ps_ret (pe_and (pe_cmpR op_ge (pe_callB call_len_seq rfl ml PySem.boot_len (pa_cons (pv 0) pa_nil)) pe_int (nomark _)) (pe_and (pcall hg hr (by decide) rfl (pa_cons (pe_ix ix_tup (pv 0) pe_int (fun _ _=>rfl)) pa_nil)) (pe_and (pcall hv hr (by decide) rfl (pa_cons (pe_ix ix_tup (pv 0) pe_int (fun _ _=>rfl)) pa_nil)) (pe_one (pcall hb hr (by decide) rfl (pa_cons (pe_slice sl_tup (pv 0) (po_some pe_int) po_none) pa_nil))))))),?_⟩
 exact ev_and (c_ge (len_v T0 (tup_of hp)) (fun _ _=>ev_c)) (fun c H1 e1=>ev_and (z_at 1 (T0.same e1) (by have:=of_decide_eq_true c;omega)) (fun _ H2 e2=>ev_and (z_at 2 (T0.same (e1.trans e2)) (by have:=of_decide_eq_true c;omega)) (fun _ H3 e3=>z_drop 3 (T0.same (e1.trans (e2.trans e3))) hp))) Q q
theorem sc_is_apply_declaration:FnScope ["thing"] ["thing"] (defScope s_is_apply_declaration):=⟨rfl,rfl,rfl,by decide+kernel,rfl,by decide+kernel,by decide+kernel⟩
theorem ok_is_apply_declaration {gG:Addr}(F:Fun K "is_apply_declaration" "is_apply_declaration" s_is_apply_declaration f fd)(hs:Has P w K mg base 4 "is_list" ["thing","least","most","fits"] (spListZ grB gG))(mG:mg "is_great"=some (.ref gG)):FnOk P w K mg base CX0 5 f fd ["thing"] (spU applyDB):=by
 refine F.ok sc_is_apply_declaration (len:=fun vs H Q E h=>(by obtain⟨v,t,rfl,_⟩:=h;rfl)) (fun cdv A outer s H vs Q E hr h=>?_)
 obtain⟨v,t,rfl,rt,hz,hp,q⟩:=h
 have T0:Th H (L2.start ["thing"] [v]) t:=⟨⟨v,rfl,rt⟩,hz⟩
 refine⟨_,pss_one (ps_ret (pcall hs hr (by decide) rfl (pa_cons (pe_slice sl_tup (pv 0) (po_some pe_int) po_none) (pa_cons pe_int (pa_cons pe_int (pa_cons (pe_glob (v:=.ref gG) rfl mG rfl) pa_nil)))))),?_⟩
 exact l_drop 1 3 4 T0 hp (by decide) Q q
end
abbrev s_is_declaration:Stmt:=top 72
abbrev s_is_main:Stmt:=top 73
abbrev s_is_program:Stmt:=top 74
abbrev s_read:Stmt:=top 75
def declsL:List (Str×Nat):=[("kind",0),("record",1),("face",2),("part",3),("maker",4),("apply",5)]
noncomputable def formDB:Nat→T→Bool
 |0=>kindDB
 |1=>recDB
 |2=>faceDB
 |3=>partDB
 |4=>makerDB
 |_=>applyDB
noncomputable def declB:T→Bool
 |.tup (.str z::r)=>(match declsL.lookup z with|some n=>formDB n (.tup (.str z::r))|none=>false)
 |_=>false
noncomputable def mainB (t:T):Bool:=hasLenT 2 2 t&&(atB 0 (isW "main") t&&atB 1 phraseB t)
noncomputable def progB (ts:List T):Bool:=(match ts.getLast? with|some m=>mainB m|none=>false)&&(lenIn 0 23 ts.dropLast&&ts.dropLast.all declB)
def headD (t:T):Bool:=!(isTupT t)||(decide ((lenT t:Int)=0)|| !(atB 0 isStrT t))
theorem headD_no {t:T}(h:headD t=false):∃z r,t=.tup (.str z::r):=by
 unfold headD at h
 cases t with
 |int i=>cases h
 |str z=>cases h
 |tup l=>
  match l,h with
  |[],h=>cases h
  |.str z::r,_=>exact⟨z,r,rfl⟩
  |.int i::r,h=>
   rw[Bool.or_eq_false_iff,Bool.or_eq_false_iff]at h
   exact absurd h.2.2 (by show ¬(!false)=false;decide)
  |.tup x::r,h=>
   rw[Bool.or_eq_false_iff,Bool.or_eq_false_iff]at h
   exact absurd h.2.2 (by show ¬(!false)=false;decide)
theorem headD_eq (t:T):declB t=(!(headD t)&&declB t):=by
 cases e:headD t with
 |false=>rfl
 |true=>
  show declB t=false
  unfold declB
  split
  ·rename_i z r
   have:headD (.tup (.str z::r))=false:=by
    show(!true||(decide (((r.length+1:Nat):Int)=0)|| !true))=false
    rw[decide_eq_false (by omega)]
    rfl
   rw[this]at e
   cases e
  ·rfl
section
variable {P:Program}{w:World}{K:PySem.W.Frag}{mg:Str→Option Value}{base:Heap}{f:Addr}{fd:FuncData}
theorem sc_is_declaration:FnScope ["thing"] ["thing"] (defScope s_is_declaration):=⟨rfl,rfl,rfl,by decide+kernel,rfl,by decide+kernel,by decide+kernel⟩
theorem ok_is_declaration {fn:Nat→Addr}{dd:Addr}(F:Fun K "is_declaration" "is_declaration" s_is_declaration f fd)(G:Gb K mg)(hd:mg "DECLARATION_FORMS"=some (.ref dd))(D:StrDict K w dd (declsL.map fun p=>(p.1,V.ref (fn p.2))))
  (hf:∀n,n≤5→∃gd,FnOk P w K mg base CX0 16 (fn n) gd ["thing"] (spU (formDB n))∧Binds K gd ["thing"] []∧PySem.W.keepIn K (.ref (fn n))=true):FnOk P w K mg base CX0 17 f fd ["thing"] (spZ declB):=by
 refine F.ok sc_is_declaration (len:=fun vs H Q E h=>(by obtain⟨v,t,rfl,_⟩:=h;rfl)) (fun cdv A outer s H vs Q E hr h=>?_)
 obtain⟨v,t,rfl,rt,hz,q⟩:=h
 have T0:Th H (L2.start ["thing"] [v]) t:=⟨⟨v,rfl,rt⟩,hz⟩
 rw[headD_eq]at q
 refine⟨_,pss_cons (ps_if (PW.pt (pw_or (pt_not (pt_val (pe_callB call_isi rfl G.isi boot_isinstance (pa_cons (pv 0) (pa_cons (pe_bltn (v:=.ty "tuple") rfl G.tuple boot_tuple rfl) pa_nil)))))
   (pw_or (pt_cmpR op_eq (pe_callB call_len_seq rfl G.len PySem.boot_len (pa_cons (pv 0) pa_nil)) pe_int (nomark _)) (pw_or1 (pt_not (pt_val (pe_callB call_isi rfl G.isi boot_isinstance (pa_cons (pe_ix ix_tup (pv 0) pe_int (fun _ _=>rfl)) (pa_cons (pe_bltn (v:=.ty "str") rfl G.str boot_str rfl) pa_nil)))))))))
   (pss_one (ps_ret pe_bl)) pss_nil)
  (pss_one (ps_ret (pe_and (pe_cmpR op_in_dict (pe_ix ix_tup (pv 0) pe_int (fun _ _=>rfl)) (pe_glob (v:=.ref dd) rfl hd rfl) (by with_unfolding_all rfl))
   (pe_one (pe_callE (E:=E0) (fun f sp=>∃n,n≤5∧f=fn n∧sp=spU (formDB n)) (fun f sp ⟨n,hn,e1,e2⟩=>by
     subst e1 e2
     obtain⟨gd,k1,k2,k3⟩:=hf n hn
     exact⟨16,gd,["thing"],k1,hr,k3,k2⟩) (pe_ix ix_dict (pe_glob (v:=.ref dd) rfl hd rfl) (pe_ix ix_tup (pv 0) pe_int (fun _ _=>rfl)) (fun _ _=>rfl)) pass0 (pa_cons (pv 0) pa_nil)))))),?_⟩
 refine ret_if (c:=headD t) (ts_or (ts_not (ts_b (ev_isi (ev_var (i:=0) rfl) rt (kit_tup K)))) (fun c H1 e1=>ts_or (ts_t (ev_eqI (len_v (T0.same e1) (by simpa using c)) fun _ _=>ev_c)) (fun c2 H2 e2=>ts_not (ts_b ?_)))) q (fun c H1 e1 q1=>?_)
 ·have l0:0<lenT t:=by have:=of_decide_eq_false c2;omega
  obtain⟨x,e,_,hx⟩:=th_at (K:=K) (i:=0) (T0.same (e1.trans e2)) l0
  rw[e]
  exact fun Q q=>hx _ fun v H3 e3 r3=>⟨v,_,"str",_,rfl,rep_ty r3,kit_str K x,q H3 e3⟩
 ·obtain⟨z,r,rfl⟩:=headD_no c
  have T1:=T0.same e1
  obtain⟨⟨v',hv,_⟩,_⟩:=id T1
  cases hv
  have at0:∀{H2:Hp},Same H1 H2→EvT (tOp (rIxT K) (tVar 0) (tC (.int 0))) (L2.start ["thing"] [v]) H2 (.str z):=fun{H2} e2=>et_ix' (i:=0) (th_var (T1.same e2)) (fun _ _=>ev_c) rfl
  have e:declB (.tup (.str z::r))=((declsL.lookup z).isSome&&(match declsL.lookup z with|some n=>formDB n (.tup (.str z::r))|none=>false)):=by
   show(match declsL.lookup z with|some n=>formDB n (.tup (.str z::r))|none=>false)=_
   cases declsL.lookup z<;>rfl
  rw[e]at q1
  refine ev_and ?a ?b Q q1
  case a=>
   refine fun Q q=>at0 (Same.refl _) _ fun v H4 e4 r4=>?_
   cases r4 with
   |str _ hx=>
    refine⟨z,dd,_,rfl,rfl,D,?_⟩
    rw[forms_lookup,Option.isSome_map]
    exact q H4 e4
  case b=>
   intro c6 H4 e4
   obtain⟨n,hn⟩:=Option.isSome_iff_exists.mp c6
   have hn5:n≤5:=by
    have:∀p∈declsL,p.2≤5:=by decide+kernel
    exact this (z,n) (mem_of_lookup' hn)
   rw[hn]
   refine fun Q q=>at0 e4 _ fun v5 H5 e5 r5=>?_
   cases r5 with
   |str _ hx=>
    have rt5:=rt.same (e1.trans (e4.trans e5))
    refine⟨z,dd,_,V.ref (fn n),rfl,rfl,D,?_,fn n,spU (formDB n),rfl,⟨n,hn5,rfl,rfl⟩,_,rfl,v,_,rfl,rt5,hz,Nat.succ_pos _,fun H6 e6=>q H6 (e5.trans e6)⟩
    rw[forms_lookup]
    rw[hn]
    rfl
theorem sc_is_main:FnScope ["thing"] ["thing"] (defScope s_is_main):=⟨rfl,rfl,rfl,by decide+kernel,rfl,by decide+kernel,by decide+kernel⟩
theorem ok_is_main (F:Fun K "is_main" "is_main" s_is_main f fd)(hl:Has P w K mg base 1 "has_length" ["thing","least","most"] spHasLen)(hp:Has P w K mg base 11 "is_phrase" ["thing"] (spZ phraseB)):FnOk P w K mg base CX0 12 f fd ["thing"] (spZ mainB):=by
 refine F.ok sc_is_main (len:=fun vs H Q E h=>(by obtain⟨v,t,rfl,_⟩:=h;rfl)) (fun cdv A outer s H vs Q E hr h=>?_)
 obtain⟨v,t,rfl,rt,hz,q⟩:=h
 have T0:Th H (L2.start ["thing"] [v]) t:=⟨⟨v,rfl,rt⟩,hz⟩
 refine⟨_,pss_one (ps_ret (pe_and (pcall hl hr (by decide) rfl (pa_cons (pv 0) (pa_cons pe_int (pa_cons pe_int pa_nil)))) (pe_and (pe_cmpR (OpR.or op_eq (op_eq_tupstr hr.units0)) (pe_ix ix_tup (pv 0) pe_int (fun _ _=>rfl)) pe_str (nomark _)) (pe_one (pcall hp hr (by decide) rfl (pa_cons (pe_ix ix_tup (pv 0) pe_int (fun _ _=>rfl)) pa_nil)))))),?_⟩
 exact ev_and (z_has 2 2 T0) (fun c H1 e1=>ev_and (q_at 0 "main" (T0.same e1) (by have:=hl_len c;omega)) (fun _ H2 e2=>z_at 1 (T0.same (e1.trans e2)) (by have:=hl_len c;omega))) Q q
def spProg:Sp:=fun vs H Q _=>∃(a:Addr) (us:List V) (ts:List T),vs=[.ref a]∧H a=some (.tup us)∧Reps H us ts∧szs ts<100000∧∀H',Same H H'→Q (.bl (progB ts)) H'
theorem sc_is_program:FnScope ["things"] ["things"] (defScope s_is_program):=⟨rfl,rfl,rfl,by decide+kernel,rfl,by decide+kernel,by decide+kernel⟩
theorem cut_init (vs:List V)(v:V):cutV (vs++[v]) none (some (-1))=vs:=by
 unfold cutV
 have e1:HT.sIx (vs++[v]).length 0 none=0:=HT.sIx_none _ _
 have e2:HT.sIx (vs++[v]).length (vs++[v]).length (some (-1))=vs.length:=by
  unfold HT.sIx
  simp
  omega
 rw[e1,e2]
 simp
theorem cut_init_not (vs:List V)(v:V):¬(HT.sIx (vs++[v]).length 0 none=0∧HT.sIx (vs++[v]).length (vs++[v]).length (some (-1))=(vs++[v]).length):=by
 have e2:HT.sIx (vs++[v]).length (vs++[v]).length (some (-1))=vs.length:=by
  unfold HT.sIx
  simp
  omega
 rw[e2]
 simp
theorem ok_is_program {g:Addr}(F:Fun K "is_program" "is_program" s_is_program f fd)(ml:mg "len"=none)(hm:Has P w K mg base 12 "is_main" ["thing"] (spZ mainB))(hs:Has P w K mg base 19 "is_list" ["thing","least","most","fits"] (spListZ declB g))(mg':mg "is_declaration"=some (.ref g))(vd:∃t,mg "MOST_DECLARATIONS"=some (.int 24 t)):
  FnOk P w K mg base CX0 20 f fd ["things"] spProg:=by
 refine F.ok sc_is_program (len:=fun vs H Q E h=>(by obtain⟨a,us,ts,rfl,_⟩:=h;rfl)) (fun cdv A outer s H vs Q E hr h=>?_)
 obtain⟨a,us,ts,rfl,ha,r,hz,q⟩:=h
 obtain⟨td,vd⟩:=vd
 refine⟨_,pss_cons (ps_if (PW.pt (pw_or (pt_cmpR op_eq (pe_callB call_len_seq rfl ml PySem.boot_len (pa_cons (pv 0) pa_nil)) pe_int (nomark _)) (pw_or1 (pt_not (pt_val (pcall hm hr (by decide) rfl (pa_cons (pe_ix ix_tup (pv 0) (pe_un un_neg pe_int) (fun _ _=>rfl)) pa_nil)))))))
   (pss_one (ps_ret pe_bl)) pss_nil)
  (pss_one (ps_ret (pcall hs hr (by decide) rfl (pa_cons (pe_slice sl_tup (pv 0) po_none (po_some (pe_un un_neg pe_int))) (pa_cons pe_int (pa_cons (pe_op op_sub (pe_glob (v:=.int 24) rfl vd ⟨_,rfl⟩) pe_int) (pa_cons (pe_glob (v:=.ref g) rfl mg' rfl) pa_nil))))))),?_⟩
 have lv:=r.length
 refine⟨_,rfl,a,us,rfl, .inr (SqT.of ha),rfl,_,rfl,?_⟩
 by_cases e0:us=[]
 ·subst e0
  have:ts=[]:=by cases r;rfl
  subst this
  exact iteT (q H (Same.refl _))
 ·obtain⟨ws,xs,v,t,rfl,rfl,r1,rv⟩:=r.snoc_inv e0
  have hl:szs (xs++[t])=szs xs+t.sz:=by rw[szs_app];simp[szs]
  rw[decide_eq_false (by intro z;have:=V.int.inj z;simp at this;omega)]
  refine iteF ⟨_,rfl,1,rfl,a,_,-1,v,rfl,rfl,SqT.of ha,atI_last _ _,v,t,rfl,rv,by omega,fun H1 e1=>⟨_,rfl,?_⟩⟩
  have e:progB (xs++[t])=(mainB t&&(lenIn 0 23 xs&&xs.all declB)):=by
   unfold progB
   rw[List.getLast?_concat,List.dropLast_concat]
  rw[e]at q
  cases c:mainB t with
  |false=>
   rw[c]at q
   exact iteT (q H1 e1)
  |true=>
   rw[c,Bool.true_and]at q
   refine iteF ⟨_,rfl,1,rfl,-1,rfl,a,_,rfl,SqT.of (e1 _ _ ha),cut_init_not _ _,fun p hp=>⟨24,1,rfl,rfl,?_⟩⟩
   rw[cut_init]
   refine⟨.ref p, .tup xs,0,23,rfl, .tup upd_same (r1.same (e1.trans (same_new hp _))),?_,fun H2 e2=>q H2 (e1.trans ((same_new hp _).trans e2))⟩
   simp only[T.sz]
   have:=sz_pos t
   omega
inductive spRead (vs:List V)(H:Hp)(Q:VK)(E_:XK):Prop where
 |mk (z:Str) (ts:List T):vs=[.str z]→z.length≤6000→pars [[]] (piecesS z)=some [ts]→(∀p∈piecesS z,p.length≤100)→szs ts<100000→progB ts=true→(∀v H',Same H H'→Rep H' v (.tup ts)→Q v H')→spRead vs H Q E_
theorem sc_read:FnScope ["text","program"] ["text"] (defScope s_read):=⟨rfl,rfl,rfl,by decide+kernel,rfl,by decide+kernel,by decide+kernel⟩
theorem ok_read (F:Fun K "read" "read" s_read f fd)(h1:Has P w K mg base 7 "things_of" ["text"] spThs)(h2:Has P w K mg base 20 "is_program" ["things"] spProg):FnOk P w K mg base CX0 21 f fd ["text"] spRead:=by
 refine F.ok sc_read (fun cdv A outer s H vs Q E hr h=>?_)
 obtain⟨z,ts,rfl,hz,hp,hl,sz,pb,q⟩:=h
 refine⟨_,pss_cons (pset 1 sc_read.nd (pcall h1 hr (by decide) rfl (pa_cons (pv 0) pa_nil))) (pss_cons (ps_if (pt_not (pt_val (pcall h2 hr (by decide) rfl (pa_cons (pv 1) pa_nil)))) (pss_one ps_never) pss_nil) (pss_one (ps_ret (pv 1)))),?_⟩
 refine⟨_,rfl,z,ts,rfl,hz,hp,hl,fun v H' e r=>?_⟩
 cases r with
 |@tup a us _ ha r=>
  refine⟨_,rfl,a,us,ts,rfl,ha,r,sz,fun H2 e2=>⟨_,rfl,?_⟩⟩
  rw[pb]
  exact iteF ⟨_,rfl,q _ H2 (e.trans e2) (.tup (e2 _ _ ha) (r.same e2))⟩
end
abbrev s_kind_name:Stmt:=top 86
section
variable {P:Program}{w:World}{K:PySem.W.Frag}{mg:Str→Option Value}{base:Heap}{f:Addr}{fd:FuncData}
theorem sc_kind_name:FnScope ["_law_state"] ["_law_state"] (defScope s_kind_name):=⟨rfl,rfl,rfl,by decide+kernel,rfl,by decide+kernel,by decide+kernel⟩
theorem ok_kind_name (F:Fun K "_law_kind_name" "_law_kind_name" s_kind_name f fd)(h1:Has P w K mg base 1 "_law_next" ["_law_state","_law_many"] spNext)(h2:Has P w K mg base 3 "_law_small" ["_law_state"] (spStr fun z=>nameB z=true))
  (h3:Has P w K mg base 4 "_law_path" ["_law_state"] (spStr fun z=>pathB z=true)):FnOk P w K mg base CX0 5 f fd ["_law_state"] (spStr fun z=>headB z=true):=by
 refine F.ok sc_kind_name (len:=fun vs H Q E h=>(by obtain⟨st,rfl,_⟩:=h;rfl)) (fun cdv A outer s H vs Q E hr h=>?_)
 obtain⟨st,rfl,hs,q⟩:=h
 refine⟨_,pss_one (ps_ret (pe_ix ix_list (pe_lst (pa_cons (pcall h2 hr (by decide) rfl (pa_cons (pv 0) pa_nil)) (pa_cons (pcall h3 hr (by decide) rfl (pa_cons (pv 0) pa_nil)) pa_nil))) (pcall h1 hr (by decide) rfl (pa_cons (pv 0) (pa_cons pe_int pa_nil))) (fun _ _=>rfl))),?_⟩
 refine⟨_,rfl,st,rfl,hs,fun z H1 hz lz g1=>?_⟩
 refine⟨_,rfl,st,rfl,g1.ok,fun y H2 hy ly g2=>?_⟩
 refine⟨small (by show 2≤1000000;decide),fun p hp=>?_⟩
 have g3:Grow st H2 (upd H2 p (.lst [.str z, .str y])):=grow_new g2.ok hp
 refine⟨_,rfl,st,2,rfl,g3.ok,by decide,by decide,fun d H4 d0 d1 g4=>?_⟩
 have hp4:H4 p=some (.lst [.str z, .str y]):=g4.at_ g3.ok (by intro ns e;injection e with e;cases ns<;>simp at e) upd_same
 have gg:=((g1.trans g2).trans g3).trans g4
 have hd:d=0∨d=1:=by omega
 rcases hd with rfl|rfl
 ·refine⟨p,_,0, .str z,rfl,rfl,SqL.of hp4,atI_nat (j:=0) rfl,q z _ (head_name hz) lz gg⟩
 ·refine⟨p,_,1, .str y,rfl,rfl,SqL.of hp4,atI_nat (j:=1) rfl,q y _ (head_path hy) ly gg⟩
end
abbrev s_kind:Stmt:=top 87
def BK:Nat→Nat
 |0=>1
 |n+1=>2+3*BK n
theorem BK_pos:∀n,1≤BK n
 |0=>Nat.le_refl 1
 |n+1=>by show 1≤2+3*BK n;omega
def spKind (n:Nat):Sp:=fun vs H Q _=>∃(st:Addr),vs=[.ref st, .int n]∧StOk H st∧∀v t H',Good kidsK t→Rep H' v t→t.sz≤BK n→Grow st H H'→Q v H'
def spKindN:Nat→Sp
 |0=>fun _ _ _ _=>False
 |n+1=>spKind n
theorem good_leaf {z:Str}(h:leafB z=true):Good kidsK (.str z):=.mk (l:=[]) (by rw[kidsK_str,if_pos h]) (fun _ hk=>by cases hk)
theorem good_arrow {a b:T}(ha:Good kidsK a)(hb:Good kidsK b):Good kidsK (.tup [.str "->",a,b]):=by
 refine .mk (l:=[a,b]) (by rw[kidsK_cons,if_pos ⟨rfl,by decide⟩]) fun k hk=>?_
 rcases List.mem_cons.mp hk with rfl|hk
 ·exact ha
 ·rw[List.mem_singleton.mp hk]
  exact hb
theorem arrow_head {z:Str}(h:headB z=true):onStr (fun x=>decide (x=("->":Str))) (.str z)=false:=by
 show decide (z=("->":Str))=false
 refine decide_eq_false fun e=>?_
 rw[e,arrow_not.2]at h
 cases h
theorem kids_named {z:Str}{r:List T}(h:headB z=true)(h1:1≤r.length)(h2:r.length≤3):kidsK (.tup (.str z::r))=some r:=by
 rw[kidsK_cons,if_neg (by rw[arrow_head h];simp),if_pos ⟨⟨h1,h2⟩,h⟩]
theorem good_named {z:Str}{r:List T}(h:headB z=true)(h1:1≤r.length)(h2:r.length≤3)(hr:∀t∈r,Good kidsK t):Good kidsK (.tup (.str z::r)):=.mk (kids_named h h1 h2) hr
section
variable {P:Program}{w:World}{K:PySem.W.Frag}{mg:Str→Option Value}{base:Heap}{f:Addr}{fd:FuncData}
theorem sc_kind:FnScope ["_law_state","_law_deep","_law_way","_law_many"] ["_law_state","_law_deep"] (defScope s_kind):=⟨rfl,rfl,rfl,by decide+kernel,rfl,by decide+kernel,by decide+kernel⟩
theorem ok_kind {n:Nat}(F:Fun K "_law_kind" "_law_kind" s_kind f fd)(mr:mg "range"=none)(mt:mg "tuple"=none)(h1:Has P w K mg base 1 "_law_next" ["_law_state","_law_many"] spNext)(h2:Has P w K mg base 3 "_law_variable" ["_law_state"] (spStr fun z=>varB z=true))
  (h3:Has P w K mg base 3 "_law_small" ["_law_state"] (spStr fun z=>nameB z=true)) (h4:Has P w K mg base 4 "_law_path" ["_law_state"] (spStr fun z=>pathB z=true)) (h5:Has P w K mg base 5 "_law_kind_name" ["_law_state"] (spStr fun z=>headB z=true))
  (h6:Has P w K mg base (5+n) "_law_kind" ["_law_state","_law_deep"] (spKindN n)):FnOk P w K mg base CX0 (5+n+1) f fd ["_law_state","_law_deep"] (spKind n):=by
 refine F.ok sc_kind (len:=fun vs H Q E h=>(by obtain⟨st,rfl,_⟩:=h;rfl)) (fun cdv A outer s H vs Q E hr h=>?_)
 obtain⟨st,rfl,hs,q⟩:=h
 refine⟨_,pss_cons (ps_set (i:=2) sc_kind.nd rfl (Or.inl rfl) (pcall h1 hr (by omega) rfl (pa_cons (pv 0) (pa_cons pe_int pa_nil))))
  (pss_cons (ps_if (PW.pt (pw_or (pt_cmpR op_eq (pv 1) pe_int (nomark _)) (pw_or1 (pt_cmpR op_lt (pv 2) pe_int (nomark _)))))
   (pss_one (ps_ret (pe_ix ix_list (pe_lst (pa_cons pe_str (pa_cons (pcall h2 hr (by omega) rfl (pa_cons (pv 0) pa_nil)) (pa_cons (pcall h3 hr (by omega) rfl (pa_cons (pv 0) pa_nil)) (pa_cons (pcall h4 hr (by omega) rfl (pa_cons (pv 0) pa_nil)) pa_nil))))) (pe_op op_mod (pv 2) pe_int) (fun _ _=>rfl)))) pss_nil)
  (pss_cons (ps_if (pt_cmpR op_eq (pv 2) pe_int (nomark _))
   (pss_one (ps_ret (pe_tup (pa_cons pe_str (pa_cons (pcall h6 hr (by omega) rfl (pa_cons (pv 0) (pa_cons (pe_op op_sub (pv 1) pe_int) pa_nil))) (pa_cons (pcall h6 hr (by omega) rfl (pa_cons (pv 0) (pa_cons (pe_op op_sub (pv 1) pe_int) pa_nil))) pa_nil)))))) pss_nil)
  (pss_cons (ps_set (i:=3) sc_kind.nd rfl (Or.inl rfl) (pe_op op_add pe_int (pcall h1 hr (by omega) rfl (pa_cons (pv 0) (pa_cons pe_int pa_nil)))))
  (pss_one (ps_ret (pe_op op_catT (pe_tup (pa_cons (pcall h5 hr (by omega) rfl (pa_cons (pv 0) pa_nil)) pa_nil)) (pe_callTy call_tuple_of rfl mt boot_tuple (pa_cons
   (pe_lc (defScope s_kind) ["_law_state","_law_deep","_law_way","_law_many"] ["_law_state","_law_deep"] [0,1] (by decide+kernel) (pi_range1 rfl mr (pa_cons (pv 3) pa_nil)) (fun C s₀ H₀ ex=>pts_nil)
    (fun C s₀ H₀ ex=>pcall h6 hr (by omega) rfl (pa_cons (pv 1) (pa_cons (pe_op op_sub (pv 2) pe_int) pa_nil)))) pa_nil)))))))),?_⟩
 refine⟨_,rfl,st,7,rfl,hs,by decide,by decide,fun d H1 d0 d1 g1=>?_⟩
 refine st_if (ts_or (ts_t (ev_eqI (ev_var rfl) fun _ _=>ev_c)) (fun _ H' e'=>ts_t (ev_op (z:=.bl (decide (d<4))) (ev_var rfl) (fun _ _=>ev_c) fun H'' Q'' e'' q''=>⟨_,_,rfl,rfl,q''⟩))) (fun c H2 e2=>?_) (fun c H2 e2=>?_)
 ·--a leaf
  have g2:=g1.trans (grow_same g1.ok e2)
  refine⟨_,rfl,st,rfl,g2.ok,fun z1 H3 hz1 lz1 g3=>?_⟩
  refine⟨_,rfl,st,rfl,g3.ok,fun z2 H4 hz2 lz2 g4=>?_⟩
  refine⟨_,rfl,st,rfl,g4.ok,fun z3 H5 hz3 lz3 g5=>?_⟩
  refine⟨small (by show 4≤1000000;decide),fun p hp=>?_⟩
  have g6:Grow st H5 (upd H5 p (.lst [.str "num", .str z1, .str z2, .str z3])):=grow_new g5.ok hp
  have gg:=(((g2.trans g3).trans g4).trans g5).trans g6
  obtain⟨v,hv,hm⟩:=at_any (xs:=[V.str "num", .str z1, .str z2, .str z3]) (d:=d%4) (Int.emod_nonneg _ (by omega)) (Int.emod_lt_of_pos _ (by decide))
  refine⟨_,rfl,d,4,rfl,rfl,(by show(0:Int)<4;decide),p,_,d%4,v,rfl,rfl,SqL.of upd_same,hv,?_⟩
  have fin:∀z:Str,leafB z=true→z.length≤100→Q (.str z) (upd H5 p (.lst [.str "num", .str z1, .str z2, .str z3])):=fun z hz lz=>q _ (.str z) _ (good_leaf hz) (.str z (by omega)) (BK_pos n) gg
  simp only[List.mem_cons,List.not_mem_nil,or_false]at hm
  rcases hm with rfl|rfl|rfl|rfl
  ·exact fin _ num_not.2 (by decide+kernel)
  ·exact fin _ (leaf_var hz1) lz1
  ·exact fin _ (leaf_name hz2) lz2
  ·exact fin _ (leaf_path hz3) lz3
 ·have c1:¬((n:Int)=0)∧¬d<4:=by
   rw[Bool.or_eq_false_iff]at c
   exact⟨of_decide_eq_false c.1,of_decide_eq_false c.2⟩
  obtain⟨m,rfl⟩:∃m,n=m+1:=⟨n-1,by omega⟩
  have em:(((m+1:Nat):Int)-1)=(m:Int):=by omega
  have rec_:∀(H3:Hp) (Q3:VK),StOk H3 st→(∀v t H',Good kidsK t→Rep H' v t→t.sz≤BK m→Grow st H3 H'→Q3 v H')→spKindN (m+1) ([V.ref st, .int (((m+1:Nat):Int)-1)]++[]) H3 Q3 E0:=fun H3 Q3 h3 q3=>by
   rw[em]
   exact⟨st,rfl,h3,q3⟩
  have g2:=g1.trans (grow_same g1.ok e2)
  refine st_if (ts_t (ev_eqI (ev_var rfl) fun _ _=>ev_c)) (fun c2 H3 e3=>?_) (fun c2 H3 e3=>?_)
  ·--an arrow
   have g3:=g2.trans (grow_same g2.ok e3)
   refine⟨_,rfl,_,rfl,_,_,rfl,rfl,rec_ H3 _ g3.ok fun v1 t1 H4 k1 r1 b1 g4=>?_⟩
   refine⟨_,rfl,_,rfl,_,_,rfl,rfl,rec_ H4 _ g4.ok fun v2 t2 H5 k2 r2 b2 g5=>?_⟩
   refine⟨small (by show 3≤1000000;decide),fun p hp=>?_⟩
   have e6:=same_new hp (.tup [.str "->",v1,v2])
   refine q _ (.tup [.str "->",t1,t2]) _ (good_arrow k1 k2) (.tup upd_same (.cons (.str _ (by decide+kernel)) (.cons ((r1.grow g5 g4.ok).same e6) (.cons (r2.same e6) .nil)))) ?_ (((g3.trans g4).trans g5).trans (grow_new g5.ok hp))
   simp only[T.sz,szs,BK]
   omega
  ·--a name with kinds
   have g3:=g2.trans (grow_same g2.ok e3)
   refine⟨_,rfl,st,3,rfl,g3.ok,by decide,by decide,fun e H4 e0 e1' g4=>⟨1,e,rfl,rfl,?_⟩⟩
   refine⟨_,rfl,st,rfl,g4.ok,fun z H5 hz lz g5=>?_⟩
   refine⟨small (by show 1≤1000000;decide),fun p hp=>?_⟩
   have e6:=same_new hp (.tup [.str z])
   have g6:Grow st H5 (upd H5 p (.tup [.str z])):=grow_new g5.ok hp
   refine⟨_,rfl,1+e,rfl,by omega,by omega,?_⟩
   refine comp_range (fun i vs H'=>Grow st (upd H5 p (.tup [.str z])) H'∧∃ts,Reps H' vs ts∧ts.length=i∧(∀t∈ts,Good kidsK t)∧szs ts≤i*BK m) ⟨Grow.refl g6.ok,[], .nil,rfl,(fun _ h=>by cases h),by simp[szs]⟩ ?_ ?_ ?_
   ·rintro i vs H' hi ⟨g,ts,hr1,hl,_⟩
    exact small' (by rw[hr1.length,hl];omega)
   ·rintro i vs H' hi ⟨g,ts,hr1,hl,hg,hb⟩
    refine tt1 (iteT ?_)
    refine⟨_,rfl,_,rfl,_,_,rfl,rfl,rec_ H' _ g.ok fun v1 t1 H7 k1 r1 b1 g7=>nx hi ⟨g.trans g7,ts++[t1],(hr1.grow g7 g.ok).append (.cons r1 .nil),by simp[hl],fun t ht=>?_,?_⟩⟩
    ·rcases List.mem_append.mp ht with h|h
     ·exact hg t h
     ·rw[List.mem_singleton.mp h];exact k1
    ·rw[szs_app,Nat.add_mul]
     simp[szs]
     omega
   ·rintro vs H' ⟨g,ts,hr1,hl,hg,hb⟩ l hl'
    have e8:=same_new hl' (.lst vs)
    refine⟨l,vs,rfl, .inl ⟨SqL.of upd_same,fun p2 hp2=>?_⟩⟩
    have e9:=same_new hp2 (.tup vs)
    have hp9:(upd (upd H' l (.lst vs)) p2 (.tup vs)) p=some (.tup [.str z]):=e9 _ _ (e8 _ _ (g.tups g6.ok _ _ upd_same))
    have lts:ts.length=1+e.toNat:=by rw[hl];omega
    have lvs:vs.length=ts.length:=hr1.length
    refine⟨p,p2,[.str z],vs,rfl,rfl,SqT.of hp9,SqT.of upd_same,by simp,small (by simp;omega),fun hv=>?_,fun hv p3 hp3=>?_⟩
    ·rw[hv]at lvs
     simp at lvs
     omega
    ·have e10:=same_new hp3 (.tup ([.str z]++vs))
     refine q _ (.tup (.str z::ts)) _ (good_named hz (by omega) (by omega) hg) (.tup upd_same (.cons (.str z (by omega)) (hr1.same (e8.trans (e9.trans e10))))) ?_ ?_
     ·simp only[T.sz,szs,BK]
      have:(1+e).toNat*BK m≤3*BK m:=Nat.mul_le_mul_right _ (by omega)
      omega
     ·exact((((g3.trans g4).trans g5).trans g6).trans g).trans (grow_same g.ok (e8.trans (e9.trans e10)))
theorem kinds_all (F:Fun K "_law_kind" "_law_kind" s_kind f fd)(bF:Binds K fd ["_law_state","_law_deep"] [])(mF:mg "_law_kind"=some (.ref f))(mr:mg "range"=none)(mt:mg "tuple"=none)(h1:Has P w K mg base 1 "_law_next" ["_law_state","_law_many"] spNext)(h2:Has P w K mg base 3 "_law_variable" ["_law_state"] (spStr fun z=>varB z=true))
  (h3:Has P w K mg base 3 "_law_small" ["_law_state"] (spStr fun z=>nameB z=true)) (h4:Has P w K mg base 4 "_law_path" ["_law_state"] (spStr fun z=>pathB z=true)) (h5:Has P w K mg base 5 "_law_kind_name" ["_law_state"] (spStr fun z=>headB z=true)):
  ∀n:Nat,Has P w K mg base (5+n) "_law_kind" ["_law_state","_law_deep"] (spKindN n)
 |0=>⟨f,fd,⟨fun vs H Q E h=>h.elim,fun A outer s H args us vs Q E _ _ _ _ h=>h.elim⟩,bF,F.kp,mF⟩
 |n+1=>⟨f,fd,ok_kind F mr mt h1 h2 h3 h4 h5 (kinds_all F bF mF mr mt h1 h2 h3 h4 h5 n),bF,F.kp,mF⟩
end
def LfOk (H:Hp)(lf:Addr):Prop:=∃i:Int,H lf=some (.lst [.int i])
structure D2 (st lf:Addr)(H:Hp):Prop where
 ne:st≠lf
 st:StOk H st
 lf:LfOk H lf
def Grow2 (st lf:Addr)(H H':Hp):Prop:=(∀b o,b≠st→b≠lf→H b=some o→H' b=some o)∧D2 st lf H'
section
variable {st lf:Addr}{H H' H1 H2:Hp}
theorem Grow2.refl (d:D2 st lf H):Grow2 st lf H H:=⟨fun _ _ _ _ e=>e,d⟩
theorem Grow2.trans (a:Grow2 st lf H H1)(b:Grow2 st lf H1 H2):Grow2 st lf H H2:=⟨fun c o h1 h2 e=>b.1 c o h1 h2 (a.1 c o h1 h2 e),b.2⟩
theorem g2_of (d:D2 st lf H)(g:Grow st H H'):Grow2 st lf H H':=⟨fun b o h1 _ e=>g.1 b o h1 e,d.ne,g.ok,by
 obtain⟨i,e⟩:=d.lf
 exact⟨i,g.1 _ _ (Ne.symm d.ne) e⟩⟩
theorem g2_same (d:D2 st lf H)(e:Same H H'):Grow2 st lf H H':=g2_of d (grow_same d.st e)
theorem g2_new {p:Addr}{o:HO}(d:D2 st lf H)(hp:H p=none):Grow2 st lf H (upd H p o):=g2_same d (same_new hp o)
theorem D2.ne_tup {b:Addr}{xs:List V}(d:D2 st lf H)(e:H b=some (.tup xs)):b≠st∧b≠lf:=by
 obtain⟨i,h⟩:=d.lf
 exact⟨d.st.ne_tup e,ne_of e h (by intro z;cases z)⟩
theorem D2.fresh {l:Addr}(d:D2 st lf H)(h:H l=none):l≠st∧l≠lf:=by
 obtain⟨i,h1⟩:=d.lf
 obtain⟨ns,_,_,h2⟩:=d.st
 exact⟨fun z=>(by rw[z,h2]at h;cases h),fun z=>(by rw[z,h1]at h;cases h)⟩
theorem Grow2.tups (g:Grow2 st lf H H')(d:D2 st lf H):∀b xs,H b=some (.tup xs)→H' b=some (.tup xs):=fun b xs e=>g.1 b _ (d.ne_tup e).1 (d.ne_tup e).2 e
theorem Rep.grow2 {v:V}{t:T}(r:Rep H v t)(g:Grow2 st lf H H')(d:D2 st lf H):Rep H' v t:=r.mono (g.tups d)
theorem Reps.grow2 {vs:List V}{ts:List T}(r:Reps H vs ts)(g:Grow2 st lf H H')(d:D2 st lf H):Reps H' vs ts:=r.mono (g.tups d)
theorem to_grow {i:Int}(hs:StOk H st)(hn:H lf=none)(g:Grow2 st lf (upd H lf (.lst [.int i])) H'):Grow st H H':=⟨fun b o hb e=>g.1 b o hb (ne_of_none e hn) (by rw[upd_ne (ne_of_none e hn)];exact e),g.2.st⟩
theorem d2_new {i:Int}(hs:StOk H st)(hn:H lf=none):D2 st lf (upd H lf (.lst [.int i])):=by
 obtain⟨ns,h1,h2,h3⟩:=id hs
 have hne:st≠lf:=ne_of_none h3 hn
 exact⟨hne,hs.same (same_new hn _),i,upd_same⟩
end
def BP:Nat→Nat
 |0=>1
 |n+1=>60+7*BP n
theorem BP_pos:∀n,1≤BP n
 |0=>Nat.le_refl 1
 |n+1=>by show 1≤60+7*BP n;omega
inductive GoodN (kids:T→Option (List T)):Nat→T→Prop where
 |mk {n:Nat} {t:T} {l:List T} (h:kids t=some l) (q:∀k∈l,GoodN kids n k):GoodN kids (n+1) t
theorem GoodN.good {kids:T→Option (List T)}{n:Nat}{t:T}(h:GoodN kids n t):Good kids t:=by
 induction h with
 |mk h _ ih=>exact .mk h ih
theorem GoodN.up {kids:T→Option (List T)}{n:Nat}{t:T}(h:GoodN kids n t):∀{m:Nat},n≤m→GoodN kids m t:=by
 induction h with
 |mk h _ ih=>
  intro m hm
  obtain⟨k,rfl⟩:∃k,m=k+1:=⟨m-1,by omega⟩
  exact .mk h fun x hx=>ih x hx (by omega)
abbrev GP (n:Nat):=GoodN kidsP n
def spLeaf:Sp:=fun vs H Q _=>∃(st:Addr) (w:Int),vs=[.ref st, .int w]∧StOk H st∧0≤w∧w<4∧∀v t H',GP 1 t→Rep H' v t→t.sz≤1→Grow st H H'→Q v H'
def spPhrase (n:Nat):Sp:=fun vs H Q _=>∃(st lf:Addr),vs=[.ref st, .int n, .ref lf]∧D2 st lf H∧∀v t H',GP (n+1) t→Rep H' v t→t.sz≤BP n→Grow2 st lf H H'→Q v H'
def spPhraseN:Nat→Sp
 |0=>fun _ _ _ _=>False
 |n+1=>spPhrase n
def spSomeN:Nat→Sp
 |0=>fun _ _ _ _=>False
 |n+1=>fun vs H Q _=>∃(st lf:Addr) (m:Nat),vs=[.ref st, .int (n+1:Nat), .ref lf, .int m]∧D2 st lf H∧1≤m∧m≤6∧
  ∀a us ts H',H' a=some (.tup us)→Reps H' us ts→ts.length=m→(∀t∈ts,GP (n+1) t)→szs ts≤m*BP n→Grow2 st lf H H'→Q (.ref a) H'
def spFormN:Nat→Sp
 |0=>fun _ _ _ _=>False
 |n+1=>fun vs H Q _=>∃(st lf:Addr),vs=[.ref st, .int (n+1:Nat), .ref lf]∧D2 st lf H∧∀v t H',GP (n+2) t→Rep H' v t→t.sz≤BP (n+1)→Grow2 st lf H H'→Q v H'
theorem goodP_str {z:Str}(h:leafPB z=true):GP 1 (.str z):=.mk (l:=[]) (by show(if _=true then _ else _)=_;rw[if_pos h]) (fun _ hk=>by cases hk)
theorem goodP_int {i:Int}(h0: -(10^30)<i)(h1:i<10^30):GP 1 (.int i):=.mk (l:=[]) (by
 have z:numT (.int i)=true:=by
  show decide ((if i<0 then -i else i)<10^30)=true
  refine decide_eq_true ?_
  split<;>omega
 show(if _=true then _ else _)=_
 rw[if_pos z]) (fun _ hk=>by cases hk)
theorem goodP_great {d:Nat}{z:Str}{ts:List T}(hz:greatB z=true)(h1:1≤ts.length)(h4:ts.length≤4)(hg:∀t∈ts,GP d t):GP (d+1) (.tup (.str z::ts)):=.mk (l:=ts) (by
 rw[kidsP_str,if_pos hz,if_pos (by simp[lenIn];omega)]) hg
theorem kids_form {z:Str}{r:List T}{n:Nat}(hz:greatB z=false)(hf:formOf z=some n):kidsP (.tup (.str z::r))=kidsF n r:=by
 rw[kidsP_str,if_neg (by rw[hz];exact Bool.false_ne_true),hf]
theorem goodP_form {d:Nat}{z:Str}{r l:List T}{n:Nat}(hz:greatB z=false)(hf:formOf z=some n)(hk:kidsF n r=some l)(hg:∀t∈l,GP d t):GP (d+1) (.tup (.str z::r)):=.mk (by rw[kids_form hz hf];exact hk) hg
theorem leafP_name {z:Str}(h:nameB z=true):leafPB z=true:=by unfold leafPB;rw[h];rfl
theorem leafP_path {z:Str}(h:pathB z=true):leafPB z=true:=by unfold leafPB;rw[h];simp
theorem leafP_great {z:Str}(h:greatB z=true):leafPB z=true:=by unfold leafPB;rw[h];simp
theorem cat_fin {K:PySem.W.Frag}{st lf p a:Addr}{hv us:List V}{hts ts:List T}{H1 H3:Hp}{Q:VK}(hp:H1 p=some (.tup hv))(rp:Reps H1 hv hts)(hn:hv≠[])(d1:D2 st lf H1)(g:Grow2 st lf H1 H3)(ha:H3 a=some (.tup us))(ra:Reps H3 us ts)
  (hl:1≤ts.length) (hb:hv.length+ts.length≤1000) (q:∀p' H',Rep H' (.ref p') (.tup (hts++ts))→Grow2 st lf H3 H'→Q (.ref p') H'):rCatT K (.ref p) (.ref a) H3 Q:=by
 have lu:=ra.length
 refine⟨p,a,hv,us,rfl,rfl,SqT.of (g.tups d1 _ _ hp),SqT.of ha,hn,small (by omega),fun e=>?_,fun _ p' hp'=>?_⟩
 ·rw[e]at lu
  simp at lu
  omega
 ·exact q p' _ (.tup upd_same ((rp.grow2 g d1).append ra |>.same (same_new hp' _))) (g2_new g.2 hp')
section
variable {P:Program}{w:World}{K:PySem.W.Frag}{mg:Str→Option Value}{base:Heap}{f:Addr}{fd:FuncData}
abbrev s_leaf:Stmt:=top 88
abbrev s_some:Stmt:=top 89
abbrev s_ring:Stmt:=top 90
abbrev s_case:Stmt:=top 91
abbrev s_phrase:Stmt:=top 92
theorem sc_leaf:FnScope ["_law_state","_law_way"] ["_law_state","_law_way"] (defScope s_leaf):=⟨rfl,rfl,rfl,by decide+kernel,rfl,by decide+kernel,by decide+kernel⟩
theorem ok_leaf (F:Fun K "_law_leaf" "_law_leaf" s_leaf f fd)(h1:Has P w K mg base 2 "_law_number" ["_law_state"] spInt)(h2:Has P w K mg base 3 "_law_small" ["_law_state"] (spStr fun z=>nameB z=true))(h3:Has P w K mg base 4 "_law_path" ["_law_state"] (spStr fun z=>pathB z=true))
  (h4:Has P w K mg base 3 "_law_great" ["_law_state"] (spStr fun z=>greatB z=true)):FnOk P w K mg base CX0 5 f fd ["_law_state","_law_way"] spLeaf:=by
 refine F.ok sc_leaf (len:=fun vs H Q E h=>(by obtain⟨st,w,rfl,_⟩:=h;rfl)) (fun cdv A outer s H vs Q E hr h=>?_)
 obtain⟨st,wy,rfl,hs,w0,w1,q⟩:=h
 refine⟨_,pss_cons (ps_if (pt_cmpR op_eq (pv 1) pe_int (nomark _)) (pss_one (ps_ret (pcall h1 hr (by decide) rfl (pa_cons (pv 0) pa_nil)))) pss_nil)
  (pss_one (ps_ret (pe_ix ix_list (pe_lst (pa_cons (pcall h2 hr (by decide) rfl (pa_cons (pv 0) pa_nil)) (pa_cons (pcall h3 hr (by decide) rfl (pa_cons (pv 0) pa_nil)) (pa_cons (pcall h4 hr (by decide) rfl (pa_cons (pv 0) pa_nil)) pa_nil)))) (pe_op op_sub (pv 1) pe_int) (fun _ _=>rfl)))),?_⟩
 refine st_if (ts_t (ev_eqI (ev_var (i:=1) rfl) fun _ _=>ev_c)) (fun c H1 e1=>?_) (fun c H1 e1=>?_)
 ·have g1:=grow_same hs e1
  exact⟨_,rfl,st,rfl,g1.ok,fun i H2 i0 i1 g2=>q _ (.int i) H2 (goodP_int i0 i1) (.int i) (Nat.le_refl _) (g1.trans g2)⟩
 ·have c1:¬wy=0:=of_decide_eq_false c
  have g1:=grow_same hs e1
  refine⟨_,rfl,st,rfl,g1.ok,fun z1 H2 hz1 lz1 g2=>⟨_,rfl,st,rfl,g2.ok,fun z2 H3 hz2 lz2 g3=>⟨_,rfl,st,rfl,g3.ok,fun z3 H4 hz3 lz3 g4=>⟨small (by show 3≤1000000;decide),fun p hp=>?_⟩⟩⟩⟩
  have g5:Grow st H4 (upd H4 p (.lst [.str z1, .str z2, .str z3])):=grow_new g4.ok hp
  obtain⟨v,hv,hm⟩:=at_any (xs:=[V.str z1, .str z2, .str z3]) (d:=wy-1) (by omega) (by simp;omega)
  refine⟨_,rfl,wy,1,rfl,rfl,p,_,wy-1,v,rfl,rfl,SqL.of upd_same,hv,?_⟩
  have gg:=(((g1.trans g2).trans g3).trans g4).trans g5
  have fin:∀z:Str,leafPB z=true→z.length≤100→Q (.str z) (upd H4 p (.lst [.str z1, .str z2, .str z3])):=fun z hz lz=>q _ (.str z) _ (goodP_str hz) (.str z (by omega)) (Nat.le_refl _) gg
  simp only[List.mem_cons,List.not_mem_nil,or_false]at hm
  rcases hm with rfl|rfl|rfl
  ·exact fin _ (leafP_name hz1) lz1
  ·exact fin _ (leafP_path hz2) lz2
  ·exact fin _ (leafP_great hz3) lz3
theorem sc_some:FnScope ["_law_state","_law_deep","_law_left","_law_many"] ["_law_state","_law_deep","_law_left","_law_many"] (defScope s_some):=⟨rfl,rfl,rfl,by decide+kernel,rfl,by decide+kernel,by decide+kernel⟩
theorem ok_some {n:Nat}(F:Fun K "_law_some" "_law_some" s_some f fd)(mr:mg "range"=none)(mt:mg "tuple"=none)(h1:Has P w K mg base (6+3*n) "_law_phrase" ["_law_state","_law_deep","_law_left"] (spPhraseN n)):
  FnOk P w K mg base CX0 (7+3*n) f fd ["_law_state","_law_deep","_law_left","_law_many"] (spSomeN n):=by
 have e7:7+3*n=(6+3*n)+1:=by omega
 rw[e7]
 refine F.ok sc_some (len:=fun vs H Q E h=>?len) (fun cdv A outer s H vs Q E hr h=>?_)
 case len=>
  cases n with
  |zero=>exact h.elim
  |succ n=>
   obtain⟨st,lf,m,rfl,_⟩:=h
   rfl
 cases n with
 |zero=>exact h.elim
 |succ n=>
  obtain⟨st,lf,m,rfl,d,m1,m6,q⟩:=h
  refine⟨_,pss_one (ps_ret (pe_callTy call_tuple_of rfl mt boot_tuple (pa_cons (pe_lc (defScope s_some) ["_law_state","_law_deep","_law_left","_law_many"] ["_law_state","_law_deep","_law_left"] [0,1,2] (by decide+kernel) (pi_range1 rfl mr (pa_cons (pv 3) pa_nil)) (fun C s₀ H₀ ex=>pts_nil)
   (fun C s₀ H₀ ex=>pcall h1 hr (Nat.le_refl _) rfl (pa_cons (pv 1) (pa_cons (pe_op op_sub (pv 2) pe_int) (pa_cons (pv 3) pa_nil))))) pa_nil))),?_⟩
  refine⟨_,rfl,m,rfl,by omega,by omega,?_⟩
  have em:(((n+1:Nat):Int)-1)=(n:Int):=by omega
  refine comp_range (n:=(m:Int).toNat) (fun i vs H'=>Grow2 st lf H H'∧∃ts,Reps H' vs ts∧ts.length=i∧(∀t∈ts,GP (n+1) t)∧szs ts≤i*BP n) ⟨Grow2.refl d,[], .nil,rfl,(fun _ h=>by cases h),by simp[szs]⟩ ?_ ?_ ?_
  ·rintro i vs H' hi ⟨g,ts,hr1,hl,_⟩
   exact small' (by rw[hr1.length,hl];omega)
  ·rintro i vs H' hi ⟨g,ts,hr1,hl,hg,hb⟩
   have rec_:∀(H3:Hp) (Q3:VK),D2 st lf H3→(∀v t H',GP (n+1) t→Rep H' v t→t.sz≤BP n→Grow2 st lf H3 H'→Q3 v H')→spPhraseN (n+1) ([V.ref st, .int (((n+1:Nat):Int)-1), .ref lf]++[]) H3 Q3 E0:=fun H3 Q3 h3 q3=>by
    rw[em]
    exact⟨st,lf,rfl,h3,q3⟩
   refine tt1 (iteT ⟨_,rfl,_,rfl,_,_,rfl,rfl,_,rfl,?_⟩)
   refine rec_ H' _ g.2 (fun v1 t1 H2 k1 r1 b1 g2=>nx hi ⟨g.trans g2,ts++[t1],(hr1.grow2 g2 g.2).append (.cons r1 .nil),by simp[hl],fun t ht=>?_,?_⟩)
   ·rcases List.mem_append.mp ht with h|h
    ·exact hg t h
    ·rw[List.mem_singleton.mp h];exact k1
   ·rw[szs_app,Nat.add_mul]
    simp[szs]
    omega
  ·rintro vs H' ⟨g,ts,hr1,hl,hg,hb⟩ l hl'
   refine⟨l,vs,rfl, .inl ⟨SqL.of upd_same,fun p hp=>?_⟩⟩
   have e1:=same_new hl' (.lst vs)
   have e2:=same_new hp (.tup vs)
   exact q p vs ts _ upd_same (hr1.same (e1.trans e2)) (by simpa using hl) hg (by simpa using hb) (g.trans (g2_same g.2 (e1.trans e2)))
def RowP (n:Nat)(t:T):Prop:=∃a b e,t=.tup [.str a, .str b,e]∧nameB a=true∧nameB b=true∧GP (n+1) e∧e.sz≤BP n
theorem row_func {n:Nat}{t:T}(h:RowP n t):funcB t=true∧GP (n+1) (at2 t)∧t.sz≤3+BP n:=by
 obtain⟨a,b,e,rfl,ha,hb,he,hs⟩:=h
 refine⟨?_,he,?_⟩
 ·show(nameB a&&nameB b)=true
  rw[ha,hb];rfl
 ·simp[T.sz,szs];omega
theorem szs_le {n:Nat}:∀{l:List T},(∀t∈l,t.sz≤n)→szs l≤l.length*n
 |[],_=>by simp[szs]
 |t::r,h=>by
  have h1:=h t List.mem_cons_self
  have h2:=szs_le (l:=r) fun x hx=>h x (List.mem_cons_of_mem _ hx)
  simp only[szs,List.length_cons,Nat.add_mul,Nat.one_mul]
  omega
theorem form_ring:greatB "ring"=false∧formOf "ring"=some 3:=by decide+kernel
theorem form_case:greatB "case"=false∧formOf "case"=some 4:=by decide+kernel
theorem sc_ring:FnScope ["_law_state","_law_deep","_law_left","_law_rows","_law_k"] ["_law_state","_law_deep","_law_left"] (defScope s_ring):=⟨rfl,rfl,rfl,by decide+kernel,rfl,by decide+kernel,by decide+kernel⟩
set_option maxHeartbeats 1000000 in
theorem ok_ring {n:Nat}(F:Fun K "_law_ring" "_law_ring" s_ring f fd)(mr:mg "range"=none)(mt:mg "tuple"=none)(h0:Has P w K mg base 1 "_law_next" ["_law_state","_law_many"] spNext)(h2:Has P w K mg base 3 "_law_small" ["_law_state"] (spStr fun z=>nameB z=true))
  (h1:Has P w K mg base (7+3*n) "_law_some" ["_law_state","_law_deep","_law_left","_law_many"] (spSomeN n)):FnOk P w K mg base CX0 (8+3*n) f fd ["_law_state","_law_deep","_law_left"] (spFormN n):=by
 have e7:8+3*n=(7+3*n)+1:=by omega
 rw[e7]
 refine F.ok sc_ring (len:=fun vs H Q E h=>?len) (fun cdv A outer s H vs Q E hr h=>?_)
 case len=>
  cases n with
  |zero=>exact h.elim
  |succ n=>
   obtain⟨st,lf,rfl,_⟩:=h
   rfl
 cases n with
 |zero=>exact h.elim
 |succ n=>
  obtain⟨st,lf,rfl,d,q⟩:=h
  refine⟨_,pss_cons (ps_set (i:=3) sc_ring.nd rfl (Or.inl rfl) (pe_lst pa_nil))
   (pss_cons (ps_for PassesOwn.never rfl (pi_range1 rfl mr (pa_cons (pe_op op_add pe_int (pcall h0 hr (by omega) rfl (pa_cons (pv 0) (pa_cons pe_int pa_nil)))) pa_nil)) (pg_name (i:=4) sc_ring.nd rfl (Or.inl rfl))
    (pss_one (ps_expr (pe_bm PySem.F.plainAttrs_list PySem.F.slot_list_append PySem.F.type_list_append mt_append (pv 3) (pa_cons (pe_op op_catT (pe_tup (pa_cons (pcall h2 hr (by omega) rfl (pa_cons (pv 0) pa_nil)) (pa_cons (pcall h2 hr (by omega) rfl (pa_cons (pv 0) pa_nil)) pa_nil)))
     (pcall h1 hr (Nat.le_refl _) rfl (pa_cons (pv 0) (pa_cons (pv 1) (pa_cons (pv 2) (pa_cons pe_int pa_nil)))))) pa_nil)))))
   (pss_one (ps_ret (pe_op op_catT (pe_tup (pa_cons pe_str (pa_cons (pe_callTy call_tuple_of rfl mt boot_tuple (pa_cons (pv 3) pa_nil)) pa_nil))) (pcall h1 hr (Nat.le_refl _) rfl (pa_cons (pv 0) (pa_cons (pv 1) (pa_cons (pv 2) (pa_cons pe_int pa_nil))))))))),?_⟩
  refine⟨small (by show 0≤1000000;decide),fun l hl=>?_⟩
  have dl:=d.fresh hl
  have g1:Grow2 st lf H (upd H l (.lst [])):=g2_new d hl
  refine⟨_,rfl,st,4,rfl,g1.2.st,by decide,by decide,fun e H2 e0 e1 ge=>?_⟩
  have g2:=g1.trans (g2_of g1.2 ge)
  refine⟨1,e,rfl,rfl,1+e,rfl,by omega,by omega,for_range (n:=(1+e).toNat) (fun i σ H'=>∃(o:Option V) (vs:List V) (ts:List T),σ=[some (.ref st),some (.int (n+1:Nat)),some (.ref lf),some (.ref l),o]∧H' l=some (.lst vs)∧Reps H' vs ts∧ts.length=i∧(∀t∈ts,RowP n t)∧Grow2 st lf H H')
   ⟨none,[],[],rfl,ge.1 _ _ dl.1 upd_same, .nil,rfl,(fun _ h=>by cases h),g2⟩ ?_ ?_⟩
  ·rintro i σ H3 hi ⟨o,vs,ts,rfl,hl3,r3,l3,rows3,g3⟩
   refine⟨_,rfl, .inl ⟨rfl,_,SqL.of hl3⟩,?_⟩
   refine⟨_,rfl,st,rfl,g3.2.st,fun z1 H4 hz1 lz1 g4=>⟨_,rfl,st,rfl,g4.ok,fun z2 H5 hz2 lz2 g5=>⟨small (by show 2≤1000000;decide),fun p hp=>?_⟩⟩⟩
   have g35:=g2_of g3.2 (g4.trans g5)
   have g6:Grow2 st lf H5 (upd H5 p (.tup [.str z1, .str z2])):=g2_new g35.2 hp
   refine⟨_,rfl,_,rfl,_,rfl,st,lf,1,rfl,g6.2,by decide,by decide,fun a us us' H7 ha ra la ga sa g7=>?_⟩
   refine cat_fin (hts:=[.str z1, .str z2]) upd_same (.cons (.str z1 (by omega)) (.cons (.str z2 (by omega)) .nil)) (by simp) g6.2 g7 ha ra (by omega) (by simp;omega) fun p' H8 r8 g8=>?_
   have g38:=((g35.trans g6).trans g7).trans g8
   have hl8:H8 l=some (.lst vs):=g38.1 _ _ dl.1 dl.2 hl3
   have lv:=r3.length
   refine⟨l,vs, .ref p',rfl,rfl,hl8,small' (by omega),?_⟩
   have tupsU:∀b xs,H8 b=some (.tup xs)→(upd H8 l (.lst (vs++[.ref p']))) b=some (.tup xs):=fun b xs h=>by
    rw[upd_ne (ne_of h hl8 (by intro z;cases z))];exact h
   match us',la,ra,ga,sa,r8 with
   |[e1],_,_,ga,sa,r8=>
    refine⟨_,vs++[.ref p'],ts++[.tup ([.str z1, .str z2]++[e1])],rfl,upd_same,((r3.grow2 g38 g3.2).append (.cons r8 .nil)).mono tupsU,by simp[l3],fun t ht=>?_,?_⟩
    ·rcases List.mem_append.mp ht with h|h
     ·exact rows3 t h
     ·rw[List.mem_singleton.mp h]
      exact⟨z1,z2,e1,rfl,hz1,hz2,ga e1 (by simp),by simp[szs]at sa;omega⟩
    ·have gg:=g3.trans g38
     refine⟨fun b o h1 h2 hb=>?_,gg.2.ne,?_,?_⟩
     ·rw[upd_ne (ne_of_none hb hl)]
      exact gg.1 b o h1 h2 hb
     ·obtain⟨ns,k1,k2,k3⟩:=gg.2.st
      exact⟨ns,k1,k2,by rw[upd_ne (Ne.symm dl.1)];exact k3⟩
     ·obtain⟨j,k1⟩:=gg.2.lf
      exact⟨j,by rw[upd_ne (Ne.symm dl.2)];exact k1⟩
  ·rintro σ H3 ⟨o,vs,ts,rfl,hl3,r3,l3,rows3,g3⟩
   refine⟨_,rfl,l,vs,rfl, .inl ⟨SqL.of hl3,fun pr hpr=>⟨small (by show 2≤1000000;decide),fun p hp=>?_⟩⟩⟩
   have e4:=same_new hpr (.tup vs)
   have e5:=same_new hp (.tup [.str "ring", .ref pr])
   have g5:=g2_same g3.2 (e4.trans e5)
   refine⟨_,rfl,_,rfl,_,rfl,st,lf,1,rfl,g5.2,by decide,by decide,fun a us us' H7 ha ra la ga sa g7=>?_⟩
   refine cat_fin (hts:=[.str "ring", .tup ts]) upd_same (.cons (.str _ (by decide+kernel)) (.cons (.tup (e5 _ _ upd_same) (r3.same (e4.trans e5))) .nil)) (by simp) g5.2 g7 ha ra (by omega) (by simp;omega) fun p' H8 r8 g8=>?_
   match us',la,ga,sa,r8 with
   |[e1],_,ga,sa,r8=>
    have lt:1≤ts.length∧ts.length≤4:=by omega
    have hlist:isListT 1 4 funcB (.tup ts)=true:=by
     show(lenIn 1 4 ts&&ts.all funcB)=true
     rw[List.all_eq_true.mpr fun t ht=>(row_func (rows3 t ht)).1]
     simp[lenIn]
     omega
    refine q _ (.tup ([.str "ring", .tup ts]++[e1])) _ (goodP_form (l:=ts.map at2++[e1]) form_ring.1 form_ring.2 (by show(if _=true then _ else _)=_;rw[if_pos hlist];rfl) fun t ht=>?_) r8 ?_ (((g3.trans g5).trans g7).trans g8)
    ·rcases List.mem_append.mp ht with h|h
     ·obtain⟨t',h1,rfl⟩:=List.mem_map.mp h
      exact(row_func (rows3 t' h1)).2.1
     ·rw[List.mem_singleton.mp h]
      exact ga e1 (by simp)
    ·have s1:=szs_le (n:=3+BP n) fun t ht=>(row_func (rows3 t ht)).2.2
     have s2:ts.length*(3+BP n)≤4*(3+BP n):=Nat.mul_le_mul_right _ lt.2
     simp[szs]at sa
     simp[T.sz,szs,BP]
     omega
theorem cat_any {K:PySem.W.Frag}{a b:Addr}{xs ys:List V}{H:Hp}{Q:VK}(ha:H a=some (.tup xs))(hb:H b=some (.tup ys))(hn:xs≠[])(hl:xs.length+ys.length≤1000)(q:∀p H',Same H H'→H' p=some (.tup (xs++ys))→Q (.ref p) H'):rCatT K (.ref a) (.ref b) H Q:=by
 refine⟨a,b,xs,ys,rfl,rfl,SqT.of ha,SqT.of hb,hn,small (by omega),fun e=>?_,fun _ p hp=>q p _ (same_new hp _) upd_same⟩
 refine q a H (Same.refl H) ?_
 rw[e,List.append_nil]
 exact ha
def ArmP (n:Nat)(t:T):Prop:=∃g ns e,t=.tup [.tup (.str g::ns),e]∧greatB g=true∧ns.length≤4∧(∀x∈ns,onStr nameB x=true∧x.sz≤1)∧GP (n+1) e∧e.sz≤BP n
theorem arm_ok {n:Nat}{t:T}(h:ArmP n t):armB t=true∧GP (n+1) (at1 t)∧t.sz≤7+BP n:=by
 obtain⟨g,ns,e,rfl,hg,hn,hx,he,hs⟩:=h
 refine⟨?_,he,?_⟩
 ·show(decide (ns.length≤4)&&(greatB g&&ns.all (onStr nameB)))=true
  rw[hg,decide_eq_true hn,List.all_eq_true.mpr fun x hx'=>(hx x hx').1]
  rfl
 ·have s1:=szs_le (n:=1) fun x hx'=>(hx x hx').2
  simp[T.sz,szs]
  omega
theorem sc_case:FnScope ["_law_state","_law_deep","_law_left","_law_arms","_law_first","_law_k","_law_names"] ["_law_state","_law_deep","_law_left"] (defScope s_case):=⟨rfl,rfl,rfl,by decide+kernel,rfl,by decide+kernel,by decide+kernel⟩
set_option maxHeartbeats 2000000 in
theorem ok_case {n:Nat}(F:Fun K "_law_case" "_law_case" s_case f fd)(mr:mg "range"=none)(mt:mg "tuple"=none)(h0:Has P w K mg base 1 "_law_next" ["_law_state","_law_many"] spNext)(h2:Has P w K mg base 3 "_law_small" ["_law_state"] (spStr fun z=>nameB z=true))
  (h3:Has P w K mg base 3 "_law_great" ["_law_state"] (spStr fun z=>greatB z=true)) (h1:Has P w K mg base (7+3*n) "_law_some" ["_law_state","_law_deep","_law_left","_law_many"] (spSomeN n)):FnOk P w K mg base CX0 (8+3*n) f fd ["_law_state","_law_deep","_law_left"] (spFormN n):=by
 have e7:8+3*n=(7+3*n)+1:=by omega
 rw[e7]
 refine F.ok sc_case (len:=fun vs H Q E h=>?len) (fun cdv A outer s H vs Q E hr h=>?_)
 case len=>
  cases n with
  |zero=>exact h.elim
  |succ n=>
   obtain⟨st,lf,rfl,_⟩:=h
   rfl
 cases n with
 |zero=>exact h.elim
 |succ n=>
  obtain⟨st,lf,rfl,d,q⟩:=h
  refine⟨_,pss_cons (ps_set (i:=3) sc_case.nd rfl (Or.inl rfl) (pe_lst pa_nil))
   (pss_cons (ps_set (i:=4) sc_case.nd rfl (Or.inl rfl) (pcall h1 hr (Nat.le_refl _) rfl (pa_cons (pv 0) (pa_cons (pv 1) (pa_cons (pv 2) (pa_cons pe_int pa_nil))))))
   (pss_cons (ps_for PassesOwn.never rfl (pi_range1 rfl mr (pa_cons (pe_op op_add pe_int (pcall h0 hr (by omega) rfl (pa_cons (pv 0) (pa_cons pe_int pa_nil)))) pa_nil)) (pg_name (i:=5) sc_case.nd rfl (Or.inl rfl))
    (pss_cons (ps_set (i:=6) sc_case.nd rfl (Or.inl rfl) (pe_callTy call_tuple_of rfl mt boot_tuple (pa_cons (pe_lc (defScope s_case) ["_law_state","_law_deep","_law_left","_law_arms","_law_first","_law_k","_law_names"] ["_law_state"] [0] (by decide+kernel)
      (pi_range1 rfl mr (pa_cons (pcall h0 hr (by omega) rfl (pa_cons (pv 0) (pa_cons pe_int pa_nil))) pa_nil)) (fun C s₀ H₀ ex=>pts_nil) (fun C s₀ H₀ ex=>pcall h2 hr (by omega) rfl (pa_cons (pv 1) pa_nil))) pa_nil)))
    (pss_one (ps_expr (pe_bm PySem.F.plainAttrs_list PySem.F.slot_list_append PySem.F.type_list_append mt_append (pv 3) (pa_cons (pe_op op_catT (pe_tup (pa_cons (pe_op op_catT (pe_tup (pa_cons (pcall h3 hr (by omega) rfl (pa_cons (pv 0) pa_nil)) pa_nil)) (pv 6)) pa_nil))
     (pcall h1 hr (Nat.le_refl _) rfl (pa_cons (pv 0) (pa_cons (pv 1) (pa_cons (pv 2) (pa_cons pe_int pa_nil)))))) pa_nil))))))
   (pss_one (ps_ret (pe_op op_catT (pe_op op_catT (pe_tup (pa_cons pe_str pa_nil)) (pv 4)) (pe_callTy call_tuple_of rfl mt boot_tuple (pa_cons (pv 3) pa_nil))))))),?_⟩
  refine⟨small (by show 0≤1000000;decide),fun l hl=>?_⟩
  have dl:=d.fresh hl
  have g1:Grow2 st lf H (upd H l (.lst [])):=g2_new d hl
  refine⟨_,rfl,_,rfl,_,rfl,st,lf,1,rfl,g1.2,by decide,by decide,fun af uf tf Hf haf raf laf gaf saf gf=>?_⟩
  refine⟨_,rfl,st,6,rfl,gf.2.st,by decide,by decide,fun e H2 e0 e1 ge=>?_⟩
  have gf2:=g2_of gf.2 ge
  have g2:=(g1.trans gf).trans gf2
  refine⟨1,e,rfl,rfl,1+e,rfl,by omega,by omega,for_range (n:=(1+e).toNat) (fun i σ H'=>∃(o5 o6:Option V) (vs:List V) (ts:List T),σ=[some (.ref st),some (.int (n+1:Nat)),some (.ref lf),some (.ref l),some (.ref af),o5,o6]∧H' l=some (.lst vs)∧H' af=some (.tup uf)∧Reps H' uf tf∧Reps H' vs ts∧ts.length=i∧(∀t∈ts,ArmP n t)∧Grow2 st lf H H')
   ⟨none,none,[],[],rfl,(gf.trans gf2).1 _ _ dl.1 dl.2 upd_same,gf2.tups gf.2 _ _ haf,raf.grow2 gf2 gf.2, .nil,rfl,(fun _ h=>by cases h),g2⟩ ?_ ?_⟩
  ·rintro i σ H3 hi ⟨o5,o6,vs,ts,rfl,hl3,haf3,raf3,r3,l3,arms3,g3⟩
   refine⟨_,rfl,st,5,rfl,g3.2.st,by decide,by decide,fun c H4 c0 c1 gc=>⟨c,rfl,by omega,by omega,?_⟩⟩
   have g34:=g2_of g3.2 gc
   refine comp_range (n:=c.toNat) (fun j ws H'=>Grow2 st lf H3 H'∧∃us,Reps H' ws us∧us.length=j∧∀x∈us,onStr nameB x=true∧x.sz≤1) ⟨g34,[], .nil,rfl,fun _ h=>by cases h⟩ ?_ ?_ ?_
   ·rintro j ws H' hj ⟨g,us,r,lu,_⟩
    exact small' (by rw[r.length,lu];omega)
   ·rintro j ws H' hj ⟨g,us,r,lu,hu⟩
    refine tt1 (iteT ⟨_,rfl,st,rfl,g.2.st,fun z H'' hz lz gz=>nx hj ⟨g.trans (g2_of g.2 gz),us++[.str z],(r.grow gz g.2.st).append (.cons (.str z (by omega)) .nil),by simp[lu],fun x hx=>?_⟩⟩)
    rcases List.mem_append.mp hx with h|h
    ·exact hu x h
    ·rw[List.mem_singleton.mp h]
     exact⟨hz,Nat.le_refl _⟩
   ·rintro ws H5 ⟨g5,us,r5,lu,hu⟩ ln hln
    refine⟨ln,ws,rfl, .inl ⟨SqL.of upd_same,fun pn hpn=>?_⟩⟩
    have e6:=same_new hln (.lst ws)
    have e7:=same_new hpn (.tup ws)
    have g7:=g5.trans (g2_same g5.2 (e6.trans e7))
    have hpn7:(upd (upd H5 ln (.lst ws)) pn (.tup ws)) pn=some (.tup ws):=upd_same
    have r7:=r5.same (e6.trans e7)
    generalize hH7:upd (upd H5 ln (.lst ws)) pn (.tup ws)=H7 at g7 hpn7 r7
    have lw:=r5.length
    refine⟨_,rfl, .inl ⟨rfl,_,SqL.of (g7.1 _ _ dl.1 dl.2 hl3)⟩,?_⟩
    refine⟨_,rfl,st,rfl,g7.2.st,fun zg H8 hzg lzg g8=>⟨small (by show 1≤1000000;decide),fun p1 hp1=>?_⟩⟩
    have g78:=g2_of g7.2 g8
    have e9:=same_new hp1 (.tup [.str zg])
    have hpn9:=e9 _ _ (g78.tups g7.2 _ _ hpn7)
    refine⟨_,rfl,cat_any upd_same hpn9 (by simp) (by simp;omega) fun p2 H10 e10 hp2=>⟨small (by show 1≤1000000;decide),fun p3 hp3=>?_⟩⟩
    have e11:=same_new hp3 (.tup [.ref p2])
    have g11:=g78.trans (g2_same g78.2 ((e9.trans e10).trans e11))
    have rp2:Rep (upd H10 p3 (.tup [.ref p2])) (.ref p2) (.tup (.str zg::us)):=.tup (e11 _ _ hp2) (.cons (.str zg (by omega)) ((r7.grow2 g78 g7.2).same ((e9.trans e10).trans e11)))
    refine⟨_,rfl,_,rfl,_,rfl,st,lf,1,rfl,g11.2,by decide,by decide,fun a ua ta H12 ha ra la ga sa g12=>?_⟩
    refine cat_fin (hts:=[.tup (.str zg::us)]) upd_same (.cons rp2 .nil) (by simp) g11.2 g12 ha ra (by omega) (by simp;omega) fun p' H13 r13 g13=>?_
    have gz:=((g7.trans g11).trans g12).trans g13
    have hl13:H13 l=some (.lst vs):=gz.1 _ _ dl.1 dl.2 hl3
    have lv:=r3.length
    refine⟨l,vs, .ref p',rfl,rfl,hl13,small' (by omega),?_⟩
    have tupsU:∀b xs,H13 b=some (.tup xs)→(upd H13 l (.lst (vs++[.ref p']))) b=some (.tup xs):=fun b xs h=>by
     rw[upd_ne (ne_of h hl13 (by intro z;cases z))];exact h
    match ta,la,ga,sa,r13 with
    |[x1],_,ga,sa,r13=>
     refine⟨_,_,vs++[.ref p'],ts++[.tup ([.tup (.str zg::us)]++[x1])],rfl,upd_same,tupsU _ _ (gz.tups g3.2 _ _ haf3),(raf3.grow2 gz g3.2).mono tupsU,((r3.grow2 gz g3.2).append (.cons r13 .nil)).mono tupsU,by simp[l3],fun t ht=>?_,?_⟩
     ·rcases List.mem_append.mp ht with h|h
      ·exact arms3 t h
      ·rw[List.mem_singleton.mp h]
       exact⟨zg,us,x1,rfl,hzg,by omega,hu,ga x1 (by simp),by simp[szs]at sa;omega⟩
     ·have gg:=g3.trans gz
      refine⟨fun b o h1 h2 hb=>?_,gg.2.ne,?_,?_⟩
      ·rw[upd_ne (ne_of_none hb hl)]
       exact gg.1 b o h1 h2 hb
      ·obtain⟨ns,k1,k2,k3⟩:=gg.2.st
       exact⟨ns,k1,k2,by rw[upd_ne (Ne.symm dl.1)];exact k3⟩
      ·obtain⟨j,k1⟩:=gg.2.lf
       exact⟨j,by rw[upd_ne (Ne.symm dl.2)];exact k1⟩
  ·rintro σ H3 ⟨o5,o6,vs,ts,rfl,hl3,haf3,raf3,r3,l3,arms3,g3⟩
   refine⟨small (by show 1≤1000000;decide),fun p1 hp1=>?_⟩
   have e4:=same_new hp1 (.tup [.str "case"])
   have lf1:=raf3.length
   have lv:=r3.length
   refine⟨_,rfl,cat_any upd_same (e4 _ _ haf3) (by simp) (by simp;omega) fun p2 H5 e5 hp2=>⟨_,rfl,l,vs,rfl, .inl ⟨SqL.of ((e4.trans e5) _ _ hl3),fun pt hpt=>?_⟩⟩⟩
   have e6:=same_new hpt (.tup vs)
   refine cat_any (e6 _ _ hp2) upd_same (by simp) (by simp;omega) fun p3 H7 e7 hp3=>?_
   have eall:=((e4.trans e5).trans e6).trans e7
   match tf,laf,gaf,saf,raf3 with
   |[x0],_,gaf,saf,raf3=>
    have lt:1≤ts.length∧ts.length≤6:=by omega
    have hlist:(lenIn 1 6 ts&&ts.all armB)=true:=by
     rw[List.all_eq_true.mpr fun t ht=>(arm_ok (arms3 t ht)).1]
     simp[lenIn]
     omega
    refine q _ (.tup (.str "case"::x0::ts)) _ (goodP_form (l:=x0::ts.map at1) form_case.1 form_case.2 (by show(if _=true then _ else _)=_;rw[if_pos hlist]) fun t ht=>?_) (.tup hp3 (.cons (.str _ (by decide+kernel)) ((raf3.same eall).append (r3.same eall)))) ?_ (g3.trans (g2_same g3.2 eall))
    ·rcases List.mem_cons.mp ht with rfl|h
     ·exact gaf _ (by simp)
     ·obtain⟨t',h1,rfl⟩:=List.mem_map.mp h
      exact(arm_ok (arms3 t' h1)).2.1
    ·have s1:=szs_le (n:=7+BP n) fun t ht=>(arm_ok (arms3 t ht)).2.2
     have s2:ts.length*(7+BP n)≤6*(7+BP n):=Nat.mul_le_mul_right _ lt.2
     simp[szs]at saf
     simp[T.sz,szs,BP]
     omega
end
theorem form_fun:greatB "fun"=false∧formOf "fun"=some 0:=by decide+kernel
theorem form_pick:greatB "pick"=false∧formOf "pick"=some 0:=by decide+kernel
theorem form_let:greatB "let"=false∧formOf "let"=some 2:=by decide+kernel
theorem form_make:greatB "make"=false∧formOf "make"=some 5:=by decide+kernel
theorem form_if:greatB "if"=false∧formOf "if"=some 6:=by decide+kernel
theorem form_two:∀z∈(["call","plus","minus","times","less"]:List Str),greatB z=false∧formOf z=some 1:=by decide+kernel
theorem len_two:∀z∈(["call","plus","minus","times","less"]:List Str),z.length≤10:=by decide+kernel
theorem goodP_named {d:Nat}{z x:Str}{ts:List T}(h:greatB z=false∧formOf z=some 0)(hx:nameB x=true)(hl:ts.length=1)(hg:∀t∈ts,GP d t):GP (d+1) (.tup (.str z::.str x::ts)):=by
 match ts,hl,hg with
 |[e],_,hg=>exact goodP_form (l:=[e]) h.1 h.2 (by show(if nameB x=true then _ else _)=_;rw[if_pos hx]) hg
theorem goodP_let {d:Nat}{x:Str}{ts:List T}(hx:nameB x=true)(hl:ts.length=2)(hg:∀t∈ts,GP d t):GP (d+1) (.tup (.str "let"::.str x::ts)):=by
 match ts,hl,hg with
 |[e,g],_,hg=>exact goodP_form (l:=[e,g]) form_let.1 form_let.2 (by show(if nameB x=true then _ else _)=_;rw[if_pos hx]) hg
theorem goodP_make {d:Nat}{x:Str}{ts:List T}(hx:nameB x=true)(h1:1≤ts.length)(h4:ts.length≤4)(hg:∀t∈ts,GP d t):GP (d+1) (.tup (.str "make"::.str x::ts)) :=
 goodP_form (l:=ts) form_make.1 form_make.2 (by
  show(if(lenIn 1 4 ts&&nameB x)=true then _ else _)=_
  rw[if_pos (by rw[hx];simp[lenIn];omega)]) hg
theorem goodP_two {d:Nat}{z:Str}{ts:List T}(h:greatB z=false∧formOf z=some 1)(hl:ts.length=2)(hg:∀t∈ts,GP d t):GP (d+1) (.tup (.str z::ts)):=by
 match ts,hl,hg with
 |[e,g],_,hg=>exact goodP_form (l:=[e,g]) h.1 h.2 rfl hg
theorem goodP_if {d:Nat}{ts:List T}(hl:ts.length=3)(hg:∀t∈ts,GP d t):GP (d+1) (.tup (.str "if"::ts)):=by
 match ts,hl,hg with
 |[e,g,h],_,hg=>exact goodP_form (l:=[e,g,h]) form_if.1 form_if.2 rfl hg
theorem some_cat {K:PySem.W.Frag}{st lf p:Addr}{n m:Nat}{i:Int}{hv:List V}{hts:List T}{H1:Hp}{Q:VK}(hi:i=(m:Nat))(hp:H1 p=some (.tup hv))(rp:Reps H1 hv hts)(hn:1≤hv.length)(hn2:hv.length≤10)(d1:D2 st lf H1)(m1:1≤m)(m6:m≤6)
  (q:∀v ts H',ts.length=m→(∀t∈ts,GP (n+1) t)→szs ts≤m*BP n→Rep H' v (.tup (hts++ts))→Grow2 st lf H1 H'→Q v H'):spSomeN (n+1) [.ref st, .int (n+1:Nat), .ref lf, .int i] H1 (fun y H3=>rCatT K (.ref p) y H3 Q) E0:=by
 subst hi
 refine⟨st,lf,m,rfl,d1,m1,m6,fun a us ts H' ha ra la ga sa g=>?_⟩
 exact cat_fin hp rp (fun e=>by rw[e]at hn;simp at hn) d1 g ha ra (by omega) (by omega) fun p' H2 r2 g2=>q _ ts H2 la ga sa r2 (g.trans g2)
section
variable {P:Program}{w:World}{K:PySem.W.Frag}{mg:Str→Option Value}{base:Heap}{f:Addr}{fd:FuncData}
theorem sc_phrase:FnScope ["_law_state","_law_deep","_law_left","_law_way"] ["_law_state","_law_deep","_law_left"] (defScope s_phrase):=⟨rfl,rfl,rfl,by decide+kernel,rfl,by decide+kernel,by decide+kernel⟩
theorem g2_count {st lf:Addr}{H:Hp}{j:Int}(d:D2 st lf H):Grow2 st lf H (upd H lf (.lst [.int j])):=by
 refine⟨fun b o _ h2 hb=>by rw[upd_ne h2];exact hb,d.ne,?_,j,upd_same⟩
 obtain⟨ns,k1,k2,k3⟩:=d.st
 exact⟨ns,k1,k2,by rw[upd_ne d.ne];exact k3⟩
set_option maxHeartbeats 2000000 in
theorem ok_phrase {n:Nat}(F:Fun K "_law_phrase" "_law_phrase" s_phrase f fd)(h0:Has P w K mg base 1 "_law_next" ["_law_state","_law_many"] spNext)(h2:Has P w K mg base 3 "_law_small" ["_law_state"] (spStr fun z=>nameB z=true))
  (h3:Has P w K mg base 3 "_law_great" ["_law_state"] (spStr fun z=>greatB z=true)) (h4:Has P w K mg base 5 "_law_leaf" ["_law_state","_law_way"] spLeaf) (h1:Has P w K mg base (7+3*n) "_law_some" ["_law_state","_law_deep","_law_left","_law_many"] (spSomeN n))
  (h5:Has P w K mg base (8+3*n) "_law_ring" ["_law_state","_law_deep","_law_left"] (spFormN n)) (h6:Has P w K mg base (8+3*n) "_law_case" ["_law_state","_law_deep","_law_left"] (spFormN n)):FnOk P w K mg base CX0 (9+3*n) f fd ["_law_state","_law_deep","_law_left"] (spPhrase n):=by
 have e7:9+3*n=(8+3*n)+1:=by omega
 rw[e7]
 refine F.ok sc_phrase (len:=fun vs H Q E h=>(by obtain⟨st,lf,rfl,_⟩:=h;rfl)) (fun cdv A outer s H vs Q E hr h=>?_)
 obtain⟨st,lf,rfl,d,q⟩:=h
 refine⟨_,pss_cons (ps_augS (pv 2) pe_int get_list pe_int ip_sub set_list)
  (pss_cons (ps_set (i:=3) sc_phrase.nd rfl (Or.inl rfl) (pcall h0 hr (by omega) rfl (pa_cons (pv 0) (pa_cons pe_int pa_nil))))
  (pss_cons (ps_if (PW.pt (pw_or (pt_cmpR op_eq (pv 1) pe_int (nomark _)) (pw_or (pt_cmpR op_lt (pe_ix ix_list (pv 2) pe_int (fun _ _=>rfl)) pe_int (nomark _)) (pw_or1 (pt_cmpR op_lt (pv 3) pe_int (nomark _))))))
   (pss_one (ps_ret (pcall h4 hr (by omega) rfl (pa_cons (pv 0) (pa_cons (pe_op op_mod (pv 3) pe_int) pa_nil))))) pss_nil)
  (pss_cons (ps_if (pt_cmpR op_eq (pv 3) pe_int (nomark _)) (pss_one (ps_ret (pe_op op_catT (pe_tup (pa_cons (pcall h3 hr (by omega) rfl (pa_cons (pv 0) pa_nil)) pa_nil))
   (pcall h1 hr (by omega) rfl (pa_cons (pv 0) (pa_cons (pv 1) (pa_cons (pv 2) (pa_cons (pe_op op_add pe_int (pcall h0 hr (by omega) rfl (pa_cons (pv 0) (pa_cons pe_int pa_nil)))) pa_nil)))))))) pss_nil)
  (pss_cons (ps_if (pt_cmpR op_eq (pv 3) pe_int (nomark _)) (pss_one (ps_ret (pe_op op_catT (pe_tup (pa_cons pe_str (pa_cons (pcall h2 hr (by omega) rfl (pa_cons (pv 0) pa_nil)) pa_nil)))
   (pcall h1 hr (by omega) rfl (pa_cons (pv 0) (pa_cons (pv 1) (pa_cons (pv 2) (pa_cons pe_int pa_nil)))))))) pss_nil)
  (pss_cons (ps_if (pt_cmpR op_eq (pv 3) pe_int (nomark _)) (pss_one (ps_ret (pe_op op_catT (pe_tup (pa_cons pe_str (pa_cons (pcall h2 hr (by omega) rfl (pa_cons (pv 0) pa_nil)) pa_nil)))
   (pcall h1 hr (by omega) rfl (pa_cons (pv 0) (pa_cons (pv 1) (pa_cons (pv 2) (pa_cons pe_int pa_nil)))))))) pss_nil)
  (pss_cons (ps_if (pt_cmpR op_eq (pv 3) pe_int (nomark _)) (pss_one (ps_ret (pcall h5 hr (by omega) rfl (pa_cons (pv 0) (pa_cons (pv 1) (pa_cons (pv 2) pa_nil)))))) pss_nil)
  (pss_cons (ps_if (pt_cmpR op_eq (pv 3) pe_int (nomark _)) (pss_one (ps_ret (pcall h6 hr (by omega) rfl (pa_cons (pv 0) (pa_cons (pv 1) (pa_cons (pv 2) pa_nil)))))) pss_nil)
  (pss_cons (ps_if (pt_cmpR op_eq (pv 3) pe_int (nomark _)) (pss_one (ps_ret (pe_op op_catT (pe_tup (pa_cons pe_str (pa_cons (pcall h2 hr (by omega) rfl (pa_cons (pv 0) pa_nil)) pa_nil)))
   (pcall h1 hr (by omega) rfl (pa_cons (pv 0) (pa_cons (pv 1) (pa_cons (pv 2) (pa_cons (pe_op op_add pe_int (pcall h0 hr (by omega) rfl (pa_cons (pv 0) (pa_cons pe_int pa_nil)))) pa_nil)))))))) pss_nil)
  (pss_cons (ps_if (pt_cmpR op_eq (pv 3) pe_int (nomark _)) (pss_one (ps_ret (pe_op op_catT (pe_tup (pa_cons pe_str (pa_cons (pcall h2 hr (by omega) rfl (pa_cons (pv 0) pa_nil)) pa_nil)))
   (pcall h1 hr (by omega) rfl (pa_cons (pv 0) (pa_cons (pv 1) (pa_cons (pv 2) (pa_cons pe_int pa_nil)))))))) pss_nil)
  (pss_cons (ps_if (pt_cmpR op_eq (pv 3) pe_int (nomark _)) (pss_one (ps_ret (pe_op op_catT (pe_tup (pa_cons pe_str pa_nil))
   (pcall h1 hr (by omega) rfl (pa_cons (pv 0) (pa_cons (pv 1) (pa_cons (pv 2) (pa_cons pe_int pa_nil)))))))) pss_nil)
  (pss_one (ps_ret (pe_op op_catT (pe_tup (pa_cons (pe_ix ix_list (pe_lst (pa_cons pe_str (pa_cons pe_str (pa_cons pe_str (pa_cons pe_str (pa_cons pe_str pa_nil)))))) (pe_op op_sub (pv 3) pe_int) (fun _ _=>rfl)) pa_nil))
   (pcall h1 hr (by omega) rfl (pa_cons (pv 0) (pa_cons (pv 1) (pa_cons (pv 2) (pa_cons pe_int pa_nil)))))))))))))))))),?_⟩
 obtain⟨i0,hlf⟩:=d.lf
 refine⟨_,rfl,lf,_,0, .int i0,rfl,rfl,SqL.of hlf,rfl,i0,1,rfl,rfl,lf,_,0,0,rfl,rfl,hlf,rfl,?_⟩
 have g1:Grow2 st lf H (upd H lf (.lst [.int (i0-1)])):=g2_count d
 show tSeq _ _ _ _ (upd H lf (.lst [.int (i0-1)]))
 generalize upd H lf (.lst [.int (i0-1)])=H1 at g1
 refine⟨_,rfl,st,17,rfl,g1.2.st,by decide,by decide,fun y H2 y0 y1 g2'=>?_⟩
 have g2:=g1.trans (g2_of g1.2 g2')
 obtain⟨j,hj⟩:=g2.2.lf
 refine st_if (ts_or (ts_t (ev_eqI (ev_var rfl) fun _ _=>ev_c)) (fun _ H' e'=>ts_or (ts_t (ev_op (z:=.bl (decide (j<0))) (ev_ixL (ev_var rfl) (fun _ _=>ev_c) (SqL.of (e' _ _ hj)) (atI_nat (j:=0) rfl)) (fun _ _=>ev_c) fun H'' Q'' e'' q''=>⟨_,_,rfl,rfl,q''⟩))
  (fun _ H'' e''=>ts_t (ev_op (z:=.bl (decide (y<4))) (ev_var rfl) (fun _ _=>ev_c) fun H'' Q'' e'' q''=>⟨_,_,rfl,rfl,q''⟩)))) (fun c H3 e3=>?_) (fun c H3 e3=>?_)
 ·have g3:=g2.trans (g2_same g2.2 e3)
  refine⟨_,rfl,_,rfl,y,4,rfl,rfl,(by show(0:Int)<4;decide),st,y%4,rfl,g3.2.st,Int.emod_nonneg _ (by omega),Int.emod_lt_of_pos _ (by decide),fun v t H4 gt rt zt g4=>?_⟩
  exact q v t H4 (gt.up (by omega)) rt (Nat.le_trans zt (BP_pos n)) (g3.trans (g2_of g3.2 g4))
 ·have c1:¬((n:Int)=0)∧¬y<4:=by
   rw[Bool.or_eq_false_iff,Bool.or_eq_false_iff]at c
   exact⟨of_decide_eq_false c.1,of_decide_eq_false c.2.2⟩
  obtain⟨m,rfl⟩:∃m,n=m+1:=⟨n-1,by omega⟩
  have fin:∀(z:T) (hts ts:List T) (k:Nat) (H':Hp) (v:V),z=.tup (hts++ts)→szs hts≤3→k≤6→szs ts≤k*BP m→GP (m+2) z→Rep H' v z→Grow2 st lf H H'→Q v H':=fun z hts ts k H' v e1 e2 e3 e4 gz rz g=>by
   refine q v z H' gz rz ?_ g
   have:k*BP m≤6*BP m:=Nat.mul_le_mul_right _ e3
   rw[e1]
   simp only[T.sz,szs_app,BP]
   omega
  have g3:=g2.trans (g2_same g2.2 e3)
  refine st_if (ts_t (ev_eqI (ev_var rfl) fun _ _=>ev_c)) (fun c4 H4 e4=>?_) (fun c4 H4 e4=>?_)
  ·have g4:=g3.trans (g2_same g3.2 e4)
   refine⟨_,rfl,st,rfl,g4.2.st,fun z H5 hz lz g5'=>⟨small (by show 1≤1000000;decide),fun p hp=>?_⟩⟩
   have g5:=g4.trans (g2_of g4.2 g5')
   have g6':Grow2 st lf H5 (upd H5 p (.tup [.str z])):=g2_new g5.2 hp
   refine⟨_,rfl,_,rfl,_,rfl,_,rfl,st,4,rfl,g6'.2.st,by decide,by decide,fun e H7 e0 e1 g7'=>⟨1,e,rfl,rfl,?_⟩⟩
   have g7:=g2_of g6'.2 g7'
   refine some_cat (m:=(1+e).toNat) (hts:=[.str z]) (by omega) (g7.tups g6'.2 _ _ upd_same) (.cons (.str z (by omega)) .nil) (by simp) (by simp) g7.2 (by omega) (by omega) fun v ts H8 lt gt zt rt g8=>?_
   exact fin _ [.str z] ts _ H8 v rfl (by simp[szs,T.sz]) (by omega) zt (goodP_great (ts:=ts) hz (by omega) (by omega) gt) rt (((g5.trans g6').trans g7).trans g8)
  have g4:=g3.trans (g2_same g3.2 e4)
  refine st_if (ts_t (ev_eqI (ev_var rfl) fun _ _=>ev_c)) (fun c5 H5 e5=>?_) (fun c5 H5 e5=>?_)
  ·have g5:=g4.trans (g2_same g4.2 e5)
   refine⟨_,rfl,st,rfl,g5.2.st,fun z H6 hz lz g6'=>⟨small (by show 2≤1000000;decide),fun p hp=>?_⟩⟩
   have g6:=g5.trans (g2_of g5.2 g6')
   have g7:Grow2 st lf H6 (upd H6 p (.tup [.str "fun", .str z])):=g2_new g6.2 hp
   refine⟨_,rfl,_,rfl,_,rfl,?_⟩
   refine some_cat (m:=1) (i:=1) (hts:=[.str "fun", .str z]) rfl upd_same (.cons (.str _ (by decide+kernel)) (.cons (.str z (by omega)) .nil)) (by simp) (by simp) g7.2 (by omega) (by omega) fun v ts H8 lt gt zt rt g8=>?_
   exact fin _ [.str "fun", .str z] ts _ H8 v rfl (by simp[szs,T.sz]) (by omega) zt (goodP_named form_fun hz lt gt) rt ((g6.trans g7).trans g8)
  have g5:=g4.trans (g2_same g4.2 e5)
  refine st_if (ts_t (ev_eqI (ev_var rfl) fun _ _=>ev_c)) (fun c6 H6 e6=>?_) (fun c6 H6 e6=>?_)
  ·have g6:=g5.trans (g2_same g5.2 e6)
   refine⟨_,rfl,st,rfl,g6.2.st,fun z H7 hz lz g7'=>⟨small (by show 2≤1000000;decide),fun p hp=>?_⟩⟩
   have g7:=g6.trans (g2_of g6.2 g7')
   have g8:Grow2 st lf H7 (upd H7 p (.tup [.str "let", .str z])):=g2_new g7.2 hp
   refine⟨_,rfl,_,rfl,_,rfl,?_⟩
   refine some_cat (m:=2) (i:=2) (hts:=[.str "let", .str z]) rfl upd_same (.cons (.str _ (by decide+kernel)) (.cons (.str z (by omega)) .nil)) (by simp) (by simp) g8.2 (by omega) (by omega) fun v ts H9 lt gt zt rt g9=>?_
   exact fin _ [.str "let", .str z] ts _ H9 v rfl (by simp[szs,T.sz]) (by omega) zt (goodP_let hz lt gt) rt ((g7.trans g8).trans g9)
  have g6:=g5.trans (g2_same g5.2 e6)
  refine st_if (ts_t (ev_eqI (ev_var rfl) fun _ _=>ev_c)) (fun c7 H7 e7=>?_) (fun c7 H7 e7=>?_)
  ·have g7:=g6.trans (g2_same g6.2 e7)
   exact⟨_,rfl,_,rfl,_,rfl,st,lf,rfl,g7.2,fun v t H8 gt rt zt g8=>q v t H8 gt rt zt (g7.trans g8)⟩
  have g7:=g6.trans (g2_same g6.2 e7)
  refine st_if (ts_t (ev_eqI (ev_var rfl) fun _ _=>ev_c)) (fun c8 H8 e8=>?_) (fun c8 H8 e8=>?_)
  ·have g8:=g7.trans (g2_same g7.2 e8)
   exact⟨_,rfl,_,rfl,_,rfl,st,lf,rfl,g8.2,fun v t H9 gt rt zt g9=>q v t H9 gt rt zt (g8.trans g9)⟩
  have g8:=g7.trans (g2_same g7.2 e8)
  refine st_if (ts_t (ev_eqI (ev_var rfl) fun _ _=>ev_c)) (fun c9 H9 e9=>?_) (fun c9 H9 e9=>?_)
  ·have g9:=g8.trans (g2_same g8.2 e9)
   refine⟨_,rfl,st,rfl,g9.2.st,fun z Ha hz lz ga'=>⟨small (by show 2≤1000000;decide),fun p hp=>?_⟩⟩
   have ga:=g9.trans (g2_of g9.2 ga')
   have gb:Grow2 st lf Ha (upd Ha p (.tup [.str "make", .str z])):=g2_new ga.2 hp
   refine⟨_,rfl,_,rfl,_,rfl,_,rfl,st,4,rfl,gb.2.st,by decide,by decide,fun e Hc e0 e1 gc'=>⟨1,e,rfl,rfl,?_⟩⟩
   have gc:=g2_of gb.2 gc'
   refine some_cat (m:=(1+e).toNat) (hts:=[.str "make", .str z]) (by omega) (gc.tups gb.2 _ _ upd_same) (.cons (.str _ (by decide+kernel)) (.cons (.str z (by omega)) .nil)) (by simp) (by simp) gc.2 (by omega) (by omega) fun v ts Hd lt gt zt rt gd=>?_
   exact fin _ [.str "make", .str z] ts _ Hd v rfl (by simp[szs,T.sz]) (by omega) zt (goodP_make (ts:=ts) hz (by omega) (by omega) gt) rt (((ga.trans gb).trans gc).trans gd)
  have g9:=g8.trans (g2_same g8.2 e9)
  refine st_if (ts_t (ev_eqI (ev_var rfl) fun _ _=>ev_c)) (fun ca Ha ea=>?_) (fun ca Ha ea=>?_)
  ·have ga:=g9.trans (g2_same g9.2 ea)
   refine⟨_,rfl,st,rfl,ga.2.st,fun z Hb hz lz gb'=>⟨small (by show 2≤1000000;decide),fun p hp=>?_⟩⟩
   have gb:=ga.trans (g2_of ga.2 gb')
   have gc:Grow2 st lf Hb (upd Hb p (.tup [.str "pick", .str z])):=g2_new gb.2 hp
   refine⟨_,rfl,_,rfl,_,rfl,?_⟩
   refine some_cat (m:=1) (i:=1) (hts:=[.str "pick", .str z]) rfl upd_same (.cons (.str _ (by decide+kernel)) (.cons (.str z (by omega)) .nil)) (by simp) (by simp) gc.2 (by omega) (by omega) fun v ts Hd lt gt zt rt gd=>?_
   exact fin _ [.str "pick", .str z] ts _ Hd v rfl (by simp[szs,T.sz]) (by omega) zt (goodP_named form_pick hz lt gt) rt ((gb.trans gc).trans gd)
  have ga:=g9.trans (g2_same g9.2 ea)
  refine st_if (ts_t (ev_eqI (ev_var rfl) fun _ _=>ev_c)) (fun cb Hb eb=>?_) (fun cb Hb eb=>?_)
  ·have gb:=ga.trans (g2_same ga.2 eb)
   refine⟨small (by show 1≤1000000;decide),fun p hp=>?_⟩
   have gc:Grow2 st lf Hb (upd Hb p (.tup [.str "if"])):=g2_new gb.2 hp
   refine⟨_,rfl,_,rfl,_,rfl,?_⟩
   refine some_cat (m:=3) (i:=3) (hts:=[.str "if"]) rfl upd_same (.cons (.str _ (by decide+kernel)) .nil) (by simp) (by simp) gc.2 (by omega) (by omega) fun v ts Hd lt gt zt rt gd=>?_
   exact fin _ [.str "if"] ts _ Hd v rfl (by simp[szs,T.sz]) (by omega) zt (goodP_if lt gt) rt ((gb.trans gc).trans gd)
  have gb:=ga.trans (g2_same ga.2 eb)
  have n4:¬y=4:=of_decide_eq_false c4
  have n5:¬y=5:=of_decide_eq_false c5
  have n6:¬y=6:=of_decide_eq_false c6
  have n7:¬y=7:=of_decide_eq_false c7
  have n8:¬y=8:=of_decide_eq_false c8
  have n9:¬y=9:=of_decide_eq_false c9
  have na:¬y=10:=of_decide_eq_false ca
  have nb:¬y=11:=of_decide_eq_false cb
  have hy:12≤y:=by omega
  refine⟨small (by show 5≤1000000;decide),fun l hl=>?_⟩
  obtain⟨zz,hzz,hm⟩:∃zz,atI ((["call","plus","minus","times","less"]:List Str).map V.str) (y-12)=some (V.str zz)∧zz∈(["call","plus","minus","times","less"]:List Str):=by
   obtain⟨v,hv,hm⟩:=at_any (xs:=(["call","plus","minus","times","less"]:List Str).map V.str) (d:=y-12) (by omega) (by simp;omega)
   obtain⟨zz,h1,h2⟩:=List.mem_map.mp hm
   exact⟨zz,by rw[hv,h2],h1⟩
  refine⟨_,rfl,y,12,rfl,rfl,l,_,y-12, .str zz,rfl,rfl,SqL.of upd_same,hzz,small (by show 1≤1000000;decide),fun p hp=>?_⟩
  have gc:=gb.trans (g2_new (o:=.lst ((["call","plus","minus","times","less"]:List Str).map V.str)) gb.2 hl)
  have gd:=g2_new (o:=.tup [.str zz]) gc.2 hp
  refine⟨_,rfl,_,rfl,_,rfl,?_⟩
  refine some_cat (m:=2) (i:=2) (hts:=[.str zz]) rfl upd_same (.cons (.str _ (by have:=len_two zz hm;omega)) .nil) (by simp) (by simp) gd.2 (by omega) (by omega) fun v ts He lt gt zt rt ge=>?_
  exact fin _ [.str zz] ts _ He v rfl (by simp[szs,T.sz]) (by omega) zt (goodP_two (form_two zz hm) lt gt) rt ((gc.trans gd).trans ge)
theorem phrases_all {fs fr fc:Addr}{ds dr dc:FuncData}(F:Fun K "_law_phrase" "_law_phrase" s_phrase f fd)(bF:Binds K fd ["_law_state","_law_deep","_law_left"] [])(mF:mg "_law_phrase"=some (.ref f))
  (S:Fun K "_law_some" "_law_some" s_some fs ds) (bS:Binds K ds ["_law_state","_law_deep","_law_left","_law_many"] []) (mS:mg "_law_some"=some (.ref fs)) (R:Fun K "_law_ring" "_law_ring" s_ring fr dr) (bR:Binds K dr ["_law_state","_law_deep","_law_left"] []) (mR:mg "_law_ring"=some (.ref fr))
  (C:Fun K "_law_case" "_law_case" s_case fc dc) (bC:Binds K dc ["_law_state","_law_deep","_law_left"] []) (mC:mg "_law_case"=some (.ref fc)) (mr:mg "range"=none) (mt:mg "tuple"=none)
  (h0:Has P w K mg base 1 "_law_next" ["_law_state","_law_many"] spNext) (h2:Has P w K mg base 3 "_law_small" ["_law_state"] (spStr fun z=>nameB z=true))
  (h3:Has P w K mg base 3 "_law_great" ["_law_state"] (spStr fun z=>greatB z=true)) (h4:Has P w K mg base 5 "_law_leaf" ["_law_state","_law_way"] spLeaf):
  ∀n:Nat,Has P w K mg base (6+3*n) "_law_phrase" ["_law_state","_law_deep","_law_left"] (spPhraseN n)
 |0=>⟨f,fd,⟨fun vs H Q E h=>h.elim,fun A outer s H args us vs Q E _ _ _ _ h=>h.elim⟩,bF,F.kp,mF⟩
 |n+1=>by
  have ih:=phrases_all F bF mF S bS mS R bR mR C bC mC mr mt h0 h2 h3 h4 n
  have hs:Has P w K mg base (7+3*n) "_law_some" ["_law_state","_law_deep","_law_left","_law_many"] (spSomeN n):=⟨fs,ds,ok_some S mr mt ih,bS,S.kp,mS⟩
  have hg:Has P w K mg base (8+3*n) "_law_ring" ["_law_state","_law_deep","_law_left"] (spFormN n):=⟨fr,dr,ok_ring R mr mt h0 h2 hs,bR,R.kp,mR⟩
  have hc:Has P w K mg base (8+3*n) "_law_case" ["_law_state","_law_deep","_law_left"] (spFormN n):=⟨fc,dc,ok_case C mr mt h0 h2 h3 hs,bC,C.kp,mC⟩
  have e:6+3*(n+1)=9+3*n:=by omega
  rw[e]
  exact⟨f,fd,ok_phrase F h0 h2 h3 h4 hs hg hc,bF,F.kp,mF⟩
end
end Fw
namespace L2
open PySem PySem.Spec PyProof.Rows
section
variable {X:Cx}{o e:Expr}{es:List Expr}{to:TE}{t:TA}
theorem PE1.pe {t:TE}(h:PE1 X e t):PE X e t:=fun pins s σ H Q I q=>thn (h pins s σ H Q I q) fun _ _ z=>z.1
theorem pe1_str {x j pos}:PE1 X (.Constant (.str x) j pos) (tC (.str x)):=fun _ _ _ H _ I h=>Calls.Constant_str ⟨⟨.str x,H,I.tok _,⟨_,rfl⟩,h⟩,Nat.succ_pos _⟩
theorem pe1_bm {name:Str}{apos cpos:Pos}{T id:String}{r:V→List V→Hp→VK→Prop}(pa:PlainAttrs T)(slot:Slot T name id)(hty:typeOf (.builtin id)=pure (.type "method_descriptor"))(hm:MtR X id r)(ho:PE1 X o to)(ha:PA X (e::es) t)
  (hbase:attributeBase o name X.env (eval o X.env)=eval o X.env:=by rfl)
  (hfew:((backTo cpos (starEach (e::es) X.env)).all (fun x=>!x.1)&&(backToKw cpos (keywordEach [] X.env)).all (fun x=>x.1.isSome)
   &&decide ((e::es).length+([]:List Keyword).length+(if([]:List Keyword).isEmpty then 0 else 1)<30))=true:=by rfl)
  (hline:(apos.endLine==cpos.line)=true:=by rfl) (hs:starEach (e::es) X.env=(false,eval e X.env)::starEach es X.env:=by rfl) (hplain:(backTo cpos (starEach es X.env)).any (·.1)=false:=by rfl):
  PE1 X (.Call (.Attribute o name apos) (e::es) [] cpos) (tBM X.K T r to t):=by
 intro pins s σ H Q I h
 refine wpAny_Call_method_late hbase hfew hline rfl (thn (ho pins s σ H _ I h) fun v s1 ⟨⟨x,H1,I1,r1,ty,q1⟩,k1⟩=>?_)
 obtain⟨h1,h2⟩:=tyV_is I1 r1 ty
 refine⟨T,id,pa,slot,hty,h1,h2,?_⟩
 have hA:=ha cpos pins s1 σ H1 _ I1 q1
 rw[hs]at hA ⊢
 refine Calls.callWith_builtin (by show(false||(backTo cpos (starEach es X.env)).any (·.1))=false;rw[hplain]<;>rfl) (Calls.evalArgs_plain ?_)
 exact wpAny_tk (thn hA fun us s2 ⟨vs,H2,I2,r2,q2⟩ k2=>wpAny_tk (thn (hm pins s2 σ H2 x vs v us Q I2 r1 r2 q2) fun _ _ z k3=>⟨z,Nat.lt_of_lt_of_le k1 (Nat.le_trans k2 k3)⟩))
theorem pe_rep1 {y z:Str}{j1 j2 p1 p2 cpos apos}(ho:PE1 X o to)
  (hbase:attributeBase o "replace" X.env (eval o X.env)=eval o X.env:=by rfl)
  (hfew:((backTo cpos (starEach [.Constant (.str y) j1 p1, .Constant (.str z) j2 p2] X.env)).all (fun x=>!x.1)&&(backToKw cpos (keywordEach [] X.env)).all (fun x=>x.1.isSome)
   &&decide (([.Constant (.str y) j1 p1, .Constant (.str z) j2 p2]:List Expr).length+([]:List Keyword).length+(if([]:List Keyword).isEmpty then 0 else 1)<30))=true:=by rfl)
  (hline:(apos.endLine==cpos.line)=true:=by rfl) (hyz:(y==z)=false:=by decide):
  PE1 X (.Call (.Attribute o "replace" apos) [.Constant (.str y) j1 p1, .Constant (.str z) j2 p2] [] cpos) (tRep y z to):=by
 intro pins s σ H Q I h
 refine wpAny_Call_method_late hbase hfew hline rfl (thn (ho pins s σ H _ I h) fun v s1 ⟨⟨x,H1,I1,r1,q1⟩,k1⟩=>?_)
 obtain⟨w,rfl,hl,q⟩:=q1
 obtain⟨tw,rfl⟩:=r1
 refine⟨"str","str.replace",PySem.F.plainAttrs_str,PySem.F.slot_str_replace,PySem.F.type_str_replace,typeIs_str s1 w tw,(fun _ e=>nomatch e),?_⟩
 refine Calls.callWith_builtin rfl (Calls.evalArgs_plain ?_)
 refine Calls.spliced_cons (Calls.Constant_str (k:=0) (pos:=p1) ?_)
 show wpAny _ _ (spliced ((false,eval (.Constant (.str z) j2 p2) X.env)::backTo cpos (starEach [] X.env))) _ _ _
 refine Calls.spliced_cons (Calls.Constant_str (k:=0) (pos:=p1) ?_)
 show wpAny _ _ (spliced []) _ _ _
 refine Calls.spliced_nil ?_
 refine wpAny_tk ?_
 refine SC.replace (by show s1.toks≠0;omega) (by show s1.toks+1≠0;omega) (by show s1.toks≠s1.toks+1;omega) hyz hl (fun t' k hk=>⟨⟨.str _,H1,I1.tok k,⟨_,rfl⟩,q⟩,?_⟩)
 exact Nat.lt_of_lt_of_le (show 0<s1.toks+1+1 by omega) hk
theorem strsAre_of:∀{zs:List Str} {us:List Value},Vals (zs.map V.str) us→StrsAre us zs
 |[],_, .nil=>.nil
 |_::_,_, .cons r q=>by
  obtain⟨t,rfl⟩:=r
  exact .cons _ t (strsAre_of q)
theorem mt_join:MtR X "str.join" (fun x xs H Q=>∃(y:Str) (l:Addr) (zs:List Str),x=.str y∧xs=[.ref l]∧H l=some (.lst (zs.map V.str))∧(zs.map (·.length)).sum+zs.length*y.length≤16000000∧Q (.str (Txt.join y zs)) H):=by
 intro pins s σ H x xs v us Q I rx rs h
 obtain⟨y,l,zs,rfl,rfl,hl,hb,q⟩:=h
 obtain⟨t,rfl⟩:=rx
 obtain⟨u,rfl,ru⟩:=vals1 rs
 cases ru
 obtain⟨z1,its1,n1,v1,p1⟩:=I.hok l _ hl
 exact join_list ⟨_,p1,rfl,_,rfl⟩ (strsAre_of v1) (by omega) fun t' k=>⟨.str _,H,I.tok _,⟨_,rfl⟩,q⟩
end
section
variable {X:Cx}
def rInsert:V→List V→Hp→VK→Prop:=fun x vs H Q=>∃l xs i y,x=.ref l∧vs=[.int i,y]∧H l=some (.lst xs)∧0≤i∧i≤xs.length∧xs.length+1≤1000000∧Q .non (upd H l (.lst (xs.take i.toNat++y::xs.drop i.toNat)))
theorem vals_take {xs:List V}{us:List Value}(r:Vals xs us):∀k,Vals (xs.take k) (us.take k):=by
 induction r with
 |nil=>intro k;simp;exact .nil
 |cons a b ih=>
  intro k
  cases k with
  |zero=>exact .nil
  |succ k=>exact .cons a (ih k)
theorem vals_drop {xs:List V}{us:List Value}(r:Vals xs us):∀k,Vals (xs.drop k) (us.drop k):=by
 induction r with
 |nil=>intro k;simp;exact .nil
 |cons a b ih=>
  intro k
  cases k with
  |zero=>exact .cons a b
  |succ k=>exact ih k
theorem mt_insert:MtM X "list.insert" rInsert:=by
 intro pins s σ H x vs v us Q I rx rv h
 obtain⟨l,xs,i,y,rfl,rfl,hH,h1,h2,hz,q⟩:=h
 cases rx
 cases rv with
 |cons ra rb=>
 obtain⟨t,rfl⟩:=ra
 cases rb with
 |cons ru rc=>
 cases rc
 rename_i u
 obtain⟨z,its,n,r,hl,e⟩:=I.lstM hH
 have hsz:xs.length+1≤sizeLine:=Nat.le_trans hz (by decide)
 have hf:¬(!Builtin.List.listFitsIndex i)=true:=by
  rw[fitsIndex_both (by omega) (by omega)]
  exact Bool.false_ne_true
 refine call_meets F.slot_list_insert ⟨_,e,rfl⟩ F.entry_list_insert (F.args_list_insert_3 _ _ _) (AutoSeq1.list_insert_list_int_val_1 l its.toArray n i t u hf (by rw[List.size_toArray,←hl];omega)) ⟨e,?_⟩
 refine⟨.non,_,I.lset (its':=its.take i.toNat++u::its.drop i.toNat) hH e ?_ ((vals_take r _).append (.cons ru (vals_drop r _))) ?_,rfl,q⟩
 ·have e1:¬i<0:=by omega
  have e2:min i.toNat its.toArray.size=i.toNat:=by rw[List.size_toArray,←hl];omega
  show(its.toArray.extract 0 (if i<0 then _ else min i.toNat its.toArray.size)).push u++its.toArray.extract (if i<0 then _ else min i.toNat its.toArray.size)=_
  rw[if_neg e1,e2]
  simp
  exact List.take_of_length_le (by simp)
 ·simp
  omega
end
end L2
namespace Fw
open PySem PySem.Spec PyProof.Rows L2
theorem leaf_ok {z:Str}(h:leafB z=true):AtomOk (.str z):=by
 unfold leafB at h
 simp only[Bool.or_eq_true,decide_eq_true_eq]at h
 rcases h with ((h|h)|h)|h
 ·rw[h]
  exact kept_ok (by decide+kernel)
 ·exact var_ok h
 ·exact name_ok h
 ·exact pathB_ok h
theorem head_ok {z:Str}(h:headB z=true):AtomOk (.str z):=by
 unfold headB at h
 simp only[Bool.or_eq_true]at h
 rcases h with h|h
 ·exact name_ok h
 ·exact pathB_ok h
theorem leafP_ok {z:Str}(h:leafPB z=true):AtomOk (.str z):=by
 unfold leafPB at h
 simp only[Bool.or_eq_true]at h
 rcases h with h|h|h
 ·exact name_ok h
 ·exact pathB_ok h
 ·exact great_ok h
theorem tr_kind {t:T}(h:Good kidsK t):Tr t.sz t:=by
 induction h with
 |@mk t l h q ih=>
  cases t with
  |int i=>cases h
  |str z=>
   rw[kidsK_str]at h
   split at h
   ·exact .at (leaf_ok ‹_›)
   ·cases h
  |tup ts=>
   cases ts with
   |nil=>cases h
   |cons a r=>
    rw[kidsK_cons]at h
    have e:l=r∧Tr 0 a:=by
     split at h
     ·rename_i c
      cases h
      cases a with
      |str z=>
       have e:z=("->":Str):=of_decide_eq_true c.2
       subst e
       exact⟨rfl, .at arrow_ok⟩
      |int i=>cases c.2
      |tup x=>cases c.2
     ·split at h
      ·rename_i c
       cases h
       cases a with
       |str z=>exact⟨rfl, .at (head_ok c.2)⟩
       |int i=>cases c.2
       |tup x=>cases c.2
      ·cases h
    obtain⟨rfl,ha⟩:=e
    have e1:T.sz (.tup (a::l))=szs (a::l)+1:=by simp only[T.sz];omega
    rw[e1]
    refine .tp fun t ht=>?_
    rcases List.mem_cons.mp ht with rfl|ht
    ·exact ha.mono (Nat.zero_le _)
    ·exact(ih t ht).mono (sz_mem (List.mem_cons_of_mem _ ht))
theorem forms_ok {z:Str}{n:Nat}(h:formOf z=some n):AtomOk (.str z):=by
 have:∀p∈formsL,p.1∈keptL:=by decide+kernel
 exact kept_ok (this (z,n) (mem_of_lookup' h))
theorem on_name {t:T}(h:onStr nameB t=true){n:Nat}:Tr n t:=by
 cases t with
 |str z=>exact .at (name_ok h)
 |int i=>cases h
 |tup x=>cases h
theorem on_great {t:T}(h:onStr greatB t=true){n:Nat}:Tr n t:=by
 cases t with
 |str z=>exact .at (great_ok h)
 |int i=>cases h
 |tup x=>cases h
theorem tr_func {m:Nat}{t:T}(h:funcB t=true)(h2:Tr m (at2 t)):Tr (m+1) t:=by
 unfold funcB at h
 split at h
 ·rw[Bool.and_eq_true]at h
  refine .tp fun t ht=>?_
  simp only[List.mem_cons,List.not_mem_nil,or_false]at ht
  rcases ht with rfl|rfl|rfl
  ·exact on_name h.1
  ·exact on_name h.2
  ·exact h2
 ·cases h
theorem tr_arm {m:Nat}{t:T}(h:armB t=true)(h2:Tr (m+1) (at1 t)):Tr (m+2) t:=by
 unfold armB at h
 split at h
 ·rw[Bool.and_eq_true,Bool.and_eq_true]at h
  refine .tp fun t ht=>?_
  simp only[List.mem_cons,List.not_mem_nil,or_false]at ht
  rcases ht with rfl|rfl
  ·refine .tp fun t ht=>?_
   rcases List.mem_cons.mp ht with rfl|ht
   ·exact on_great h.2.1
   ·exact on_name (List.all_eq_true.mp h.2.2 t ht)
  ·exact h2
 ·cases h
theorem tr_kidsF {n m:Nat}{r l:List T}(h:kidsF n r=some l)(ih:∀k∈l,Tr m k):∀t∈r,Tr (m+2) t:=by
 have up:∀k∈l,Tr (m+2) k:=fun k hk=>(ih k hk).mono (by omega)
 unfold kidsF at h
 split at h
 ·split at h
  ·cases h
   intro t ht
   simp only[List.mem_cons,List.not_mem_nil,or_false]at ht
   rcases ht with rfl|rfl
   ·exact on_name ‹_›
   ·exact up _ (by simp)
  ·cases h
 ·cases h
  exact up
 ·split at h
  ·cases h
   intro t ht
   simp only[List.mem_cons,List.not_mem_nil,or_false]at ht
   rcases ht with rfl|rfl|rfl
   ·exact on_name ‹_›
   ·exact up _ (by simp)
   ·exact up _ (by simp)
  ·cases h
 ·rename_i rows e
  split at h
  ·rename_i c
   cases h
   intro t ht
   simp only[List.mem_cons,List.not_mem_nil,or_false]at ht
   rcases ht with rfl|rfl
   ·cases t with
    |tup l=>
     have c':(lenIn 1 4 l&&l.all funcB)=true:=c
     rw[Bool.and_eq_true]at c'
     exact .tp fun x hx=>tr_func (List.all_eq_true.mp c'.2 x hx) (ih _ (List.mem_append_left _ (List.mem_map_of_mem hx)))
    |int i=>cases c
    |str z=>cases c
   ·exact up _ (by simp)
  ·cases h
 ·rename_i e arms
  split at h
  ·rename_i c
   cases h
   rw[Bool.and_eq_true]at c
   intro t ht
   rcases List.mem_cons.mp ht with rfl|ht
   ·exact up _ (by simp)
   ·exact tr_arm (List.all_eq_true.mp c.2 t ht) ((ih _ (List.mem_cons_of_mem _ (List.mem_map_of_mem ht))).mono (by omega))
  ·cases h
 ·split at h
  ·rename_i c
   cases h
   rw[Bool.and_eq_true]at c
   intro t ht
   rcases List.mem_cons.mp ht with rfl|ht
   ·exact on_name c.2
   ·exact up _ ht
  ·cases h
 ·cases h
  exact up
 ·cases h
theorem tr_phrase {n:Nat}{t:T}(h:GP n t):Tr (3*n) t:=by
 induction h with
 |@mk n t l h q ih=>
  cases t with
  |int i=>
   have h':(if numT (.int i)=true then some [] else none)=some l:=h
   split at h'
   ·rename_i c
    have c':(if i<0 then -i else i)<10^30:=of_decide_eq_true c
    refine .at (int_ok ?_ ?_)<;>(split at c'<;>omega)
   ·cases h'
  |str z=>
   have h':(if leafPB z=true then some [] else none)=some l:=h
   split at h'
   ·exact .at (leafP_ok ‹_›)
   ·cases h'
  |tup ts=>
   match ts,h with
   |.str z::r,h=>
    rw[kidsP_str]at h
    have e3:3*(n+1)=3*n+2+1:=by omega
    rw[e3]
    split at h
    ·split at h
     ·cases h
      refine .tp fun t ht=>?_
      rcases List.mem_cons.mp ht with rfl|ht
      ·exact .at (great_ok ‹_›)
      ·exact(ih t ht).mono (by omega)
     ·cases h
    ·split at h
     ·rename_i hf
      refine .tp fun t ht=>?_
      rcases List.mem_cons.mp ht with rfl|ht
      ·exact .at (forms_ok hf)
      ·exact tr_kidsF h ih t ht
     ·cases h
theorem wts_sz {n:Nat}{t:T}(h:Tr n t):t.sz≤wts (pcs t)∧wts (pcs t)≤34*t.sz:=by
 induction h with
 |@«at» n t A=>
  refine⟨?_,?_⟩
  ·have:=pcs_pos t
   cases t with
   |tup l=>exact absurd rfl (A.nt l)
   |int i=>simp only[T.sz];omega
   |str z=>simp only[T.sz];omega
  ·have:=wts_at A
   have:=sz_pos t
   omega
 |@tp n l _ ih=>
  have all:∀l':List T,(∀t∈l',t∈l)→szs l'≤wts (pcss l')∧wts (pcss l')≤34*szs l':=by
   intro l'
   induction l' with
   |nil=>intro _;simp[szs,pcss,wts]
   |cons t l' ih2=>
    intro hl
    have h1:=ih t (hl t (by simp))
    have h2:=ih2 fun x hx=>hl x (List.mem_cons_of_mem _ hx)
    rw[pcss,wts_app]
    simp only[szs]
    omega
  have:=all l fun _ h=>h
  rw[wts_tup]
  simp only[T.sz]
  omega
structure Gd (f:T→Bool)(n B:Nat)(t:T):Prop where
 b:f t=true
 tr:Tr n t
 sz:t.sz≤B
def spG (f:T→Bool)(n B:Nat):Sp:=fun vs H Q _=>∃(st:Addr),vs=[.ref st]∧StOk H st∧∀v t H',Gd f n B t→Rep H' v t→Grow st H H'→Q v H'
theorem gd_great {z:Str}(h:greatB z=true):Gd grB 0 1 (.str z):=⟨h, .at (great_ok h),Nat.le_refl _⟩
theorem gd_var {z:Str}(h:varB z=true):Gd vrB 0 1 (.str z):=⟨h, .at (var_ok h),Nat.le_refl _⟩
theorem gd_kind {n:Nat}{t:T}(h:Good kidsK t)(hz:t.sz≤BK n):Gd kindB (BK n) (BK n) t:=⟨fitB_good h,(tr_kind h).mono hz,hz⟩
theorem gd_phrase {n:Nat}{t:T}(h:GP (n+1) t)(hz:t.sz≤BP n):Gd phraseB (3*n+3) (BP n) t:=⟨fitB_good h.good,(tr_phrase h).mono (by omega),hz⟩
theorem gd_all {f:T→Bool}{n B:Nat}{ts:List T}(h:∀t∈ts,Gd f n B t):ts.all f=true:=List.all_eq_true.mpr fun t ht=>(h t ht).b
theorem gd_list {f:T→Bool}{lo hi n B m:Nat}{ts:List T}(h:∀t∈ts,Gd f n B t)(h1:lo≤ts.length)(h2:ts.length≤hi)(hm:1+hi*B≤m):Gd (isListT lo hi f) (n+1) m (.tup ts):=by
 refine⟨?_, .tp fun t ht=>(h t ht).tr,?_⟩
 ·show(lenIn lo hi ts&&ts.all f)=true
  rw[gd_all h]
  simp[lenIn]
  omega
 ·have s1:=szs_le fun t ht=>(h t ht).sz
  have s2:ts.length*B≤hi*B:=Nat.mul_le_mul_right _ h2
  simp only[T.sz]
  omega
theorem snoc_all {p:T→Prop}{l:List T}{a:T}(h:∀t∈l,p t)(ha:p a):∀t∈l++[a],p t:=fun t ht=>by
 rcases List.mem_append.mp ht with h1|h1
 ·exact h t h1
 ·rw[List.mem_singleton.mp h1];exact ha
theorem comp_G {lo:Int}{m:Nat}{te:TE}{σ':L2.St}{Q:VK}{H:Hp}{st:Addr}(p:T→Prop)(hst:StOk H st)(hm:m≤1000)
  (hs:∀(i:Nat) (H':Hp) (R:VK),i<m→StOk H' st→(∀v t H2,p t→Rep H2 v t→Grow st H' H2→R v H2)→te (some (.int (lo+i))::σ') H' R)
  (hq:∀l vs ts H',H' l=some (.lst vs)→Reps H' vs ts→ts.length=m→(∀t∈ts,p t)→Grow st H H'→Q (.ref l) H'):CompW (Itr lo m) tTrue te σ' Q H:=by
 refine comp_range (fun i vs H'=>Grow st H H'∧∃ts,Reps H' vs ts∧ts.length=i∧∀t∈ts,p t) ⟨Grow.refl hst,[], .nil,rfl,fun _ h=>by cases h⟩ ?_ ?_ ?_
 ·rintro i vs H' hi ⟨g,ts,hr1,hl,_⟩
  exact small' (by rw[hr1.length,hl];omega)
 ·rintro i vs H' hi ⟨g,ts,hr1,hl,hg⟩
  refine tt1 (iteT ?_)
  exact hs i H' _ hi g.ok fun v1 t1 H7 k1 r1 g7=>nx hi ⟨g.trans g7,ts++[t1],(hr1.grow g7 g.ok).append (.cons r1 .nil),by simp[hl],snoc_all hg k1⟩
 ·rintro vs H' ⟨g,ts,hr1,hl,hg⟩ l hl'
  exact hq l vs ts _ upd_same (hr1.same (same_new hl' _)) hl hg (g.trans (grow_new g.ok hl'))
theorem cat_two {K:PySem.W.Frag}{p a:Addr}{hv us:List V}{hts ts:List T}{H:Hp}{Q:VK}(hp:H p=some (.tup hv))(rp:Reps H hv hts)(hn:hv≠[])(ha:H a=some (.tup us))(ra:Reps H us ts)
  (hb:hv.length+ts.length≤1000) (q:∀p' H',Rep H' (.ref p') (.tup (hts++ts))→Same H H'→Q (.ref p') H'):rCatT K (.ref p) (.ref a) H Q:=by
 have lu:=ra.length
 refine⟨p,a,hv,us,rfl,rfl,SqT.of hp,SqT.of ha,hn,small (by omega),fun e=>?_,fun _ p' hp'=>?_⟩
 ·have e2:ts=[]:=by
   rw[e]at lu
   exact List.length_eq_zero_iff.mp (by simpa using lu.symm)
  subst e2
  refine q p H ?_ (Same.refl H)
  rw[List.append_nil]
  exact .tup hp rp
 ·exact q p' _ (.tup upd_same ((rp.append ra).same (same_new hp' _))) (same_new hp' _)
theorem app_G {st l:Addr}{H H3 H8:Hp}{vs:List V}{ts:List T}{v:V}{t:T}(hl:H l=none)(dl:l≠st)(g3:Grow st H H3)(hl3:H3 l=some (.lst vs))(r3:Reps H3 vs ts)(g8:Grow st H3 H8)(r8:Rep H8 v t):
  H8 l=some (.lst vs)∧Reps (upd H8 l (.lst (vs++[v]))) (vs++[v]) (ts++[t])∧Grow st H (upd H8 l (.lst (vs++[v]))):=by
 have hl8:H8 l=some (.lst vs):=g8.1 _ _ dl hl3
 have tupsU:∀b xs,H8 b=some (.tup xs)→(upd H8 l (.lst (vs++[v]))) b=some (.tup xs):=fun b xs h=>by
  rw[upd_ne (ne_of h hl8 (by intro z;cases z))];exact h
 refine⟨hl8,((r3.grow g8 g3.ok).append (.cons r8 .nil)).mono tupsU,fun b o h1 hb=>?_,?_⟩
 ·rw[upd_ne (ne_of_none hb hl)]
  exact(g3.trans g8).1 b o h1 hb
 ·obtain⟨ns,k1,k2,k3⟩:=g8.ok
  exact⟨ns,k1,k2,by rw[upd_ne (Ne.symm dl)];exact k3⟩
section
variable {P:Program}{w:World}{K:PySem.W.Frag}{mg:Str→Option Value}{base:Heap}{f:Addr}{fd:FuncData}
abbrev s_given:Stmt:=top 96
abbrev s_givers:Stmt:=top 97
abbrev s_some_variables:Stmt:=top 98
abbrev s_some_kinds:Stmt:=top 99
theorem sc_given:FnScope ["_law_state"] ["_law_state"] (defScope s_given):=⟨rfl,rfl,rfl,by decide+kernel,rfl,by decide+kernel,by decide+kernel⟩
theorem ok_given (F:Fun K "_law_given" "_law_given" s_given f fd)(mr:mg "range"=none)(mt:mg "tuple"=none)(h0:Has P w K mg base 1 "_law_next" ["_law_state","_law_many"] spNext)(h3:Has P w K mg base 3 "_law_great" ["_law_state"] (spStr fun z=>greatB z=true)):
  FnOk P w K mg base CX0 4 f fd ["_law_state"] (spG givenB 1 4):=by
 refine F.ok sc_given (len:=fun vs H Q E h=>(by obtain⟨st,rfl,_⟩:=h;rfl)) (fun cdv A outer s H vs Q E hr h=>?_)
 obtain⟨st,rfl,hs,q⟩:=h
 refine⟨_,pss_cons (ps_if (pt_cmpR op_eq (pcall h0 hr (by decide) rfl (pa_cons (pv 0) (pa_cons pe_int pa_nil))) pe_int (nomark _)) (pss_one (ps_ret (pcall h3 hr (by decide) rfl (pa_cons (pv 0) pa_nil)))) pss_nil)
  (pss_one (ps_ret (pe_callTy call_tuple_of rfl mt boot_tuple (pa_cons (pe_lc (defScope s_given) ["_law_state"] ["_law_state"] [0] (by decide+kernel) (pi_range1 rfl mr (pa_cons (pe_op op_add pe_int (pcall h0 hr (by decide) rfl (pa_cons (pv 0) (pa_cons pe_int pa_nil)))) pa_nil)) (fun C s₀ H₀ ex=>pts_nil)
   (fun C s₀ H₀ ex=>pcall h3 hr (by decide) rfl (pa_cons (pv 1) pa_nil))) pa_nil)))),?_⟩
 refine⟨_,rfl,st,2,rfl,hs,by decide,by decide,fun d H1 d0 d1 g1=>⟨rfl,_,rfl,?_⟩⟩
 refine ite2 (fun _=>?_) (fun _=>?_)
 ·refine⟨_,rfl,st,rfl,g1.ok,fun z H2 hz lz g2=>q _ (.str z) H2 ⟨?_, .at (great_ok hz),(by show 1≤4;decide)⟩ (.str z (by omega)) (g1.trans g2)⟩
  show(greatB z||_)=true
  rw[hz];rfl
 ·refine⟨_,rfl,st,2,rfl,g1.ok,by decide,by decide,fun e H2 e0 e1 g2=>⟨2,e,rfl,rfl,2+e,rfl,by omega,by omega,?_⟩⟩
  refine comp_G (Gd grB 0 1) g2.ok (by omega) (fun i H' R hi h' r=>⟨_,rfl,st,rfl,h',fun z H3 hz lz g3=>r _ _ _ (gd_great hz) (.str z (by omega)) g3⟩) (fun l vs ts H3 hl r3 l3 p3 g3=>?_)
  refine⟨l,vs,rfl, .inl ⟨SqL.of hl,fun p hp=>?_⟩⟩
  have gl:Gd (isListT 2 3 grB) 1 4 (.tup ts):=gd_list p3 (by omega) (by omega) (by decide)
  refine q _ (.tup ts) _ ⟨?_,gl.tr,gl.sz⟩ (.tup upd_same (r3.same (same_new hp _))) (((g1.trans g2).trans g3).trans (grow_new g3.ok hp))
  show(grB (.tup ts)||isListT 2 3 grB (.tup ts))=true
  rw[gl.b,Bool.or_true]
def spGivers (lo:Nat):Sp:=fun vs H Q _=>∃(st:Addr),vs=[.ref st, .int lo]∧lo≤1∧StOk H st∧∀v t H',Gd (isListT lo 2 giverB) 3 20 t→Rep H' v t→Grow st H H'→Q v H'
theorem sc_givers:FnScope ["_law_state","_law_least","_law_givers_here","_law_k"] ["_law_state","_law_least"] (defScope s_givers):=⟨rfl,rfl,rfl,by decide+kernel,rfl,by decide+kernel,by decide+kernel⟩
theorem ok_givers {lo:Nat}(F:Fun K "_law_givers" "_law_givers" s_givers f fd)(mr:mg "range"=none)(mt:mg "tuple"=none)(h0:Has P w K mg base 1 "_law_next" ["_law_state","_law_many"] spNext)(h3:Has P w K mg base 3 "_law_great" ["_law_state"] (spStr fun z=>greatB z=true))
  (h4:Has P w K mg base 4 "_law_given" ["_law_state"] (spG givenB 1 4)):FnOk P w K mg base CX0 5 f fd ["_law_state","_law_least"] (spGivers lo):=by
 refine F.ok sc_givers (len:=fun vs H Q E h=>(by obtain⟨st,rfl,_⟩:=h;rfl)) (fun cdv A outer s H vs Q E hr h=>?_)
 obtain⟨st,rfl,hlo,hs,q⟩:=h
 refine⟨_,pss_cons (ps_set (i:=2) sc_givers.nd rfl (Or.inl rfl) (pe_lst pa_nil))
  (pss_cons (ps_for PassesOwn.never rfl (pi_range1 rfl mr (pa_cons (pe_op op_add (pv 1) (pcall h0 hr (by decide) rfl (pa_cons (pv 0) (pa_cons (pe_op op_sub pe_int (pv 1)) pa_nil)))) pa_nil)) (pg_name (i:=3) sc_givers.nd rfl (Or.inl rfl))
   (pss_one (ps_expr (pe_bm PySem.F.plainAttrs_list PySem.F.slot_list_append PySem.F.type_list_append mt_append (pv 2) (pa_cons (pe_tup (pa_cons (pcall h3 hr (by decide) rfl (pa_cons (pv 0) pa_nil)) (pa_cons (pcall h4 hr (by decide) rfl (pa_cons (pv 0) pa_nil)) pa_nil))) pa_nil)))))
  (pss_one (ps_ret (pe_callTy call_tuple_of rfl mt boot_tuple (pa_cons (pv 2) pa_nil))))),?_⟩
 refine⟨Nat.zero_le _,fun l hl=>?_⟩
 have dl:l≠st:=fresh_st hs hl
 have g1:Grow st H (upd H l (.lst [])):=grow_new hs hl
 refine⟨_,rfl,_,rfl,_,rfl,_,_,rfl,rfl,st,(3:Int)-lo,rfl,g1.ok,by omega,by omega,fun e H2 e0 e1 g2=>?_⟩
 refine⟨lo,e,rfl,rfl,lo+e,rfl,by omega,by omega,for_range (n:=((lo:Int)+e).toNat) (fun i σ H'=>∃(o:Option V) (vs:List V) (ts:List T),σ=[some (.ref st),some (.int lo),some (.ref l),o]∧H' l=some (.lst vs)∧Reps H' vs ts∧ts.length=i∧(∀t∈ts,Gd giverB 2 6 t)∧Grow st H H')
  ⟨none,[],[],rfl,g2.1 _ _ dl upd_same, .nil,rfl,(fun _ h=>by cases h),g1.trans g2⟩ ?_ ?_⟩
 ·rintro i σ H3 hi ⟨o,vs,ts,rfl,hl3,r3,l3,rows3,g3⟩
  refine⟨_,rfl, .inl ⟨rfl,_,SqL.of hl3⟩,?_⟩
  refine⟨_,rfl,st,rfl,g3.ok,fun z1 H4 hz1 lz1 g4=>⟨_,rfl,st,rfl,g4.ok,fun v2 t2 H5 k2 r2 g5=>⟨small (by show 2≤1000000;decide),fun p hp=>?_⟩⟩⟩
  have g6:Grow st H5 (upd H5 p (.tup [.str z1,v2])):=grow_new g5.ok hp
  obtain⟨a1,a2,a3⟩:=app_G (t:=.tup [.str z1,t2]) hl dl g3 hl3 r3 ((g4.trans g5).trans g6) (.tup upd_same (.cons (.str z1 (by omega)) (.cons (r2.same (same_new hp _)) .nil)))
  have lv:=r3.length
  refine⟨l,vs, .ref p,rfl,rfl,a1,small' (by omega),?_⟩
  refine⟨_,_,ts++[.tup [.str z1,t2]],rfl,upd_same,a2,by simp[l3],snoc_all rows3 ⟨?_, .tp ?_,?_⟩,a3⟩
  ·show(lenIn 2 2 [T.str z1,t2]&&(greatB z1&&givenB t2))=true
   rw[hz1,k2.b];rfl
  ·intro t ht
   simp only[List.mem_cons,List.not_mem_nil,or_false]at ht
   rcases ht with rfl|rfl
   ·exact .at (great_ok hz1)
   ·exact k2.tr
  ·have:=k2.sz
   simp only[T.sz,szs]
   omega
 ·rintro σ H3 ⟨o,vs,ts,rfl,hl3,r3,l3,rows3,g3⟩
  refine⟨_,rfl,l,vs,rfl, .inl ⟨SqL.of hl3,fun p hp=>?_⟩⟩
  exact q _ (.tup ts) _ (gd_list rows3 (by omega) (by omega) (by decide)) (.tup upd_same (r3.same (same_new hp _))) (g3.trans (grow_new g3.ok hp))
def spVars (m:Nat):Sp:=fun vs H Q _=>∃(st:Addr),vs=[.ref st, .int m]∧StOk H st∧∀v t H',Gd (isListT 0 m vrB) 1 (1+m) t→Rep H' v t→Grow st H H'→Q v H'
theorem sc_some_variables:FnScope ["_law_state","_law_most"] ["_law_state","_law_most"] (defScope s_some_variables):=⟨rfl,rfl,rfl,by decide+kernel,rfl,by decide+kernel,by decide+kernel⟩
theorem ok_some_variables {m:Nat}(hm:m≤3)(F:Fun K "_law_some_variables" "_law_some_variables" s_some_variables f fd)(mr:mg "range"=none)(mt:mg "tuple"=none)(h0:Has P w K mg base 1 "_law_next" ["_law_state","_law_many"] spNext)(h3:Has P w K mg base 3 "_law_variable" ["_law_state"] (spStr fun z=>varB z=true)):
  FnOk P w K mg base CX0 4 f fd ["_law_state","_law_most"] (spVars m):=by
 refine F.ok sc_some_variables (len:=fun vs H Q E h=>(by obtain⟨st,rfl,_⟩:=h;rfl)) (fun cdv A outer s H vs Q E hr h=>?_)
 obtain⟨st,rfl,hs,q⟩:=h
 refine⟨_,pss_one (ps_ret (pe_callTy call_tuple_of rfl mt boot_tuple (pa_cons (pe_lc (defScope s_some_variables) ["_law_state","_law_most"] ["_law_state"] [0] (by decide+kernel) (pi_range1 rfl mr (pa_cons (pcall h0 hr (by decide) rfl (pa_cons (pv 0) (pa_cons (pe_op op_add (pv 1) pe_int) pa_nil))) pa_nil)) (fun C s₀ H₀ ex=>pts_nil)
   (fun C s₀ H₀ ex=>pcall h3 hr (by decide) rfl (pa_cons (pv 1) pa_nil))) pa_nil))),?_⟩
 refine⟨_,rfl,_,rfl,_,_,rfl,rfl,st,(m:Int)+1,rfl,hs,by omega,by omega,fun e H2 e0 e1 g2=>⟨e,rfl,by omega,by omega,?_⟩⟩
 refine comp_G (Gd vrB 0 1) g2.ok (by omega) (fun i H' R hi h' r=>⟨_,rfl,st,rfl,h',fun z H3 hz lz g3=>r _ _ _ (gd_var hz) (.str z (by omega)) g3⟩) (fun l vs ts H3 hl r3 l3 p3 g3=>?_)
 refine⟨l,vs,rfl, .inl ⟨SqL.of hl,fun p hp=>?_⟩⟩
 exact q _ (.tup ts) _ (gd_list p3 (by omega) (by omega) (by omega)) (.tup upd_same (r3.same (same_new hp _))) ((g2.trans g3).trans (grow_new g3.ok hp))
def spKinds:Sp:=fun vs H Q _=>∃(st:Addr) (m:Nat),vs=[.ref st, .int m]∧m≤4∧StOk H st∧∀a us ts H',H' a=some (.tup us)→Reps H' us ts→ts.length=m→(∀t∈ts,Gd kindB 17 17 t)→Grow st H H'→Q (.ref a) H'
theorem sc_some_kinds:FnScope ["_law_state","_law_many"] ["_law_state","_law_many"] (defScope s_some_kinds):=⟨rfl,rfl,rfl,by decide+kernel,rfl,by decide+kernel,by decide+kernel⟩
theorem ok_some_kinds (F:Fun K "_law_some_kinds" "_law_some_kinds" s_some_kinds f fd)(mr:mg "range"=none)(mt:mg "tuple"=none)(h3:Has P w K mg base 8 "_law_kind" ["_law_state","_law_deep"] (spKindN 3)):
  FnOk P w K mg base CX0 9 f fd ["_law_state","_law_many"] spKinds:=by
 refine F.ok sc_some_kinds (len:=fun vs H Q E h=>(by obtain⟨st,m,rfl,_⟩:=h;rfl)) (fun cdv A outer s H vs Q E hr h=>?_)
 obtain⟨st,m,rfl,hm,hs,q⟩:=h
 refine⟨_,pss_one (ps_ret (pe_callTy call_tuple_of rfl mt boot_tuple (pa_cons (pe_lc (defScope s_some_kinds) ["_law_state","_law_many"] ["_law_state"] [0] (by decide+kernel) (pi_range1 rfl mr (pa_cons (pv 1) pa_nil)) (fun C s₀ H₀ ex=>pts_nil)
   (fun C s₀ H₀ ex=>pcall h3 hr (by decide) rfl (pa_cons (pv 1) (pa_cons pe_int pa_nil)))) pa_nil))),?_⟩
 refine⟨_,rfl,m,rfl,by omega,by omega,?_⟩
 refine comp_G (Gd kindB 17 17) hs (by omega) (fun i H' R hi h' r=>⟨_,rfl,st,rfl,h',fun v t H3 hg rt hz g3=>r _ _ _ (gd_kind (n:=2) hg hz) rt g3⟩) (fun l vs ts H3 hl r3 l3 p3 g3=>?_)
 refine⟨l,vs,rfl, .inl ⟨SqL.of hl,fun p hp=>?_⟩⟩
 exact q _ vs ts _ upd_same (r3.same (same_new hp _)) (by simpa using l3) p3 (g3.trans (grow_new g3.ok hp))
end
theorem ix_two {K:PySem.W.Frag}{x y:Int}{p:Addr}{H:Hp}{Q:VK}{b:Bool}(hp:H p=some (.lst [.int x, .int y]))(hq:∀n,n=x∨n=y→Q (.int n) H):rIxL K (.ref p) (.int (if b then 1 else 0)) H Q:=by
 cases b
 ·exact⟨p,_,0, .int x,rfl,rfl,SqL.of hp,atI_nat (j:=0) rfl,hq x (.inl rfl)⟩
 ·exact⟨p,_,1, .int y,rfl,rfl,SqL.of hp,atI_nat (j:=1) rfl,hq y (.inr rfl)⟩
theorem app_G2 {st lf l:Addr}{H H3 H8:Hp}{vs:List V}{ts:List T}{v:V}{t:T}(hl:H l=none)(dl:l≠st∧l≠lf)(g3:Grow2 st lf H H3)(hl3:H3 l=some (.lst vs))(r3:Reps H3 vs ts)(g8:Grow2 st lf H3 H8)(r8:Rep H8 v t):
  H8 l=some (.lst vs)∧Reps (upd H8 l (.lst (vs++[v]))) (vs++[v]) (ts++[t])∧Grow2 st lf H (upd H8 l (.lst (vs++[v]))):=by
 have hl8:H8 l=some (.lst vs):=g8.1 _ _ dl.1 dl.2 hl3
 have tupsU:∀b xs,H8 b=some (.tup xs)→(upd H8 l (.lst (vs++[v]))) b=some (.tup xs):=fun b xs h=>by
  rw[upd_ne (ne_of h hl8 (by intro z;cases z))];exact h
 refine⟨hl8,((r3.grow2 g8 g3.2).append (.cons r8 .nil)).mono tupsU,fun b o h1 h2 hb=>?_,g8.2.ne,?_,?_⟩
 ·rw[upd_ne (ne_of_none hb hl)]
  exact(g3.trans g8).1 b o h1 h2 hb
 ·obtain⟨ns,k1,k2,k3⟩:=g8.2.st
  exact⟨ns,k1,k2,by rw[upd_ne (Ne.symm dl.1)];exact k3⟩
 ·obtain⟨j,k1⟩:=g8.2.lf
  exact⟨j,by rw[upd_ne (Ne.symm dl.2)];exact k1⟩
theorem tr2 {n:Nat}{a b:T}(ha:Tr n a)(hb:Tr n b):Tr (n+1) (.tup [a,b]):=.tp fun t ht=>by
 simp only[List.mem_cons,List.not_mem_nil,or_false]at ht
 rcases ht with rfl|rfl<;>assumption
theorem tr3 {n:Nat}{a b c:T}(ha:Tr n a)(hb:Tr n b)(hc:Tr n c):Tr (n+1) (.tup [a,b,c]):=.tp fun t ht=>by
 simp only[List.mem_cons,List.not_mem_nil,or_false]at ht
 rcases ht with rfl|rfl|rfl<;>assumption
theorem tr4 {n:Nat}{a b c d:T}(ha:Tr n a)(hb:Tr n b)(hc:Tr n c)(hd:Tr n d):Tr (n+1) (.tup [a,b,c,d]):=.tp fun t ht=>by
 simp only[List.mem_cons,List.not_mem_nil,or_false]at ht
 rcases ht with rfl|rfl|rfl|rfl<;>assumption
theorem tr_app {n:Nat}{a b:List T}(ha:Tr (n+1) (.tup a))(hb:∀t∈b,Tr n t):Tr (n+1) (.tup (a++b)):=.tp fun t ht=>by
 cases ha with
 |«at» A=>exact absurd rfl (A.nt _)
 |tp h=>
  rcases List.mem_append.mp ht with h1|h1
  ·exact h t h1
  ·exact hb t h1
theorem kept_at {z:Str}(h:z∈keptL){n:Nat}:Tr n (.str z):=.at (kept_ok h)
theorem decl_of {z:Str}{n:Nat}{r:List T}(h:declsL.lookup z=some n)(h2:formDB n (.tup (.str z::r))=true):declB (.tup (.str z::r))=true:=by
 show(match declsL.lookup z with|some n=>formDB n (.tup (.str z::r))|none=>false)=true
 rw[h]
 exact h2
theorem tag_gd {z:Str}{ks:List T}(hz:greatB z=true)(hk:∀t∈ks,Gd kindB 17 17 t)(hl:ks.length≤4):Gd tagB 18 70 (.tup ([.str z]++ks)):=by
 refine⟨?_,tr_app (.tp fun t ht=>?_) fun t ht=>(hk t ht).tr,?_⟩
 ·show(lenIn 1 5 (T.str z::ks)&&(greatB z&&ks.all kindB))=true
  rw[hz,gd_all hk]
  simp[lenIn]
  omega
 ·rw[List.mem_singleton.mp ht]
  exact .at (great_ok hz)
 ·have s1:=szs_le fun t ht=>(hk t ht).sz
  have s2:ks.length*17≤4*17:=Nat.mul_le_mul_right _ hl
  simp only[T.sz,szs,List.cons_append,List.nil_append]
  omega
theorem field_gd {z:Str}{t:T}(hz:nameB z=true)(hk:Gd kindB 17 17 t):Gd fieldB 18 19 (.tup [.str z,t]):=by
 refine⟨?_,tr2 (.at (name_ok hz)) hk.tr,?_⟩
 ·show(lenIn 2 2 [T.str z,t]&&(nameB z&&kindB t))=true
  rw[hz,hk.b];rfl
 ·have:=hk.sz
  simp only[T.sz,szs]
  omega
theorem lk_kind:declsL.lookup ("kind":Str)=some 0:=by decide+kernel
theorem lk_record:declsL.lookup ("record":Str)=some 1:=by decide+kernel
theorem lk_face:declsL.lookup ("face":Str)=some 2:=by decide+kernel
theorem lk_part:declsL.lookup ("part":Str)=some 3:=by decide+kernel
theorem lk_maker:declsL.lookup ("maker":Str)=some 4:=by decide+kernel
theorem lk_apply:declsL.lookup ("apply":Str)=some 5:=by decide+kernel
theorem sort_gd {w z:Str}{d most B:Nat}{rowB:T→Bool}{vt:T}{rows:List T}(hw:declsL.lookup w=some d)(hf:formDB d=sortB most rowB)(hk:w∈keptL)(hz:nameB z=true)(hv:Gd (isListT 0 3 vrB) 1 4 vt)(hr:∀t∈rows,Gd rowB 18 B t)(h1:1≤rows.length)(h2:rows.length≤most)(hB:7+most*B≤90500):
  Gd declB 20 90500 (.tup ([.str w, .str z,vt]++rows)):=by
 refine⟨decl_of hw ?_,?_,?_⟩
 ·rw[hf]
  show(!(decide (((rows.length+1+1+1:Nat):Int)<3)|| !(nameB z))&&(isListT 0 3 vrB vt&&(lenIn 1 most rows&&rows.all rowB)))=true
  rw[hz,hv.b,gd_all hr,decide_eq_false (by omega)]
  simp[lenIn]
  omega
 ·exact(tr_app (tr3 (kept_at hk) (.at (name_ok hz)) (hv.tr.mono (by omega))) fun t ht=>(hr t ht).tr).mono (by omega:18+1≤20)
 ·have s1:=szs_le fun t ht=>(hr t ht).sz
  have s2:rows.length*B≤most*B:=Nat.mul_le_mul_right _ h2
  have:=hv.sz
  simp only[T.sz,szs,List.cons_append,List.nil_append]
  omega
section
variable {P:Program}{w:World}{K:PySem.W.Frag}{mg:Str→Option Value}{base:Heap}{f:Addr}{fd:FuncData}
abbrev s_sort:Stmt:=top 100
abbrev s_face:Stmt:=top 101
abbrev s_body:Stmt:=top 102
abbrev s_declared:Stmt:=top 103
abbrev nS:List Str:=["_law_state","_law_rows","_law_k","_law_fields"]
theorem sc_sort:FnScope nS ["_law_state"] (defScope s_sort):=⟨rfl,rfl,rfl,by decide+kernel,rfl,by decide+kernel,by decide+kernel⟩
set_option maxHeartbeats 1000000 in
theorem ok_sort (F:Fun K "_law_sort" "_law_sort" s_sort f fd)(mr:mg "range"=none)(mt:mg "tuple"=none)(mi:mg "int"=none)(h0:Has P w K mg base 1 "_law_next" ["_law_state","_law_many"] spNext)(h2:Has P w K mg base 3 "_law_small" ["_law_state"] (spStr fun z=>nameB z=true))(h3:Has P w K mg base 3 "_law_great" ["_law_state"] (spStr fun z=>greatB z=true))
  (h4:Has P w K mg base 4 "_law_some_variables" ["_law_state","_law_most"] (spVars 3)) (h5:Has P w K mg base 9 "_law_some_kinds" ["_law_state","_law_many"] spKinds) (h6:Has P w K mg base 8 "_law_kind" ["_law_state","_law_deep"] (spKindN 3)):
  FnOk P w K mg base CX0 10 f fd ["_law_state"] (spG declB 20 90500):=by
 refine F.ok sc_sort (len:=fun vs H Q E h=>(by obtain⟨st,rfl,_⟩:=h;rfl)) (fun cdv A outer s H vs Q E hr h=>?_)
 obtain⟨st,rfl,hs,q⟩:=h
 refine⟨_,pss_cons (ps_if (pt_cmpR op_eq (pcall h0 hr (by decide) rfl (pa_cons (pv 0) (pa_cons pe_int pa_nil))) pe_int (nomark _))
   (pss_cons (ps_set (i:=1) sc_sort.nd rfl (Or.inl rfl) (pe_lst pa_nil))
   (pss_cons (ps_for PassesOwn.never rfl (pi_range1 rfl mr (pa_cons (pe_op op_add pe_int (pcall h0 hr (by decide) rfl (pa_cons (pv 0) (pa_cons pe_int pa_nil)))) pa_nil)) (pg_name (i:=2) sc_sort.nd rfl (Or.inl rfl))
    (pss_one (ps_expr (pe_bm PySem.F.plainAttrs_list PySem.F.slot_list_append PySem.F.type_list_append mt_append (pv 1) (pa_cons (pe_op op_catT (pe_tup (pa_cons (pcall h3 hr (by decide) rfl (pa_cons (pv 0) pa_nil)) pa_nil))
     (pcall h5 hr (by decide) rfl (pa_cons (pv 0) (pa_cons (pcall h0 hr (by decide) rfl (pa_cons (pv 0) (pa_cons (pe_ix ix_list (pe_lst (pa_cons pe_int (pa_cons pe_int pa_nil))) (pe_callTy call_int1 rfl mi boot_int' (pa_cons (pe_cmpR op_eq (pv 2) pe_int (nomark _)) pa_nil)) (fun _ _=>rfl)) pa_nil))) pa_nil)))) pa_nil)))))
   (pss_one (ps_ret (pe_op op_catT (pe_tup (pa_cons pe_str (pa_cons (pcall h2 hr (by decide) rfl (pa_cons (pv 0) pa_nil)) (pa_cons (pcall h4 hr (by decide) rfl (pa_cons (pv 0) (pa_cons pe_int pa_nil))) pa_nil)))) (pe_callTy call_tuple_of rfl mt boot_tuple (pa_cons (pv 1) pa_nil))))))) pss_nil)
  (pss_cons (ps_lc (defScope s_sort) nS ["_law_state"] [0] (by decide+kernel) (pi_range1 rfl mr (pa_cons (pe_op op_add pe_int (pcall h0 hr (by decide) rfl (pa_cons (pv 0) (pa_cons pe_int pa_nil)))) pa_nil)) (pg_name (i:=3) sc_sort.nd rfl (Or.inl rfl)) (fun C s₀ H₀ ex=>pts_nil)
    (fun C s₀ H₀ ex=>pe_tup (pa_cons (pcall h2 hr (by decide) rfl (pa_cons (pv 1) pa_nil)) (pa_cons (pcall h6 hr (by decide) rfl (pa_cons (pv 1) (pa_cons pe_int pa_nil))) pa_nil))) rfl)
  (pss_one (ps_ret (pe_op op_catT (pe_tup (pa_cons pe_str (pa_cons (pcall h2 hr (by decide) rfl (pa_cons (pv 0) pa_nil)) (pa_cons (pcall h4 hr (by decide) rfl (pa_cons (pv 0) (pa_cons pe_int pa_nil))) pa_nil)))) (pe_callTy call_tuple_of rfl mt boot_tuple (pa_cons (pv 3) pa_nil)))))),?_⟩
 refine⟨_,rfl,st,2,rfl,hs,by decide,by decide,fun d H1 d0 d1 g1=>⟨rfl,_,rfl,?_⟩⟩
 refine ite2 (fun _=>?_) (fun _=>?_)
 ·refine⟨Nat.zero_le _,fun l hl=>?_⟩
  have dl:l≠st:=fresh_st g1.ok hl
  have g2:Grow st H1 (upd H1 l (.lst [])):=grow_new g1.ok hl
  refine⟨_,rfl,st,6,rfl,g2.ok,by omega,by omega,fun e H2 e0 e1 g3=>?_⟩
  refine⟨1,e,rfl,rfl,1+e,rfl,by omega,by omega,for_range (n:=(1+e).toNat) (fun i σ H'=>∃(o u:Option V) (vs:List V) (ts:List T),σ=[some (.ref st),some (.ref l),o,u]∧H' l=some (.lst vs)∧Reps H' vs ts∧ts.length=i∧(∀t∈ts,Gd tagB 18 70 t)∧Grow st H1 H')
   ⟨none,none,[],[],rfl,g3.1 _ _ dl upd_same, .nil,rfl,(fun _ h=>by cases h),g2.trans g3⟩ ?_ ?_⟩
  ·rintro i σ H3 hi ⟨o,u,vs,ts,rfl,hl3,r3,l3,rows3,g3⟩
   refine⟨_,rfl, .inl ⟨rfl,_,SqL.of hl3⟩,?_⟩
   refine⟨_,rfl,st,rfl,g3.ok,fun z1 H4 hz1 lz1 g4=>⟨small (by show 1≤1000000;decide),fun p hp=>?_⟩⟩
   have g5:Grow st H4 (upd H4 p (.tup [.str z1])):=grow_new g4.ok hp
   refine⟨_,rfl,_,rfl,small (by show 2≤1000000;decide),fun p2 hp2=>⟨_,rfl,rfl, .inr ⟨_,rfl,?_⟩⟩⟩
   have g6:=grow_new (o:=.lst [.int 2, .int 5]) g5.ok hp2
   refine ix_two upd_same fun n hn=>?_
   refine⟨st,n,rfl,g6.ok,by omega,by omega,fun k H5 k0 k1 g7=>?_⟩
   obtain⟨m,rfl⟩:∃m:Nat,k=m:=⟨k.toNat,by omega⟩
   refine⟨st,m,rfl,by omega,g7.ok,fun a us ks H6 ha ra la ka g8=>?_⟩
   have g68:=(g6.trans g7).trans g8
   have hp6:H6 p=some (.tup [.str z1]):=g68.tups g5.ok _ _ upd_same
   refine cat_two (hts:=[.str z1]) hp6 (.cons (.str z1 (by omega)) .nil) (by simp) ha ra (by simp;omega) fun p' H7 r7 e7=>?_
   obtain⟨a1,a2,a3⟩:=app_G hl dl g3 hl3 r3 (((g4.trans g5).trans g68).trans (grow_same g68.ok e7)) r7
   have lv:=r3.length
   refine⟨l,vs, .ref p',rfl,rfl,a1,small' (by omega),?_⟩
   exact⟨_,_,_,ts++[.tup ([.str z1]++ks)],rfl,upd_same,a2,by simp[l3],snoc_all rows3 (tag_gd hz1 ka (by omega)),a3⟩
  ·rintro σ H3 ⟨o,u,vs,ts,rfl,hl3,r3,l3,rows3,g3⟩
   refine⟨_,rfl,st,rfl,g3.ok,fun z H4 hz lz g4=>⟨_,rfl,st,rfl,g4.ok,fun vv vt H5 kv rv g5=>⟨small (by show 3≤1000000;decide),fun p hp=>?_⟩⟩⟩
   have g6:Grow st H5 (upd H5 p (.tup [.str "kind", .str z,vv])):=grow_new g5.ok hp
   have g46:=(g4.trans g5).trans g6
   refine⟨_,rfl,l,vs,rfl, .inl ⟨SqL.of (g46.1 _ _ dl hl3),fun p2 hp2=>?_⟩⟩
   have e7:=same_new hp2 (.tup vs)
   refine cat_two (hts:=[.str "kind", .str z,vt]) (e7 _ _ upd_same) (.cons (.str _ (by decide+kernel)) (.cons (.str z (by omega)) (.cons (rv.same ((same_new hp _).trans e7)) .nil))) (by simp) upd_same ((r3.grow g46 g3.ok).same e7) (by simp;omega) fun p' H7 r7 e8=>?_
   refine q _ _ _ (sort_gd (B:=70) (most:=6) (rowB:=tagB) lk_kind rfl (by decide+kernel) hz kv rows3 (by omega) (by omega) (by decide)) r7 ((g1.trans g3).trans (g46.trans (grow_same g46.ok (e7.trans e8))))
 ·refine⟨_,rfl,st,4,rfl,g1.ok,by omega,by omega,fun e H2 e0 e1 g2=>⟨1,e,rfl,rfl,1+e,rfl,by omega,by omega,?_⟩⟩
  refine comp_G (Gd fieldB 18 19) g2.ok (by omega) (fun i H' R hi h' r=>⟨_,rfl,st,rfl,h',fun z H3 hz lz g3=>⟨_,rfl,st,rfl,g3.ok,fun v t H4 hg rt hz4 g4=>⟨small (by show 2≤1000000;decide),fun p hp=>r _ _ _ (field_gd hz (gd_kind (n:=2) hg hz4)) (.tup upd_same (.cons (.str z (by omega)) (.cons (rt.same (same_new hp _)) .nil))) ((g3.trans g4).trans (grow_new g4.ok hp))⟩⟩⟩) (fun l vs ts H3 hl r3 l3 p3 g3=>?_)
  have dl:l≠st:=fun e=>by
   subst e
   obtain⟨ns,h1,_,h2⟩:=g3.ok
   rw[hl]at h2
   have h3:=HO.lst.inj (Option.some.inj h2)
   rw[h3]at r3
   cases ns with
   |nil=>exact h1 rfl
   |cons a b=>
    cases r3 with
    |cons x y=>
     rename_i t ts
     have:=(p3 t (by simp)).b
     cases x
     cases this
  refine⟨_,rfl,st,rfl,g3.ok,fun z H4 hz lz g4=>⟨_,rfl,st,rfl,g4.ok,fun vv vt H5 kv rv g5=>⟨small (by show 3≤1000000;decide),fun p hp=>?_⟩⟩⟩
  have g6:Grow st H5 (upd H5 p (.tup [.str "record", .str z,vv])):=grow_new g5.ok hp
  have g46:=(g4.trans g5).trans g6
  refine⟨_,rfl,l,vs,rfl, .inl ⟨SqL.of (g46.1 _ _ dl hl),fun p2 hp2=>?_⟩⟩
  have e7:=same_new hp2 (.tup vs)
  refine cat_two (hts:=[.str "record", .str z,vt]) (e7 _ _ upd_same) (.cons (.str _ (by decide+kernel)) (.cons (.str z (by omega)) (.cons (rv.same ((same_new hp _).trans e7)) .nil))) (by simp) upd_same ((r3.grow g46 g3.ok).same e7) (by simp;omega) fun p' H7 r7 e8=>?_
  refine q _ _ _ (sort_gd (B:=19) (most:=4) (rowB:=fieldB) lk_record rfl (by decide+kernel) hz kv p3 (by omega) (by omega) (by decide)) r7 (((g1.trans g2).trans g3).trans (g46.trans (grow_same g46.ok (e7.trans e8))))
end
theorem hide_item {z:Str}{k:Int}(hz:nameB z=true)(k0:0≤k)(k3:k<3):Gd itemB 18 20 (.tup [.str "hide", .str z, .int k]):=by
 refine⟨?_,tr3 (kept_at (by decide+kernel)) (.at (name_ok hz)) (.at (int_ok (by omega) (by omega))),(by show 4≤20;decide)⟩
 have e:isW "hide" (.str "hide")=true:=by decide+kernel
 show(!(!(lenIn 3 3 [T.str "hide", .str z, .int k])|| !(nameB z))&&(if isW "hide" (.str "hide")=true then(numT (.int k)&&(decide (0≤k)&&decide (k≤2))) else _))=true
 rw[hz,if_pos e]
 have e1:numT (.int k)=true:=by
  show decide ((if k<0 then -k else k)<10^30)=true
  rw[if_neg (by omega)]
  exact decide_eq_true (by omega)
 rw[e1,decide_eq_true k0,decide_eq_true (by omega:k≤2)]
 rfl
theorem val_item {z:Str}{t:T}(hz:nameB z=true)(hk:Gd kindB 17 17 t):Gd itemB 18 20 (.tup [.str "val", .str z,t]):=by
 refine⟨?_,tr3 (kept_at (by decide+kernel)) (.at (name_ok hz)) hk.tr,(by have:=hk.sz;simp only[T.sz,szs];omega)⟩
 have e:isW "hide" (.str "val")=false:=by decide+kernel
 have e2:isW "val" (.str "val")=true:=by decide+kernel
 show(!(!(lenIn 3 3 [T.str "val", .str z,t])|| !(nameB z))&&(if isW "hide" (.str "val")=true then _ else(isW "val" (.str "val")&&kindB t)))=true
 rw[hz,if_neg (by rw[e];exact Bool.false_ne_true),e2,hk.b]
 rfl
theorem hide_body {z:Str}{vt t:T}(hz:nameB z=true)(hv:Gd (isListT 0 2 vrB) 1 3 vt)(hk:Gd kindB 17 17 t):Gd bodyItemB 18 3766 (.tup [.str "hide", .str z,vt,t]):=by
 refine⟨?_,tr4 (kept_at (by decide+kernel)) (.at (name_ok hz)) (hv.tr.mono (by omega)) hk.tr,(by have:=hk.sz;have:=hv.sz;simp only[T.sz,szs];omega)⟩
 have e:isW "hide" (.str "hide")=true:=by decide+kernel
 show(!(!(lenIn 3 4 [T.str "hide", .str z,vt,t])|| !(nameB z))&&(if isW "hide" (.str "hide")=true then(decide (((4:Nat):Int)=4)&&(isListT 0 2 vrB vt&&kindB t)) else _))=true
 rw[hz,if_pos e,hv.b,hk.b]
 rfl
theorem val_body {z:Str}{t:T}(hz:nameB z=true)(hk:Gd phraseB 12 3763 t):Gd bodyItemB 18 3766 (.tup [.str "val", .str z,t]):=by
 refine⟨?_,tr3 (kept_at (by decide+kernel)) (.at (name_ok hz)) (hk.tr.mono (by omega)),(by have:=hk.sz;simp only[T.sz,szs];omega)⟩
 have e:isW "hide" (.str "val")=false:=by decide+kernel
 have e2:isW "val" (.str "val")=true:=by decide+kernel
 show(!(!(lenIn 3 4 [T.str "val", .str z,t])|| !(nameB z))&&(if isW "hide" (.str "val")=true then _ else(isW "val" (.str "val")&&(decide (((3:Nat):Int)=3)&&phraseB t))))=true
 rw[hz,if_neg (by rw[e];exact Bool.false_ne_true),e2,hk.b]
 rfl
theorem face_gd {z:Str}{gv:T}{rows:List T}(hz:greatB z=true)(hv:Gd (isListT 0 2 giverB) 3 20 gv)(hr:∀t∈rows,Gd itemB 18 20 t)(h2:rows.length≤24):Gd declB 20 90500 (.tup ([.str "face", .str z,gv]++rows)):=by
 refine⟨decl_of lk_face ?_,?_,?_⟩
 ·show(!(decide (((rows.length+1+1+1:Nat):Int)<3)|| !(greatB z))&&(isListT 0 2 giverB gv&&(lenIn 0 24 rows&&rows.all itemB)))=true
  rw[hz,hv.b,gd_all hr,decide_eq_false (by omega)]
  simp[lenIn]
  omega
 ·exact(tr_app (tr3 (kept_at (by decide+kernel)) (.at (great_ok hz)) (hv.tr.mono (by omega))) fun t ht=>(hr t ht).tr).mono (by omega:18+1≤20)
 ·have s1:=szs_le fun t ht=>(hr t ht).sz
  have s2:rows.length*20≤24*20:=Nat.mul_le_mul_right _ h2
  have:=hv.sz
  simp only[T.sz,szs,List.cons_append,List.nil_append]
  omega
theorem part_gd {z:Str}{gv:T}{rows:List T}(hz:greatB z=true)(hv:Gd givenB 1 4 gv)(hr:∀t∈rows,Gd bodyItemB 18 3766 t)(h2:rows.length≤24):Gd declB 20 90500 (.tup ([.str "part", .str z,gv]++rows)):=by
 refine⟨decl_of lk_part ?_,?_,?_⟩
 ·show(decide (3≤((rows.length+1+1+1:Nat):Int))&&(greatB z&&(givenB gv&&(lenIn 0 24 rows&&rows.all bodyItemB))))=true
  rw[hz,hv.b,gd_all hr,decide_eq_true (by omega)]
  simp[lenIn]
  omega
 ·exact(tr_app (tr3 (kept_at (by decide+kernel)) (.at (great_ok hz)) (hv.tr.mono (by omega))) fun t ht=>(hr t ht).tr).mono (by omega:18+1≤20)
 ·have s1:=szs_le fun t ht=>(hr t ht).sz
  have s2:rows.length*3766≤24*3766:=Nat.mul_le_mul_right _ h2
  have:=hv.sz
  simp only[T.sz,szs,List.cons_append,List.nil_append]
  omega
theorem maker_gd {z:Str}{gs gv:T}{rows:List T}(hz:greatB z=true)(hg:Gd (isListT 1 2 giverB) 3 20 gs)(hv:Gd givenB 1 4 gv)(hr:∀t∈rows,Gd bodyItemB 18 3766 t)(h2:rows.length≤24):Gd declB 20 90500 (.tup ([.str "maker", .str z,gs,gv]++rows)):=by
 refine⟨decl_of lk_maker ?_,?_,?_⟩
 ·show(!(decide (((rows.length+1+1+1+1:Nat):Int)<4)|| !(greatB z))&&(isListT 1 2 giverB gs&&(givenB gv&&(lenIn 0 24 rows&&rows.all bodyItemB))))=true
  rw[hz,hg.b,hv.b,gd_all hr,decide_eq_false (by omega)]
  simp[lenIn]
  omega
 ·exact(tr_app (tr4 (kept_at (by decide+kernel)) (.at (great_ok hz)) (hg.tr.mono (by omega)) (hv.tr.mono (by omega))) fun t ht=>(hr t ht).tr).mono (by omega:18+1≤20)
 ·have s1:=szs_le fun t ht=>(hr t ht).sz
  have s2:rows.length*3766≤24*3766:=Nat.mul_le_mul_right _ h2
  have:=hv.sz
  have:=hg.sz
  simp only[T.sz,szs,List.cons_append,List.nil_append]
  omega
theorem apply_gd {rows:List T}(hr:∀t∈rows,Gd grB 0 1 t)(h1:3≤rows.length)(h2:rows.length≤4):Gd declB 20 90500 (.tup ([.str "apply"]++rows)):=by
 refine⟨decl_of lk_apply ?_,?_,?_⟩
 ·show(lenIn 3 4 rows&&rows.all grB)=true
  rw[gd_all hr]
  simp[lenIn]
  omega
 ·refine Tr.mono (n:=1) (.tp fun t ht=>?_) (by omega)
  rcases List.mem_cons.mp ht with rfl|ht
  ·exact kept_at (by decide+kernel)
  ·exact(hr t ht).tr
 ·have s1:=szs_le fun t ht=>(hr t ht).sz
  simp only[T.sz,szs,List.cons_append,List.nil_append]
  omega
section
variable {P:Program}{w:World}{K:PySem.W.Frag}{mg:Str→Option Value}{base:Heap}{f:Addr}{fd:FuncData}
theorem sc_face:FnScope ["_law_state","_law_items","_law_k"] ["_law_state"] (defScope s_face):=⟨rfl,rfl,rfl,by decide+kernel,rfl,by decide+kernel,by decide+kernel⟩
set_option maxHeartbeats 1000000 in
theorem ok_face (F:Fun K "_law_face" "_law_face" s_face f fd)(mr:mg "range"=none)(mt:mg "tuple"=none)(mi:mg "int"=none)(h0:Has P w K mg base 1 "_law_next" ["_law_state","_law_many"] spNext)(h2:Has P w K mg base 3 "_law_small" ["_law_state"] (spStr fun z=>nameB z=true))(h3:Has P w K mg base 3 "_law_great" ["_law_state"] (spStr fun z=>greatB z=true))
  (h4:Has P w K mg base 5 "_law_givers" ["_law_state","_law_least"] (spGivers 0)) (h6:Has P w K mg base 8 "_law_kind" ["_law_state","_law_deep"] (spKindN 3)):
  FnOk P w K mg base CX0 9 f fd ["_law_state"] (spG declB 20 90500):=by
 refine F.ok sc_face (len:=fun vs H Q E h=>(by obtain⟨st,rfl,_⟩:=h;rfl)) (fun cdv A outer s H vs Q E hr h=>?_)
 obtain⟨st,rfl,hs,q⟩:=h
 refine⟨_,pss_cons (ps_set (i:=1) sc_face.nd rfl (Or.inl rfl) (pe_lst pa_nil))
  (pss_cons (ps_for PassesOwn.never rfl (pi_range1 rfl mr (pa_cons (pe_ix ix_list (pe_lst (pa_cons (pcall h0 hr (by decide) rfl (pa_cons (pv 0) (pa_cons pe_int pa_nil))) (pa_cons pe_int pa_nil))) (pe_callTy call_int1 rfl mi boot_int' (pa_cons (pe_cmpR op_eq (pcall h0 hr (by decide) rfl (pa_cons (pv 0) (pa_cons pe_int pa_nil))) pe_int (nomark _)) pa_nil)) (fun _ _=>rfl)) pa_nil)) (pg_name (i:=2) sc_face.nd rfl (Or.inl rfl))
   (pss_one (ps_if (pt_cmpR op_eq (pcall h0 hr (by decide) rfl (pa_cons (pv 0) (pa_cons pe_int pa_nil))) pe_int (nomark _))
    (pss_one (ps_expr (pe_bm PySem.F.plainAttrs_list PySem.F.slot_list_append PySem.F.type_list_append mt_append (pv 1) (pa_cons (pe_tup (pa_cons pe_str (pa_cons (pcall h2 hr (by decide) rfl (pa_cons (pv 0) pa_nil)) (pa_cons (pcall h0 hr (by decide) rfl (pa_cons (pv 0) (pa_cons pe_int pa_nil))) pa_nil)))) pa_nil))))
    (pss_one (ps_expr (pe_bm PySem.F.plainAttrs_list PySem.F.slot_list_append PySem.F.type_list_append mt_append (pv 1) (pa_cons (pe_tup (pa_cons pe_str (pa_cons (pcall h2 hr (by decide) rfl (pa_cons (pv 0) pa_nil)) (pa_cons (pcall h6 hr (by decide) rfl (pa_cons (pv 0) (pa_cons pe_int pa_nil))) pa_nil)))) pa_nil)))))))
  (pss_one (ps_ret (pe_op op_catT (pe_tup (pa_cons pe_str (pa_cons (pcall h3 hr (by decide) rfl (pa_cons (pv 0) pa_nil)) (pa_cons (pcall h4 hr (by decide) rfl (pa_cons (pv 0) (pa_cons pe_int pa_nil))) pa_nil)))) (pe_callTy call_tuple_of rfl mt boot_tuple (pa_cons (pv 1) pa_nil)))))),?_⟩
 refine⟨Nat.zero_le _,fun l hl=>?_⟩
 have dl:l≠st:=fresh_st hs hl
 have g1:Grow st H (upd H l (.lst [])):=grow_new hs hl
 refine⟨_,rfl,st,9,rfl,g1.ok,by decide,by decide,fun d H2 d0 d1 g2=>⟨small (by show 2≤1000000;decide),fun p hp=>?_⟩⟩
 have dp:p≠st:=fresh_st g2.ok hp
 have g3:=grow_new (o:=.lst [.int d, .int 24]) g2.ok hp
 refine⟨_,rfl,st,9,rfl,g3.ok,by decide,by decide,fun e H4 e0 e1 g4=>⟨rfl, .inr ⟨_,rfl,?_⟩⟩⟩
 refine ix_two (g4.1 _ _ dp upd_same) fun n hn=>?_
 have g14:=((g1.trans g2).trans g3).trans g4
 have hl4:H4 l=some (.lst []):=g4.1 _ _ dl (g3.1 _ _ dl (g2.1 _ _ dl upd_same))
 refine⟨n,rfl,by omega,by omega,for_range (n:=n.toNat) (fun i σ H'=>∃(o:Option V) (vs:List V) (ts:List T),σ=[some (.ref st),some (.ref l),o]∧H' l=some (.lst vs)∧Reps H' vs ts∧ts.length=i∧(∀t∈ts,Gd itemB 18 20 t)∧Grow st H H')
  ⟨none,[],[],rfl,hl4, .nil,rfl,(fun _ h=>by cases h),g14⟩ ?_ ?_⟩
 ·rintro i σ H3 hi ⟨o,vs,ts,rfl,hl3,r3,l3,rows3,g3⟩
  have lv:=r3.length
  refine⟨_,rfl,st,2,rfl,g3.ok,by decide,by decide,fun b H5 b0 b1 g5=>⟨rfl,_,rfl,ite2 (fun _=>?_) (fun _=>?_)⟩⟩
  ·refine⟨_,rfl, .inl ⟨rfl,_,SqL.of (g5.1 _ _ dl hl3)⟩,?_⟩
   refine⟨_,rfl,st,rfl,g5.ok,fun z H6 hz lz g6=>⟨_,rfl,st,3,rfl,g6.ok,by decide,by decide,fun k H7 k0 k1 g7=>⟨small (by show 3≤1000000;decide),fun p hp=>?_⟩⟩⟩
   have g8:Grow st H7 (upd H7 p (.tup [.str "hide", .str z, .int k])):=grow_new g7.ok hp
   obtain⟨a1,a2,a3⟩:=app_G (t:=.tup [.str "hide", .str z, .int k]) hl dl g3 hl3 r3 (((g5.trans g6).trans g7).trans g8) (.tup upd_same (.cons (.str _ (by decide+kernel)) (.cons (.str z (by omega)) (.cons (.int k) .nil))))
   refine⟨l,vs, .ref p,rfl,rfl,a1,small' (by omega),?_⟩
   exact⟨_,_,ts++[_],rfl,upd_same,a2,by simp[l3],snoc_all rows3 (hide_item hz k0 k1),a3⟩
  ·refine⟨_,rfl, .inl ⟨rfl,_,SqL.of (g5.1 _ _ dl hl3)⟩,?_⟩
   refine⟨_,rfl,st,rfl,g5.ok,fun z H6 hz lz g6=>⟨_,rfl,st,rfl,g6.ok,fun v t H7 hg rt hzt g7=>⟨small (by show 3≤1000000;decide),fun p hp=>?_⟩⟩⟩
   have g8:Grow st H7 (upd H7 p (.tup [.str "val", .str z,v])):=grow_new g7.ok hp
   obtain⟨a1,a2,a3⟩:=app_G (t:=.tup [.str "val", .str z,t]) hl dl g3 hl3 r3 (((g5.trans g6).trans g7).trans g8) (.tup upd_same (.cons (.str _ (by decide+kernel)) (.cons (.str z (by omega)) (.cons (rt.same (same_new hp _)) .nil))))
   refine⟨l,vs, .ref p,rfl,rfl,a1,small' (by omega),?_⟩
   exact⟨_,_,ts++[_],rfl,upd_same,a2,by simp[l3],snoc_all rows3 (val_item hz (gd_kind (n:=2) hg hzt)),a3⟩
 ·rintro σ H3 ⟨o,vs,ts,rfl,hl3,r3,l3,rows3,g3⟩
  refine⟨_,rfl,st,rfl,g3.ok,fun z H4 hz lz g4=>⟨_,rfl,st,rfl,by decide,g4.ok,fun vv vt H5 kv rv g5=>⟨small (by show 3≤1000000;decide),fun p hp=>?_⟩⟩⟩
  have g6:Grow st H5 (upd H5 p (.tup [.str "face", .str z,vv])):=grow_new g5.ok hp
  have g46:=(g4.trans g5).trans g6
  refine⟨_,rfl,l,vs,rfl, .inl ⟨SqL.of (g46.1 _ _ dl hl3),fun p2 hp2=>?_⟩⟩
  have e7:=same_new hp2 (.tup vs)
  refine cat_two (hts:=[.str "face", .str z,vt]) (e7 _ _ upd_same) (.cons (.str _ (by decide+kernel)) (.cons (.str z (by omega)) (.cons (rv.same ((same_new hp _).trans e7)) .nil))) (by simp) upd_same ((r3.grow g46 g3.ok).same e7) (by simp;omega) fun p' H7 r7 e8=>?_
  exact q _ _ _ (face_gd hz kv rows3 (by omega)) r7 (g3.trans (g46.trans (grow_same g46.ok (e7.trans e8))))
def spBody:Sp:=fun vs H Q _=>∃(st lf:Addr),vs=[.ref st, .ref lf]∧D2 st lf H∧∀a us ts H',H' a=some (.tup us)→Reps H' us ts→ts.length≤24→(∀t∈ts,Gd bodyItemB 18 3766 t)→Grow2 st lf H H'→Q (.ref a) H'
theorem sc_body:FnScope ["_law_state","_law_left","_law_rows","_law_k"] ["_law_state","_law_left"] (defScope s_body):=⟨rfl,rfl,rfl,by decide+kernel,rfl,by decide+kernel,by decide+kernel⟩
set_option maxHeartbeats 1000000 in
theorem ok_body (F:Fun K "_law_body" "_law_body" s_body f fd)(mr:mg "range"=none)(mt:mg "tuple"=none)(mi:mg "int"=none)(h0:Has P w K mg base 1 "_law_next" ["_law_state","_law_many"] spNext)(h2:Has P w K mg base 3 "_law_small" ["_law_state"] (spStr fun z=>nameB z=true))
  (h4:Has P w K mg base 4 "_law_some_variables" ["_law_state","_law_most"] (spVars 2)) (h6:Has P w K mg base 8 "_law_kind" ["_law_state","_law_deep"] (spKindN 3)) (h7:Has P w K mg base 18 "_law_phrase" ["_law_state","_law_deep","_law_left"] (spPhraseN 4)):
  FnOk P w K mg base CX0 19 f fd ["_law_state","_law_left"] spBody:=by
 refine F.ok sc_body (len:=fun vs H Q E h=>(by obtain⟨st,lf,rfl,_⟩:=h;rfl)) (fun cdv A outer s H vs Q E hr h=>?_)
 obtain⟨st,lf,rfl,dd,q⟩:=h
 refine⟨_,pss_cons (ps_set (i:=2) sc_body.nd rfl (Or.inl rfl) (pe_lst pa_nil))
  (pss_cons (ps_for PassesOwn.never rfl (pi_range1 rfl mr (pa_cons (pe_ix ix_list (pe_lst (pa_cons (pcall h0 hr (by decide) rfl (pa_cons (pv 0) (pa_cons pe_int pa_nil))) (pa_cons pe_int pa_nil))) (pe_callTy call_int1 rfl mi boot_int' (pa_cons (pe_cmpR op_eq (pcall h0 hr (by decide) rfl (pa_cons (pv 0) (pa_cons pe_int pa_nil))) pe_int (nomark _)) pa_nil)) (fun _ _=>rfl)) pa_nil)) (pg_name (i:=3) sc_body.nd rfl (Or.inl rfl))
   (pss_one (ps_if (pt_cmpR op_eq (pcall h0 hr (by decide) rfl (pa_cons (pv 0) (pa_cons pe_int pa_nil))) pe_int (nomark _))
    (pss_one (ps_expr (pe_bm PySem.F.plainAttrs_list PySem.F.slot_list_append PySem.F.type_list_append mt_append (pv 2) (pa_cons (pe_tup (pa_cons pe_str (pa_cons (pcall h2 hr (by decide) rfl (pa_cons (pv 0) pa_nil)) (pa_cons (pcall h4 hr (by decide) rfl (pa_cons (pv 0) (pa_cons pe_int pa_nil))) (pa_cons (pcall h6 hr (by decide) rfl (pa_cons (pv 0) (pa_cons pe_int pa_nil))) pa_nil))))) pa_nil))))
    (pss_one (ps_expr (pe_bm PySem.F.plainAttrs_list PySem.F.slot_list_append PySem.F.type_list_append mt_append (pv 2) (pa_cons (pe_tup (pa_cons pe_str (pa_cons (pcall h2 hr (by decide) rfl (pa_cons (pv 0) pa_nil)) (pa_cons (pcall h7 hr (by decide) rfl (pa_cons (pv 0) (pa_cons pe_int (pa_cons (pv 1) pa_nil)))) pa_nil)))) pa_nil)))))))
  (pss_one (ps_ret (pe_callTy call_tuple_of rfl mt boot_tuple (pa_cons (pv 2) pa_nil))))),?_⟩
 refine⟨Nat.zero_le _,fun l hl=>?_⟩
 have dl:=dd.fresh hl
 have g1:Grow2 st lf H (upd H l (.lst [])):=g2_new dd hl
 refine⟨_,rfl,st,9,rfl,g1.2.st,by decide,by decide,fun d H2 d0 d1 g2'=>⟨small (by show 2≤1000000;decide),fun p hp=>?_⟩⟩
 have g2:=g2_of g1.2 g2'
 have dp:=g2.2.fresh hp
 have g3:=g2_new (o:=.lst [.int d, .int 24]) g2.2 hp
 refine⟨_,rfl,st,9,rfl,g3.2.st,by decide,by decide,fun e H4 e0 e1 g4'=>⟨rfl, .inr ⟨_,rfl,?_⟩⟩⟩
 have g4:=g2_of g3.2 g4'
 refine ix_two (g4.1 _ _ dp.1 dp.2 upd_same) fun n hn=>?_
 have g14:=((g1.trans g2).trans g3).trans g4
 have hl4:H4 l=some (.lst []):=g4.1 _ _ dl.1 dl.2 (g3.1 _ _ dl.1 dl.2 (g2.1 _ _ dl.1 dl.2 upd_same))
 refine⟨n,rfl,by omega,by omega,for_range (n:=n.toNat) (fun i σ H'=>∃(o:Option V) (vs:List V) (ts:List T),σ=[some (.ref st),some (.ref lf),some (.ref l),o]∧H' l=some (.lst vs)∧Reps H' vs ts∧ts.length=i∧(∀t∈ts,Gd bodyItemB 18 3766 t)∧Grow2 st lf H H')
  ⟨none,[],[],rfl,hl4, .nil,rfl,(fun _ h=>by cases h),g14⟩ ?_ ?_⟩
 ·rintro i σ H3 hi ⟨o,vs,ts,rfl,hl3,r3,l3,rows3,g3⟩
  have lv:=r3.length
  refine⟨_,rfl,st,3,rfl,g3.2.st,by decide,by decide,fun b H5 b0 b1 g5'=>⟨rfl,_,rfl,ite2 (fun _=>?_) (fun _=>?_)⟩⟩
  ·refine⟨_,rfl, .inl ⟨rfl,_,SqL.of (g5'.1 _ _ dl.1 hl3)⟩,?_⟩
   refine⟨_,rfl,st,rfl,g5'.ok,fun z H6 hz lz g6=>⟨_,rfl,st,rfl,g6.ok,fun vv vt H7 kv rv g7=>⟨_,rfl,st,rfl,g7.ok,fun v t H8 hg rt hzt g8=>⟨small (by show 4≤1000000;decide),fun p hp=>?_⟩⟩⟩⟩
   have g9:Grow st H8 (upd H8 p (.tup [.str "hide", .str z,vv,v])):=grow_new g8.ok hp
   obtain⟨a1,a2,a3⟩:=app_G2 (t:=.tup [.str "hide", .str z,vt,t]) hl dl g3 hl3 r3 (g2_of g3.2 ((((g5'.trans g6).trans g7).trans g8).trans g9)) (.tup upd_same (.cons (.str _ (by decide+kernel)) (.cons (.str z (by omega)) (.cons ((rv.grow g8 g7.ok).same (same_new hp _)) (.cons (rt.same (same_new hp _)) .nil)))))
   refine⟨l,vs, .ref p,rfl,rfl,a1,small' (by omega),?_⟩
   exact⟨_,_,ts++[_],rfl,upd_same,a2,by simp[l3],snoc_all rows3 (hide_body hz kv (gd_kind (n:=2) hg hzt)),a3⟩
  ·refine⟨_,rfl, .inl ⟨rfl,_,SqL.of (g5'.1 _ _ dl.1 hl3)⟩,?_⟩
   refine⟨_,rfl,st,rfl,g5'.ok,fun z H6 hz lz g6=>?_⟩
   have g36:=g2_of g3.2 (g5'.trans g6)
   refine⟨_,rfl,_,rfl,st,lf,rfl,g36.2,fun v t H7 hg rt hzt g7=>⟨small (by show 3≤1000000;decide),fun p hp=>?_⟩⟩
   have g8:Grow2 st lf H7 (upd H7 p (.tup [.str "val", .str z,v])):=g2_new g7.2 hp
   obtain⟨a1,a2,a3⟩:=app_G2 (t:=.tup [.str "val", .str z,t]) hl dl g3 hl3 r3 ((g36.trans g7).trans g8) (.tup upd_same (.cons (.str _ (by decide+kernel)) (.cons (.str z (by omega)) (.cons (rt.same (same_new hp _)) .nil))))
   refine⟨l,vs, .ref p,rfl,rfl,a1,small' (by omega),?_⟩
   exact⟨_,_,ts++[_],rfl,upd_same,a2,by simp[l3],snoc_all rows3 (val_body hz (gd_phrase (n:=3) hg hzt)),a3⟩
 ·rintro σ H3 ⟨o,vs,ts,rfl,hl3,r3,l3,rows3,g3⟩
  refine⟨_,rfl,l,vs,rfl, .inl ⟨SqL.of hl3,fun p hp=>?_⟩⟩
  exact q _ vs ts _ upd_same (r3.same (same_new hp _)) (by omega) rows3 (g3.trans (g2_new g3.2 hp))
end
def spDecl:Sp:=fun vs H Q _=>∃(st lf:Addr),vs=[.ref st, .ref lf]∧D2 st lf H∧∀v t H',Gd declB 20 90500 t→Rep H' v t→Grow2 st lf H H'→Q v H'
section
variable {P:Program}{w:World}{K:PySem.W.Frag}{mg:Str→Option Value}{base:Heap}{f:Addr}{fd:FuncData}
theorem sc_declared:FnScope ["_law_state","_law_left","_law_way","_law_parts"] ["_law_state","_law_left"] (defScope s_declared):=⟨rfl,rfl,rfl,by decide+kernel,rfl,by decide+kernel,by decide+kernel⟩
set_option maxHeartbeats 1000000 in
theorem ok_declared (F:Fun K "_law_declared" "_law_declared" s_declared f fd)(mr:mg "range"=none)(mt:mg "tuple"=none)(h0:Has P w K mg base 1 "_law_next" ["_law_state","_law_many"] spNext)(h3:Has P w K mg base 3 "_law_great" ["_law_state"] (spStr fun z=>greatB z=true))
  (h4:Has P w K mg base 10 "_law_sort" ["_law_state"] (spG declB 20 90500)) (h5:Has P w K mg base 9 "_law_face" ["_law_state"] (spG declB 20 90500)) (h6:Has P w K mg base 4 "_law_given" ["_law_state"] (spG givenB 1 4)) (h7:Has P w K mg base 5 "_law_givers" ["_law_state","_law_least"] (spGivers 1)) (h8:Has P w K mg base 19 "_law_body" ["_law_state","_law_left"] spBody):
  FnOk P w K mg base CX0 20 f fd ["_law_state","_law_left"] spDecl:=by
 refine F.ok sc_declared (len:=fun vs H Q E h=>(by obtain⟨st,lf,rfl,_⟩:=h;rfl)) (fun cdv A outer s H vs Q E hr h=>?_)
 obtain⟨st,lf,rfl,dd,q⟩:=h
 refine⟨_,pss_cons (ps_set (i:=2) sc_declared.nd rfl (Or.inl rfl) (pcall h0 hr (by decide) rfl (pa_cons (pv 0) (pa_cons pe_int pa_nil))))
  (pss_cons (ps_if (pt_cmpR op_lt (pv 2) pe_int (nomark _)) (pss_one (ps_ret (pcall h4 hr (by decide) rfl (pa_cons (pv 0) pa_nil)))) pss_nil)
  (pss_cons (ps_if (pt_cmpR op_eq (pv 2) pe_int (nomark _)) (pss_one (ps_ret (pcall h5 hr (by decide) rfl (pa_cons (pv 0) pa_nil)))) pss_nil)
  (pss_cons (ps_if (pt_cmpR op_eq (pv 2) pe_int (nomark _)) (pss_one (ps_ret (pe_op op_catT (pe_tup (pa_cons pe_str (pa_cons (pcall h3 hr (by decide) rfl (pa_cons (pv 0) pa_nil)) (pa_cons (pcall h6 hr (by decide) rfl (pa_cons (pv 0) pa_nil)) pa_nil)))) (pcall h8 hr (by decide) rfl (pa_cons (pv 0) (pa_cons (pv 1) pa_nil)))))) pss_nil)
  (pss_cons (ps_if (pt_cmpR op_eq (pv 2) pe_int (nomark _)) (pss_one (ps_ret (pe_op op_catT (pe_tup (pa_cons pe_str (pa_cons (pcall h3 hr (by decide) rfl (pa_cons (pv 0) pa_nil)) (pa_cons (pcall h7 hr (by decide) rfl (pa_cons (pv 0) (pa_cons pe_int pa_nil))) (pa_cons (pcall h6 hr (by decide) rfl (pa_cons (pv 0) pa_nil)) pa_nil))))) (pcall h8 hr (by decide) rfl (pa_cons (pv 0) (pa_cons (pv 1) pa_nil)))))) pss_nil)
  (pss_cons (ps_set (i:=3) sc_declared.nd rfl (Or.inl rfl) (pe_callTy call_tuple_of rfl mt boot_tuple (pa_cons (pe_lc (defScope s_declared) ["_law_state","_law_left","_law_way","_law_parts"] ["_law_state"] [0] (by decide+kernel) (pi_range1 rfl mr (pa_cons (pe_op op_add pe_int (pcall h0 hr (by decide) rfl (pa_cons (pv 0) (pa_cons pe_int pa_nil)))) pa_nil)) (fun C s₀ H₀ ex=>pts_nil)
   (fun C s₀ H₀ ex=>pcall h3 hr (by decide) rfl (pa_cons (pv 1) pa_nil))) pa_nil)))
  (pss_one (ps_ret (pe_op op_catT (pe_tup (pa_cons pe_str pa_nil)) (pv 3))))))))),?_⟩
 refine⟨_,rfl,st,6,rfl,dd.st,by decide,by decide,fun d H1 d0 d1 g1'=>?_⟩
 have g1:=g2_of dd g1'
 refine st_if (ts_t (ev_op (z:=.bl (decide (d<2))) (ev_var rfl) (fun _ _=>ev_c) fun H'' Q'' e'' q''=>⟨_,_,rfl,rfl,q''⟩)) (fun c H2 e2=>?_) (fun c H2 e2=>?_)
 ·have g2:=g1.trans (g2_same g1.2 e2)
  exact⟨_,rfl,st,rfl,g2.2.st,fun v t H3 k r g3=>q v t H3 k r (g2.trans (g2_of g2.2 g3))⟩
 have g2:=g1.trans (g2_same g1.2 e2)
 refine st_if (ts_t (ev_eqI (ev_var rfl) fun _ _=>ev_c)) (fun c3 H3 e3=>?_) (fun c3 H3 e3=>?_)
 ·have g3:=g2.trans (g2_same g2.2 e3)
  exact⟨_,rfl,st,rfl,g3.2.st,fun v t H4 k r g4=>q v t H4 k r (g3.trans (g2_of g3.2 g4))⟩
 have g3:=g2.trans (g2_same g2.2 e3)
 refine st_if (ts_t (ev_eqI (ev_var rfl) fun _ _=>ev_c)) (fun c4 H4 e4=>?_) (fun c4 H4 e4=>?_)
 ·have g4:=g3.trans (g2_same g3.2 e4)
  refine⟨_,rfl,st,rfl,g4.2.st,fun z H5 hz lz g5=>⟨_,rfl,st,rfl,g5.ok,fun v t H6 kt rt g6=>⟨small (by show 3≤1000000;decide),fun p hp=>?_⟩⟩⟩
  have g7:Grow st H6 (upd H6 p (.tup [.str "part", .str z,v])):=grow_new g6.ok hp
  have g47:=g4.trans (g2_of g4.2 ((g5.trans g6).trans g7))
  refine⟨_,rfl,_,rfl,st,lf,rfl,g47.2,fun a us ts H8 ha ra la ka g8=>?_⟩
  refine cat_two (hts:=[.str "part", .str z,t]) (g8.tups g47.2 _ _ upd_same) (.cons (.str _ (by decide+kernel)) (.cons (.str z (by omega)) (.cons ((rt.same (same_new hp _)).grow2 g8 g47.2) .nil))) (by simp) ha ra (by simp;omega) fun p' H9 r9 e9=>?_
  exact q _ _ _ (part_gd hz kt ka la) r9 ((g47.trans g8).trans (g2_same g8.2 e9))
 have g4:=g3.trans (g2_same g3.2 e4)
 refine st_if (ts_t (ev_eqI (ev_var rfl) fun _ _=>ev_c)) (fun c5 H5 e5=>?_) (fun c5 H5 e5=>?_)
 ·have g5:=g4.trans (g2_same g4.2 e5)
  refine⟨_,rfl,st,rfl,g5.2.st,fun z H6 hz lz g6=>⟨_,rfl,st,rfl,by decide,g6.ok,fun vg tg H7 kg rg g7=>⟨_,rfl,st,rfl,g7.ok,fun v t H8 kt rt g8=>⟨small (by show 4≤1000000;decide),fun p hp=>?_⟩⟩⟩⟩
  have g9:Grow st H8 (upd H8 p (.tup [.str "maker", .str z,vg,v])):=grow_new g8.ok hp
  have g59:=g5.trans (g2_of g5.2 (((g6.trans g7).trans g8).trans g9))
  refine⟨_,rfl,_,rfl,st,lf,rfl,g59.2,fun a us ts Ha ha ra la ka ga=>?_⟩
  refine cat_two (hts:=[.str "maker", .str z,tg,t]) (ga.tups g59.2 _ _ upd_same) (.cons (.str _ (by decide+kernel)) (.cons (.str z (by omega)) (.cons (((rg.grow g8 g7.ok).same (same_new hp _)).grow2 ga g59.2) (.cons ((rt.same (same_new hp _)).grow2 ga g59.2) .nil)))) (by simp) ha ra (by simp;omega) fun p' Hb rb eb=>?_
  exact q _ _ _ (maker_gd hz kg kt ka la) rb ((g59.trans ga).trans (g2_same ga.2 eb))
 have g5:=g4.trans (g2_same g4.2 e5)
 refine⟨_,rfl,st,2,rfl,g5.2.st,by decide,by decide,fun e H6 e0 e1 g6=>⟨3,e,rfl,rfl,3+e,rfl,by omega,by omega,?_⟩⟩
 refine comp_G (Gd grB 0 1) g6.ok (by omega) (fun i H' R hi h' r=>⟨_,rfl,st,rfl,h',fun z H3 hz lz g3=>r _ _ _ (gd_great hz) (.str z (by omega)) g3⟩) (fun l vs ts H7 hl r7 l7 p7 g7=>?_)
 refine⟨l,vs,rfl, .inl ⟨SqL.of hl,fun p hp=>?_⟩⟩
 refine⟨small (by show 1≤1000000;decide),fun p2 hp2=>⟨_,rfl,?_⟩⟩
 have e8:=same_new hp (.tup vs)
 have e9:=same_new hp2 (.tup [.str "apply"])
 refine cat_two (hts:=[.str "apply"]) upd_same (.cons (.str _ (by decide+kernel)) .nil) (by simp) (e9 _ _ upd_same) (r7.same (e8.trans e9)) (by simp;omega) fun p' Ha ra ea=>?_
 exact q _ _ _ (apply_gd p7 (by omega) (by omega)) ra (g5.trans (g2_of g5.2 ((g6.trans g7).trans (grow_same g7.ok ((e8.trans e9).trans ea)))))
end
end Fw
namespace L2
open PySem PySem.Spec PyProof.Rows
section
variable {X:Cx}
end
theorem HT.cat_tup0 {prog:Program}{w:World}{A:Around}{E:Value→Shared→Prop}{s:Shared}{t b:Addr}{ws:List Value}{Q:Value→Shared→Prop}(ht:IsTup s.heap t [].toArray)(hb:IsTup s.heap b ws.toArray)
  (h1:Q (.ref b) s):wpAny (model prog w) A (binaryOp .Add (.ref t) (.ref b)) Q E s:=by
 obtain⟨⟨cls,dd,data,sl⟩,ho,hc,n,hd⟩:=id ht
 obtain⟨⟨cls2,dd2,data2,sl2⟩,ho2,hc2,n2,hd2⟩:=id hb
 simp only at hc hd hc2 hd2
 subst hc hd hc2 hd2
 exact concat_meets ⟨_,ho,rfl⟩ ⟨_,ho2,rfl⟩ noFill_tuple_add seq_tuple_add PySem.F.slot_tuple_add PySem.F.entry_tuple_add (PySem.F.args_tuple_add_2 _ _)
   (tuple_addW0 t b _ ws.toArray n n2 dd dd2 sl sl2 rfl) ⟨ho,ho2,h1⟩
theorem catT0 (K:PySem.W.Frag){X:Cx}(h:X.K=K:=by rfl):OpR X (binaryOp .Add) (fun x y H Q=>∃a b ys,x=.ref a∧y=.ref b∧SqT K H a []∧SqT K H b ys∧Q (.ref b) H):=by
 intro pins s σ H x y v u Q I rx ry q
 subst h
 obtain⟨a,b,ys,rfl,rfl,ha,hb,q⟩:=q
 cases rx
 cases ry
 obtain⟨its,r1,p1,_⟩:=I.tuple ha
 obtain⟨its2,r2,p2,_⟩:=I.tuple hb
 cases r1
 exact HT.cat_tup0 p1 p2 ⟨.ref b,H,I,rfl,q⟩
end L2
namespace Fw
open PySem PySem.Spec PyProof.Rows L2
def PrgOk (ts:List T):Prop:=∃ds m,ts=ds++[m]∧ds.length≤23∧(∀t∈ds,Gd declB 20 90500 t)∧Gd mainB 20 26404 m
theorem PrgOk.tr {ts:List T}(h:PrgOk ts):Tr 21 (.tup ts):=by
 obtain⟨ds,m,rfl,_,hd,hm⟩:=h
 exact .tp (snoc_all (p:=Tr 20) (fun t ht=>(hd t ht).tr) hm.tr)
theorem PrgOk.drop {ts:List T}(h:PrgOk ts)(hl:1<ts.length):PrgOk (ts.drop 1):=by
 obtain⟨ds,m,rfl,l,hd,hm⟩:=h
 cases ds with
 |nil=>simp at hl
 |cons d ds=>exact⟨ds,m,rfl,by simp at l;omega,fun t ht=>hd t (List.mem_cons_of_mem _ ht),hm⟩
theorem PrgOk.len {ts:List T}(h:PrgOk ts):ts.length≤24:=by
 obtain⟨ds,m,rfl,l,_,_⟩:=h
 simp
 omega
theorem PrgOk.prog {ts:List T}(h:PrgOk ts):progB ts=true:=by
 obtain⟨ds,m,rfl,l,hd,hm⟩:=h
 unfold progB
 rw[List.getLast?_concat,List.dropLast_concat]
 simp only[hm.b,Bool.true_and]
 rw[gd_all hd]
 simp[lenIn]
 omega
theorem main_gd {t:T}(h:Gd phraseB 15 26401 t):Gd mainB 20 26404 (.tup [.str "main",t]):=by
 refine⟨?_,(tr2 (n:=15) (kept_at (by decide+kernel)) h.tr).mono (by omega),?_⟩
 ·show(lenIn 2 2 [T.str "main",t]&&(decide (("main":Str)="main")&&phraseB t))=true
  rw[h.b,decide_eq_true rfl];rfl
 ·have:=h.sz
  simp only[T.sz,szs]
  omega
theorem seven_gd:Gd mainB 20 26404 (.tup [.str "main", .int 7]) :=
 main_gd (gd_phrase (n:=4) ((goodP_int (by decide) (by decide)).up (by decide)) (by decide))
theorem PrgOk.seven:PrgOk [.tup [.str "main", .int 7]]:=⟨[],_,rfl,by decide,fun _ h=>(by cases h),seven_gd⟩
theorem joinL_len:∀l:List (List Nat),l≠[]→(joinL [32] l).length+1=(l.map List.length).sum+l.length
 |[],h=>absurd rfl h
 |[x],_=>by simp[joinL]
 |x::y::r,_=>by
  have ih:=joinL_len (y::r) (by simp)
  rw[joinL]
  simp only[List.length_append,List.map_cons,List.sum_cons,List.length_cons]at ih ⊢
  simp only[List.length_nil]
  omega
theorem join_len {ps:List Str}(h:ps≠[]):(Txt.join " " ps).length+1=(ps.map (·.length)).sum+ps.length:=by
 have ej:(Txt.join " " ps).cps.toList=joinL [32] (ps.map (·.cps.toList)):=by
  show(Builtin.Str.glued " " ps).cps.toList=_
  rw[StrLaws.glued_eq_join,join_cps,show(" ":Str).cps.toList=[32] by decide+kernel]
 have e:=joinL_len (ps.map (·.cps.toList)) (by simpa using h)
 rw[←len_toList,ej,e,List.map_map,List.length_map]
 congr 2
theorem wts_eq (ps:List Str):wts ps=(ps.map (·.length)).sum+3*ps.length:=by
 induction ps with
 |nil=>rfl
 |cons a l ih=>
  rw[wts_cons,ih,List.map_cons,List.sum_cons,List.length_cons]
  unfold wt
  omega
theorem len_sum {ps:List Str}(h:∀p∈ps,1≤p.length):ps.length≤(ps.map (·.length)).sum:=by
 induction ps with
 |nil=>exact Nat.le_refl _
 |cons a l ih=>
  have h1:=h a (by simp)
  have h2:=ih fun p hp=>h p (List.mem_cons_of_mem _ hp)
  rw[List.map_cons,List.sum_cons,List.length_cons]
  omega
theorem pcs_len1 {n:Nat}{t:T}(h:Tr n t):∀p∈pcs t,1≤p.length:=by
 induction h with
 |«at» A=>
  intro p hp
  rw[pcs_at A]at hp
  rw[List.mem_singleton.mp hp]
  exact A.lo
 |@tp n l _ ih=>
  have all:∀l':List T,(∀t∈l',t∈l)→∀p∈pcss l',1≤p.length:=by
   intro l'
   induction l' with
   |nil=>intro _ p hp;simp[pcss]at hp
   |cons t l' ih2=>
    intro hl p hp
    rw[pcss]at hp
    rcases List.mem_append.mp hp with h|h
    ·exact ih t (hl t (by simp)) p h
    ·exact ih2 (fun x hx=>hl x (List.mem_cons_of_mem _ hx)) p h
  intro p hp
  rw[pcs]at hp
  rcases List.mem_cons.mp hp with rfl|hp
  ·decide+kernel
  ·rcases List.mem_append.mp hp with h|h
   ·exact all l (fun t ht=>ht) p h
   ·rw[List.mem_singleton.mp h]
    decide+kernel
theorem join_wts {n:Nat}{ts:List T}(h:Tr n (.tup ts)):(Txt.join " " (pcs (.tup ts))).length≤wts (pcs (.tup ts))∧((Txt.join " " (pcs (.tup ts))).length≤2900→wts (pcs (.tup ts))≤5802):=by
 have e1:=join_len (ps:=pcs (.tup ts)) (by rw[pcs];simp)
 have e2:=wts_eq (pcs (.tup ts))
 have e3:=len_sum (pcs_len1 h)
 constructor
 ·omega
 ·intro h1
  omega
theorem seq_join {t r:TS}{D:Ends}{σ:L2.St}{H:Hp}(Pv:L2.St→Hp→Prop)(h:∀N:L2.St→Hp→Prop,(∀σ' H',Pv σ' H'→N σ' H')→t (D.to N) σ H)(hr:∀σ' H',Pv σ' H'→r D σ' H'):tSeq t r D σ H:=h _ hr
theorem if_join {c:TT}{a b r:TS}{D:Ends}{σ:L2.St}{H:Hp}(Pv:L2.St→Hp→Prop)(h:∀N:L2.St→Hp→Prop,(∀σ' H',Pv σ' H'→N σ' H')→tIfS c a b (D.to N) σ H)(hr:∀σ' H',Pv σ' H'→r D σ' H'):tSeq (tIfS c a b) r D σ H:=h _ hr
theorem ix_twob {K:PySem.W.Frag}{x y:Int}{p:Addr}{H:Hp}{Q:VK}{b:Bool}(hp:H p=some (.lst [.int x, .int y]))(hq:Q (.int (if b then y else x)) H):rIxL K (.ref p) (.int (if b then 1 else 0)) H Q:=by
 cases b with
 |true=>exact⟨p,_,1, .int y,rfl,rfl,SqL.of hp,atI_nat (j:=1) rfl,hq⟩
 |false=>exact⟨p,_,0, .int x,rfl,rfl,SqL.of hp,atI_nat (j:=0) rfl,hq⟩
theorem one_kind {z g:Str}(hz:nameB z=true)(hg:greatB g=true):Gd declB 20 90500 (.tup [.str "kind", .str z, .tup [], .tup [.str g]]):=by
 have h1:Gd (isListT 0 3 vrB) 1 4 (.tup []):=gd_list (n:=0) (B:=1) (fun _ h=>by cases h) (by simp) (by simp) (by decide)
 have h2:Gd tagB 18 70 (.tup ([.str g]++[])):=tag_gd hg (fun _ h=>by cases h) (by simp)
 exact sort_gd (rows:=[.tup [.str g]]) (most:=6) (B:=70) lk_kind rfl (by decide+kernel) hz h1 (fun t ht=>by rw[List.mem_singleton.mp ht];exact h2) (by simp) (by simp) (by decide)
theorem Reps.take {H:Hp}:∀(k:Nat) {vs:List V} {ts:List T},Reps H vs ts→Reps H (vs.take k) (ts.take k)
 |0,_,_,_=>by simp;exact .nil
 |k+1,_,_, .nil=>.nil
 |k+1,_,_, .cons r q=>.cons r (Reps.take k q)
theorem Reps.ins {H:Hp}{vs:List V}{ts:List T}{v:V}{t:T}(r:Reps H vs ts)(k:Nat)(q:Rep H v t):Reps H (vs.take k++v::vs.drop k) (ts.take k++t::ts.drop k):=(Reps.take k r).append (.cons q (r.drop k))
theorem ins_G2 {st lf l:Addr}{H H3 H8:Hp}{vs:List V}{ts:List T}{v:V}{t:T}{k:Nat}(hl:H l=none)(dl:l≠st∧l≠lf)(g3:Grow2 st lf H H3)(hl3:H3 l=some (.lst vs))(r3:Reps H3 vs ts)(g8:Grow2 st lf H3 H8)(r8:Rep H8 v t):
  H8 l=some (.lst vs)∧Reps (upd H8 l (.lst (vs.take k++v::vs.drop k))) (vs.take k++v::vs.drop k) (ts.take k++t::ts.drop k)∧Grow2 st lf H (upd H8 l (.lst (vs.take k++v::vs.drop k))):=by
 have hl8:H8 l=some (.lst vs):=g8.1 _ _ dl.1 dl.2 hl3
 have tupsU:∀b xs,H8 b=some (.tup xs)→(upd H8 l (.lst (vs.take k++v::vs.drop k))) b=some (.tup xs):=fun b xs h=>by
  rw[upd_ne (ne_of h hl8 (by intro z;cases z))];exact h
 refine⟨hl8,((r3.grow2 g8 g3.2).ins k r8).mono tupsU,fun b o h1 h2 hb=>?_,g8.2.ne,?_,?_⟩
 ·rw[upd_ne (ne_of_none hb hl)]
  exact(g3.trans g8).1 b o h1 h2 hb
 ·obtain⟨ns,k1,k2,k3⟩:=g8.2.st
  exact⟨ns,k1,k2,by rw[upd_ne (Ne.symm dl.1)];exact k3⟩
 ·obtain⟨j,k1⟩:=g8.2.lf
  exact⟨j,by rw[upd_ne (Ne.symm dl.2)];exact k1⟩
theorem szs_split (k:Nat)(t:T)(l:List T):szs (l.take k++t::l.drop k)=szs l+t.sz:=by
 have e:szs l=szs (l.take k)+szs (l.drop k):=by rw[←szs_app,List.take_append_drop]
 rw[szs_app,e]
 simp only[szs]
 omega
theorem mem_split {p:T→Prop}{k:Nat}{t:T}{l:List T}(h:∀x∈l,p x)(ht:p t):∀x∈l.take k++t::l.drop k,p x:=fun x hx=>by
 rcases List.mem_append.mp hx with h1|h1
 ·exact h x (List.mem_of_mem_take h1)
 ·rcases List.mem_cons.mp h1 with rfl|h2
  ·exact ht
  ·exact h x (List.mem_of_mem_drop h2)
def spFit:Sp:=fun vs H Q _=>∃(v:V) (ts:List T),vs=[v]∧Rep H v (.tup ts)∧PrgOk ts∧wts (pcs (.tup ts))≤15900000∧∀v' ts' H',Same H H'→Rep H' v' (.tup ts')→PrgOk ts'→wts (pcs (.tup ts'))≤5802→Q v' H'
section
variable {P:Program}{w:World}{K:PySem.W.Frag}{mg:Str→Option Value}{base:Heap}{f:Addr}{fd:FuncData}
abbrev s_program:Stmt:=top 104
abbrev s_fitted:Stmt:=top 105
theorem sc_fitted:FnScope ["_law_program_here"] ["_law_program_here"] (defScope s_fitted):=⟨rfl,rfl,rfl,by decide+kernel,rfl,by decide+kernel,by decide+kernel⟩
theorem wts_drop (l:List T)(n:Nat):wts (pcs (.tup (l.drop n)))≤wts (pcs (.tup l)):=by
 rw[wts_tup,wts_tup]
 have e:pcss l=pcss (l.take n)++pcss (l.drop n):=by rw[←pcss_app,List.take_append_drop]
 rw[e,wts_app]
 omega
set_option maxHeartbeats 1000000 in
theorem ok_fitted (F:Fun K "_law_fitted" "_law_fitted" s_fitted f fd)(ml:mg "len"=none)(h0:Has P w K mg base 22 "_law_pieces" ["_law_thing"] (spPc 21)):
  FnOk P w K mg base CX0 23 f fd ["_law_program_here"] spFit:=by
 refine F.ok sc_fitted (len:=fun vs H Q E h=>(by obtain⟨v,ts,rfl,_⟩:=h;rfl)) (fun cdv A outer s H vs Q E hr h=>?_)
 obtain⟨v,ts,rfl,rv,pk,hw,q⟩:=h
 refine⟨_,pss_cons (ps_while PassesOwn.never (PW.pt (pw_and (pt_cmpR op_gt (pe_callB call_len_seq rfl ml PySem.boot_len (pa_cons (pv 0) pa_nil)) pe_int (nomark _)) (pw_and1 (pt_cmpR op_gt (pe_callB call_len_str rfl ml PySem.boot_len (pa_cons (PE1.pe (pe1_bm PySem.F.plainAttrs_str PySem.F.slot_str_join PySem.F.type_str_join mt_join pe1_str (pa_cons (pcall h0 hr (by decide) rfl (pa_cons (pv 0) pa_nil)) pa_nil))) pa_nil)) pe_int (nomark _)))))
   (pss_one (ps_set (i:=0) sc_fitted.nd rfl (Or.inl rfl) (pe_slice sl_tup (pv 0) (po_some pe_int) po_none))))
  (pss_cons (ps_if (pt_cmpR op_gt (pe_callB call_len_str rfl ml PySem.boot_len (pa_cons (PE1.pe (pe1_bm PySem.F.plainAttrs_str PySem.F.slot_str_join PySem.F.type_str_join mt_join pe1_str (pa_cons (pcall h0 hr (by decide) rfl (pa_cons (pv 0) pa_nil)) pa_nil))) pa_nil)) pe_int (nomark _))
   (pss_one (ps_ret (pe_tup (pa_cons (pe_tup (pa_cons pe_str (pa_cons pe_int pa_nil))) pa_nil)))) pss_nil)
  (pss_one (ps_ret (pv 0)))),?_⟩
 refine seq_join (D:=Ends.of Q) (fun σ H'=>∃v ts,σ=[some v]∧Rep H' v (.tup ts)∧PrgOk ts∧Same H H'∧wts (pcs (.tup ts))≤15900000) (fun N hN=>?_) (fun σ H1 h=>?_)
 ·refine⟨fun m σ H'=>∃v ts,σ=[some v]∧Rep H' v (.tup ts)∧PrgOk ts∧Same H H'∧wts (pcs (.tup ts))≤15900000∧m=ts.length,⟨_,v,ts,rfl,rv,pk,Same.refl H,hw,rfl⟩,?_⟩
  rintro m σ H1 ⟨v,ts,rfl,r1,p1,s1,w1,rfl⟩
  cases r1 with
  |@tup a us _ ha r=>
  have lv:=r.length
  have j1:=join_wts p1.tr
  have e2:=wts_eq (pcs (.tup ts))
  refine⟨_,rfl,a,us,rfl, .inr (SqT.of ha),_,_,rfl,rfl,_,rfl,ite2 (fun c=>?_) (fun c=>?_)⟩
  ·have c':(1:Int)<us.length:=of_decide_eq_true c
   refine⟨rfl,_,rfl, .ref a, .tup ts,rfl, .tup ha r,p1.tr,by omega,fun pl H2 s2 hp hp1=>⟨" ",pl,pcs (.tup ts),rfl,rfl,hp1,?_,_,rfl,big (by omega),_,_,rfl,rfl,_,rfl,ite2 (fun c2=>?_) (fun c2=>?_)⟩⟩
   ·show _+_*1≤_
    omega
   ·refine⟨fun σ' H'=>∃v',σ'=[some v']∧Rep H' v' (.tup (ts.drop 1))∧Same H H',?_,?_⟩
    ·rintro σ' H' ⟨v',rfl,r',s'⟩
     exact⟨_,by rw[List.length_drop];omega,v',ts.drop 1,rfl,r',p1.drop (by omega),s',Nat.le_trans (wts_drop ts 1) w1,rfl⟩
    ·refine⟨_,rfl,1,rfl,a,us,rfl,SqT.of (s2 _ _ ha),cut1_not (by intro e;rw[e]at c';simp at c'),fun p hp=>?_⟩
     refine⟨_,rfl, .tup upd_same ?_,(s1.trans s2).trans (same_new hp _)⟩
     rw[cut1]
     exact(r.drop 1).same (s2.trans (same_new hp _))
   ·exact hN _ _ ⟨_,ts,rfl, .tup (s2 _ _ ha) (r.same s2),p1,s1.trans s2,w1⟩
  ·exact hN _ _ ⟨_,ts,rfl, .tup ha r,p1,s1,w1⟩
 ·obtain⟨v,ts,rfl,r1,p1,s1,w1⟩:=h
  have j1:=join_wts p1.tr
  have e2:=wts_eq (pcs (.tup ts))
  refine⟨rfl,_,rfl,v, .tup ts,rfl,r1,p1.tr,by omega,fun pl H2 s2 hp hp1=>⟨" ",pl,pcs (.tup ts),rfl,rfl,hp1,?_,_,rfl,big (by omega),_,_,rfl,rfl,_,rfl,ite2 (fun c2=>?_) (fun c2=>?_)⟩⟩
  ·show _+_*1≤_
   omega
  ·refine⟨small (by show 2≤1000000;decide),fun p hp=>⟨small (by show 1≤1000000;decide),fun p2 hp2=>?_⟩⟩
   exact q _ _ _ ((s1.trans s2).trans ((same_new hp _).trans (same_new hp2 _))) (.tup upd_same (.cons (.tup ((same_new hp2 _) _ _ upd_same) (.cons (.str _ (by decide+kernel)) (.cons (.int 7) .nil))) .nil)) PrgOk.seven (by decide+kernel)
  ·have c':¬((2900:Int)<(Txt.join " " (pcs (.tup ts))).length):=fun h=>c2 (decide_eq_true h)
   exact⟨_,rfl,q _ ts _ (s1.trans s2) (r1.same s2) p1 (j1.2 (by omega))⟩
end
def spProgram:Sp:=fun vs H Q _=>∃(st:Addr),vs=[.ref st]∧StOk H st∧∀v ts H',Rep H' v (.tup ts)→PrgOk ts→wts (pcs (.tup ts))≤5802→Grow st H H'→Q v H'
section
variable {P:Program}{w:World}{K:PySem.W.Frag}{mg:Str→Option Value}{base:Heap}{f:Addr}{fd:FuncData}
abbrev nP:List Str:=["_law_state","_law_left","_law_rows","_law_k"]
theorem sc_program:FnScope nP ["_law_state"] (defScope s_program):=⟨rfl,rfl,rfl,by decide+kernel,rfl,by decide+kernel,by decide+kernel⟩
set_option maxHeartbeats 2000000 in
theorem ok_program (F:Fun K "_law_program" "_law_program" s_program f fd)(mr:mg "range"=none)(mt:mg "tuple"=none)(mi:mg "int"=none)(ml:mg "len"=none)(h0:Has P w K mg base 1 "_law_next" ["_law_state","_law_many"] spNext)(h2:Has P w K mg base 3 "_law_small" ["_law_state"] (spStr fun z=>nameB z=true))(h3:Has P w K mg base 3 "_law_great" ["_law_state"] (spStr fun z=>greatB z=true))
  (h5:Has P w K mg base 20 "_law_declared" ["_law_state","_law_left"] spDecl) (h6:Has P w K mg base 21 "_law_phrase" ["_law_state","_law_deep","_law_left"] (spPhraseN 5)) (h7:Has P w K mg base 23 "_law_fitted" ["_law_program_here"] spFit):
  FnOk P w K mg base CX0 24 f fd ["_law_state"] spProgram:=by
 refine F.ok sc_program (len:=fun vs H Q E h=>(by obtain⟨st,rfl,_⟩:=h;rfl)) (fun cdv A outer s H vs Q E hr h=>?_)
 obtain⟨st,rfl,hs,q⟩:=h
 refine⟨_,pss_cons (ps_set (i:=1) sc_program.nd rfl (Or.inl rfl) (pe_lst (pa_cons pe_int pa_nil)))
  (pss_cons (ps_set (i:=2) sc_program.nd rfl (Or.inl rfl) (pe_lst pa_nil))
  (pss_cons (ps_if (pt_cmpR op_eq (pcall h0 hr (by decide) rfl (pa_cons (pv 0) (pa_cons pe_int pa_nil))) pe_int (nomark _))
   (pss_one (ps_for PassesOwn.never rfl (pi_range1 rfl mr (pa_cons pe_int pa_nil)) (pg_name (i:=3) sc_program.nd rfl (Or.inl rfl))
    (pss_one (ps_expr (pe_bm PySem.F.plainAttrs_list PySem.F.slot_list_append PySem.F.type_list_append mt_append (pv 2) (pa_cons (pe_tup (pa_cons pe_str (pa_cons (pcall h2 hr (by decide) rfl (pa_cons (pv 0) pa_nil)) (pa_cons (pe_tup pa_nil) (pa_cons (pe_tup (pa_cons (pcall h3 hr (by decide) rfl (pa_cons (pv 0) pa_nil)) pa_nil)) pa_nil))))) pa_nil)))))) pss_nil)
  (pss_cons (ps_for PassesOwn.never rfl (pi_range1 rfl mr (pa_cons (pe_ix ix_list (pe_lst (pa_cons (pcall h0 hr (by decide) rfl (pa_cons (pv 0) (pa_cons pe_int pa_nil))) (pa_cons (pcall h0 hr (by decide) rfl (pa_cons (pv 0) (pa_cons pe_int pa_nil))) pa_nil))) (pe_callTy call_int1 rfl mi boot_int' (pa_cons (pe_cmpR op_gt (pe_callB call_len_seq rfl ml PySem.boot_len (pa_cons (pv 2) pa_nil)) pe_int (nomark _)) pa_nil)) (fun _ _=>rfl)) pa_nil)) (pg_name (i:=3) sc_program.nd rfl (Or.inl rfl))
   (pss_one (ps_expr (pe_bm PySem.F.plainAttrs_list PySem.F.slot_list_insert PySem.F.type_list_insert mt_insert (pv 2) (pa_cons (pcall h0 hr (by decide) rfl (pa_cons (pv 0) (pa_cons (pe_op op_add (pe_callB call_len_seq rfl ml PySem.boot_len (pa_cons (pv 2) pa_nil)) pe_int) pa_nil))) (pa_cons (pcall h5 hr (by decide) rfl (pa_cons (pv 0) (pa_cons (pv 1) pa_nil))) pa_nil))))))
  (pss_one (ps_ret (pcall h7 hr (by decide) rfl (pa_cons (pe_op (OpR.or op_catT (catT0 K)) (pe_callTy call_tuple_of rfl mt boot_tuple (pa_cons (pv 2) pa_nil)) (pe_tup (pa_cons (pe_tup (pa_cons pe_str (pa_cons (pcall h6 hr (by decide) rfl (pa_cons (pv 0) (pa_cons pe_int (pa_cons (pv 1) pa_nil)))) pa_nil))) pa_nil))) pa_nil))))))),?_⟩
 refine⟨small (by show 1≤1000000;decide),fun lf hlf=>?_⟩
 have d1:=d2_new (i:=30) hs hlf
 refine⟨Nat.zero_le _,fun l hl=>?_⟩
 have dl:=d1.fresh hl
 have g1:Grow2 st lf (upd H lf (.lst [.int 30])) (upd (upd H lf (.lst [.int 30])) l (.lst [])):=g2_new d1 hl
 generalize hB:upd H lf (.lst [.int 30])=B at d1 hl g1 ⊢
 dsimp only[gName,Ends.to]
 refine if_join (D:=Ends.of Q) (fun σ H'=>∃(o:Option V) (vs:List V) (ts:List T),σ=[some (.ref st),some (.ref lf),some (.ref l),o]∧H' l=some (.lst vs)∧Reps H' vs ts∧(∀t∈ts,Gd declB 20 90500 t)∧(ts.length=0∨ts.length=22)∧szs ts≤132∧Grow2 st lf B H') (fun N hN=>?_) (fun σ H' h=>?_)
 ·refine⟨_,rfl,st,5,rfl,g1.2.st,by decide,by decide,fun b H2 b0 b1 g2'=>⟨rfl,_,rfl,ite2 (fun _=>?_) (fun _=>?_)⟩⟩
  ·have g2:=g1.trans (g2_of g1.2 g2')
   refine⟨22,rfl,by decide,by decide,for_range (n:=(22:Int).toNat) (fun i σ H'=>∃(o:Option V) (vs:List V) (ts:List T),σ=[some (.ref st),some (.ref lf),some (.ref l),o]∧H' l=some (.lst vs)∧Reps H' vs ts∧ts.length=i∧(∀t∈ts,Gd declB 20 90500 t)∧szs ts≤6*i∧Grow2 st lf B H')
    ⟨none,[],[],rfl,g2'.1 _ _ dl.1 upd_same, .nil,rfl,(fun _ h=>by cases h),Nat.zero_le _,g2⟩ ?_ ?_⟩
   ·rintro i σ H3 hi ⟨o,vs,ts,rfl,hl3,r3,l3,rows3,z3,g3⟩
    have lv:=r3.length
    have hi':i<22:=hi
    refine⟨_,rfl, .inl ⟨rfl,_,SqL.of hl3⟩,?_⟩
    refine⟨_,rfl,st,rfl,g3.2.st,fun z H4 hz lz g4=>⟨Nat.zero_le _,fun p0 hp0=>?_⟩⟩
    have g5:Grow st H4 (upd H4 p0 (.tup [])):=grow_new g4.ok hp0
    refine⟨_,rfl,st,rfl,g5.ok,fun z2 H6 hz2 lz2 g6=>⟨small (by show 1≤1000000;decide),fun p1 hp1=>⟨small (by show 4≤1000000;decide),fun p2 hp2=>?_⟩⟩⟩
    have g7:Grow st H6 (upd H6 p1 (.tup [.str z2])):=grow_new g6.ok hp1
    have g8:=grow_new (o:=.tup [.str "kind", .str z, .ref p0, .ref p1]) g7.ok hp2
    have hp0':=(g6.trans (g7.trans g8)).tups g5.ok _ _ upd_same
    obtain⟨a1,a2,a3⟩:=app_G2 (t:=.tup [.str "kind", .str z, .tup [], .tup [.str z2]]) hl dl g3 hl3 r3 (g2_of g3.2 ((((g4.trans g5).trans g6).trans g7).trans g8)) (.tup upd_same (.cons (.str _ (by decide+kernel)) (.cons (.str z (by omega)) (.cons (.tup hp0' .nil) (.cons (.tup (g8.tups g7.ok _ _ upd_same) (.cons (.str z2 (by omega)) .nil)) .nil)))))
    refine⟨l,vs, .ref p2,rfl,rfl,a1,small' (by omega),?_⟩
    refine⟨_,_,ts++[_],rfl,upd_same,a2,by simp[l3],snoc_all rows3 (one_kind hz hz2),?_,a3⟩
    rw[szs_app]
    simp only[szs,T.sz]
    omega
   ·rintro σ H3 ⟨o,vs,ts,rfl,hl3,r3,l3,rows3,z3,g3⟩
    exact hN _ _ ⟨_,vs,ts,rfl,hl3,r3,rows3, .inr l3,z3,g3⟩
  ·exact hN _ _ ⟨none,[],[],rfl,g2'.1 _ _ dl.1 upd_same, .nil,(fun _ h=>by cases h), .inl rfl,Nat.zero_le _,g1.trans (g2_of g1.2 g2')⟩
 ·obtain⟨o,vs,ts,rfl,hl2,r2,rows2,len2,z2,g2⟩:=h
  have lv2:=r2.length
  refine⟨_,rfl,st,5,rfl,g2.2.st,by decide,by decide,fun d H3 d0 d1' g3'=>⟨_,rfl,st,2,rfl,g3'.ok,by decide,by decide,fun e H4 e0 e1 g4'=>⟨small (by show 2≤1000000;decide),fun p hp=>?_⟩⟩⟩
  have g4:=g2.trans (g2_of g2.2 (g3'.trans g4'))
  have dp:=g4.2.fresh hp
  have g5:=g4.trans (g2_new (o:=.lst [.int d, .int e]) g4.2 hp)
  have hl4:H4 l=some (.lst vs):=g4'.1 _ _ dl.1 (g3'.1 _ _ dl.1 hl2)
  have hl5:(upd H4 p (.lst [.int d, .int e])) l=some (.lst vs):=same_new hp _ _ _ hl4
  refine⟨_,rfl,l,vs,rfl, .inl (SqL.of hl5),_,_,rfl,rfl, .inr ⟨_,rfl,?_⟩⟩
  refine ix_twob upd_same ?_
  have hn:0≤(if decide ((0:Int)<vs.length)=true then e else d)∧(if decide ((0:Int)<vs.length)=true then e else d)≤4∧ts.length+(if decide ((0:Int)<vs.length)=true then e else d)≤23:=by
   rcases len2 with z|z
   ·rw[if_neg (by rw[decide_eq_true_eq];omega)]
    omega
   ·rw[if_pos (by rw[decide_eq_true_eq];omega)]
    omega
  generalize (if decide ((0:Int)<vs.length)=true then e else d)=n at hn ⊢
  obtain⟨n0,n4,n23⟩:=hn
  refine⟨n,rfl,by omega,by omega,for_range (n:=n.toNat) (fun i σ H'=>∃(o:Option V) (vs':List V) (ts':List T),σ=[some (.ref st),some (.ref lf),some (.ref l),o]∧H' l=some (.lst vs')∧Reps H' vs' ts'∧ts'.length=ts.length+i∧(∀t∈ts',Gd declB 20 90500 t)∧szs ts'≤132+i*90500∧Grow2 st lf B H')
   ⟨o,vs,ts,rfl,hl5,(r2.grow2 (g2_of g2.2 (g3'.trans g4')) g2.2).same (same_new hp _),rfl,rows2,by omega,g5⟩ ?_ ?_⟩
  ·rintro i σ H6 hi ⟨o6,vs6,ts6,rfl,hl6,r6,l6,rows6,z6,g6⟩
   have lv:=r6.length
   refine⟨_,rfl, .inl ⟨rfl,_,SqL.of hl6⟩,?_⟩
   refine⟨_,rfl,_,rfl,l,vs6,rfl, .inl (SqL.of hl6),_,_,rfl,rfl,st,(vs6.length:Int)+1,rfl,g6.2.st,by omega,by omega,fun k H7 k0 k1 g7'=>?_⟩
   have g7:=g2_of g6.2 g7'
   refine⟨_,rfl,_,rfl,st,lf,rfl,g7.2,fun v t H8 kt rt g8=>?_⟩
   obtain⟨a1,a2,a3⟩:=ins_G2 (k:=k.toNat) hl dl g6 hl6 r6 (g7.trans g8) rt
   refine⟨l,vs6,k,v,rfl,rfl,a1,k0,by omega,by omega,?_⟩
   refine⟨_,_,ts6.take k.toNat++t::ts6.drop k.toNat,rfl,upd_same,a2,?_,mem_split rows6 kt,?_,a3⟩
   ·rw[List.length_append,List.length_cons,List.length_take,List.length_drop]
    omega
   ·rw[szs_split]
    have:=kt.sz
    omega
  ·rintro σ H6 ⟨o6,vs6,ts6,rfl,hl6,r6,l6,rows6,z6,g6⟩
   have lv:=r6.length
   refine⟨_,rfl,l,vs6,rfl, .inl ⟨SqL.of hl6,fun p1 hp1=>?_⟩⟩
   have g7:=g6.trans (g2_new (o:=.tup vs6) g6.2 hp1)
   refine⟨_,rfl,_,rfl,st,lf,rfl,g7.2,fun v t H8 hg rt hzt g8=>⟨small (by show 2≤1000000;decide),fun p2 hp2=>⟨small (by show 1≤1000000;decide),fun p3 hp3=>?_⟩⟩⟩
   have gm:Gd mainB 20 26404 (.tup [.str "main",t]):=main_gd (gd_phrase (n:=4) hg hzt)
   have s2:=same_new hp2 (.tup [.str "main",v])
   have s3:=same_new hp3 (.tup [.ref p2])
   have pk:PrgOk (ts6++[.tup [.str "main",t]]):=⟨ts6,_,rfl,by omega,rows6,gm⟩
   have hw:wts (pcs (.tup (ts6++[.tup [.str "main",t]])))≤15900000:=by
    have h1:=(wts_sz pk.tr).2
    have h2:=gm.sz
    simp only[T.sz,szs_app,szs]at h1 h2
    omega
   have g9:=(g7.trans g8).trans (g2_same g8.2 (s2.trans s3))
   have rm:Rep (upd (upd H8 p2 (.tup [.str "main",v])) p3 (.tup [.ref p2])) (.ref p2) (.tup [.str "main",t]):=.tup (s3 _ _ upd_same) (.cons (.str _ (by decide+kernel)) (.cons (rt.same (s2.trans s3)) .nil))
   have h1:(upd (upd H8 p2 (.tup [.str "main",v])) p3 (.tup [.ref p2])) p1=some (.tup vs6):=(s2.trans s3) _ _ (g8.tups g7.2 _ _ upd_same)
   have r1:Reps (upd (upd H8 p2 (.tup [.str "main",v])) p3 (.tup [.ref p2])) vs6 ts6:=((r6.same (same_new hp1 _)).grow2 g8 g7.2).same (s2.trans s3)
   have fin:∀v' ts' Ha Hb,Same (upd (upd H8 p2 (.tup [.str "main",v])) p3 (.tup [.ref p2])) Ha→Same Ha Hb→Rep Hb v' (.tup ts')→PrgOk ts'→wts (pcs (.tup ts'))≤5802→Q v' Hb:=fun v' ts' Ha Hb sa sb r' pk' w'=>q v' ts' Hb r' pk' w' (to_grow hs hlf (by rw[hB];exact g9.trans (g2_same g9.2 (sa.trans sb))))
   by_cases e0:vs6=[]
   ·subst e0
    have:ts6=[]:=by cases r6;rfl
    subst this
    exact .inr ⟨p1,p3,_,rfl,rfl,SqT.of h1,SqT.of upd_same, .ref p3,_,rfl, .tup upd_same (.cons rm .nil),pk,hw,fun v' ts' Hb sb r' pk' w'=>fin v' ts' _ Hb (Same.refl _) sb r' pk' w'⟩
   ·exact .inl (cat_two h1 r1 e0 upd_same (.cons rm .nil) (by simp;omega) fun p' Ha ra sa=>⟨.ref p',_,rfl,ra,pk,hw,fun v' ts' Hb sb r' pk' w'=>fin v' ts' Ha Hb sa sb r' pk' w'⟩)
end
theorem br_lb:isBr "("=true:=by decide+kernel
theorem br_rb:isBr ")"=true:=by decide+kernel
theorem tr_pcs {n:Nat}{t:T}(h:Tr n t):∀p∈pcs t,PcOk p∧p.length≤100:=by
 induction h with
 |«at» A=>
  intro p hp
  rw[pcs_at A]at hp
  rw[List.mem_singleton.mp hp]
  obtain⟨c1,c2⟩:=clean_ne A.cl
  refine⟨⟨.inr ⟨?_,A.cl,?_⟩⟩,Nat.le_trans A.hi (by decide)⟩
  ·refine decide_eq_false fun hm=>?_
   unfold brL at hm
   simp at hm
   rcases hm with h|h
   ·rw[h]at c1;exact absurd c1 (by decide+kernel)
   ·rw[h]at c2;exact absurd c2 (by decide+kernel)
  ·intro e
   have:=A.lo
   rw[←len_toList,e]at this
   simp at this
 |@tp n l _ ih=>
  have all:∀l':List T,(∀t∈l',t∈l)→∀p∈pcss l',PcOk p∧p.length≤100:=by
   intro l'
   induction l' with
   |nil=>intro _ p hp;simp[pcss]at hp
   |cons t l' ih2=>
    intro hl p hp
    rw[pcss]at hp
    rcases List.mem_append.mp hp with h|h
    ·exact ih t (hl t (by simp)) p h
    ·exact ih2 (fun x hx=>hl x (List.mem_cons_of_mem _ hx)) p h
  intro p hp
  rw[pcs]at hp
  rcases List.mem_cons.mp hp with rfl|hp
  ·exact⟨⟨.inl br_lb⟩,by decide+kernel⟩
  ·rcases List.mem_append.mp hp with h|h
   ·exact all l (fun t ht=>ht) p h
   ·rw[List.mem_singleton.mp h]
    exact⟨⟨.inl br_rb⟩,by decide+kernel⟩
theorem trs_pcss {l:List T}(h:∀t∈l,Tr 20 t):∀p∈pcss l,PcOk p∧p.length≤100:=by
 induction l with
 |nil=>intro p hp;simp[pcss]at hp
 |cons t l ih=>
  intro p hp
  rw[pcss]at hp
  rcases List.mem_append.mp hp with q|q
  ·exact tr_pcs (h t (by simp)) p q
  ·exact ih (fun x hx=>h x (List.mem_cons_of_mem _ hx)) p q
theorem cut_mid (a b:V)(l:List V):cutV (a::(l++[b])) (some 1) (some (-1))=l:=by
 unfold cutV
 have e:(a::(l++[b])).length=l.length+2:=by simp
 rw[e]
 have e1:HT.sIx (l.length+2) 0 (some 1)=1:=by unfold HT.sIx;simp
 have e2:HT.sIx (l.length+2) (l.length+2) (some (-1))=l.length+1:=by
  unfold HT.sIx
  simp
  omega
 rw[e1,e2]
 simp
theorem pieces_eq {z:Str}{ps:List Str}(h1:piecesL z.cps.toList=ps.map (·.cps.toList)):piecesS z=ps:=by
 have inj:∀{a b:List Str},a.map (·.cps.toList)=b.map (·.cps.toList)→a=b:=by
  intro a
  induction a with
  |nil=>intro b e;cases b with|nil=>rfl|cons x b=>cases e
  |cons x a ih=>
   intro b e
   cases b with
   |nil=>cases e
   |cons y b=>
    simp only[List.map_cons,List.cons.injEq]at e
    rw[str_ext e.1,ih e.2]
 refine inj ?_
 rw[←h1]
 unfold piecesS piecesL
 rw[←sp3_cps,←split_eq,show(" ":Str)=⟨#[32]⟩ by decide+kernel,List.filter_map]
 congr 1
 refine List.filter_congr fun p _=>?_
 show(!decide (V.str p=.str ""))= !(p.cps.toList.isEmpty)
 congr 1
 cases e:p.cps.toList.isEmpty with
 |true=>
  have:p="":=str_ext (by rw[List.isEmpty_iff.mp e];decide+kernel)
  exact decide_eq_true (by rw[this])
 |false=>
  refine decide_eq_false fun z=>?_
  have:=V.str.inj z
  rw[this]at e
  exact absurd e (by decide+kernel)
theorem slL (K:PySem.W.Frag){X:Cx}(h:X.K=K:=by rfl):SlR X (rSlL K):=h ▸ sl_list
abbrev s_shp:Stmt:=top 30
theorem Reps.rev {H:Hp}{vs:List V}{ts:List T}(r:Reps H vs ts):Reps H vs.reverse ts.reverse:=by
 induction vs generalizing ts with
 |nil=>cases r;exact .nil
 |cons a vs ih=>
  cases r with
  |cons r1 r2=>
   rw[List.reverse_cons,List.reverse_cons]
   exact(ih r2).snoc r1
def WOk (t:T):Prop:=Tr 21 t∨t=.str ")"
inductive spShp (vs:List V)(H:Hp)(Q:VK)(E_:XK):Prop where
 |mk (a:Addr) (xs:List V) (l:List T):vs=[.ref a]→H a=some (.tup xs)→Reps H xs l→(∀t∈l,Tr 21 t)→wts (pcss l)≤5800→(∀p H',Same H H'→H p=none→H' p=some (.lst ((pcss l).map V.str))→Q (.ref p) H')→spShp vs H Q E_
theorem pcs_ne (t:T):1≤(pcs t).length:=by cases t<;>simp[pcs]
theorem pcss_ge (l:List T):l.length≤(pcss l).length:=by
 induction l with
 |nil=>simp[pcss]
 |cons t l ih=>
  rw[pcss,List.length_append,List.length_cons]
  have:=pcs_ne t
  omega
section
variable {P:Program}{w:World}{K:PySem.W.Frag}{mg:Str→Option Value}{base:Heap}{f:Addr}{fd:FuncData}
abbrev nSh:List Str:=["things","pieces","waiting","thing"]
theorem sc_shp:FnScope nSh ["things"] (defScope s_shp):=⟨rfl,rfl,rfl,by decide+kernel,rfl,by decide+kernel,by decide+kernel⟩
theorem ok_shp (F:Fun K "shown_pieces" "shown_pieces" s_shp f fd)(ml:mg "len"=none)(mi:mg "isinstance"=none)(mt:mg "tuple"=none)(ms:mg "str"=none)(mL:mg "list"=none)(mr:mg "reversed"=none):FnOk P w K mg base CX0 1 f fd ["things"] spShp:=by
 refine F.ok sc_shp (fun cdv A outer s H vs Q E hr h=>?_)
 obtain⟨a,xs,l,rfl,ha,rl,tl,hw,q⟩:=h
 refine⟨_,pss_cons (pset 1 sc_shp.nd (pe_lst pa_nil))
  (pss_cons (pset 2 sc_shp.nd (pe_listRev rfl rfl mL rfl mr (pv 0)))
  (pss_cons (ps_while PassesOwn.never (pt_cmpR op_gt (pe_callB (clen K) rfl ml PySem.boot_len (pa_cons (pv 2) pa_nil)) pe_int)
   (pss_cons (pset 3 sc_shp.nd (ppop K (pv 2)))
   (pss_one (ps_if (pt_val (pe_callB call_isi rfl mi boot_isinstance (pa_cons (pv 3) (pa_cons (pe_bltn (v:=.ty "tuple") rfl mt boot_tuple rfl) pa_nil))))
    (pss_cons (ps_expr (papp K (pv 1) (pa_cons pe_str pa_nil)))
    (pss_cons (ps_expr (papp K (pv 2) (pa_cons pe_str pa_nil)))
    (pss_one (ps_expr (pe_bm PySem.F.plainAttrs_list PySem.F.slot_list_extend PySem.F.type_list_extend mt_extend (pv 2) (pa_cons (pe_listRev rfl rfl mL rfl mr (pv 3)) pa_nil))))))
    (pss_one (ps_expr (papp K (pv 1) (pa_cons (pe_callTy (call_str_int.or call_strS) rfl ms boot_str (pa_cons (pv 3) pa_nil)) pa_nil))))))))
  (pss_one (ps_ret (pv 1))))),?_⟩
 have wl:=wts_len (pcss l)
 refine⟨small (by decide),fun pl hpl=>?_⟩
 have s1:=same_new hpl (.lst [])
 refine⟨_,rfl,a,xs,rfl,SqT.of (s1 _ _ ha),fun wt hwt=>?_⟩
 have s2:=s1.trans (same_new hwt (.lst xs.reverse))
 have hwH:H wt=none:=by
  cases e:H wt with
  |none=>rfl
  |some o=>rw[s1 _ _ e]at hwt;cases hwt
 have pw:pl≠wt:=fun e=>by rw[←e,upd_same]at hwt;cases hwt
 refine⟨fun m σ H'=>∃(o:Option V) (vs:List V) (ts:List T) (ps:List Str),σ=[some (.ref a),some (.ref pl),some (.ref wt),o]∧H' wt=some (.lst vs)∧Reps H' vs ts∧(∀t∈ts,WOk t)∧H' pl=some (.lst (ps.map V.str))∧ps++pcss ts.reverse=pcss l∧m=(pcss ts.reverse).length∧Same H H',
  ⟨_,none,xs.reverse,l.reverse,[],rfl,upd_same,(rl.same s2).rev,fun t ht=>.inl (tl t (by simpa using ht)),by rw[upd_ne pw,upd_same];rfl,by simp,rfl,s2⟩,?_⟩
 rintro m σ H1 ⟨o,vs,ts,ps,rfl,hw1,r1,wo,hp1,htot,rfl,sm⟩
 have tot:ps.length+(pcss ts.reverse).length=(pcss l).length:=by rw[←List.length_append,htot]
 have lts:=pcss_ge ts.reverse
 rw[List.length_reverse]at lts
 have lv:=r1.length
 refine⟨_,rfl,wt,vs,rfl, .inl (SqL.of hw1),_,_,rfl,rfl,_,rfl,ite2 (fun c=>?_) (fun c=>?_)⟩
 ·have c1:(0:Int)<vs.length:=of_decide_eq_true c
  have ne:vs≠[]:=fun e=>by rw[e]at c1;simp at c1
  obtain⟨ws,us,v',t',rfl,rfl,hws,hv'⟩:=r1.snoc_inv ne
  refine⟨_,fun _ _ h=>h,?_⟩
  refine⟨_,rfl, .inl ⟨rfl,_,SqL.of hw1⟩,wt,ws++[v'],v',rfl,rfl,hw1,by simp,?_⟩
  rw[List.dropLast_concat]
  have kt:∀{H2:Hp},(∀c u,c≠wt→c≠pl→H1 c=some u→H2 c=some u)→∀b zs,H1 b=some (.tup zs)→H2 b=some (.tup zs):=fun{H2} e b zs h=>e b _ (fun z=>by rw[z,hw1]at h;cases h) (fun z=>by rw[z,hp1]at h;cases h) h
  have rev1:pcss (us++[t']).reverse=pcs t'++pcss us.reverse:=by rw[List.reverse_append];rfl
  rw[rev1]at htot tot lts
  rw[rev1]
  have lt1:=pcs_ne t'
  rw[List.length_append]at tot lts
  have keepH:∀{H2:Hp},(∀c u,c≠wt→c≠pl→H1 c=some u→H2 c=some u)→Same H H2:=fun{H2} e c u h=>e c u (fun z=>by rw[z,hwH]at h;cases h) (fun z=>by rw[z,hpl]at h;cases h) (sm _ _ h)
  have k2:∀c u,c≠wt→c≠pl→H1 c=some u→upd H1 wt (.lst ws) c=some u:=fun c u h1 _ h=>by rw[upd_ne h1];exact h
  have hp2:upd H1 wt (.lst ws) pl=some (.lst (ps.map V.str)):=by rw[upd_ne pw];exact hp1
  have wo':=wo t' (by simp)
  have lw:=hws.length
  refine⟨_,rfl,_,_,_,_,rfl,rep_ty (hv'.mono (kt k2)),kit_tup K t',_,rfl,?_⟩
  have k3:∀(o:HO) c u,c≠wt→c≠pl→H1 c=some u→upd (upd H1 wt (.lst ws)) pl o c=some u:=fun o c u h1 h2 h=>by rw[upd_ne h2];exact k2 c u h1 h2 h
  have woU:∀t∈us,WOk t:=fun t ht=>wo t (List.mem_append_left _ ht)
  cases hv' with
  |int i=>
   have A:AtomOk (.int i):=by
    rcases wo' with h|h
    ·cases h with|«at» A=>exact A
    ·cases h
   have e1:pcs (.int i)=[Str.ofString (toString i)]:=by rw[pcs_at A];rfl
   rw[e1]at htot tot lts ⊢
   refine iteF ⟨_,rfl, .inl ⟨rfl,_,SqL.of hp2⟩,_,rfl, .inl ⟨i,rfl,A.lg i rfl,pl,_, .str (toString i),rfl,rfl,hp2,small' (by rw[List.length_map];omega),?_⟩⟩
   refine⟨(pcss us.reverse).length,by simp,_,ws,us,ps++[Str.ofString (toString i)],rfl,by rw[upd_ne pw.symm,upd_same],hws.mono (kt (k3 _)),woU,by rw[upd_same,List.map_append];rfl,by rw[List.append_assoc];exact htot,rfl,keepH (k3 _)⟩
  |str z hz=>
   have e1:pcs (.str z)=[z]:=by simp[pcs]
   rw[e1]at htot tot lts ⊢
   refine iteF ⟨_,rfl, .inl ⟨rfl,_,SqL.of hp2⟩,_,rfl, .inr ⟨z,rfl,pl,_, .str z,rfl,rfl,hp2,small' (by rw[List.length_map];omega),?_⟩⟩
   refine⟨(pcss us.reverse).length,by simp,_,ws,us,ps++[z],rfl,by rw[upd_ne pw.symm,upd_same],hws.mono (kt (k3 _)),woU,by rw[upd_same,List.map_append];rfl,by rw[List.append_assoc];exact htot,rfl,keepH (k3 _)⟩
  |@tup a' xs' ts' ha' r'=>
   have tr:∀t∈ts',Tr 21 t:=by
    rcases wo' with h|h
    ·cases h with
     |«at» A=>exact absurd rfl (A.nt _)
     |tp h=>exact fun t ht=>(h t ht).mono (by decide)
    ·cases h
   have e1:pcs (.tup ts')=("(":Str)::(pcss ts'++[(")":Str)]):=by rw[pcs]
   rw[e1]at htot tot lts ⊢
   have lr:=r'.length
   have lt':=pcss_ge ts'
   simp only[List.length_cons,List.length_append,List.length_nil]at tot lts
   refine iteT ⟨_,rfl, .inl ⟨rfl,_,SqL.of hp2⟩,pl,_, .str "(",rfl,rfl,hp2,small' (by rw[List.length_map];omega),?_⟩
   have hw3:upd (upd H1 wt (.lst ws)) pl (.lst (ps.map V.str++[.str "("])) wt=some (.lst ws):=by rw[upd_ne pw.symm,upd_same]
   refine⟨_,rfl, .inl ⟨rfl,_,SqL.of hw3⟩,wt,ws, .str ")",rfl,rfl,hw3,small' (by omega),?_⟩
   have na:a'≠wt:=fun z=>by rw[z,hw1]at ha';cases ha'
   have ha4:upd (upd (upd H1 wt (.lst ws)) pl (.lst (ps.map V.str++[.str "("]))) wt (.lst (ws++[.str ")"])) a'=some (.tup xs'):=by rw[upd_ne na];exact kt (k3 _) _ _ ha'
   refine⟨_,rfl, .inl ⟨rfl,_,SqL.of upd_same⟩,_,rfl,a',xs',rfl,SqT.of ha4,fun b hb=>?_⟩
   have bw:wt≠b:=fun z=>by rw[←z,upd_same]at hb;cases hb
   have k6:∀c u,c≠wt→c≠pl→H1 c=some u→upd (upd (upd (upd (upd H1 wt (.lst ws)) pl (.lst (ps.map V.str++[.str "("]))) wt (.lst (ws++[.str ")"]))) b (.lst xs'.reverse)) wt (.lst (ws++[.str ")"]++xs'.reverse)) c=some u:=fun c u h1 h2 h=>by
    have h3:=k3 (.lst (ps.map V.str++[.str "("])) c u h1 h2 h
    have cb:c≠b:=fun z=>by rw[←z,upd_ne h1,h3]at hb;cases hb
    rw[upd_ne h1,upd_ne cb,upd_ne h1]
    exact h3
   refine⟨wt,b,_,_,rfl,rfl,by rw[upd_ne bw,upd_same],upd_same,small (by simp only[List.length_append,List.length_reverse,List.length_cons,List.length_nil];omega),?_⟩
   have plb:pl≠b:=fun z=>by rw[←z,upd_ne pw,upd_same]at hb;cases hb
   have rvs:(us++[T.str ")"]++ts'.reverse).reverse=ts'++(T.str ")"::us.reverse):=by simp
   have pv1:pcss (us++[T.str ")"]++ts'.reverse).reverse=pcss ts'++((")":Str)::pcss us.reverse):=by
    rw[rvs,pcss_app,pcss]
    simp[pcs]
   refine⟨(pcss ts'++((")":Str)::pcss us.reverse)).length,by simp,_,ws++[.str ")"]++xs'.reverse,us++[.str ")"]++ts'.reverse,ps++[("(":Str)],rfl,upd_same,?_,?_,?_,?_,by rw[pv1],keepH k6⟩
   ·exact((hws.mono (kt k6)).snoc (.str ")" (by decide+kernel))).append ((r'.mono (kt k6)).rev)
   ·intro t ht
    rcases List.mem_append.mp ht with h|h
    ·rcases List.mem_append.mp h with h|h
     ·exact woU t h
     ·exact .inr (List.mem_singleton.mp h)
    ·exact .inl (tr t (by simpa using h))
   ·rw[upd_ne pw,upd_ne plb,upd_ne pw,upd_same,List.map_append]
    rfl
   ·rw[pv1,List.append_assoc,←htot]
    simp
 ·have c1:¬(0:Int)<vs.length:=of_decide_eq_false (Bool.eq_false_iff.mpr c)
  have e0:vs=[]:=List.eq_nil_of_length_eq_zero (by omega)
  subst e0
  cases r1
  simp[pcss]at htot
  refine⟨_,rfl,q pl H1 sm hpl ?_⟩
  rw[hp1,htot]
end
abbrev s_sht:Stmt:=top 31
abbrev s_sh:Stmt:=top 32
theorem rep_parts (x y z:Str):∃ps:List Str,x=Str.join y ps∧Txt.replace x y z=Str.join z ps:=by
 unfold Txt.replace
 split
 ·exact⟨[x],rfl,rfl⟩
 ·refine⟨_,?_,StrLaws.glued_eq_join z _⟩
  obtain⟨f,h⟩:=StrLaws.occ_chain x y (x.length+1)
  rw[StrLaws.partsBetween_eq,StrLaws.join_partsFrom x y _ 0 f h,StrLaws.sub_whole]
theorem words_same {y z:List Nat}(h:∀a b,wordsL (a++(y.flatMap fC++b))=wordsL (a++(z.flatMap fC++b))):∀(ps:List (List Nat)) (a:List Nat),wordsL (a++(joinL y ps).flatMap fC)=wordsL (a++(joinL z ps).flatMap fC)
 |[],a=>rfl
 |[p],a=>rfl
 |p::q::r,a=>by
  have ih:=words_same h (q::r) (a++p.flatMap fC++z.flatMap fC)
  show wordsL (a++(p++y++joinL y (q::r)).flatMap fC)=wordsL (a++(p++z++joinL z (q::r)).flatMap fC)
  rw[List.flatMap_append,List.flatMap_append,List.flatMap_append,List.flatMap_append]
  have h1:=h (a++p.flatMap fC) ((joinL y (q::r)).flatMap fC)
  simp only[List.append_assoc]at h1 ih ⊢
  rw[h1,ih]
theorem join_le {y z:List Nat}(h:z.length≤y.length):∀ps:List (List Nat),(joinL z ps).length≤(joinL y ps).length
 |[]=>Nat.le_refl _
 |[p]=>Nat.le_refl _
 |p::q::r=>by
  have ih:=join_le h (q::r)
  show(p++z++joinL z (q::r)).length≤(p++y++joinL y (q::r)).length
  simp only[List.length_append]
  omega
theorem pieces_rep {x y z:Str}(h:∀a b,wordsL (a++(y.cps.toList.flatMap fC++b))=wordsL (a++(z.cps.toList.flatMap fC++b)))(hl:z.length≤y.length):
  piecesL (Txt.replace x y z).cps.toList=piecesL x.cps.toList∧(Txt.replace x y z).length≤x.length:=by
 obtain⟨ps,e1,e2⟩:=rep_parts x y z
 have w:=words_same h (ps.map (·.cps.toList)) []
 have hl':z.cps.toList.length≤y.cps.toList.length:=by rw[len_toList,len_toList];exact hl
 refine⟨?_,?_⟩
 ·rw[e2]
  conv=>rhs;rw[e1]
  rw[join_cps,join_cps]
  unfold piecesL
  rw[spaced_is,spaced_is]
  simp only[List.nil_append]at w
  exact w.symm
 ·rw[e2]
  conv=>rhs;rw[e1]
  rw[←len_toList,←len_toList (Str.join y ps),join_cps,join_cps]
  exact join_le hl' _
theorem sm1 (a b:List Nat):wordsL (a++(("( ":Str).cps.toList.flatMap fC++b))=wordsL (a++(("(":Str).cps.toList.flatMap fC++b)):=by
 rw[show("( ":Str).cps.toList.flatMap fC=[32,40,32,32] by decide+kernel,show("(":Str).cps.toList.flatMap fC=[32,40,32] by decide+kernel]
 show wordsL (a++32::([40]++32::(32::b)))=wordsL (a++32::([40]++32::b))
 rw[words_app,words_app,words_app,words_app,words_blank]
theorem sm2 (a b:List Nat):wordsL (a++((" )":Str).cps.toList.flatMap fC++b))=wordsL (a++((")":Str).cps.toList.flatMap fC++b)):=by
 rw[show(" )":Str).cps.toList.flatMap fC=[32,32,41,32] by decide+kernel,show(")":Str).cps.toList.flatMap fC=[32,41,32] by decide+kernel]
 show wordsL (a++32::(32::([41]++32::b)))=wordsL (a++32::([41]++32::b))
 rw[words_app,words_app,words_blank]
theorem opn_join:∀(ps:List Str) (l:List Nat) (qs:List (List Nat)),ps≠[]→Cls l qs→(∀p∈ps,PcOk p)→Opn (l++joinL [32] (ps.map (·.cps.toList))) (qs++ps.map (·.cps.toList))
 |[],_,_,h,_,_=>absurd rfl h
 |p::r,l,qs,_,hc,ok=>by
  have one:Opn (l++p.cps.toList) (qs++[p.cps.toList]):=by
   rcases(ok p (by simp)).ok with hb|⟨_,hcl,hne⟩
   ·have:p="("∨p=")":=by
     have:=of_decide_eq_true hb
     unfold brL at this
     simpa using this
    rcases this with rfl|rfl
    ·rw[lb_cps];exact hc.opn.lb.opn
    ·rw[rb_cps];exact hc.opn.rb.opn
   ·exact hc.word hcl hne
  cases r with
  |nil=>exact one
  |cons q r=>
   have c2:=one.gap1 (g:=[32]) (fun c hc=>.inl (by simpa using hc)) (by decide)
   have ih:=opn_join (q::r) _ _ (by simp) c2 fun x hx=>ok x (List.mem_cons_of_mem _ hx)
   have e:l++joinL [32] ((p::q::r).map (·.cps.toList))=l++p.cps.toList++[32]++joinL [32] ((q::r).map (·.cps.toList)):=by
    show l++(p.cps.toList++[32]++joinL [32] ((q::r).map fun x:Str=>x.cps.toList))=_
    simp
   rw[e]
   have e2:qs++(p::q::r).map (·.cps.toList)=qs++[p.cps.toList]++(q::r).map (·.cps.toList):=by simp
   rw[e2]
   exact ih
theorem join_wtsP:∀ps:List Str,(joinL [32] (ps.map (·.cps.toList))).length≤wts ps
 |[]=>by simp[joinL]
 |[p]=>by
  rw[wts_cons,wts_nil]
  unfold wt
  show p.cps.toList.length≤_
  rw[len_toList]
  omega
 |p::q::r=>by
  have ih:=join_wtsP (q::r)
  rw[wts_cons]
  unfold wt
  show(p.cps.toList++[32]++joinL [32] ((q::r).map fun x:Str=>x.cps.toList)).length≤_
  simp only[List.length_append,List.length_cons,List.length_nil]
  rw[len_toList]
  omega
def shZ (ps:List Str):Str:=Txt.replace (Txt.replace (Txt.join " " ps) "( " "(") " )" ")"
theorem shZ_ok {ps:List Str}(hn:ps≠[])(ok:∀p∈ps,PcOk p):piecesS (shZ ps)=ps∧(shZ ps).length≤wts ps∧(Txt.join " " ps).length≤wts ps∧(Txt.replace (Txt.join " " ps) "( " "(").length≤wts ps:=by
 have ej:(Txt.join " " ps).cps.toList=joinL [32] (ps.map (·.cps.toList)):=by
  show(Builtin.Str.glued " " ps).cps.toList=_
  rw[StrLaws.glued_eq_join,join_cps,show(" ":Str).cps.toList=[32] by decide+kernel]
 have lj:(Txt.join " " ps).length≤wts ps:=by rw[←len_toList,ej];exact join_wtsP ps
 obtain⟨p1,l1⟩:=pieces_rep (x:=Txt.join " " ps) sm1 (by decide+kernel)
 obtain⟨p2,l2⟩:=pieces_rep (x:=Txt.replace (Txt.join " " ps) "( " "(") sm2 (by decide+kernel)
 have o:=opn_join ps [] [] hn cls_nil ok
 simp only[List.nil_append]at o
 have e0:=o.end
 rw[←ej]at e0
 refine⟨pieces_eq ?_,by unfold shZ;omega,lj,by omega⟩
 unfold shZ
 rw[p2,p1,e0]
inductive spSht (vs:List V)(H:Hp)(Q:VK)(E_:XK):Prop where
 |mk (a:Addr) (xs:List V) (l:List T):vs=[.ref a]→H a=some (.tup xs)→Reps H xs l→l≠[]→(∀t∈l,Tr 20 t)→wts (pcss l)≤5800→(∀H',Same H H'→Q (.str (shZ (pcss l))) H')→spSht vs H Q E_
inductive spSh (vs:List V)(H:Hp)(Q:VK)(E_:XK):Prop where
 |mk (v:V) (t:T):vs=[v]→Rep H v t→Tr 20 t→wts (pcs t)≤5800→(∀H',Same H H'→Q (.str (shZ (pcs t))) H')→spSh vs H Q E_
section
variable {P:Program}{w:World}{K:PySem.W.Frag}{mg:Str→Option Value}{base:Heap}{f:Addr}{fd:FuncData}
theorem sc_sht:FnScope ["things","text"] ["things"] (defScope s_sht):=⟨rfl,rfl,rfl,by decide+kernel,rfl,by decide+kernel,by decide+kernel⟩
theorem sc_sh:FnScope ["thing"] ["thing"] (defScope s_sh):=⟨rfl,rfl,rfl,by decide+kernel,rfl,by decide+kernel,by decide+kernel⟩
theorem pcss_ne {l:List T}(h:l≠[]):pcss l≠[]:=fun e=>by
 have:=pcss_ge l
 rw[e]at this
 exact h (List.eq_nil_of_length_eq_zero (by simpa using this))
theorem sum_wts (ps:List Str):(ps.map (·.length)).sum+ps.length≤wts ps:=by
 induction ps with
 |nil=>simp[wts]
 |cons p ps ih=>
  rw[wts_cons]
  unfold wt
  simp only[List.map_cons,List.sum_cons,List.length_cons]
  omega
set_option maxHeartbeats 4000000 in
theorem ok_sht (F:Fun K "shown_things" "shown_things" s_sht f fd)(ml:mg "len"=none)(hm:∃t,mg "MOST_SIGNS"=some (.int 6000 t))(h1:Has P w K mg base 1 "shown_pieces" ["things"] spShp):FnOk P w K mg base CX0 2 f fd ["things"] spSht:=by
 refine F.ok sc_sht (fun cdv A outer s H vs Q E hr h=>?_)
 obtain⟨a,xs,l,rfl,ha,rl,ln,tl,hw,q⟩:=h
 obtain⟨t0,hm⟩:=hm
 refine⟨_,pss_cons (pset 1 sc_sht.nd (PE1.pe (pe_rep1 (pe_rep1 (pe1_bm PySem.F.plainAttrs_str PySem.F.slot_str_join PySem.F.type_str_join mt_join pe1_str (pa_cons (pcall h1 hr (by decide) rfl (pa_cons (pv 0) pa_nil)) pa_nil))))))
  (pss_cons (ps_if (pt_cmpR op_le (pe_callB call_len_str rfl ml PySem.boot_len (pa_cons (pv 1) pa_nil)) (pe_glob (v:=.int 6000) rfl hm ⟨_,rfl⟩)) (pss_one (ps_ret (pv 1))) pss_nil)
  (pss_one ps_never)),?_⟩
 obtain⟨e1,e2,e3,e4⟩:=shZ_ok (pcss_ne ln) fun p hp=>(trs_pcss tl p hp).1
 have sw:=sum_wts (pcss l)
 refine⟨rfl,_,rfl,a,xs,l,rfl,ha,rl,fun t ht=>(tl t ht).mono (by decide),hw,fun p H1 s1 hp hp1=>?_⟩
 refine⟨" ",p,pcss l,rfl,rfl,hp1,by rw[show(" ":Str).length=1 by decide+kernel];omega,?_⟩
 refine⟨_,rfl,by rw[show("(":Str).length=1 by decide+kernel];omega,_,rfl,by rw[show(")":Str).length=1 by decide+kernel];omega,?_⟩
 refine⟨_,rfl,shZ (pcss l),rfl,small (by omega),_,_,rfl,rfl,_,rfl,?_⟩
 rw[decide_eq_true (by omega)]
 exact iteT ⟨_,rfl,q H1 s1⟩
theorem ok_sh (F:Fun K "shown" "shown" s_sh f fd)(h1:Has P w K mg base 2 "shown_things" ["things"] spSht):FnOk P w K mg base CX0 3 f fd ["thing"] spSh:=by
 refine F.ok sc_sh (fun cdv A outer s H vs Q E hr h=>?_)
 obtain⟨v,t,rfl,rt,tr,hw,q⟩:=h
 refine⟨_,pss_one (ps_ret (pcall h1 hr (by decide) rfl (pa_cons (pe_tup (pa_cons (pv 0) pa_nil)) pa_nil))),?_⟩
 refine⟨_,rfl,small (by show 1≤1000000;decide),fun p hp=>?_⟩
 have e1:=same_new hp (.tup [v])
 refine⟨p,[v],[t],rfl,upd_same, .cons (rt.same e1) .nil,by simp,fun x hx=>by rw[List.mem_singleton.mp hx];exact tr,by rw[pcss_one];exact hw,fun H' e'=>?_⟩
 rw[pcss_one]
 exact q H' (e1.trans e')
end
abbrev s_shpr:Stmt:=top 33
abbrev s_law:Stmt:=top 107
abbrev nL:List Str:=["_law_script","_law_state","_law_due","_law_text","_law_own","_law_k"]
inductive spLaw (K:PySem.W.Frag)(vs:List V)(H:Hp)(Q:VK)(E_:XK):Prop where
 |mk (a:Addr) (ns:List Int):vs=[.ref a]→SqL K H a (ns.map V.int)→ns.length≤63→(∀H',Q (.bl true) H')→spLaw K vs H Q E_
section
variable {P:Program}{w:World}{K:PySem.W.Frag}{mg:Str→Option Value}{base:Heap}{f:Addr}{fd:FuncData}
theorem sc_shpr:FnScope ["program"] ["program"] (defScope s_shpr):=⟨rfl,rfl,rfl,by decide+kernel,rfl,by decide+kernel,by decide+kernel⟩
theorem ok_shpr (F:Fun K "shown_program" "shown_program" s_shpr f fd)(h1:Has P w K mg base 2 "shown_things" ["things"] spSht):FnOk P w K mg base CX0 3 f fd ["program"] spSht:=by
 refine F.ok sc_shpr (fun cdv A outer s H vs Q E hr h=>?_)
 obtain⟨a,xs,l,rfl,ha,rl,ln,tl,hw,q⟩:=h
 refine⟨_,pss_one (ps_ret (pcall h1 hr (by decide) rfl (pa_cons (pv 0) pa_nil))),?_⟩
 exact⟨_,rfl,a,xs,l,rfl,ha,rl,ln,tl,hw,q⟩
theorem sc_law:FnScope nL ["_law_script"] (defScope s_law):=⟨rfl,rfl,rfl,by decide+kernel,rfl,by decide+kernel,by decide+kernel⟩
set_option maxHeartbeats 2000000 in
theorem ok_law (F:Fun K "law" "law" s_law f fd)(mr:mg "range"=none)(mi:mg "isinstance"=none)(ms:mg "str"=none)(ma:mg "all"=none)(h0:Has P w K mg base 1 "_law_drawn" ["_law_script"] (spDrawn K))(h2:Has P w K mg base 24 "_law_program" ["_law_state"] spProgram)
  (h3:Has P w K mg base 22 "_law_pieces" ["_law_thing"] (spPc 21)) (h4:Has P w K mg base 3 "_law_written" ["_law_state","_law_pieces_here"] spWr) (h5:Has P w K mg base 22 "_law_same" ["_law_told","_law_due"] (spSame 21)) (h6:Has P w K mg base 21 "read" ["text"] spRead)
  (h7:Has P w K mg base 7 "things_of" ["text"] spThs) (h8:Has P w K mg base 3 "shown_program" ["program"] spSht) (h9:Has P w K mg base 3 "shown" ["thing"] spSh):
  FnOk P w K mg base CX0 25 f fd ["_law_script"] (spLaw K):=by
 refine F.ok sc_law (fun cdv A outer s H vs Q E hr h=>?_)
 obtain⟨a,ns,rfl,ha,hl,q⟩:=h
 refine⟨_,pss_cons (pset 1 sc_law.nd (pcall h0 hr (by decide) rfl (pa_cons (pv 0) pa_nil)))
  (pss_cons (pset 2 sc_law.nd (pcall h2 hr (by decide) rfl (pa_cons (pv 1) pa_nil)))
  (pss_cons (pset 3 sc_law.nd (pcall h8 hr (by decide) rfl (pa_cons (pv 2) pa_nil)))
  (pss_cons (ps_if (PW.pt (pw_or (pt_not (pt_val (pe_callB call_isi rfl mi boot_isinstance (pa_cons (pv 3) (pa_cons (pe_bltn (v:=.ty "str") rfl ms boot_str rfl) pa_nil)))))
    (pw_or (pt_not (pt_val (pcall h5 hr (by decide) rfl (pa_cons (pcall h6 hr (by decide) rfl (pa_cons (pv 3) pa_nil)) (pa_cons (pv 2) pa_nil)))))
    (pw_or1 (pt_not (pt_val (pcall h5 hr (by decide) rfl (pa_cons (pcall h7 hr (by decide) rfl (pa_cons (pv 3) pa_nil)) (pa_cons (pv 2) pa_nil))))))))) (pss_one (ps_ret pe_bl)) pss_nil)
  (pss_cons (pset 4 sc_law.nd (pcall h4 hr (by decide) rfl (pa_cons (pv 1) (pa_cons (pe_slice (slL K) (pcall h3 hr (by decide) rfl (pa_cons (pv 2) pa_nil)) (po_some pe_int) (po_some (pe_un un_neg pe_int))) pa_nil))))
  (pss_cons (ps_for PassesOwn.never rfl (pi_range1 rfl mr (pa_cons pe_int pa_nil)) (pg_name (i:=5) sc_law.nd rfl (Or.inl rfl))
   (pss_cons (pset 4 sc_law.nd (pcall h8 hr (by decide) rfl (pa_cons (pcall h6 hr (by decide) rfl (pa_cons (pv 4) pa_nil)) pa_nil)))
   (pss_one (ps_if (pt_not (pt_val (pcall h5 hr (by decide) rfl (pa_cons (pcall h6 hr (by decide) rfl (pa_cons (pv 4) pa_nil)) (pa_cons (pv 2) pa_nil))))) (pss_one (ps_ret pe_bl)) pss_nil))))
  (pss_one (ps_ret (pe_callB (call_all rfl) rfl ma boot_all (pa_cons (pe_lc (defScope s_law) nL [] [] (by decide+kernel) (pi_tup (pv 2)) (fun C s₀ H₀ ex=>pts_nil)
   (fun C s₀ H₀ ex=>pcall h5 hr (by decide) rfl (pa_cons (pcall h7 hr (by decide) rfl (pa_cons (pcall h9 hr (by decide) rfl (pa_cons (pv 0) pa_nil)) pa_nil)) (pa_cons (pe_tup (pa_cons (pv 0) pa_nil)) pa_nil)))) pa_nil))))))))),?_⟩
 refine⟨_,rfl,a,ns,rfl,ha,hl,fun st H1 e1 hst1 hs=>?_⟩
 refine⟨_,rfl,st,rfl,hs,fun v ts H3 rv pk hw g3=>?_⟩
 have tr21:=pk.tr
 have tr:∀t∈ts,Tr 20 t:=by
  cases tr21 with
  |«at» A=>exact absurd A.th (by intro h;cases h)
  |tp h=>exact h
 have ne:ts≠[]:=by
  obtain⟨ds,m,e,_⟩:=pk
  rw[e]
  simp
 have szT:=(wts_sz tr21).1
 have wt8:=wts_tup ts
 have pks:=trs_pcss tr
 have sz:szs ts<100000:=by
  simp only[T.sz]at szT
  omega
 have ep1:∀{x:Str},piecesS x=pcss ts→pars [[]] (piecesS x)=some [ts]:=fun h=>by rw[h];exact pars_all tr
 have ep2:∀{x:Str},piecesS x=pcss ts→∀p∈piecesS x,p.length≤100:=fun h=>by rw[h];exact fun p hp=>(pks p hp).2
 obtain⟨s1,s2,_,_⟩:=shZ_ok (pcss_ne ne) fun p hp=>(pks p hp).1
 cases rv with
 |@tup p us _ hp r=>
 refine⟨_,rfl,p,us,ts,rfl,hp,r,ne,tr,by omega,fun H4 e4=>?_⟩
 have r4:Rep H4 (.ref p) (.tup ts):=.tup (e4 _ _ hp) (r.same e4)
 have hs4:=g3.ok.same e4
 refine⟨_,rfl,_,_,_,_,rfl,rep_ty (.str (shZ (pcss ts)) (by omega)),kit_str K (.str (shZ (pcss ts))),_,rfl,iteF ?_⟩
 refine⟨_,rfl,_,ts,rfl,by omega,ep1 s1,ep2 s1,sz,pk.prog,fun v1 H5 e5 r5=>⟨_,rfl,v1, .ref p, .tup ts,rfl,r5,r4.same e5,tr21,by omega,fun H6 e6=>⟨_,rfl,iteF ?_⟩⟩⟩
 refine⟨_,rfl,_,ts,rfl,by omega,ep1 s1,ep2 s1,fun v2 H7 e7 r7=>⟨_,rfl,v2, .ref p, .tup ts,rfl,r7,((r4.same e5).same e6).same e7,tr21,by omega,fun H8 e8=>⟨_,rfl,iteF ?_⟩⟩⟩
 have e48:=((e5.trans e6).trans e7).trans e8
 have r8:=r4.same e48
 have hs8:=hs4.same e48
 refine⟨_,rfl,_,rfl, .ref p, .tup ts,rfl,r8,tr21,by omega,fun pl H9 e9 hpl hl9=>?_⟩
 have hs9:=hs8.same e9
 refine⟨1,rfl,1,rfl,-1,rfl,pl,_,rfl,SqL.of hl9,fun u hu=>?_⟩
 have cm:cutV ((pcs (.tup ts)).map V.str) (some 1) (some (-1))=(pcss ts).map V.str:=by
  rw[pcs,List.map_cons,List.map_append]
  exact cut_mid _ _ _
 have eu:=same_new hu (.lst (cutV ((pcs (.tup ts)).map V.str) (some 1) (some (-1))))
 refine⟨st,u,pcss ts,rfl,hs9.same eu,fresh_st hs9 hu,by rw[upd_same,cm],fun p hp=>(pks p hp).1,by omega,fun z2 H10 ho lz g10=>?_⟩
 have r10:Rep H10 (.ref p) (.tup ts):=((r8.same e9).same eu).grow g10 (hs9.same eu)
 refine⟨2,rfl,by decide,by decide,for_range (n:=(2:Int).toNat) (fun i σ H'=>∃(o:Option V) (x:Str),σ=[some (.ref a),some (.ref st),some (.ref p),some (.str (shZ (pcss ts))),some (.str x),o]∧piecesS x=pcss ts∧x.length≤6000∧Rep H' (.ref p) (.tup ts))
  ⟨none,z2,rfl,pieces_of_opn ho,by omega,r10⟩ ?_ ?_⟩
 ·rintro i σ H11 hi ⟨o,x,rfl,px,lx,r11⟩
  refine⟨_,rfl,x,ts,rfl,lx,ep1 px,ep2 px,sz,pk.prog,fun v1 H12 e12 r12=>?_⟩
  cases r12 with
  |@tup p1 us1 _ hp1 r1=>
  refine⟨p1,us1,ts,rfl,hp1,r1,ne,tr,by omega,fun H13 e13=>?_⟩
  refine⟨_,rfl,_,ts,rfl,by omega,ep1 s1,ep2 s1,sz,pk.prog,fun v3 H14 e14 r14=>⟨_,rfl,v3, .ref p, .tup ts,rfl,r14,((r11.same e12).same e13).same e14,tr21,by omega,fun H15 e15=>⟨_,rfl,iteF ?_⟩⟩⟩
  exact⟨_,_,rfl,s1,by omega,(((r11.same e12).same e13).same e14).same e15⟩
 ·rintro σ H11 ⟨o,x,rfl,px,lx,r11⟩
  cases r11 with
  |@tup _ us2 _ hp2 r2=>
  have hl24:=pk.len
  refine⟨_,rfl,p,rfl,⟨us2,SqT.of hp2⟩,?_⟩
  refine comp_tup (xs:=us2) (fun i vs H2=>Same H11 H2∧vs=(List.replicate i true).map V.bl) ⟨Same.refl _,rfl⟩ ?_ ?_ ?_
  ·rintro i vs H2 hi ⟨e,rfl⟩
   have l2:=r2.length
   refine⟨SqT.of (e _ _ hp2),?_⟩
   rw[List.length_map,List.length_replicate]
   exact small' (by omega)
  ·rintro i y vs H2 hi hy ⟨e,rfl⟩
   have hti:i<ts.length:=by rw[←r2.length];exact hi
   obtain⟨y',e1',e2'⟩:=r2.at_ (List.getElem?_eq_getElem hti)
   rw[hy]at e1'
   cases e1'
   have hm:=List.getElem_mem hti
   generalize ts[i]=t at e2' hm
   have wm:=wts_mem hm
   have tt:=tr t hm
   have pt:=tr_pcs tt
   have hn1:pcs t≠[]:=by cases t<;>simp[pcs]
   obtain⟨c1,c2,_,_⟩:=shZ_ok hn1 fun p hp=>(pt p hp).1
   have c3:pars [[]] (piecesS (shZ (pcs t)))=some [[t]]:=by
    rw[c1,←pcss_one]
    exact pars_all fun x hx=>by rw[List.mem_singleton.mp hx];exact tt
   refine tt1 (iteT ?_)
   refine⟨_,rfl,y,t,rfl,e2'.same e,tt,by omega,fun H12 e12=>?_⟩
   refine⟨_,[t],rfl,by omega,c3,by rw[c1];exact fun p hp=>(pt p hp).2,fun v1 H13 e13 r13=>?_⟩
   refine⟨_,rfl,small (by show 1≤1000000;decide),fun q1 hq1=>?_⟩
   have e14:=same_new hq1 (.tup [y])
   refine⟨v1, .ref q1, .tup [t],rfl,r13.same e14, .tup upd_same (.cons (e2'.same (((e.trans e12).trans e13).trans e14)) .nil), .tp fun x hx=>by rw[List.mem_singleton.mp hx];exact tt,by rw[wts_tup,pcss_one];omega,fun H15 e15=>nx hi ⟨(((e.trans e12).trans e13).trans e14).trans e15,?_⟩⟩
   rw[List.replicate_succ',List.map_append]
   rfl
  ·rintro vs H2 ⟨e,rfl⟩ l hl'
   refine⟨l,List.replicate us2.length true,rfl,SqL.of upd_same,?_⟩
   have z:(List.replicate us2.length true).all id=true:=by simp
   rw[z]
   exact q _
end
def DefIs (K:PySem.W.Frag)(x:Str)(st:Stmt):Prop:=∃f fd,PySem.W.nsIn K mainGlobals x=some (some (.ref f))∧Fun K x x st f fd
theorem def_mk {K:PySem.W.Frag}{x:Str}{st:Stmt}{f:Addr}{oc:Value}{od an:Option Addr}{osl:Array (Option Value)}{kV doc pm cdv ct:Value}(a:PySem.W.nsIn K mainGlobals x=some (some (.ref f)))
  (l:K.lookup f=some ⟨oc,od, .func (PySem.W.fnOf x x (defArgs st) (defBody st) (defScope st) .none kV doc pm an cdv ct),osl⟩) (c:PySem.W.codeIn K cdv x=true) (k:PySem.W.keepIn K (.ref f)=true):DefIs K x st:=⟨f,_,a,fun_mk l c k⟩
theorem val_str {K:PySem.W.Frag}{x z y:Str}{t:Tok}(a:PySem.W.nsIn K mainGlobals x=some (some (.str z t)))(e:z=y):∃t,PySem.W.nsIn K mainGlobals x=some (some (.str y t)):=⟨t,by rw[←e];exact a⟩
theorem val_int {K:PySem.W.Frag}{x:Str}{i j:Int}{t:Tok}(a:PySem.W.nsIn K mainGlobals x=some (some (.int i t)))(e:i=j):∃t,PySem.W.nsIn K mainGlobals x=some (some (.int j t)):=⟨t,by rw[←e];exact a⟩
theorem abs_rel {x:V}{u:Value}(h:absV u=some x):RelV x u:=by
 cases u<;>simp only[absV,Option.some.injEq,reduceCtorEq]at h
 all_goals first
  |(subst h;exact rfl)
  |(subst h;exact⟨_,rfl⟩)
theorem vals_abs:∀{xs:List V} {us:List Value},us.map absV=xs.map some→Vals xs us
 |[],[],_=>.nil
 |x::xs,u::us,h=>by
  simp only[List.map_cons,List.cons.injEq]at h
  exact .cons (abs_rel h.1) (vals_abs h.2)
 |[],_::_,h=>by simp at h
 |_::_,[],h=>by simp at h
theorem val_tup {K:PySem.W.Frag}{x:Str}{xs:List V}{a:Addr}{oc:Value}{od:Option Addr}{its:Array Value}{n:Nat}{sl:Array (Option Value)}(h1:PySem.W.nsIn K mainGlobals x=some (some (.ref a)))(h2:K.lookup a=some ⟨oc,od, .seq its n,sl⟩)
  (h3:oc=.type "tuple") (h4:its.size≤sizeLine) (h5:its.toList.map absV=xs.map some):∃a,PySem.W.nsIn K mainGlobals x=some (some (.ref a))∧∀H,SqT K H a xs:=⟨a,h1,fun H=>.inr ⟨_,its,n,h2,h3,rfl,h4,vals_abs h5⟩⟩
theorem law_binds {K:PySem.W.Frag}{x:Str}{st:Stmt}{f:Addr}{fd:FuncData}{p:Str}(F:Fun K x x st f fd)(h:∀(kV doc pm:Value) (an:Option Addr) (cdv ct:Value) (s:Shared) (v:Value),BindsTo s (PySem.W.fnOf x x (defArgs st) (defBody st) (defScope st) .none kV doc pm an cdv ct) ⟨[v],[]⟩ [(p,v)]):
  ∀(s:Shared) (v:Value),BindsTo s fd ⟨[v],[]⟩ [(p,v)]:=by
 obtain⟨oc,od,kV,doc,pm,an,cdv,ct,osl,rfl,lk,hcd⟩:=F.ex
 exact h kV doc pm an cdv ct
structure FormsIs (K:PySem.W.Frag)(w:World)(df x0 x1 x2 x3 x4 x5 x6:Addr):Prop where
 nm:PySem.W.nsIn K mainGlobals "PHRASE_FORMS"=some (some (.ref df))
 n0:PySem.W.nsIn K mainGlobals "named_within"=some (some (.ref x0))
 n1:PySem.W.nsIn K mainGlobals "two_within"=some (some (.ref x1))
 n2:PySem.W.nsIn K mainGlobals "let_within"=some (some (.ref x2))
 n3:PySem.W.nsIn K mainGlobals "ring_within"=some (some (.ref x3))
 n4:PySem.W.nsIn K mainGlobals "case_within"=some (some (.ref x4))
 n5:PySem.W.nsIn K mainGlobals "make_within"=some (some (.ref x5))
 n6:PySem.W.nsIn K mainGlobals "three_within"=some (some (.ref x6))
 dict:StrDict K w df [("fun", .ref x0),("call", .ref x1),("let", .ref x2),("ring", .ref x3),("case", .ref x4),("make", .ref x5),("pick", .ref x0),("plus", .ref x1),("minus", .ref x1),("times", .ref x1),("less", .ref x1),("if", .ref x6)]
theorem forms_mk {K:PySem.W.Frag}{w:World}{df x0 x1 x2 x3 x4 x5 x6:Addr}{oc:Value}{od:Option Addr}{es:Array DictEntry}{n:Nat}{sl:Array (Option Value)}(nm:PySem.W.nsIn K mainGlobals "PHRASE_FORMS"=some (some (.ref df)))(n0:PySem.W.nsIn K mainGlobals "named_within"=some (some (.ref x0)))(n1:PySem.W.nsIn K mainGlobals "two_within"=some (some (.ref x1)))(n2:PySem.W.nsIn K mainGlobals "let_within"=some (some (.ref x2)))(n3:PySem.W.nsIn K mainGlobals "ring_within"=some (some (.ref x3)))(n4:PySem.W.nsIn K mainGlobals "case_within"=some (some (.ref x4)))(n5:PySem.W.nsIn K mainGlobals "make_within"=some (some (.ref x5)))(n6:PySem.W.nsIn K mainGlobals "three_within"=some (some (.ref x6)))(l:K.lookup df=some ⟨oc,od, .dict es n,sl⟩)(hs:(df==sysModules)=false)(hx:Obj.ExactDict ⟨oc,od, .dict es n,sl⟩)(hp:Paired (EntryIs w) [("fun", .ref x0),("call", .ref x1),("let", .ref x2),("ring", .ref x3),("case", .ref x4),("make", .ref x5),("pick", .ref x0),("plus", .ref x1),("minus", .ref x1),("times", .ref x1),("less", .ref x1),("if", .ref x6)] es.toList):∃df x0 x1 x2 x3 x4 x5 x6,FormsIs K w df x0 x1 x2 x3 x4 x5 x6:=⟨df,x0,x1,x2,x3,x4,x5,x6,nm,n0,n1,n2,n3,n4,n5,n6,hs,_,es,n,l,hx,rfl,hp⟩
def fnOf (x0 x1 x2 x3 x4 x5 x6:Addr):Nat→Addr
 |0=>x0
 |1=>x1
 |2=>x2
 |3=>x3
 |4=>x4
 |5=>x5
 |_=>x6
structure DeclsIs (K:PySem.W.Frag)(w:World)(df x0 x1 x2 x3 x4 x5:Addr):Prop where
 nm:PySem.W.nsIn K mainGlobals "DECLARATION_FORMS"=some (some (.ref df))
 n0:PySem.W.nsIn K mainGlobals "is_kind_declaration"=some (some (.ref x0))
 n1:PySem.W.nsIn K mainGlobals "is_record_declaration"=some (some (.ref x1))
 n2:PySem.W.nsIn K mainGlobals "is_face_declaration"=some (some (.ref x2))
 n3:PySem.W.nsIn K mainGlobals "is_part_declaration"=some (some (.ref x3))
 n4:PySem.W.nsIn K mainGlobals "is_maker_declaration"=some (some (.ref x4))
 n5:PySem.W.nsIn K mainGlobals "is_apply_declaration"=some (some (.ref x5))
 dict:StrDict K w df [("kind", .ref x0),("record", .ref x1),("face", .ref x2),("part", .ref x3),("maker", .ref x4),("apply", .ref x5)]
theorem decls_mk {K:PySem.W.Frag}{w:World}{df x0 x1 x2 x3 x4 x5:Addr}{oc:Value}{od:Option Addr}{es:Array DictEntry}{n:Nat}{sl:Array (Option Value)}(nm:PySem.W.nsIn K mainGlobals "DECLARATION_FORMS"=some (some (.ref df)))(n0:PySem.W.nsIn K mainGlobals "is_kind_declaration"=some (some (.ref x0)))(n1:PySem.W.nsIn K mainGlobals "is_record_declaration"=some (some (.ref x1)))(n2:PySem.W.nsIn K mainGlobals "is_face_declaration"=some (some (.ref x2)))(n3:PySem.W.nsIn K mainGlobals "is_part_declaration"=some (some (.ref x3)))(n4:PySem.W.nsIn K mainGlobals "is_maker_declaration"=some (some (.ref x4)))(n5:PySem.W.nsIn K mainGlobals "is_apply_declaration"=some (some (.ref x5)))(l:K.lookup df=some ⟨oc,od, .dict es n,sl⟩)(hs:(df==sysModules)=false)(hx:Obj.ExactDict ⟨oc,od, .dict es n,sl⟩)(hp:Paired (EntryIs w) [("kind", .ref x0),("record", .ref x1),("face", .ref x2),("part", .ref x3),("maker", .ref x4),("apply", .ref x5)] es.toList):∃df x0 x1 x2 x3 x4 x5,DeclsIs K w df x0 x1 x2 x3 x4 x5:=⟨df,x0,x1,x2,x3,x4,x5,nm,n0,n1,n2,n3,n4,n5,hs,_,es,n,l,hx,rfl,hp⟩
def dnOf (x0 x1 x2 x3 x4 x5:Addr):Nat→Addr
 |0=>x0
 |1=>x1
 |2=>x2
 |3=>x3
 |4=>x4
 |_=>x5
theorem us0 {C:List Value→Prop}(us:List Value)(h:us.length=0)(k:C []):C us:=List.eq_nil_of_length_eq_zero h ▸ k
theorem uss {n:Nat}{C:List Value→Prop}(us:List Value)(h:us.length=n+1)(k:∀a r,r.length=n→C (a::r)):C us:=by
 cases us with
 |nil=>exact absurd h.symm (Nat.succ_ne_zero n)
 |cons a r=>exact k a r (Nat.succ.inj h)
@[elab_as_elim] theorem us1 {C:List Value→Prop} (us:List Value) (h:us.length=1) (k:∀a0,C [a0]):C us:=uss us h fun a r h=>us0 (C:=fun r=>C (a::r)) r h (k a)
@[elab_as_elim] theorem us2 {C:List Value→Prop} (us:List Value) (h:us.length=2) (k:∀a0 a1,C [a0,a1]):C us:=uss us h fun a r h=>us1 (C:=fun r=>C (a::r)) r h (k a)
@[elab_as_elim] theorem us3 {C:List Value→Prop} (us:List Value) (h:us.length=3) (k:∀a0 a1 a2,C [a0,a1,a2]):C us:=uss us h fun a r h=>us2 (C:=fun r=>C (a::r)) r h (k a)
@[elab_as_elim] theorem us4 {C:List Value→Prop} (us:List Value) (h:us.length=4) (k:∀a0 a1 a2 a3,C [a0,a1,a2,a3]):C us:=uss us h fun a r h=>us3 (C:=fun r=>C (a::r)) r h (k a)
@[elab_as_elim] theorem us5 {C:List Value→Prop} (us:List Value) (h:us.length=5) (k:∀a0 a1 a2 a3 a4,C [a0,a1,a2,a3,a4]):C us:=uss us h fun a r h=>us4 (C:=fun r=>C (a::r)) r h (k a)
def AllOk (l:PySem.W.OpenLaw)(w:World)(K:PySem.W.Frag)(mg:Str→Option Value)(fa:Addr):Prop:=∃fd:FuncData,(∀(s:Shared) (v:Value),BindsTo s fd ⟨[v],[]⟩ [("_law_script",v)])∧∀base:Heap,K.In base→base.Ns mainGlobals mg→FnOk l.prog w K mg base CX0 25 fa fd ["_law_script"] (spLaw K)
set_option maxHeartbeats 2000000 in
theorem all_mk {l:PySem.W.OpenLaw}{w:World}{K:PySem.W.Frag}{h:Heap}{mg:Str→Option Value}{fa:Addr}(X:K.In h)(G:h.Ns mainGlobals mg)(hfa:mg "law"=some (.ref fa))
  (z_len:PySem.W.nsIn K mainGlobals "len"=some none)
  (z_all:PySem.W.nsIn K mainGlobals "all"=some none)
  (z_isinstance:PySem.W.nsIn K mainGlobals "isinstance"=some none)
  (z_str:PySem.W.nsIn K mainGlobals "str"=some none)
  (z_tuple:PySem.W.nsIn K mainGlobals "tuple"=some none)
  (z_list:PySem.W.nsIn K mainGlobals "list"=some none)
  (z_range:PySem.W.nsIn K mainGlobals "range"=some none)
  (z_int:PySem.W.nsIn K mainGlobals "int"=some none)
  (z_bool:PySem.W.nsIn K mainGlobals "bool"=some none)
  (z_zip:PySem.W.nsIn K mainGlobals "zip"=some none)
  (z_abs:PySem.W.nsIn K mainGlobals "abs"=some none)
  (z_reversed:PySem.W.nsIn K mainGlobals "reversed"=some none)
  (v1:∃t,PySem.W.nsIn K mainGlobals "SMALL_LETTERS"=some (some (.str smallS t)))
  (v2:∃t,PySem.W.nsIn K mainGlobals "GREAT_LETTERS"=some (some (.str greatS t)))
  (v3:∃t,PySem.W.nsIn K mainGlobals "FIGURES"=some (some (.str figS t)))
  (v6:∃t,PySem.W.nsIn K mainGlobals "ARROW"=some (some (.str "->" t)))
  (v4:∃t,PySem.W.nsIn K mainGlobals "MOST_LETTERS"=some (some (.int 8 t)))
  (v7:∃t,PySem.W.nsIn K mainGlobals "MOST_FIGURES"=some (some (.int 30 t)))
  (v8:∃t,PySem.W.nsIn K mainGlobals "MOST_SIGNS"=some (some (.int 6000 t)))
  (v9:∃t,PySem.W.nsIn K mainGlobals "MOST_BRACKETS"=some (some (.int 20 t)))
  (vd:∃t,PySem.W.nsIn K mainGlobals "MOST_DECLARATIONS"=some (some (.int 24 t)))
  (vi:∃t,PySem.W.nsIn K mainGlobals "MOST_ITEMS"=some (some (.int 24 t)))
  (vg:∃t,PySem.W.nsIn K mainGlobals "MOST_GIVERS"=some (some (.int 2 t)))
  (v5:∃a,PySem.W.nsIn K mainGlobals "KEPT"=some (some (.ref a))∧∀H,SqT K H a (keptL.map V.str))
  (fo:∃df x0 x1 x2 x3 x4 x5 x6,FormsIs K w df x0 x1 x2 x3 x4 x5 x6)
  (fd:∃df x0 x1 x2 x3 x4 x5,DeclsIs K w df x0 x1 x2 x3 x4 x5)
  (d11:DefIs K "all_of" s_all_of)
  (d12:DefIs K "is_small" s_is_small)
  (d13:DefIs K "is_name" s_is_name)
  (d14:DefIs K "is_great" s_is_great)
  (d15:DefIs K "is_path" s_is_path)
  (d16:DefIs K "is_variable" s_is_variable)
  (d17:DefIs K "is_word" s_is_word)
  (d18:DefIs K "is_whole" s_is_whole)
  (d19:DefIs K "is_number" s_is_number)
  (d20:DefIs K "is_number_text" s_is_nt)
  (d24:DefIs K "pieces_of" s_pcs)
  (d25:DefIs K "thing_of" s_tho)
  (d26:DefIs K "begin_bracket" s_beg)
  (d27:DefIs K "end_bracket" s_end)
  (d28:DefIs K "things_of" s_ths)
  (d30:DefIs K "shown_pieces" s_shp)
  (d31:DefIs K "shown_things" s_sht)
  (d32:DefIs K "shown" s_sh)
  (d33:DefIs K "shown_program" s_shpr)
  (d38:DefIs K "has_length" s_has_length)
  (d39:DefIs K "all_are" s_all_are)
  (d40:DefIs K "is_list" s_is_list)
  (d41:DefIs K "all_fit" s_all_fit)
  (d42:DefIs K "kinds_within" s_kinds_within)
  (d43:DefIs K "is_kind" s_is_kind)
  (d44:DefIs K "two_within" s_two_within)
  (d45:DefIs K "three_within" s_three_within)
  (d46:DefIs K "named_within" s_named_within)
  (d47:DefIs K "let_within" s_let_within)
  (d48:DefIs K "make_within" s_make_within)
  (d49:DefIs K "is_function_form" s_is_function_form)
  (d50:DefIs K "ring_within" s_ring_within)
  (d51:DefIs K "is_arm_form" s_is_arm_form)
  (d52:DefIs K "case_within" s_case_within)
  (d54:DefIs K "phrases_within" s_phrases_within)
  (d55:DefIs K "is_phrase" s_is_phrase)
  (d56:DefIs K "is_tag_row" s_is_tag_row)
  (d57:DefIs K "is_field_row" s_is_field_row)
  (d58:DefIs K "is_sort_declaration" s_is_sort_declaration)
  (d59:DefIs K "is_kind_declaration" s_is_kind_declaration)
  (d60:DefIs K "is_record_declaration" s_is_record_declaration)
  (d61:DefIs K "is_given_face" s_is_given_face)
  (d62:DefIs K "is_giver" s_is_giver)
  (d63:DefIs K "is_hide_count" s_is_hide_count)
  (d64:DefIs K "is_item" s_is_item)
  (d65:DefIs K "is_face_declaration" s_is_face_declaration)
  (d66:DefIs K "is_body_item" s_is_body_item)
  (d67:DefIs K "is_body" s_is_body)
  (d68:DefIs K "is_part_declaration" s_is_part_declaration)
  (d69:DefIs K "is_maker_declaration" s_is_maker_declaration)
  (d70:DefIs K "is_apply_declaration" s_is_apply_declaration)
  (d72:DefIs K "is_declaration" s_is_declaration)
  (d73:DefIs K "is_main" s_is_main)
  (d74:DefIs K "is_program" s_is_program)
  (d75:DefIs K "read" s_read)
  (d77:DefIs K "_law_next" s_next)
  (d78:DefIs K "_law_drawn" s_drawn)
  (d79:DefIs K "_law_kept" s_kept)
  (d80:DefIs K "_law_letters" s_letters)
  (d81:DefIs K "_law_small" s_small)
  (d82:DefIs K "_law_great" s_great)
  (d83:DefIs K "_law_path" s_path)
  (d84:DefIs K "_law_variable" s_variable)
  (d85:DefIs K "_law_number" s_number)
  (d86:DefIs K "_law_kind_name" s_kind_name)
  (d87:DefIs K "_law_kind" s_kind)
  (d88:DefIs K "_law_leaf" s_leaf)
  (d89:DefIs K "_law_some" s_some)
  (d90:DefIs K "_law_ring" s_ring)
  (d91:DefIs K "_law_case" s_case)
  (d92:DefIs K "_law_phrase" s_phrase)
  (d93:DefIs K "_law_pieces" s_pc)
  (d94:DefIs K "_law_gap" s_gap)
  (d95:DefIs K "_law_written" s_wr)
  (d96:DefIs K "_law_given" s_given)
  (d97:DefIs K "_law_givers" s_givers)
  (d98:DefIs K "_law_some_variables" s_some_variables)
  (d99:DefIs K "_law_some_kinds" s_some_kinds)
  (d100:DefIs K "_law_sort" s_sort)
  (d101:DefIs K "_law_face" s_face)
  (d102:DefIs K "_law_body" s_body)
  (d103:DefIs K "_law_declared" s_declared)
  (d104:DefIs K "_law_program" s_program)
  (d105:DefIs K "_law_fitted" s_fitted)
  (d106:DefIs K "_law_same" s_same)
  (d107:DefIs K "law" s_law):
  AllOk l w K mg fa:=by
 obtain⟨f11,g11,a11,F11⟩:=d11
 obtain⟨f12,g12,a12,F12⟩:=d12
 obtain⟨f13,g13,a13,F13⟩:=d13
 obtain⟨f14,g14,a14,F14⟩:=d14
 obtain⟨f15,g15,a15,F15⟩:=d15
 obtain⟨f16,g16,a16,F16⟩:=d16
 obtain⟨f17,g17,a17,F17⟩:=d17
 obtain⟨f18,g18,a18,F18⟩:=d18
 obtain⟨f19,g19,a19,F19⟩:=d19
 obtain⟨f20,g20,a20,F20⟩:=d20
 obtain⟨f24,g24,a24,F24⟩:=d24
 obtain⟨f25,g25,a25,F25⟩:=d25
 obtain⟨f26,g26,a26,F26⟩:=d26
 obtain⟨f27,g27,a27,F27⟩:=d27
 obtain⟨f28,g28,a28,F28⟩:=d28
 obtain⟨f30,g30,a30,F30⟩:=d30
 obtain⟨f31,g31,a31,F31⟩:=d31
 obtain⟨f32,g32,a32,F32⟩:=d32
 obtain⟨f33,g33,a33,F33⟩:=d33
 obtain⟨f38,g38,a38,F38⟩:=d38
 obtain⟨f39,g39,a39,F39⟩:=d39
 obtain⟨f40,g40,a40,F40⟩:=d40
 obtain⟨f41,g41,a41,F41⟩:=d41
 obtain⟨f42,g42,a42,F42⟩:=d42
 obtain⟨f43,g43,a43,F43⟩:=d43
 obtain⟨f44,g44,a44,F44⟩:=d44
 obtain⟨f45,g45,a45,F45⟩:=d45
 obtain⟨f46,g46,a46,F46⟩:=d46
 obtain⟨f47,g47,a47,F47⟩:=d47
 obtain⟨f48,g48,a48,F48⟩:=d48
 obtain⟨f49,g49,a49,F49⟩:=d49
 obtain⟨f50,g50,a50,F50⟩:=d50
 obtain⟨f51,g51,a51,F51⟩:=d51
 obtain⟨f52,g52,a52,F52⟩:=d52
 obtain⟨f54,g54,a54,F54⟩:=d54
 obtain⟨f55,g55,a55,F55⟩:=d55
 obtain⟨f56,g56,a56,F56⟩:=d56
 obtain⟨f57,g57,a57,F57⟩:=d57
 obtain⟨f58,g58,a58,F58⟩:=d58
 obtain⟨f59,g59,a59,F59⟩:=d59
 obtain⟨f60,g60,a60,F60⟩:=d60
 obtain⟨f61,g61,a61,F61⟩:=d61
 obtain⟨f62,g62,a62,F62⟩:=d62
 obtain⟨f63,g63,a63,F63⟩:=d63
 obtain⟨f64,g64,a64,F64⟩:=d64
 obtain⟨f65,g65,a65,F65⟩:=d65
 obtain⟨f66,g66,a66,F66⟩:=d66
 obtain⟨f67,g67,a67,F67⟩:=d67
 obtain⟨f68,g68,a68,F68⟩:=d68
 obtain⟨f69,g69,a69,F69⟩:=d69
 obtain⟨f70,g70,a70,F70⟩:=d70
 obtain⟨f72,g72,a72,F72⟩:=d72
 obtain⟨f73,g73,a73,F73⟩:=d73
 obtain⟨f74,g74,a74,F74⟩:=d74
 obtain⟨f75,g75,a75,F75⟩:=d75
 obtain⟨f77,g77,a77,F77⟩:=d77
 obtain⟨f78,g78,a78,F78⟩:=d78
 obtain⟨f79,g79,a79,F79⟩:=d79
 obtain⟨f80,g80,a80,F80⟩:=d80
 obtain⟨f81,g81,a81,F81⟩:=d81
 obtain⟨f82,g82,a82,F82⟩:=d82
 obtain⟨f83,g83,a83,F83⟩:=d83
 obtain⟨f84,g84,a84,F84⟩:=d84
 obtain⟨f85,g85,a85,F85⟩:=d85
 obtain⟨f86,g86,a86,F86⟩:=d86
 obtain⟨f87,g87,a87,F87⟩:=d87
 obtain⟨f88,g88,a88,F88⟩:=d88
 obtain⟨f89,g89,a89,F89⟩:=d89
 obtain⟨f90,g90,a90,F90⟩:=d90
 obtain⟨f91,g91,a91,F91⟩:=d91
 obtain⟨f92,g92,a92,F92⟩:=d92
 obtain⟨f93,g93,a93,F93⟩:=d93
 obtain⟨f94,g94,a94,F94⟩:=d94
 obtain⟨f95,g95,a95,F95⟩:=d95
 obtain⟨f96,g96,a96,F96⟩:=d96
 obtain⟨f97,g97,a97,F97⟩:=d97
 obtain⟨f98,g98,a98,F98⟩:=d98
 obtain⟨f99,g99,a99,F99⟩:=d99
 obtain⟨f100,g100,a100,F100⟩:=d100
 obtain⟨f101,g101,a101,F101⟩:=d101
 obtain⟨f102,g102,a102,F102⟩:=d102
 obtain⟨f103,g103,a103,F103⟩:=d103
 obtain⟨f104,g104,a104,F104⟩:=d104
 obtain⟨f105,g105,a105,F105⟩:=d105
 obtain⟨f106,g106,a106,F106⟩:=d106
 obtain⟨f107,g107,a107,F107⟩:=d107
 have e:=hfa.symm.trans (PySem.W.mg_of X G a107)
 cases e
 refine⟨g107,law_binds F107 fun _ _ _ _ _ _ _ _=>.of_eq rfl,fun base XB GB=>?_⟩
 have m_len:=PySem.W.mg_none_of X G z_len
 have m_all:=PySem.W.mg_none_of X G z_all
 have m_isinstance:=PySem.W.mg_none_of X G z_isinstance
 have m_str:=PySem.W.mg_none_of X G z_str
 have m_tuple:=PySem.W.mg_none_of X G z_tuple
 have m_list:=PySem.W.mg_none_of X G z_list
 have m_range:=PySem.W.mg_none_of X G z_range
 have m_int:=PySem.W.mg_none_of X G z_int
 have m_bool:=PySem.W.mg_none_of X G z_bool
 have m_zip:=PySem.W.mg_none_of X G z_zip
 have m_abs:=PySem.W.mg_none_of X G z_abs
 have m_reversed:=PySem.W.mg_none_of X G z_reversed
 have b11:=F11.binds (ps:=["text","signs"]) fun _ _ _ _ _ _ us hl=>us2 us hl fun _ _=>rfl
 have b12:=F12.binds (ps:=["thing"]) fun _ _ _ _ _ _ us hl=>us1 us hl fun _=>rfl
 have b13:=F13.binds (ps:=["thing"]) fun _ _ _ _ _ _ us hl=>us1 us hl fun _=>rfl
 have b14:=F14.binds (ps:=["thing"]) fun _ _ _ _ _ _ us hl=>us1 us hl fun _=>rfl
 have b15:=F15.binds (ps:=["thing"]) fun _ _ _ _ _ _ us hl=>us1 us hl fun _=>rfl
 have b16:=F16.binds (ps:=["thing"]) fun _ _ _ _ _ _ us hl=>us1 us hl fun _=>rfl
 have b17:=F17.binds (ps:=["thing"]) fun _ _ _ _ _ _ us hl=>us1 us hl fun _=>rfl
 have b18:=F18.binds (ps:=["thing"]) fun _ _ _ _ _ _ us hl=>us1 us hl fun _=>rfl
 have b19:=F19.binds (ps:=["thing"]) fun _ _ _ _ _ _ us hl=>us1 us hl fun _=>rfl
 have b20:=F20.binds (ps:=["text"]) fun _ _ _ _ _ _ us hl=>us1 us hl fun _=>rfl
 have b24:=F24.binds (ps:=["text"]) fun _ _ _ _ _ _ us hl=>us1 us hl fun _=>rfl
 have b25:=F25.binds (ps:=["piece"]) fun _ _ _ _ _ _ us hl=>us1 us hl fun _=>rfl
 have b26:=F26.binds (ps:=["levels"]) fun _ _ _ _ _ _ us hl=>us1 us hl fun _=>rfl
 have b27:=F27.binds (ps:=["levels"]) fun _ _ _ _ _ _ us hl=>us1 us hl fun _=>rfl
 have b28:=F28.binds (ps:=["text"]) fun _ _ _ _ _ _ us hl=>us1 us hl fun _=>rfl
 have b30:=F30.binds (ps:=["things"]) fun _ _ _ _ _ _ us hl=>us1 us hl fun _=>rfl
 have b31:=F31.binds (ps:=["things"]) fun _ _ _ _ _ _ us hl=>us1 us hl fun _=>rfl
 have b32:=F32.binds (ps:=["thing"]) fun _ _ _ _ _ _ us hl=>us1 us hl fun _=>rfl
 have b33:=F33.binds (ps:=["program"]) fun _ _ _ _ _ _ us hl=>us1 us hl fun _=>rfl
 have b38:=F38.binds (ps:=["thing","least","most"]) fun _ _ _ _ _ _ us hl=>us3 us hl fun _ _ _=>rfl
 have b39:=F39.binds (ps:=["things","fits"]) fun _ _ _ _ _ _ us hl=>us2 us hl fun _ _=>rfl
 have b40:=F40.binds (ps:=["thing","least","most","fits"]) fun _ _ _ _ _ _ us hl=>us4 us hl fun _ _ _ _=>rfl
 have b41:=F41.binds (ps:=["thing","within"]) fun _ _ _ _ _ _ us hl=>us2 us hl fun _ _=>rfl
 have b42:=F42.binds (ps:=["thing"]) fun _ _ _ _ _ _ us hl=>us1 us hl fun _=>rfl
 have b43:=F43.binds (ps:=["thing"]) fun _ _ _ _ _ _ us hl=>us1 us hl fun _=>rfl
 have b44:=F44.binds (ps:=["thing"]) fun _ _ _ _ _ _ us hl=>us1 us hl fun _=>rfl
 have b45:=F45.binds (ps:=["thing"]) fun _ _ _ _ _ _ us hl=>us1 us hl fun _=>rfl
 have b46:=F46.binds (ps:=["thing"]) fun _ _ _ _ _ _ us hl=>us1 us hl fun _=>rfl
 have b47:=F47.binds (ps:=["thing"]) fun _ _ _ _ _ _ us hl=>us1 us hl fun _=>rfl
 have b48:=F48.binds (ps:=["thing"]) fun _ _ _ _ _ _ us hl=>us1 us hl fun _=>rfl
 have b49:=F49.binds (ps:=["thing"]) fun _ _ _ _ _ _ us hl=>us1 us hl fun _=>rfl
 have b50:=F50.binds (ps:=["thing"]) fun _ _ _ _ _ _ us hl=>us1 us hl fun _=>rfl
 have b51:=F51.binds (ps:=["thing"]) fun _ _ _ _ _ _ us hl=>us1 us hl fun _=>rfl
 have b52:=F52.binds (ps:=["thing"]) fun _ _ _ _ _ _ us hl=>us1 us hl fun _=>rfl
 have b54:=F54.binds (ps:=["thing"]) fun _ _ _ _ _ _ us hl=>us1 us hl fun _=>rfl
 have b55:=F55.binds (ps:=["thing"]) fun _ _ _ _ _ _ us hl=>us1 us hl fun _=>rfl
 have b56:=F56.binds (ps:=["thing"]) fun _ _ _ _ _ _ us hl=>us1 us hl fun _=>rfl
 have b57:=F57.binds (ps:=["thing"]) fun _ _ _ _ _ _ us hl=>us1 us hl fun _=>rfl
 have b58:=F58.binds (ps:=["thing","most","is_row"]) fun _ _ _ _ _ _ us hl=>us3 us hl fun _ _ _=>rfl
 have b59:=F59.binds (ps:=["thing"]) fun _ _ _ _ _ _ us hl=>us1 us hl fun _=>rfl
 have b60:=F60.binds (ps:=["thing"]) fun _ _ _ _ _ _ us hl=>us1 us hl fun _=>rfl
 have b61:=F61.binds (ps:=["thing"]) fun _ _ _ _ _ _ us hl=>us1 us hl fun _=>rfl
 have b62:=F62.binds (ps:=["thing"]) fun _ _ _ _ _ _ us hl=>us1 us hl fun _=>rfl
 have b63:=F63.binds (ps:=["thing"]) fun _ _ _ _ _ _ us hl=>us1 us hl fun _=>rfl
 have b64:=F64.binds (ps:=["thing"]) fun _ _ _ _ _ _ us hl=>us1 us hl fun _=>rfl
 have b65:=F65.binds (ps:=["thing"]) fun _ _ _ _ _ _ us hl=>us1 us hl fun _=>rfl
 have b66:=F66.binds (ps:=["thing"]) fun _ _ _ _ _ _ us hl=>us1 us hl fun _=>rfl
 have b67:=F67.binds (ps:=["things"]) fun _ _ _ _ _ _ us hl=>us1 us hl fun _=>rfl
 have b68:=F68.binds (ps:=["thing"]) fun _ _ _ _ _ _ us hl=>us1 us hl fun _=>rfl
 have b69:=F69.binds (ps:=["thing"]) fun _ _ _ _ _ _ us hl=>us1 us hl fun _=>rfl
 have b70:=F70.binds (ps:=["thing"]) fun _ _ _ _ _ _ us hl=>us1 us hl fun _=>rfl
 have b72:=F72.binds (ps:=["thing"]) fun _ _ _ _ _ _ us hl=>us1 us hl fun _=>rfl
 have b73:=F73.binds (ps:=["thing"]) fun _ _ _ _ _ _ us hl=>us1 us hl fun _=>rfl
 have b74:=F74.binds (ps:=["things"]) fun _ _ _ _ _ _ us hl=>us1 us hl fun _=>rfl
 have b75:=F75.binds (ps:=["text"]) fun _ _ _ _ _ _ us hl=>us1 us hl fun _=>rfl
 have b77:=F77.binds (ps:=["_law_state","_law_many"]) fun _ _ _ _ _ _ us hl=>us2 us hl fun _ _=>rfl
 have b78:=F78.binds (ps:=["_law_script"]) fun _ _ _ _ _ _ us hl=>us1 us hl fun _=>rfl
 have b79:=F79.binds (ps:=[]) fun _ _ _ _ _ _ us hl=>by cases us with|nil=>rfl|cons a r=>cases hl
 have b80:=F80.binds (ps:=["_law_state","_law_long"]) fun _ _ _ _ _ _ us hl=>us2 us hl fun _ _=>rfl
 have b81:=F81.binds (ps:=["_law_state"]) fun _ _ _ _ _ _ us hl=>us1 us hl fun _=>rfl
 have b82:=F82.binds (ps:=["_law_state"]) fun _ _ _ _ _ _ us hl=>us1 us hl fun _=>rfl
 have b83:=F83.binds (ps:=["_law_state"]) fun _ _ _ _ _ _ us hl=>us1 us hl fun _=>rfl
 have b84:=F84.binds (ps:=["_law_state"]) fun _ _ _ _ _ _ us hl=>us1 us hl fun _=>rfl
 have b85:=F85.binds (ps:=["_law_state"]) fun _ _ _ _ _ _ us hl=>us1 us hl fun _=>rfl
 have b86:=F86.binds (ps:=["_law_state"]) fun _ _ _ _ _ _ us hl=>us1 us hl fun _=>rfl
 have b87:=F87.binds (ps:=["_law_state","_law_deep"]) fun _ _ _ _ _ _ us hl=>us2 us hl fun _ _=>rfl
 have b88:=F88.binds (ps:=["_law_state","_law_way"]) fun _ _ _ _ _ _ us hl=>us2 us hl fun _ _=>rfl
 have b89:=F89.binds (ps:=["_law_state","_law_deep","_law_left","_law_many"]) fun _ _ _ _ _ _ us hl=>us4 us hl fun _ _ _ _=>rfl
 have b90:=F90.binds (ps:=["_law_state","_law_deep","_law_left"]) fun _ _ _ _ _ _ us hl=>us3 us hl fun _ _ _=>rfl
 have b91:=F91.binds (ps:=["_law_state","_law_deep","_law_left"]) fun _ _ _ _ _ _ us hl=>us3 us hl fun _ _ _=>rfl
 have b92:=F92.binds (ps:=["_law_state","_law_deep","_law_left"]) fun _ _ _ _ _ _ us hl=>us3 us hl fun _ _ _=>rfl
 have b93:=F93.binds (ps:=["_law_thing"]) fun _ _ _ _ _ _ us hl=>us1 us hl fun _=>rfl
 have b94:=F94.binds (ps:=["_law_state","_law_least"]) fun _ _ _ _ _ _ us hl=>us2 us hl fun _ _=>rfl
 have b95:=F95.binds (ps:=["_law_state","_law_pieces_here"]) fun _ _ _ _ _ _ us hl=>us2 us hl fun _ _=>rfl
 have b96:=F96.binds (ps:=["_law_state"]) fun _ _ _ _ _ _ us hl=>us1 us hl fun _=>rfl
 have b97:=F97.binds (ps:=["_law_state","_law_least"]) fun _ _ _ _ _ _ us hl=>us2 us hl fun _ _=>rfl
 have b98:=F98.binds (ps:=["_law_state","_law_most"]) fun _ _ _ _ _ _ us hl=>us2 us hl fun _ _=>rfl
 have b99:=F99.binds (ps:=["_law_state","_law_many"]) fun _ _ _ _ _ _ us hl=>us2 us hl fun _ _=>rfl
 have b100:=F100.binds (ps:=["_law_state"]) fun _ _ _ _ _ _ us hl=>us1 us hl fun _=>rfl
 have b101:=F101.binds (ps:=["_law_state"]) fun _ _ _ _ _ _ us hl=>us1 us hl fun _=>rfl
 have b102:=F102.binds (ps:=["_law_state","_law_left"]) fun _ _ _ _ _ _ us hl=>us2 us hl fun _ _=>rfl
 have b103:=F103.binds (ps:=["_law_state","_law_left"]) fun _ _ _ _ _ _ us hl=>us2 us hl fun _ _=>rfl
 have b104:=F104.binds (ps:=["_law_state"]) fun _ _ _ _ _ _ us hl=>us1 us hl fun _=>rfl
 have b105:=F105.binds (ps:=["_law_program_here"]) fun _ _ _ _ _ _ us hl=>us1 us hl fun _=>rfl
 have b106:=F106.binds (ps:=["_law_told","_law_due"]) fun _ _ _ _ _ _ us hl=>us2 us hl fun _ _=>rfl
 have B:Gb K mg:=⟨m_len,m_all,m_isinstance,m_str,m_tuple,m_list,m_range,(by obtain⟨t,h⟩:=v1;exact⟨t,PySem.W.mg_of X G h⟩),(by obtain⟨t,h⟩:=v2;exact⟨t,PySem.W.mg_of X G h⟩),(by obtain⟨t,h⟩:=v4;exact⟨t,PySem.W.mg_of X G h⟩),(by obtain⟨a,h,q⟩:=v5;exact⟨a,PySem.W.mg_of X G h,q⟩)⟩
 have H11:Has l.prog w K mg base 1 "all_of" ["text","signs"] spAllOf:=⟨f11,g11,ok_all_of F11 B,b11,F11.kp,(PySem.W.mg_of X G a11)⟩
 have H12:Has l.prog w K mg base 2 "is_small" ["thing"] (spT (onStr smallB)):=⟨f12,g12,ok_is_small F12 B H11,b12,F12.kp,(PySem.W.mg_of X G a12)⟩
 have H13:Has l.prog w K mg base 3 "is_name" ["thing"] (spT (onStr nameB)):=⟨f13,g13,ok_is_name F13 B H12,b13,F13.kp,(PySem.W.mg_of X G a13)⟩
 have H14:Has l.prog w K mg base 2 "is_great" ["thing"] (spT (onStr greatB)):=⟨f14,g14,ok_is_great F14 B H11,b14,F14.kp,(PySem.W.mg_of X G a14)⟩
 have H15:Has l.prog w K mg base 4 "is_path" ["thing"] (spT (onStr pathB)):=⟨f15,g15,ok_is_path F15 B H13 H14,b15,F15.kp,(PySem.W.mg_of X G a15)⟩
 have H16:Has l.prog w K mg base 3 "is_variable" ["thing"] (spT (onStr varB)):=⟨f16,g16,ok_is_variable F16 B H12,b16,F16.kp,(PySem.W.mg_of X G a16)⟩
 have H17:Has l.prog w K mg base 5 "is_word" ["thing"] (spS wordB):=⟨f17,g17,ok_is_word F17 (by obtain⟨t,h⟩:=v6;exact⟨t,PySem.W.mg_of X G h⟩) H12 H14 H15 H16,b17,F17.kp,(PySem.W.mg_of X G a17)⟩
 have H20:Has l.prog w K mg base 2 "is_number_text" ["text"] (spS ntB):=⟨f20,g20,ok_is_nt F20 m_len (by obtain⟨t,h⟩:=v3;exact⟨t,PySem.W.mg_of X G h⟩) (by obtain⟨t,h⟩:=v7;exact⟨t,PySem.W.mg_of X G h⟩) H11,b20,F20.kp,(PySem.W.mg_of X G a20)⟩
 have H24:HasT l.prog w K mg base 1 "pieces_of" ["text"] spPcs:=⟨f24,g24,ok_pcs F24,b24,F24.kp,(PySem.W.mg_of X G a24)⟩
 have H25:Has l.prog w K mg base 6 "thing_of" ["piece"] spTho:=⟨f25,g25,ok_tho F25 m_int H20 H17,b25,F25.kp,(PySem.W.mg_of X G a25)⟩
 have H26:Has l.prog w K mg base 1 "begin_bracket" ["levels"] spBeg:=⟨f26,g26,ok_beg F26 m_len (by obtain⟨t,h⟩:=v9;exact⟨t,PySem.W.mg_of X G h⟩),b26,F26.kp,(PySem.W.mg_of X G a26)⟩
 have H27:Has l.prog w K mg base 1 "end_bracket" ["levels"] spEnd:=⟨f27,g27,ok_end F27 m_len m_tuple,b27,F27.kp,(PySem.W.mg_of X G a27)⟩
 have H28:Has l.prog w K mg base 7 "things_of" ["text"] spThs:=⟨f28,g28,ok_ths F28 m_len m_tuple (by obtain⟨t,h⟩:=v8;exact⟨t,PySem.W.mg_of X G h⟩) H24 H26 H27 H25,b28,F28.kp,(PySem.W.mg_of X G a28)⟩
 have H18:Has l.prog w K mg base 1 "is_whole" ["thing"] (spT isIntT):=⟨f18,g18,ok_is_whole F18 B m_int m_bool,b18,F18.kp,(PySem.W.mg_of X G a18)⟩
 have H19:Has l.prog w K mg base 2 "is_number" ["thing"] (spT numT):=⟨f19,g19,ok_is_number F19 m_abs H18,b19,F19.kp,(PySem.W.mg_of X G a19)⟩
 have H38:Has l.prog w K mg base 1 "has_length" ["thing","least","most"] spHasLen:=⟨f38,g38,ok_has_length F38 B,b38,F38.kp,(PySem.W.mg_of X G a38)⟩
 have Znm:=Has.z H13
 have Zgr:=Has.z H14
 have Zvr:=Has.z H16
 have Znu:=Has.z H19
 have Kkw:=ok_kinds_within (P:=l.prog) (w:=w) (base:=base) F42 B (by obtain⟨t,h⟩:=v6;exact⟨t,PySem.W.mg_of X G h⟩) H16 H13 H15
 have AFK:Has l.prog w K mg base 6 "all_fit" ["thing","within"] (spAllFit kidsK f42):=⟨f41,g41,ok_all_fit kidsK_dec F41 B Kkw F42.kp b42,b41,F41.kp,(PySem.W.mg_of X G a41)⟩
 have Kkind:=ffit kidsK_dec (ok_is_kind F43 (PySem.W.mg_of X G a42) AFK)
 have H43:Has l.prog w K mg base 7 "is_kind" ["thing"] (spZ kindB):=⟨f43,g43,Kkind,b43,F43.kp,(PySem.W.mg_of X G a43)⟩
 have Kfun:=ok_is_function_form (P:=l.prog) (w:=w) (base:=base) F49 H13 H38
 have Afun:Has l.prog w K mg base 5 "all_are" ["things","fits"] (spAllAre funcB f49):=⟨f39,g39,ok_all_are F39 B Kfun F49.kp b49,b39,F39.kp,(PySem.W.mg_of X G a39)⟩
 have Lfun:Has l.prog w K mg base 6 "is_list" ["thing","least","most","fits"] (spList funcB f49):=⟨f40,g40,ok_is_list F40 H38 Afun,b40,F40.kp,(PySem.W.mg_of X G a40)⟩
 have Kname:=ok_is_name (P:=l.prog) (w:=w) (base:=base) F13 B H12
 have Aname:Has l.prog w K mg base 4 "all_are" ["things","fits"] (spAllAre (onStr nameB) f13):=⟨f39,g39,ok_all_are F39 B Kname F13.kp b13,b39,F39.kp,(PySem.W.mg_of X G a39)⟩
 have Lname:Has l.prog w K mg base 5 "is_list" ["thing","least","most","fits"] (spList (onStr nameB) f13):=⟨f40,g40,ok_is_list F40 H38 Aname,b40,F40.kp,(PySem.W.mg_of X G a40)⟩
 have Karm:=ok_is_arm_form F51 (PySem.W.mg_of X G a13) H14 H38 Aname
 have Aarm:Has l.prog w K mg base 6 "all_are" ["things","fits"] (spAllAre armB f51):=⟨f39,g39,ok_all_are F39 B Karm F51.kp b51,b39,F39.kp,(PySem.W.mg_of X G a39)⟩
 have Larm:Has l.prog w K mg base 7 "is_list" ["thing","least","most","fits"] (spList armB f51):=⟨f40,g40,ok_is_list F40 H38 Aarm,b40,F40.kp,(PySem.W.mg_of X G a40)⟩
 obtain⟨df,x0,x1,x2,x3,x4,x5,x6,hnm,n0,n1,n2,n3,n4,n5,n6,D⟩:=fo
 have e0:x0=f46:=by have z:=n0.symm.trans a46;injection z with z;injection z with z;injection z
 have e1:x1=f44:=by have z:=n1.symm.trans a44;injection z with z;injection z with z;injection z
 have e2:x2=f47:=by have z:=n2.symm.trans a47;injection z with z;injection z with z;injection z
 have e3:x3=f50:=by have z:=n3.symm.trans a50;injection z with z;injection z with z;injection z
 have e4:x4=f52:=by have z:=n4.symm.trans a52;injection z with z;injection z with z;injection z
 have e5:x5=f48:=by have z:=n5.symm.trans a48;injection z with z;injection z with z;injection z
 have e6:x6=f45:=by have z:=n6.symm.trans a45;injection z with z;injection z with z;injection z
 have Kpw:=ok_phrases_within (P:=l.prog) (w:=w) (base:=base) (fn:=fnOf x0 x1 x2 x3 x4 x5 x6) F54 B (PySem.W.mg_of X G hnm) D (fun n hn=>by
  match n,hn with
  |0,_=>exact⟨g46,by show FnOk _ _ _ _ _ _ _ x0 _ _ _;rw[e0];exact(ok_named_within F46 B H13).mono (by decide),b46,by show PySem.W.keepIn K (.ref x0)=true;rw[e0];exact F46.kp⟩
  |1,_=>exact⟨g44,by show FnOk _ _ _ _ _ _ _ x1 _ _ _;rw[e1];exact(ok_two_within F44 B).mono (by decide),b44,by show PySem.W.keepIn K (.ref x1)=true;rw[e1];exact F44.kp⟩
  |2,_=>exact⟨g47,by show FnOk _ _ _ _ _ _ _ x2 _ _ _;rw[e2];exact(ok_let_within F47 B H13).mono (by decide),b47,by show PySem.W.keepIn K (.ref x2)=true;rw[e2];exact F47.kp⟩
  |3,_=>exact⟨g50,by show FnOk _ _ _ _ _ _ _ x3 _ _ _;rw[e3];exact(ok_ring_within F50 B (PySem.W.mg_of X G a49) Lfun).mono (by decide),b50,by show PySem.W.keepIn K (.ref x3)=true;rw[e3];exact F50.kp⟩
  |4,_=>exact⟨g52,by show FnOk _ _ _ _ _ _ _ x4 _ _ _;rw[e4];exact(ok_case_within F52 (PySem.W.mg_of X G a51) Larm).mono (by decide),b52,by show PySem.W.keepIn K (.ref x4)=true;rw[e4];exact F52.kp⟩
  |5,_=>exact⟨g48,by show FnOk _ _ _ _ _ _ _ x5 _ _ _;rw[e5];exact(ok_make_within F48 B H13).mono (by decide),b48,by show PySem.W.keepIn K (.ref x5)=true;rw[e5];exact F48.kp⟩
  |6,_=>exact⟨g45,by show FnOk _ _ _ _ _ _ _ x6 _ _ _;rw[e6];exact(ok_three_within F45 B).mono (by decide),b45,by show PySem.W.keepIn K (.ref x6)=true;rw[e6];exact F45.kp⟩
  |n+7,h=>exact absurd h (by omega)) H19 H13 H15 H14
 have AFP:Has l.prog w K mg base 10 "all_fit" ["thing","within"] (spAllFit kidsP f54):=⟨f41,g41,ok_all_fit kidsP_dec F41 B Kpw F54.kp b54,b41,F41.kp,(PySem.W.mg_of X G a41)⟩
 have H55:Has l.prog w K mg base 11 "is_phrase" ["thing"] (spZ phraseB):=⟨f55,g55,ffit kidsP_dec (ok_is_phrase F55 (PySem.W.mg_of X G a54) AFP),b55,F55.kp,(PySem.W.mg_of X G a55)⟩
 have Akd:Has l.prog w K mg base 8 "all_are" ["things","fits"] (spAllZ kindB f43):=⟨f39,g39,ok_allZ F39 B Kkind F43.kp b43,b39,F39.kp,(PySem.W.mg_of X G a39)⟩
 have Lkd:Has l.prog w K mg base 9 "is_list" ["thing","least","most","fits"] (spListZ kindB f43):=⟨f40,g40,ok_listZ F40 H38 Akd,b40,F40.kp,(PySem.W.mg_of X G a40)⟩
 have Kgr:=fz (ok_is_great (P:=l.prog) (w:=w) (base:=base) F14 B H11)
 have Agr:Has l.prog w K mg base 3 "all_are" ["things","fits"] (spAllZ grB f14):=⟨f39,g39,ok_allZ F39 B Kgr F14.kp b14,b39,F39.kp,(PySem.W.mg_of X G a39)⟩
 have Lgr:Has l.prog w K mg base 4 "is_list" ["thing","least","most","fits"] (spListZ grB f14):=⟨f40,g40,ok_listZ F40 H38 Agr,b40,F40.kp,(PySem.W.mg_of X G a40)⟩
 have Kvr:=fz (ok_is_variable (P:=l.prog) (w:=w) (base:=base) F16 B H12)
 have Avr:Has l.prog w K mg base 4 "all_are" ["things","fits"] (spAllZ vrB f16):=⟨f39,g39,ok_allZ F39 B Kvr F16.kp b16,b39,F39.kp,(PySem.W.mg_of X G a39)⟩
 have Lvr:Has l.prog w K mg base 5 "is_list" ["thing","least","most","fits"] (spListZ vrB f16):=⟨f40,g40,ok_listZ F40 H38 Avr,b40,F40.kp,(PySem.W.mg_of X G a40)⟩
 have Ktag:=ok_is_tag_row F56 H38 Zgr Akd (PySem.W.mg_of X G a43)
 have Atag:Has l.prog w K mg base 10 "all_are" ["things","fits"] (spAllZ tagB f56):=⟨f39,g39,ok_allZ F39 B Ktag F56.kp b56,b39,F39.kp,(PySem.W.mg_of X G a39)⟩
 have Ltag:Has l.prog w K mg base 11 "is_list" ["thing","least","most","fits"] (spListZ tagB f56):=⟨f40,g40,ok_listZ F40 H38 Atag,b40,F40.kp,(PySem.W.mg_of X G a40)⟩
 have Kfld:=(ok_is_field_row F57 H38 Znm H43).mono (show 8≤9 by decide)
 have Afld:Has l.prog w K mg base 10 "all_are" ["things","fits"] (spAllZ fieldB f57):=⟨f39,g39,ok_allZ F39 B Kfld F57.kp b57,b39,F39.kp,(PySem.W.mg_of X G a39)⟩
 have Lfld:Has l.prog w K mg base 11 "is_list" ["thing","least","most","fits"] (spListZ fieldB f57):=⟨f40,g40,ok_listZ F40 H38 Afld,b40,F40.kp,(PySem.W.mg_of X G a40)⟩
 have H61:Has l.prog w K mg base 5 "is_given_face" ["thing"] (spZ givenB):=⟨f61,g61,ok_is_given_face F61 Zgr Lgr (PySem.W.mg_of X G a14),b61,F61.kp,(PySem.W.mg_of X G a61)⟩
 have Kgiv:=ok_is_giver F62 H38 Zgr H61
 have Agiv:Has l.prog w K mg base 7 "all_are" ["things","fits"] (spAllZ giverB f62):=⟨f39,g39,ok_allZ F39 B Kgiv F62.kp b62,b39,F39.kp,(PySem.W.mg_of X G a39)⟩
 have Lgiv:Has l.prog w K mg base 8 "is_list" ["thing","least","most","fits"] (spListZ giverB f62):=⟨f40,g40,ok_listZ F40 H38 Agiv,b40,F40.kp,(PySem.W.mg_of X G a40)⟩
 have H63:Has l.prog w K mg base 3 "is_hide_count" ["thing"] (spZ hideB):=⟨f63,g63,ok_is_hide_count F63 Znu,b63,F63.kp,(PySem.W.mg_of X G a63)⟩
 have Kit:=ok_is_item F64 H38 Znm H63 H43
 have Ait:Has l.prog w K mg base 9 "all_are" ["things","fits"] (spAllZ itemB f64):=⟨f39,g39,ok_allZ F39 B Kit F64.kp b64,b39,F39.kp,(PySem.W.mg_of X G a39)⟩
 have Lit:Has l.prog w K mg base 10 "is_list" ["thing","least","most","fits"] (spListZ itemB f64):=⟨f40,g40,ok_listZ F40 H38 Ait,b40,F40.kp,(PySem.W.mg_of X G a40)⟩
 have Kbi:=ok_is_body_item F66 m_len H38 Znm Lvr (PySem.W.mg_of X G a16) H43 H55
 have Abi:Has l.prog w K mg base 13 "all_are" ["things","fits"] (spAllZ bodyItemB f66):=⟨f39,g39,ok_allZ F39 B Kbi F66.kp b66,b39,F39.kp,(PySem.W.mg_of X G a39)⟩
 have Lbi:Has l.prog w K mg base 14 "is_list" ["thing","least","most","fits"] (spListZ bodyItemB f66):=⟨f40,g40,ok_listZ F40 H38 Abi,b40,F40.kp,(PySem.W.mg_of X G a40)⟩
 have H67:Has l.prog w K mg base 15 "is_body" ["things"] (spZ bodyB):=⟨f67,g67,ok_is_body F67 Lbi (PySem.W.mg_of X G a66) (by obtain⟨t,h⟩:=vi;exact⟨t,PySem.W.mg_of X G h⟩),b67,F67.kp,(PySem.W.mg_of X G a67)⟩
 have Hsk:Has l.prog w K mg base 12 "is_sort_declaration" ["thing","most","is_row"] (spSort tagB f56):=⟨f58,g58,ok_is_sort_declaration (k:=6) F58 m_len Znm Lvr (PySem.W.mg_of X G a16) Ltag,b58,F58.kp,(PySem.W.mg_of X G a58)⟩
 have Hsr:Has l.prog w K mg base 12 "is_sort_declaration" ["thing","most","is_row"] (spSort fieldB f57):=⟨f58,g58,ok_is_sort_declaration (k:=6) F58 m_len Znm Lvr (PySem.W.mg_of X G a16) Lfld,b58,F58.kp,(PySem.W.mg_of X G a58)⟩
 obtain⟨dd,y0,y1,y2,y3,y4,y5,hdm,c0,c1,c2,c3,c4,c5,DD⟩:=fd
 have q0:y0=f59:=by have z:=c0.symm.trans a59;injection z with z;injection z with z;injection z
 have q1:y1=f60:=by have z:=c1.symm.trans a60;injection z with z;injection z with z;injection z
 have q2:y2=f65:=by have z:=c2.symm.trans a65;injection z with z;injection z with z;injection z
 have q3:y3=f68:=by have z:=c3.symm.trans a68;injection z with z;injection z with z;injection z
 have q4:y4=f69:=by have z:=c4.symm.trans a69;injection z with z;injection z with z;injection z
 have q5:y5=f70:=by have z:=c5.symm.trans a70;injection z with z;injection z with z;injection z
 have Kdec:=ok_is_declaration (P:=l.prog) (w:=w) (base:=base) (fn:=dnOf y0 y1 y2 y3 y4 y5) F72 B (PySem.W.mg_of X G hdm) DD (fun n hn=>by
  match n,hn with
  |0,_=>exact⟨g59,by show FnOk _ _ _ _ _ _ _ y0 _ _ _;rw[q0];exact(ok_is_kind_declaration F59 Hsk (PySem.W.mg_of X G a56)).mono (by decide),b59,by show PySem.W.keepIn K (.ref y0)=true;rw[q0];exact F59.kp⟩
  |1,_=>exact⟨g60,by show FnOk _ _ _ _ _ _ _ y1 _ _ _;rw[q1];exact(ok_is_record_declaration F60 Hsr (PySem.W.mg_of X G a57)).mono (by decide),b60,by show PySem.W.keepIn K (.ref y1)=true;rw[q1];exact F60.kp⟩
  |2,_=>exact⟨g65,by show FnOk _ _ _ _ _ _ _ y2 _ _ _;rw[q2];exact(ok_is_face_declaration F65 m_len Zgr Lgiv (PySem.W.mg_of X G a62) Lit (PySem.W.mg_of X G a64) (by obtain⟨t,h⟩:=vg;exact⟨t,PySem.W.mg_of X G h⟩) (by obtain⟨t,h⟩:=vi;exact⟨t,PySem.W.mg_of X G h⟩)).mono (by decide),b65,by show PySem.W.keepIn K (.ref y2)=true;rw[q2];exact F65.kp⟩
  |3,_=>exact⟨g68,by show FnOk _ _ _ _ _ _ _ y3 _ _ _;rw[q3];exact(ok_is_part_declaration F68 m_len Zgr H61 H67).mono (by decide),b68,by show PySem.W.keepIn K (.ref y3)=true;rw[q3];exact F68.kp⟩
  |4,_=>exact⟨g69,by show FnOk _ _ _ _ _ _ _ y4 _ _ _;rw[q4];exact(ok_is_maker_declaration F69 m_len Zgr Lgiv (PySem.W.mg_of X G a62) H61 H67 (by obtain⟨t,h⟩:=vg;exact⟨t,PySem.W.mg_of X G h⟩)).mono (by decide),b69,by show PySem.W.keepIn K (.ref y4)=true;rw[q4];exact F69.kp⟩
  |5,_=>exact⟨g70,by show FnOk _ _ _ _ _ _ _ y5 _ _ _;rw[q5];exact(ok_is_apply_declaration F70 Lgr (PySem.W.mg_of X G a14)).mono (by decide),b70,by show PySem.W.keepIn K (.ref y5)=true;rw[q5];exact F70.kp⟩
  |n+6,h=>exact absurd h (by omega))
 have Adec:Has l.prog w K mg base 18 "all_are" ["things","fits"] (spAllZ declB f72):=⟨f39,g39,ok_allZ F39 B Kdec F72.kp b72,b39,F39.kp,(PySem.W.mg_of X G a39)⟩
 have Ldec:Has l.prog w K mg base 19 "is_list" ["thing","least","most","fits"] (spListZ declB f72):=⟨f40,g40,ok_listZ F40 H38 Adec,b40,F40.kp,(PySem.W.mg_of X G a40)⟩
 have H73:Has l.prog w K mg base 12 "is_main" ["thing"] (spZ mainB):=⟨f73,g73,ok_is_main F73 H38 H55,b73,F73.kp,(PySem.W.mg_of X G a73)⟩
 have H74:Has l.prog w K mg base 20 "is_program" ["things"] spProg:=⟨f74,g74,ok_is_program F74 m_len H73 Ldec (PySem.W.mg_of X G a72) (by obtain⟨t,h⟩:=vd;exact⟨t,PySem.W.mg_of X G h⟩),b74,F74.kp,(PySem.W.mg_of X G a74)⟩
 have H75:Has l.prog w K mg base 21 "read" ["text"] spRead:=⟨f75,g75,ok_read F75 H28 H74,b75,F75.kp,(PySem.W.mg_of X G a75)⟩
 have H77:Has l.prog w K mg base 1 "_law_next" ["_law_state","_law_many"] spNext:=⟨f77,g77,ok_next F77 m_len,b77,F77.kp,(PySem.W.mg_of X G a77)⟩
 have H78:Has l.prog w K mg base 1 "_law_drawn" ["_law_script"] (spDrawn K):=⟨f78,g78,ok_drawn F78 m_len,b78,F78.kp,(PySem.W.mg_of X G a78)⟩
 have H79:Has l.prog w K mg base 1 "_law_kept" [] spKept:=⟨f79,g79,ok_kept F79,b79,F79.kp,(PySem.W.mg_of X G a79)⟩
 have H80:Has l.prog w K mg base 2 "_law_letters" ["_law_state","_law_long"] spLetters:=⟨f80,g80,ok_letters F80 m_range H77,b80,F80.kp,(PySem.W.mg_of X G a80)⟩
 have H81:Has l.prog w K mg base 3 "_law_small" ["_law_state"] (spStr fun z=>nameB z=true):=⟨f81,g81,ok_small F81 H77 H80 H79,b81,F81.kp,(PySem.W.mg_of X G a81)⟩
 have H82:Has l.prog w K mg base 3 "_law_great" ["_law_state"] (spStr fun z=>greatB z=true):=⟨f82,g82,ok_great F82 H77 H80,b82,F82.kp,(PySem.W.mg_of X G a82)⟩
 have H83:Has l.prog w K mg base 4 "_law_path" ["_law_state"] (spStr fun z=>pathB z=true):=⟨f83,g83,ok_path F83 H82 H81,b83,F83.kp,(PySem.W.mg_of X G a83)⟩
 have H84:Has l.prog w K mg base 3 "_law_variable" ["_law_state"] (spStr fun z=>varB z=true):=⟨f84,g84,ok_variable F84 H77 H80,b84,F84.kp,(PySem.W.mg_of X G a84)⟩
 have H85:Has l.prog w K mg base 2 "_law_number" ["_law_state"] spInt:=⟨f85,g85,ok_number F85 m_range H77,b85,F85.kp,(PySem.W.mg_of X G a85)⟩
 have H86:Has l.prog w K mg base 5 "_law_kind_name" ["_law_state"] (spStr fun z=>headB z=true):=⟨f86,g86,ok_kind_name F86 H77 H81 H83,b86,F86.kp,(PySem.W.mg_of X G a86)⟩
 have H87:=kinds_all (P:=l.prog) (w:=w) (base:=base) F87 b87 (PySem.W.mg_of X G a87) m_range m_tuple H77 H84 H81 H83 H86 3
 have H88:Has l.prog w K mg base 5 "_law_leaf" ["_law_state","_law_way"] spLeaf:=⟨f88,g88,ok_leaf F88 H85 H81 H83 H82,b88,F88.kp,(PySem.W.mg_of X G a88)⟩
 have HP:=phrases_all (P:=l.prog) (w:=w) (base:=base) F92 b92 (PySem.W.mg_of X G a92) F89 b89 (PySem.W.mg_of X G a89) F90 b90 (PySem.W.mg_of X G a90) F91 b91 (PySem.W.mg_of X G a91) m_range m_tuple H77 H81 H82 H88
 have H93:Has l.prog w K mg base 22 "_law_pieces" ["_law_thing"] (spPc 21):=pc_all F93 m_isinstance m_tuple m_str b93 F93.kp (PySem.W.mg_of X G a93) 22
 have H94:Has l.prog w K mg base 2 "_law_gap" ["_law_state","_law_least"] spGap:=⟨f94,g94,ok_gap F94 m_range H77,b94,F94.kp,(PySem.W.mg_of X G a94)⟩
 have H95:Has l.prog w K mg base 3 "_law_written" ["_law_state","_law_pieces_here"] spWr:=⟨f95,g95,ok_wr F95 m_int H94,b95,F95.kp,(PySem.W.mg_of X G a95)⟩
 have H106:Has l.prog w K mg base 22 "_law_same" ["_law_told","_law_due"] (spSame 21):=same_all F106 b106 F106.kp (PySem.W.mg_of X G a106) m_isinstance m_tuple m_str m_int m_bool m_len m_all m_zip 22
 have H96:Has l.prog w K mg base 4 "_law_given" ["_law_state"] (spG givenB 1 4):=⟨f96,g96,ok_given F96 m_range m_tuple H77 H82,b96,F96.kp,(PySem.W.mg_of X G a96)⟩
 have Hgv0:Has l.prog w K mg base 5 "_law_givers" ["_law_state","_law_least"] (spGivers 0):=⟨f97,g97,ok_givers F97 m_range m_tuple H77 H82 H96,b97,F97.kp,(PySem.W.mg_of X G a97)⟩
 have Hgv1:Has l.prog w K mg base 5 "_law_givers" ["_law_state","_law_least"] (spGivers 1):=⟨f97,g97,ok_givers F97 m_range m_tuple H77 H82 H96,b97,F97.kp,(PySem.W.mg_of X G a97)⟩
 have Hsv2:Has l.prog w K mg base 4 "_law_some_variables" ["_law_state","_law_most"] (spVars 2):=⟨f98,g98,ok_some_variables (by decide) F98 m_range m_tuple H77 H84,b98,F98.kp,(PySem.W.mg_of X G a98)⟩
 have Hsv3:Has l.prog w K mg base 4 "_law_some_variables" ["_law_state","_law_most"] (spVars 3):=⟨f98,g98,ok_some_variables (by decide) F98 m_range m_tuple H77 H84,b98,F98.kp,(PySem.W.mg_of X G a98)⟩
 have H99:Has l.prog w K mg base 9 "_law_some_kinds" ["_law_state","_law_many"] spKinds:=⟨f99,g99,ok_some_kinds F99 m_range m_tuple H87,b99,F99.kp,(PySem.W.mg_of X G a99)⟩
 have H100:Has l.prog w K mg base 10 "_law_sort" ["_law_state"] (spG declB 20 90500):=⟨f100,g100,ok_sort F100 m_range m_tuple m_int H77 H81 H82 Hsv3 H99 H87,b100,F100.kp,(PySem.W.mg_of X G a100)⟩
 have H101:Has l.prog w K mg base 9 "_law_face" ["_law_state"] (spG declB 20 90500):=⟨f101,g101,ok_face F101 m_range m_tuple m_int H77 H81 H82 Hgv0 H87,b101,F101.kp,(PySem.W.mg_of X G a101)⟩
 have H102:Has l.prog w K mg base 19 "_law_body" ["_law_state","_law_left"] spBody:=⟨f102,g102,ok_body F102 m_range m_tuple m_int H77 H81 Hsv2 H87 (HP 4),b102,F102.kp,(PySem.W.mg_of X G a102)⟩
 have H103:Has l.prog w K mg base 20 "_law_declared" ["_law_state","_law_left"] spDecl:=⟨f103,g103,ok_declared F103 m_range m_tuple H77 H82 H100 H101 H96 Hgv1 H102,b103,F103.kp,(PySem.W.mg_of X G a103)⟩
 have H105:Has l.prog w K mg base 23 "_law_fitted" ["_law_program_here"] spFit:=⟨f105,g105,ok_fitted F105 m_len H93,b105,F105.kp,(PySem.W.mg_of X G a105)⟩
 have H104:Has l.prog w K mg base 24 "_law_program" ["_law_state"] spProgram:=⟨f104,g104,ok_program F104 m_range m_tuple m_int m_len H77 H81 H82 H103 (HP 5) H105,b104,F104.kp,(PySem.W.mg_of X G a104)⟩
 have H30:Has l.prog w K mg base 1 "shown_pieces" ["things"] spShp:=⟨f30,g30,ok_shp F30 m_len m_isinstance m_tuple m_str m_list m_reversed,b30,F30.kp,(PySem.W.mg_of X G a30)⟩
 have H31:Has l.prog w K mg base 2 "shown_things" ["things"] spSht:=⟨f31,g31,ok_sht F31 m_len (by obtain⟨t,h⟩:=v8;exact⟨t,PySem.W.mg_of X G h⟩) H30,b31,F31.kp,(PySem.W.mg_of X G a31)⟩
 have H32:Has l.prog w K mg base 3 "shown" ["thing"] spSh:=⟨f32,g32,ok_sh F32 H31,b32,F32.kp,(PySem.W.mg_of X G a32)⟩
 have H33:Has l.prog w K mg base 3 "shown_program" ["program"] spSht:=⟨f33,g33,ok_shpr F33 H31,b33,F33.kp,(PySem.W.mg_of X G a33)⟩
 exact ok_law F107 m_range m_isinstance m_str m_all H78 H104 H93 H95 H106 H75 H28 H33 H32
theorem walk {l:PySem.W.OpenLaw}{q:Program}{loose:List Str}{XP:(Str→Option Value)→Heap→Prop}{YP:World→Heap→Prop}{d:DefRec}{K:Params→PySem.W.Frag}(hn:l.most=some 63)(hdf:d.params.defaults=[])
  (hY:∀(w:World) (h:Heap),YP w h→(K w.params).In h)
  (F:∀(w:World) (mg:Str→Option Value) (fa:Addr) (h:Heap),(K w.params).In h→h.Ns mainGlobals mg→mg d.name=some (.ref fa)→
   ∃fd:FuncData,(∀(s:Shared) (u:Value),BindsTo s fd ⟨[u],[]⟩ [("_law_script",u)])∧∀base:Heap,(K w.params).In base→base.Ns mainGlobals mg→FnOk l.prog w (K w.params) mg base CX0 25 fa fd ["_law_script"] (spLaw (K w.params))):
  PySem.W.WalkO q loose XP YP l.row.toRowW d [] (fun f vs=>PySem.call f vs) :=
 L2.walk_of (n:=63) (k:=25) (x:="_law_script") (CX:=fun _=>CX0) (sp:=fun w=>spLaw (K w.params)) hn (by decide) hdf ⟨rfl,by decide,by decide⟩ hY F (fun _ _ a ns hl _ hS=>⟨a,ns,rfl,hS,hl,fun _=>rfl⟩) fun _ _ _ _ _ z=>z
end Fw
open PySem PySem.W PyProof.Rows
structure PySem.W.Fast:Prop where(tw6744185292158878153 tw5254846184228322657 tw6648990071277451948 tw12092027249457414080 tw11146878902215285377 tw19701760900227003 tw14337307859913434051 tw13083549331231141124 tw13807724405323299834 tw17691352893312939833 tw7498260468520068207 tw5897451797291795782 tw6392302601729405109 tw10377822461756384081 tw8300139945172566919 tw4567814702254532069 tw18208058371655304946 tw7133091522760792011 tw4076594586331005981 tw2418351196454075771 tw4396611597409102521 tw13502809142091791934 tw5004207459651896512 tw10864395189300316968 tw2546323489909455029 tw15085254437503438657 tw6217969286332216019 tw603665786440505206 tw16561941211712216028 tw14124894700716789326 tw7190155413432299999 tw13951592760593443067 tw11075163993674964269 tw7197260458900965291 tw12256696197485024160 tw4774652208134561216 tw13756344293331264546 tw12048124393228506562 tw8346842676120035703 tw5065792466273363838 tw17580355715432297403 tw15612038811053632819 tw1948442497078603772 tw11765191013229232125 tw11967682328290594714 tw5876322326199557336 tw7156138095733543164 tw2780952708847077916 tw6273466327145925337 tw8440444794426242145 tw17847683259310169538 tw15050195618643091754 tw14741851249673524406 tw14124481979639781127 tw14106204223740753501 tw13528155536360164961 tw13269876168124288238 tw12011735254758827912 tw11640566547993603683 tw10512102751195223631 tw3355301428548424839 tw9275200477801178022 tw982843146623938849 tw8295420726508744221 tw825964643380982525 tw790644183085404706 tw7866439717776856147 tw464375125848173801 tw4323911873314240026 tw379245023938565672 tw2558020038043848811 tw2013453033423420086 tw16242496916831955148 tw1621806169036199176 tw13901118874458270499 tw12805459827471736237 tw1155852137578010707 tw11025061949472409811 tw10633831579860418266 tw10311582109556685437 tw10400324043194995192 tw8270329931918746887 tw9750392044108719006 tw11467024946970550075 tw9885942346323033954 tw9864501794392734700 tw9146491522114643516 tw3324491079498975404 tw2679961472099445815 tw11450548954033610440 tw9581244944874384863 tw8511548960648576062 tw6767714540407271347 tw5392035198127991308 tw5299333544062504855 tw3846105494556514689 tw17736845683122074994 tw1746864309505718814 tw14454555949284532838 tw12404979904778181015 tw10981332583416857513 tw10536432753466474754 tw9982501514002049181 tw84699793227245962 tw8468088096879222535 tw6854430855670733227 tw663699090842492705 tw6633587830163442050 tw4888816993120836439 tw4884704278624070034 tw4073844093947300940 tw3181134558405726240 tw2397722925590278897 tw2236068196946752820 tw15078631120512402904 tw14847670404241014024 tw14745532027781427186 tw14001415056829088193 tw13862300112607161294 tw13164699878325389902 tw13107972679740768569 tw1290561232523086660 tw12313613197792765967 tw1036520825985247758 tw1025462532258594424 tw4043924432075955572 tw7065212561343706007 tw7037440377010900531 tw5892813058528181578 tw2724868409908703585 tw14822895478319980936 tw8660016253613015142 tw2373960196054977344 tw17610659288843523004 tw15941901761425352148 tw15736151170107534146 tw9771176734418925741 tw8929508258258123825 tw6278445738223649961 tw14990289075624088216 tw12624473155673539231 tw12207361855403440336 tw1090609649263807709 tw9745222653806275131 tw9700324658397604853 tw9466242029565635060 tw9320581579882294721 tw9290945288437867470 tw9227138498440583419 tw8985217218515179678 tw8806495883432465963 tw8756766532970423356 tw8285670288796386689 tw8263780090166156332 tw7806853868209265136 tw7612926683899070934 tw7602205367960088866 tw7563796087353155264 tw7554765652806178680 tw7543538840805905928 tw7334687539412305518 tw722376562301197304 tw6994131151774726860 tw6637836394296548012 tw6584020994830401311 tw6424004801348365642 tw6127619453518257057 tw6074576186025163423 tw5584810453292031307 tw5399570133734041192 tw4838485995096346997 tw451561921274615534 tw4490632805757646129 tw4098023807586056396 tw2948592094912024877 tw2947547375520592376 tw245950470974366362 tw213117422018280213 tw2034542007960550807 tw1932897179486060069 tw1921283160791559703 tw1919692625481843874 tw17933807525407646712 tw1785546237117999599 tw17850347569245313614 tw17636362290872366155 tw17517078520849370215 tw17493590267030127199 tw16920202935998403 tw16757500345802709957 tw16627163496474775854 tw16233769519356325838 tw14982961736092568226 tw14794634601092473599 tw14093334297585173438 tw14076985296888451312 tw13891655866277151689 tw13688478876356619152 tw13518788473200064968 tw13441200324965829933 tw12907612079236320109 tw11752594553089284441 tw11246011809223305843 tw10822181463195459415 tw10118771558184378937 tw4987529865990373068 tw3346609262775918141 tw18303224952272613228 tw13783582885200625038 tw11964250666723103901 tw16422165724875288166 tw12432254778699010452 tw4229342929842843789 tw14390563885892769743 tw12173867442336369532 tw8434931641955362641 tw17806113685362549925 tw15443531756547396414 tw7214053667357100588 tw2502090006381770748 tw17563532250284096241 tw13256322874663128552 tw1387133911204457883 tw8819063020198009975 tw8635815671428650788 tw12909788127550957806 tw10119297525110000346 tw8246098867825231674 tw948785524311866612 tw9212541548418671680 tw8738023760650650913 tw8317297957110128452 tw7746386823615049478 tw7724017060294780398 tw7643345730229789589 tw6231661001992260138 tw5101615282519481849 tw4340592443335918918 tw4065237597032872321 tw3901737911732795227 tw3592915762760404229 tw3129953419118833948 tw2384832815897093782 tw18272377776174851776 tw1667979126151153287 tw15830749023301805905 tw15573426987439933601 tw15435156291709180493 tw15070572664492133061 tw1372037082458034321 tw11455245647883405639 tw11228902994674469391 tw11036017716138014736 tw7750869739540996209 tw7685857260289697570 tw13012195521882831896 tw4448573993352333691 tw9827229574105320379 tw3113472289222582173 tw16370050956837857998 tw6077167159703471570 tw4639170454422525577 tw12028096159267375814 tw10355626022945073014 tw13290600044405565774 tw12871191712210771114 tw15451496037770925783 tw10610832364920444653 tw981515309329650438 tw9521825841740603117 tw9419195475117025271 tw9394549156217917161 tw9156877322107937977 tw8911703699756556463 tw8390981962514120642 tw8261178388611480642 tw8246603162932038575 tw8082692781544225709 tw7932414356359134197 tw7905477191166584966 tw7896459999866408660 tw7842969148951976500 tw7636909245408735841 tw7569363254924371097 tw7498482558614810806 tw7454250281213270265 tw7345967124344827956 tw7220366865404679491 tw6941363477361738985 tw6681409739636116954 tw6664368862390715992 tw6651989232250464395 tw6572490445476382130 tw6563582141506384481 tw654778466661257409 tw6542959959231829860 tw6509388431989486610 tw6275930532694688115 tw6217321832889844789 tw6138933356024061464 tw6137170570554476612 tw6050364600061854665 tw5967930869316420841 tw5542982638794551071 tw5451919388499089549 tw5332832923548794099 tw5055024179845061880 tw4685461648271305301 tw4628451834522370937 tw4586689931881617020 tw4450381633387149792 tw43007109127164935 tw4240868215192383548 tw416230680583405133 tw3791598523616782639 tw3646823287476295279 tw351101923489270482 tw3467323775914719841 tw3443237193456365941 tw3256665292550332938 tw3173645635921747059 tw2991349838569427613 tw2923153705981945904 tw2922516430005850643 tw2857478158770115458 tw280692709570845222 tw2699092081098822662 tw2336235029633579300 tw2271215566127610651 tw2262030932395549310 tw2222057011676157088 tw2113043964929893305 tw2035493880884646220 tw18324782007082616639 tw18140262884316249607 tw17975422184500960234 tw17973173068806784336 tw17854046715992290957 tw17837223779964210157 tw17775327923059426679 tw17617607367530042671 tw17402926438683253250 tw17126834396332300332 tw17086964949794279998 tw16816523637151002950 tw16601818910993880824 tw16476895959055362750 tw16311809643872092990 tw16195787412722106156 tw15789476022189356958 tw15723650562625714508 tw15613681944066787121 tw15382977965597631358 tw15234593405523980745 tw15076355813223165650 tw14962177724386627437 tw14582863832682049735 tw1414982884427027970 tw14061872597612844585 tw14028377121283629900 tw14002603932752467300 tw13814149442050380176 tw1378666657868933587 tw13726862067671164303 tw13643282755766976311 tw13478212156422929674 tw13369509743769483979 tw13068710188093629805 tw12955586033204929735 tw12940991356072773319 tw12741403789329642049 tw12706190224586169146 tw12687641717651124060 tw12432287780303165822 tw12168924721903015013 tw11840885274754668098 tw11615791086500831303 tw11473794072663831908 tw11350544741432421267 tw11308683256387846386 tw1107176972909484435 tw10998754269641315852 tw10864890033438086115 tw10701432061583599580 tw10646793525308866090 tw10645361907200683600 tw10643686904663647729 tw1056197544771186629 tw1051975787595097569 tw10464103272862159713 tw10382481076914490750 tw1007585539733180616 tw9988656646130414873 tw9881666563176713153 tw9867323240034203364 tw965511059098578965 tw9649696700576150279 tw9549635134128714809 tw9513510161651516359 tw9496244781189223639 tw9476217710182072920 tw9419692147801880810 tw9418171947298783400 tw9306525012361925145 tw9264100143826269101 tw9143594238316149449 tw877563930488440667 tw8596382470783716673 tw8320161414559770570 tw8302280581694005585 tw820737057564397923 tw8192670569266907924 tw8085138405420282482 tw803803927980575383 tw796836776097525022 tw7852320954063456919 tw7798311369582900927 tw7708470098827503936 tw7549985675776125075 tw7241320852143833388 tw7024794196773678987 tw6960844650633194958 tw6936114055416690503 tw6843848854509391749 tw6749854164384903187 tw6572234660170456 tw6476649670941837796 tw6409113081531061387 tw6317057832922903401 tw6206623885940283903 tw6202768428144285765 tw6163502438332231768 tw6022807342879926763 tw5933058734123773468 tw5524153727718943010 tw5485126137490809893 tw5405944911975857151 tw5359415181061216978 tw5005566178655771661 tw4983082176622744548 tw4881522699397265449 tw4686260459099502839 tw4292762587280297170 tw4138333201975297114 tw4125905250767282496 tw4016196240418398940 tw400597503383707108 tw3969251798657372148 tw3663586304431330532 tw3632092460727645000 tw3441887056878226938 tw3425311046081264398 tw3407539692335156284 tw3015704753560232616 tw3012700118376241311 tw2963217055737798507 tw2754508015117009952 tw2744107691262237930 tw2731817185491313676 tw2725822823561108206 tw2722688168652500247 tw2712041053990948223 tw2369705006453648778 tw2358136045084804856 tw2343925733200934470 tw2301713354912073166 tw2162720209394880069 tw2128499884026750489 tw2109376789537715596 tw2060607656717067841 tw2048023638402841059 tw1905972637442039343 tw18340629104467331048 tw18243400134131390509 tw18222949340885009216 tw17902799600483386332 tw17668712054163360413 tw17553338635793660833 tw17440198487713511707 tw17388202456038354740 tw17383497336463158380 tw17367068264837724647 tw1712811507522198700 tw17071119240625869246 tw17016407064614424246 tw16804773453232242421 tw16790166507846183689 tw16655851928920499348 tw16439364864818950960 tw16419644457139347219 tw16335847631404413087 tw16117165047295964339 tw1605059331145053336 tw15979051219795030601 tw15842224323494978921 tw15724488450362575690 tw15696214771652629851 tw15655957136978717030 tw15512391293275251403 tw1531821269091894865 tw15250732252963453257 tw15020364768246924101 tw14802918367878454105 tw14771515753070285577 tw14771420056979279945 tw14758193922286932185 tw14752578156667130068 tw14493180791876564298 tw14466583101191212856 tw14405074782826002993 tw1432862776889401615 tw14234644126668362394 tw14185874727811643356 tw14160943599164338680 tw13937099401165416003 tw1385522840693509139 tw13785738980551497952 tw13762736863303281627 tw13743713574781443852 tw13719186206463731066 tw13557372186403968817 tw13542309378571206061 tw13482580189721994224 tw13415331198612763078 tw13245552416257370581 tw13229283383945795769 tw12848584193004775759 tw12769436051333566708 tw1275836434202436928 tw12739711227427312088 tw12696809003365089722 tw12678297843186935472 tw12592166358832509257 tw12403778985684784880 tw12078290228776138848 tw11913908925887625260 tw11811184069534241475 tw1178608450927916126 tw11521093681731145350 tw11514947769028161453 tw11468173207539305221 tw11337034375636330753 tw11254744920968294716 tw11214359074998339334 tw11114292228913710367 tw11113236011447602425 tw11002650483374783651 tw10938950202163404860 tw10835298858550907098 tw10819032860048588961 tw10758501814291288465 tw10581610052306796993 tw10419870843456851386 tw10293846489447338409 tw10283311424671330261 tw1018524265909798204:True)
set_option maxRecDepth 100000 in
set_option maxHeartbeats 0 in
theorem PySem.Challenge.cw_facework_k08_whole_programs_go_round_holds : PySem.Challenge.rw_facework_k08_whole_programs_go_round.Holds := by
 w_on;o_law;k_head;(case hw=>w_witness2)
 k_fill
 refine Fw.walk (l:=PySem.Challenge.rw_facework_k08_whole_programs_go_round) rfl rfl (fun w h Y=>PySem.W.kIn_of Y) ?F
 case F=>
  intro w mg fa h KX G hmg
  refine' Fw.all_mk KX G hmg ?z_len ?z_all ?z_isinstance ?z_str ?z_tuple ?z_list ?z_range ?z_int ?z_bool ?z_zip ?z_abs ?z_reversed ?v1 ?v2 ?v3 ?v6 ?v4 ?v7 ?v8 ?v9 ?vd ?vi ?vg ?v5 ?fo ?fd ?d11 ?d12 ?d13 ?d14 ?d15 ?d16 ?d17 ?d18 ?d19 ?d20 ?d24 ?d25 ?d26 ?d27 ?d28 ?d30 ?d31 ?d32 ?d33 ?d38 ?d39 ?d40 ?d41 ?d42 ?d43 ?d44 ?d45 ?d46 ?d47 ?d48 ?d49 ?d50 ?d51 ?d52 ?d54 ?d55 ?d56 ?d57 ?d58 ?d59 ?d60 ?d61 ?d62 ?d63 ?d64 ?d65 ?d66 ?d67 ?d68 ?d69 ?d70 ?d72 ?d73 ?d74 ?d75 ?d77 ?d78 ?d79 ?d80 ?d81 ?d82 ?d83 ?d84 ?d85 ?d86 ?d87 ?d88 ?d89 ?d90 ?d91 ?d92 ?d93 ?d94 ?d95 ?d96 ?d97 ?d98 ?d99 ?d100 ?d101 ?d102 ?d103 ?d104 ?d105 ?d106 ?d107
  (case z_len|z_all|z_isinstance|z_str|z_tuple|z_list|z_range|z_int|z_bool|z_zip|z_abs|z_reversed=>k_is)
  (case v1|v2|v3|v6=>refine' Fw.val_str ?a ?e;(case a=>k_is);(case e=>decide+kernel))
  (case v4|v7|v8|v9|vd|vi|vg=>refine' Fw.val_int ?a ?e;(case a=>k_is);(case e=>decide+kernel))
  (case v5=>refine' Fw.val_tup ?a ?b ?c ?d ?e;(case a=>k_is);(case b=>k_is);(case c=>rfl);(case d=>decide+kernel);(case e=>decide+kernel))
  (case fo=>refine' Fw.forms_mk ?a ?a0 ?a1 ?a2 ?a3 ?a4 ?a5 ?a6 ?dl ?ds ?dx ?dp;(case a=>k_is);(case a0=>k_is);(case a1=>k_is);(case a2=>k_is);(case a3=>k_is);(case a4=>k_is);(case a5=>k_is);(case a6=>k_is);(case dl=>k_is);(case ds=>decide+kernel);(case dx=>exact⟨rfl,rfl,rfl⟩);(case dp=>exact .cons ⟨rfl,⟨_,rfl⟩,rfl⟩ (.cons ⟨rfl,⟨_,rfl⟩,rfl⟩ (.cons ⟨rfl,⟨_,rfl⟩,rfl⟩ (.cons ⟨rfl,⟨_,rfl⟩,rfl⟩ (.cons ⟨rfl,⟨_,rfl⟩,rfl⟩ (.cons ⟨rfl,⟨_,rfl⟩,rfl⟩ (.cons ⟨rfl,⟨_,rfl⟩,rfl⟩ (.cons ⟨rfl,⟨_,rfl⟩,rfl⟩ (.cons ⟨rfl,⟨_,rfl⟩,rfl⟩ (.cons ⟨rfl,⟨_,rfl⟩,rfl⟩ (.cons ⟨rfl,⟨_,rfl⟩,rfl⟩ (.cons ⟨rfl,⟨_,rfl⟩,rfl⟩ .nil)))))))))))))
  (case fd=>refine' Fw.decls_mk ?a ?a0 ?a1 ?a2 ?a3 ?a4 ?a5 ?dl ?ds ?dx ?dp;(case a=>k_is);(case a0=>k_is);(case a1=>k_is);(case a2=>k_is);(case a3=>k_is);(case a4=>k_is);(case a5=>k_is);(case dl=>k_is);(case ds=>decide+kernel);(case dx=>exact⟨rfl,rfl,rfl⟩);(case dp=>exact .cons ⟨rfl,⟨_,rfl⟩,rfl⟩ (.cons ⟨rfl,⟨_,rfl⟩,rfl⟩ (.cons ⟨rfl,⟨_,rfl⟩,rfl⟩ (.cons ⟨rfl,⟨_,rfl⟩,rfl⟩ (.cons ⟨rfl,⟨_,rfl⟩,rfl⟩ (.cons ⟨rfl,⟨_,rfl⟩,rfl⟩ .nil)))))))
  (case d11|d12|d13|d14|d15|d16|d17|d18|d19|d20|d24|d25|d26|d27|d28|d30|d31|d32|d33|d38|d39|d40|d41|d42|d43|d44|d45|d46|d47|d48|d49|d50|d51|d52|d54|d55|d56|d57|d58|d59|d60|d61|d62|d63|d64|d65|d66|d67|d68|d69|d70|d72|d73|d74|d75|d77|d78|d79|d80|d81|d82|d83|d84|d85|d86|d87|d88|d89|d90|d91|d92|d93|d94|d95|d96|d97|d98|d99|d100|d101|d102|d103|d104|d105|d106|d107=>refine' Fw.def_mk ?a ?l ?c ?k;(case a=>k_is);(case l=>k_is);(case c=>k_is);(case k=>k_is))
