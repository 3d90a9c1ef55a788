import PyProof.Rows.All
import Wide.All
import OpenK.AllK
import Wide.FinOn
import Lean
import PyProof.EqAt
import PyProof.EqKinds
import PyProof.TupleCall
import PyProof.StationsW
import OpenK.KOwn
import PyProof.ExcBaseAll.ValueError
import PyProof.NsDelKeeps
import PyProof.RulesAs
import KE.KLam
import KE.KNest
import KE.KIsAll
import PyProof.ExcArgs
import PyProof.CompUse
import KE.KRevIter
import PyProof.CollectWalk
import PyProof.TupleOfSeq
import KE.KDictList
import PyProof.FitsBits
import PyProof.TupleOfGen
import PyProof.ZipIter
import PyProof.EnumFor
import PyProof.Draws
import PyProof.Rows.CountFlat
import PyProof.FactsAll.list_3
import PyProof.FitsInt
import PyProof.NeKinds
import PySem.Challenge.RW_facework_k66_rings
set_option Elab.async false
set_option linter.all false
set_option maxRecDepth 100000
namespace L2
open PySem PySem.Spec PyProof.Rows
abbrev Key:=Sum Int Str
def keyIs:Key→Value→Bool
 |.inl k,v=>Value.isInt k v
 |.inr x,v=>Value.isStrOf x v
def keyH (w:World):Key→Int
 |.inl k=>hashInt k
 |.inr x=>hashStr w x
theorem keyIs_shape:∀{k:Key} {v:Value},keyIs k v=true→(∃i t,k=Sum.inl i∧v=Value.int i t)∨(∃x t,k=Sum.inr x∧v=Value.str x t)
 |.inl i,v,h=>by
  obtain⟨t,e⟩:=Value.isInt_shape (k:=i) (v:=v) h
  exact .inl ⟨i,t,rfl,e⟩
 |.inr x,v,h=>by
  obtain⟨t,e⟩:=Value.isStrOf_shape (x:=x) (v:=v) h
  exact .inr ⟨x,t,rfl,e⟩
theorem keyIs_int (i:Int)(t:Tok):keyIs (.inl i) (.int i t)=true:=by simp[keyIs,Value.isInt]
theorem keyIs_str (x:Str)(t:Tok):keyIs (.inr x) (.str x t)=true:=by simp[keyIs,Value.isStrOf]
theorem key_ll (a b:Int):decide ((Sum.inl a:Key)=Sum.inl b)=(a==b):=by
 by_cases e:a=b
 ·subst e;simp
 ·have h:¬(Sum.inl a:Key)=Sum.inl b:=fun q=>e (Sum.inl.inj q)
  rw[decide_eq_false h]
  exact(beq_eq_false_iff_ne.mpr e).symm
theorem key_rr (a b:Str):decide ((Sum.inr a:Key)=Sum.inr b)=decide (a=b):=by
 by_cases e:a=b
 ·subst e;simp
 ·have h:¬(Sum.inr a:Key)=Sum.inr b:=fun q=>e (Sum.inr.inj q)
  rw[decide_eq_false h,decide_eq_false e]
theorem key_lr (a:Int)(b:Str):decide ((Sum.inl a:Key)=Sum.inr b)=false:=decide_eq_false (fun q=>nomatch q)
theorem key_rl (a:Str)(b:Int):decide ((Sum.inr a:Key)=Sum.inl b)=false:=decide_eq_false (fun q=>nomatch q)
def mixKind (prog:Program)(w:World):PySem.KeyKind prog w Key where
 is:=keyIs
 hash:=keyH w
 inj:=fun v a b ha hb=>by
  rcases keyIs_shape ha with ⟨i,t,rfl,rfl⟩|⟨x,t,rfl,rfl⟩
  ·rcases keyIs_shape hb with ⟨j,u,rfl,e⟩|⟨y,u,rfl,e⟩
   ·injection e with e1 _;rw[e1]
   ·exact nomatch e
  ·rcases keyIs_shape hb with ⟨j,u,rfl,e⟩|⟨y,u,rfl,e⟩
   ·exact nomatch e
   ·injection e with e1 _;rw[e1]
 byValue:=fun k v h=>by
  rcases keyIs_shape h with ⟨i,t,rfl,rfl⟩|⟨x,t,rfl,rfl⟩<;>rfl
 pyHash:=fun hv h=>by
  rcases keyIs_shape hv with ⟨i,t,rfl,rfl⟩|⟨x,t,rfl,rfl⟩
  ·exact wpAny_pyHash_int h
  ·exact wpAny_pyHash_str h
 eqBool:=fun hu hv h=>by
  rcases keyIs_shape hu with ⟨i,t,rfl,rfl⟩|⟨x,t,rfl,rfl⟩
  ·rcases keyIs_shape hv with ⟨j,u,rfl,rfl⟩|⟨y,u,rfl,rfl⟩
   ·rw[key_ll]at h;exact wpAny_eqBool_int h
   ·rw[key_lr]at h;exact SeqAt.EqAt.int_str i t y u _ _ _ _ h
  ·rcases keyIs_shape hv with ⟨j,u,rfl,rfl⟩|⟨y,u,rfl,rfl⟩
   ·rw[key_rl]at h;exact SeqAt.EqAt.str_int x t j u _ _ _ _ h
   ·rw[key_rr]at h;exact wpAny_eqBool_str h
 «strs»:=fun k x t v h=>by
  rcases keyIs_shape h with ⟨i,u,rfl,e⟩|⟨y,u,rfl,e⟩
  ·exact nomatch e
  ·injection e with e1 _
   subst e1
   cases v<;>rfl
theorem mixKind_int (prog:Program)(w:World)(i:Int)(t:Tok):(mixKind prog w).is (.inl i) (.int i t)=true:=keyIs_int i t
theorem mixKind_str (prog:Program)(w:World)(x:Str)(t:Tok):(mixKind prog w).is (.inr x) (.str x t)=true:=keyIs_str x t
inductive V where
 |non|bl (b:Bool)|int (i:Int)|str (x:Str)|byt (b:Array UInt8)|flt (b:UInt64)|ref (a:Addr)|ty (n:String)
 deriving DecidableEq
def RelV:V→Value→Prop
 |.non,u=>u=Value.none
 |.bl b,u=>u=Value.bool b
 |.int i,u=>∃t,u=Value.int i t
 |.str x,u=>∃t,u=Value.str x t
 |.byt b,u=>∃t,u=Value.bytes b t
 |.flt b,u=>∃t,u=Value.float b t
 |.ref a,u=>u=Value.ref a
 |.ty n,u=>u=Value.type n
abbrev Vals:List V→List Value→Prop:=Paired RelV
theorem Vals.length {xs:List V}{us:List Value}(r:Vals xs us):xs.length=us.length:=Paired.length r
theorem Vals.get:∀{xs:List V} {us:List Value} {i:Nat} {x:V},Vals xs us→xs[i]?=some x→∃u,us[i]?=some u∧RelV x u
 |_,_,_,_, .nil,e=>by simp at e
 |_,_,0,_, .cons r _,e=>by simp at e;subst e;exact⟨_,rfl,r⟩
 |_,_,i+1,x, .cons _ t,e=>by
  obtain⟨u,h1,h2⟩:=Vals.get (i:=i) (x:=x) t (by simpa using e)
  exact⟨u,by simpa using h1,h2⟩
theorem Vals.set {x:V}{u:Value}(r:RelV x u):∀{xs:List V} {us:List Value} (i:Nat),Vals xs us→Vals (xs.set i x) (us.set i u)
 |_,_,_, .nil=>.nil
 |_,_,0, .cons _ t=>.cons r t
 |_,_,i+1, .cons q t=>.cons q (Vals.set r i t)
theorem Vals.append:∀{xs ys:List V} {us ws:List Value},Vals xs us→Vals ys ws→Vals (xs++ys) (us++ws)
 |_,_,_,_, .nil,s=>s
 |_,_,_,_, .cons r t,s=>.cons r (Vals.append t s)
def RelO:Option V→Option Value→Prop
 |some v,some u=>RelV v u
 |none,none=>True
 |_,_=>False
def KV {κ:Type}:List (κ×V)→List (κ×Value)→Prop:=Paired fun(p:κ×V) (q:κ×Value)=>p.1=q.1∧RelV p.2 q.2
def kV:Key→V
 |.inl i=>.int i
 |.inr x=>.str x
inductive HO where
 |lst (xs:List V)
 |tup (xs:List V)
 |dK (kvs:List (Key×V))|dT (kvs:List (List Key×V))
 |set (S:Int→Bool) (n:Nat)
 |ins (C dx:Addr) (fs:List (Str×V))
 |own (x:Addr)
 |xd (fs:List (Str×V))
 |met (f x:Addr)
 |rng (lo hi:Int)
 |frz (o:Obj) (u:HO)
 |tbl (ps:Array Value)
 |ext (φ:Heap→Prop)
abbrev Hp:=Addr→Option HO
def upd (H:Hp)(a:Addr)(o:HO):Hp:=fun b=>if b=a then some o else H b
theorem upd_same {H:Hp}{a:Addr}{o:HO}:upd H a o a=some o:=by unfold upd;rw[if_pos rfl]
theorem upd_ne {H:Hp}{a b:Addr}{o:HO}(h:b≠a):upd H a o b=H b:=by unfold upd;rw[if_neg h]
theorem upd_upd {H:Hp}{a:Addr}{o u:HO}:upd (upd H a o) a u=upd H a u:=by
 funext b;unfold upd;split<;>rfl
theorem ne_of {H:Hp}{a b:Addr}{o u:HO}(h:H a=some o)(h':H b=some u)(d:o≠u):a≠b:=by
 intro e;subst e;rw[h]at h';exact d (Option.some.inj h')
theorem ne_of_none {H:Hp}{a b:Addr}{o:HO}(h:H a=some o)(h':H b=none):a≠b:=by
 intro e;subst e;rw[h]at h';cases h'
section
variable (P:Program)(w:World)
def ObjOk (H:Hp)(h:Heap)(a:Addr):HO→Prop
 |.lst xs=>xs.length≤sizeLine∧∃(its:List Value) (n:Nat),Vals xs its∧h.get? a=some {cls:=.type "list",data:=.seq its.toArray n}
 |.tup xs=>xs.length≤sizeLine∧∃its:List Value,Vals xs its∧IsTup h a its.toArray
 |.dK kvs=>kvs.length≤sizeLine∧(a==sysModules)=false∧∃vs,KV kvs vs∧h.DictOf (mixKind P w) a vs
 |.dT kvs=>kvs.length≤sizeLine∧(a==sysModules)=false∧∃xs:List (List Key×Addr×Value),
   Paired (fun(p:List Key×V) (q:List Key×Addr×Value)=>p.1=q.1∧H q.2.1=some (.tup (p.1.map kV))∧RelV p.2 q.2.2) kvs xs∧
   ∃o es ep,h.get? a=some o∧o.ExactDict∧o.data=.dict es ep∧es.toList=xs.map (entryOfKey (tupleKind (mixKind P w)))∧(xs.map (·.1)).Nodup
 |.set S n=>h.SetOf (intKind P w) a S n
 |.ins C dx fs=>H dx=some (.own a)∧fs.length≤1000∧dx≠a∧h.get? a=some (PySem.W.instObj C dx)∧
   ∃mA,h.Ns1 dx mA∧(∀f,RelO (fs.lookup f) (mA f))∧PySem.Within mA (fs.map (·.1))
 |.own _=>∃o,h.get? a=some o
 |.xd fs=>∃mA,h.Ns1 a mA∧∀f,RelO (fs.lookup f) (mA f)
 |.rng lo hi=>∃t u v,h.get? a=some {cls:=.type "range",data:=.fields #[.int lo t, .int hi u, .int 1 v]}
 |.frz o u=>h.get? a=some o∧ObjOk H h a u
 |.tbl ps=>h.get? a=some {cls:=.none,data:=.fields ps}
 |.met f x=>h.get? a=some (PySem.W.methodObj (.ref f) (.ref x))
 |.ext φ=>φ h∧(∃o,h.get? a=some o)∧∀h1 h2:Heap,φ h1→(∀o,h1.get? a=some o→h2.get? a=some o)→φ h2
def HOk (H:Hp)(h:Heap):Prop:=∀a o,H a=some o→ObjOk P w H h a o
end
section
variable {P:Program}{w:World}{H H':Hp}{h h':Heap}{a:Addr}{o:HO}
theorem ObjOk.lt (x:ObjOk P w H h a o):a<h.objs.size:=by
 cases o with
 |lst xs=>obtain⟨_,_,_,_,e⟩:=x;exact Heap.lt_size e
 |tup xs=>obtain⟨_,_,_,p⟩:=x;exact p.lt
 |dK kvs=>obtain⟨_,_,_,_,o,_,_,e,_⟩:=x;exact Heap.lt_size e
 |dT kvs=>obtain⟨_,_,_,_,o,_,_,e,_⟩:=x;exact Heap.lt_size e
 |set S n=>obtain⟨o,_,_,_,e,_⟩:=x;exact Heap.lt_size e
 |ins C dx fs=>obtain⟨_,_,_,e,_⟩:=x;exact Heap.lt_size e
 |own y=>obtain⟨_,e⟩:=x;exact Heap.lt_size e
 |xd fs=>obtain⟨_,⟨_,_,_,e,_⟩,_⟩:=x;exact Heap.lt_size e
 |rng lo hi=>obtain⟨_,_,_,e⟩:=x;exact Heap.lt_size e
 |frz ob u=>obtain⟨e,_⟩:=x;exact Heap.lt_size e
 |tbl ps=>exact Heap.lt_size (show h.get? a=some _ from x)
 |met f y=>exact Heap.lt_size (show h.get? a=some _ from x)
 |ext φ=>obtain⟨_,⟨_,e⟩,_⟩:=x;exact Heap.lt_size e
theorem Paired.mapP {α β:Type}{F G:α→β→Prop}:∀{l₁:List α} {l₂:List β},Paired F l₁ l₂→(∀a b,F a b→G a b)→Paired G l₁ l₂
 |_,_, .nil,_=>.nil
 |_,_, .cons r t,f=>.cons (f _ _ r) (Paired.mapP t f)
theorem ObjOk.stay (x:ObjOk P w H h a o)(k:∀b u,(b=a∨H b=some (.own a))→h.get? b=some u→h'.get? b=some u)
  (ho:∀b,H b=some (.own a)→H' b=some (.own a)) (ht:∀b xs,H b=some (.tup xs)→H' b=some (.tup xs)):ObjOk P w H' h' a o:=by
 induction o with
 |lst xs=>obtain⟨z,its,n,r,e⟩:=x;exact⟨z,its,n,r,k _ _ (.inl rfl) e⟩
 |tup xs=>obtain⟨z,its,r,ob,e,c⟩:=x;exact⟨z,its,r,ob,k _ _ (.inl rfl) e,c⟩
 |dK kvs=>obtain⟨z,y,vs,r,ob,es,ep,e,c⟩:=x;exact⟨z,y,vs,r,ob,es,ep,k _ _ (.inl rfl) e,c⟩
 |dT kvs=>
  obtain⟨z,y,xs,r,ob,es,ep,e,c⟩:=x
  exact⟨z,y,xs,Paired.mapP r fun p q z=>⟨z.1,ht _ _ z.2.1,z.2.2⟩,ob,es,ep,k _ _ (.inl rfl) e,c⟩
 |set S n=>obtain⟨ob,es,ep,t,e,c⟩:=x;exact⟨ob,es,ep,t,k _ _ (.inl rfl) e,c⟩
 |ins C dx fs=>
  obtain⟨d,z,ne,e,mA,⟨od,es,ep,e2,c⟩,r⟩:=x
  exact⟨ho _ d,z,ne,k _ _ (.inl rfl) e,mA,⟨od,es,ep,k _ _ (.inr d) e2,c⟩,r⟩
 |own y=>obtain⟨ob,e⟩:=x;exact⟨ob,k _ _ (.inl rfl) e⟩
 |xd fs=>obtain⟨mA,⟨od,es,ep,e,c⟩,r⟩:=x;exact⟨mA,⟨od,es,ep,k _ _ (.inl rfl) e,c⟩,r⟩
 |rng lo hi=>obtain⟨t,u,v,e⟩:=x;exact⟨t,u,v,k _ _ (.inl rfl) e⟩
 |frz ob u ih=>obtain⟨e,q⟩:=x;exact⟨k _ _ (.inl rfl) e,ih q⟩
 |tbl ps=>
  have e:h.get? a=some {cls:=.none,data:=.fields ps}:=x
  show h'.get? a=some {cls:=.none,data:=.fields ps}
  exact k a _ (.inl rfl) e
 |met f y=>
  have e:h.get? a=some (PySem.W.methodObj (.ref f) (.ref y)):=x
  show h'.get? a=some (PySem.W.methodObj (.ref f) (.ref y))
  exact k a _ (.inl rfl) e
 |ext φ=>obtain⟨p,⟨o,e⟩,st⟩:=x;exact⟨st _ _ p fun o q=>k _ _ (.inl rfl) q,⟨o,k _ _ (.inl rfl) e⟩,st⟩
theorem HOk.lt (x:HOk P w H h)(e:H a=some o):a<h.objs.size:=(x a o e).lt
theorem HOk.fresh (x:HOk P w H h)(e:h.objs.size≤a):H a=none:=by
 cases q:H a with
 |none=>rfl
 |some u=>exact absurd (Nat.lt_of_lt_of_le (x.lt q) e) (Nat.lt_irrefl _)
theorem HOk.kept (x:HOk P w H h)(k:∀b u,h.get? b=some u→h'.get? b=some u):HOk P w H h':=fun a o e=>
 (x a o e).stay (fun b u _ q=>k b u q) (fun _ q=>q) fun _ _ q=>q
theorem HOk.laid (x:HOk P w H h)(k:∀b u,h.get? b=some u→h'.get? b=some u)(hp:h.objs.size≤a)(new:ObjOk P w (upd H a o) h' a o):HOk P w (upd H a o) h':=fun b u e=>by
 have hn:=x.fresh hp
 by_cases hb:b=a
 ·subst hb;rw[upd_same]at e;cases e;exact new
 ·rw[upd_ne hb]at e
  exact(x b u e).stay (fun c v _ q=>k c v q) (fun c q=>by rw[upd_ne (ne_of_none q hn)];exact q) fun c xs q=>by rw[upd_ne (ne_of_none q hn)];exact q
end
def Rd (H:Hp)(a:Addr)(u:HO):Prop:=H a=some u∨∃o,H a=some (.frz o u)
theorem Rd.ok {P:Program}{w:World}{H:Hp}{h:Heap}{a:Addr}{u:HO}(r:Rd H a u)(x:HOk P w H h):ObjOk P w H h a u:=by
 rcases r with r|⟨o,r⟩
 ·exact x a u r
 ·obtain⟨_,q⟩:=x a _ r
  exact q
def Mut:Option HO→Prop
 |some (.lst _)=>True
 |some (.dK _)=>True
 |some (.dT _)=>True
 |some (.set _ _)=>True
 |some (.ins _ _ _)=>True
 |some (.ext _)=>True
 |_=>False
section
variable {P:Program}{w:World}{H:Hp}{h h':Heap}{x e:Addr}{o':HO}
theorem HOk.write (ok:HOk P w H h)(mu:Mut (H x))(he:e=x∨H e=some (.own x))(k:∀b u,b≠e→h.get? b=some u→h'.get? b=some u)(heo:∃u,h'.get? e=some u)
  (new:ObjOk P w (upd H x o') h' x o'):HOk P w (upd H x o') h':=fun b u q=>by
 have nown:∀c y,H c=some (.own y)→c≠x:=fun c y r z=>by subst z;rw[r]at mu;exact mu
 have ntup:∀c xs,H c=some (.tup xs)→c≠x:=fun c xs r z=>by subst z;rw[r]at mu;exact mu
 by_cases hb:b=x
 ·subst hb;rw[upd_same]at q;cases q;exact new
 ·rw[upd_ne hb]at q
  by_cases hbe:b=e
  ·have q':H b=some (.own x):=by
    rcases he with z|z
    ·exact absurd (hbe.trans z) hb
    ·rw[hbe];exact z
   rw[q]at q';cases q'
   obtain⟨v,hv⟩:=heo
   exact⟨v,by rw[hbe];exact hv⟩
  ·refine(ok b u q).stay (fun c v hc r=>k c v ?_ r) (fun c r=>by rw[upd_ne (nown c b r)];exact r) fun c xs r=>by rw[upd_ne (ntup c xs r)];exact r
   rcases hc with rfl|hc
   ·exact hbe
   ·rintro rfl
    rcases he with z|z
    ·exact nown c b hc z
    ·rw[hc]at z;cases z;exact hb rfl
end
structure Un (fs ex:List Addr)(H H':Hp)(h h':Heap):Prop where
 keep:∀b o,h.get? b=some o→H b=none→b∉fs→b∉ex→h'.get? b=some o
 slot:∀b o,h.get? b=some o→H b=none→b∈fs→b∉ex→∃sl,h'.get? b=some {o with slots:=sl}
 free:∀b o,h.get? b=some o→H b=none→b∉ex→H' b=none
 there:∀b o,h.get? b=some o→b∉ex→∃o',h'.get? b=some o'
 tups:∀b xs,H b=some (.tup xs)→H' b=some (.tup xs)
 frzs:∀b o u,H b=some (.frz o u)→H' b=some (.frz o u)
 tbls:∀b ps,H b=some (.tbl ps)→∃more,H' b=some (.tbl (ps++more))
section
variable {fs fs' ex ex':List Addr}{H H1 H2:Hp}{h h1 h2 h':Heap}{a x e:Addr}{o:HO}
theorem Un.any (u:Un fs ex H H1 h h1){b:Addr}{ob:Obj}(q:h.get? b=some ob)(n:H b=none)(hx:b∉ex):∃sl,h1.get? b=some {ob with slots:=sl}:=by
 by_cases hb:b∈fs
 ·exact u.slot b ob q n hb hx
 ·exact⟨ob.slots,u.keep b ob q n hb hx⟩
theorem Un.kept (k:∀b u,h.get? b=some u→h'.get? b=some u):Un fs ex H H h h' :=
 ⟨fun b ob q _ _ _=>k b ob q,fun b ob q _ _ _=>⟨ob.slots,k b ob q⟩,fun _ _ _ n _=>n,fun b ob q _=>⟨ob,k b ob q⟩,fun _ _ q=>q,fun _ _ _ q=>q,fun _ ps q=>⟨#[],by rw[q];simp⟩⟩
theorem Un.refl:Un fs ex H H h h:=Un.kept fun _ _ q=>q
theorem Un.laid (k:∀b u,h.get? b=some u→h'.get? b=some u)(hp:h.objs.size≤a)(hn:H a=none):Un fs ex H (upd H a o) h h' where
 keep:=fun b u q _ _ _=>k b u q
 slot:=fun b u q _ _ _=>⟨u.slots,k b u q⟩
 free:=fun b u q n _=>by rw[upd_ne (Nat.ne_of_lt (Nat.lt_of_lt_of_le (Heap.lt_size q) hp))];exact n
 there:=fun b u q _=>⟨u,k b u q⟩
 tups:=fun b xs q=>by rw[upd_ne (ne_of_none q hn)];exact q
 frzs:=fun b u xs q=>by rw[upd_ne (ne_of_none q hn)];exact q
 tbls:=fun b ps q=>⟨#[],by rw[upd_ne (ne_of_none q hn),q];simp⟩
theorem Un.write (mu:Mut (H x))(he:e=x∨H e=some (.own x))(k:∀b u,b≠e→h.get? b=some u→h'.get? b=some u)(heo:∃u,h'.get? e=some u):Un fs ex H (upd H x o) h h':=by
 have hx:∀b,H b=none→b≠x:=fun b n z=>by subst z;rw[n]at mu;exact mu
 have hb:∀b,H b=none→b≠e:=fun b n z=>by
  subst z
  rcases he with r|r
  ·exact hx b n r
  ·rw[n]at r;cases r
 have hm:∀b u,H b=some u→¬Mut (some u)→b≠x:=fun b u q nm z=>by subst z;rw[q]at mu;exact nm mu
 refine⟨fun b u q n _ _=>k b u (hb b n) q,fun b u q n _ _=>⟨u.slots,k b u (hb b n) q⟩,fun b u q n _=>by rw[upd_ne (hx b n)];exact n,fun b u q _=>?_,
  fun b xs q=>by rw[upd_ne (hm b _ q fun z=>z)];exact q,fun b u xs q=>by rw[upd_ne (hm b _ q fun z=>z)];exact q,fun b ps q=>⟨#[],by rw[upd_ne (hm b _ q fun z=>z),q];simp⟩⟩
 by_cases hbe:b=e
 ·subst hbe;exact heo
 ·exact⟨u,k b u hbe q⟩
end
def trk (h:Heap)(H:Hp):List Addr:=(List.range h.objs.size).filter fun a=>(H a).isSome
def hidT (h:Heap)(H:Hp):Heap:=PySem.W.hideAll h (trk h H)
theorem hidT_size (h:Heap)(H:Hp):(hidT h H).objs.size=h.objs.size:=PySem.W.hideAll_size _ _
theorem hidT_get {h:Heap}{H:Hp}{b:Addr}{o:Obj}(e:h.get? b=some o)(n:H b=none):(hidT h H).get? b=some o :=
 PySem.W.hideAll_get _ e fun hm=>by
  have q:(H b).isSome=true:=(List.mem_filter.mp hm).2
  rw[n]at q;simp at q
theorem of_hidT {h:Heap}{H:Hp}{b:Addr}{o:Obj}(e:(hidT h H).get? b=some o):h.get? b=some o∧H b=none:=by
 have e':h.get? b=some o:=PySem.W.of_hideAll (trk h H) e
 refine⟨e',?_⟩
 cases q:H b with
 |none=>rfl
 |some x=>
  have hm:b∈trk h H:=List.mem_filter.mpr ⟨List.mem_range.mpr (Heap.lt_size e'),by simp[q]⟩
  have z:(hidT h H).get? b=none:=PySem.W.hideAll_none (trk h H) hm
  rw[z]at e;cases e
def allNews (g h:Heap)(L:Addr):List (Addr×Obj):=(List.range h.objs.size).filterMap fun a=>if a=L∨(g.get? a).isSome=true then none else(h.get? a).map fun o=>(a,o)
def rest (g h:Heap)(L d:Addr):List (Addr×Obj):=(allNews g h L).filter fun p=>decide (p.1≠d)
structure Mod (K:PySem.W.Frag)(mg:Str→Option Value)(base:Heap):Prop where
 kin:K.In base
 glob:base.Ns mainGlobals mg
 blt:∃mb,base.Ns builtinsNs mb∧∀x:Str,x≠"__name__"→mb x=bootBuiltins x
 nolimit:base.NoLimit
structure Cx where
 prog:Program
 w:World
 K:PySem.W.Frag
 mg:Str→Option Value
 base:Heap
 A:Around
 N:List Str
 s₀:Shared
 H₀:Hp
 env:Env
 outer:List Env
 stack:List Env
 ex:List Addr
 fn:Str→Bool
 calm:Bool
 pn:List (Addr×Obj)
 xe:Value→Shared→Prop
def frs (l:List Env):List Addr:=l.filterMap (·.frame)
abbrev Cx.fs (X:Cx):List Addr:=frs X.outer
def Vis (sc:Scope)(x:Str):Prop:=sc.names.lookup x=some .local∨sc.names.lookup x=some .cell∨sc.names.lookup x=some .free
def Loc (sc:Scope)(x:Str):Prop:=sc.names.lookup x=some .local∨sc.names.lookup x=some .cell
def Look (env:Env)(h:Heap)(m:Str→Option Value)(x:Str)(u:Value):Prop :=
 (env.kindOf x=some .local∧m x=some u)∨((env.kindOf x=some .cell∨env.kindOf x=some .free)∧∃c,env.cells.lookup x=some c∧h.IsCell c (some u))
structure Cx.Ok (X:Cx):Prop where
 mod:Mod X.K X.mg X.base
 kind:X.env.scope.kind=.function
 glob:X.env.globals=mainGlobals
 blt:X.env.builtins=builtinsNs
 above:X.s₀.heap.objs.size≤X.env.locals
 inj:∀x y c,X.env.cells.lookup x=some c→X.env.cells.lookup y=some c→x=y
 has:∀x,(X.env.kindOf x=some .cell∨X.env.kindOf x=some .free)→∃c,X.env.cells.lookup x=some c
 cab:∀x c,X.fn x=true→X.env.cells.lookup x=some c→X.s₀.heap.objs.size≤c
 hd:X.calm=true→X.A.handled=none
 frames:X.A.frames=some X.stack
 stk:X.stack=X.outer∨(X.stack=X.env::X.outer∧X.env.frame=some X.env.locals)
 exf:∀b∈X.ex,b≠X.env.locals∧∀x c,X.env.cells.lookup x=some c→c≠b
 bs:∀b o,X.base.get? b=some o→X.s₀.heap.get? b=some o∧X.H₀ b=none
 bsz:X.base.objs.size≤X.s₀.heap.objs.size
 noex:∀b o,X.base.get? b=some o→b∉X.ex
 exfs:∀b∈X.ex,b∉X.fs
 funs:X.s₀.heap.FunFrames X.base X.outer
 frf:∀b∈X.fs,X.H₀ b=none
structure Inv (X:Cx)(pins:List (Addr×Obj))(σ:List (Option V))(H:Hp)(s:Shared):Prop where
 ok:X.Ok
 os:s.os=X.s₀.os
 bare:AllBare s.gens
 base:Un X.fs X.ex X.H₀ H X.s₀.heap s.heap
 loc:∃m,s.heap.Ns X.env.locals m∧∀(i:Nat) (x:Str) (v:V),X.N[i]?=some x→σ[i]?=some (some v)→Vis X.env.scope x→∃u,RelV v u∧Look X.env s.heap m x u
 cell:∀x c,X.env.cells.lookup x=some c→∃v,s.heap.IsCell c v
 free:H X.env.locals=none
 freeC:∀x c,X.env.cells.lookup x=some c→H c=none
 pin:∀p∈X.pn++pins,s.heap.get? p.1=some p.2∧H p.1=none∧p.1≠X.env.locals∧p.1∉X.fs∧∀v,p.2.data≠.cell v
 hok:HOk X.prog X.w H s.heap
 len:σ.length=X.N.length
section
variable {X:Cx}{pins:List (Addr×Obj)}{σ:List (Option V)}{H H':Hp}{s:Shared}{h':Heap}
theorem Cx.Ok.nofr (ok:X.Ok){b:Addr}{o:Obj}(e:X.base.get? b=some o):b∉X.fs:=fun hb=>by
 have:=(ok.funs.mem hb).1
 rw[e]at this;cases this
theorem Inv.bs (I:Inv X pins σ H s):∀b o,X.base.get? b=some o→s.heap.get? b=some o∧H b=none:=fun b o e=>
 ⟨I.base.keep b o (I.ok.bs b o e).1 (I.ok.bs b o e).2 (I.ok.nofr e) (I.ok.noex b o e),I.base.free b o (I.ok.bs b o e).1 (I.ok.bs b o e).2 (I.ok.noex b o e)⟩
theorem Inv.bk (I:Inv X pins σ H s):∀b o,X.base.get? b=some o→s.heap.get? b=some o:=fun b o e=>(I.bs b o e).1
theorem Inv.mod (I:Inv X pins σ H s):Mod X.K X.mg X.base:=I.ok.mod
theorem Inv.kIn (I:Inv X pins σ H s):X.K.In s.heap:=I.ok.mod.kin.keeps I.bk
theorem Inv.lt (I:Inv X pins σ H s):X.env.locals<s.heap.objs.size:=let ⟨_,hn,_⟩:=I.loc;hn.lt
theorem Inv.sz (I:Inv X pins σ H s):X.s₀.heap.objs.size≤s.heap.objs.size:=Nat.le_trans I.ok.above (Nat.le_of_lt I.lt)
theorem Inv.nofs (I:Inv X pins σ H s){a:Addr}(h:s.heap.objs.size≤a):a∉X.fs:=fun hb=>by
 obtain⟨_,o,ho,_⟩:=I.ok.funs.mem hb
 exact absurd (Nat.lt_of_lt_of_le (Heap.lt_size ho) (Nat.le_trans I.sz h)) (Nat.lt_irrefl _)
theorem Inv.cne (I:Inv X pins σ H s):∀x c,X.env.cells.lookup x=some c→c≠X.env.locals:=fun x c e z=>by
 obtain⟨v,o,ho,hd⟩:=I.cell x c e
 obtain⟨m,⟨o',es,ep,ho',hd',_⟩,_⟩:=I.loc
 rw[z,ho']at ho;cases ho;rw[hd']at hd;cases hd
theorem Inv.funs (I:Inv X pins σ H s):s.heap.FunFrames X.base X.outer:=by
 have all:∀(l:List Env),(∀b∈frs l,b∈X.fs)→X.s₀.heap.FunFrames X.base l→s.heap.FunFrames X.base l:=by
  intro l
  induction l with
  |nil=>intro _ _;trivial
  |cons env r ih=>
   intro hs hl
   obtain⟨hk,⟨L,o,hf,hn,ho,hd⟩,hr⟩:=hl
   have hL:L∈X.fs:=hs L (by unfold frs;rw[List.filterMap_cons,hf];exact List.mem_cons_self)
   obtain⟨sl,e⟩:=I.base.slot L o ho (I.ok.frf L hL) hL fun z=>I.ok.exfs L z hL
   exact⟨hk,⟨L,_,hf,hn,e,hd⟩,ih (fun b hb=>hs b (by unfold frs;rw[List.filterMap_cons,hf];exact List.mem_cons_of_mem _ hb)) hr⟩
 exact all X.outer (fun _ hb=>hb) I.ok.funs
theorem Inv.stack (I:Inv X pins σ H s):s.heap.FunFrames X.base X.stack:=by
 rcases I.ok.stk with e|⟨e,hf⟩
 ·rw[e];exact I.funs
 ·rw[e]
  obtain⟨m,hn,_⟩:=I.loc
  refine .cons (by rw[I.ok.kind];decide) hf hn ?_ I.funs
  exact Heap.get?_none_of_le (Nat.le_trans I.ok.bsz I.ok.above)
theorem Inv.stkSub (I:Inv X pins σ H s):∀b∈frs X.stack,b∈X.env.locals::X.fs:=fun b hb=>by
 rcases I.ok.stk with e|⟨e,hf⟩
 ·rw[e]at hb;exact List.mem_cons_of_mem _ hb
 ·rw[e]at hb
  unfold frs at hb
  rw[List.filterMap_cons,hf]at hb
  exact hb
theorem Inv.stkFree (I:Inv X pins σ H s):∀b∈frs X.stack,H b=none:=fun b hb=>by
 rcases List.mem_cons.mp (I.stkSub b hb) with e|hb
 ·rw[e];exact I.free
 ·obtain⟨_,o,ho,_⟩:=I.ok.funs.mem hb
  exact I.base.free b o ho (I.ok.frf b hb) fun z=>I.ok.exfs b z hb
theorem Inv.step {g':Array GenState}{t':Nat}{d':Drawn}{ch:List Addr}(I:Inv X pins σ H s)
  (hch:∀b∈ch,(b∈X.ex∨X.s₀.heap.objs.size≤b)∧b≠X.env.locals∧(∀x c,X.env.cells.lookup x=some c→c≠b)∧∀p∈X.pn++pins,p.1≠b)
  (keep:∀b o,b≠X.env.locals→b∉X.fs→b∉ch→s.heap.get? b=some o→H b=none→h'.get? b=some o)
  (slot:∀b o,b≠X.env.locals→b∈X.fs→b∉ch→s.heap.get? b=some o→H b=none→∃sl,h'.get? b=some {o with slots:=sl}) (free:∀b o,b∉ch→s.heap.get? b=some o→H b=none→H' b=none)
  (there:∀b o,b∉ch→s.heap.get? b=some o→∃o',h'.get? b=some o')
  (tups:∀b xs,H b=some (.tup xs)→H' b=some (.tup xs)) (frzs:∀b o u,H b=some (.frz o u)→H' b=some (.frz o u)) (tbls:∀b ps,H b=some (.tbl ps)→∃more,H' b=some (.tbl (ps++more)))
  (ns:∀m,s.heap.Ns X.env.locals m→h'.Ns X.env.locals m) (hok:HOk X.prog X.w H' h') (hg:AllBare g'):
  Inv X pins σ H' {s with heap:=h',gens:=g',drawn:=d',toks:=t'}:=by
 have neL:∀b o,X.s₀.heap.get? b=some o→b≠X.env.locals:=fun b o e=>Nat.ne_of_lt (Nat.lt_of_lt_of_le (Heap.lt_size e) I.ok.above)
 have neC:∀b o,X.s₀.heap.get? b=some o→b∉X.ex→b∉ch:=fun b o e hx hb=>by
  rcases(hch b hb).1 with z|z
  ·exact hx z
  ·exact absurd (Nat.lt_of_lt_of_le (Heap.lt_size e) z) (Nat.lt_irrefl _)
 have cellK:∀x c,X.env.cells.lookup x=some c→∀v,s.heap.IsCell c v→h'.IsCell c v:=fun x c e v ⟨o,ho,hd⟩=>by
  have nch:c∉ch:=fun z=>(hch c z).2.2.1 x c e rfl
  by_cases hc:c∈X.fs
  ·obtain⟨sl,q⟩:=slot c o (I.cne x c e) hc nch ho (I.freeC x c e)
   exact⟨_,q,hd⟩
  ·exact⟨o,keep c o (I.cne x c e) hc nch ho (I.freeC x c e),hd⟩
 refine⟨I.ok,I.os,hg,⟨fun b o e n hb hx=>?_,fun b o e n hb hx=>?_,fun b o e n hx=>?_,fun b o e hx=>?_,fun b xs e=>tups b xs (I.base.tups b xs e),fun b o xs e=>frzs b o xs (I.base.frzs b o xs e),fun b ps e=>?_⟩,?_,fun x c e=>?_,?_,fun x c e=>?_,fun p hp=>?_,hok,I.len⟩
 ·exact keep b o (neL b o e) hb (neC b o e hx) (I.base.keep b o e n hb hx) (I.base.free b o e n hx)
 ·obtain⟨sl,e1⟩:=I.base.slot b o e n hb hx
  obtain⟨sl',e2⟩:=slot b _ (neL b o e) hb (neC b o e hx) e1 (I.base.free b o e n hx)
  exact⟨sl',e2⟩
 ·obtain⟨o',e1⟩:=I.base.there b o e hx
  exact free b o' (neC b o e hx) e1 (I.base.free b o e n hx)
 ·obtain⟨o',e1⟩:=I.base.there b o e hx
  exact there b o' (neC b o e hx) e1
 ·obtain⟨m1,e1⟩:=I.base.tbls b ps e
  obtain⟨m2,e2⟩:=tbls b _ e1
  exact⟨m1++m2,by rw[e2,Array.append_assoc]⟩
 ·obtain⟨m,hn,hl⟩:=I.loc
  refine⟨m,ns m hn,fun i x v e1 e2 e3=>?_⟩
  obtain⟨u,r,l⟩:=hl i x v e1 e2 e3
  refine⟨u,r,?_⟩
  rcases l with l|⟨k,c,e,z⟩
  ·exact .inl l
  ·exact .inr ⟨k,c,e,cellK x c e _ z⟩
 ·obtain⟨v,z⟩:=I.cell x c e
  exact⟨v,cellK x c e v z⟩
 ·obtain⟨m,⟨o,_,_,ho,_⟩,_⟩:=I.loc
  exact free _ o (fun z=>(hch _ z).2.1 rfl) ho I.free
 ·obtain⟨v,o,ho,hd⟩:=I.cell x c e
  exact free c o (fun z=>(hch c z).2.2.1 x c e rfl) ho (I.freeC x c e)
 ·obtain⟨e,n,ne,nf,d⟩:=I.pin p hp
  have nch:p.1∉ch:=fun z=>(hch p.1 z).2.2.2 p hp rfl
  exact⟨keep p.1 p.2 ne nf nch e n,free p.1 p.2 nch e n,ne,nf,d⟩
theorem Inv.un {t':Nat}(I:Inv X pins σ H s)(u:Un X.fs [] H H' s.heap h')(hok:HOk X.prog X.w H' h'):Inv X pins σ H' {s with heap:=h',toks:=t'}:=by
 obtain⟨m,⟨o,es,ep,ho,r⟩,_⟩:=id I.loc
 obtain⟨sl,hL⟩:=u.any ho I.free (by simp)
 exact I.step (g':=s.gens) (d':=s.drawn) (ch:=[]) (fun _ z=>nomatch z) (fun b o _ hb _ e n=>u.keep b o e n hb (by simp)) (fun b o _ hb _ e n=>u.slot b o e n hb (by simp)) (fun b o _ e n=>u.free b o e n (by simp)) (fun b o _ e=>u.there b o e (by simp)) u.tups u.frzs u.tbls (fun m' hm=>by
  obtain⟨o',es',ep',ho',r'⟩:=hm
  rw[ho]at ho';cases ho'
  exact⟨_,es',ep',hL,r'⟩) hok I.bare
theorem Inv.call {g':Array GenState}{t':Nat}{d':Drawn}{ch:List Addr}(I:Inv X pins σ H s)(u:Un (frs X.stack) ch H H' s.heap h')(hok:HOk X.prog X.w H' h')(hg:AllBare g')
  (hch:∀b∈ch,(b∈X.ex∨X.s₀.heap.objs.size≤b)∧b≠X.env.locals∧(∀x c,X.env.cells.lookup x=some c→c≠b)∧∀p∈X.pn++pins,p.1≠b):
  Inv X pins σ H' {s with heap:=h',gens:=g',drawn:=d',toks:=t'}:=by
 obtain⟨m,⟨o,es,ep,ho,r⟩,_⟩:=id I.loc
 obtain⟨sl,hL⟩:=u.any ho I.free fun z=>(hch _ z).2.1 rfl
 exact I.step (ch:=ch) hch (fun b o hL hb hc e n=>u.keep b o e n (fun z=>(List.mem_cons.mp (I.stkSub b z)).elim hL hb) hc) (fun b o _ _ hc e n=>u.any e n hc) (fun b o hc e n=>u.free b o e n hc) (fun b o hc e=>u.there b o e hc) u.tups u.frzs u.tbls (fun m' hm=>by
  obtain⟨o',es',ep',ho',r'⟩:=hm
  rw[ho]at ho';cases ho'
  exact⟨_,es',ep',hL,r'⟩) hok hg
theorem Inv.turned {t':Nat}{it:Addr}(I:Inv X pins σ H s)(k:∀b o,b≠it→s.heap.get? b=some o→h'.get? b=some o)(hn:H it=none)(hL:it≠X.env.locals)
  (h1:it∈X.ex∨X.s₀.heap.objs.size≤it) (h2:∀x c,X.env.cells.lookup x=some c→c≠it) (h3:∀p∈X.pn++pins,p.1≠it):Inv X pins σ H {s with heap:=h',toks:=t'}:=by
 have nit:∀b u,H b=some u→b≠it:=fun b u e z=>by rw[z,hn]at e;cases e
 refine I.step (g':=s.gens) (d':=s.drawn) (ch:=[it]) (fun b hb=>?_) (fun b o _ _ hc e _=>k b o (fun z=>hc (by simp[z])) e) (fun b o _ _ hc e _=>⟨o.slots,k b o (fun z=>hc (by simp[z])) e⟩) (fun _ _ _ _ n=>n)
  (fun b o hc e=>⟨o,k b o (fun z=>hc (by simp[z])) e⟩) (fun _ _ e=>e) (fun _ _ _ e=>e) (fun b ps e=>⟨#[],by rw[e];simp⟩) (fun m hm=>?_) (fun b u e=>?_) I.bare
 ·have e:b=it:=by simpa using hb
  subst e
  exact⟨h1,hL,h2,h3⟩
 ·obtain⟨o,es,ep,ho,r⟩:=hm
  exact⟨o,es,ep,k _ o (Ne.symm hL) ho,r⟩
 ·refine(I.hok b u e).stay (fun c v hc q=>k c v ?_ q) (fun _ q=>q) fun _ _ q=>q
  rcases hc with z|z
  ·rw[z];exact nit b u e
  ·exact nit c _ z
theorem Inv.tok (I:Inv X pins σ H s)(t:Nat):Inv X pins σ H {s with toks:=t}:=I.un (h':=s.heap) (t':=t) Un.refl I.hok
theorem Inv.kept {t':Nat}(I:Inv X pins σ H s)(k:∀b u,s.heap.get? b=some u→h'.get? b=some u):Inv X pins σ H {s with heap:=h',toks:=t'}:=I.un (Un.kept k) (I.hok.kept k)
theorem Inv.laid {a:Addr}{o:HO}{t':Nat}(I:Inv X pins σ H s)(k:∀b u,s.heap.get? b=some u→h'.get? b=some u)(hp:s.heap.objs.size≤a)(new:ObjOk X.prog X.w (upd H a o) h' a o):
  Inv X pins σ (upd H a o) {s with heap:=h',toks:=t'}:=I.un (Un.laid k hp (I.hok.fresh hp)) (I.hok.laid k hp new)
theorem Inv.write {x e:Addr}{o:HO}{t':Nat}(I:Inv X pins σ H s)(mu:Mut (H x))(he:e=x∨H e=some (.own x))(k:∀b u,b≠e→s.heap.get? b=some u→h'.get? b=some u)(heo:∃u,h'.get? e=some u)
  (new:ObjOk X.prog X.w (upd H x o) h' x o):Inv X pins σ (upd H x o) {s with heap:=h',toks:=t'}:=I.un (Un.write mu he k heo) (I.hok.write mu he k heo new)
theorem Inv.pins_of {pins':List (Addr×Obj)}(I:Inv X pins σ H s)(h:∀p∈pins',s.heap.get? p.1=some p.2∧H p.1=none∧p.1≠X.env.locals∧p.1∉X.fs∧∀v,p.2.data≠.cell v):Inv X pins' σ H s :=
 ⟨I.ok,I.os,I.bare,I.base,I.loc,I.cell,I.free,I.freeC,fun p hp=>(List.mem_append.mp hp).elim (fun z=>I.pin p (List.mem_append_left _ z)) (h p),I.hok,I.len⟩
theorem nodup_ix {N:List Str}(hN:N.Nodup){i j:Nat}{x:Str}(a:N[i]?=some x)(b:N[j]?=some x):i=j:=by
 obtain⟨h1,e1⟩:=List.getElem?_eq_some_iff.mp a
 obtain⟨h2,e2⟩:=List.getElem?_eq_some_iff.mp b
 exact(List.getElem_inj hN).mp (e1.trans e2.symm)
theorem store_ok2 {M:Model}{A:Around}{E:Value→Shared→Prop}{i:Nat}{x:Str}{v:V}{u:Value}{Q:Unit→Shared→Prop}(I:Inv X pins σ H s)(hN:X.N.Nodup)(hi:X.N[i]?=some x)(hx:Loc X.env.scope x)(r:RelV v u)
  (h:∀s',Inv X pins (σ.set i (some v)) H s'→(∃a,Heap.SameBut a s.heap s'.heap∧(a=X.env.locals∨X.env.cells.lookup x=some a))→Q () s') (hf:X.fn x=true∨X.env.scope.names.lookup x=some .local:=by first|exact .inl rfl|exact .inr rfl|assumption):wpAny M A (storeName X.env x u) Q E s:=by
 obtain⟨m,hn,hl⟩:=id I.loc
 have hcls:(X.env.scope.kind==.class||(X.env.scope.kind==.module&&X.env.locals !=X.env.globals))=false:=by rw[I.ok.kind];rfl
 have hiσ:i<σ.length:=by rw[I.len];exact(List.getElem?_eq_some_iff.mp hi).1
 have cne:=I.cne
 have tracked:∀{a:Addr} {h':Heap},(∃o,s.heap.get? a=some o∧H a=none)→Heap.SameBut a s.heap h'→HOk X.prog X.w H h':=fun{a h'} ha hs b ob e=>by
  obtain⟨_,_,hfree⟩:=ha
  refine(I.hok b ob e).stay (fun c w' hc q=>(hs.2 c ?_).trans q) (fun _ q=>q) fun _ _ q=>q
  rintro rfl
  rcases hc with rfl|hc
  ·rw[hfree]at e;cases e
  ·rw[hfree]at hc;cases hc
 rcases hx with hk|hk
 ·refine wpAny_storeName_local hk hn (fun h' hn' hs=>?_) hcls
  obtain⟨oL,_,_,hoL,_⟩:=id hn
  refine h _ ⟨I.ok,I.os,I.bare,⟨fun b o e n hb hx=>?_,fun b o e n hb hx=>?_,I.base.free,fun b o e hx=>?_,I.base.tups,I.base.frzs,I.base.tbls⟩,⟨_,hn',fun j y v' e1 e2 e3=>?_⟩,fun y c e=>?_,I.free,I.freeC,fun p hp=>?_,tracked ⟨oL,hoL,I.free⟩ hs,by simpa using I.len⟩ ⟨_,hs, .inl rfl⟩
  ·exact(hs.2 b (Nat.ne_of_lt (Nat.lt_of_lt_of_le (Heap.lt_size e) I.ok.above))).trans (I.base.keep b o e n hb hx)
  ·obtain⟨sl,e1⟩:=I.base.slot b o e n hb hx
   exact⟨sl,(hs.2 b (Nat.ne_of_lt (Nat.lt_of_lt_of_le (Heap.lt_size e) I.ok.above))).trans e1⟩
  ·obtain⟨o',e1⟩:=I.base.there b o e hx
   exact⟨o',(hs.2 b (Nat.ne_of_lt (Nat.lt_of_lt_of_le (Heap.lt_size e) I.ok.above))).trans e1⟩
  ·by_cases hj:j=i
   ·subst hj
    rw[hi]at e1;cases e1
    rw[List.getElem?_set_self hiσ]at e2
    cases e2
    exact⟨u,r, .inl ⟨hk,by simp⟩⟩
   ·rw[List.getElem?_set_ne (Ne.symm hj)]at e2
    obtain⟨u',r',q⟩:=hl j y v' e1 e2 e3
    refine⟨u',r',?_⟩
    rcases q with ⟨k,e⟩|⟨k,c,e,z⟩
    ·refine .inl ⟨k,?_⟩
     have:y≠x:=fun e=>hj (nodup_ix hN e1 (e ▸ hi))
     simp[this,e]
    ·exact .inr ⟨k,c,e,z.sameBut hs (cne y c e)⟩
  ·obtain⟨w',z⟩:=I.cell y c e
   exact⟨w',z.sameBut hs (cne y c e)⟩
  ·obtain⟨e,n,ne,nf,d⟩:=I.pin p hp
   exact⟨(hs.2 p.1 ne).trans e,n,ne,nf,d⟩
 ·have hfn:X.fn x=true:=by
   rcases hf with z|z
   ·exact z
   ·rw[z]at hk;cases hk
  obtain⟨c,hc⟩:=I.ok.has x (.inl hk)
  obtain⟨w',z⟩:=I.cell x c hc
  refine wpAny_storeName_cell I.ok.kind hk hc z (fun h' hc' hs=>?_)
  obtain⟨oc,hoc,hocd⟩:=id z
  refine h {s with heap:=h'} ⟨I.ok,I.os,I.bare,⟨fun b o e n hb hx=>?_,fun b o e n hb hx=>?_,I.base.free,fun b o e hx=>?_,I.base.tups,I.base.frzs,I.base.tbls⟩,⟨m,hn.sameBut hs (Ne.symm (cne x c hc)),fun j y v' e1 e2 e3=>?_⟩,fun y c' e=>?_,I.free,I.freeC,fun p hp=>?_,tracked ⟨oc,hoc,I.freeC x c hc⟩ hs,by simpa using I.len⟩ ⟨c,hs, .inr hc⟩
  ·exact(hs.2 b (Nat.ne_of_lt (Nat.lt_of_lt_of_le (Heap.lt_size e) (I.ok.cab x c hfn hc)))).trans (I.base.keep b o e n hb hx)
  ·obtain⟨sl,e1⟩:=I.base.slot b o e n hb hx
   exact⟨sl,(hs.2 b (Nat.ne_of_lt (Nat.lt_of_lt_of_le (Heap.lt_size e) (I.ok.cab x c hfn hc)))).trans e1⟩
  ·obtain⟨o',e1⟩:=I.base.there b o e hx
   exact⟨o',(hs.2 b (Nat.ne_of_lt (Nat.lt_of_lt_of_le (Heap.lt_size e) (I.ok.cab x c hfn hc)))).trans e1⟩
  ·by_cases hj:j=i
   ·subst hj
    rw[hi]at e1;cases e1
    rw[List.getElem?_set_self hiσ]at e2
    cases e2
    exact⟨u,r, .inr ⟨.inl hk,c,hc,hc'⟩⟩
   ·rw[List.getElem?_set_ne (Ne.symm hj)]at e2
    obtain⟨u',r',q⟩:=hl j y v' e1 e2 e3
    refine⟨u',r',?_⟩
    rcases q with q|⟨k,c',e,z'⟩
    ·exact .inl q
    ·refine .inr ⟨k,c',e,z'.sameBut hs ?_⟩
     rintro rfl
     exact hj (nodup_ix hN e1 (I.ok.inj _ _ _ e hc ▸ hi))
  ·by_cases hcc:c'=c
   ·subst hcc;exact⟨_,hc'⟩
   ·obtain⟨w2,z2⟩:=I.cell y c' e
    exact⟨w2,z2.sameBut hs hcc⟩
  ·obtain⟨e,n,ne,nf,d⟩:=I.pin p hp
   refine⟨(hs.2 p.1 ?_).trans e,n,ne,nf,d⟩
   intro q
   rw[q,hoc]at e
   have q':oc=p.2:=Option.some.inj e
   exact d w' (by rw[←q'];exact hocd)
theorem store_ok {M:Model}{A:Around}{E:Value→Shared→Prop}{i:Nat}{x:Str}{v:V}{u:Value}{Q:Unit→Shared→Prop}(I:Inv X pins σ H s)(hN:X.N.Nodup)(hi:X.N[i]?=some x)(hx:Loc X.env.scope x)(r:RelV v u)
  (h:∀s',Inv X pins (σ.set i (some v)) H s'→Q () s') (hf:X.fn x=true∨X.env.scope.names.lookup x=some .local:=by first|exact .inl rfl|exact .inr rfl|assumption):wpAny M A (storeName X.env x u) Q E s :=
 store_ok2 I hN hi hx r (fun s' I' _=>h s' I') hf
theorem Inv.call' {s':Shared}{ch:List Addr}(I:Inv X pins σ H s)(ho:s'.os=s.os)(u:Un (frs X.stack) ch H H' s.heap s'.heap)(hok:HOk X.prog X.w H' s'.heap)(hg:AllBare s'.gens)
  (hch:∀b∈ch,(b∈X.ex∨X.s₀.heap.objs.size≤b)∧b≠X.env.locals∧(∀x c,X.env.cells.lookup x=some c→c≠b)∧∀p∈X.pn++pins,p.1≠b):Inv X pins σ H' s':=by
 obtain⟨h',g',d',t',o'⟩:=s'
 have e:o'=s.os:=ho
 subst e
 exact I.call (g':=g') (t':=t') (d':=d') u hok hg hch
end
abbrev XK:=Value→Option Addr→Hp→Prop
abbrev St:=List (Option V)
abbrev VK:=V→Hp→Prop
abbrev TE:=St→Hp→VK→Prop
abbrev TT:=St→Hp→(Bool→Hp→Prop)→Prop
abbrev TA:=St→Hp→(List V→Hp→Prop)→Prop
structure Ends where
 nx:St→Hp→Prop
 rt:VK
 bk:St→Hp→Prop:=fun _ _=>False
 ct:St→Hp→Prop:=fun _ _=>False
abbrev TS:=Ends→St→Hp→Prop
def EP (X:Cx)(pins:List (Addr×Obj))(σ:St)(Q:VK)(u:Value)(s':Shared):Prop:=∃v H',Inv X pins σ H' s'∧RelV v u∧Q v H'
def TP (X:Cx)(pins:List (Addr×Obj))(σ:St)(Q:Bool→Hp→Prop)(b:Bool)(s':Shared):Prop:=∃H',Inv X pins σ H' s'∧Q b H'
def AP (X:Cx)(pins:List (Addr×Obj))(σ:St)(Q:List V→Hp→Prop)(us:List Value)(s':Shared):Prop:=∃vs H',Inv X pins σ H' s'∧Vals vs us∧Q vs H'
def SP (X:Cx)(pins:List (Addr×Obj))(D:Ends)(f:Flow)(s':Shared):Prop :=
 match f with
 |.next=>∃σ' H',Inv X pins σ' H' s'∧D.nx σ' H'
 |.brk=>∃σ' H',Inv X pins σ' H' s'∧D.bk σ' H'
 |.cont=>∃σ' H',Inv X pins σ' H' s'∧D.ct σ' H'
 |.ret u=>∃v σ' H',Inv X pins σ' H' s'∧RelV v u∧D.rt v H'
def PE (X:Cx)(e:Expr)(t:TE):Prop :=
 ∀(pins:List (Addr×Obj)) (s:Shared) (σ:St) (H:Hp) (Q:VK),Inv X pins σ H s→t σ H Q→wpAny (model X.prog X.w) X.A (eval e X.env) (EP X pins σ Q) X.xe s
def PT (X:Cx)(e:Expr)(t:TT):Prop :=
 ∀(pins:List (Addr×Obj)) (s:Shared) (σ:St) (H:Hp) (Q:Bool→Hp→Prop),Inv X pins σ H s→t σ H Q→wpAny (model X.prog X.w) X.A (isTrue e X.env (eval e X.env)) (TP X pins σ Q) X.xe s
def PW (X:Cx)(e:Expr)(t:TT):Prop :=
 ∀(whole:Sem Value) (pins:List (Addr×Obj)) (s:Shared) (σ:St) (H:Hp) (Q:Bool→Hp→Prop),Inv X pins σ H s→t σ H Q→wpAny (model X.prog X.w) X.A (isTrue e X.env whole) (TP X pins σ Q) X.xe s
theorem PW.pt {X:Cx}{e:Expr}{t:TT}(h:PW X e t):PT X e t:=h _
def PA (X:Cx)(es:List Expr)(t:TA):Prop :=
 ∀(pos:Pos) (pins:List (Addr×Obj)) (s:Shared) (σ:St) (H:Hp) (Q:List V→Hp→Prop),Inv X pins σ H s→t σ H Q→wpAny (model X.prog X.w) X.A (spliced (backTo pos (starEach es X.env))) (AP X pins σ Q) X.xe s
def PS (X:Cx)(st:Stmt)(t:TS):Prop :=
 ∀(pins:List (Addr×Obj)) (s:Shared) (σ:St) (H:Hp) (D:Ends),Inv X pins σ H s→t D σ H→wpAny (model X.prog X.w) X.A (exec st X.env) (SP X pins D) X.xe s
def PSs (X:Cx)(st:List Stmt)(t:TS):Prop :=
 ∀(pins:List (Addr×Obj)) (s:Shared) (σ:St) (H:Hp) (D:Ends),Inv X pins σ H s→t D σ H→wpAny (model X.prog X.w) X.A (execs st X.env) (SP X pins D) X.xe s
theorem thn {α:Type}{t:Sem α}{Q Q':α→Shared→Prop}{M:Model}{A:Around}{E:Value→Shared→Prop}{s:Shared}(h:wpAny M A t Q E s)(hQ:∀a s,Q a s→Q' a s):wpAny M A t Q' E s:=wpAny_mono h hQ fun _ _ x=>x
section
variable {X:Cx}
def tVar (i:Nat):TE:=fun σ H Q=>∃v,σ[i]?=some (some v)∧Q v H
def tC (v:V):TE:=fun _ H Q=>Q v H
theorem pe_var {i:Nat}{x:Str}{pos:Pos}(hN:X.N[i]?=some x)(hv:Vis X.env.scope x)(hd:(x==("__debug__":Str))=false:=by decide)(hcd:(x==("__classdict__":Str))=false:=by decide):PE X (.Name x pos) (tVar i):=by
 intro pins s σ H Q I h
 obtain⟨v,e,h⟩:=h
 obtain⟨m,hn,hl⟩:=I.loc
 obtain⟨u,r,l⟩:=hl i x v hN e hv
 have fin:EP X pins σ Q u s:=⟨v,H,I,r,h⟩
 rcases l with ⟨hk,hm⟩|⟨hk,c,hc,hcell⟩
 ·exact wpAny_Name (wpAny_loadName_local I.ok.kind hk hn hm fin) hd
 ·rcases hk with hk|hk
  ·exact wpAny_Name (wpAny_loadName_cell I.ok.kind hk hc hcell fin) hd
  ·exact wpAny_Name (wpAny_loadName_free I.ok.kind hk hc hcell fin hcd) hd
theorem pe_int {i j pos}:PE X (.Constant (.int i) j pos) (tC (.int i)):=fun _ _ _ H _ I h=>wpAny_Constant_int ⟨.int i,H,I.tok _,⟨_,rfl⟩,h⟩
theorem pe_bl {b j pos}:PE X (.Constant (.bool b) j pos) (tC (.bl b)):=fun _ _ _ H _ I h=>Constant_bool ⟨.bl b,H,I,rfl,h⟩
theorem pe_non {j pos}:PE X (.Constant .none j pos) (tC .non):=fun _ _ _ H _ I h=>Constant_none ⟨.non,H,I,rfl,h⟩
theorem pe_str {x j pos}:PE X (.Constant (.str x) j pos) (tC (.str x)):=fun _ _ _ H _ I h=>Calls.Constant_str ⟨.str x,H,I.tok _,⟨_,rfl⟩,h⟩
def Gl (X:Cx)(x:Str):Prop:=X.env.kindOf x=some .globalImplicit
theorem ld_glob {E:Value→Shared→Prop}{pins:List (Addr×Obj)}{s:Shared}{σ:St}{H:Hp}{x:Str}{u:Value}{pos:Pos}{Q:Value→Shared→Prop}(I:Inv X pins σ H s)(hg:Gl X x)(hm:X.mg x=some u)(h:Q u s)
  (hd:(x==("__debug__":Str))=false:=by decide):wpAny (model X.prog X.w) X.A (eval (.Name x pos) X.env) Q E s :=
 Calls.Name_function_global I.ok.kind hg (Calls.loadGlobal_global (by rw[I.ok.glob];exact I.mod.glob.keeps I.bk) hm h) hd
theorem ld_blt {E:Value→Shared→Prop}{pins:List (Addr×Obj)}{s:Shared}{σ:St}{H:Hp}{x:Str}{u:Value}{pos:Pos}{Q:Value→Shared→Prop}(I:Inv X pins σ H s)(hg:Gl X x)(hm:X.mg x=none)(hv:bootBuiltins x=some u)(h:Q u s)
  (hn:x≠"__name__":=by decide) (hd:(x==("__debug__":Str))=false:=by decide):wpAny (model X.prog X.w) X.A (eval (.Name x pos) X.env) Q E s:=by
 obtain⟨mb,h1,h2⟩:=I.mod.blt
 exact Calls.Name_function_global I.ok.kind hg (Calls.loadGlobal_builtin (by rw[I.ok.glob];exact I.mod.glob.keeps I.bk) hm (by rw[I.ok.blt];exact h1.keeps I.bk) ((h2 x hn).trans hv) h) hd
theorem pe_glob {x:Str}{v:V}{u:Value}{pos:Pos}(hg:Gl X x)(hm:X.mg x=some u)(r:RelV v u)(hd:(x==("__debug__":Str))=false:=by decide):PE X (.Name x pos) (tC v) :=
 fun _ _ _ H _ I h=>ld_glob I hg hm ⟨v,H,I,r,h⟩ hd
theorem pe_bltn {x:Str}{v:V}{u:Value}{pos:Pos}(hg:Gl X x)(hm:X.mg x=none)(hv:bootBuiltins x=some u)(r:RelV v u)(hn:x≠"__name__":=by decide)(hd:(x==("__debug__":Str))=false:=by decide):PE X (.Name x pos) (tC v) :=
 fun _ _ _ H _ I h=>ld_blt I hg hm hv ⟨v,H,I,r,h⟩ hn hd
variable {a b:Expr}{ta tb:TE}{pos:Pos}
def PC (X:Cx)(op:CmpOp)(a b:Expr)(t:TE):Prop :=
 ∀(pins:List (Addr×Obj)) (s:Shared) (σ:St) (H:Hp) (Q:VK),Inv X pins σ H s→t σ H Q→
  wpAny (model X.prog X.w) X.A (eval a X.env) (fun v s₁=>wpAny (model X.prog X.w) X.A (eval b X.env) (fun u s₂=>wpAny (model X.prog X.w) X.A (compareOp op v u) (EP X pins σ Q) X.xe s₂) X.xe s₁) X.xe s
theorem nobehind (b:Expr){op:CmpOp}(h:op≠.In)(h2:op≠.NotIn):behindInMarks op b=false:=by
 have e1:(op==CmpOp.In)=false:=by cases op<;>first|rfl|exact absurd rfl h
 have e2:(op==CmpOp.NotIn)=false:=by cases op<;>first|rfl|exact absurd rfl h2
 cases b<;>simp[behindInMarks,e1,e2]
def tNotN (ta:TE):TE:=fun σ H Q=>ta σ H fun x H1=>Q (.bl (!decide (x=.non))) H1
theorem RelV.none_iff {x:V}{v:Value}(r:RelV x v):(v==Value.none)=decide (x=.non):=by
 cases x with
 |non=>cases r;rfl
 |bl _=>cases r;rfl
 |int _=>obtain⟨t,rfl⟩:=r;rfl
 |str _=>obtain⟨t,rfl⟩:=r;rfl
 |byt _=>obtain⟨t,rfl⟩:=r;rfl
 |flt _=>obtain⟨t,rfl⟩:=r;rfl
 |ref _=>cases r;rfl
 |ty _=>cases r;rfl
theorem pc_notN {j pos'}(ha:PE X a ta):PC X .IsNot a (.Constant .none j pos') (tNotN ta):=by
 intro pins s σ H Q I h
 refine thn (ha pins s σ H _ I h) fun v s1 ⟨x,H1,I1,r1,q1⟩=>?_
 exact Constant_none (isnot_none_gen ⟨.bl _,H1,I1,by rw[r1.none_iff];rfl,q1⟩)
def tB (t:TE):TT:=fun σ H Q=>t σ H fun x H1=>∃c,x=.bl c∧Q c H1
theorem pt_cmp {op:CmpOp}{t:TE}(h:PC X op a b t)(h1:behindInMarks op b=false:=by first|exact nobehind _ (by decide) (by decide)|rfl):PT X (.Compare a [op] [b] pos) (tB t):=by
 intro pins s σ H Q I hw
 refine wpAny_isTrue_Compare1 (thn (h pins s σ H _ I hw) fun v s1 h1=>thn h1 fun u s2 h2=>thn h2 fun c s3 ⟨x,H1,I1,r1,q1⟩=>?_) h1
 obtain⟨d,rfl,q⟩:=q1
 cases r1
 exact wpAny_truthy_bool ⟨H1,I1,q⟩
theorem pt_val {e:Expr}{t:TE}(h:PE X e t)(he:∀whole,isTrue e X.env whole=(do let v ←whole;standAt e.pos;holding [v] (truthy v)):=by intro _;rfl):PT X e (tB t):=by
 intro pins s σ H Q I hw
 refine isTrue_plain (thn (h pins s σ H _ I hw) fun v s1 ⟨x,H1,I1,r1,q1⟩=>?_) (he _)
 obtain⟨d,rfl,q⟩:=q1
 cases r1
 exact wpAny_truthy_bool ⟨H1,I1,q⟩
variable {tA tB':TT}{rest:List Expr}
def tAnd (t u:TT):TT:=fun σ H Q=>t σ H fun c H1=>if c=true then u σ H1 Q else Q false H1
def tOr (t u:TT):TT:=fun σ H Q=>t σ H fun c H1=>if c=true then Q true H1 else u σ H1 Q
def tNot (t:TT):TT:=fun σ H Q=>t σ H fun c H1=>Q (!c) H1
theorem pw_and1 (ha:PT X a tA):PW X (.BoolOp .And [a] pos) tA:=by
 intro wh pins s σ H Q I h
 refine isTrue_and (thn (ha pins s σ H Q I h) fun c s1 e=>?_)
 cases c with
 |true=>exact isTrue_and_nil e
 |false=>exact e
theorem pw_or1 (ha:PT X a tA):PW X (.BoolOp .Or [a] pos) tA:=by
 intro wh pins s σ H Q I h
 refine isTrue_or (thn (ha pins s σ H Q I h) fun c s1 e=>?_)
 cases c with
 |false=>exact isTrue_or_nil e
 |true=>exact e
theorem pw_and (ha:PT X a tA)(hb:PW X (.BoolOp .And (b::rest) pos) tB'):PW X (.BoolOp .And (a::b::rest) pos) (tAnd tA tB'):=by
 intro wh pins s σ H Q I h
 refine isTrue_and (thn (ha pins s σ H _ I h) fun c s1 ⟨H1,I1,q1⟩=>?_)
 cases c with
 |true=>exact hb wh pins s1 σ H1 Q I1 q1
 |false=>exact⟨H1,I1,q1⟩
theorem pw_or (ha:PT X a tA)(hb:PW X (.BoolOp .Or (b::rest) pos) tB'):PW X (.BoolOp .Or (a::b::rest) pos) (tOr tA tB'):=by
 intro wh pins s σ H Q I h
 refine isTrue_or (thn (ha pins s σ H _ I h) fun c s1 ⟨H1,I1,q1⟩=>?_)
 cases c with
 |true=>exact⟨H1,I1,q1⟩
 |false=>exact hb wh pins s1 σ H1 Q I1 q1
theorem pt_not (ha:PT X a tA):PT X (.UnaryOp .Not a pos) (tNot tA):=by
 intro pins s σ H Q I h
 exact isTrue_not (ha pins s σ H (fun c H1=>Q (!c) H1) I h)
def tAndV (ta tb:TE):TE:=fun σ H Q=>ta σ H fun x H1=>∃c,x=.bl c∧if c=true then tb σ H1 Q else Q (.bl false) H1
def tNotV (ta:TE):TE:=fun σ H Q=>ta σ H fun x H1=>∃c,x=.bl c∧Q (.bl (!c)) H1
theorem pe_one {op}{t:TE}(h:PE X a t):PE X (.BoolOp op [a] pos) t:=fun pins s σ H Q I hw=>BoolOp_one (h pins s σ H Q I hw)
theorem pe_and (ha:PE X a ta)(hb:PE X (.BoolOp .And (b::rest) pos) tb):PE X (.BoolOp .And (a::b::rest) pos) (tAndV ta tb):=by
 intro pins s σ H Q I h
 refine BoolOp_and (thn (ha pins s σ H _ I h) fun v s1 ⟨x,H1,I1,r1,q1⟩=>?_)
 obtain⟨c,rfl,q1⟩:=q1
 cases r1
 refine wpAny_truthy_bool ?_
 cases c with
 |true=>exact hb pins s1 σ H1 Q I1 q1
 |false=>exact⟨.bl false,H1,I1,rfl,q1⟩
theorem pe_not (ha:PE X a ta):PE X (.UnaryOp .Not a pos) (tNotV ta):=by
 intro pins s σ H Q I h
 refine UnaryOp_ (thn (ha pins s σ H _ I h) fun v s1 ⟨x,H1,I1,r1,q1⟩=>?_)
 obtain⟨c,rfl,q1⟩:=q1
 cases r1
 exact not_of (wpAny_truthy_bool ⟨.bl (!c),H1,I1,rfl,q1⟩)
def tIf (t:TT)(ta tb:TE):TE:=fun σ H Q=>t σ H fun c H1=>if c=true then ta σ H1 Q else tb σ H1 Q
theorem pe_ifExp {c:Expr}(hc:PT X c tA)(ha:PE X a ta)(hb:PE X b tb):PE X (.IfExp c a b pos) (tIf tA ta tb):=by
 intro pins s σ H Q I h
 refine wpAny_IfExp (thn (hc pins s σ H _ I h) fun d s1 ⟨H1,I1,q1⟩=>?_)
 cases d with
 |true=>exact ha pins s1 σ H1 Q I1 q1
 |false=>exact hb pins s1 σ H1 Q I1 q1
end
def SqL (K:PySem.W.Frag)(H:Hp)(a:Addr)(xs:List V):Prop :=
 Rd H a (.lst xs)∨
  ∃(o:Obj) (its:Array Value) (n:Nat),K.lookup a=some o∧o.cls=.type "list"∧o.dict=none∧o.data=.seq its n∧its.size≤sizeLine∧Vals xs its.toList
def SqT (K:PySem.W.Frag)(H:Hp)(a:Addr)(xs:List V):Prop :=
 Rd H a (.tup xs)∨
  ∃(o:Obj) (its:Array Value) (n:Nat),K.lookup a=some o∧o.cls=.type "tuple"∧o.data=.seq its n∧its.size≤sizeLine∧Vals xs its.toList
def absV:Value→Option V
 |.none=>some .non
 |.bool b=>some (.bl b)
 |.int i _=>some (.int i)
 |.str x _=>some (.str x)
 |.bytes b _=>some (.byt b)
 |.float b _=>some (.flt b)
 |.ref a=>some (.ref a)
 |.type n=>some (.ty n)
 |_=>none
theorem RelV.abs {x:V}{u:Value}(r:RelV x u):absV u=some x:=by
 cases x with
 |non=>cases r;rfl
 |bl _=>cases r;rfl
 |int _=>obtain⟨t,rfl⟩:=r;rfl
 |str _=>obtain⟨t,rfl⟩:=r;rfl
 |byt _=>obtain⟨t,rfl⟩:=r;rfl
 |flt _=>obtain⟨t,rfl⟩:=r;rfl
 |ref _=>cases r;rfl
 |ty _=>cases r;rfl
theorem RelV.inj {x y:V}{u:Value}(r:RelV x u)(q:RelV y u):x=y:=Option.some.inj (r.abs.symm.trans q.abs)
theorem Vals.inj:∀{xs ys:List V} {us:List Value},Vals xs us→Vals ys us→xs=ys
 |_,_,_, .nil, .nil=>rfl
 |_,_,_, .cons r t, .cons r' t'=>by rw[r.inj r',Vals.inj t t']
section
variable {X:Cx}{pins:List (Addr×Obj)}{σ:St}{H:Hp}{s:Shared}{a:Addr}{xs ys:List V}
theorem SqL.of {K:PySem.W.Frag}(h:H a=some (.lst xs)):SqL K H a xs:=.inl (.inl h)
theorem SqT.of {K:PySem.W.Frag}(h:H a=some (.tup xs)):SqT K H a xs:=.inl (.inl h)
theorem Inv.list (I:Inv X pins σ H s)(h:SqL X.K H a xs):∃its:List Value,Vals xs its∧PlainL s.heap a its.toArray∧xs.length≤sizeLine:=by
 rcases h with h|⟨o,its,n,hk,hc,hd,hs,hz,r⟩
 ·obtain⟨z,its,n,r,e⟩:=h.ok I.hok
  exact⟨its,r,⟨_,n,e,rfl,rfl,rfl⟩,z⟩
 ·refine⟨its.toList,r,⟨o,n,I.kIn a o hk,hc,hd,by simpa using hs⟩,?_⟩
  have e:=r.length
  simp only[Array.length_toList]at e
  omega
theorem Inv.tuple (I:Inv X pins σ H s)(h:SqT X.K H a xs):∃its:List Value,Vals xs its∧IsTup s.heap a its.toArray∧xs.length≤sizeLine:=by
 rcases h with h|⟨o,its,n,hk,hc,hs,hz,r⟩
 ·obtain⟨z,its,r,p⟩:=h.ok I.hok
  exact⟨its,r,p,z⟩
 ·refine⟨its.toList,r,⟨o,I.kIn a o hk,hc,n,by simpa using hs⟩,?_⟩
  have e:=r.length
  simp only[Array.length_toList]at e
  omega
theorem Inv.list_inj (I:Inv X pins σ H s)(h:SqL X.K H a xs)(h':SqL X.K H a ys):xs=ys:=by
 obtain⟨its,r,⟨o,n,e,_,_,d⟩,_⟩:=I.list h
 obtain⟨its',r',⟨o',n',e',_,_,d'⟩,_⟩:=I.list h'
 rw[e]at e';cases e'
 rw[d]at d'
 injection d' with d1 _
 have:its=its':=by simpa using congrArg Array.toList d1
 subst this
 exact r.inj r'
theorem Inv.tuple_inj (I:Inv X pins σ H s)(h:SqT X.K H a xs)(h':SqT X.K H a ys):xs=ys:=by
 obtain⟨its,r,⟨o,e,_,n,d⟩,_⟩:=I.tuple h
 obtain⟨its',r',⟨o',e',_,n',d'⟩,_⟩:=I.tuple h'
 rw[e]at e';cases e'
 rw[d]at d'
 injection d' with d1 _
 have:its=its':=by simpa using congrArg Array.toList d1
 subst this
 exact r.inj r'
end
abbrev Cx.wish (X:Cx)(E:Value→Shared→Prop):Cx:={X with xe:=E}
abbrev Cx.nox (X:Cx):Cx:=X.wish fun _ _=>False
theorem Cx.Ok.wish {X:Cx}(ok:X.Ok)(E:Value→Shared→Prop):(X.wish E).Ok :=
 ⟨ok.mod,ok.kind,ok.glob,ok.blt,ok.above,ok.inj,ok.has,ok.cab,ok.hd,ok.frames,ok.stk,ok.exf,ok.bs,ok.bsz,ok.noex,ok.exfs,ok.funs,ok.frf⟩
theorem Cx.Ok.unwish {X:Cx}{E:Value→Shared→Prop}(ok:(X.wish E).Ok):X.Ok :=
 ⟨ok.mod,ok.kind,ok.glob,ok.blt,ok.above,ok.inj,ok.has,ok.cab,ok.hd,ok.frames,ok.stk,ok.exf,ok.bs,ok.bsz,ok.noex,ok.exfs,ok.funs,ok.frf⟩
section
variable {X:Cx}{pins:List (Addr×Obj)}{σ:St}{H:Hp}{s:Shared}{E:Value→Shared→Prop}
theorem Inv.wish (I:Inv X pins σ H s)(E:Value→Shared→Prop):Inv (X.wish E) pins σ H s:=⟨I.ok.wish E,I.os,I.bare,I.base,I.loc,I.cell,I.free,I.freeC,I.pin,I.hok,I.len⟩
theorem Inv.unwish (I:Inv (X.wish E) pins σ H s):Inv X pins σ H s:=⟨I.ok.unwish,I.os,I.bare,I.base,I.loc,I.cell,I.free,I.freeC,I.pin,I.hok,I.len⟩
theorem SP.unwish {D:Ends}{f:Flow}{s':Shared}(h:SP (X.wish E) pins D f s'):SP X pins D f s':=by
 cases f with
 |next=>obtain⟨σ',H',I,q⟩:=h;exact⟨σ',H',I.unwish,q⟩
 |brk=>obtain⟨σ',H',I,q⟩:=h;exact⟨σ',H',I.unwish,q⟩
 |cont=>obtain⟨σ',H',I,q⟩:=h;exact⟨σ',H',I.unwish,q⟩
 |ret u=>obtain⟨v,σ',H',I,r,q⟩:=h;exact⟨v,σ',H',I.unwish,r,q⟩
theorem PSs.nox {st:List Stmt}{t:TS}(h:PSs X.nox st t):PSs X st t:=fun pins s σ H D I hw=>
 wpAny_mono (h pins s σ H D (I.wish _) hw) (fun _ _ q=>q.unwish) fun _ _ z=>False.elim z
end
section
variable {X:Cx}{st:Stmt}{rest:List Stmt}{t u:TS}{e:Expr}{te:TE}{pos:Pos}
def tNext:TS:=fun D σ H=>D.nx σ H
def tSeq (t u:TS):TS:=fun D σ H=>t {D with nx:=u D} σ H
theorem pss_nil:PSs X [] tNext:=fun _ _ σ H _ I h=>wpAny_execs_nil ⟨σ,H,I,h⟩
theorem pss_cons (h1:PS X st t)(h2:PSs X rest u):PSs X (st::rest) (tSeq t u):=by
 intro pins s σ H D I h
 refine wpAny_execs_cons (thn (h1 pins s σ H {D with nx:=u D} I h) fun f s1 q=>?_)
 cases f with
 |next=>
  obtain⟨σ',H',I',q⟩:=q
  exact h2 pins s1 σ' H' D I' q
 |ret v=>exact q
 |brk=>exact q
 |cont=>exact q
theorem pss_one (h1:PS X st t):PSs X [st] t:=by
 intro pins s σ H D I h
 refine wpAny_execs_cons (thn (h1 pins s σ H D I h) fun f s1 q=>?_)
 cases f with
 |next=>exact wpAny_execs_nil q
 |ret v=>exact q
 |brk=>exact q
 |cont=>exact q
theorem Inv.quiet {pins:List (Addr×Obj)}{σ:St}{H:Hp}{s:Shared}(I:Inv X pins σ H s):interactive X.env=false:=by simp[interactive,I.ok.kind]
def tDrop (te:TE):TS:=fun D σ H=>te σ H fun _ H1=>D.nx σ H1
theorem ps_expr (he:PE X e te)(hs:swapsWith e none pos.line X.env=pure false:=by rfl):PS X (.Expr e pos) (tDrop te):=by
 intro pins s σ H D I h
 exact wpAny_Expr_any (thn (he pins s σ H _ I h) fun v s1 ⟨x,H1,I1,r1,q1⟩=>⟨σ,H1,I1,q1⟩) I.quiet hs
def tRet (te:TE):TS:=fun D σ H=>te σ H D.rt
theorem ps_ret (he:PE X e te):PS X (.Return (some e) pos) (tRet te):=by
 intro pins s σ H D I h
 exact wpAny_Return_some (thn (he pins s σ H _ I h) fun v s1 ⟨x,H1,I1,r1,q1⟩=>⟨x,σ,H1,I1,r1,q1⟩)
def tRetN:TS:=fun D _ H=>D.rt .non H
theorem ps_retN:PS X (.Return none pos) tRetN:=fun _ _ σ H _ I h=>wpAny_Return_none ⟨.non,σ,H,I,rfl,h⟩
def tIfS (c:TT)(t u:TS):TS:=fun D σ H=>c σ H fun b H1=>if b=true then t D σ H1 else u D σ H1
theorem ps_if {c:Expr}{a b:List Stmt}{tc:TT}(hc:PT X c tc)(ha:PSs X a t)(hb:PSs X b u):PS X (.If c a b pos) (tIfS tc t u):=by
 intro pins s σ H D I h
 refine wpAny_If (thn (hc pins s σ H _ I h) fun d s1 ⟨H1,I1,q1⟩=>?_)
 cases d with
 |true=>exact ha pins s1 σ H1 D I1 q1
 |false=>exact hb pins s1 σ H1 D I1 q1
def tNever:TS:=fun _ _ _=>False
theorem ps_never:PS X st tNever:=fun _ _ _ _ _ _ h=>h.elim
end
abbrev TG:=V→St→Hp→(St→Hp→Prop)→Prop
abbrev TGs:=List V→St→Hp→(St→Hp→Prop)→Prop
def PG (X:Cx)(target:Expr)(t:TG):Prop :=
 ∀(pins:List (Addr×Obj)) (s:Shared) (σ:St) (H:Hp) (v:V) (u:Value) (Q:St→Hp→Prop),Inv X pins σ H s→RelV v u→t v σ H Q→
  wpAny (model X.prog X.w) X.A (assign target X.env u) (fun _ s'=>∃σ' H',Inv X pins σ' H' s'∧Q σ' H') X.xe s
def PGs (X:Cx)(ts:List Expr)(t:TGs):Prop :=
 ∀(pins:List (Addr×Obj)) (s:Shared) (σ:St) (H:Hp) (vs:List V) (us:List Value) (Q:St→Hp→Prop),Inv X pins σ H s→Vals vs us→t vs σ H Q→
  wpAny (model X.prog X.w) X.A (assignInOrder ((assignEach ts X.env).map (·.2)) us) (fun _ s'=>∃σ' H',Inv X pins σ' H' s'∧Q σ' H') X.xe s
abbrev TSet:=V→V→V→Hp→(Hp→Prop)→Prop
def PSet (X:Cx)(t:TSet):Prop :=
 ∀(pins:List (Addr×Obj)) (s:Shared) (σ:St) (H:Hp) (o i v:V) (ov iv u:Value) (Q:Hp→Prop),Inv X pins σ H s→RelV o ov→RelV i iv→RelV v u→t o i v H Q→
  wpAny (model X.prog X.w) X.A (setItem ov iv u) (fun _ s'=>∃H',Inv X pins σ H' s'∧Q H') X.xe s
section
variable {X:Cx}{pos:Pos}
def gName (i:Nat):TG:=fun v σ H Q=>Q (σ.set i (some v)) H
theorem pg_name {i:Nat}{x:Str}(hN:X.N.Nodup)(hi:X.N[i]?=some x)(hx:Loc X.env.scope x)(hf:X.fn x=true∨X.env.scope.names.lookup x=some .local:=by first|exact .inl rfl|exact .inr rfl|assumption):PG X (.Name x pos) (gName i):=by
 intro pins s σ H v u Q I r h
 exact wpAny_assign_Name (store_ok I hN hi hx r (fun s' I'=>⟨_,H,I',h⟩) hf)
def gNil:TGs:=fun vs σ H Q=>vs=[]∧Q σ H
def gCons (t:TG)(u:TGs):TGs:=fun vs σ H Q=>∃v r,vs=v::r∧t v σ H fun σ' H'=>u r σ' H' Q
theorem pgs_nil:PGs X [] gNil:=by
 intro pins s σ H vs us Q I r h
 obtain⟨e,h⟩:=h
 subst e
 cases r
 exact assignInOrder_nil ⟨σ,H,I,h⟩
theorem pgs_cons {e:Expr}{es:List Expr}{t:TG}{u:TGs}(h1:PG X e t)(h2:PGs X es u)
  (hs:(assignEach (e::es) X.env).map (·.2)=assign e X.env::(assignEach es X.env).map (·.2):=by rfl):PGs X (e::es) (gCons t u):=by
 intro pins s σ H vs us Q I r h
 obtain⟨v,vr,e1,h⟩:=h
 subst e1
 cases r with
 |cons r rr=>
  rw[hs]
  refine assignInOrder_cons (thn (h1 pins s σ H _ _ _ I r h) fun _ s1 ⟨σ1,H1,I1,q1⟩=>?_)
  exact h2 pins s1 σ1 H1 _ _ Q I1 rr q1
def gTup (K:PySem.W.Frag)(n:Nat)(t:TGs):TG:=fun v σ H Q=>∃a xs,v=.ref a∧SqT K H a xs∧xs.length=n∧t xs σ H Q
theorem pg_tup {es:List Expr}{k:Nat}{t:TGs}{n:Nat}(hc:X.calm=true)(h:PGs X es t)
  (hn:(assignEach es X.env).length=n:=by rfl) (hst:(assignEach es X.env).findIdx? (·.1)=none:=by rfl):PG X (.Tuple es k pos) (gTup X.K n t):=by
 intro pins s σ H v u Q I r hw
 obtain⟨a,xs,e1,hq,hl,hw⟩:=hw
 subst e1
 cases r
 obtain⟨its,rv,ht,hz⟩:=I.tuple hq
 refine assign_Tuple_tuple (I.ok.hd hc) ht (by simp[hn,←hl,rv.length]) hst fun h' hx=>?_
 have I1:Inv X pins σ H {s with heap:=h'}:=I.kept (t':=s.toks) fun b o e=>hx b o (Nat.ne_of_lt (Heap.lt_size e)) e
 exact h pins _ σ H xs _ Q I1 (by simpa using rv) hw
def gSub (to ti:TE)(t:TSet):TG:=fun v σ H Q=>to σ H fun o H1=>ti σ H1 fun i H2=>t o i v H2 fun H3=>Q σ H3
theorem pg_sub {o i:Expr}{to ti:TE}{t:TSet}(ho:PE X o to)(hi:PE X i ti)(hs:PSet X t)
  (ha:∀v,assign (.Subscript o i pos) X.env v=(do
   let ov ←holding [v] (eval o X.env)
   let iv ←holding [v,ov] (eval i X.env)
   standAt pos
   holding [v,ov,iv] (setItem ov iv v)
   release [v,ov,iv] []):=by intro _;rfl):PG X (.Subscript o i pos) (gSub to ti t):=by
 intro pins s σ H v u Q I r h
 rw[ha]
 refine wpAny_bind (wpAny_holding (thn (ho pins s σ H _ I h) fun ov s1 ⟨x,H1,I1,r1,q1⟩=>?_))
 refine wpAny_bind (wpAny_holding (thn (hi pins s1 σ H1 _ I1 q1) fun iv s2 ⟨y,H2,I2,r2,q2⟩=>?_))
 refine wpAny_bind (wpAny_standAt (wpAny_bind (wpAny_holding (thn (hs pins s2 σ H2 x y v ov iv u _ I2 r1 r2 r q2) fun _ s3 ⟨H3,I3,q3⟩=>?_))))
 exact wpAny_release ⟨σ,H3,I3,q3⟩
def tAsg (te:TE)(g:TG):TS:=fun D σ H=>te σ H fun x H1=>g x σ H1 D.nx
theorem ps_asg {tg e:Expr}{te:TE}{g:TG}(he:PE X e te)(hg:PG X tg g)(hs:swapsWithSole [tg] e pos.line X.env=pure false:=by rfl)(hw:swappedStores [tg] e X.env=pure none:=by rfl)
  (h1:(assignEach [tg] X.env).map (·.2)=[assign tg X.env]:=by rfl):PS X (.Assign [tg] e pos) (tAsg te g):=by
 intro pins s σ H D I h
 refine wpAny_Assign_stores (thn (he pins s σ H _ I h) fun v s1 ⟨x,H1,I1,r1,q1⟩=>?_) hs hw
 rw[h1]
 exact thn (hg pins s1 σ H1 x v _ I1 r1 q1) fun _ s2 q=>q
theorem ps_set {i:Nat}{x:Str}{e:Expr}{te:TE}{pos':Pos}(hN:X.N.Nodup)(hi:X.N[i]?=some x)(hx:Loc X.env.scope x)(he:PE X e te)(hs:swapsWith e (some (.Name x pos')) pos.line X.env=pure false:=by rfl)(hf:X.fn x=true∨X.env.scope.names.lookup x=some .local:=by first|exact .inl rfl|exact .inr rfl|assumption):
  PS X (.Assign [.Name x pos'] e pos) (tAsg te (gName i)):=by
 intro pins s σ H D I h
 refine wpAny_Assign_Name (thn (he pins s σ H _ I h) fun v s1 ⟨y,H1,I1,r1,q1⟩=>?_) hs
 exact store_ok I1 hN hi hx r1 (fun s2 I2=>⟨_,H1,I2,q1⟩) hf
end
section
variable {X:Cx}{pos:Pos}
def tWhile (c:TT)(tb:TS):TS:=fun D σ H=>∃W:Nat→St→Hp→Prop,(∃m,W m σ H)∧∀m σ H,W m σ H→
 c σ H fun b H1=>if b=true then ∃N:St→Hp→Prop,(∀σ' H',N σ' H'→∃m',m'<m∧W m' σ' H')∧tb {D with nx:=N,ct:=N,bk:=D.nx} σ H1 else D.nx σ H1
theorem ps_while {c:Expr}{body:List Stmt}{tc:TT}{tb:TS}(hp:PassesOwn (model X.prog X.w) X.A X.env X.xe)(hc:PT X c tc)(hb:PSs X body tb):PS X (.While c body [] pos) (tWhile tc tb):=by
 intro pins s σ H D I h
 obtain⟨W,⟨m0,w0⟩,turn⟩:=h
 refine wpAny_While (codeAny_whileLoop (fun n s'=>∃σ' H',Inv X pins σ' H' s'∧W n σ' H') ?_ m0 ⟨σ,H,I,w0⟩)
 rintro n s1 ⟨σ1,H1,I1,w1⟩
 refine wpAny_passesOwn hp (thn (hc pins s1 σ1 H1 _ I1 (turn n σ1 H1 w1)) fun b s2 ⟨H2,I2,q2⟩=>?_)
 cases b with
 |true=>
  obtain⟨N,hN,q2⟩:=q2
  rw[if_pos rfl]
  refine wpAny_passesOwn hp (thn (hb pins s2 σ1 H2 _ I2 q2) fun f s3 q3=>?_)
  cases f with
  |next=>
   obtain⟨σ3,H3,I3,n3⟩:=q3
   obtain⟨m',hm,w3⟩:=hN σ3 H3 n3
   exact⟨m',hm,σ3,H3,I3,w3⟩
  |cont=>
   obtain⟨σ3,H3,I3,n3⟩:=q3
   obtain⟨m',hm,w3⟩:=hN σ3 H3 n3
   exact⟨m',hm,σ3,H3,I3,w3⟩
  |brk=>exact q3
  |ret v=>exact q3
 |false=>
  rw[if_neg Bool.false_ne_true]
  exact wpAny_execs_nil ⟨σ1,H2,I2,q2⟩
end
structure It where
 go:Nat→Hp→Prop
 yld:Nat→Hp→V→Hp→Prop
 stop:Nat→Hp→Prop
def FpOk (X:Cx)(pins:List (Addr×Obj))(H:Hp)(b:Addr):Prop :=
 H b=none∧b≠X.env.locals∧b∉X.fs∧(b∈X.ex∨X.s₀.heap.objs.size≤b)∧(∀x c,X.env.cells.lookup x=some c→c≠b)∧∀p∈X.pn++pins,p.1≠b
theorem Inv.fpOk {X:Cx}{pins:List (Addr×Obj)}{σ:St}{H H':Hp}{s:Shared}{b:Addr}(I:Inv X pins σ H s)(hb:s.heap.objs.size≤b)(hn:H' b=none):FpOk X pins H' b:=by
 refine⟨hn,Nat.ne_of_gt (Nat.lt_of_lt_of_le I.lt hb),I.nofs hb, .inr (Nat.le_trans I.sz hb),fun x c e z=>?_,fun p hp z=>?_⟩
 ·obtain⟨v,q⟩:=I.cell x c e
  exact absurd (Nat.lt_of_lt_of_le q.lt (by rw[z];exact hb)) (Nat.lt_irrefl _)
 ·exact absurd (Nat.lt_of_lt_of_le (Heap.lt_size (I.pin p hp).1) (by rw[z];exact hb)) (Nat.lt_irrefl _)
structure Turn (P:Program)(w:World)(K:PySem.W.Frag)(tg:Expr)(J:It)(fp:List Addr)(it:Addr)(tn:Nat→Heap→Prop):Prop where
 mem:it∈fp
 obj:∀i h,tn i h→∀b∈fp,∃o,h.get? b=some o∧∀v,o.data≠.cell v
 keep:∀i h h',tn i h→(∀b∈fp,∀o,h.get? b=some o→h'.get? b=some o)→tn i h'
 item:∀(X:Cx),X.prog=P→X.w=w→X.K=K→X.calm=true→∀(i:Nat) (pins:List (Addr×Obj)) (s:Shared) (σ:St) (H:Hp) (E:Value→Shared→Prop),Inv X pins σ H s→(∀b∈fp,FpOk X pins H b)→tn i s.heap→J.go i H→
  wpAny (model P w) X.A (pyNext (.ref it)) (fun r s1=>∃u,r=some u∧
   wpAny (model P w) X.A (letOwnedTupleGo tg (.ref it) u) (fun _ s2=>∃x H',Inv X pins σ H' s2∧RelV x u∧J.yld i H x H'∧tn (i+1) s2.heap∧∀b∈fp,H' b=none) E s1) E s
 done:∀(X:Cx),X.prog=P→X.w=w→X.K=K→X.calm=true→∀(i:Nat) (pins:List (Addr×Obj)) (s:Shared) (σ:St) (H:Hp) (E:Value→Shared→Prop),Inv X pins σ H s→(∀b∈fp,FpOk X pins H b)→tn i s.heap→J.stop i H→
  wpAny (model P w) X.A (pyNext (.ref it)) (fun r s1=>r=none∧Inv X pins σ H s1) E s
 self:∀(A:Around) (i:Nat) (s:Shared) (Q:Value→Shared→Prop) (E:Value→Shared→Prop),tn i s.heap→Q (.ref it) s→wpAny (model P w) A (pyIter (.ref it)) Q E s
abbrev TI:=St→Hp→(It→Hp→Prop)→Prop
def PIE (X:Cx)(pins:List (Addr×Obj))(σ:St)(tg:Expr)(R:It→Hp→Prop)(itv:Value)(s2:Shared):Prop :=
 ∃(it:Addr) (fp:List Addr) (tn:Nat→Heap→Prop) (J:It) (H':Hp),itv=.ref it∧Inv X pins σ H' s2∧Turn X.prog X.w X.K tg J fp it tn∧tn 0 s2.heap∧(∀b∈fp,FpOk X pins H' b)∧R J H'
def PI (X:Cx)(tg iter:Expr)(wi:TI):Prop :=
 ∀(pins:List (Addr×Obj)) (s:Shared) (σ:St) (H:Hp) (R:It→Hp→Prop),Inv X pins σ H s→wi σ H R→
  wpAny (model X.prog X.w) X.A (eval iter X.env) (fun v s1=>wpAny (model X.prog X.w) X.A (pyIter v) (PIE X pins σ tg R) X.xe s1) X.xe s
theorem go_of {M:Model}{A:Around}{E:Value→Shared→Prop}{s:Shared}{tg:Expr}{it:Addr}{u:Value}{o:Obj}{n:String}{vs:Array Value}{Q:Unit→Shared→Prop}(ho:s.heap.get? it=some o)(hc:o.cls=.type n)(hd:o.data=.fields vs)
  (hn:["enumerate","zip","dict_itemiterator","dict_reverseitemiterator","odict_iterator","itertools.zip_longest","itertools.pairwise"].contains n=false) (hQ:Q () s):wpAny M A (letOwnedTupleGo tg (.ref it) u) Q E s:=by
 unfold letOwnedTupleGo
 cases tg<;>first
  |exact wpAny_pure hQ
  |(cases u<;>first
    |exact wpAny_pure hQ
    |(refine wpAny_bind (wpAny_load ho ?_)
      rw[hc,hd]
      show wpAny M A (if(["enumerate","zip","dict_itemiterator","dict_reverseitemiterator","odict_iterator","itertools.zip_longest","itertools.pairwise"].contains n&&vs[0]?==some (rawInt _))=true then _ else _) Q E s
      rw[if_neg (by intro h;rw[hn,Bool.false_and]at h;cases h)]
      exact wpAny_pure hQ))
def Itl (K:PySem.W.Frag)(a:Addr):It :=
 ⟨fun i H=>∃xs x,SqL K H a xs∧xs[i]?=some x,fun i H x H'=>H'=H∧∀xs,SqL K H a xs→xs[i]?=some x,fun i H=>∃xs,SqL K H a xs∧xs.length≤i⟩
def Itt (K:PySem.W.Frag)(a:Addr):It :=
 ⟨fun i H=>∃xs x,SqT K H a xs∧xs[i]?=some x,fun i H x H'=>H'=H∧∀xs,SqT K H a xs→xs[i]?=some x,fun i H=>∃xs,SqT K H a xs∧xs.length≤i⟩
def Itr (lo:Int)(n:Nat):It:=⟨fun i _=>i<n,fun i H x H'=>H'=H∧x=.int (lo+i),fun i _=>n≤i⟩
theorem turn_list {P:Program}{w:World}{K:PySem.W.Frag}{tg:Expr}(a it:Addr):Turn P w K tg (Itl K a) [it] it (fun i h=>h.IsListIter it a i) where
 mem:=by simp
 obj:=fun i h st b hb=>by
  have e:b=it:=by simpa using hb
  subst e
  obtain⟨o,e,c,d⟩:=st
  exact⟨o,e,fun v z=>by rw[d]at z;cases z⟩
 keep:=fun i h h' st k=>st.at fun o e=>k it (by simp) o e
 item:=by
  intro X hP hw hK hc i pins s σ H E I hf st hg
  subst hP hw hK
  obtain⟨xs,x,hq,hx⟩:=hg
  obtain⟨its,rv,p,hz⟩:=I.list hq
  obtain⟨u,hu,ru⟩:=rv.get hx
  obtain⟨f0,f1,f2,f3,f4,f5⟩:=hf it (by simp)
  refine wpAny_pyNext_list_item st p.isList (x:=u) (by simpa using hu) fun h' st' sb=>?_
  have I1:Inv X pins σ H {s with heap:=h'}:=I.turned (t':=s.toks) (fun b o hb e=>(sb.2 b hb).trans e) f0 f1 f3 f4 f5
  obtain⟨o,e,c,d⟩:=id st'
  exact⟨u,rfl,go_of (s:={s with heap:=h'}) e c d (by decide) ⟨x,H,I1,ru,⟨rfl,fun ys hy=>by rw[I.list_inj hy hq];exact hx⟩,st',fun b hb=>(hf b hb).1⟩⟩
 done:=by
  intro X hP hw hK hc i pins s σ H E I hf st hg
  subst hP hw hK
  obtain⟨xs,hq,hx⟩:=hg
  obtain⟨its,rv,p,hz⟩:=I.list hq
  obtain⟨f0,f1,f2,f3,f4,f5⟩:=hf it (by simp)
  have hl:=rv.length
  exact wpAny_pyNext_list_end (I.ok.hd hc) st p.isList (by simp;omega) fun h' eb=>⟨rfl,I.turned (t':=s.toks) (fun b o hb e=>eb b o hb e) f0 f1 f3 f4 f5⟩
 self:=fun _ _ _ _ _ st h=>wpAny_pyIter_listiter st h
theorem turn_tuple {P:Program}{w:World}{K:PySem.W.Frag}{tg:Expr}(a it:Addr):Turn P w K tg (Itt K a) [it] it (fun i h=>h.IsTupleIter it a i) where
 mem:=by simp
 obj:=fun i h st b hb=>by
  have e:b=it:=by simpa using hb
  subst e
  obtain⟨o,e,c,d⟩:=st
  exact⟨o,e,fun v z=>by rw[d]at z;cases z⟩
 keep:=fun i h h' st k=>st.at fun o e=>k it (by simp) o e
 item:=by
  intro X hP hw hK hc i pins s σ H E I hf st hg
  subst hP hw hK
  obtain⟨xs,x,hq,hx⟩:=hg
  obtain⟨its,rv,p,hz⟩:=I.tuple hq
  obtain⟨u,hu,ru⟩:=rv.get hx
  obtain⟨f0,f1,f2,f3,f4,f5⟩:=hf it (by simp)
  refine wpAny_pyNext_tuple_item st (show s.heap.IsTuple a its.toArray from p) (x:=u) (by simpa using hu) fun h' st' sb=>?_
  have I1:Inv X pins σ H {s with heap:=h'}:=I.turned (t':=s.toks) (fun b o hb e=>(sb.2 b hb).trans e) f0 f1 f3 f4 f5
  obtain⟨o,e,c,d⟩:=id st'
  exact⟨u,rfl,go_of (s:={s with heap:=h'}) e c d (by decide) ⟨x,H,I1,ru,⟨rfl,fun ys hy=>by rw[I.tuple_inj hy hq];exact hx⟩,st',fun b hb=>(hf b hb).1⟩⟩
 done:=by
  intro X hP hw hK hc i pins s σ H E I hf st hg
  subst hP hw hK
  obtain⟨xs,hq,hx⟩:=hg
  obtain⟨its,rv,p,hz⟩:=I.tuple hq
  obtain⟨f0,f1,f2,f3,f4,f5⟩:=hf it (by simp)
  have hl:=rv.length
  exact wpAny_pyNext_tuple_end (I.ok.hd hc) st (show s.heap.IsTuple a its.toArray from p) (by simp;omega) fun h' eb=>⟨rfl,I.turned (t':=s.toks) (fun b o hb e=>eb b o hb e) f0 f1 f3 f4 f5⟩
 self:=fun _ _ _ _ _ st h=>wpAny_pyIter_tupleiter st h
theorem turn_range {P:Program}{w:World}{K:PySem.W.Frag}{tg:Expr}(it:Addr)(lo:Int)(n:Nat):Turn P w K tg (Itr lo n) [it] it (fun i h=>IsRangeIter h it (lo+(i:Nat)*1) ((n:Int)-(i:Nat)) 1) where
 mem:=by simp
 obj:=fun i h st b hb=>by
  have e:b=it:=by simpa using hb
  subst e
  exact⟨_,st,fun v z=>by
   have z':Data.fields _=Data.cell v:=z
   cases z'⟩
 keep:=fun i h h' st k=>k it (by simp) _ st
 item:=by
  intro X hP hw hK hc i pins s σ H E I hf st hg
  subst hP hw hK
  obtain⟨f0,f1,f2,f3,f4,f5⟩:=hf it (by simp)
  have W:=Walks.range (prog:=X.prog) (w:=X.w) (I.ok.hd hc) it lo 1 n
  refine W.item i s _ _ hg st fun v h' tk hv st' kk=>?_
  obtain⟨t,rfl⟩:=hv
  have I1:Inv X pins σ H {s with heap:=h',toks:=tk}:=I.turned (fun b o hb e=>kk b o (by simpa using hb) e) f0 f1 f3 f4 f5
  refine⟨_,rfl,go_of (s:={s with heap:=h',toks:=tk}) (n:="range_iterator") st' rfl rfl (by decide) ⟨.int (lo+i),H,I1,⟨t,?_⟩,⟨rfl,rfl⟩,st',fun b hb=>(hf b hb).1⟩⟩
  rw[Int.mul_one]
 done:=by
  intro X hP hw hK hc i pins s σ H E I hf st hg
  subst hP hw hK
  obtain⟨f0,f1,f2,f3,f4,f5⟩:=hf it (by simp)
  exact wpAny_pyNext_range_end (I.ok.hd hc) st (by have:n≤i:=hg;omega) fun h' eb=>⟨rfl,I.turned (t':=s.toks) (fun b o hb e=>eb b o hb e) f0 f1 f3 f4 f5⟩
 self:=fun _ _ _ _ _ st h=>wpAny_pyIter_rangeiter st h
section
variable {X:Cx}{tg:Expr}
def iList (K:PySem.W.Frag)(tl:TE):TI:=fun σ H R=>tl σ H fun x H1=>∃a,x=.ref a∧(∃xs,SqL K H1 a xs)∧R (Itl K a) H1
def iTup (K:PySem.W.Frag)(tl:TE):TI:=fun σ H R=>tl σ H fun x H1=>∃a,x=.ref a∧(∃xs,SqT K H1 a xs)∧R (Itt K a) H1
theorem pi_list {l:Expr}{tl:TE}(hl:PE X l tl):PI X tg l (iList X.K tl):=by
 intro pins s σ H R I h
 refine thn (hl pins s σ H _ I h) fun v s1 ⟨x,H1,I1,r1,q1⟩=>?_
 obtain⟨a,e,⟨xs,hq⟩,q⟩:=q1
 subst e
 cases r1
 obtain⟨its,rv,p,hz⟩:=I1.list hq
 refine wpAny_pyIter_list p.isList ?_
 refine⟨s1.heap.objs.size,[s1.heap.objs.size],_,_,H1,rfl,I1.kept (t':=s1.toks) fun b o e=>Heap.get?_push_of_some _ e,turn_list a _,⟨_,Heap.get?_push_size _ rfl,rfl,rfl⟩,fun b hb=>?_,q⟩
 have e:b=s1.heap.objs.size:=by simpa using hb
 subst e
 exact I1.fpOk (Nat.le_refl _) (I1.hok.fresh (Nat.le_refl _))
theorem pi_tup {l:Expr}{tl:TE}(hl:PE X l tl):PI X tg l (iTup X.K tl):=by
 intro pins s σ H R I h
 refine thn (hl pins s σ H _ I h) fun v s1 ⟨x,H1,I1,r1,q1⟩=>?_
 obtain⟨a,e,⟨xs,hq⟩,q⟩:=q1
 subst e
 cases r1
 obtain⟨its,rv,p,hz⟩:=I1.tuple hq
 refine wpAny_pyIter_tuple (show s1.heap.IsTuple a its.toArray from p) ?_
 refine⟨s1.heap.objs.size,[s1.heap.objs.size],_,_,H1,rfl,I1.kept (t':=s1.toks) fun b o e=>Heap.get?_push_of_some _ e,turn_tuple a _,⟨_,Heap.get?_push_size _ rfl,rfl,rfl⟩,fun b hb=>?_,q⟩
 have e:b=s1.heap.objs.size:=by simpa using hb
 subst e
 exact I1.fpOk (Nat.le_refl _) (I1.hok.fresh (Nat.le_refl _))
theorem range_it {pins:List (Addr×Obj)}{σ:St}{H:Hp}{s:Shared}{R:It→Hp→Prop}{E:Value→Shared→Prop}{lo hi:Int}{t u v:Tok}{tk:Nat}(I:Inv X pins σ H s)(h1: -(2^62)≤lo)(h2:lo<2^62)(h3: -(2^62)≤hi)(h4:hi<2^62)
  (q:R (Itr lo (hi-lo).toNat) H):wpAny (model X.prog X.w) X.A (pyIter (.ref s.heap.objs.size)) (PIE X pins σ tg R) E {s with heap:=s.heap.push {cls:=.type "range",data:=.fields #[.int lo t, .int hi u, .int 1 v]},toks:=tk}:=by
 refine wpAny_pyIter_range (IsRange.new ..) (small_one h1 h2 h3 h4) ?_
 have I1:Inv X pins σ H {s with heap:=s.heap.push {cls:=.type "range",data:=.fields #[.int lo t, .int hi u, .int 1 v]},toks:=tk}:=I.kept fun b o e=>Heap.get?_push_of_some _ e
 refine⟨(s.heap.push {cls:=.type "range",data:=.fields #[.int lo t, .int hi u, .int 1 v]}).objs.size,[(s.heap.push {cls:=.type "range",data:=.fields #[.int lo t, .int hi u, .int 1 v]}).objs.size],_,_,H,rfl,
  I1.kept (t':=tk) fun b o e=>Heap.get?_push_of_some _ e,turn_range _ lo (hi-lo).toNat,?_,fun b hb=>?_,q⟩
 ·have e1:lo+((0:Nat):Int)*1=lo:=by simp
  have e2:(((hi-lo).toNat:Nat):Int)-((0:Nat):Int)=Builtin.Range.rangeSize lo hi 1:=by rw[rangeSize_one];split<;>omega
  show IsRangeIter _ _ (lo+((0:Nat):Int)*1) ((((hi-lo).toNat:Nat):Int)-((0:Nat):Int)) 1
  rw[e1,e2]
  exact Heap.get?_push_size _ rfl
 ·have e:b=(s.heap.push {cls:=.type "range",data:=.fields #[.int lo t, .int hi u, .int 1 v]}).objs.size:=by simpa using hb
  subst e
  exact I1.fpOk (Nat.le_refl _) (I1.hok.fresh (Nat.le_refl _))
def iRng1 (ta:TA):TI:=fun σ H R=>ta σ H fun vs H1=>∃j:Int,vs=[.int j]∧-(2^62)≤j∧j<2^62∧R (Itr 0 j.toNat) H1
theorem pi_range1 {a:Expr}{ta:TA}{p pos:Pos}(hg:Gl X "range")(hm:X.mg "range"=none)(ha:PA X [a] ta)(hs:starEach [a] X.env=[(false,eval a X.env)]:=by rfl):PI X tg (.Call (.Name "range" p) [a] [] pos) (iRng1 ta):=by
 intro pins s σ H R I h
 refine Call_ (ld_blt I hg hm boot_range (PyProof.Rows.callWith_type1 (thn (ha pos pins s σ H _ I h) fun us s1 ⟨vs,H1,I1,r1,q1⟩=>?_) hs rfl))
 obtain⟨j,e,q1,q2,q⟩:=q1
 subst e
 cases r1 with
 |cons r rr=>
  cases rr
  obtain⟨t,rfl⟩:=r
  exact call_range_1 (range_it I1 (by omega) (by omega) q1 q2 (by simpa using q))
def tFor (wi:TI)(g:TG)(tb:TS):TS:=fun D σ H=>wi σ H fun J H1=>∃W:Nat→Nat→St→Hp→Prop,(∃m,W 0 m σ H1)∧∀i m σ H,W i m σ H→
 (J.stop i H∧D.nx σ H)∨(J.go i H∧∃N:St→Hp→Prop,(∀σ' H',N σ' H'→∃m',m'<m∧W (i+1) m' σ' H')∧∀x H',J.yld i H x H'→g x σ H' fun σ2 H2=>tb {D with nx:=N,ct:=N,bk:=D.nx} σ2 H2)
def pinsAt (fp:List Addr)(h:Heap):List (Addr×Obj):=fp.filterMap fun b=>(h.get? b).map fun o=>(b,o)
theorem mem_pinsAt {fp:List Addr}{h:Heap}{b:Addr}{o:Obj}(hb:b∈fp)(e:h.get? b=some o):(b,o)∈pinsAt fp h:=List.mem_filterMap.mpr ⟨b,hb,by rw[e];rfl⟩
theorem of_pinsAt {fp:List Addr}{h:Heap}{p:Addr×Obj}(hp:p∈pinsAt fp h):p.1∈fp∧h.get? p.1=some p.2:=by
 obtain⟨b,hb,e⟩:=List.mem_filterMap.mp hp
 cases q:h.get? b with
 |none=>rw[q]at e;cases e
 |some o=>
  rw[q]at e
  have e':(b,o)=p:=Option.some.inj e
  subst e'
  exact⟨hb,q⟩
theorem Inv.pinned {pins:List (Addr×Obj)}{σ:St}{H:Hp}{s:Shared}{fp:List Addr}(I:Inv X pins σ H s)(hf:∀b∈fp,FpOk X pins H b)(ho:∀b∈fp,∃o,s.heap.get? b=some o∧∀v,o.data≠.cell v):Inv X (pins++pinsAt fp s.heap) σ H s :=
 I.pins_of fun p hp=>(List.mem_append.mp hp).elim (fun z=>I.pin p (List.mem_append_right _ z)) fun z=>by
  obtain⟨hb,e⟩:=of_pinsAt z
  obtain⟨f0,f1,f2,_⟩:=hf p.1 hb
  obtain⟨o,e',d⟩:=ho p.1 hb
  rw[e]at e';cases e'
  exact⟨e,f0,f1,f2,d⟩
theorem Inv.unpinned {pins pl:List (Addr×Obj)}{σ:St}{H:Hp}{s:Shared}(I:Inv X (pins++pl) σ H s):Inv X pins σ H s:=I.pins_of fun p hp=>I.pin p (List.mem_append_right _ (List.mem_append_left _ hp))
theorem ps_for {iter:Expr}{body:List Stmt}{wi:TI}{g:TG}{tb:TS}{pos:Pos}(hp:PassesOwn (model X.prog X.w) X.A X.env X.xe)(hc:X.calm=true)(hi:PI X tg iter wi)(hg:PG X tg g)(hb:PSs X body tb)
  (hs:∀x,foldedSetIterable iter X.env x=pure x:=by intro _;rfl):PS X (.For tg iter body [] pos) (tFor wi g tb):=by
 intro pins s σ H D I h
 refine wpAny_For (thn (hi pins s σ H _ I h) fun v s1 h1=>thn h1 fun itv s2 h2=>?_) hs
 obtain⟨it,fp,tn,J,H2,e,I2,T,st2,f2,W,⟨m0,w0⟩,turn⟩:=h2
 subst e
 have stat:∀{H':Hp},(∀b∈fp,H' b=none)→∀b∈fp,FpOk X pins H' b:=fun hn b hb=>⟨hn b hb,(f2 b hb).2⟩
 refine codeAny_forLoop_any (fun n s'=>∃i σ' H',Inv X pins σ' H' s'∧tn i s'.heap∧(∀b∈fp,H' b=none)∧W i n σ' H') ?_ m0 ⟨0,σ,H2,I2,st2,fun b hb=>(f2 b hb).1,w0⟩
 rintro n s3 ⟨i,σ3,H3,I3,st3,fr3,w3⟩
 rcases turn i n σ3 H3 w3 with ⟨stop,qn⟩|⟨go,N,hN,step⟩
 ·refine wpAny_passesOwn hp (thn (T.done X rfl rfl rfl hc i pins s3 σ3 H3 X.xe I3 (stat fr3) st3 stop) fun r s4 ⟨hr,I4⟩=>?_)
  subst hr
  exact wpAny_execs_nil ⟨σ3,H3,I4,qn⟩
 ·refine wpAny_passesOwn hp (thn (T.item X rfl rfl rfl hc i pins s3 σ3 H3 X.xe I3 (stat fr3) st3 go) fun r s4 ⟨u,hr,h4⟩=>?_)
  subst hr
  refine wpAny_passesOwn hp (thn h4 fun _ s5 ⟨x,H5,I5,r5,y5,st5,fr5⟩=>?_)
  have I5':=I5.pinned (stat fr5) (T.obj _ _ st5)
  refine wpAny_passesOwn hp (thn (hg _ s5 σ3 H5 x u _ I5' r5 (step x H5 y5)) fun _ s6 ⟨σ6,H6,I6,q6⟩=>?_)
  refine wpAny_passesOwn hp (thn (hb _ s6 σ6 H6 _ I6 q6) fun f s7 q7=>?_)
  have again:∀{σ7:St} {H7:Hp},Inv X (pins++pinsAt fp s5.heap) σ7 H7 s7→N σ7 H7→∃m,m<n∧∃i σ' H',Inv X pins σ' H' s7∧tn i s7.heap∧(∀b∈fp,H' b=none)∧W i m σ' H':=fun{σ7 H7} I7 n7=>by
   obtain⟨m',hm,w7⟩:=hN σ7 H7 n7
   refine⟨m',hm,i+1,σ7,H7,I7.unpinned,T.keep _ _ _ st5 fun b hb o e=>(I7.pin (b,o) (List.mem_append_right _ (List.mem_append_right _ (mem_pinsAt hb e)))).1,fun b hb=>?_,w7⟩
   obtain⟨o,e,d⟩:=T.obj _ _ st5 b hb
   exact(I7.pin (b,o) (List.mem_append_right _ (List.mem_append_right _ (mem_pinsAt hb e)))).2.1
  cases f with
  |next=>obtain⟨σ7,H7,I7,n7⟩:=q7;exact again I7 n7
  |cont=>obtain⟨σ7,H7,I7,n7⟩:=q7;exact again I7 n7
  |brk=>obtain⟨σ7,H7,I7,q7⟩:=q7;exact⟨σ7,H7,I7.unpinned,q7⟩
  |ret v=>obtain⟨x7,σ7,H7,I7,r7,q7⟩:=q7;exact⟨x7,σ7,H7,I7.unpinned,r7,q7⟩
end
theorem for_list {K:PySem.W.Frag}{a:Addr}{xs:List V}{g:TG}{tb:TS}{D:Ends}{σ:St}{H:Hp}(Pv:Nat→St→Hp→Prop)(h0:Pv 0 σ H)(hl:∀i σ H,i≤xs.length→Pv i σ H→SqL K H a xs)
  (hs:∀i x σ H,xs[i]?=some x→Pv i σ H→g x σ H fun σ2 H2=>tb {D with nx:=Pv (i+1),ct:=Pv (i+1),bk:=D.nx} σ2 H2) (hd:∀σ H,Pv xs.length σ H→D.nx σ H):
  ∃W:Nat→Nat→St→Hp→Prop,(∃m,W 0 m σ H)∧∀i m σ H,W i m σ H→
   ((Itl K a).stop i H∧D.nx σ H)∨((Itl K a).go i H∧∃N:St→Hp→Prop,(∀σ' H',N σ' H'→∃m',m'<m∧W (i+1) m' σ' H')∧∀x H',(Itl K a).yld i H x H'→g x σ H' fun σ2 H2=>tb {D with nx:=N,ct:=N,bk:=D.nx} σ2 H2):=by
 refine⟨fun i m σ H=>m=xs.length-i∧i≤xs.length∧Pv i σ H,⟨xs.length,by simp,Nat.zero_le _,h0⟩,?_⟩
 rintro i m σ H ⟨rfl,hi,p⟩
 have q:=hl i σ H hi p
 by_cases hlt:i<xs.length
 ·refine .inr ⟨⟨xs,xs[i],q,by simp[hlt]⟩,Pv (i+1),fun σ' H' p'=>⟨xs.length-(i+1),by omega,rfl,hlt,p'⟩,fun x H' y=>?_⟩
  obtain⟨e,y⟩:=y
  subst e
  exact hs i x σ _ (y xs q) p
 ·have e:i=xs.length:=by omega
  subst e
  exact .inl ⟨⟨xs,q,Nat.le_refl _⟩,hd σ H p⟩
theorem for_tup {K:PySem.W.Frag}{a:Addr}{xs:List V}{g:TG}{tb:TS}{D:Ends}{σ:St}{H:Hp}(Pv:Nat→St→Hp→Prop)(h0:Pv 0 σ H)(hl:∀i σ H,i≤xs.length→Pv i σ H→SqT K H a xs)
  (hs:∀i x σ H,xs[i]?=some x→Pv i σ H→g x σ H fun σ2 H2=>tb {D with nx:=Pv (i+1),ct:=Pv (i+1),bk:=D.nx} σ2 H2) (hd:∀σ H,Pv xs.length σ H→D.nx σ H):
  ∃W:Nat→Nat→St→Hp→Prop,(∃m,W 0 m σ H)∧∀i m σ H,W i m σ H→
   ((Itt K a).stop i H∧D.nx σ H)∨((Itt K a).go i H∧∃N:St→Hp→Prop,(∀σ' H',N σ' H'→∃m',m'<m∧W (i+1) m' σ' H')∧∀x H',(Itt K a).yld i H x H'→g x σ H' fun σ2 H2=>tb {D with nx:=N,ct:=N,bk:=D.nx} σ2 H2):=by
 refine⟨fun i m σ H=>m=xs.length-i∧i≤xs.length∧Pv i σ H,⟨xs.length,by simp,Nat.zero_le _,h0⟩,?_⟩
 rintro i m σ H ⟨rfl,hi,p⟩
 have q:=hl i σ H hi p
 by_cases hlt:i<xs.length
 ·refine .inr ⟨⟨xs,xs[i],q,by simp[hlt]⟩,Pv (i+1),fun σ' H' p'=>⟨xs.length-(i+1),by omega,rfl,hlt,p'⟩,fun x H' y=>?_⟩
  obtain⟨e,y⟩:=y
  subst e
  exact hs i x σ _ (y xs q) p
 ·have e:i=xs.length:=by omega
  subst e
  exact .inl ⟨⟨xs,q,Nat.le_refl _⟩,hd σ H p⟩
theorem for_range {lo:Int}{n:Nat}{g:TG}{tb:TS}{D:Ends}{σ:St}{H:Hp}(Pv:Nat→St→Hp→Prop)(h0:Pv 0 σ H)
  (hs:∀i σ H,i<n→Pv i σ H→g (.int (lo+i)) σ H fun σ2 H2=>tb {D with nx:=Pv (i+1),ct:=Pv (i+1),bk:=D.nx} σ2 H2) (hd:∀σ H,Pv n σ H→D.nx σ H):
  ∃W:Nat→Nat→St→Hp→Prop,(∃m,W 0 m σ H)∧∀i m σ H,W i m σ H→
   ((Itr lo n).stop i H∧D.nx σ H)∨((Itr lo n).go i H∧∃N:St→Hp→Prop,(∀σ' H',N σ' H'→∃m',m'<m∧W (i+1) m' σ' H')∧∀x H',(Itr lo n).yld i H x H'→g x σ H' fun σ2 H2=>tb {D with nx:=N,ct:=N,bk:=D.nx} σ2 H2):=by
 refine⟨fun i m σ H=>m=n-i∧i≤n∧Pv i σ H,⟨n,by simp,Nat.zero_le _,h0⟩,?_⟩
 rintro i m σ H ⟨rfl,hi,p⟩
 by_cases hlt:i<n
 ·refine .inr ⟨hlt,Pv (i+1),fun σ' H' p'=>⟨n-(i+1),by omega,rfl,hlt,p'⟩,fun x H' y=>?_⟩
  obtain⟨e,y⟩:=y
  subst e y
  exact hs i σ _ hlt p
 ·have e:i=n:=by omega
  subst e
  exact .inl ⟨Nat.le_refl _,hd σ H p⟩
abbrev R2:=V→V→Hp→VK→Prop
def OpR (X:Cx)(f:Value→Value→Sem Value)(r:R2):Prop :=
 ∀(pins:List (Addr×Obj)) (s:Shared) (σ:St) (H:Hp) (x y:V) (v u:Value) (Q:VK),Inv X pins σ H s→RelV x v→RelV y u→r x y H Q→
  wpAny (model X.prog X.w) X.A (f v u) (EP X pins σ Q) X.xe s
def CallR (X:Cx)(f:Value)(r:List V→Hp→VK→Prop):Prop :=
 ∀(pins:List (Addr×Obj)) (s:Shared) (σ:St) (H:Hp) (xs:List V) (us:List Value) (Q:VK),Inv X pins σ H s→Vals xs us→r xs H Q→
  wpAny (model X.prog X.w) X.A (call f us) (EP X pins σ Q) X.xe s
def tOp (r:R2)(ta tb:TE):TE:=fun σ H Q=>ta σ H fun x H1=>tb σ H1 fun y H2=>r x y H2 Q
def rI (C:Int→Int→Prop)(g:Int→Int→V):R2:=fun x y H Q=>∃i j,x=.int i∧y=.int j∧C i j∧Q (g i j) H
def rI0 (g:Int→Int→V):R2:=fun x y H Q=>∃i j,x=.int i∧y=.int j∧Q (g i j) H
section
variable {X:Cx}{a b c:Expr}{ta tb tc:TE}{pos:Pos}
theorem binT (ha:PE X a ta)(hb:PE X b tb){pins:List (Addr×Obj)}{s:Shared}{σ:St}{H:Hp}{R:V→V→Hp→Prop}(I:Inv X pins σ H s)
  (h:ta σ H fun x H1=>tb σ H1 fun y H2=>R x y H2) {Q:Value→Shared→Prop} {f:Value→Value→Sem Value}
  (hf:∀v u s2 x y H2,Inv X pins σ H2 s2→RelV x v→RelV y u→R x y H2→wpAny (model X.prog X.w) X.A (f v u) Q X.xe s2):
  wpAny (model X.prog X.w) X.A (eval a X.env) (fun v s₁=>wpAny (model X.prog X.w) X.A (eval b X.env) (fun u s₂=>wpAny (model X.prog X.w) X.A (f v u) Q X.xe s₂) X.xe s₁) X.xe s:=by
 refine thn (ha pins s σ H _ I h) fun v s1 ⟨x,H1,I1,r1,q1⟩=>?_
 refine thn (hb pins s1 σ H1 _ I1 q1) fun u s2 ⟨y,H2,I2,r2,q2⟩=>?_
 exact hf v u s2 x y H2 I2 r1 r2 q2
theorem pe_op {op:Operator}{r:R2}(ho:OpR X (binaryOp op) r)(ha:PE X a ta)(hb:PE X b tb):PE X (.BinOp a op b pos) (tOp r ta tb):=by
 intro pins s σ H Q I h
 exact wpAny_BinOp (binT ha hb I h fun v u s2 x y H2 I2 rx ry q=>ho pins s2 σ H2 x y v u Q I2 rx ry q)
theorem opI {f:Value→Value→Sem Value}{C:Int→Int→Prop}{g:Int→Int→Int}
  (rule:∀(i j:Int) (t u:Tok) (s:Shared) (Q:Value→Shared→Prop) (E:Value→Shared→Prop),C i j→Q (.int (g i j) s.toks) {s with toks:=s.toks+1}→wpAny (model X.prog X.w) X.A (f (.int i t) (.int j u)) Q E s):
  OpR X f (rI C fun i j=>.int (g i j)):=by
 intro pins s σ H x y v u Q I rx ry h
 obtain⟨i,j,rfl,rfl,hc,q⟩:=h
 obtain⟨t,rfl⟩:=rx
 obtain⟨t',rfl⟩:=ry
 exact rule i j t t' s _ _ hc ⟨.int (g i j),H,I.tok _,⟨_,rfl⟩,q⟩
theorem opI0 {f:Value→Value→Sem Value}{g:Int→Int→Int}
  (rule:∀(i j:Int) (t u:Tok) (s:Shared) (Q:Value→Shared→Prop) (E:Value→Shared→Prop),Q (.int (g i j) s.toks) {s with toks:=s.toks+1}→wpAny (model X.prog X.w) X.A (f (.int i t) (.int j u)) Q E s):
  OpR X f (rI0 fun i j=>.int (g i j)):=by
 intro pins s σ H x y v u Q I rx ry h
 obtain⟨i,j,rfl,rfl,q⟩:=h
 obtain⟨t,rfl⟩:=rx
 obtain⟨t',rfl⟩:=ry
 exact rule i j t t' s _ _ ⟨.int (g i j),H,I.tok _,⟨_,rfl⟩,q⟩
theorem opB0 {f:Value→Value→Sem Value}{g:Int→Int→Bool}
  (rule:∀(i j:Int) (t u:Tok) (s:Shared) (Q:Value→Shared→Prop) (E:Value→Shared→Prop),Q (.bool (g i j)) s→wpAny (model X.prog X.w) X.A (f (.int i t) (.int j u)) Q E s):
  OpR X f (rI0 fun i j=>.bl (g i j)):=by
 intro pins s σ H x y v u Q I rx ry h
 obtain⟨i,j,rfl,rfl,q⟩:=h
 obtain⟨t,rfl⟩:=rx
 obtain⟨t',rfl⟩:=ry
 exact rule i j t t' s _ _ ⟨.bl (g i j),H,I,rfl,q⟩
def CDiv (i j:Int):Prop:=0<j∧j<1073741824
def CPow (i j:Int):Prop:=0≤j∧j≤1000000∧i.natAbs<2^64
def CMul (i j:Int):Prop:=(-(2^64)<i∧i<2^64)∨(-(2^64)<j∧j<2^64)
theorem CMul.ok {i j:Int}(h:CMul i j):IntMulOk i j:=by
 rcases h with ⟨h1,h2⟩|⟨h1,h2⟩
 ·exact .of_left (intBits_le_64 h1 h2)
 ·exact .of_right (intBits_le_64 h1 h2)
theorem op_add:OpR X (binaryOp .Add) (rI0 fun i j=>.int (i+j)):=opI0 fun _ _ _ _ _ _ _ q=>add_int q
theorem op_sub:OpR X (binaryOp .Sub) (rI0 fun i j=>.int (i-j)):=opI0 fun _ _ _ _ _ _ _ q=>sub_int q
theorem op_mul:OpR X (binaryOp .Mult) (rI CMul fun i j=>.int (i*j)):=opI fun _ _ _ _ _ _ _ hc q=>mul_int q hc.ok
theorem op_fdiv:OpR X (binaryOp .FloorDiv) (rI CDiv fun i j=>.int (i / j)):=opI fun i j _ _ _ _ _ hc q=>by
 have h1:(0:Int)<j:=hc.1
 have h2:j<1073741824:=hc.2
 exact floordiv_int (by omega) (by rw[Int.fdiv_eq_ediv_of_nonneg i (by omega)];exact q) (.inl (PyProof.noPylong_small (by omega)))
theorem op_mod:OpR X (binaryOp .Mod) (rI (fun _ j=>0<j) fun i j=>.int (i%j)):=opI fun i j _ _ _ _ _ hc q=>by
 have h1:(0:Int)<j:=hc
 exact mod_int' (by omega) (by rw[Int.fmod_eq_emod_of_nonneg i (by omega)];exact q)
theorem op_pow:OpR X (binaryOp .Pow) (rI CPow fun i j=>.int (i^j.toNat)):=opI fun _ _ _ _ _ _ _ hc q=>pow_int_small hc.1 hc.2.1 hc.2.2 q
end
def scal:V→V→Bool
 |.non, .non=>true|.non, .int _=>true|.int _, .non=>true|.non, .bl _=>true|.bl _, .non=>true|.non, .str _=>true|.str _, .non=>true
 |.int _, .int _=>true|.bl _, .bl _=>true|.str _, .str _=>true|.byt _, .byt _=>true
 |.int _, .str _=>true|.str _, .int _=>true|.bl _, .str _=>true|.str _, .bl _=>true
 |_,_=>false
def rEq:R2:=fun x y H Q=>scal x y=true∧Q (.bl (decide (x=y))) H
def rNe:R2:=fun x y H Q=>scal x y=true∧Q (.bl (!decide (x=y))) H
theorem dec_int {i j:Int}:decide (V.int i=V.int j)=(i==j):=by
 rw[Bool.eq_iff_iff]
 simp
theorem dec_bl {i j:Bool}:decide (V.bl i=V.bl j)=(i==j):=by
 rw[Bool.eq_iff_iff]
 simp
theorem dec_str {i j:Str}:decide (V.str i=V.str j)=(i==j):=by
 rw[Bool.eq_iff_iff]
 simp
theorem dec_byt {i j:Array UInt8}:decide (V.byt i=V.byt j)=(i.toList==j.toList):=by
 rw[Bool.eq_iff_iff]
 cases i
 cases j
 simp
section
variable {X:Cx}{a b c:Expr}{ta tb tc:TE}{pos:Pos}
theorem fin_bl {pins:List (Addr×Obj)}{σ:St}{H:Hp}{s:Shared}{Q:VK}{k k':Bool}(I:Inv X pins σ H s)(q:Q (.bl k) H)(e:k=k'):EP X pins σ Q (.bool k') s:=by
 subst e
 exact⟨.bl k,H,I,rfl,q⟩
theorem op_eq:OpR X (compareOp .Eq) rEq:=by
 intro pins s σ H x y v u Q I rx ry h
 obtain⟨hs,q⟩:=h
 cases x with
 |non=>
  cases rx
  cases y with
  |non=>cases ry;exact PySem.EqNone.eq_none_none (fin_bl I q (by simp))
  |bl j=>cases ry;exact PySem.EqNone.eq_none_bool (fin_bl I q (by simp))
  |int j=>obtain⟨t',rfl⟩:=ry;exact PySem.EqNone.eq_none_int (fin_bl I q (by simp))
  |str j=>obtain⟨t',rfl⟩:=ry;exact PySem.EqNone.eq_none_str (fin_bl I q (by simp))
  |_=>exact absurd (show false=true from hs) Bool.false_ne_true
 |bl i=>
  cases rx
  cases y with
  |non=>cases ry;exact PySem.EqNone.eq_bool_none (fin_bl I q (by simp))
  |bl j=>cases ry;exact eq_bool (fin_bl I q dec_bl)
  |str j=>obtain⟨t',rfl⟩:=ry;exact PySem.EqMixed.eq_bool_str (fin_bl I q (by simp))
  |_=>exact absurd (show false=true from hs) Bool.false_ne_true
 |int i=>
  obtain⟨t,rfl⟩:=rx
  cases y with
  |non=>cases ry;exact PySem.EqNone.eq_int_none (fin_bl I q (by simp))
  |int j=>obtain⟨t',rfl⟩:=ry;exact eq_int (fin_bl I q dec_int)
  |str j=>obtain⟨t',rfl⟩:=ry;exact PySem.EqMixed.eq_int_str (fin_bl I q (by simp))
  |_=>exact absurd (show false=true from hs) Bool.false_ne_true
 |str i=>
  obtain⟨t,rfl⟩:=rx
  cases y with
  |non=>cases ry;exact PySem.EqNone.eq_str_none (fin_bl I q (by simp))
  |bl j=>cases ry;exact PySem.EqMixed.eq_str_bool (fin_bl I q (by simp))
  |int j=>obtain⟨t',rfl⟩:=ry;exact PySem.EqMixed.eq_str_int (fin_bl I q (by simp))
  |str j=>obtain⟨t',rfl⟩:=ry;exact eq_str (fin_bl I q dec_str)
  |_=>exact absurd (show false=true from hs) Bool.false_ne_true
 |byt i=>
  obtain⟨t,rfl⟩:=rx
  cases y with
  |byt j=>obtain⟨t',rfl⟩:=ry;exact PySem.W.eq_bytes (fin_bl I q dec_byt)
  |_=>exact absurd (show false=true from hs) Bool.false_ne_true
 |_=>cases y<;>exact absurd (show false=true from hs) Bool.false_ne_true
theorem op_ne:OpR X (compareOp .NotEq) rNe:=by
 intro pins s σ H x y v u Q I rx ry h
 obtain⟨hs,q⟩:=h
 cases x with
 |non=>
  cases rx
  cases y with
  |non=>cases ry;exact PySem.EqNone.ne_none_none (fin_bl I q (by simp))
  |bl j=>cases ry;exact PySem.EqNone.ne_none_bool (fin_bl I q (by simp))
  |int j=>obtain⟨t',rfl⟩:=ry;exact PySem.EqNone.ne_none_int (fin_bl I q (by simp))
  |str j=>obtain⟨t',rfl⟩:=ry;exact PySem.EqNone.ne_none_str (fin_bl I q (by simp))
  |_=>exact absurd (show false=true from hs) Bool.false_ne_true
 |bl i=>
  cases rx
  cases y with
  |non=>cases ry;exact PySem.EqNone.ne_bool_none (fin_bl I q (by simp))
  |bl j=>cases ry;exact ne_bool (fin_bl I q (congrArg not dec_bl))
  |str j=>obtain⟨t',rfl⟩:=ry;exact PySem.EqMixed.ne_bool_str (fin_bl I q (by simp))
  |_=>exact absurd (show false=true from hs) Bool.false_ne_true
 |int i=>
  obtain⟨t,rfl⟩:=rx
  cases y with
  |non=>cases ry;exact PySem.EqNone.ne_int_none (fin_bl I q (by simp))
  |int j=>obtain⟨t',rfl⟩:=ry;exact ne_int (fin_bl I q (congrArg not dec_int))
  |str j=>obtain⟨t',rfl⟩:=ry;exact PySem.EqMixed.ne_int_str (fin_bl I q (by simp))
  |_=>exact absurd (show false=true from hs) Bool.false_ne_true
 |str i=>
  obtain⟨t,rfl⟩:=rx
  cases y with
  |non=>cases ry;exact PySem.EqNone.ne_str_none (fin_bl I q (by simp))
  |bl j=>cases ry;exact PySem.EqMixed.ne_str_bool (fin_bl I q (by simp))
  |int j=>obtain⟨t',rfl⟩:=ry;exact PySem.EqMixed.ne_str_int (fin_bl I q (by simp))
  |str j=>obtain⟨t',rfl⟩:=ry;exact ne_str (fin_bl I q (congrArg not dec_str))
  |_=>exact absurd (show false=true from hs) Bool.false_ne_true
 |byt i=>
  obtain⟨t,rfl⟩:=rx
  cases y with
  |byt j=>obtain⟨t',rfl⟩:=ry;exact PySem.W.ne_bytes (fin_bl I q (congrArg not dec_byt))
  |_=>exact absurd (show false=true from hs) Bool.false_ne_true
 |_=>cases y<;>exact absurd (show false=true from hs) Bool.false_ne_true
theorem op_lt:OpR X (compareOp .Lt) (rI0 fun i j=>.bl (decide (i<j))):=opB0 fun _ _ _ _ _ _ _ q=>lt_int q
theorem op_gt:OpR X (compareOp .Gt) (rI0 fun i j=>.bl (decide (j<i))):=opB0 fun _ _ _ _ _ _ _ q=>gt_int q
theorem op_ge:OpR X (compareOp .GtE) (rI0 fun i j=>.bl (decide (j≤i))):=opB0 fun _ _ _ _ _ _ _ q=>ge_int q
theorem nomark (b:Expr){op:CmpOp}(h:op≠.In:=by decide)(h2:op≠.NotIn:=by decide):behindInMarks op b=false:=by
 have e1:(op==CmpOp.In)=false:=by cases op<;>first|rfl|exact absurd rfl h
 have e2:(op==CmpOp.NotIn)=false:=by cases op<;>first|rfl|exact absurd rfl h2
 cases b<;>simp[behindInMarks,e1,e2]
theorem pe_cmpR {op:CmpOp}{r:R2}(ho:OpR X (compareOp op) r)(ha:PE X a ta)(hb:PE X b tb)(hm:behindInMarks op b=false):PE X (.Compare a [op] [b] pos) (tOp r ta tb):=by
 intro pins s σ H Q I h
 exact wpAny_Compare1 (binT ha hb I h fun v u s2 x y H2 I2 rx ry q=>ho pins s2 σ H2 x y v u Q I2 rx ry q) hm
def tTest (t:TE):TT:=fun σ H Q=>t σ H fun x H'=>∃k,x=.bl k∧Q k H'
theorem pt_cmpR {op:CmpOp}{r:R2}(ho:OpR X (compareOp op) r)(ha:PE X a ta)(hb:PE X b tb)(hm:behindInMarks op b=false):PT X (.Compare a [op] [b] pos) (tTest (tOp r ta tb)):=by
 intro pins s σ H Q I h
 refine wpAny_isTrue_Compare1 (thn (ha pins s σ H _ I h) fun v s1 ⟨x,H1,I1,r1,q1⟩=>thn (hb pins s1 σ H1 _ I1 q1) fun u s2 ⟨y,H2,I2,r2,q2⟩=>
  thn (ho pins s2 σ H2 x y v u _ I2 r1 r2 q2) fun c s3 ⟨z,H3,I3,r3,k,e,q3⟩=>?_) hm
 subst e
 cases r3
 exact wpAny_truthy_bool ⟨H3,I3,q3⟩
theorem line63:(sizeLine:Nat)<2^63:=by rw[sizeLine_eq];decide
theorem op_add_str:OpR X (binaryOp .Add) (fun x y H Q=>∃i j,x=.str i∧y=.str j∧i.length+j.length≤sizeLine∧Q (.str (i++j)) H):=by
 intro pins s σ H x y v u Q I rx ry h
 obtain⟨i,j,rfl,rfl,hz,q⟩:=h
 obtain⟨t,rfl⟩:=rx
 obtain⟨t',rfl⟩:=ry
 exact add_str (fun t' tk=>⟨.str (i++j),H,I.tok _,⟨_,rfl⟩,q⟩) hz
theorem vals1 {x:V}{us:List Value}(r:Vals [x] us):∃u,us=[u]∧RelV x u:=by
 cases r with
 |cons r1 r2=>cases r2;exact⟨_,rfl,r1⟩
theorem vals2 {x y:V}{us:List Value}(r:Vals [x,y] us):∃u w',us=[u,w']∧RelV x u∧RelV y w':=by
 cases r with
 |cons r1 r2=>
  cases r2 with
  |cons r3 r4=>cases r4;exact⟨_,_,rfl,r1,r3⟩
theorem call_abs:CallR X (.builtin "abs") (fun xs H Q=>∃i,xs=[.int i]∧Q (.int (if i<0 then -i else i)) H):=by
 intro pins s σ H xs us Q I r h
 obtain⟨i,rfl,q⟩:=h
 obtain⟨u,rfl,t,rfl⟩:=vals1 r
 exact call_abs_int fun u tk=>⟨.int (if i<0 then -i else i),H,I.tok _,⟨_,rfl⟩,q⟩
theorem call_max2 (hc:X.calm=true):CallR X (.builtin "max") (fun xs H Q=>∃i j,xs=[.int i, .int j]∧Q (.int (if j>i then j else i)) H):=by
 intro pins s σ H xs us Q I r h
 obtain⟨i,j,rfl,q⟩:=h
 obtain⟨u,w',rfl,⟨t,rfl⟩,⟨t',rfl⟩⟩:=vals2 r
 refine max_two_ints (I.ok.hd hc) fun h' tk k=>⟨_,H,I.kept k,?_,q⟩
 by_cases hj:j>i
 ·rw[if_pos hj,if_pos hj];exact⟨_,rfl⟩
 ·rw[if_neg hj,if_neg hj];exact⟨_,rfl⟩
theorem call_min2 (hc:X.calm=true):CallR X (.builtin "min") (fun xs H Q=>∃i j,xs=[.int i, .int j]∧Q (.int (if j<i then j else i)) H):=by
 intro pins s σ H xs us Q I r h
 obtain⟨i,j,rfl,q⟩:=h
 obtain⟨u,w',rfl,⟨t,rfl⟩,⟨t',rfl⟩⟩:=vals2 r
 refine min_two_ints (I.ok.hd hc) fun h' tk k=>⟨_,H,I.kept k,?_,q⟩
 by_cases hj:j<i
 ·rw[if_pos hj,if_pos hj];exact⟨_,rfl⟩
 ·rw[if_neg hj,if_neg hj];exact⟨_,rfl⟩
theorem call_int1:CallR X (.type "int") (fun xs H Q=>(∃i,xs=[.int i]∧Q (.int i) H)∨∃k,xs=[.bl k]∧Q (.int (if k then 1 else 0)) H):=by
 intro pins s σ H xs us Q I r h
 rcases h with ⟨i,rfl,q⟩|⟨k,rfl,q⟩
 ·obtain⟨u,rfl,t,rfl⟩:=vals1 r
  exact call_int_int ⟨.int i,H,I,⟨_,rfl⟩,q⟩
 ·obtain⟨u,rfl,r1⟩:=vals1 r
  cases r1
  exact call_int_bool ⟨.int (if k then 1 else 0),H,I.tok _,⟨_,rfl⟩,q⟩
theorem call_str_int:CallR X (.type "str") (fun xs H Q=>∃i,xs=[.int i]∧i.natAbs.log2<1920∧Q (.str (toString i)) H):=by
 intro pins s σ H xs us Q I r h
 obtain⟨i,rfl,hz,q⟩:=h
 obtain⟨u,rfl,t,rfl⟩:=vals1 r
 exact PySem.P.str_of_int hz ⟨.str _,H,I.tok _,⟨_,rfl⟩,q⟩
end
structure ObjM (h:Heap)(x dx C:Addr)(mA:Str→Option Value):Prop where
 obj:h.get? x=some (PySem.W.instObj C dx)
 ns:h.Ns1 dx mA
 ne:dx≠x
theorem lookIn_ns {h:Heap}{dx:Addr}{mA:Str→Option Value}(n:h.Ns1 dx mA):∃od,h.get? dx=some od∧∀name,PySem.W.lookIn name od=some (mA name):=by
 obtain⟨o,es,ep,ho,hd,hk,_,hm⟩:=n
 refine⟨o,ho,fun name=>?_⟩
 have e:=hm name
 unfold nsFind findBy at e
 rw[←Array.find?_toList]at e
 unfold PySem.W.lookIn
 rw[hd]
 dsimp only
 split
 ·rename_i y q
  rw[q]at e
  exact congrArg some e
 ·rename_i q
  rw[q]at e
  have a:es.toList.any (·.refKey)=false:=by
   rw[List.any_eq_false]
   intro y hy
   obtain⟨z,t,hkey⟩:=hk y (Array.mem_toList_iff.mp hy)
   simp[DictEntry.refKey,hkey]
  have a':¬es.toList.any (·.refKey)=true:=by rw[a];exact Bool.false_ne_true
  rw[if_neg a']
  exact congrArg some e
theorem ObjM.look {h:Heap}{x dx C:Addr}{mA:Str→Option Value}(I:ObjM h x dx C mA):∃od,PySem.W.InstAt h x (PySem.W.instObj C dx) C (some od)∧∀name,PySem.W.lookIn name od=some (mA name) :=
 let ⟨od,ho,hl⟩:=lookIn_ns I.ns
 ⟨od,⟨I.obj,rfl,rfl,ho⟩,hl⟩
section
variable {prog:Program}{w:World}{A:Around}{E:Value→Shared→Prop}{s:Shared}{K:PySem.W.Frag}{x dx C f:Addr}{mA:Str→Option Value}{name:Str}{v:Value}
theorem get_map {expr:Bool}{Q:Value→Shared→Prop}(X:K.In s.heap)(I:ObjM s.heap x dx C mA)(hg:PySem.W.plainGet K C name=true)(hh:PySem.W.hasDictIn K C=true)
  (ha:PySem.W.findIn K (.ref C) name=some none) (hv:mA name=some v) (hv':PySem.W.handedIn v=true) (h:Q v {s with toks:=s.toks+1}):
  wpAny (model prog w) A (getAttr (.ref x) name expr) Q E s:=by
 obtain⟨od,J,hl⟩:=I.look
 exact PySem.W.get_value X J (PySem.W.plainGet_of hg).1 (PySem.W.findObj_own hh ha rfl (by rw[hl,hv])) hv' h
theorem get_meth {pl:Sem Bool}{Q:Value×List Value→Shared→Prop}(X:K.In s.heap)(I:ObjM s.heap x dx C mA)(hg:PySem.W.plainGet K C name=true)
  (hf:PySem.W.findIn K (.ref C) name=some (some (.ref f))) (ht:PySem.W.isFn K (.ref f)=true) (hv:mA name=none) (h:Q (.ref f,[.ref x]) s):
  wpAny (model prog w) A (getMethod (.ref x) name pl) Q E s:=by
 obtain⟨od,J,hl⟩:=I.look
 exact PySem.W.method_fn X J (PySem.W.plainGet_of hg).1 (PySem.W.plainGet_of hg).2 hf (beq_iff_eq.mp ht) (by show(PySem.W.lookIn name od).map (·.isSome)=some false;rw[hl,hv];rfl) h
theorem set_map {ns:List Str}{Q:Unit→Shared→Prop}(X:K.In s.heap)(I:ObjM s.heap x dx C mA)
  (hs:PySem.W.findIn K (.ref C) "__setattr__"=some (some (.builtin "object.__setattr__"))) (hp:PySem.W.plainOver K C=true) (ht:PySem.W.takerIn K C name=some none) (hh:PySem.W.hasDictIn K C=true)
  (hw:PySem.Within mA ns) (hsz:ns.length≤sizeLine)
  (h:∀h',ObjM h' x dx C (fun y=>if y=name then some v else mA y)→Heap.SameBut dx s.heap h'→Q () {s with heap:=h',toks:=s.toks+2}):
  wpAny (model prog w) A (setAttr (.ref x) name v) Q E s:=by
 obtain⟨od,J,hl⟩:=I.look
 refine PySem.W.set_plain X J hs (PySem.W.osa_open (s:={s with toks:=s.toks+1}) (r:=none) X J hp ht fun b=>?_)
 obtain⟨cd,hc,hd'⟩:=PySem.W.any_some hh
 have hx:s.heap.get? x=some ⟨.ref C,some dx, .plain,#[]⟩:=I.obj
 refine wpAny_bind (wpAny_pure (wpAny_bind (wpAny_bind (wpAny_loadPart hx (wpAny_bind (PySem.W.Looks.here (s:={s with toks:=s.toks+1}) (PySem.W.looks_clsIn X hc) ?_))))))
 rw[hd']
 refine wpAny_pure (a:=some dx) (wpAny_bind (wpAny_pure (wpAny_bind ?_)))
 refine wpAny_nsSet1 (s:={s with toks:=s.toks+1}) I.ns fun h' hn2 hs2=>?_
 obtain⟨oD,esD,epD,hoD,hdD,hcD⟩:=hn2.count (PySem.Within.cons name v hw)
 refine wpAny_bind (wpAny_lookBehind hoD (by rw[hdD];exact pastItsLine_dict (Nat.le_trans hcD (by rw[List.length_cons];omega))) ?_)
 exact wpAny_pure (h _ ⟨(hs2.2 _ (Ne.symm I.ne)).trans I.obj,hn2,I.ne⟩ hs2)
theorem make_map {R:Result→Shared→Prop}{vs:List Value}{kw:List (Str×Value)}(X:K.In s.heap)(hm:PySem.W.makesIn K C=true)
  (hi:PySem.W.findIn K (.ref C) "__init__"=some (some (.ref f))) (hf:PySem.W.typeIn K (.ref f)=some (.type "function"))
  (h:codeAny (model prog w) (A.under (.builtin "type.__call__" ⟨.ref C::vs,kw⟩)) (.call (.ref f) ⟨.ref (s.heap.objs.size+1)::vs,kw⟩) (PySem.W.InitBack (s.heap.objs.size+1) R)
   {s with heap:=(s.heap.push PySem.W.emptyDict).push (PySem.W.instObj C s.heap.objs.size)}):
  codeAny (model prog w) A (.call (.ref C) ⟨vs,kw⟩) R s:=by
 obtain⟨hh,g,d,t,os⟩:=s
 exact PySem.W.make_core (PySem.W.makes_of X hm) (PySem.W.looks_findIn X hi) (fun self=>PySem.W.bind_fn X self hf) (.inl rfl) h
end
def putF (f:Str)(v:V):List (Str×V)→List (Str×V)
 |[]=>[(f,v)]
 |(g,x)::r=>if g=f then(g,v)::r else(g,x)::putF f v r
theorem lookup_putF (f g:Str)(v:V):∀fs:List (Str×V),(putF f v fs).lookup g=if g=f then some v else fs.lookup g
 |[]=>by
  show List.lookup g [(f,v)]=_
  by_cases h:g=f
  ·have hb:(g==f)=true:=beq_iff_eq.mpr h
   simp only[List.lookup,hb,if_pos h]
  ·have hb:(g==f)=false:=beq_eq_false_iff_ne.mpr h
   simp only[List.lookup,hb,if_neg h]
 |(k,x)::r=>by
  have ih:=lookup_putF f g v r
  rw[show putF f v ((k,x)::r)=(if k=f then(k,v)::r else(k,x)::putF f v r) from rfl]
  by_cases hk:k=f
  ·rw[if_pos hk]
   by_cases h:g=k
   ·have hb:(g==k)=true:=beq_iff_eq.mpr h
    simp only[List.lookup,hb,if_pos (h.trans hk)]
   ·have hb:(g==k)=false:=beq_eq_false_iff_ne.mpr h
    simp only[List.lookup,hb,if_neg (fun e:g=f=>h (e.trans hk.symm))]
  ·rw[if_neg hk]
   by_cases h:g=k
   ·have hb:(g==k)=true:=beq_iff_eq.mpr h
    simp only[List.lookup,hb,if_neg (fun e:g=f=>hk (h.symm.trans e))]
   ·have hb:(g==k)=false:=beq_eq_false_iff_ne.mpr h
    simp only[List.lookup,hb]
    exact ih
theorem keys_putF (f:Str)(v:V):∀fs:List (Str×V),f∈(putF f v fs).map (·.1)∧∀g,g∈fs.map (·.1)→g∈(putF f v fs).map (·.1)
 |[]=>⟨by simp[putF],fun g h=>by simp at h⟩
 |(k,x)::r=>by
  obtain⟨i1,i2⟩:=keys_putF f v r
  rw[show putF f v ((k,x)::r)=(if k=f then(k,v)::r else(k,x)::putF f v r) from rfl]
  by_cases hk:k=f
  ·rw[if_pos hk]
   subst hk
   exact⟨by simp,fun g h=>by simpa using h⟩
  ·rw[if_neg hk]
   refine⟨?_,fun g h=>?_⟩
   ·rw[List.map_cons]
    exact List.mem_cons_of_mem _ i1
   ·rw[List.map_cons]at h ⊢
    rcases List.mem_cons.mp h with e|e
    ·exact List.mem_cons.mpr (.inl e)
    ·exact List.mem_cons_of_mem _ (i2 g e)
theorem length_putF (f:Str)(v:V):∀fs:List (Str×V),(putF f v fs).length≤fs.length+1
 |[]=>by simp[putF]
 |(k,x)::r=>by
  have ih:=length_putF f v r
  rw[show putF f v ((k,x)::r)=(if k=f then(k,v)::r else(k,x)::putF f v r) from rfl]
  by_cases hk:k=f
  ·rw[if_pos hk,List.length_cons,List.length_cons];omega
  ·rw[if_neg hk,List.length_cons,List.length_cons];omega
theorem RelO.some_of {v:V}{o:Option Value}(r:RelO (some v) o):∃u,o=some u∧RelV v u:=by
 cases o with
 |none=>exact(show False from r).elim
 |some u=>exact⟨u,rfl,r⟩
theorem RelO.none_of {o:Option Value}(r:RelO none o):o=none:=by
 cases o with
 |none=>rfl
 |some u=>exact(show False from r).elim
theorem handed_of {v:V}{u:Value}(r:RelV v u):PySem.W.handedIn u=true:=by
 cases v with
 |non=>cases(show u=Value.none from r);rfl
 |bl b=>cases(show u=Value.bool b from r);rfl
 |int i=>obtain⟨t,e⟩:=(show ∃t,u=Value.int i t from r);cases e;rfl
 |str x=>obtain⟨t,e⟩:=(show ∃t,u=Value.str x t from r);cases e;rfl
 |byt b=>obtain⟨t,e⟩:=(show ∃t,u=Value.bytes b t from r);cases e;rfl
 |flt b=>obtain⟨t,e⟩:=(show ∃t,u=Value.float b t from r);cases e;rfl
 |ref a=>cases(show u=Value.ref a from r);rfl
 |ty n=>cases(show u=Value.type n from r);rfl
section
variable {P:Program}{w:World}{H H':Hp}{h h':Heap}{a C dx:Addr}{fs fs':List (Str×V)}
theorem ins_get (hok:HOk P w H h)(e:H a=some (.ins C dx fs)):∃mA,ObjM h a dx C mA∧(∀f,RelO (fs.lookup f) (mA f))∧PySem.Within mA (fs.map (·.1))∧fs.length≤1000∧H dx=some (.own a):=by
 obtain⟨d,z,ne,ob,mA,n,r,q⟩:=(show ObjOk P w H h a (.ins C dx fs) from hok a _ e)
 exact⟨mA,⟨ob,n,ne⟩,r,q,z,d⟩
end
structure Cls (K:PySem.W.Frag)(C:Addr):Prop where
 pg:PySem.W.plainGet K C Str.empty=true
 hd:PySem.W.hasDictIn K C=true
 po:PySem.W.plainOver K C=true
 sa:PySem.W.findIn K (.ref C) "__setattr__"=some (some (.builtin "object.__setattr__"))
theorem Cls.get {K:PySem.W.Frag}{C:Addr}(c:Cls K C)(f:Str):PySem.W.plainGet K C f=true:=c.pg
def NoAttr (K:PySem.W.Frag)(C:Addr)(f:Str):Prop:=PySem.W.findIn K (.ref C) f=some none
theorem NoAttr.taker {K:PySem.W.Frag}{C:Addr}{f:Str}(n:NoAttr K C f):PySem.W.takerIn K C f=some none:=by
 unfold PySem.W.takerIn
 rw[show PySem.W.findIn K (.ref C) f=some none from n]
 rfl
structure Meth (K:PySem.W.Frag)(C:Addr)(m:Str)(f:Addr):Prop where
 at_:PySem.W.findIn K (.ref C) m=some (some (.ref f))
 fn:PySem.W.isFn K (.ref f)=true
 kp:PySem.W.keepIn K (.ref f)=true
section
variable {X:Cx}{pins:List (Addr×Obj)}{σ:St}{H:Hp}{s:Shared}{a C dx:Addr}{fs:List (Str×V)}{f:Str}{v:V}{A:Around}{E:Value→Shared→Prop}
theorem getattr_ok {b:Bool}{Q:Value→Shared→Prop}(I:Inv X pins σ H s)(e:H a=some (.ins C dx fs))(c:Cls X.K C)(n:NoAttr X.K C f)(l:fs.lookup f=some v)
  (h:∀u s',Inv X pins σ H s'→RelV v u→Q u s'):wpAny (model X.prog X.w) A (getAttr (.ref a) f b) Q E s:=by
 obtain⟨mA,O,r,_,_,_⟩:=ins_get I.hok e
 obtain⟨u,hu,ru⟩:=RelO.some_of (v:=v) (o:=mA f) (by rw[←l];exact r f)
 exact get_map I.kIn O (c.get f) c.hd n hu (handed_of ru) (h u _ (I.tok _) ru)
theorem getmeth_ok {m:Str}{g:Addr}{pl:Sem Bool}{Q:Value×List Value→Shared→Prop}(I:Inv X pins σ H s)(e:H a=some (.ins C dx fs))(c:Cls X.K C)(k:Meth X.K C m g)(l:fs.lookup m=none)
  (h:Q (.ref g,[.ref a]) s):wpAny (model X.prog X.w) A (getMethod (.ref a) m pl) Q E s:=by
 obtain⟨mA,O,r,_,_,_⟩:=ins_get I.hok e
 have hn:mA m=none:=RelO.none_of (by rw[←l];exact r m)
 exact get_meth I.kIn O (c.get m) k.at_ k.fn hn h
theorem setattr_ok {y:V}{u:Value}{Q:Unit→Shared→Prop}(I:Inv X pins σ H s)(e:H a=some (.ins C dx fs))(c:Cls X.K C)(n:NoAttr X.K C f)(hl:fs.length<1000)(ry:RelV y u)
  (h:∀s',Inv X pins σ (upd H a (.ins C dx (putF f y fs))) s'→Q () s'):wpAny (model X.prog X.w) A (setAttr (.ref a) f u) Q E s:=by
 obtain⟨mA,O,r,wi,_,ho⟩:=ins_get I.hok e
 have hz:(fs.map (·.1)).length≤sizeLine:=by rw[List.length_map,sizeLine_eq];omega
 refine set_map I.kIn O c.sa c.po n.taker c.hd wi hz fun h' O' sb=>h _ ?_
 have hd:∃o,h'.get? dx=some o:=let ⟨o,_,_,e',_⟩:=O'.ns;⟨o,e'⟩
 refine I.write (x:=a) (e:=dx) (by rw[e];exact True.intro) (.inr ho) (fun b q hb z=>(sb.2 b hb).trans z) hd ?_
 refine⟨by rw[upd_ne O.ne];exact ho,?_,O.ne,O'.obj,_,O'.ns,fun g=>?_,fun g hg=>?_⟩
 ·have:=length_putF f y fs;omega
 ·show RelO ((putF f y fs).lookup g) (if g=f then some u else mA g)
  rw[lookup_putF]
  by_cases q:g=f
  ·rw[if_pos q,if_pos q];exact ry
  ·rw[if_neg q,if_neg q];exact r g
 ·by_cases q:g=f
  ·rw[q];exact(keys_putF f y fs).1
  ·refine(keys_putF f y fs).2 g (wi g fun z=>hg ?_)
   show(if g=f then some u else mA g)=none
   rw[if_neg q];exact z
theorem Inv.made (I:Inv X pins σ H s):Inv X pins σ (upd (upd H s.heap.objs.size (.own (s.heap.objs.size+1))) (s.heap.objs.size+1) (.ins C s.heap.objs.size []))
  {s with heap:=(s.heap.push PySem.W.emptyDict).push (PySem.W.instObj C s.heap.objs.size)}:=by
 have e1:(s.heap.push PySem.W.emptyDict).get? s.heap.objs.size=some PySem.W.emptyDict:=Heap.get?_push_size s.heap rfl
 have e2:((s.heap.push PySem.W.emptyDict).push (PySem.W.instObj C s.heap.objs.size)).get? (s.heap.objs.size+1)=some (PySem.W.instObj C s.heap.objs.size):=by
  have:=Heap.get?_push_size (s.heap.push PySem.W.emptyDict) (o:=PySem.W.instObj C s.heap.objs.size) rfl
  rwa [Heap.size_push]at this
 have e3:(s.heap.push PySem.W.emptyDict).Ns s.heap.objs.size (fun _=>none):=⟨PySem.W.emptyDict,#[],_,e1,rfl,(fun e he=>absurd he (by simp)),fun _=>rfl⟩
 have I1:=I.laid (a:=s.heap.objs.size) (o:=.own (s.heap.objs.size+1)) (h':=s.heap.push PySem.W.emptyDict) (t':=s.toks) (fun b u q=>Heap.get?_push_of_some _ q) (Nat.le_refl _) ⟨_,e1⟩
 refine I1.laid (a:=s.heap.objs.size+1) (o:=.ins C s.heap.objs.size []) (t':=s.toks) (fun b u q=>Heap.get?_push_of_some _ q) (Nat.le_of_eq (Heap.size_push _ _)) ?_
 have ne:s.heap.objs.size≠s.heap.objs.size+1:=Nat.ne_of_lt (Nat.lt_succ_self _)
 refine⟨by rw[upd_ne ne,upd_same],Nat.zero_le _,ne,e2,fun _=>none,(Heap.Ns1.of_empty e3).at fun o q=>Heap.get?_push_of_some _ q,fun _=>True.intro,fun y hy=>absurd rfl hy⟩
theorem attr_of {prog:Program}{w:World}{env:Env}{e:Expr}{f:Str}{pos:Pos}{s:Shared}{Q:Value→Shared→Prop}(hb:attributeBase e f env (eval e env)=eval e env)
  (h:wpAny (model prog w) A (eval e env) (fun o s₁=>wpAny (model prog w) A (getAttr o f true) Q E s₁) E s):wpAny (model prog w) A (eval (.Attribute e f pos) env) Q E s :=
 Attribute_any_ h (by rw[arm_eval_Attribute,hb])
end
def tFld (K:PySem.W.Frag)(ta:TE)(f:Str):TE:=fun σ H Q=>ta σ H fun x H1=>∃a C dx fs v,x=.ref a∧H1 a=some (.ins C dx fs)∧Cls K C∧NoAttr K C f∧fs.lookup f=some v∧Q v H1
def sFld (K:PySem.W.Frag)(ta tv:TE)(f:Str):TS:=fun D σ H=>tv σ H fun y H1=>ta σ H1 fun x H2=>∃a C dx fs,x=.ref a∧H2 a=some (.ins C dx fs)∧Cls K C∧NoAttr K C f∧fs.length<1000∧
 D.nx σ (upd H2 a (.ins C dx (putF f y fs)))
section
variable {X:Cx}{o e value:Expr}{f:Str}{pos pos' tpos:Pos}{ta tv:TE}
theorem pe_fld (he:PE X e ta)(hb:attributeBase e f X.env (eval e X.env)=eval e X.env):PE X (.Attribute e f pos) (tFld X.K ta f):=by
 intro pins s σ H Q I h
 refine attr_of hb (thn (he pins s σ H _ I h) fun u s1 ⟨x,H1,I1,rx,a,C,dx,fs,v,ex,ea,c,n,l,q⟩=>?_)
 subst ex
 obtain rfl:u=Value.ref a:=rx
 exact getattr_ok I1 ea c n l fun u' s2 I2 ru=>⟨v,H1,I2,ru,q⟩
theorem ps_fld (ha:PE X o ta)(hv:PE X value tv)(hs:swapsWith value (some (.Attribute o f pos')) pos.line X.env=pure false):PS X (.Assign [.Attribute o f pos'] value pos) (sFld X.K ta tv f):=by
 intro pins s σ H D I h
 refine plainObj_wpAny_Assign_Attribute (thn (hv pins s σ H _ I h) fun u s1 ⟨y,H1,I1,ry,q⟩=>thn (ha pins s1 σ H1 _ I1 q) fun ov s2 ⟨x,H2,I2,rx,a,C,dx,fs,ex,ea,c,n,l,q2⟩=>?_) hs
 subst ex
 obtain rfl:ov=Value.ref a:=rx
 exact setattr_ok I2 ea c n l ry fun s3 I3=>⟨σ,_,I3,q2⟩
end
section
variable {X:Cx}{pins:List (Addr×Obj)}{σ:St}{H:Hp}{s:Shared}{A:Around}{E:Value→Shared→Prop}{Q:Value→Shared→Prop}{c:Value}{b:Bool}
inductive TyOf (K:PySem.W.Frag)(H:Hp):V→Value→Prop where
 |non:TyOf K H .non (.type "NoneType")
 |bl (x:Bool):TyOf K H (.bl x) (.type "bool")
 |int (i:Int):TyOf K H (.int i) (.type "int")
 |str (x:Str):TyOf K H (.str x) (.type "str")
 |flt (x:UInt64):TyOf K H (.flt x) (.type "float")
 |lst {a:Addr} {xs:List V} (e:H a=some (.lst xs)):TyOf K H (.ref a) (.type "list")
 |frz {a:Addr} {o:Obj} {xs:List V} (e:H a=some (.frz o (.lst xs))):TyOf K H (.ref a) (.type "list")
 |tup {a:Addr} {xs:List V} (e:H a=some (.tup xs)):TyOf K H (.ref a) (.type "tuple")
 |dK {a:Addr} {kvs:List (Key×V)} (e:H a=some (.dK kvs)):TyOf K H (.ref a) (.type "dict")
 |dT {a:Addr} {kvs:List (List Key×V)} (e:H a=some (.dT kvs)):TyOf K H (.ref a) (.type "dict")
 |ins {a C dx:Addr} {fs:List (Str×V)} (e:H a=some (.ins C dx fs)) (cl:Cls K C) (ha:PySem.W.findIn K (.ref C) "__class__"=some (some (.builtin "object.__class__")))
   (hn:PySem.W.specialIn K (.builtin "object.__class__") "__get__"=some (some (.builtin "getset_descriptor.__get__"))) (htk:PySem.W.takesIn K (.builtin "object.__class__")=some true)
   (hm:PySem.W.mroIn K C (.type "object")=some true):TyOf K H (.ref a) (.ref C)
theorem isinst_ok {x:V}{u t:Value}(I:Inv X pins σ H s)(rx:RelV x u)(ty:TyOf X.K H x t)(e:PySem.W.kitOne X.K t c=some b)(h:∀tk,Q (.bool b) {s with toks:=tk}):
  wpAny (model X.prog X.w) A (call (.builtin "isinstance") [u,c]) Q E s:=by
 cases ty with
 |non=>cases(show u=Value.none from rx);exact PySem.W.kia_one PySem.W.kitx_none I.kIn True.intro e (fun z=>nomatch z) h
 |bl y=>cases(show u=Value.bool y from rx);exact PySem.W.kia_one PySem.W.kitx_bool I.kIn True.intro e (fun z=>nomatch z) h
 |int i=>obtain⟨t,q⟩:=(show ∃t,u=Value.int i t from rx);cases q;exact PySem.W.kia_one PySem.W.kitx_int I.kIn True.intro e (fun z=>nomatch z) h
 |str y=>obtain⟨t,q⟩:=(show ∃t,u=Value.str y t from rx);cases q;exact PySem.W.kia_one PySem.W.kitx_str I.kIn True.intro e (fun z=>nomatch z) h
 |flt y=>obtain⟨t,q⟩:=(show ∃t,u=Value.float y t from rx);cases q;exact PySem.W.kia_one PySem.W.kitx_float I.kIn True.intro e (fun z=>nomatch z) h
 |@lst a xs ea=>
  cases(show u=Value.ref a from rx)
  obtain⟨_,_,n,_,h1⟩:=(show ObjOk X.prog X.w H s.heap a (.lst xs) from I.hok a _ ea)
  exact PySem.W.kia_one PySem.W.kitx_list I.kIn ⟨_,h1,rfl⟩ e (fun z=>nomatch z) h
 |@frz a ob xs ea=>
  cases(show u=Value.ref a from rx)
  obtain⟨_,_,_,n,_,h1⟩:=(show ObjOk X.prog X.w H s.heap a (.frz ob (.lst xs)) from I.hok a _ ea)
  exact PySem.W.kia_one PySem.W.kitx_list I.kIn ⟨_,h1,rfl⟩ e (fun z=>nomatch z) h
 |@tup a xs ea=>
  cases(show u=Value.ref a from rx)
  obtain⟨_,_,_,p⟩:=(show ObjOk X.prog X.w H s.heap a (.tup xs) from I.hok a _ ea)
  obtain⟨o,h1,h2,_⟩:=p
  exact PySem.W.kia_one PySem.W.kitx_tuple I.kIn ⟨o,h1,h2⟩ e (fun z=>nomatch z) h
 |@dK a kvs ea=>
  cases(show u=Value.ref a from rx)
  obtain⟨_,_,vs,_,p⟩:=(show ObjOk X.prog X.w H s.heap a (.dK kvs) from I.hok a _ ea)
  obtain⟨o,es,ep,h1,h2,_⟩:=p
  exact PySem.W.kia_one PySem.W.kitx_dict I.kIn ⟨o,h1,h2.1⟩ e (fun z=>nomatch z) h
 |@dT a kvs ea=>
  cases(show u=Value.ref a from rx)
  obtain⟨_,_,xs,_,o,es,ep,h1,h2,_⟩:=(show ObjOk X.prog X.w H s.heap a (.dT kvs) from I.hok a _ ea)
  exact PySem.W.kia_one PySem.W.kitx_dict I.kIn ⟨o,h1,h2.1⟩ e (fun z=>nomatch z) h
 |@ins a C dx fs ea cl ha hn htk hm=>
  cases(show u=Value.ref a from rx)
  obtain⟨mA,O,_⟩:=ins_get I.hok ea
  obtain⟨od,J,_⟩:=O.look
  exact PySem.W.kia_one (PySem.W.kitx_own (cl.get _) cl.hd ha hn htk hm) I.kIn J e (fun z=>nomatch z) h
end
structure Room (k:Nat)(A:Around):Prop where
 hd:A.handled=none
 dp:A.depth+3*k+5<recursionLimit
 un:A.units+16*k+200<cLine
theorem Room.mono {j k:Nat}{A:Around}(r:Room k A)(h:j≤k):Room j A:=⟨r.hd,by have:=r.dp;omega,by have:=r.un;omega⟩
theorem Room.deeper {k:Nat}{A:Around}(r:Room (k+1) A)(env:Env):Room k (A.deeper env) :=
 ⟨r.hd,by have:=r.dp;show A.depth+1+3*k+5<_;omega,by have:=r.un;show A.units+3+16*k+200<_;omega⟩
theorem make_depth {A:Around}{C:Addr}{us:List Value}{kw:List (Str×Value)}:(A.under (.builtin "type.__call__" ⟨.ref C::us,kw⟩)).depth=A.depth+1:=by
 first|rfl|simp[Around.under,Code.weight,Code.isCreation,Code.isGuard,Code.isCaller,Code.frames,Code.isFrame,guardIds]
theorem make_units {A:Around}{C:Addr}{us:List Value}{kw:List (Str×Value)}:(A.under (.builtin "type.__call__" ⟨.ref C::us,kw⟩)).units=A.units+1:=by
 first|rfl|simp[Around.under,Code.cUnits,Code.frames,Code.isFrame]
theorem Room.make {k:Nat}{A:Around}(r:Room (k+1) A)(C:Addr)(us:List Value)(kw:List (Str×Value)):Room k (A.under (.builtin "type.__call__" ⟨.ref C::us,kw⟩)) :=
 ⟨r.hd,by have:=r.dp;rw[make_depth];omega,by have:=r.un;rw[make_units];omega⟩
theorem Room.depth {k:Nat}{A:Around}(r:Room k A):A.depth<recursionLimit:=by have:=r.dp;omega
theorem Room.units {k:Nat}{A:Around}(r:Room k A):A.units+64<cLine:=by have:=r.un;omega
theorem Room.units0 {k:Nat}{A:Around}(r:Room k A):A.units<cLine:=by have:=r.un;omega
def tNil:TA:=fun _ H Q=>Q [] H
def tCons (ta:TE)(tr:TA):TA:=fun σ H Q=>ta σ H fun x H1=>tr σ H1 fun xs H2=>Q (x::xs) H2
section
variable {X:Cx}{e:Expr}{es:List Expr}{te:TE}{t:TA}{pos:Pos}
theorem pa_nil:PA X [] tNil:=fun _ _ _ _ H Q I h=>Calls.spliced_nil ⟨[],H,I, .nil,h⟩
theorem pa_cons (ha:PE X e te)(hr:PA X es t)(hs:starEach (e::es) X.env=(false,eval e X.env)::starEach es X.env:=by rfl):PA X (e::es) (tCons te t):=by
 intro pos pins s σ H Q I h
 rw[hs]
 show wpAny _ _ (spliced ((false,eval e X.env)::backTo pos (starEach es X.env))) _ _ s
 refine Calls.spliced_cons (thn (ha pins s σ H _ I h) fun u s1 ⟨x,H1,I1,r1,q1⟩=>?_)
 exact thn (hr pos pins s1 σ H1 _ I1 q1) fun us s2 ⟨xs,H2,I2,r2,q2⟩=>⟨x::xs,H2,I2, .cons r1 r2,q2⟩
def tTup (t:TA):TE:=fun σ H Q=>t σ H fun xs H1=>xs.length≤sizeLine∧∀p,H1 p=none→Q (.ref p) (upd H1 p (.tup xs))
def tLst (t:TA):TE:=fun σ H Q=>t σ H fun xs H1=>xs.length≤sizeLine∧∀p,H1 p=none→Q (.ref p) (upd H1 p (.lst xs))
theorem pe_tup {x1}(h:PA X es t):PE X (.Tuple es x1 pos) (tTup t):=by
 intro pins s σ H Q I hq
 refine wpAny_Tuple_spliced (thn (h pos pins s σ H _ I hq) fun us s1 ⟨xs,H1,I1,r,z,q⟩=>⟨by rw[←r.length];exact z,?_⟩)
 have hf:H1 s1.heap.objs.size=none:=I1.hok.fresh (Nat.le_refl _)
 refine⟨.ref s1.heap.objs.size,upd H1 s1.heap.objs.size (.tup xs),I1.laid (t':=s1.toks) (fun b u e=>Heap.get?_push_of_some _ e) (Nat.le_refl _) ?_,rfl,q _ hf⟩
 exact⟨z,us,r,⟨_,Heap.get?_push_size _ rfl,rfl,_,rfl⟩⟩
theorem pe_lst (h:PA X es t):PE X (.List es pos) (tLst t):=by
 intro pins s σ H Q I hq
 refine wpAny_List_spliced (thn (h pos pins s σ H _ I hq) fun us s1 ⟨xs,H1,I1,r,z,q⟩=>⟨by rw[←r.length];exact z,?_⟩)
 have hf:H1 s1.heap.objs.size=none:=I1.hok.fresh (Nat.le_refl _)
 refine⟨.ref s1.heap.objs.size,upd H1 s1.heap.objs.size (.lst xs),I1.laid (t':=s1.toks) (fun b u e=>Heap.get?_push_of_some _ e) (Nat.le_refl _) ?_,rfl,q _ hf⟩
 exact⟨z,us,0,r,Heap.get?_push_size _ rfl⟩
end
abbrev Sp:=List V→Hp→VK→XK→Prop
abbrev CXT:=List Env→Hp→Shared→XK→Value→Shared→Prop
structure Env0 (P:Program)(w:World)(K:PySem.W.Frag)(mg:Str→Option Value)(base:Heap)(A:Around)(outer:List Env)(s:Shared)(H:Hp):Prop where
 frames:A.frames=some outer
 mod:Mod K mg base
 bs:∀b o,base.get? b=some o→s.heap.get? b=some o∧H b=none
 bsz:base.objs.size≤s.heap.objs.size
 funs:s.heap.FunFrames base outer
 frf:∀b∈frs outer,H b=none
 hok:HOk P w H s.heap
 bare:AllBare s.gens
def CE (outer:List Env)(P:Program)(w:World)(H:Hp)(s:Shared)(Q:VK)(u:Value)(s':Shared):Prop :=
 ∃v H',s'.os=s.os∧AllBare s'.gens∧Un (frs outer) [] H H' s.heap s'.heap∧HOk P w H' s'.heap∧RelV v u∧Q v H'
def CR (CX:CXT)(outer:List Env)(P:Program)(w:World)(H:Hp)(s:Shared)(Q:VK)(E:XK)(r:Result)(s':Shared):Prop :=
 match r with
 |.ok (.ret u)=>CE outer P w H s Q u s'
 |.ok _=>False
 |.error e=>CX outer H s E e s'
structure FnOk (P:Program)(w:World)(K:PySem.W.Frag)(mg:Str→Option Value)(base:Heap)(CX:CXT)(k:Nat)(f:Addr)(fd:FuncData)(ps:List Str)(sp:Sp):Prop where
 len:∀vs H Q E,sp vs H Q E→vs.length=ps.length
 run:∀(A:Around) (outer:List Env) (s:Shared) (H:Hp) (args:Args) (us:List Value) (vs:List V) (Q:VK) (E:XK),Room k A→Env0 P w K mg base A outer s H→BindsTo s fd args (ps.zip us)→Vals vs us→sp vs H Q E→
  codeAny (model P w) A (.call (.ref f) args) (CR CX outer P w H s Q E) s
theorem Env0.make {P:Program}{w:World}{K:PySem.W.Frag}{mg:Str→Option Value}{base:Heap}{A:Around}{outer:List Env}{s:Shared}{H:Hp}(e:Env0 P w K mg base A outer s H)(C:Addr)(us:List Value)(kw:List (Str×Value)):
  Env0 P w K mg base (A.under (.builtin "type.__call__" ⟨.ref C::us,kw⟩)) outer s H:=⟨by first|exact e.frames|(simpa[Around.under,Code.envs,Code.isFrame,pushEnvs] using e.frames),e.mod,e.bs,e.bsz,e.funs,e.frf,e.hok,e.bare⟩
section
variable {X:Cx}{pins:List (Addr×Obj)}{σ:St}{H:Hp}{s s':Shared}
theorem Inv.env0 (I:Inv X pins σ H s):Env0 X.prog X.w X.K X.mg X.base X.A X.stack s H :=
 ⟨I.ok.frames,I.ok.mod,I.bs,Nat.le_trans I.ok.bsz I.sz,I.stack,I.stkFree,I.hok,I.bare⟩
theorem Inv.after {Q:VK}{u:Value}(I:Inv X pins σ H s)(h:CE X.stack X.prog X.w H s Q u s'):EP X pins σ Q u s':=by
 obtain⟨v,H',os,bare,un,hok,r,q⟩:=h
 obtain⟨hh,g,d,t,os'⟩:=s'
 obtain rfl:os'=s.os:=os
 exact⟨v,H',I.call (h':=hh) (g':=g) (d':=d) (t':=t) (ch:=[]) un hok bare (fun b z=>absurd z (by simp)),r,q⟩
end
def tCall (sp:Sp)(dvs:List V)(E:XK)(t:TA):TE:=fun σ H Q=>t σ H fun vs H1=>sp (vs++dvs) H1 Q E
def tMeth (C:Addr)(m:Str)(sp:Sp)(dvs:List V)(E:XK)(ta:TE)(t:TA):TE:=fun σ H Q=>ta σ H fun x H1=>∃a dx fs,x=.ref a∧H1 a=some (.ins C dx fs)∧fs.lookup m=none∧
 t σ H1 fun vs H2=>sp (x::(vs++dvs)) H2 Q E
def tMake (C:Addr)(sp:Sp)(dvs:List V)(E:XK)(t:TA):TE:=fun σ H Q=>t σ H fun vs H1=>∀x dx,H1 x=none→H1 dx=none→dx≠x→
 sp (.ref x::(vs++dvs)) (upd (upd H1 dx (.own x)) x (.ins C dx [])) (fun v H2=>v=.non∧Q (.ref x) H2) E
def Binds (K:PySem.W.Frag)(fd:FuncData)(ps:List Str)(ds:List Value):Prop :=
 ∀(s:Shared) (us:List Value),K.In s.heap→(us++ds).length=ps.length→BindsTo s fd ⟨us,[]⟩ (ps.zip (us++ds))
theorem Binds.all {K:PySem.W.Frag}{fd:FuncData}{ps:List Str}(h:∀us:List Value,us.length=ps.length→bindArgs fd ⟨us,[]⟩=pure (ps.zip us)):Binds K fd ps []:=fun s us _ hl=>by
 rw[List.append_nil]at hl ⊢
 exact .of_eq (h us hl)
def Passes (CX:CXT)(X:Cx)(E:XK):Prop:=∀(pins:List (Addr×Obj)) (σ:St) (H:Hp) (s:Shared) (e:Value) (s':Shared),Inv X pins σ H s→CX X.stack H s E e s'→X.xe e s'
section
variable {X:Cx}{CX:CXT}{k:Nat}{f C:Addr}{fd:FuncData}{ps:List Str}{sp:Sp}{dvs:List V}{ds:List Value}{E:XK}{x m:Str}{p pos apos:Pos}{e o:Expr}{es:List Expr}{ta:TE}{t:TA}
theorem run_fn {pins:List (Addr×Obj)}{σ:St}{H:Hp}{s:Shared}{Q:VK}{us:List Value}{vs:List V}(F:FnOk X.prog X.w X.K X.mg X.base CX k f fd ps sp)(hr:Room k X.A)(hb:Binds X.K fd ps ds)(hd:Vals dvs ds)(hx:Passes CX X E)
  (I:Inv X pins σ H s) (r:Vals vs us) (h:sp (vs++dvs) H Q E):wpAny (model X.prog X.w) X.A (call (.ref f) us) (EP X pins σ Q) X.xe s:=by
 have r2:Vals (vs++dvs) (us++ds):=r.append hd
 have hl:(us++ds).length=ps.length:=by rw[←r2.length];exact F.len _ _ _ _ h
 refine wpAny_call (codeAny_mono (F.run X.A X.stack s H ⟨us,[]⟩ (us++ds) (vs++dvs) Q E hr I.env0 (hb s us I.kIn hl) r2 h) fun r s' hq=>?_)
 cases r with
 |error e=>exact hx pins σ H s e s' I hq
 |ok fl=>
  cases fl with
  |ret u=>exact I.after hq
  |next=>exact False.elim hq
  |brk=>exact False.elim hq
  |cont=>exact False.elim hq
theorem pe_call (F:FnOk X.prog X.w X.K X.mg X.base CX k f fd ps sp)(hr:Room k X.A)(hg:Gl X x)(hm:X.mg x=some (.ref f))(hk:PySem.W.keepIn X.K (.ref f)=true)(hb:Binds X.K fd ps ds)(hd:Vals dvs ds)(hx:Passes CX X E)
  (ha:PA X (e::es) t) (hdb:(x==("__debug__":Str))=false:=by decide) (he:starEach (e::es) X.env=(false,eval e X.env)::starEach es X.env:=by rfl) (hpl:(backTo pos (starEach es X.env)).any (·.1)=false:=by rfl):
  PE X (.Call (.Name x p) (e::es) [] pos) (tCall sp dvs E t):=by
 intro pins s σ H Q I h
 refine wpAny_Call_Name_kw (ld_glob I hg hm ?_ hdb)
 refine PySem.W.callWith_K (h₀:=X.base) I.ok.mod.kin hk (thn (ha pos pins s σ H _ I h) fun us s1 ⟨vs,H1,I1,r,q⟩=>⟨I1.kIn,?_⟩) he hpl
 exact run_fn F hr hb hd hx I1 r q
theorem pe_meth0 {pl:Sem Bool}(he:PE X o ta)(c:Cls X.K C)(hm:Meth X.K C m f)(F:FnOk X.prog X.w X.K X.mg X.base CX k f fd ps sp)(hr:Room k X.A)(hb:Binds X.K fd ps ds)(hd:Vals dvs ds)(hx:Passes CX X E)
  (ht:eval (.Call (.Attribute o m apos) [] [] pos) X.env=(do
   let ov ←eval o X.env
   standAt apos.atName
   let (f,first) ←holding [ov] (getMethod ov m pl)
   callWith pos f first (backTo pos (starEach [] X.env)) (backToKw pos (keywordEach [] X.env))):=by rfl):
  PE X (.Call (.Attribute o m apos) [] [] pos) (tMeth C m sp dvs E ta tNil):=by
 intro pins s σ H Q I h
 refine PySem.W.methodCall_KW (pl:=pl) (thn (he pins s σ H _ I h) fun u s1 ⟨x,H1,I1,rx,a,dx,fs,ex,ea,l,q⟩=>?_) ht
 subst ex
 obtain rfl:u=Value.ref a:=rx
 refine getmeth_ok I1 ea c hm l ?_
 exact PySem.W.callWith_K0 (first:=[.ref a]) I1.kIn hm.kp (run_fn (us:=[.ref a]) (vs:=[.ref a]) F hr hb hd hx I1 (.cons rfl .nil) q)
structure Mk (K:PySem.W.Frag)(C f:Addr):Prop where
 makes:PySem.W.makesIn K C=true
 init:PySem.W.findIn K (.ref C) "__init__"=some (some (.ref f))
 fn:PySem.W.isFn K (.ref f)=true
 kp:PySem.W.keepIn K (.ref C)=true
theorem run_make {pins:List (Addr×Obj)}{σ:St}{H:Hp}{s:Shared}{Q:VK}{us:List Value}{vs:List V}(M:Mk X.K C f)(F:FnOk X.prog X.w X.K X.mg X.base CX k f fd ps sp)(hr:Room (k+1) X.A)(hb:Binds X.K fd ps ds)(hd:Vals dvs ds)
  (hx:Passes CX X E) (I:Inv X pins σ H s) (r:Vals vs us)
  (h:∀x dx,H x=none→H dx=none→dx≠x→sp (.ref x::(vs++dvs)) (upd (upd H dx (.own x)) x (.ins C dx [])) (fun v H2=>v=.non∧Q (.ref x) H2) E):
  wpAny (model X.prog X.w) X.A (call (.ref C) us) (EP X pins σ Q) X.xe s:=by
 have hq:=h (s.heap.objs.size+1) s.heap.objs.size (I.hok.fresh (Nat.le_succ _)) (I.hok.fresh (Nat.le_refl _)) (Nat.ne_of_lt (Nat.lt_succ_self _))
 have I2:=Inv.made (C:=C) I
 have r2:Vals (V.ref (s.heap.objs.size+1)::(vs++dvs)) (Value.ref (s.heap.objs.size+1)::(us++ds)):=.cons rfl (r.append hd)
 have hl:(Value.ref (s.heap.objs.size+1)::us++ds).length=ps.length:=by
  have e:=r2.length
  rw[F.len _ _ _ _ hq]at e
  exact e.symm
 refine wpAny_call (make_map (f:=f) I.kIn M.makes M.init (beq_iff_eq.mp M.fn) (codeAny_mono (F.run _ X.stack _ _ ⟨Value.ref (s.heap.objs.size+1)::us,[]⟩ (Value.ref (s.heap.objs.size+1)::(us++ds)) _ _ E (hr.make C us [])
  (I2.env0.make C us []) (hb _ (Value.ref (s.heap.objs.size+1)::us) I2.kIn hl) r2 hq) fun r s' hq'=>?_))
 cases r with
 |error e=>exact hx pins σ _ _ e s' I2 hq'
 |ok fl=>
  cases fl with
  |ret u=>
   obtain⟨v,H',I3,rv,ev,q3⟩:=I2.after hq'
   subst ev
   exact⟨rv,⟨V.ref (s.heap.objs.size+1),H',I3,rfl,q3⟩⟩
  |next=>exact False.elim hq'
  |brk=>exact False.elim hq'
  |cont=>exact False.elim hq'
theorem pe_make (M:Mk X.K C f)(F:FnOk X.prog X.w X.K X.mg X.base CX k f fd ps sp)(hr:Room (k+1) X.A)(hg:Gl X x)(hm:X.mg x=some (.ref C))(hb:Binds X.K fd ps ds)(hd:Vals dvs ds)(hx:Passes CX X E)
  (ha:PA X (e::es) t) (hdb:(x==("__debug__":Str))=false:=by decide) (he:starEach (e::es) X.env=(false,eval e X.env)::starEach es X.env:=by rfl) (hpl:(backTo pos (starEach es X.env)).any (·.1)=false:=by rfl):
  PE X (.Call (.Name x p) (e::es) [] pos) (tMake C sp dvs E t):=by
 intro pins s σ H Q I h
 refine wpAny_Call_Name_kw (ld_glob I hg hm ?_ hdb)
 refine PySem.W.callWith_K (h₀:=X.base) I.ok.mod.kin M.kp (thn (ha pos pins s σ H _ I h) fun us s1 ⟨vs,H1,I1,r,q⟩=>⟨I1.kIn,?_⟩) he hpl
 exact run_make M F hr hb hd hx I1 r q
end
section
variable {X:Cx}{CX:CXT}{k:Nat}{f C:Addr}{fd:FuncData}{ps ks:List Str}{sp:Sp}{E:XK}{x m:Str}{p pos apos kpos:Pos}{e o:Expr}{es:List Expr}{kws:List Keyword}{te ta:TE}{t tk:TA}{nm:Option Str}
variable {g:List Value→List Value→List Value}{gV:List V→List V→List V}
end
structure FnScope (N P:List Str)(sc:Scope):Prop where
 kind:sc.kind=.function
 co:sc.isCoroutine=false
 gen:sc.isGenerator=false
 nd:N.Nodup
 pre:N.take P.length=P
 par:∀x∈P,sc.names.lookup x=some .local∨sc.names.lookup x=some .cell
 nofree:∀y∈sc.names,y.2≠.free
theorem bindL_out {kindOf:Str→Option NameKind}{x:Str}:∀{binds:List (Str×Value)} {m:Str→Option Value},(∀v,(x,v)∉binds)→bindL kindOf binds m x=m x
 |[],_,_=>rfl
 |(n,v)::r,m,h=>by
  unfold bindL
  rw[bindL_out fun w hw=>h w (List.mem_cons_of_mem _ hw)]
  split
  ·have:x≠n:=by rintro rfl;exact h v List.mem_cons_self
   simp[this]
  ·rfl
theorem bindC_out {kindOf:Str→Option NameKind}{x:Str}:∀{binds:List (Str×Value)} {m:Str→Option Value},(∀v,(x,v)∉binds)→bindC kindOf binds m x=m x
 |[],_,_=>rfl
 |(n,v)::r,m,h=>by
  unfold bindC
  rw[bindC_out fun w hw=>h w (List.mem_cons_of_mem _ hw)]
  split
  ·rfl
  ·have:x≠n:=by rintro rfl;exact h v List.mem_cons_self
   simp[this]
theorem bindL_get {kindOf:Str→Option NameKind}{x:Str}{v:Value}:∀{P:List Str} {vs:List Value} {i:Nat} {m:Str→Option Value},P.Nodup→P[i]?=some x→vs[i]?=some v→kindOf x=some .local→
  bindL kindOf (P.zip vs) m x=some v
 |[],_,_,_,_,h,_,_=>by simp at h
 |_::_,[],_,_,_,_,h,_=>by simp at h
 |p::P,w::vs,0,m,nd,h1,h2,hk=>by
  simp at h1 h2;subst h1;subst h2
  show bindL kindOf ((p,w)::P.zip vs) m p=_
  unfold bindL
  rw[bindL_out fun v hv=>(List.nodup_cons.mp nd).1 (List.of_mem_zip hv).1,if_pos hk]
  simp
 |p::P,w::vs,i+1,m,nd,h1,h2,hk=>by
  show bindL kindOf ((p,w)::P.zip vs) m x=_
  unfold bindL
  exact bindL_get (i:=i) (List.nodup_cons.mp nd).2 (by simpa using h1) (by simpa using h2) hk
theorem bindC_get {kindOf:Str→Option NameKind}{x:Str}{v:Value}:∀{P:List Str} {vs:List Value} {i:Nat} {m:Str→Option Value},P.Nodup→P[i]?=some x→vs[i]?=some v→kindOf x≠some .local→
  bindC kindOf (P.zip vs) m x=some v
 |[],_,_,_,_,h,_,_=>by simp at h
 |_::_,[],_,_,_,_,h,_=>by simp at h
 |p::P,w::vs,0,m,nd,h1,h2,hk=>by
  simp at h1 h2;subst h1;subst h2
  show bindC kindOf ((p,w)::P.zip vs) m p=_
  unfold bindC
  rw[bindC_out fun v hv=>(List.nodup_cons.mp nd).1 (List.of_mem_zip hv).1,if_neg hk]
  simp
 |p::P,w::vs,i+1,m,nd,h1,h2,hk=>by
  show bindC kindOf ((p,w)::P.zip vs) m x=_
  unfold bindC
  exact bindC_get (i:=i) (List.nodup_cons.mp nd).2 (by simpa using h1) (by simpa using h2) hk
def start (N:List Str)(vs:List V):St:=vs.map some++List.replicate (N.length-vs.length) none
def cxOf (CX:CXT)(P:Program)(w:World)(K:PySem.W.Frag)(mg:Str→Option Value)(base:Heap)(N:List Str)(qual:Str)(scope:Scope)(f:Addr)(cd:Value)(A:Around)(outer:List Env)(s:Shared)(H:Hp)(E:XK):Cx where
 prog:=P
 w:=w
 K:=K
 mg:=mg
 base:=base
 A:=A.deeper (envOfC qual scope s.heap.objs.size f cd)
 N:=N
 s₀:=s
 H₀:=H
 env:=envOfC qual scope s.heap.objs.size f cd
 outer:=outer
 stack:=envOfC qual scope s.heap.objs.size f cd::outer
 ex:=[]
 calm:=true
 fn:=fun _=>true
 pn:=[]
 xe:=fun e s'=>wpAny (model P w) (A.deeper (envOfC qual scope s.heap.objs.size f cd)) (leaving (envOfC qual scope s.heap.objs.size f cd) e) (fun _ s''=>CX outer H s E e s'') (fun e' s''=>CX outer H s E e' s'') s'
theorem cell_has {sc:Scope}{n:Nat}{x:Str}(h:sc.names.lookup x=some .cell):∃c,(cellsFrom n sc.names []).lookup x=some c:=by
 have q:=PySem.W.cellsFrom_some sc.names n [] (.inl h)
 exact Option.isSome_iff_exists.mp q
theorem inv_start {CX:CXT}{P:Program}{w:World}{K:PySem.W.Frag}{mg:Str→Option Value}{base:Heap}{N ps:List Str}{qual:Str}{scope:Scope}{f:Addr}{cd:Value}{A:Around}{outer:List Env}{s s1:Shared}{H:Hp}{E:XK}{us:List Value}{vs:List V}
  (S:FnScope N ps scope) (hd:A.handled=none) (e0:Env0 P w K mg base A outer s H) (hl:vs.length=ps.length) (r:Vals vs us)
  (x:InCallC s s.heap.objs.size (bindL (envOfC qual scope s.heap.objs.size f cd).kindOf (ps.zip us) fun _=>none) (cellsFrom (s.heap.objs.size+1) scope.names []) (bindC (envOfC qual scope s.heap.objs.size f cd).kindOf (ps.zip us) fun _=>none) s1):
  Inv (cxOf CX P w K mg base N qual scope f cd A outer s H E) [] (start N vs) H s1:=by
 have hpl:ps.length≤N.length:=by have:=congrArg List.length S.pre;rw[List.length_take]at this;omega
 obtain⟨h1,tk,rfl,hk⟩:=x.done
 have noA:∀b:Addr,b∉(cxOf CX P w K mg base N qual scope f cd A outer s H E).ex:=fun b z=>absurd (show b∈([]:List Addr) from z) (by simp)
 refine⟨⟨e0.mod,S.kind,rfl,rfl,Nat.le_refl _,fun y z c h1 h2=>?_,fun y hy=>?_,fun y c _ h=>?_,fun _=>hd,Around.frames_deeper e0.frames, .inr ⟨rfl,rfl⟩,fun b z=>absurd z (noA b),e0.bs,e0.bsz,fun b _ _=>noA b,fun b z=>absurd z (noA b),e0.funs,e0.frf⟩,
  rfl,e0.bare,Un.kept hk,⟨_,x.toInCall.ns,fun i y v h1 h2 h3=>?_⟩,fun y c h=>⟨_,x.cell y c h⟩,e0.hok.fresh (Nat.le_refl _),fun y c h=>?_,fun p hp=>absurd (show p∈([]:List (Addr×Obj)) from hp) (by simp),e0.hok.kept hk,?_⟩
 ·exact name_of_addr x.apart (PySem.mem_of_lookup h1) (PySem.mem_of_lookup h2)
 ·have hy:scope.names.lookup y=some .cell∨scope.names.lookup y=some .free:=hy
  rcases hy with hy|hy
  ·exact cell_has hy
  ·exact absurd rfl (S.nofree _ (PySem.mem_of_lookup hy))
 ·exact Nat.le_of_lt (x.above y c (PySem.mem_of_lookup h))
 ·have hi:i<vs.length:=by
   unfold start at h2
   by_cases hi:i<vs.length
   ·exact hi
   ·rw[List.getElem?_append_right (by simpa using hi)]at h2
    rw[List.getElem?_replicate]at h2
    split at h2<;>cases h2
  have ha:vs[i]?=some v:=by
   unfold start at h2
   rw[List.getElem?_append_left (by simpa using hi),List.getElem?_map]at h2
   cases e:vs[i]? with
   |none=>rw[e]at h2;cases h2
   |some a=>rw[e]at h2;cases h2;rfl
  obtain⟨u,hu,rv⟩:=r.get ha
  have hp:ps[i]?=some y:=by
   rw[←S.pre,List.getElem?_take_of_lt (by omega)];exact h1
  have ndP:ps.Nodup:=by rw[←S.pre];exact S.nd.sublist (List.take_sublist _ _)
  refine⟨u,rv,?_⟩
  rcases S.par y (List.mem_of_getElem? hp) with k|k
  ·exact .inl ⟨k,bindL_get ndP hp hu k⟩
  ·obtain⟨c,e⟩:=cell_has (n:=s.heap.objs.size+1) k
   refine .inr ⟨.inl k,c,e,?_⟩
   have q:=x.cell y c e
   rw[bindC_get ndP hp hu (by show scope.names.lookup y≠_;rw[k];decide)]at q
   exact q
 ·exact e0.hok.fresh (Nat.le_of_lt (x.above y c (PySem.mem_of_lookup h)))
 ·unfold start
  show _=N.length
  rw[List.length_append,List.length_map,List.length_replicate]
  omega
theorem fn_of {CX:CXT}{P:Program}{w:World}{K:PySem.W.Frag}{mg:Str→Option Value}{base:Heap}{k:Nat}{f:Addr}{name qual:Str}{params:Arguments}{body:List Stmt}{scope:Scope}{dV kV doc pm cdv ct oc:Value}{an od:Option Addr}
  {osl:Array (Option Value)} {N ps:List Str} {sp:Sp} (lk:K.lookup f=some ⟨oc,od, .func (PySem.W.fnOf name qual params body scope dV kV doc pm an cdv ct),osl⟩) (hcd:PySem.W.codeIn K cdv qual=true) (S:FnScope N ps scope)
  (len:∀vs H Q E,sp vs H Q E→vs.length=ps.length)
  (hbody:∀(A:Around) (outer:List Env) (s:Shared) (H:Hp) (vs:List V) (Q:VK) (E:XK),Room k (A.deeper (envOfC qual scope s.heap.objs.size f cdv))→sp vs H Q E→
   ∃t,PSs (cxOf CX P w K mg base N qual scope f cdv A outer s H E) body t∧t {nx:=fun _ H'=>Q .non H',rt:=Q} (start N vs) H):
  FnOk P w K mg base CX (k+1) f (PySem.W.fnOf name qual params body scope dV kV doc pm an cdv ct) ps sp:=by
 refine⟨len,fun A outer s H args us vs Q E hr e0 hb r hsp=>?_⟩
 have hl:=len _ _ _ _ hsp
 have KX:K.In s.heap:=e0.mod.kin.keeps fun b o e=>(e0.bs b o e).1
 have lim:s.heap.NoLimit:=e0.mod.nolimit.keeps fun b o e=>(e0.bs b o e).1
 have hkind:∀y∈ps.zip us,scope.names.lookup y.1=some .local∨(scope.names.lookup y.1=some .cell∧((cellsFrom (s.heap.objs.size+1) scope.names []).lookup y.1).isSome=true):=fun⟨n,v⟩ hy=>by
  rcases S.par n (List.of_mem_zip hy).1 with q|q
  ·exact .inl q
  ·exact .inr ⟨q,PySem.W.cellsFrom_some _ _ _ (.inl q)⟩
 refine codeAny_call_function hr.depth (KX _ _ lk) rfl S.co S.gen rfl (PySem.W.codeRec_of KX hcd) (hb _ _ _ _ ?_)
 refine wpAny_newFunctionEnv_cells S.kind hkind fun env he s1 x=>?_
 subst he
 refine⟨lim.keeps x.toInCall.keep,codeAny_func ?_⟩
 obtain⟨t,ht,hq⟩:=hbody A outer s H vs Q E (hr.deeper _) hsp
 have I:Inv (cxOf CX P w K mg base N qual scope f cdv A outer s H E) [] (start N vs) H s1:=inv_start S hr.hd e0 hl r x
 refine wpAny_mono (ht [] s1 (start N vs) H _ I hq) (fun fl s' hs=>?_) fun e s' hs=>hs
 have fin:∀{σ':St} {H':Hp} {v:V} {u:Value},Inv (cxOf CX P w K mg base N qual scope f cdv A outer s H E) [] σ' H' s'→RelV v u→Q v H'→CE outer P w H s Q u s' :=
  fun{σ' H' v u} J rv q=>⟨v,H',J.os,J.bare,J.base,J.hok,rv,q⟩
 cases fl with
 |ret u=>
  obtain⟨v,σ',H',J,rv,q⟩:=hs
  exact fin J rv q
 |next=>
  obtain⟨σ',H',J,q⟩:=hs
  exact fin (v:=V.non) (u:=Value.none) J rfl q
 |brk=>
  obtain⟨_,_,_,q⟩:=hs
  exact False.elim q
 |cont=>
  obtain⟨_,_,_,q⟩:=hs
  exact False.elim q
section
variable {X:Cx}{x:Str}{p pos:Pos}{e:Expr}{es:List Expr}{t:TA}{id T:String}{r:List V→Hp→VK→Prop}
def tCB (r:List V→Hp→VK→Prop)(t:TA):TE:=fun σ H Q=>t σ H fun vs H1=>r vs H1 Q
theorem pe_callB (hc:CallR X (.builtin id) r)(hg:Gl X x)(hm:X.mg x=none)(hv:bootBuiltins x=some (.builtin id))(ha:PA X (e::es) t)(hn:x≠"__name__":=by decide)(hdb:(x==("__debug__":Str))=false:=by decide)
  (he:starEach (e::es) X.env=(false,eval e X.env)::starEach es X.env:=by rfl) (hpl:(backTo pos (starEach es X.env)).any (·.1)=false:=by rfl):PE X (.Call (.Name x p) (e::es) [] pos) (tCB r t):=by
 intro pins s σ H Q I h
 refine wpAny_Call_Name_kw (ld_blt I hg hm hv ?_ hn hdb)
 exact PyProof.Rows.callWith_builtin1 (thn (ha pos pins s σ H _ I h) fun us s1 ⟨vs,H1,I1,r1,q1⟩=>hc pins s1 σ H1 vs us Q I1 r1 q1) he hpl
theorem pe_callTy (hc:CallR X (.type T) r)(hg:Gl X x)(hm:X.mg x=none)(hv:bootBuiltins x=some (.type T))(ha:PA X (e::es) t)(hn:x≠"__name__":=by decide)(hdb:(x==("__debug__":Str))=false:=by decide)
  (he:starEach (e::es) X.env=(false,eval e X.env)::starEach es X.env:=by rfl) (hpl:(backTo pos (starEach es X.env)).any (·.1)=false:=by rfl):PE X (.Call (.Name x p) (e::es) [] pos) (tCB r t):=by
 intro pins s σ H Q I h
 refine wpAny_Call_Name_kw (ld_blt I hg hm hv ?_ hn hdb)
 exact PyProof.Rows.callWith_type1 (thn (ha pos pins s σ H _ I h) fun us s1 ⟨vs,H1,I1,r1,q1⟩=>hc pins s1 σ H1 vs us Q I1 r1 q1) he hpl
end
end L2
namespace HT
open PySem PyProof.Rows
section
open PySem.SeqAt
open PySem.AutoSeq1 (wpAny_loadPart')
open PySem.MeetsSeq PySem.MeetsSeq2 PySem.MeetsSeq3
end
section
variable {prog:Program}{w:World}{A:Around}{E:Value→Shared→Prop}{s:Shared}
end
end HT
namespace L2
open PySem PySem.Spec PyProof.Rows
abbrev TO:=St→Hp→(Option Int→Hp→Prop)→Prop
section
variable {X:Cx}{e:Expr}{te:TE}{lo hi:Option Expr}{tl th:TO}{pos p2:Pos}
end
def ixN (n:Nat)(i:Int):Option Nat:=if 0≤i then(if i<n then some i.toNat else none) else if -(n:Int)≤i then some (i+n).toNat else none
def atI {α:Type}(xs:List α)(i:Int):Option α:=(ixN xs.length i).bind fun j=>xs[j]?
theorem ixN_seq {n:Nat}{i:Int}{j:Nat}(h:ixN n i=some j):seqIndex? i n=some j∧j<n∧-(n:Int)≤i∧i<n:=by
 unfold ixN at h
 by_cases h0:0≤i
 ·rw[if_pos h0]at h
  by_cases h1:i<n
  ·rw[if_pos h1]at h
   have e:i.toNat=j:=Option.some.inj h
   exact⟨by rw[seqIndex_of h0 h1,e],by omega,by omega,h1⟩
  ·rw[if_neg h1]at h;cases h
 ·rw[if_neg h0]at h
  by_cases h1: -(n:Int)≤i
  ·rw[if_pos h1]at h
   have e:(i+n).toNat=j:=Option.some.inj h
   exact⟨by rw[seqIndex_neg (by omega) h1,e],by omega,h1,by omega⟩
  ·rw[if_neg h1]at h;cases h
theorem atI_get {α:Type}{xs:List α}{i:Int}{v:α}(h:atI xs i=some v):∃j,seqIndex? i xs.length=some j∧xs[j]?=some v∧j<xs.length∧-(xs.length:Int)≤i∧i<xs.length:=by
 unfold atI at h
 cases e:ixN xs.length i with
 |none=>rw[e]at h;cases h
 |some j=>
  rw[e]at h
  obtain⟨h1,h2,h3,h4⟩:=ixN_seq e
  exact⟨j,h1,h,h2,h3,h4⟩
theorem atI_nat {α:Type}{xs:List α}{j:Nat}{v:α}(h:xs[j]?=some v):atI xs (j:Int)=some v:=by
 have hj:j<xs.length:=(List.getElem?_eq_some_iff.mp h).1
 have e:ixN xs.length (j:Int)=some j:=by
  unfold ixN
  rw[if_pos (by omega),if_pos (by omega)];simp
 unfold atI;rw[e];exact h
def PlainIx (b:Expr):Prop:=∀o i,subscripted b false o i=operate [o,i] (getItem o i)
def IxR (X:Cx)(r:R2):Prop :=
 ∀(value slice:Expr) (pins:List (Addr×Obj)) (s:Shared) (σ:St) (H:Hp) (x y:V) (v u:Value) (Q:VK),Inv X pins σ H s→RelV x v→RelV y u→r x y H Q→
  subscripted slice false v u=operate [v,u] (getItem v u)→wpAny (model X.prog X.w) X.A (subscriptTail value slice v u) (EP X pins σ Q) X.xe s
def MtR (X:Cx)(id:String)(r:V→List V→Hp→VK→Prop):Prop :=
 ∀(pins:List (Addr×Obj)) (s:Shared) (σ:St) (H:Hp) (x:V) (xs:List V) (v:Value) (us:List Value) (Q:VK),Inv X pins σ H s→RelV x v→Vals xs us→r x xs H Q→
  wpAny (model X.prog X.w) X.A (call (.builtin id) (v::us)) (EP X pins σ Q) X.xe s
section
variable {X:Cx}{a b:Expr}{ta tb:TE}{pos:Pos}
theorem pe_ix {r:R2}(hr:IxR X r)(ha:PE X a ta)(hb:PE X b tb)(hs:PlainIx b):PE X (.Subscript a b pos) (tOp r ta tb):=by
 intro pins s σ H Q I h
 exact Subscript_ (binT ha hb I h fun v u s2 x y H2 I2 rx ry q=>hr a b pins s2 σ H2 x y v u Q I2 rx ry q (hs _ _))
def rIxL (K:PySem.W.Frag):R2:=fun x y H Q=>∃p xs i v,x=.ref p∧y=.int i∧SqL K H p xs∧atI xs i=some v∧Q v H
def rIxT (K:PySem.W.Frag):R2:=fun x y H Q=>∃p xs i v,x=.ref p∧y=.int i∧SqT K H p xs∧atI xs i=some v∧Q v H
theorem ix_list:IxR X (rIxL X.K):=by
 intro value slice pins s σ H x y v u Q I rx ry h hs
 obtain⟨p,xs,i,z,rfl,rfl,hq,he,q⟩:=h
 cases rx
 obtain⟨t,rfl⟩:=ry
 obtain⟨its,r,pl,hz⟩:=I.list hq
 obtain⟨j,h1,h2,h3,h4,h5⟩:=atI_get he
 obtain⟨w,ew,rw'⟩:=r.get h2
 have hl:=r.length
 have hn:=line63
 have fin:EP X pins σ Q w s:=⟨z,H,I,rw',q⟩
 by_cases h0:0≤i
 ·have hj:i.toNat=j:=by
   rw[seqIndex_of h0 h5]at h1
   exact Option.some.inj h1
  exact item_listR pl.isList h0 (by omega) (by rw[hj];simpa using ew) fin hs
 ·have hj:(i+(its.toArray.size:Int)).toNat=j:=by
   rw[seqIndex_neg (by omega) h4]at h1
   rw[List.size_toArray,←hl]
   exact Option.some.inj h1
  exact subscriptTail_builtinR (x:=w) pl.isList.typeIs slot_list_getitem.lookup
   (wpAny_getItem_list_neg (Q:=fun r s'=>r=w∧EP X pins σ Q r s') pl.isList (by omega) (by rw[List.size_toArray]<;>omega) (by omega) (by rw[hj];simpa using ew) ⟨rfl,fin⟩) hs
theorem ix_tup:IxR X (rIxT X.K):=by
 intro value slice pins s σ H x y v u Q I rx ry h hs
 obtain⟨p,xs,i,z,rfl,rfl,hq,he,q⟩:=h
 cases rx
 obtain⟨t,rfl⟩:=ry
 obtain⟨its,r,pl,hz⟩:=I.tuple hq
 obtain⟨j,h1,h2,h3,h4,h5⟩:=atI_get he
 obtain⟨w,ew,rw'⟩:=r.get h2
 have hl:=r.length
 have hn:=line63
 have fin:EP X pins σ Q w s:=⟨z,H,I,rw',q⟩
 exact subscriptTail_builtinR (x:=w) pl.typeIs slot_tuple_getitem.lookup
  (getItem_tuple (j:=j) (Q:=fun r s'=>r=w∧EP X pins σ Q r s') pl (by omega) (by omega) (by rw[List.size_toArray,←hl];exact h1) (by simpa using ew) ⟨rfl,fin⟩) hs
theorem mapSeq_set (its:List Value)(n j:Nat)(u:Value):Obj.mapSeq (·.setIfInBounds j u) {cls:=.type "list",data:=.seq its.toArray n}={cls:=.type "list",data:=.seq (its.set j u).toArray n}:=by
 simp[Obj.mapSeq]
theorem Inv.lst {pins:List (Addr×Obj)}{σ:St}{H:Hp}{s:Shared}{p:Addr}{xs:List V}(I:Inv X pins σ H s)(h:H p=some (.lst xs)):
  ∃(its:List Value) (n:Nat),Vals xs its∧s.heap.get? p=some {cls:=.type "list",data:=.seq its.toArray n}∧xs.length≤sizeLine:=by
 obtain⟨z,its,n,r,e⟩:=I.hok p _ h
 exact⟨its,n,r,e,z⟩
theorem Inv.lstUpd {pins:List (Addr×Obj)}{σ:St}{H:Hp}{s:Shared}{p:Addr}{xs ys:List V}{its its':List Value}{n n':Nat}{f:Obj→Obj}(I:Inv X pins σ H s)(h:H p=some (.lst xs))
  (ho:s.heap.get? p=some {cls:=.type "list",data:=.seq its.toArray n}) (hf:f {cls:=.type "list",data:=.seq its.toArray n}={cls:=.type "list",data:=.seq its'.toArray n'}) (r:Vals ys its') (hz:ys.length≤sizeLine) (t:Nat):
  Inv X pins σ (upd H p (.lst ys)) {s with heap:=s.heap.update p f,toks:=t}:=by
 have e:(s.heap.update p f).get? p=some {cls:=.type "list",data:=.seq its'.toArray n'}:=by
  rw[Heap.get?_update_self f ho (by rw[hf]<;>rfl),hf]
 refine I.write (x:=p) (e:=p) (by rw[h];trivial) (.inl rfl) (fun b u hb q=>(Heap.get?_update_other _ _ (Ne.symm hb)).trans q) ⟨_,e⟩ ?_
 exact⟨hz,its',n',r,e⟩
def rSetL:V→V→V→Hp→(Hp→Prop)→Prop:=fun o i v H Q=>∃p xs k j,o=.ref p∧i=.int k∧H p=some (.lst xs)∧ixN xs.length k=some j∧Q (upd H p (.lst (xs.set j v)))
theorem set_list:PSet X rSetL:=by
 intro pins s σ H o i v ov iv u Q I ro ri rv h
 obtain⟨p,xs,k,j,rfl,rfl,hp,hj,q⟩:=h
 cases ro
 obtain⟨t,rfl⟩:=ri
 obtain⟨its,n,r,ho,hz⟩:=I.lst hp
 obtain⟨h1,h2,h3,h4⟩:=ixN_seq hj
 have hl:=r.length
 have hn:=line63
 have I':Inv X pins σ (upd H p (.lst (xs.set j v))) {s with heap:=s.heap.update p (Obj.mapSeq (·.setIfInBounds j u))} :=
  I.lstUpd hp ho (mapSeq_set its n j u) (r.set rv j) (by rw[List.length_set];exact hz) s.toks
 by_cases h0:0≤k
 ·have hk:k.toNat=j:=by
   rw[seqIndex_of h0 h4]at h1
   exact Option.some.inj h1
  exact PySem.W.ki_setAt ho h0 (by omega) (by rw[List.size_toArray,←hl];exact h4) (by rw[hk];exact⟨_,I',q⟩)
 ·have hk:(k+(its.toArray.size:Int)).toNat=j:=by
   rw[seqIndex_neg (by omega) h3]at h1
   rw[List.size_toArray,←hl]
   exact Option.some.inj h1
  exact PySem.W.ki_setBack ho (by omega) (by rw[List.size_toArray,←hl];exact h3) (by omega) (by rw[hk];exact⟨_,I',q⟩)
theorem call_len_seq:CallR X (.builtin "len") (fun xs H Q=>∃p ys,xs=[.ref p]∧(SqL X.K H p ys∨SqT X.K H p ys)∧Q (.int ys.length) H):=by
 intro pins s σ H xs us Q I r h
 obtain⟨p,ys,rfl,hq,q⟩:=h
 obtain⟨u,rfl,rx⟩:=vals1 r
 cases rx
 have hn:=line63
 rcases hq with hq|hq
 ·obtain⟨its,r',pl,hz⟩:=I.list hq
  have hlen:=r'.length
  exact Calls.call_len_list pl.isList (by simp only[List.size_toArray]<;>omega) ⟨.int ys.length,H,I.tok _,⟨s.toks+1,by rw[List.size_toArray,hlen]⟩,q⟩
 ·obtain⟨its,r',pl,hz⟩:=I.tuple hq
  have hlen:=r'.length
  exact len_tuple pl (by simp only[List.size_toArray]<;>omega) ⟨.int ys.length,H,I.tok _,⟨s.toks+1,by rw[List.size_toArray,hlen]⟩,q⟩
theorem call_len_str:CallR X (.builtin "len") (fun xs H Q=>∃z,xs=[.str z]∧z.length≤sizeLine∧Q (.int z.length) H):=by
 intro pins s σ H xs us Q I r h
 obtain⟨z,rfl,hz,q⟩:=h
 obtain⟨u,rfl,t,rfl⟩:=vals1 r
 have hn:=line63
 exact len_str (by omega) ⟨.int z.length,H,I.tok _,⟨_,rfl⟩,q⟩
theorem call_list_of:CallR X (.type "list") (fun xs H Q=>∃p ys,xs=[.ref p]∧(SqL X.K H p ys∨SqT X.K H p ys)∧∀l,H l=none→Q (.ref l) (upd H l (.lst ys))):=by
 intro pins s σ H xs us Q I r h
 obtain⟨p,ys,rfl,hq,q⟩:=h
 obtain⟨u,rfl,rx⟩:=vals1 r
 cases rx
 have fin:∀(its:List Value),Vals ys its→ys.length≤sizeLine→∀(h':Heap) (c':Nat),(∀b o',s.heap.get? b=some o'→h'.get? b=some o')→
   h'.get? s.heap.objs.size=some {cls:=.type "list",dict:=none,data:=.seq its.toArray c',slots:=#[]}→EP X pins σ Q (.ref s.heap.objs.size) {s with heap:=h'}:=fun its r' hz h' c' kp e=>
  ⟨.ref s.heap.objs.size,_,I.laid (t':=s.toks) kp (Nat.le_refl _) (show ObjOk X.prog X.w _ h' _ (.lst ys) from⟨hz,its,c',r',e⟩),rfl,q _ (I.hok.fresh (Nat.le_refl _))⟩
 rcases hq with hq|hq
 ·obtain⟨its,r',pl,hz⟩:=I.list hq
  have hlen:=r'.length
  obtain⟨o,ho,hc,n,hd⟩:=pl.isList
  exact call_list_seq p (.inl rfl) ho hc hd (fun h' c' kp e=>fin its r' hz h' c' kp e) (by simp only[List.size_toArray]<;>omega)
 ·obtain⟨its,r',pl,hz⟩:=I.tuple hq
  have hlen:=r'.length
  obtain⟨o,ho,hc,n,hd⟩:=pl
  exact call_list_seq p (.inr rfl) ho hc hd (fun h' c' kp e=>fin its r' hz h' c' kp e) (by simp only[List.size_toArray]<;>omega)
theorem call_tuple_of:CallR X (.type "tuple") (fun xs H Q=>∃p ys,xs=[.ref p]∧((SqL X.K H p ys∧∀l,H l=none→Q (.ref l) (upd H l (.tup ys)))∨(SqT X.K H p ys∧Q (.ref p) H))):=by
 intro pins s σ H xs us Q I r h
 obtain⟨p,ys,rfl,h⟩:=h
 obtain⟨u,rfl,rx⟩:=vals1 r
 cases rx
 rcases h with ⟨hq,q⟩|⟨hq,q⟩
 ·obtain⟨its,r',pl,hz⟩:=I.list hq
  have hlen:=r'.length
  refine call_tuple_list pl.isList (fun h' kp=>?_) (by simp only[List.size_toArray]<;>omega)
  have I1:Inv X pins σ H {s with heap:=h'}:=I.kept (t':=s.toks) kp
  have I2:Inv X pins σ (upd H h'.objs.size (.tup ys)) {s with heap:=h'.push {cls:=.type "tuple",data:=.seq its.toArray}} :=
   I1.laid (t':=s.toks) (fun b o e=>Heap.get?_push_of_some _ e) (Nat.le_refl _) (show ObjOk X.prog X.w _ _ _ (.tup ys) from⟨hz,its,r',IsTup.new _ _⟩)
  exact⟨.ref h'.objs.size,_,I2,rfl,q _ (I1.hok.fresh (Nat.le_refl _))⟩
 ·obtain⟨its,r',pl,hz⟩:=I.tuple hq
  exact call_tuple_same pl ⟨.ref p,H,I,rfl,q⟩
def tyV (K:PySem.W.Frag)(T:String)(x:V)(H:Hp):Prop:=match x with
 |.str _=>T="str"
 |.int _=>T="int"
 |.ref p=>(T="list"∧∃xs,SqL K H p xs)∨(T="tuple"∧∃o,K.lookup p=some o∧o.cls=.type "tuple"∧o.dict=none)∨
   (T="dict"∧((∃kvs,H p=some (.dK kvs))∨∃kvs,H p=some (.dT kvs)))∨(T="set"∧∃S n,H p=some (.set S n))
 |_=>False
theorem tyV_is {pins:List (Addr×Obj)}{σ:St}{H:Hp}{s:Shared}{T:String}{x:V}{v:Value}(I:Inv X pins σ H s)(r:RelV x v)(ty:tyV X.K T x H):
  s.TypeIs v T∧∀a,v=.ref a→∃ob,s.heap.get? a=some ob∧ob.dict=none:=by
 cases x with
 |str z=>
  obtain⟨t,rfl⟩:=r
  cases(show T="str" from ty)
  exact⟨typeIs_str s z t,fun _ e=>nomatch e⟩
 |int i=>
  obtain⟨t,rfl⟩:=r
  cases(show T="int" from ty)
  exact⟨typeIs_int s i t,fun _ e=>nomatch e⟩
 |ref p=>
  cases r
  rcases ty with ⟨rfl,xs,hq⟩|⟨rfl,o,hk,hc,hd⟩|⟨rfl,hk⟩|⟨rfl,S,n,hk⟩
  ·obtain⟨its,_,pl,_⟩:=I.list hq
   refine⟨pl.isList.typeIs,fun a e=>?_⟩
   cases e
   obtain⟨o,n,e,c,hd,_⟩:=pl
   exact⟨o,e,hd⟩
  ·refine⟨⟨o,I.kIn p o hk,hc⟩,fun a e=>?_⟩
   cases e
   exact⟨o,I.kIn _ o hk,hd⟩
  ·have z:∃o,s.heap.get? p=some o∧o.ExactDict:=by
    rcases hk with ⟨kvs,hk⟩|⟨kvs,hk⟩
    ·obtain⟨_,_,_,_,o,_,_,e,ex,_⟩:=I.hok p _ hk
     exact⟨o,e,ex⟩
    ·obtain⟨_,_,_,_,o,_,_,e,ex,_⟩:=I.hok p _ hk
     exact⟨o,e,ex⟩
   obtain⟨o,e,ex⟩:=z
   refine⟨⟨o,e,ex.1⟩,fun a e2=>?_⟩
   cases e2
   exact⟨o,e,ex.2.1⟩
  ·obtain⟨o,_,_,_,e,ex,_⟩:=I.hok p _ hk
   refine⟨⟨o,e,ex.1⟩,fun a e2=>?_⟩
   cases e2
   exact⟨o,e,ex.2.1⟩
 |_=>exact False.elim ty
def tBM0 (K:PySem.W.Frag)(T:String)(r:V→List V→Hp→VK→Prop)(to:TE):TE:=fun σ H Q=>to σ H fun x H1=>tyV K T x H1∧r x [] H1 Q
def tBM (K:PySem.W.Frag)(T:String)(r:V→List V→Hp→VK→Prop)(to:TE)(t:TA):TE:=fun σ H Q=>to σ H fun x H1=>tyV K T x H1∧t σ H1 fun xs H2=>r x xs H2 Q
variable {o e:Expr}{es:List Expr}{to:TE}{t:TA}{name:Str}{apos cpos:Pos}{T id:String}{r:V→List V→Hp→VK→Prop}
theorem pe_bm0 (pa:PlainAttrs T)(slot:Slot T name id)(hty:typeOf (.builtin id)=pure (.type "method_descriptor"))(hm:MtR X id r)(ho:PE X o to)
  (hbase:attributeBase o name X.env (eval o X.env)=eval o X.env:=by rfl) (hline:(apos.endLine==cpos.line)=true:=by rfl):PE X (.Call (.Attribute o name apos) [] [] cpos) (tBM0 X.K T r to):=by
 intro pins s σ H Q I h
 refine wpAny_Call_method0_late hbase hline (thn (ho pins s σ H _ I h) fun v s1 ⟨x,H1,I1,r1,ty,q1⟩=>?_)
 obtain⟨h1,h2⟩:=tyV_is I1 r1 ty
 exact⟨T,id,pa,slot,hty,h1,h2,Calls.callWith_builtin rfl (PySem.evalArgs_none (hm pins s1 σ H1 x [] v [] Q I1 r1 .nil q1))⟩
theorem pe_bm (pa:PlainAttrs T)(slot:Slot T name id)(hty:typeOf (.builtin id)=pure (.type "method_descriptor"))(hm:MtR X id r)(ho:PE X o to)(ha:PA X (e::es) t)
  (hbase:attributeBase o name X.env (eval o X.env)=eval o X.env:=by rfl)
  (hfew:((backTo cpos (starEach (e::es) X.env)).all (fun x=>!x.1)&&(backToKw cpos (keywordEach [] X.env)).all (fun x=>x.1.isSome)
   &&decide ((e::es).length+([]:List Keyword).length+(if([]:List Keyword).isEmpty then 0 else 1)<30))=true:=by rfl)
  (hline:(apos.endLine==cpos.line)=true:=by rfl) (hs:starEach (e::es) X.env=(false,eval e X.env)::starEach es X.env:=by rfl) (hplain:(backTo cpos (starEach es X.env)).any (·.1)=false:=by rfl):
  PE X (.Call (.Attribute o name apos) (e::es) [] cpos) (tBM X.K T r to t):=by
 intro pins s σ H Q I h
 refine wpAny_Call_method_late hbase hfew hline rfl (thn (ho pins s σ H _ I h) fun v s1 ⟨x,H1,I1,r1,ty,q1⟩=>?_)
 obtain⟨h1,h2⟩:=tyV_is I1 r1 ty
 refine⟨T,id,pa,slot,hty,h1,h2,?_⟩
 have hA:=ha cpos pins s1 σ H1 _ I1 q1
 rw[hs]at hA ⊢
 refine Calls.callWith_builtin (by show(false||(backTo cpos (starEach es X.env)).any (·.1))=false;rw[hplain]<;>rfl) (Calls.evalArgs_plain ?_)
 exact thn hA fun us s2 ⟨vs,H2,I2,r2,q2⟩=>hm pins s2 σ H2 x vs v us Q I2 r1 r2 q2
end
def MtM (X:Cx)(id:String)(r:V→List V→Hp→VK→Prop):Prop :=
 ∀(pins:List (Addr×Obj)) (s:Shared) (σ:St) (H:Hp) (x:V) (xs:List V) (v:Value) (us:List Value) (Q:VK),Inv X pins σ H s→RelV x v→Vals xs us→r x xs H Q→
  wpAny (model X.prog X.w) X.A (call (.builtin id) (v::us)) (EP X pins σ Q) X.xe s
theorem Vals.one:∀{x:V} {us:List Value},Vals [x] us→∃u,us=[u]∧RelV x u
 |_,_, .cons r .nil=>⟨_,rfl,r⟩
theorem Vals.zero:∀{us:List Value},Vals [] us→us=[]
 |_, .nil=>rfl
theorem Vals.dropLast {xs:List V}{us:List Value}(h:Vals xs us):Vals xs.dropLast us.dropLast:=by
 induction h with
 |nil=>exact .nil
 |cons r t ih=>
  cases t with
  |nil=>exact .nil
  |cons q t'=>exact .cons r ih
theorem Vals.reverse {xs:List V}{us:List Value}(h:Vals xs us):Vals xs.reverse us.reverse:=by
 induction h with
 |nil=>exact .nil
 |cons r t ih=>rw[List.reverse_cons,List.reverse_cons];exact Vals.append ih (.cons r .nil)
theorem erase_last {α:Type}(l:List α):l.eraseIdx (l.length-1)=l.dropLast:=by
 induction l with
 |nil=>rfl
 |cons a r ih=>
  cases r with
  |nil=>rfl
  |cons b r=>
   have e:(a::b::r).length-1=((b::r).length-1)+1:=by
    have h1:(a::b::r).length=r.length+2:=rfl
    have h2:(b::r).length=r.length+1:=rfl
    omega
   rw[e,List.eraseIdx_cons_succ,ih]
   all_goals rfl
section
variable {X:Cx}{pins:List (Addr×Obj)}{σ:St}{H:Hp}{s:Shared}{l b:Addr}{xs ys zs:List V}
theorem Inv.lset {its its':List Value}{n:Nat}{f:Array Value→Array Value}{t':Nat}(I:Inv X pins σ H s)(hH:H l=some (.lst xs))
  (e:s.heap.get? l=some {cls:=.type "list",data:=.seq its.toArray n}) (hf:f its.toArray=its'.toArray) (hv:Vals ys its') (hz:ys.length≤sizeLine):
  Inv X pins σ (upd H l (.lst ys)) {s with heap:=s.heap.update l (Obj.mapSeq f),toks:=t'}:=by
 have q:=PySem.IsL.update e f
 rw[hf]at q
 refine I.write (x:=l) (e:=l) (by rw[hH];exact trivial) (.inl rfl) (fun b' u hb hu=>(Heap.get?_update_other s.heap (Obj.mapSeq f) (Ne.symm hb)).trans hu) ⟨_,q⟩ ?_
 exact⟨hz,its',_,hv,q⟩
theorem Inv.lnew {its:List Value}{t':Nat}(I:Inv X pins σ H s)(hv:Vals ys its)(hz:ys.length≤sizeLine):
  Inv X pins σ (upd H s.heap.objs.size (.lst ys)) {s with heap:=s.heap.push {cls:=.type "list",data:=.seq its.toArray},toks:=t'} :=
 I.laid (fun _ _ q=>Heap.get?_push_of_some _ q) (Nat.le_refl _) ⟨hz,its,0,hv,Heap.get?_push_size _ rfl⟩
theorem Inv.fresh (I:Inv X pins σ H s):H s.heap.objs.size=none:=I.hok.fresh (Nat.le_refl _)
theorem Inv.lstM (I:Inv X pins σ H s)(hH:H l=some (.lst xs)):xs.length≤sizeLine∧∃(its:List Value) (n:Nat),Vals xs its∧xs.length=its.length∧s.heap.get? l=some {cls:=.type "list",data:=.seq its.toArray n}:=by
 obtain⟨z,its,n,r,e⟩:=I.hok l _ hH
 exact⟨z,its,n,r,r.length,e⟩
theorem notLongL {n:Nat}(h:n≤sizeLine):Builtin.List.listTooLong n=false:=by
 unfold Builtin.List.listTooLong
 exact decide_eq_false (by omega)
end
section
variable {X:Cx}
def rAppend:V→List V→Hp→VK→Prop:=fun x vs H Q=>∃l xs y,x=.ref l∧vs=[y]∧H l=some (.lst xs)∧xs.length<sizeLine∧Q .non (upd H l (.lst (xs++[y])))
theorem mt_append:MtM X "list.append" rAppend:=by
 intro pins s σ H x vs v us Q I rx rv h
 obtain⟨l,xs,y,rfl,rfl,hH,hz,q⟩:=h
 cases rx
 obtain⟨u,rfl,ru⟩:=rv.one
 obtain⟨z,its,n,r,hl,e⟩:=I.lstM hH
 refine call_meets F.slot_list_append ⟨_,e,rfl⟩ F.entry_list_append (F.args_list_append_2 _ _) (PySem.list_append l its.toArray n u (by rw[List.size_toArray];omega)) ⟨e,?_⟩
 refine⟨.non,_,I.lset (its':=its++[u]) hH e (by simp) (r.append (.cons ru .nil)) ?_,rfl,q⟩
 rw[List.length_append,List.length_singleton]
 omega
def rExtend:V→List V→Hp→VK→Prop:=fun x vs H Q=>∃l b xs zs,x=.ref l∧vs=[.ref b]∧H l=some (.lst xs)∧H b=some (.lst zs)∧xs.length+zs.length≤sizeLine∧Q .non (upd H l (.lst (xs++zs)))
theorem mt_extend:MtM X "list.extend" rExtend:=by
 intro pins s σ H x vs v us Q I rx rv h
 obtain⟨l,b,xs,zs,rfl,rfl,hH,hB,hz,q⟩:=h
 cases rx
 obtain⟨u,rfl,ru⟩:=rv.one
 cases ru
 obtain⟨z,its,n,r,hl,e⟩:=I.lstM hH
 obtain⟨z2,its2,n2,r2,hl2,e2⟩:=I.lstM hB
 have hsz:its.toArray.size+its2.toArray.size≤sizeLine:=by rw[List.size_toArray,List.size_toArray];omega
 have hlong:¬(!its.toArray.isEmpty&&Builtin.List.listTooLong (its.toArray.size+its2.toArray.size))=true:=by
  rw[notLongL hsz,Bool.and_false]
  exact Bool.false_ne_true
 refine call_meets F.slot_list_extend ⟨_,e,rfl⟩ F.entry_list_extend (F.args_list_extend_2 _ _)
  (AutoSeq1.list_extend_list_list_0 l its.toArray n b its2.toArray n2 hlong (by rw[List.size_toArray];omega) (by omega)) ⟨e,e2,?_⟩
 refine⟨.non,_,I.lset (its':=its++its2) hH e (by simp) (r.append r2) ?_,rfl,q⟩
 rw[List.length_append]
 omega
def rPop:V→List V→Hp→VK→Prop:=fun x vs H Q=>∃l xs y,x=.ref l∧vs=[]∧H l=some (.lst xs)∧xs[xs.length-1]?=some y∧Q y (upd H l (.lst xs.dropLast))
theorem mt_pop:MtM X "list.pop" rPop:=by
 intro pins s σ H x vs v us Q I rx rv h
 obtain⟨l,xs,y,rfl,rfl,hH,hy,q⟩:=h
 cases rx
 have hus:=rv.zero
 subst hus
 obtain⟨z,its,n,r,hl,e⟩:=I.lstM hH
 obtain⟨u,hu,ru⟩:=r.get hy
 have hy':its.toArray[its.toArray.size-1]?=some u:=by
  show its.toArray[its.length-1]?=some u
  rw[←Array.getElem?_toList,←hl]
  exact hu
 refine call_meets F.slot_list_pop ⟨_,e,rfl⟩ F.entry_list_pop (F.args_list_pop_1 _) (MeetsSeq.list_pop_last l its.toArray n u hy' (by rw[List.size_toArray];omega)) ⟨e,?_⟩
 refine⟨y,_,I.lset (its':=its.dropLast) hH e ?_ r.dropLast ?_,ru,q⟩
 ·show its.toArray.eraseIdxIfInBounds (its.toArray.size-1)=its.dropLast.toArray
  rw[List.size_toArray,List.eraseIdxIfInBounds_toArray,erase_last]
 ·rw[List.length_dropLast]
  omega
def rReverse:V→List V→Hp→VK→Prop:=fun x vs H Q=>∃l xs,x=.ref l∧vs=[]∧H l=some (.lst xs)∧Q .non (upd H l (.lst xs.reverse))
theorem mt_reverse:MtM X "list.reverse" rReverse:=by
 intro pins s σ H x vs v us Q I rx rv h
 obtain⟨l,xs,rfl,rfl,hH,q⟩:=h
 cases rx
 have hus:=rv.zero
 subst hus
 obtain⟨z,its,n,r,hl,e⟩:=I.lstM hH
 refine call_meets F.slot_list_reverse ⟨_,e,rfl⟩ F.entry_list_reverse (F.args_list_reverse_1 _) (AutoSeq1.list_reverse_list_0 l its.toArray n (by rw[List.size_toArray];omega)) ⟨e,?_⟩
 refine⟨.non,_,I.lset (its':=its.reverse) hH e (by simp) r.reverse ?_,rfl,q⟩
 rw[List.length_reverse]
 omega
def rCat:R2:=fun x y H Q=>∃l b xs zs,x=.ref l∧y=.ref b∧H l=some (.lst xs)∧H b=some (.lst zs)∧xs.length+zs.length≤sizeLine∧∀p,H p=none→Q (.ref p) (upd H p (.lst (xs++zs)))
theorem op_cat:OpR X (binaryOp .Add) rCat:=by
 intro pins s σ H x y v u Q I rx ry h
 obtain⟨l,b,xs,zs,rfl,rfl,hH,hB,hz,q⟩:=h
 cases rx
 cases ry
 obtain⟨z,its,n,r,hl,e⟩:=I.lstM hH
 obtain⟨z2,its2,n2,r2,hl2,e2⟩:=I.lstM hB
 refine PySem.P.add_list e e2 ?_ (by rw[List.size_toArray,List.size_toArray];omega)
 have ea:its.toArray++its2.toArray=(its++its2).toArray:=by simp
 rw[ea]
 exact⟨.ref _,_,I.lnew (t':=s.toks) (r.append r2) (by rw[List.length_append];omega),rfl,q _ I.fresh⟩
end
section
variable {prog:Program}{w:World}{A:Around}{E:Value→Shared→Prop}{s:Shared}
end
section
variable {X:Cx}
end
end L2
namespace Att
open PySem PySem.W PySem.Calls PyProof.Rows
theorem ints_of_wellAll {P:Params}{h:Heap}:∀(ns:List Int) (vs:List Value),WellAll P h vs (ns.map WData.int)→IntsAre vs ns:=by
 intro ns
 induction ns with
 |nil=>
  intro vs w
  rw[List.map_nil]at w
  cases w
  exact .nil
 |cons n ns ih=>
  intro vs w
  rw[List.map_cons]at w
  cases w with
  |cons a b=>
   cases a
   exact .cons _ _ (ih _ b)
theorem script_of {l:OpenLaw}{n:Nat}(hn:l.most=some n){P:Params}{h:Heap}{args:List WData}{vals:List Value}
  (hpre:l.row.toRowW.claim.pre args=true) (hwl:WellAll P h vals args):
  ∃a vs ns,vals=[Value.ref a]∧args=[WData.list (ns.map WData.int)]∧h.get? a=some {cls:=.type "list",data:=.seq vs.toArray}∧IntsAre vs ns∧ns.length≤n:=by
 have hsh:WShape.hasAll [] args [.list .int]=true:=(pre_splitW hpre).1
 have hc:l.pre.holds [] {args:=args}=true:=(pre_splitW hpre).2
 obtain⟨d,r,rfl,h1,h2⟩:=hasAllW_cons hsh
 obtain rfl:=hasAllW_nil h2
 obtain⟨xs,rfl,h3⟩:=hasW_list h1
 obtain⟨ns,rfl⟩:=items_int h3
 have hlen:ns.length≤n:=by
  unfold OpenLaw.pre at hc
  have h4:(WTm.not (.lt (.lit (.int (n:Int))) (.len (.arg 0)))).holds [] {args:=[.list (ns.map .int)]}=true:=by
   have h4:=(holds_andW hc).1
   rw[hn]at h4
   exact h4
  have h5:=condW_of h4 (w_not (w_lt w_lit (w_len_list (w_arg rfl))))
  rw[List.length_map]at h5
  refine Nat.le_of_not_lt fun q=>?_
  have q':(n:Int)<((ns.length:Nat):Int):=by omega
  first
   |(rw[decide_eq_true q']at h5;exact absurd h5 (by decide))
   |(simp at h5;omega)
 cases hwl with
 |cons w1 w2=>
  cases w2
  cases w1 with
  |list ho hall=>exact⟨_,_,ns,rfl,rfl,ho,ints_of_wellAll ns _ hall,hlen⟩
theorem post_true (l:OpenLaw)(args:List WData):l.row.toRowW.claim.post args (.bool true) args=true :=
 postW_of (r:=l.row.toRowW) (X:=(true==true))
  (show WShape.has [] (.bool true) .bool=true by first|rfl|decide|simp[WShape.has,WShape.arms,WShape.armsAll])
  (show(WTm.eq .res (.lit (.bool true))).value [] {args:=args,res:=some (.bool true),after:=args}=some (.bool (true==true)) from w_eq_bool (w_res rfl) w_lit) rfl
theorem attach_call {l:OpenLaw}{n:Nat}{q:Program}{loose:List Str}{XP:(Str→Option Value)→Heap→Prop}{YP:World→Heap→Prop}{d:DefRec}
  (hn:l.most=some n) (hdf:d.params.defaults=[])
  (call:∀(w:World) (s₀ s₁:Shared) (mg mb:Str→Option Value) (fa:Addr) (o:Obj) (pm cd doc:Value) (a:Addr) (vs:List Value) (ns:List Int),
   Ground q loose [] XP w s₀ mg mb s₁.heap→YP w s₁.heap→
   s₁.heap.get? fa=some o→o.data=.func (docDef d.name d.params d.body d.scope pm cd doc)→s₁.heap.CodeRec cd d.name→mg d.name=some (.ref fa)→
   s₁.heap.get? a=some {cls:=.type "list",data:=.seq vs.toArray}→IntsAre vs ns→ns.length≤n→s₁.gens=#[]→
   codeAny (model l.prog w) callerA (.call (.ref fa) ⟨[.ref a],[]⟩) (fun r s'=>r=.ok (.ret (.bool true))∧OldK s₁.heap s'.heap∧s'.os=s₁.os∧AllBare s'.gens) s₁):
  WalkO q loose XP YP l.row.toRowW d [] (fun f vs=>PySem.call f vs):=by
 intro w s₀ s₁ mg mb G Y fa o pm cd doc dV kV ho hd hcd hD hmg hg args vals as hpre hlay hrd hwl hlo
 obtain rfl:dV=.none:=Dflts.none hD hdf
 obtain rfl:kV=.none:=Dflts.noKw hD
 obtain⟨a,vs,ns,rfl,rfl,hobj,hints,hlen⟩:=script_of hn hpre hwl
 refine enter_call (codeAny_mono (call w s₀ s₁ mg mb fa o pm cd doc a vs ns G Y ho (fd_plain hd) hcd hmg hobj hints hlen hg) fun r s' hq=>?_)
 obtain⟨rfl,h2,h3,h4⟩:=hq
 exact⟨.inl ⟨.bool true, .bool true,[],rfl,fun _=>rfl, .bool true,post_true l _,fun _=>⟨List.Pairwise.nil,fun _ hm=>(nomatch hm)⟩⟩,h2,h3,h4⟩
section
variable {prog:Program}{w:World}{A:Around}{E:Value→Shared→Prop}{s:Shared}{K:Frag}
end
end Att
namespace L2
open PySem PySem.Spec PyProof.Rows
theorem vals_ints:∀{vs:List Value} {ns:List Int},IntsAre vs ns→Vals (ns.map V.int) vs
 |_,_, .nil=>.nil
 |_,_, .cons n t h=>.cons ⟨t,rfl⟩ (vals_ints h)
def Only (H:Hp):Prop:=∀b,H b=none∨∃o xs,H b=some (.frz o (.lst xs))
theorem law_call {P:Program}{w:World}{K:PySem.W.Frag}{mg mb:Str→Option Value}{CX:CXT}{k:Nat}{fa a:Addr}{fd:FuncData}{x:Str}{sp:Sp}{s₁:Shared}{vs:List Value}{ns:List Int}
  (KX:K.In s₁.heap) (hns:s₁.heap.Ns mainGlobals mg) (hb:s₁.heap.Ns builtinsNs mb) (hbb:∀x:Str,x≠"__name__"→mb x=bootBuiltins x) (hlim:s₁.heap.NoLimit) (hg:s₁.gens=#[])
  (ha:s₁.heap.get? a=some {cls:=.type "list",data:=.seq vs.toArray}) (hi:IntsAre vs ns) (hl:ns.length≤sizeLine) (hr:Room k callerA)
  (F:∀base:Heap,K.In base→base.Ns mainGlobals mg→FnOk P w K mg base CX k fa fd [x] sp) (hbind:∀(s:Shared) (u:Value),BindsTo s fd ⟨[u],[]⟩ [(x,u)])
  (hsp:∀H:Hp,Only H→SqL K H a (ns.map V.int)→sp [.ref a] H (fun v _=>v=.bl true) fun _ _ _=>False)
  (hCX:∀H e s',CX [] H s₁ (fun _ _ _=>False) e s'→False):
  codeAny (model P w) callerA (.call (.ref fa) ⟨[.ref a],[]⟩) (fun r s'=>r=.ok (.ret (.bool true))∧OldK s₁.heap s'.heap∧s'.os=s₁.os∧AllBare s'.gens) s₁:=by
 have rv:=vals_ints hi
 have lenV:=hi.length
 have core:∀H:Hp,Only H→SqL K H a (ns.map V.int)→HOk P w H s₁.heap→(∀b,H b≠none→b=a)→(H a≠none→K.lookup a=none)→
   codeAny (model P w) callerA (.call (.ref fa) ⟨[.ref a],[]⟩) (fun r s'=>r=.ok (.ret (.bool true))∧OldK s₁.heap s'.heap∧s'.os=s₁.os∧AllBare s'.gens) s₁:=by
  intro H hO hS hok hA hK
  have base_of:∀{b:Addr} {o:Obj},s₁.heap.get? b=some o→H b=none→(hidT s₁.heap H).get? b=some o:=fun e n=>hidT_get e n
  have noA:∀{b:Addr} {o:Obj} {es:Array DictEntry} {ep:Nat},s₁.heap.get? b=some o→o.data=.dict es ep→H b=none:=fun{b o es ep} e d=>by
   cases q:H b with
   |none=>rfl
   |some u=>
    have e':b=a:=hA b (by rw[q];simp)
    subst e'
    rw[ha]at e;cases e
    have d':Data.seq vs.toArray _=Data.dict es ep:=d
    cases d'
  have nsK:∀{b:Addr} {m:Str→Option Value},s₁.heap.Ns b m→(hidT s₁.heap H).Ns b m:=fun{b m} ⟨o,es,ep,e,d,r⟩=>⟨o,es,ep,base_of e (noA e d),d,r⟩
  have hKb:K.In (hidT s₁.heap H):=fun b o e=>base_of (KX b o e) (by
   cases q:H b with
   |none=>rfl
   |some u=>
    have e':b=a:=hA b (by rw[q];simp)
    subst e'
    rw[hK (by rw[q];simp)]at e;cases e)
  have hM:Mod K mg (hidT s₁.heap H):=⟨hKb,nsK hns,⟨mb,nsK hb,hbb⟩,let ⟨mc,h1,h2⟩:=hlim;⟨mc,nsK h1,h2⟩⟩
  have e0:Env0 P w K mg (hidT s₁.heap H) callerA [] s₁ H:=⟨rfl,hM,fun b o e=>of_hidT e,Nat.le_of_eq (hidT_size _ _),trivial,fun b hb=>absurd (show b∈([]:List Addr) from hb) (by simp),hok, .of_eq hg⟩
  refine codeAny_mono ((F _ hKb (nsK hns)).run callerA [] s₁ H ⟨[.ref a],[]⟩ [.ref a] [.ref a] _ _ hr e0 (hbind s₁ (.ref a)) (.cons rfl .nil) (hsp H hO hS)) fun r s' h=>?_
  cases r with
  |error e=>exact(hCX H e s' h).elim
  |ok fl=>
   cases fl with
   |next=>exact False.elim h
   |brk=>exact False.elim h
   |cont=>exact False.elim h
   |ret u=>
    obtain⟨v,H',os,bare,un,hok',r',q⟩:=h
    have q':v=.bl true:=q
    subst q'
    obtain rfl:u=Value.bool true:=r'
    refine⟨rfl,OldK.of_keep fun b o e=>?_,os,bare⟩
    cases q:H b with
    |none=>exact un.keep b o e q (by intro z;exact absurd (show b∈([]:List Addr) from z) (by simp)) (by simp)
    |some u=>
     rcases hO b with z|⟨ob,xs,z⟩
     ·rw[q]at z;cases z
     ·have z2:=un.frzs b ob _ z
      obtain⟨e1,_⟩:=hok b _ z
      obtain⟨e2,_⟩:=hok' b _ z2
      rw[e]at e1;cases e1
      exact e2
 cases hk:K.lookup a with
 |some o=>
  have e:=KX a o hk
  rw[ha]at e
  cases e
  refine core (fun _=>none) (fun _=>.inl rfl) (.inr ⟨_,vs.toArray,_,hk,rfl,rfl,rfl,by rw[List.size_toArray,lenV];exact hl,by simpa using rv⟩) (fun b u z=>by have z':(none:Option HO)=some u:=z;cases z') (fun b z=>absurd rfl z) fun z=>absurd rfl z
 |none=>
  refine core (fun b=>if b=a then some (.frz {cls:=.type "list",data:=.seq vs.toArray} (.lst (ns.map V.int))) else none) (fun b=>?_) (.inl (.inr ⟨{cls:=.type "list",data:=.seq vs.toArray},if_pos rfl⟩)) (fun b u z=>?_) (fun b z=>?_) fun _=>hk
  ·by_cases hb:b=a
   ·exact .inr ⟨_,_,if_pos hb⟩
   ·exact .inl (if_neg hb)
  ·by_cases hb:b=a
   ·have z':=(if_pos hb).symm.trans z
    cases z'
    subst hb
    exact⟨ha,by rw[List.length_map];exact hl,vs,_,rv,ha⟩
   ·have z':=(if_neg hb).symm.trans z
    cases z'
  ·by_cases hb:b=a
   ·exact hb
   ·exact absurd (if_neg hb) z
theorem walk_of {l:PySem.W.OpenLaw}{n k:Nat}{q:Program}{loose:List Str}{XP:(Str→Option Value)→Heap→Prop}{YP:World→Heap→Prop}{d:DefRec}{K:Params→PySem.W.Frag}{CX:World→CXT}{sp:World→Sp}{x:Str}
  (hn:l.most=some n) (hn2:n≤sizeLine) (hdf:d.params.defaults=[]) (hr:Room k callerA)
  (hY:∀(w:World) (h:Heap),YP w h→(K w.params).In h)
  (F:∀(w:World) (mg:Str→Option Value) (fa:Addr) (h:Heap),(K w.params).In h→h.Ns mainGlobals mg→mg d.name=some (.ref fa)→
   ∃fd:FuncData,(∀(s:Shared) (u:Value),BindsTo s fd ⟨[u],[]⟩ [(x,u)])∧
    ∀base:Heap,(K w.params).In base→base.Ns mainGlobals mg→FnOk l.prog w (K w.params) mg base (CX w) k fa fd [x] (sp w))
  (hsp:∀(w:World) (H:Hp) (a:Addr) (ns:List Int),ns.length≤n→Only H→SqL (K w.params) H a (ns.map V.int)→sp w [.ref a] H (fun v _=>v=.bl true) fun _ _ _=>False)
  (hCX:∀(w:World) (H:Hp) (s:Shared) (e:Value) (s':Shared),CX w [] H s (fun _ _ _=>False) e s'→False):
  PySem.W.WalkO q loose XP YP l.row.toRowW d [] (fun f vs=>PySem.call f vs):=by
 refine Att.attach_call hn hdf fun w s₀ s₁ mg mb fa o pm cd doc a vs ns G Y ho hd hcd hmg hobj hints hlen hg=>?_
 have KX:=hY w _ Y
 obtain⟨fd,hb,hF⟩:=F w mg fa _ KX G.T.g hmg
 exact law_call KX G.T.g G.T.b G.T.builtins G.T.nolimit hg hobj hints (Nat.le_trans hlen hn2) hr hF hb (fun H hO hS=>hsp w H a ns hlen hO hS) fun H e s'=>hCX w H s₁ e s'
def inClass (s:Stmt)(j:Nat):Stmt:=match s with
 |.ClassDef _ _ _ body _ _ _ _ _ _ _=>body.getD j (.Pass ⟨0,0,0,0⟩)
 |_=>.Pass ⟨0,0,0,0⟩
def defArgs (s:Stmt):Arguments:=match s with
 |.FunctionDef _ a _ _ _ _ _ _ _ _=>a
 |_=>{posonlyargs:=[],args:=[],vararg:=none,kwonlyargs:=[],kw_defaults:=[],kwarg:=none,defaults:=[]}
def defBody (s:Stmt):List Stmt:=match s with
 |.FunctionDef _ _ b _ _ _ _ _ _ _=>b
 |_=>[]
def defScope (s:Stmt):Scope:=match s with
 |.FunctionDef _ _ _ _ _ _ sc _ _ _=>sc
 |_=>{kind:=.function,names:=[],isGenerator:=false,isCoroutine:=false}
abbrev CX0:CXT:=fun _ _ _ _ _ _=>False
abbrev E0:XK:=fun _ _ _=>False
theorem pass0 {X:Cx}:Passes CX0 X E0:=fun _ _ _ _ _ _ _ h=>h.elim
structure Fun (K:PySem.W.Frag)(x qual:Str)(st:Stmt)(f:Addr)(fd:FuncData):Prop where
 ex:∃(oc:Value) (od:Option Addr) (kV doc pm:Value) (an:Option Addr) (cdv ct:Value) (osl:Array (Option Value)),
  fd=PySem.W.fnOf x qual (defArgs st) (defBody st) (defScope st) .none kV doc pm an cdv ct∧K.lookup f=some ⟨oc,od, .func fd,osl⟩∧PySem.W.codeIn K cdv qual=true
 kp:PySem.W.keepIn K (.ref f)=true
section
variable {P:Program}{w:World}{K:PySem.W.Frag}{mg:Str→Option Value}{base:Heap}
theorem Fun.ok {x qual:Str}{st:Stmt}{f:Addr}{fd:FuncData}{N ps:List Str}{k:Nat}{sp:Sp}(F:Fun K x qual st f fd)(S:FnScope N ps (defScope st))(len:∀vs H Q E,sp vs H Q E→vs.length=ps.length)
  (hbody:∀(cdv:Value) (A:Around) (outer:List Env) (s:Shared) (H:Hp) (vs:List V) (Q:VK) (E:XK),Room k (A.deeper (envOfC qual (defScope st) s.heap.objs.size f cdv))→sp vs H Q E→
   ∃t,PSs (cxOf CX0 P w K mg base N qual (defScope st) f cdv A outer s H E).nox (defBody st) t∧t {nx:=fun _ H'=>Q .non H',rt:=Q} (start N vs) H):FnOk P w K mg base CX0 (k+1) f fd ps sp:=by
 obtain⟨oc,od,kV,doc,pm,an,cdv,ct,osl,rfl,lk,hcd⟩:=F.ex
 refine fn_of lk hcd S len fun A outer s H vs Q E hr hsp=>?_
 obtain⟨t,h,q⟩:=hbody cdv A outer s H vs Q E hr hsp
 exact⟨t,h.nox,q⟩
theorem Fun.binds {x qual:Str}{st:Stmt}{f:Addr}{fd:FuncData}{ps:List Str}(F:Fun K x qual st f fd)
  (h:∀(kV doc pm:Value) (an:Option Addr) (cdv ct:Value) (us:List Value),us.length=ps.length→bindArgs (PySem.W.fnOf x qual (defArgs st) (defBody st) (defScope st) .none kV doc pm an cdv ct) ⟨us,[]⟩=pure (ps.zip us)):Binds K fd ps []:=by
 obtain⟨oc,od,kV,doc,pm,an,cdv,ct,osl,rfl,lk,hcd⟩:=F.ex
 exact .all (h kV doc pm an cdv ct)
theorem fun_mk {x qual:Str}{st:Stmt}{f:Addr}{oc:Value}{od an:Option Addr}{osl:Array (Option Value)}{kV doc pm cdv ct:Value}(l:K.lookup f=some ⟨oc,od, .func (PySem.W.fnOf x qual (defArgs st) (defBody st) (defScope st) .none kV doc pm an cdv ct),osl⟩)
  (c:PySem.W.codeIn K cdv qual=true) (k:PySem.W.keepIn K (.ref f)=true):Fun K x qual st f (PySem.W.fnOf x qual (defArgs st) (defBody st) (defScope st) .none kV doc pm an cdv ct):=⟨⟨oc,od,kV,doc,pm,an,cdv,ct,osl,rfl,l,c⟩,k⟩
end
theorem hu_of {A:Around}{k:Nat}(hr:Room k A):A.units+1<cLine:=Nat.lt_of_le_of_lt (Nat.add_le_add_left (by decide:1≤64) _) hr.units
section
variable {X:Cx}
theorem pv (i:Nat){x:Str}{pos:Pos}(hN:X.N[i]?=some x:=by rfl)(hv:Vis X.env.scope x:=by first|exact Or.inl rfl|exact Or.inr (Or.inl rfl)|exact Or.inr (Or.inr rfl))(hd:(x==("__debug__":Str))=false:=by decide)
  (hcd:(x==("__classdict__":Str))=false:=by decide):PE X (.Name x pos) (tVar i):=pe_var hN hv hd hcd
end
theorem iteF {A B:Prop}(h:B):if false=true then A else B:=by
 rw[if_neg Bool.false_ne_true]
 exact h
theorem iteT {A B:Prop}(h:A):if true=true then A else B:=by
 rw[if_pos rfl]
 exact h
theorem ite2 {c A B:Prop}[Decidable c](h1:c→A)(h2:¬c→B):if c then A else B:=by
 by_cases h:c
 ·rw[if_pos h]
  exact h1 h
 ·rw[if_neg h]
  exact h2 h
def Same (H H':Hp):Prop:=∀b o,H b=some o→H' b=some o
theorem Same.refl (H:Hp):Same H H:=fun _ _ h=>h
theorem Same.trans {H H1 H2:Hp}(a:Same H H1)(b:Same H1 H2):Same H H2:=fun c o h=>b c o (a c o h)
theorem Same.free {H H':Hp}(e:Same H H'){l:Addr}(h:H' l=Option.none):H l=Option.none:=by
 cases q:H l with
 |none=>rfl
 |some o=>
  rw[e l o q]at h
  cases h
theorem Same.seq {K:PySem.W.Frag}{H H':Hp}{a:Addr}{xs:List V}(e:Same H H')(h:SqL K H a xs):SqL K H' a xs:=by
 rcases h with (h|⟨o,h⟩)|h
 ·exact .inl (.inl (e _ _ h))
 ·exact .inl (.inr ⟨o,e _ _ h⟩)
 ·exact .inr h
def closL (cells:List (Str×Addr)):List (Str×NameKind)→List (Str×Addr)→List (Str×Addr)
 |[],acc=>acc
 |(n,k)::r,acc=>if k==.free then(match cells.lookup n with|some c=>closL cells r ((n,c)::acc)|none=>closL cells r acc) else closL cells r acc
theorem closL_forIn {env:Env}:∀(names:List (Str×NameKind)) (acc:List (Str×Addr)),(∀p∈names,p.2=.free→∃c,env.cells.lookup p.1=some c)→
  (forIn names acc fun(x:Str×NameKind) (r:List (Str×Addr))=>(if(x.2==NameKind.free)=true then(do let a ←cellOf env x.1;pure (ForInStep.yield ((x.1,a)::r))) else pure (ForInStep.yield r):Sem (ForInStep (List (Str×Addr)))))=pure (closL env.cells names acc):=by
 intro names
 induction names with
 |nil=>intro acc _;rfl
 |cons p r ih=>
  intro acc h
  obtain⟨n,k⟩:=p
  rw[List.forIn_cons]
  cases hk:k==NameKind.free with
  |false=>
   simp only[hk,Bool.false_eq_true,if_false,pure_bind,closL]
   exact ih acc fun q hq=>h q (List.mem_cons_of_mem _ hq)
  |true=>
   have e:k=.free:=by simpa using hk
   obtain⟨c,hc⟩:=h (n,k) List.mem_cons_self e
   simp only[hk,if_true,closL,cellOf,hc,pure_bind]
   exact ih _ fun q hq=>h q (List.mem_cons_of_mem _ hq)
theorem closL_eq {scope:Scope}{env:Env}(h:∀p∈scope.names,p.2=.free→∃c,env.cells.lookup p.1=some c):closureFor scope env=pure (closL env.cells scope.names []):=by
 have q:=closL_forIn (env:=env) scope.names [] h
 simp only[closureFor]
 first
  |exact q
  |(rw[←q];simp)
  |simpa using q
theorem closL_look {cells:List (Str×Addr)}:∀(names:List (Str×NameKind)) (acc:List (Str×Addr)) (y:Str) (c:Addr),(closL cells names acc).lookup y=some c→cells.lookup y=some c∨acc.lookup y=some c:=by
 intro names
 induction names with
 |nil=>intro acc y c h;exact .inr h
 |cons p r ih=>
  intro acc y c h
  obtain⟨n,k⟩:=p
  unfold closL at h
  split at h
  ·split at h
   ·rename_i c' hc
    rcases ih _ y c h with q|q
    ·exact .inl q
    ·rw[List.lookup_cons]at q
     cases e:y==n with
     |true=>
      rw[e]at q
      have e':y=n:=by simpa using e
      subst e'
      have q':some c'=some c:=q
      rw[←q'];exact .inl hc
     |false=>rw[e]at q;exact .inr q
   ·exact ih _ y c h
  ·exact ih _ y c h
theorem closL_acc {cells:List (Str×Addr)}:∀(names:List (Str×NameKind)) (acc:List (Str×Addr)) (y:Str),(∃c,acc.lookup y=some c)→∃c,(closL cells names acc).lookup y=some c:=by
 intro names
 induction names with
 |nil=>intro acc y h;exact h
 |cons p r ih=>
  intro acc y h
  obtain⟨n,k⟩:=p
  unfold closL
  split
  ·split
   ·refine ih _ y ?_
    rw[List.lookup_cons]
    cases e:y==n with
    |true=>exact⟨_,rfl⟩
    |false=>exact h
   ·exact ih _ y h
  ·exact ih _ y h
theorem closL_has {cells:List (Str×Addr)}:∀(names:List (Str×NameKind)) (acc:List (Str×Addr)) (y:Str),(y,NameKind.free)∈names→(∃c,cells.lookup y=some c)→∃c,(closL cells names acc).lookup y=some c:=by
 intro names
 induction names with
 |nil=>intro acc y h _;cases h
 |cons p r ih=>
  intro acc y h hc
  obtain⟨n,k⟩:=p
  unfold closL
  rcases List.mem_cons.mp h with e|h
  ·cases e
   obtain⟨c,hc⟩:=hc
   simp only[beq_self_eq_true,if_true,hc]
   exact closL_acc _ _ _ ⟨c,by rw[List.lookup_cons,beq_self_eq_true]⟩
  ·split
   ·split
    ·exact ih _ y h hc
    ·exact ih _ y h hc
   ·exact ih _ y h hc
def cxComp (X:Cx)(N':List Str)(scope:Scope)(C:Addr)(s₀:Shared)(H₀:Hp)(ex:List Addr):Cx :=
 {X with N:=N',s₀:=s₀,H₀:=H₀,env:=compEnvC scope (closL X.env.cells scope.names []) C X.env,outer:=X.stack,stack:=X.stack,ex:=ex,fn:=fun _=>false,xe:=fun _ _=>False}
def cxCompE (X:Cx)(N':List Str)(scope:Scope)(C:Addr)(s₀:Shared)(H₀:Hp)(ex:List Addr)(XE:Addr→Shared→Hp→List Addr→Value→Shared→Prop):Cx:={cxComp X N' scope C s₀ H₀ ex with xe:=XE C s₀ H₀ ex}
def noX:Addr→Shared→Hp→List Addr→Value→Shared→Prop:=fun _ _ _ _ _ _=>False
theorem cxE_no (X:Cx)(N':List Str)(scope:Scope)(C:Addr)(s₀:Shared)(H₀:Hp)(ex:List Addr):cxCompE X N' scope C s₀ H₀ ex noX=cxComp X N' scope C s₀ H₀ ex:=rfl
def PTs (X:Cx)(ifs:List Expr)(t:TT):Prop :=
 ∀(pins:List (Addr×Obj)) (s:Shared) (σ:St) (H:Hp) (Q:Bool→Hp→Prop),Inv X pins σ H s→t σ H Q→
  wpAny (model X.prog X.w) X.A (forIn ifs true fun c r=>if r=true then do let ok ←isTrue c X.env (eval c X.env);pure (ForInStep.yield ok) else pure (ForInStep.yield r)) (TP X pins σ Q) X.xe s
def tTrue:TT:=fun _ H Q=>Q true H
theorem pts_nil {X:Cx}:PTs X [] tTrue:=fun _ _ _ H _ I h=>wpAny_tests_nil ⟨H,I,h⟩
theorem pts_one {X:Cx}{c:Expr}{t:TT}(h:PT X c t):PTs X [c] t:=fun pins s σ H Q I q=>wpAny_tests_one (h pins s σ H Q I q)
section
variable {prog:Program}{w:World}{A:Around}{R:Result→Shared→Prop}{s:Shared}
theorem compLoop_go {elt target iter:Expr}{ifs:List Expr}{scope:Scope}{pos:Pos}{it acc:Value}{env:Env}(I:Nat→Shared→Prop)(E':Value→Shared→Prop)(hE:∀e s,E' e s→notedBy (model prog w) A env (fun x s'=>R (.error x) s') e s)
  (turn:∀n s,I n s→wpAny (model prog w) A (pyNext it) (fun r s₁=>match r with
   |none=>R (.ok .next) s₁
   |some v=>wpAny (model prog w) A (letOwnedTupleGo target it v) (fun _ s₀=>wpAny (model prog w) A (assign target env v) (fun _ s₂=>
     wpAny (model prog w) A (forIn ifs true fun c r=>if r=true then do let ok ←isTrue c env (eval c env);pure (ForInStep.yield ok) else pure (ForInStep.yield r)) (fun ok s₃=>
      if ok=true then wpAny (model prog w) A (eval elt env) (fun x s₄=>
       wpAny (model prog w) A (call (.builtin "list.append") [acc,x]) (fun _ s₅=>∃m,m<n∧I m s₅) E' s₄) E' s₃
      else ∃m,m<n∧I m s₃) E' s₂) E' s₀) E' s₁) E' s)
  (n:Nat) (h:I n s):
  codeAny (model prog w) A (.compLoop (.ListComp elt [⟨target,iter,ifs,0⟩] scope pos) 0 it acc env) R s:=by
 refine codeAny_loop rfl I (fun n s hI=>?_) n h
 show wpAny _ A ((compTurn (.ListComp elt [⟨target,iter,ifs,0⟩] scope pos) 0 it acc env).onRaise (fun x=>do noteFrame x env;theTreesLotGoes x)) _ _ s
 refine wpAny_noted ?_
 rw[compTurn_list]
 refine wpAny_bind (wpAny_standAt (wpAny_bind (wpAny_mono (turn n s hI) (fun r s₁ h₁=>?_) hE)))
 cases r with
 |none=>exact wpAny_pure h₁
 |some v=>
  refine wpAny_bind (wpAny_mono h₁ (fun _ s₀ h₀=>?_) hE)
  refine wpAny_bind (wpAny_mono h₀ (fun _ s₂ h₂=>wpAny_bind (wpAny_mono h₂ (fun ok s₃ h₃=>?_) hE)) hE)
  cases ok with
  |false=>exact wpAny_pure ⟨rfl,h₃⟩
  |true=>
   exact wpAny_bind (wpAny_bind (wpAny_mono h₃ (fun x s₄ h₄=>wpAny_bind (wpAny_mono h₄ (fun _ s₅ h₅=>wpAny_pure (wpAny_pure ⟨rfl,h₅⟩)) hE)) hE))
end
structure CompScope (X:Cx)(x:Str)(frees:List Str)(idx:List Nat)(scope:Scope):Prop where
 kind:scope.kind=.function
 nocell:∀y∈scope.names,y.2≠.cell
 loc:∀y∈scope.names,y.2=.local→scope.names.lookup y.1=some .local
 tgt:scope.names.lookup x=some .local
 nd:(x::frees).Nodup
 fr:∀y∈scope.names,y.2=.free→X.env.kindOf y.1=some .cell∨X.env.kindOf y.1=some .free
 ix:∀(j:Nat) (y:Str),frees[j]?=some y→∃k,idx[j]?=some k∧X.N[k]?=some y
 len:idx.length=frees.length
 cl:∀y∈frees,(y,NameKind.free)∈scope.names
def outs (σ:St)(idx:List Nat):St:=idx.map fun k=>(σ[k]?).join
def CompW (J:It)(tt:TT)(te:TE)(σ':St)(Q:VK)(H1:Hp):Prop:=∃W:Nat→Nat→List V→Hp→Prop,(∃m,W 0 m [] H1)∧∀i m vs H2,W i m vs H2→
 vs.length<sizeLine∧((J.stop i H2∧∀l,H2 l=none→Q (.ref l) (upd H2 l (.lst vs)))∨
  (J.go i H2∧∀x H3,J.yld i H2 x H3→tt (some x::σ') H3 fun b H4=>if b=true then te (some x::σ') H4 fun v H5=>∃m',m'<m∧W (i+1) m' (vs++[v]) H5 else ∃m',m'<m∧W (i+1) m' vs H4))
def tComp (idx:List Nat)(wi:TI)(tt:TT)(te:TE):TE:=fun σ H Q=>wi σ H fun J H1=>CompW J tt te (outs σ idx) Q H1
theorem Vals.snoc {xs:List V}{us:List Value}{x:V}{u:Value}(h:Vals xs us)(r:RelV x u):Vals (xs++[x]) (us++[u]):=Vals.append h (.cons r .nil)
theorem mem_of_lookup' {α β:Type}[BEq α][LawfulBEq α]:∀{l:List (α×β)} {x:α} {b:β},l.lookup x=some b→(x,b)∈l
 |[],_,_,h=>by simp at h
 |(n,k)::r,x,b,h=>by
  rw[List.lookup_cons]at h
  cases e:x==n with
  |true=>
   rw[e]at h
   have e':x=n:=by simpa using e
   have h':k=b:=Option.some.inj h
   subst e' h'
   exact List.mem_cons_self
  |false=>rw[e]at h;exact List.mem_cons_of_mem _ (mem_of_lookup' h)
theorem relabel_free {scope:Scope}{env:Env}{y:Str}(h:(relabel scope env).names.lookup y=some .cell∨(relabel scope env).names.lookup y=some .free)(hc:∀y∈scope.names,y.2≠.cell):(y,NameKind.free)∈scope.names:=by
 have q:∃k,(y,k)∈(relabel scope env).names∧(k=.cell∨k=.free):=by
  rcases h with h|h
  ·exact⟨_,mem_of_lookup' h, .inl rfl⟩
  ·exact⟨_,mem_of_lookup' h, .inr rfl⟩
 obtain⟨k,hm,hk⟩:=q
 obtain⟨⟨n,k'⟩,hm',e⟩:=List.mem_map.mp hm
 dsimp only at e
 split at e
 ·rename_i hf
  cases e
  have:k'=.free:=by
   simp only[Bool.and_eq_true,beq_iff_eq]at hf
   exact hf.1.1
  subst this
  exact hm'
 ·cases e
  rcases hk with rfl|rfl
  ·exact absurd rfl (hc _ hm')
  ·exact hm'
theorem lookup_relabel_free {env:Env}:∀{names:List (Str×NameKind)} {x:Str},names.lookup x=some .free→
  ((names.map fun(n,k)=>if(k==NameKind.free&&env.scope.kind==.function&&env.kindOf n==some .cell) then(n,NameKind.cell) else(n,k)).lookup x=some .cell∨
   (names.map fun(n,k)=>if(k==NameKind.free&&env.scope.kind==.function&&env.kindOf n==some .cell) then(n,NameKind.cell) else(n,k)).lookup x=some .free)
 |[],_,h=>by simp at h
 |(n,k)::r,x,h=>by
  have ih:=@lookup_relabel_free env r x
  rw[List.map_cons]
  cases hx:x==n with
  |true=>
   simp only[List.lookup_cons,hx]at h
   have hk:k=.free:=Option.some.inj h
   subst hk
   by_cases hc:(NameKind.free==NameKind.free&&env.scope.kind==.function&&env.kindOf n==some .cell)=true
   ·left
    simp only[hc,if_true,List.lookup_cons,hx]
   ·right
    simp only[hc,if_false,List.lookup_cons,hx,Bool.false_eq_true]
  |false=>
   simp only[List.lookup_cons,hx]at h
   by_cases hc:(k==NameKind.free&&env.scope.kind==.function&&env.kindOf n==some .cell)=true
   ·simp only[hc,if_true,List.lookup_cons,hx];exact ih h
   ·simp only[hc,if_false,List.lookup_cons,hx,Bool.false_eq_true];exact ih h
theorem Inv.track {X:Cx}{pins:List (Addr×Obj)}{σ:St}{H:Hp}{s:Shared}{D:Addr}{vs:List V}{its:List Value}{k:Nat}(I:Inv X pins σ H s)(hD:H D=none)(hz:vs.length≤sizeLine)(hv:Vals vs its)
  (e:s.heap.get? D=some {cls:=.type "list",data:=.seq its.toArray k}) (h1:D∈X.ex∨X.s₀.heap.objs.size≤D) (h2:D≠X.env.locals) (h3:∀x c,X.env.cells.lookup x=some c→c≠D) (h4:∀p∈X.pn++pins,p.1≠D):
  Inv X pins σ (upd H D (.lst vs)) s:=by
 obtain⟨hh,g,d,t,o⟩:=s
 have nD:∀b u,H b=some u→b≠D:=fun b u q z=>by rw[z,hD]at q;cases q
 refine I.step (g':=g) (d':=d) (t':=t) (h':=hh) (ch:=[D]) (fun b hb=>?_) (fun b o _ _ _ q _=>q) (fun b o _ _ _ q _=>⟨o.slots,q⟩) (fun b o hb q n=>?_) (fun b o _ q=>⟨o,q⟩)
  (fun b xs q=>by rw[upd_ne (nD b _ q)];exact q) (fun b o u q=>by rw[upd_ne (nD b _ q)];exact q) (fun b ps q=>⟨#[],by rw[upd_ne (nD b _ q),q];simp⟩) (fun m q=>q) (fun b u q=>?_) I.bare
 ·have z:b=D:=by simpa using hb
  subst z
  exact⟨h1,h2,h3,h4⟩
 ·rw[upd_ne (by simpa using hb)];exact n
 ·by_cases z:b=D
  ·subst z
   rw[upd_same]at q;cases q
   exact⟨hz,its,k,hv,e⟩
  ·rw[upd_ne z]at q
   exact(I.hok b u q).stay (fun _ _ _ q=>q) (fun c q=>by rw[upd_ne (nD c _ q)];exact q) fun c xs q=>by rw[upd_ne (nD c _ q)];exact q
structure CompScopeM (X:Cx)(frees:List Str)(idx:List Nat)(scope:Scope):Prop where
 kind:scope.kind=.function
 nocell:∀y∈scope.names,y.2≠.cell
 loc:∀y∈scope.names,y.2=.local→scope.names.lookup y.1=some .local
 fr:∀y∈scope.names,y.2=.free→X.env.kindOf y.1=some .cell∨X.env.kindOf y.1=some .free
 ix:∀(j:Nat) (y:Str),frees[j]?=some y→∃k,idx[j]?=some k∧X.N[k]?=some y
 len:idx.length=frees.length
 cl:∀y∈frees,(y,NameKind.free)∈scope.names
def CompWM (n:Nat)(J:It)(g:TG)(tt:TT)(te:TE)(σ':St)(Q:VK)(H1:Hp):Prop:=∃W:Nat→Nat→List V→Hp→Prop,(∃m,W 0 m [] H1)∧∀i m vs H2,W i m vs H2→
 vs.length<sizeLine∧((J.stop i H2∧∀l,H2 l=none→Q (.ref l) (upd H2 l (.lst vs)))∨
  (J.go i H2∧∀(τ:St) x H3,τ.length=n→J.yld i H2 x H3→g x (τ++σ') H3 fun σ1 H4=>(∃τ':St,σ1=τ'++σ'∧τ'.length=n)∧
   tt σ1 H4 fun b H5=>if b=true then te σ1 H5 fun v H6=>∃m',m'<m∧W (i+1) m' (vs++[v]) H6 else ∃m',m'<m∧W (i+1) m' vs H5))
def tCompM (n:Nat)(idx:List Nat)(wi:TI)(g:TG)(tt:TT)(te:TE):TE:=fun σ H Q=>wi σ H fun J H1=>CompWM n J g tt te (outs σ idx) Q H1
theorem comp_core {X:Cx}{elt iter tg:Expr}{M:List Str}{g:TG}{pos p1:Pos}{ifs:List Expr}{scope:Scope}{frees:List Str}{idx:List Nat}{wi:TI}{tt:TT}{te:TE}{XE:Addr→Shared→Hp→List Addr→Value→Shared→Prop}
  (hc:X.calm=true) (S:CompScopeM X frees idx scope) (hfl:∀y∈frees,scope.names.lookup y=some .free) (hi:PI X tg iter wi) (hg:∀C s₀ H₀ ex,PG (cxCompE X (M++frees) scope C s₀ H₀ ex XE) tg g)
  (ht:∀C s₀ H₀ ex,PTs (cxCompE X (M++frees) scope C s₀ H₀ ex XE) ifs tt) (he:∀C s₀ H₀ ex,PE (cxCompE X (M++frees) scope C s₀ H₀ ex XE) elt te)
  (hs:∀v,foldedSetIterable iter X.env v=pure v) {use:Option (Value→Sem Unit)} {Q':Value→Shared→Prop} {pins:List (Addr×Obj)} {s:Shared} {σ:St} {H:Hp} {Q:VK} (I:Inv X pins σ H s) (h:tCompM M.length idx wi g tt te σ H Q)
  (hxe:∀C s2 H2 ex D,Inv X pins σ H2 s2→s2.heap.objs.size≤C→D≠C→∀e s',XE C s2 H2 ex e s'→notedBy (model X.prog X.w) X.A (compEnvC scope (closL X.env.cells scope.names []) C X.env) (fun x s''=>compPost (model X.prog X.w) X.A X.xe use Q' (.ref D) C (.error x) s'') e s')
  (hpost:∀(D C:Addr) (H':Hp) m4 (s4:Shared),s4.heap.Ns C m4→(∀h',Heap.SameBut C s4.heap h'→Inv X pins σ H' {s4 with heap:=h'})→H' C=none→C≠X.env.locals→C∉X.fs→X.s₀.heap.objs.size≤C→(∀z c,X.env.cells.lookup z=some c→c≠C)→(∀p∈X.pn++pins,p.1≠C)→Q (.ref D) H'→
   compPost (model X.prog X.w) X.A X.xe use Q' (.ref D) C (.ok .next) s4):
  wpAny (model X.prog X.w) X.A (comprehension (.ListComp elt [⟨tg,iter,ifs,0⟩] scope pos) scope X.env p1 (newList []) (firstAsync [⟨tg,iter,ifs,0⟩]) (firstIter [⟨tg,iter,ifs,0⟩] X.env) use) Q' X.xe s:=by
 have hclos:=closL_eq (scope:=scope) (env:=X.env) fun p hp hf=>I.ok.has p.1 (S.fr p hp hf)
 refine wpAny_comprehension_free (use:=use) rfl hs hclos S.kind S.loc (thn (hi pins s σ H _ I h) fun v s1 h1=>thn h1 fun itv s2 h2=>?_)
 obtain⟨it,fp,tn,J,H2,rfl,I2,T,st2,f2,W,⟨m0,w0⟩,turn⟩:=h2
 refine wpAny_newObj_type (wpAny_newFunctionEnv S.nocell (by intro y hy;simp at hy) (fun h₁ hns₁ hsb₁=>?_) S.kind)
 dsimp only at hns₁ hsb₁ ⊢
 generalize hH2:s2.heap.push {cls:=.type "list",dict:=none,data:=.seq ([]:List Value).toArray}=G2 at hns₁ hsb₁ ⊢
 have hCe:G2.objs.size=s2.heap.objs.size+1:=by rw[←hH2,Heap.size_push]
 generalize hC:G2.objs.size=C at hns₁ hsb₁ hCe ⊢
 have hCle:s2.heap.objs.size≤C:=by omega
 have hDC:s2.heap.objs.size≠C:=by omega
 have below:∀b,b<s2.heap.objs.size→b≠C:=fun b hb=>by omega
 have old:∀b o,s2.heap.get? b=some o→h₁.get? b=some o:=fun b o e=>hsb₁.extBut b o (below b (Heap.lt_size e)) (Heap.get?_push_of_some _ (hH2 ▸ Heap.get?_push_of_some _ e))
 have hacc:∃k,h₁.get? s2.heap.objs.size=some {cls:=.type "list",data:=.seq ([]:List Value).toArray k}:=⟨_,hsb₁.extBut _ _ hDC (Heap.get?_push_of_some _ (hH2 ▸ Heap.get?_push_size _ rfl))⟩
 have look:∀y c,(closL X.env.cells scope.names []).lookup y=some c→X.env.cells.lookup y=some c:=fun y c e=>by
  rcases closL_look _ _ y c e with q|q
  ·exact q
  ·cases q
 have fpD:∀b∈fp,b<s2.heap.objs.size:=fun b hb=>by
  obtain⟨o,e,_⟩:=T.obj _ _ st2 b hb
  exact Heap.lt_size e
 have ok':(cxCompE X (M++frees) scope C s2 H2 fp XE).Ok:={
  mod:=I2.ok.mod
  kind:=S.kind
  glob:=I2.ok.glob
  blt:=I2.ok.blt
  above:=hCle
  inj:=fun y z c e1 e2=>I2.ok.inj y z c (look y c e1) (look z c e2)
  has:=fun y hy=>by
   have q:=relabel_free (scope:=scope) (env:=X.env) hy S.nocell
   exact closL_has _ _ y q (I2.ok.has y (S.fr _ q rfl))
  cab:=fun y c hf=>by cases hf
  hd:=I2.ok.hd
  frames:=I2.ok.frames
  stk:=.inl rfl
  exf:=fun b hb=>⟨below b (fpD b hb),fun y c e=>(f2 b hb).2.2.2.2.1 y c (look y c e)⟩
  bs:=I2.bs
  bsz:=Nat.le_trans I2.ok.bsz I2.sz
  noex:=fun b o e hb=>by
   rcases(f2 b hb).2.2.2.1 with z|z
   ·exact I2.ok.noex b o e z
   ·exact absurd (Nat.lt_of_lt_of_le (Heap.lt_size e) (Nat.le_trans I2.ok.bsz z)) (Nat.lt_irrefl _)
  exfs:=fun b hb hf=>by
   rcases List.mem_cons.mp (I2.stkSub b hf) with z|z
   ·exact(f2 b hb).2.1 z
   ·exact(f2 b hb).2.2.1 z
  funs:=I2.stack
  frf:=I2.stkFree}
 have Dfs:s2.heap.objs.size∉frs X.stack:=fun hb=>by
  rcases List.mem_cons.mp (I2.stkSub _ hb) with z|z
  ·have q:=I2.lt
   rw[←z]at q
   exact Nat.lt_irrefl _ q
  ·exact I2.nofs (Nat.le_refl _) z
 have Dcell:∀y c,X.env.cells.lookup y=some c→c≠s2.heap.objs.size:=fun y c e z=>by
  obtain⟨v,q⟩:=I2.cell y c e
  have q':=q.lt
  rw[z]at q'
  exact Nat.lt_irrefl _ q'
 have Dpin:∀p∈X.pn++pins,p.1≠s2.heap.objs.size:=fun p hp z=>by
  have q':=Heap.lt_size (I2.pin p hp).1
  rw[z]at q'
  exact Nat.lt_irrefl _ q'
 have I3:Inv (cxCompE X (M++frees) scope C s2 H2 fp XE) pins (List.replicate M.length none++outs σ idx) H2 {s2 with heap:=h₁,toks:=s2.toks+([]:List (Str×Value)).length}:={
  ok:=ok'
  os:=rfl
  bare:=I2.bare
  base:=Un.kept old
  loc:=by
   refine⟨_,hns₁,fun i y v e1 e2 e3=>?_⟩
   by_cases hi':i<M.length
   ·rw[List.getElem?_append_left (by rw[List.length_replicate];exact hi'),List.getElem?_replicate,if_pos hi']at e2
    cases e2
   ·obtain⟨j,rfl⟩:∃j,i=M.length+j:=⟨i-M.length,by omega⟩
    have e1':frees[j]?=some y:=by
     have e1'':(M++frees)[M.length+j]?=some y:=e1
     rw[List.getElem?_append_right (Nat.le_add_right _ _),Nat.add_sub_cancel_left]at e1''
     exact e1''
    have e2':(outs σ idx)[j]?=some (some v):=by
     rw[List.getElem?_append_right (by rw[List.length_replicate];exact Nat.le_add_right _ _),List.length_replicate,Nat.add_sub_cancel_left]at e2
     exact e2
    obtain⟨k,hk,hN⟩:=S.ix j y e1'
    have hy:y∈frees:=List.mem_of_getElem? e1'
    have e4:σ[k]?=some (some v):=by
     unfold outs at e2'
     rw[List.getElem?_map,hk]at e2'
     have e5:(σ[k]?).join=some v:=Option.some.inj e2'
     cases q:σ[k]? with
     |none=>rw[q]at e5;cases e5
     |some o=>rw[q]at e5;exact congrArg some e5
    obtain⟨m,hn,hl⟩:=I2.loc
    have kin:=S.fr _ (S.cl y hy) rfl
    have vis:Vis X.env.scope y:=by
     rcases kin with z|z
     ·exact .inr (.inl z)
     ·exact .inr (.inr z)
    obtain⟨u,r,l⟩:=hl k y v hN e4 vis
    refine⟨u,r, .inr ⟨lookup_relabel_free (env:=X.env) (hfl y hy),?_⟩⟩
    rcases l with ⟨z,_⟩|⟨_,c,ec,ic⟩
    ·rcases kin with z'|z'
     ·have z'':X.env.kindOf y=some .cell:=z'
      rw[z]at z'';cases z''
     ·have z'':X.env.kindOf y=some .free:=z'
      rw[z]at z'';cases z''
    ·obtain⟨c',ec'⟩:=closL_has (cells:=X.env.cells) scope.names [] y (S.cl y hy) ⟨c,ec⟩
     have:c'=c:=Option.some.inj ((look y c' ec').symm.trans ec)
     subst this
     obtain⟨o,ho,hd⟩:=ic
     exact⟨c',ec',o,old _ _ ho,hd⟩
  cell:=fun y c e=>by
   obtain⟨v,o,ho,hd⟩:=I2.cell y c (look y c e)
   exact⟨v,o,old _ _ ho,hd⟩
  free:=I2.hok.fresh hCle
  freeC:=fun y c e=>I2.freeC y c (look y c e)
  pin:=fun p hp=>by
   obtain⟨e,n,ne,nf,d⟩:=I2.pin p hp
   refine⟨old _ _ e,n,below _ (Heap.lt_size e),fun hb=>?_,d⟩
   rcases List.mem_cons.mp (I2.stkSub _ hb) with z|z
   ·exact ne z
   ·exact nf z
  hok:=I2.hok.kept old
  len:=by simp[cxCompE,cxComp,outs,S.len]}
 have fok:∀{pp:List (Addr×Obj)} {H':Hp},(∀b∈fp,H' b=none)→(∀p∈pp,p.1=s2.heap.objs.size)→∀b∈fp,FpOk (cxCompE X (M++frees) scope C s2 H2 fp XE) (pins++pp) H' b:=fun{pp H'} hn hp b hb=>by
  obtain⟨_,f1,f2',f3,f4,f5⟩:=f2 b hb
  refine⟨hn b hb,below b (fpD b hb),fun hf=>?_, .inl hb,fun y c e=>f4 y c (look y c e),fun p hpp z=>?_⟩
  ·rcases List.mem_cons.mp (I2.stkSub b hf) with z|z
   ·exact f1 z
   ·exact f2' z
  ·have hpp':p∈X.pn++(pins++pp):=hpp
   rw[←List.append_assoc]at hpp'
   rcases List.mem_append.mp hpp' with q|q
   ·exact f5 p q z
   ·have q':=fpD b hb
    rw[←z,hp p q]at q'
    exact Nat.lt_irrefl _ q'
 have loop:∀s3:Shared,s3={s2 with heap:=h₁,toks:=s2.toks+([]:List (Str×Value)).length}→
   codeAny (model X.prog X.w) X.A (.compLoop (.ListComp elt [⟨tg,iter,ifs,0⟩] scope pos) 0 (.ref it) (.ref s2.heap.objs.size) (compEnvC scope (closL X.env.cells scope.names []) C X.env))
    (compPost (model X.prog X.w) X.A X.xe use Q' (.ref s2.heap.objs.size) C) s3:=by
  rintro s3 rfl
  obtain⟨k0,hacc⟩:=hacc
  refine compLoop_go (fun n s'=>∃i τ vs H' its k,(τ:St).length=M.length∧Inv (cxCompE X (M++frees) scope C s2 H2 fp XE) pins (τ++outs σ idx) H' s'∧tn i s'.heap∧(∀b∈fp,H' b=none)∧H' s2.heap.objs.size=none∧
   s'.heap.get? s2.heap.objs.size=some {cls:=.type "list",data:=.seq its.toArray k}∧Vals vs its∧W i n vs H') (XE C s2 H2 fp) (hxe C s2 H2 fp s2.heap.objs.size I2 hCle hDC) ?_ m0
   ⟨0,List.replicate M.length none,[],H2,[],k0,by simp,I3,T.keep _ _ _ st2 fun b _ o e=>old b o e,fun b hb=>(f2 b hb).1,I2.hok.fresh (Nat.le_refl _),hacc, .nil,w0⟩
  rintro n s' ⟨i,τ,vs,H',its,k,lτ,I',st',fr',hD',hg',hv',w'⟩
  obtain⟨hlen,alt⟩:=turn i n vs H' w'
  have IP:Inv (cxCompE X (M++frees) scope C s2 H2 fp XE) (pins++[(s2.heap.objs.size,{cls:=.type "list",data:=.seq its.toArray k})]) (τ++outs σ idx) H' s' :=
   I'.pins_of fun p hp=>(List.mem_append.mp hp).elim (fun z=>I'.pin p (List.mem_append_right _ z)) fun z=>by
    have z':p=(s2.heap.objs.size,{cls:=.type "list",data:=.seq its.toArray k}):=by simpa using z
    subst z'
    exact⟨hg',hD',hDC,Dfs,fun v q=>by cases q⟩
  have FP:=fok (pp:=[(s2.heap.objs.size,{cls:=.type "list",data:=.seq its.toArray k})]) fr' (fun p hp=>by
   have z':p=(s2.heap.objs.size,{cls:=.type "list",data:=.seq its.toArray k}):=by simpa using hp
   rw[z'])
  rcases alt with ⟨stop,qn⟩|⟨go,step⟩
  ·refine thn (T.done (cxCompE X (M++frees) scope C s2 H2 fp XE) rfl rfl rfl hc i _ s' _ H' (XE C s2 H2 fp) IP FP st' stop) fun r s4 ⟨hr,I4⟩=>?_
   subst hr
   obtain⟨m4,hn4,_⟩:=id I4.loc
   refine hpost s2.heap.objs.size C (upd H' s2.heap.objs.size (.lst vs)) m4 s4 hn4 (fun h' hsb=>?_) (by rw[upd_ne (Ne.symm hDC)];exact I4.free) (fun z=>by have q:=I2.lt;rw[←z]at q;exact Nat.lt_irrefl _ (Nat.lt_of_lt_of_le q hCle)) (I2.nofs hCle) (Nat.le_trans I2.sz hCle) (fun z c e zz=>by
    obtain⟨v,q⟩:=I2.cell z c e
    have q':=q.lt
    rw[zz]at q'
    exact Nat.lt_irrefl _ (Nat.lt_of_lt_of_le q' hCle)) (fun p hp zz=>by
    have q':=Heap.lt_size (I2.pin p hp).1
    rw[zz]at q'
    exact Nat.lt_irrefl _ (Nat.lt_of_lt_of_le q' hCle)) (qn _ hD')
   have gD:s4.heap.get? s2.heap.objs.size=some {cls:=.type "list",data:=.seq its.toArray k}:=(I4.pin (s2.heap.objs.size,_) (List.mem_append_right _ (List.mem_append_right _ (List.mem_singleton.mpr rfl)))).1
   have hx:∀b o,b≠C→s4.heap.get? b=some o→h'.get? b=some o:=fun b o hb e=>(hsb.2 b hb).trans e
   have J1:Inv X pins σ H' {s4 with heap:=h'}:=by
    refine I2.call' (ch:=fp) I4.os ⟨fun b o e n hb hx'=>?_,fun b o e n hb hx'=>?_,I4.base.free,fun b o e hx'=>?_,I4.base.tups,I4.base.frzs,I4.base.tbls⟩ (fun b u e=>?_) I4.bare fun b hb=>?_
    ·exact hx b o (below b (Heap.lt_size e)) (I4.base.keep b o e n hb hx')
    ·obtain⟨sl,q⟩:=I4.base.slot b o e n hb hx'
     exact⟨sl,hx b _ (below b (Heap.lt_size e)) q⟩
    ·obtain⟨o',q⟩:=I4.base.there b o e hx'
     exact⟨o',hx b _ (below b (Heap.lt_size e)) q⟩
    ·refine(I4.hok b u e).stay (fun c v hcc q=>hx c v ?_ q) (fun _ q=>q) fun _ _ q=>q
     rintro rfl
     rcases hcc with z|z
     ·rw[←z]at e
      have:=I4.free
      rw[show H' c=none from this]at e;cases e
     ·have:=I4.free
      rw[show H' c=none from this]at z;cases z
    ·obtain⟨_,f1,f2',f3,f4,f5⟩:=f2 b hb
     exact⟨f3,f1,f4,f5⟩
   exact J1.track hD' (Nat.le_of_lt hlen) hv' (hx _ _ hDC gD) (.inr I2.sz) (fun z=>by have q:=I2.lt;rw[←z]at q;exact Nat.lt_irrefl _ q) Dcell Dpin
  ·refine thn (T.item (cxCompE X (M++frees) scope C s2 H2 fp XE) rfl rfl rfl hc i _ s' _ H' (XE C s2 H2 fp) IP FP st' go) fun r s4 ⟨u,hr,h4⟩=>?_
   subst hr
   refine thn h4 fun _ s5 ⟨xv,H5,I5,r5,y5,st5,fr5⟩=>?_
   have I5':=I5.pinned (fok (pp:=[(s2.heap.objs.size,{cls:=.type "list",data:=.seq its.toArray k})]) fr5 (fun p hp=>by
    have z':p=(s2.heap.objs.size,{cls:=.type "list",data:=.seq its.toArray k}):=by simpa using hp
    rw[z'])) (T.obj _ _ st5)
   have q6:=step τ xv H5 lτ y5
   refine thn (hg C s2 H2 fp _ s5 _ H5 xv _ _ I5' r5 q6) fun _ s6 ⟨σ6,H6,I6,⟨τ6,e6,l6⟩,q6'⟩=>?_
   subst e6
   refine thn (ht C s2 H2 fp _ s6 _ H6 _ I6 q6') fun b s7 ⟨H7,I7,q7⟩=>?_
   have keepT:∀{s8:Shared} {σ8:St} {H8:Hp},Inv (cxCompE X (M++frees) scope C s2 H2 fp XE) ((pins++[(s2.heap.objs.size,{cls:=.type "list",data:=.seq its.toArray k})])++pinsAt fp s5.heap) σ8 H8 s8→
     tn (i+1) s8.heap∧(∀b∈fp,H8 b=none)∧H8 s2.heap.objs.size=none∧s8.heap.get? s2.heap.objs.size=some {cls:=.type "list",data:=.seq its.toArray k}:=fun{s8 σ8 H8} I8=>by
    refine⟨T.keep _ _ _ st5 fun b hb o e=>(I8.pin (b,o) (List.mem_append_right _ (List.mem_append_right _ (mem_pinsAt hb e)))).1,fun b hb=>?_,?_,?_⟩
    ·obtain⟨o,e,d⟩:=T.obj _ _ st5 b hb
     exact(I8.pin (b,o) (List.mem_append_right _ (List.mem_append_right _ (mem_pinsAt hb e)))).2.1
    ·exact(I8.pin (s2.heap.objs.size,_) (List.mem_append_right _ (List.mem_append_left _ (List.mem_append_right _ (List.mem_singleton.mpr rfl))))).2.1
    ·exact(I8.pin (s2.heap.objs.size,_) (List.mem_append_right _ (List.mem_append_left _ (List.mem_append_right _ (List.mem_singleton.mpr rfl))))).1
   cases b with
   |false=>
    rw[if_neg Bool.false_ne_true]at q7 ⊢
    obtain⟨m',hm,w7⟩:=q7
    obtain⟨a1,a2,a3,a4⟩:=keepT I7
    exact⟨m',hm,i+1,τ6,vs,H7,its,k,l6,I7.unpinned.unpinned,a1,a2,a3,a4,hv',w7⟩
   |true=>
    rw[if_pos rfl]at q7 ⊢
    refine thn (he C s2 H2 fp _ s7 _ H7 _ I7 q7) fun u8 s8 ⟨v8,H8,I8,r8,m',hm,w8⟩=>?_
    obtain⟨a1,a2,a3,a4⟩:=keepT I8
    refine wpAny_list_append_plain (items:=its.toArray) ⟨k,a4⟩ (fun h9 pl sb=>?_) (by rw[List.size_toArray,←hv'.length];exact Nat.le_of_lt hlen)
    obtain⟨k9,e9⟩:=pl
    have ne:∀b∈fp,b≠s2.heap.objs.size:=fun b hb=>Nat.ne_of_lt (fpD b hb)
    have I9:Inv (cxCompE X (M++frees) scope C s2 H2 fp XE) pins (τ6++outs σ idx) H8 {s8 with heap:=h9} :=
     I8.unpinned.unpinned.turned (t':=s8.toks) (fun b o hb e=>(sb.2 b hb).trans e) a3 hDC (.inr (Nat.le_refl _)) (fun y c e=>Dcell y c (look y c e)) Dpin
    refine⟨m',hm,i+1,τ6,vs++[v8],H8,its++[u8],k9,l6,I9,T.keep _ _ _ a1 fun b hb o e=>(sb.2 b (ne b hb)).trans e,a2,a3,?_,hv'.snoc r8,w8⟩
    rw[List.push_toArray]at e9
    exact e9
 exact codeAny_compStart_list (loop _ rfl) (T.self _ 0 _ _ _ (T.keep _ _ _ st2 fun b _ o e=>old b o e) (loop _ rfl))
theorem pe_lcompM {X:Cx}{elt iter tg:Expr}{M:List Str}{g:TG}{pos:Pos}{ifs:List Expr}{scope:Scope}{frees:List Str}{idx:List Nat}{wi:TI}{tt:TT}{te:TE}
  (hc:X.calm=true) (S:CompScopeM X frees idx scope) (hfl:∀y∈frees,scope.names.lookup y=some .free) (hi:PI X tg iter wi) (hg:∀C s₀ H₀ ex,PG (cxComp X (M++frees) scope C s₀ H₀ ex) tg g)
  (ht:∀C s₀ H₀ ex,PTs (cxComp X (M++frees) scope C s₀ H₀ ex) ifs tt) (he:∀C s₀ H₀ ex,PE (cxComp X (M++frees) scope C s₀ H₀ ex) elt te)
  (hs:∀v,foldedSetIterable iter X.env v=pure v:=by intro _;rfl):PE X (.ListComp elt [⟨tg,iter,ifs,0⟩] scope pos) (tCompM M.length idx wi g tt te):=by
 intro pins s σ H Q I h
 rw[eval_ListComp]
 exact comp_core (M:=M) (g:=g) (XE:=noX) (use:=none) (Q':=EP X pins σ Q) hc S hfl hi (fun C s₀ H₀ ex=>by rw[cxE_no];exact hg C s₀ H₀ ex) (fun C s₀ H₀ ex=>by rw[cxE_no];exact ht C s₀ H₀ ex) (fun C s₀ H₀ ex=>by rw[cxE_no];exact he C s₀ H₀ ex) hs I h (fun _ _ _ _ _ _ _ _ _ _ (z:False)=>z.elim) fun D C H' m4 s4 hn hJ _ _ _ _ _ _ q=>by
  show ∃m,s4.heap.Ns C m∧∀h',Heap.SameBut C s4.heap h'→EP X pins σ Q (.ref D) {s4 with heap:=h'}
  exact⟨m4,hn,fun h' hsb=>⟨.ref D,H',hJ h' hsb,rfl,q⟩⟩
theorem compW_M {J:It}{tt:TT}{te:TE}{σ':St}{Q:VK}{H1:Hp}:CompWM 1 J (gName 0) tt te σ' Q H1=CompW J tt te σ' Q H1:=by
 refine propext ⟨fun⟨W,h0,h⟩=>⟨W,h0,fun i m vs H2 w=>?_⟩,fun⟨W,h0,h⟩=>⟨W,h0,fun i m vs H2 w=>?_⟩⟩
 ·obtain⟨l,h⟩:=h i m vs H2 w
  exact⟨l,h.imp id fun⟨go,st⟩=>⟨go,fun x H3 y=>(st [none] x H3 rfl y).2⟩⟩
 ·obtain⟨l,h⟩:=h i m vs H2 w
  refine⟨l,h.imp id fun⟨go,st⟩=>⟨go,fun τ x H3 lτ y=>?_⟩⟩
  match τ,lτ with
  |[o],_=>exact⟨⟨[some x],rfl,rfl⟩,st x H3 y⟩
theorem tComp_M {idx:List Nat}{wi:TI}{tt:TT}{te:TE}:tCompM 1 idx wi (gName 0) tt te=tComp idx wi tt te:=by
 funext σ H Q
 unfold tCompM tComp
 exact congrArg (wi σ H) (funext fun J=>funext fun H1=>compW_M)
theorem pe_lcomp {X:Cx}{elt iter:Expr}{x:Str}{px pos:Pos}{ifs:List Expr}{scope:Scope}{frees:List Str}{idx:List Nat}{wi:TI}{tt:TT}{te:TE}
  (hc:X.calm=true) (S:CompScope X x frees idx scope) (hfl:∀y∈frees,scope.names.lookup y=some .free) (hi:PI X (.Name x px) iter wi)
  (ht:∀C s₀ H₀ ex,PTs (cxComp X (x::frees) scope C s₀ H₀ ex) ifs tt) (he:∀C s₀ H₀ ex,PE (cxComp X (x::frees) scope C s₀ H₀ ex) elt te)
  (hs:∀v,foldedSetIterable iter X.env v=pure v:=by intro _;rfl):PE X (.ListComp elt [⟨.Name x px,iter,ifs,0⟩] scope pos) (tComp idx wi tt te):=by
 have h:=pe_lcompM (M:=[x]) (g:=gName 0) (pos:=pos) hc ⟨S.kind,S.nocell,S.loc,S.fr,S.ix,S.len,S.cl⟩ hfl hi (fun C s₀ H₀ ex=>pg_name (i:=0) S.nd rfl (.inl (lookup_relabel_local S.tgt)) (.inr (lookup_relabel_local S.tgt))) ht he hs
 exact tComp_M ▸ h
section
variable {X:Cx}
theorem call_isi:CallR X (.builtin "isinstance") (fun xs H Q=>∃x t T b,xs=[x, .ty T]∧TyOf X.K H x t∧PySem.W.kitOne X.K t (.type T)=some b∧Q (.bl b) H):=by
 intro pins s σ H xs us Q I r h
 obtain⟨x,t,T,b,rfl,ty,e,q⟩:=h
 obtain⟨u,w',rfl,rx,ry⟩:=vals2 r
 cases(show w'=Value.type T from ry)
 exact isinst_ok I rx ty e fun tk=>⟨.bl b,H,I.tok tk,rfl,q⟩
end
def compOk (osc:Scope)(N:List Str)(x:Str)(frees:List Str)(idx:List Nat)(scope:Scope):Bool :=
 scope.kind==.function&&(scope.names.all (fun y=>y.2 !=.cell)&&(scope.names.all (fun y=>y.2 !=.local||scope.names.lookup y.1==some .local)&&(scope.names.all (fun y=>y.2 !=.free||(osc.names.lookup y.1==some .cell||osc.names.lookup y.1==some .free))&&
 (scope.names.lookup x==some .local&&(decide (x::frees).Nodup&&(idx.length==frees.length&&((idx.zip frees).all (fun p=>N[p.1]?==some p.2)&&frees.all (fun y=>scope.names.lookup y==some .free))))))))
theorem zip_get {α β:Type}:∀{l:List α} {r:List β} {j:Nat} {y:β},l.length=r.length→r[j]?=some y→∃k,l[j]?=some k∧(k,y)∈l.zip r
 |[],[],j,y,_,h=>by simp at h
 |a::l,b::r,0,y,_,h=>by
  simp at h;subst h
  exact⟨a,rfl,by simp⟩
 |a::l,b::r,j+1,y,e,h=>by
  obtain⟨k,h1,h2⟩:=zip_get (l:=l) (r:=r) (j:=j) (y:=y) (by simpa using e) (by simpa using h)
  exact⟨k,by simpa using h1,by rw[List.zip_cons_cons];exact List.mem_cons_of_mem _ h2⟩
theorem compOk_scope {X:Cx}{osc:Scope}{N:List Str}{x:Str}{frees:List Str}{idx:List Nat}{scope:Scope}(h:compOk osc N x frees idx scope=true)(ho:X.env.scope=osc)(hN:X.N=N):
  CompScope X x frees idx scope∧∀y∈frees,scope.names.lookup y=some .free:=by
 unfold compOk at h
 simp only[Bool.and_eq_true,List.all_eq_true,Bool.or_eq_true,bne_iff_ne,beq_iff_eq,decide_eq_true_eq]at h
 obtain⟨h1,h2,h3,h4,h5,h6,h7,h8,h9⟩:=h
 have fl:∀y∈frees,scope.names.lookup y=some .free:=fun y hy=>h9 y hy
 refine⟨⟨h1,h2,fun y hy e=>?_,h5,h6,fun y hy e=>?_,fun j y hj=>?_,h7,fun y hy=>mem_of_lookup' (fl y hy)⟩,fl⟩
 ·rcases h3 y hy with q|q
  ·exact absurd e q
  ·exact q
 ·have q:osc.names.lookup y.1=some .cell∨osc.names.lookup y.1=some .free:=by
   rcases h4 y hy with q|q
   ·exact absurd e q
   ·exact q
  rw[←ho]at q
  exact q
 ·obtain⟨k,e1,e2⟩:=zip_get h7 hj
  exact⟨k,e1,by rw[hN];exact h8 (k,y) e2⟩
theorem pe_lc {X:Cx}{elt iter:Expr}{x:Str}{px pos:Pos}{ifs:List Expr}{scope:Scope}{wi:TI}{tt:TT}{te:TE}(osc:Scope)(N:List Str)(frees:List Str)(idx:List Nat)
  (hk:compOk osc N x frees idx scope=true) (hi:PI X (.Name x px) iter wi)
  (ht:∀C s₀ H₀ ex,PTs (cxComp X (x::frees) scope C s₀ H₀ ex) ifs tt) (he:∀C s₀ H₀ ex,PE (cxComp X (x::frees) scope C s₀ H₀ ex) elt te)
  (ho:X.env.scope=osc:=by rfl) (hN:X.N=N:=by rfl) (hc:X.calm=true:=by rfl) (hs:∀v,foldedSetIterable iter X.env v=pure v:=by intro _;rfl):PE X (.ListComp elt [⟨.Name x px,iter,ifs,0⟩] scope pos) (tComp idx wi tt te):=by
 obtain⟨S,fl⟩:=compOk_scope (X:=X) hk ho hN
 exact pe_lcomp hc S fl hi ht he hs
def Nx (n i:Nat)(p:Prop):Prop:=∃m',m'<n-i∧m'=n-(i+1)∧i+1≤n∧p
theorem nx {n i:Nat}{p:Prop}(h:i<n)(q:p):Nx n i p:=⟨n-(i+1),by omega,rfl,h,q⟩
theorem comp_range {lo:Int}{n:Nat}{tt:TT}{te:TE}{σ':St}{Q:VK}{H:Hp}(Pv:Nat→List V→Hp→Prop)(h0:Pv 0 [] H)(hlen:∀i vs H2,i≤n→Pv i vs H2→vs.length<sizeLine)
  (hs:∀i vs H2,i<n→Pv i vs H2→tt (some (.int (lo+i))::σ') H2 fun b H4=>if b=true then te (some (.int (lo+i))::σ') H4 fun v H5=>Nx n i (Pv (i+1) (vs++[v]) H5) else Nx n i (Pv (i+1) vs H4))
  (hd:∀vs H2,Pv n vs H2→∀l,H2 l=none→Q (.ref l) (upd H2 l (.lst vs))):CompW (Itr lo n) tt te σ' Q H:=by
 refine⟨fun i m vs H=>m=n-i∧i≤n∧Pv i vs H,⟨n,by simp,Nat.zero_le _,h0⟩,?_⟩
 rintro i m vs H2 ⟨rfl,hi,p⟩
 refine⟨hlen i vs H2 hi p,?_⟩
 by_cases hlt:i<n
 ·refine .inr ⟨hlt,?_⟩
  rintro v H3 ⟨rfl,rfl⟩
  exact hs i vs H3 hlt p
 ·have e:i=n:=by omega
  subst e
  exact .inl ⟨Nat.le_refl _,hd vs H2 p⟩
def EntryIs (w:World)(p:Str×V)(e:DictEntry):Prop:=e.hash=hashStr w p.1∧(∃t,e.key=.str p.1 t)∧RelV p.2 e.val
def StrDict (K:PySem.W.Frag)(w:World)(a:Addr)(fs:List (Str×V)):Prop :=
 (a==sysModules)=false∧∃o es ep,K.lookup a=some o∧o.ExactDict∧o.data=.dict es ep∧Paired (EntryIs w) fs es.toList
theorem entries_find {w:World}{P:Program}:∀{fs:List (Str×V)} {es:List DictEntry} (k:Str),Paired (EntryIs w) fs es→RelO (fs.lookup k) ((es.find? fun e=>(strKind P w).is k e.key).map (·.val))
 |_,_,k, .nil=>trivial
 |_,_,k, .cons (a:=p) (b:=e) h t=>by
  obtain⟨h1,⟨t',h2⟩,h3⟩:=h
  have ih:=entries_find (P:=P) k t
  obtain⟨x,v⟩:=p
  rw[List.lookup_cons,List.find?_cons]
  have q:(strKind P w).is k e.key=(k==x):=by
   show Value.isStrOf k e.key=_
   rw[h2]
   show Value.isStrOf k (.str x t')=_
   rw[Bool.eq_iff_iff]
   simp[Value.isStrOf]
   first|done|(constructor<;>intro z<;>first|exact z|exact z.symm)
  rw[q]
  cases k==x with
  |true=>exact h3
  |false=>exact ih
section
variable {X:Cx}{pins:List (Addr×Obj)}{σ:St}{H:Hp}{s:Shared}
theorem Inv.strDict {a:Addr}{fs:List (Str×V)}(I:Inv X pins σ H s)(d:StrDict X.K X.w a fs):∃f,s.heap.MapOf (strKind X.prog X.w) a f∧∀k,RelO (fs.lookup k) (f k):=by
 obtain⟨_,o,es,ep,h1,h2,h3,h4⟩:=d
 refine⟨fun k=>findBy (strKind X.prog X.w).is es k,⟨o,es,ep,I.kIn _ _ h1,h2,h3,fun e he=>?_,fun k=>rfl⟩,fun k=>?_⟩
 ·have key:∀{fs:List (Str×V)} {l:List DictEntry},Paired (EntryIs X.w) fs l→e∈l→∃k,(strKind X.prog X.w).is k e.key=true∧e.hash=(strKind X.prog X.w).hash k:=by
   intro fs l p
   induction p with
   |nil=>intro hm;cases hm
   |@cons p e' l₁ l₂ h t ih=>
    intro hm
    rcases List.mem_cons.mp hm with rfl|hm
    ·obtain⟨q1,⟨t',q2⟩,_⟩:=h
     refine⟨p.1,?_,q1⟩
     show Value.isStrOf p.1 e.key=true
     rw[q2]
     simp[Value.isStrOf]
    ·exact ih hm
  exact key h4 (Array.mem_toList_iff.mpr he)
 ·have q:=entries_find (P:=X.prog) k h4
  show RelO (fs.lookup k) ((Array.find? (fun e=>(strKind X.prog X.w).is k e.key) es).map (·.val))
  rw[←Array.find?_toList]
  exact q
theorem ix_dict:IxR X (fun x y H Q=>∃z a fs v,x=.ref a∧y=.str z∧StrDict X.K X.w a fs∧fs.lookup z=some v∧Q v H):=by
 intro value slice pins s σ H x y v u Q I rx ry h hs
 obtain⟨z,a,fs,r,rfl,rfl,d,hl,q⟩:=h
 cases rx
 obtain⟨t,rfl⟩:=ry
 obtain⟨f,hm,hf⟩:=I.strDict d
 have:=hf z
 rw[hl]at this
 obtain⟨w',e,rw'⟩:=RelO.some_of this
 exact tail_any (ops:=[.ref a, .str z t]) hm.typeIs PySem.F.slot_dict_getitem.lookup (wpAny_getItem_of (knd:=strKind X.prog X.w) (k:=z) (by show Value.isStrOf z (.str z t)=true;simp[Value.isStrOf]) hm e ⟨r,H,I.tok _,rw',q⟩) hs
theorem pe_callE {CX:CXT}{func:Expr}{tf:TE}{pos:Pos}{e:Expr}{es:List Expr}{t:TA}{E:XK}(ok:Addr→Sp→Prop)
  (hok:∀f sp,ok f sp→∃k fd ps,FnOk X.prog X.w X.K X.mg X.base CX k f fd ps sp∧Room k X.A∧PySem.W.keepIn X.K (.ref f)=true∧Binds X.K fd ps []) (hf:PE X func tf) (hx:Passes CX X E)
  (ha:PA X (e::es) t) (hev:eval (.Call func (e::es) [] pos) X.env=(do callWith pos (←eval func X.env) [] (backTo pos (starEach (e::es) X.env)) (backToKw pos (keywordEach [] X.env))):=by rfl)
  (he:starEach (e::es) X.env=(false,eval e X.env)::starEach es X.env:=by rfl) (hpl:(backTo pos (starEach es X.env)).any (·.1)=false:=by rfl):
  PE X (.Call func (e::es) [] pos) (fun σ H Q=>tf σ H fun x H1=>∃f sp,x=.ref f∧ok f sp∧tCall sp [] E t σ H1 Q):=by
 intro pins s σ H Q I h
 refine Call_ (thn (hf pins s σ H _ I h) fun u s1 ⟨x,H1,I1,r1,f,sp,ex,hfo,q⟩=>?_) hev
 subst ex
 cases r1
 obtain⟨k,fd,ps,F,hr,hk,hb⟩:=hok f sp hfo
 refine PySem.W.callWith_K (h₀:=X.base) I1.ok.mod.kin hk (thn (ha pos pins s1 σ H1 _ I1 q) fun us s2 ⟨vs,H2,I2,r,q2⟩=>⟨I2.kIn,?_⟩) he hpl
 exact run_fn F hr hb .nil hx I2 r q2
end
section
variable {X:Cx}
end
end L2
namespace Fw
open PySem PySem.Spec PyProof.Rows L2
inductive T where
 |int (i:Int)
 |str (x:Str)
 |tup (l:List T)
mutual
def T.sz:T→Nat
 |.int _=>1
 |.str _=>1
 |.tup l=>1+szs l
def szs:List T→Nat
 |[]=>0
 |t::r=>t.sz+szs r
end
mutual
inductive Rep (H:Hp):V→T→Prop where
 |int (i:Int):Rep H (.int i) (.int i)
 |str (x:Str) (h:x.length≤100000):Rep H (.str x) (.str x)
 |tup {a:Addr} {vs:List V} {ts:List T} (h:H a=some (.tup vs)) (r:Reps H vs ts):Rep H (.ref a) (.tup ts)
inductive Reps (H:Hp):List V→List T→Prop where
 |nil:Reps H [] []
 |cons {v:V} {t:T} {vs:List V} {ts:List T} (r:Rep H v t) (q:Reps H vs ts):Reps H (v::vs) (t::ts)
end
theorem Same.tups {H H':Hp}(e:Same H H'):∀b xs,H b=some (.tup xs)→H' b=some (.tup xs):=fun b xs h=>e b _ h
theorem same_new {H:Hp}{p:Addr}(h:H p=none)(o:HO):Same H (upd H p o):=fun b u q=>by rw[upd_ne (ne_of_none q h)];exact q
section
variable (kids:T→Option (List T))
inductive Good:T→Prop where
 |mk {t:T} {l:List T} (h:kids t=some l) (q:∀k∈l,Good k):Good t
inductive Bad:T→Prop where
 |none {t:T} (h:kids t=none):Bad t
 |kid {t:T} {l:List T} {k:T} (h:kids t=some l) (m:k∈l) (q:Bad k):Bad t
end
def Has (P:Program)(w:World)(K:PySem.W.Frag)(mg:Str→Option Value)(base:Heap)(k:Nat)(x:Str)(ps:List Str)(sp:Sp):Prop :=
 ∃f fd,FnOk P w K mg base CX0 k f fd ps sp∧Binds K fd ps []∧PySem.W.keepIn K (.ref f)=true∧mg x=some (.ref f)
theorem pcall {X:Cx}{k j:Nat}{x:Str}{ps:List Str}{sp:Sp}{p pos:Pos}{e:Expr}{es:List Expr}{t:TA}(h:Has X.prog X.w X.K X.mg X.base k x ps sp)(hr:Room j X.A)(hkj:k≤j)(hg:Gl X x)(ha:PA X (e::es) t)
  (hdb:(x==("__debug__":Str))=false:=by decide) (he:starEach (e::es) X.env=(false,eval e X.env)::starEach es X.env:=by rfl) (hpl:(backTo pos (starEach es X.env)).any (·.1)=false:=by rfl):
  PE X (.Call (.Name x p) (e::es) [] pos) (tCall sp [] E0 t):=by
 obtain⟨f,fd,h1,h2,h3,h4⟩:=h
 exact pe_call h1 (hr.mono hkj) hg h4 h3 h2 .nil pass0 ha hdb he hpl
theorem tt1 {σ:L2.St}{H:Hp}{Q:Bool→Hp→Prop}(h:Q true H):tTrue σ H Q:=h
theorem small {n:Nat}(h:n≤1000000):n≤sizeLine:=Nat.le_trans h (by decide)
theorem small' {n:Nat}(h:n≤1000000):n<sizeLine:=Nat.lt_of_le_of_lt h (by decide)
section
variable {ta tb tc:TE}{t u:TT}{σ:L2.St}{H:Hp}{v x y z:V}{c c1 c2:Bool}{K:PySem.W.Frag}
end
end Fw
namespace L2
open PySem PySem.Spec PyProof.Rows
section
variable {X:Cx}
end
def Flies (P:Program)(w:World)(l:List Env)(H:Hp)(s:Shared)(C ea:Addr)(H':Hp)(s':Shared):Prop :=
 s'.os=s.os∧AllBare s'.gens∧Un (frs l) [] H H' s.heap s'.heap∧HOk P w H' s'.heap∧H' ea=none∧
 ∃(B:Heap) (t:Addr),Heap.FlyingW B l ea (.ref C) (.ref t) s'.heap∧∀b o,s'.heap.get? b=some o→b∉frs l→(H' b≠none∨∃o',s.heap.get? b=some o')→B.get? b=some o
def CXF (P:Program)(w:World):CXT:=fun l H s E e s'=>∃ea C H',e=.ref ea∧Flies P w l H s C ea H' s'∧E (.ref C) (some ea) H'
section
variable {P:Program}{w:World}{K:PySem.W.Frag}{mg:Str→Option Value}{base:Heap}{N:List Str}{qual:Str}{scope:Scope}{f:Addr}{cd:Value}{A:Around}{outer:List Env}{s:Shared}{H:Hp}{E:XK}{CX:CXT}
theorem HOk.keptT {H:Hp}{h h':Heap}(ok:HOk P w H h)(k:∀b u,H b≠none→h.get? b=some u→h'.get? b=some u):HOk P w H h':=fun a o e=>
 (ok a o e).stay (fun b u hb q=>k b u (by
  rcases hb with z|z
  ·rw[z,e];simp
  ·rw[z];simp) q) (fun _ q=>q) fun _ _ q=>q
theorem ObjOk.there {H:Hp}{h:Heap}{a:Addr}{o:HO}(x:ObjOk P w H h a o):∃ob,h.get? a=some ob:=by
 cases o with
 |lst xs=>obtain⟨_,_,_,_,e⟩:=x;exact⟨_,e⟩
 |tup xs=>obtain⟨_,_,_,ob,e,_⟩:=x;exact⟨_,e⟩
 |dK kvs=>obtain⟨_,_,_,_,o,_,_,e,_⟩:=x;exact⟨_,e⟩
 |dT kvs=>obtain⟨_,_,_,_,o,_,_,e,_⟩:=x;exact⟨_,e⟩
 |set S n=>obtain⟨o,_,_,_,e,_⟩:=x;exact⟨_,e⟩
 |ins C dx fs=>obtain⟨_,_,_,e,_⟩:=x;exact⟨_,e⟩
 |own y=>exact x
 |xd fs=>obtain⟨mA,⟨o,es,ep,e,_⟩,_⟩:=x;exact⟨_,e⟩
 |rng lo hi=>obtain⟨_,_,_,e⟩:=x;exact⟨_,e⟩
 |frz o u=>exact⟨_,x.1⟩
 |tbl ps=>exact⟨_,x⟩
 |met f y=>exact⟨_,x⟩
 |ext φ=>exact x.2.1
theorem left_un {X:Cx}{pins:List (Addr×Obj)}{σ:St}{H1:Hp}{s1:Shared}{h':Heap}(hex:X.ex=[])(I:Inv X pins σ H1 s1)
  (kp:∀b o,s1.heap.get? b=some o→b∉frs X.stack→(H1 b≠none∨∃o',X.s₀.heap.get? b=some o')→h'.get? b=some o)
  (sl:s1.heap.UpToSlots h'):Un X.fs [] X.H₀ H1 X.s₀.heap h'∧HOk X.prog X.w H1 h':=by
 have nx:∀b:Addr,b∉X.ex:=fun b z=>by rw[hex]at z;cases z
 have nostk:∀{b o},X.s₀.heap.get? b=some o→b∉X.fs→b∉frs X.stack:=fun{b o} e hb z=>by
  rcases List.mem_cons.mp (I.stkSub b z) with q|q
  ·have h1:=Heap.lt_size e
   have h2:=I.ok.above
   rw[q]at h1
   exact absurd (Nat.lt_of_lt_of_le h1 h2) (Nat.lt_irrefl _)
  ·exact hb q
 have trk:∀{b},H1 b≠none→b∉frs X.stack:=fun{b} n z=>n (I.stkFree b z)
 have frame:∀{b o},X.s₀.heap.get? b=some o→X.H₀ b=none→b∈X.fs→∃sl',h'.get? b=some {o with slots:=sl'}:=fun{b o} e n hb=>by
  obtain⟨s2,q⟩:=I.base.slot b o e n hb (nx b)
  obtain⟨_,o',ho',hnf⟩:=I.ok.funs.mem hb
  rw[e]at ho';cases ho'
  obtain⟨s3,q3⟩:=sl b _ q hnf
  exact⟨s3,q3⟩
 refine⟨⟨fun b o e n hb _=>kp b o (I.base.keep b o e n hb (nx b)) (nostk e hb) (.inr ⟨o,e⟩),fun b o e n hb _=>frame e n hb,fun b o e n _=>I.base.free b o e n (nx b),fun b o e _=>?_,I.base.tups,I.base.frzs,I.base.tbls⟩,I.hok.keptT fun b u n q=>kp b u q (trk n) (.inl n)⟩
 by_cases hb:b∈X.fs
 ·obtain⟨s3,q3⟩:=frame e (I.ok.frf b hb) hb
  exact⟨_,q3⟩
 ·obtain⟨o',q⟩:=I.base.there b o e (nx b)
  exact⟨o',kp b o' q (nostk e hb) (.inr ⟨o,e⟩)⟩
theorem passes_up:Passes (CXF P w) (cxOf (CXF P w) P w K mg base N qual scope f cd A outer s H E) E:=by
 intro pins σ H1 s1 e s' I h
 obtain⟨ea,C,H',rfl,⟨os,bare,un,hok,nea,B,t,fl,keepB⟩,hE⟩:=h
 have J:Inv (cxOf (CXF P w) P w K mg base N qual scope f cd A outer s H E) pins σ H' s':=I.call' os un hok bare (fun b z=>absurd z (by simp))
 show wpAny _ _ (leaving _ (.ref ea)) _ _ s'
 refine wpAny_leaves_onW I.ok.frames rfl fl fun h' x1 x2=>?_
 have kp:∀b o,s'.heap.get? b=some o→b∉frs (cxOf (CXF P w) P w K mg base N qual scope f cd A outer s H E).stack→(H' b≠none∨∃o',s.heap.get? b=some o')→h'.get? b=some o:=fun b o q hb hc=>x1.1 b o (keepB b o q hb (by
  rcases hc with z|⟨o',z⟩
  ·exact .inl z
  ·exact .inr (I.base.there b o' z (by intro q;cases q))))
 obtain⟨un',hok'⟩:=left_un rfl J kp x2
 refine⟨ea,C,H',rfl,⟨J.os,J.bare,un',hok',nea,B,t,x1,fun b o q hb hc=>?_⟩,hE⟩
 have nst:b∉frs (cxOf (CXF P w) P w K mg base N qual scope f cd A outer s H E).stack:=fun z=>by
  rcases List.mem_cons.mp (J.stkSub b z) with z1|z1
  ·rcases hc with z2|⟨o',z2⟩
   ·exact z2 (J.stkFree b z)
   ·have h1:=Heap.lt_size z2
    have h2:=J.ok.above
    rw[z1]at h1
    exact absurd (Nat.lt_of_lt_of_le h1 h2) (Nat.lt_irrefl _)
  ·exact hb z1
 obtain⟨o2,q2⟩:∃o2,s'.heap.get? b=some o2:=by
  rcases hc with z|⟨o',z⟩
  ·cases hz:H' b with
   |none=>exact absurd hz z
   |some u=>exact(J.hok b u hz).there
  ·exact J.base.there b o' z (by intro q;cases q)
 have q3:=kp b o2 q2 nst hc
 rw[q]at q3
 cases q3
 refine keepB b o q2 nst ?_
 rcases hc with z|⟨o',z⟩
 ·exact .inl z
 ·exact .inr (I.base.there b o' z (by intro q;cases q))
end
section
variable {P:Program}{w:World}{K:PySem.W.Frag}{mg:Str→Option Value}{base:Heap}{N:List Str}{qual:Str}{scope:Scope}{f:Addr}{cd:Value}{A:Around}{outer:List Env}{s:Shared}{H:Hp}{E:XK}
def tRaise (C:Addr)(E:XK)(t:TA):TS:=fun _ σ H=>t σ H fun vs H1=>vs.length≤sizeLine∧∀ea,H1 ea=none→E (.ref C) (some ea) H1
theorem ps_raise {x:Str}{C:Addr}{np cpos pos:Pos}{e₀:Expr}{rest:List Expr}{t:TA}{bm:List Value}{newId B initId:String}(O:OwnCls x C bm newId mg base)(FB:ExcBaseFacts B newId initId bm)
  (hg:Gl (cxOf (CXF P w) P w K mg base N qual scope f cd A outer s H E) x) (ha:PA (cxOf (CXF P w) P w K mg base N qual scope f cd A outer s H E) (e₀::rest) t) (hdb:(x==("__debug__":Str))=false:=by decide)
  (he:starEach (e₀::rest) (cxOf (CXF P w) P w K mg base N qual scope f cd A outer s H E).env=(false,eval e₀ (cxOf (CXF P w) P w K mg base N qual scope f cd A outer s H E).env)::starEach rest (cxOf (CXF P w) P w K mg base N qual scope f cd A outer s H E).env:=by rfl)
  (hpl:(backTo cpos (starEach rest (cxOf (CXF P w) P w K mg base N qual scope f cd A outer s H E).env)).any (·.1)=false:=by rfl):
  PS (cxOf (CXF P w) P w K mg base N qual scope f cd A outer s H E) (.Raise (some (.Call (.Name x np) (e₀::rest) [] cpos)) none pos) (tRaise C E t):=by
 intro pins s1 σ H1 D I h
 obtain⟨tl,Nn,nm,q,bs,hdct,sn,sub,ab,col,dd,k0,k1,k2,k3,k5,mN,hC,hN,hni,T⟩:=O.obj
 refine wpAny_Raise_call_subT (C:=C) (nm:=nm) (q:=q) (N:=Nn) (bs:=bs) (bm:=tl) (hdct:=hdct) (sn:=sn) (sub:=sub) (ab:=ab) (col:=col) (dd:=dd) (k0:=k0) (k1:=k1) (k2:=k2) (k3:=k3) (k5:=k5)
  FB (mN:=mN) (T.hasType FB.hasBase) (I.ok.hd rfl) (by rw[he];show(false||(backTo cpos (starEach rest _)).any (·.1))=false;rw[hpl];rfl) hni (ld_glob I hg O.bound ⟨rfl,?_⟩ hdb)
 have hA:=ha cpos pins s1 σ H1 _ I h
 rw[he]at hA ⊢
 refine Calls.evalArgs_plain (thn hA fun us s2 ⟨vs,H2,I2,r,hl,hE⟩=>⟨rfl,by rw[←r.length];exact hl,I2.bk _ _ hC,hN.keeps I2.bk,T.keeps I2.bk,fun h' e hm=>?_⟩)
 show wpAny _ _ (leaving _ (.ref e)) _ _ _
 have hin:∀env∈(cxOf (CXF P w) P w K mg base N qual scope f cd A outer s H E).stack,∀b,env.frame=some b→b∈frs (cxOf (CXF P w) P w K mg base N qual scope f cd A outer s H E).stack:=fun env he b hb=>List.mem_filterMap.mpr ⟨env,he,hb⟩
 have nea:H2 e=none:=by
  cases hz:H2 e with
  |none=>rfl
  |some u=>
   obtain⟨ob,q⟩:=(I2.hok e u hz).there
   have:=hm.new
   rw[q]at this;cases this
 refine wpAny_leaves_madeW (base:=PySem.W.hideAll s2.heap (frs (cxOf (CXF P w) P w K mg base N qual scope f cd A outer s H E).stack)) (h:=s2.heap) I2.ok.frames rfl (fun b o q=>PySem.W.of_hideAll _ q) (PySem.W.funFrames_hide I2.stack hin) hm fun h'' t' x1 x2 x3 x4=>?_
 have up:s2.heap.UpToSlots h'':=(Heap.UpToSlots.of_keeps hm.keeps).trans x4
 have kp:∀b o,s2.heap.get? b=some o→b∉frs (cxOf (CXF P w) P w K mg base N qual scope f cd A outer s H E).stack→h''.get? b=some o:=fun b o q hb=>x1.1 b o (PySem.W.hideAll_get _ q hb)
 obtain⟨un',hok'⟩:=left_un rfl I2 (fun b o q hb _=>kp b o q hb) up
 refine⟨e,C,H2,rfl,⟨I2.os,I2.bare,un',hok',nea,_,t',x1,fun b o q hb hc=>?_⟩,hE e nea⟩
 have nst:b∉frs (cxOf (CXF P w) P w K mg base N qual scope f cd A outer s H E).stack:=fun z=>by
  rcases List.mem_cons.mp (I2.stkSub b z) with z1|z1
  ·rcases hc with z2|⟨o',z2⟩
   ·exact z2 (I2.stkFree b z)
   ·have h1:=Heap.lt_size z2
    have h2:=I2.ok.above
    rw[z1]at h1
    exact absurd (Nat.lt_of_lt_of_le h1 h2) (Nat.lt_irrefl _)
  ·exact hb z1
 obtain⟨o2,q2⟩:∃o2,s2.heap.get? b=some o2:=by
  rcases hc with z|⟨o',z⟩
  ·cases hz:H2 b with
   |none=>exact absurd hz z
   |some u=>exact(I2.hok b u hz).there
  ·exact I2.base.there b o' z (by intro q;cases q)
 have q3:=kp b o2 q2 nst
 rw[q]at q3
 cases q3
 exact PySem.W.hideAll_get _ q2 nst
theorem Fun.okX {x:Str}{st:Stmt}{fd:FuncData}{ps:List Str}{k:Nat}{sp:Sp}(F:Fun K x qual st f fd)(S:FnScope N ps (defScope st))(len:∀vs H Q E,sp vs H Q E→vs.length=ps.length)
  (hbody:∀(cdv:Value) (A:Around) (outer:List Env) (s:Shared) (H:Hp) (vs:List V) (Q:VK) (E:XK),Room k (A.deeper (envOfC qual (defScope st) s.heap.objs.size f cdv))→sp vs H Q E→
   ∃t,PSs (cxOf (CXF P w) P w K mg base N qual (defScope st) f cdv A outer s H E) (defBody st) t∧t {nx:=fun _ H'=>Q .non H',rt:=Q} (start N vs) H):FnOk P w K mg base (CXF P w) (k+1) f fd ps sp:=by
 obtain⟨oc,od,kV,doc,pm,an,cdv,ct,osl,rfl,lk,hcd⟩:=F.ex
 exact fn_of lk hcd S len fun A outer s H vs Q E hr hsp=>hbody cdv A outer s H vs Q E hr hsp
end
end L2
namespace PySem
theorem wpAny_excMatches_own {M:Model}{A:Around}{E:Value→Shared→Prop}{nm q nm' q':Str}{C N D N':Addr}{bs bm bs' bm':List Value}{hdct hdct':Bool}{sn sn':List Str}{sub sub':List Value}{ab ab':Bool}{col col':Option Bool}{dd dd':Option Addr}{k0 k1 k2 k3 k5 j0 j1 j2 j3 j5:Option Value}{newId newId':String}
  {h:Heap} {g:Array GenState} {d:Drawn} {t:Nat} {os:OsState} {e:Addr} {oe:Obj} {Q:Bool→Shared→Prop}
  (hC:h.get? C=some (excClassObj nm q C N bs bm hdct sn sub ab col dd k0 k1 k2 k3 k5 newId)) (hD:h.get? D=some (excClassObj nm' q' D N' bs' bm' hdct' sn' sub' ab' col' dd' j0 j1 j2 j3 j5 newId')) (he:h.get? e=some oe) (hcls:oe.cls=.ref C) (hbase:bm'.contains (.type "BaseException")=true) (hsub:(Value.ref C::bm).contains (.ref D)=true)
  (hq:Q true ⟨h,g,d,t,os⟩):wpAny M A (excMatches (.ref e) (.ref D)) Q E ⟨h,g,d,t,os⟩:=by
 have hcB:(Value.ref D::bm').contains (.type "BaseException")=true:=by rw[List.contains_cons,hbase,Bool.or_true]
 have f:=tc_notTuple
 unfold excMatches
 repeat (first|(with_reducible refine wpAny_loadPart_at he ?_;rw[hcls])|with_reducible refine wpAny_loadPart_at hD ?_|(with_reducible refine wpAny_isSubtype_exc hD ?_;rw[hcB])|(with_reducible refine wpAny_isSubtype_exc hC ?_;rw[hsub])|wp_step)
 exact hq
end PySem
namespace L2
open PySem PySem.Spec PyProof.Rows
def cxTry (X:Cx)(pins:List (Addr×Obj))(xe:Value→Shared→Prop):Cx:={X with pn:=X.pn++pins,xe:=xe}
section
variable {X:Cx}{pins p2:List (Addr×Obj)}{σ:St}{H:Hp}{s:Shared}{xe:Value→Shared→Prop}
theorem cxTry_ok (ok:X.Ok):(cxTry X pins xe).Ok:=⟨ok.mod,ok.kind,ok.glob,ok.blt,ok.above,ok.inj,ok.has,ok.cab,ok.hd,ok.frames,ok.stk,ok.exf,ok.bs,ok.bsz,ok.noex,ok.exfs,ok.funs,ok.frf⟩
theorem cxTry_ko (ok:(cxTry X pins xe).Ok):X.Ok:=⟨ok.mod,ok.kind,ok.glob,ok.blt,ok.above,ok.inj,ok.has,ok.cab,ok.hd,ok.frames,ok.stk,ok.exf,ok.bs,ok.bsz,ok.noex,ok.exfs,ok.funs,ok.frf⟩
theorem Inv.toTry (I:Inv X pins σ H s):Inv (cxTry X pins xe) [] σ H s :=
 ⟨cxTry_ok I.ok,I.os,I.bare,I.base,I.loc,I.cell,I.free,I.freeC,fun p hp=>I.pin p (by
  have:p∈(X.pn++pins)++[]:=hp
  rwa [List.append_nil]at this),I.hok,I.len⟩
theorem Inv.ofTry (I:Inv (cxTry X pins xe) p2 σ H s):Inv X pins σ H s :=
 ⟨cxTry_ko I.ok,I.os,I.bare,I.base,I.loc,I.cell,I.free,I.freeC,fun p hp=>I.pin p (List.mem_append_left _ hp),I.hok,I.len⟩
theorem Inv.stays {h':Heap}(hex:X.ex=[])(I:Inv X pins σ H s)
  (kp:∀b o,s.heap.get? b=some o→b∉frs X.stack→(H b≠none∨(∃o',X.s₀.heap.get? b=some o')∨b∈(X.pn++pins).map (·.1))→h'.get? b=some o) (sl:s.heap.UpToSlots h'):Inv X pins σ H {s with heap:=h'}:=by
 obtain⟨un,hok⟩:=left_un hex I (fun b o q hb hc=>kp b o q hb (hc.elim .inl fun z=>.inr (.inl z))) sl
 obtain⟨m,hn,hl⟩:=I.loc
 have cel:∀{c v},s.heap.IsCell c v→h'.IsCell c v:=fun{c v} ⟨o,q,hd⟩=>by
  obtain⟨sl',q'⟩:=sl c o q (fun vs z=>by rw[hd]at z;cases z)
  exact⟨_,q',hd⟩
 have un2:Un X.fs X.ex X.H₀ H X.s₀.heap h':=by rw[hex];exact un
 refine⟨I.ok,I.os,I.bare,un2,⟨m,sl.ns hn,fun i x v q1 q2 q3=>?_⟩,fun x c q=>?_,I.free,I.freeC,fun p hp=>?_,hok,I.len⟩
 ·obtain⟨u,r,l⟩:=hl i x v q1 q2 q3
  refine⟨u,r,?_⟩
  rcases l with l|⟨l1,c,l2,l3⟩
  ·exact .inl l
  ·exact .inr ⟨l1,c,l2,cel l3⟩
 ·obtain⟨v,q'⟩:=I.cell x c q
  exact⟨v,cel q'⟩
 ·obtain⟨p1,p2,p3,p4,p5⟩:=I.pin p hp
  refine⟨kp _ _ p1 (fun z=>?_) (.inr (.inr (List.mem_map_of_mem hp))),p2,p3,p4,p5⟩
  rcases List.mem_cons.mp (I.stkSub _ z) with z1|z1
  ·exact p3 z1
  ·exact p4 z1
end
def XT (X:Cx)(pins:List (Addr×Obj))(EX:St→XK):Value→Shared→Prop:=fun e s'=>∃ea C σ H',e=.ref ea∧Inv X pins σ H' s'∧H' ea=none∧
 (∃(B:Heap) (t:Addr),Heap.FlyingW B X.stack ea (.ref C) (.ref t) s'.heap∧(∀p∈X.pn++pins,p.1≠ea)∧∀b o,s'.heap.get? b=some o→b∉frs X.stack→(H' b≠none∨(∃o',X.s₀.heap.get? b=some o')∨b∈(X.pn++pins).map (·.1))→B.get? b=some o)∧EX σ (.ref C) (some ea) H'
def tCallT (sp:Sp)(EX:St→XK)(t:TA):TE:=fun σ H Q=>t σ H fun vs H1=>sp vs H1 Q (EX σ)
def cxSuite (X:Cx)(ea:Addr)(pins:List (Addr×Obj)):Cx:={X with A:=X.A.mark (some (.ref ea)),calm:=false,pn:=X.pn++pins,xe:=fun _ _=>False}
section
variable {X:Cx}{pins p2:List (Addr×Obj)}{σ:St}{H:Hp}{s:Shared}{ea:Addr}
theorem Inv.toSuite (I:Inv X pins σ H s):Inv (cxSuite X ea pins) [] σ H s :=
 ⟨⟨I.ok.mod,I.ok.kind,I.ok.glob,I.ok.blt,I.ok.above,I.ok.inj,I.ok.has,I.ok.cab,(fun z=>by cases z),I.ok.frames,I.ok.stk,I.ok.exf,I.ok.bs,I.ok.bsz,I.ok.noex,I.ok.exfs,I.ok.funs,I.ok.frf⟩,
  I.os,I.bare,I.base,I.loc,I.cell,I.free,I.freeC,fun p hp=>I.pin p (by
  have:p∈(X.pn++pins)++[]:=hp
  rwa [List.append_nil]at this),I.hok,I.len⟩
theorem Inv.ofSuite (hd:X.calm=true→X.A.handled=none)(I:Inv (cxSuite X ea pins) p2 σ H s):Inv X pins σ H s :=
 ⟨⟨I.ok.mod,I.ok.kind,I.ok.glob,I.ok.blt,I.ok.above,I.ok.inj,I.ok.has,I.ok.cab,hd,I.ok.frames,I.ok.stk,I.ok.exf,I.ok.bs,I.ok.bsz,I.ok.noex,I.ok.exfs,I.ok.funs,I.ok.frf⟩,
  I.os,I.bare,I.base,I.loc,I.cell,I.free,I.freeC,fun p hp=>I.pin p (List.mem_append_left _ hp),I.hok,I.len⟩
theorem Inv.morePin {o:Obj}(I:Inv X pins σ H s)(e:s.heap.get? ea=some o)(n:H ea=none)(nl:ea≠X.env.locals)(nf:ea∉X.fs)(nc:∀v,o.data≠.cell v):Inv X (pins++[(ea,o)]) σ H s :=
 ⟨I.ok,I.os,I.bare,I.base,I.loc,I.cell,I.free,I.freeC,fun p hp=>by
  rw[←List.append_assoc]at hp
  rcases List.mem_append.mp hp with hp|hp
  ·exact I.pin p hp
  ·rw[List.mem_singleton]at hp
   subst hp
   exact⟨e,n,nl,nf,nc⟩,I.hok,I.len⟩
theorem Inv.lessPin (I:Inv X (pins++p2) σ H s):Inv X pins σ H s :=
 ⟨I.ok,I.os,I.bare,I.base,I.loc,I.cell,I.free,I.freeC,fun p hp=>I.pin p (by rw[←List.append_assoc];exact List.mem_append_left _ hp),I.hok,I.len⟩
theorem name_gone {M:Model}{A:Around}{E:Value→Shared→Prop}{i:Nat}{n:Str}{pos:Pos}{Q:Unit→Shared→Prop}(I:Inv X pins σ H s)(hN:X.N.Nodup)(hi:X.N[i]?=some n)(hn:X.env.scope.names.lookup n=some .local)
  (h:∀s',Inv X pins (σ.set i none) H s'→Q () s'):wpAny M A (do bindName X.env n .none;unbindBehindTheSuite X.env n pos) Q E s:=by
 obtain⟨m,hns,hl⟩:=I.loc
 refine wpAny_nameGoes_keeps (m:=m) hn hns (by rw[I.ok.kind];rfl) fun h' v hns' hsb=>h _ ?_
 have same:∀{b},b≠X.env.locals→h'.get? b=s.heap.get? b:=fun nb=>hsb.2 _ nb
 have old:∀{b o},X.s₀.heap.get? b=some o→b≠X.env.locals:=fun{b o} e z=>by
  have h1:=Heap.lt_size e
  have h2:=I.ok.above
  rw[z]at h1
  exact absurd (Nat.lt_of_lt_of_le h1 h2) (Nat.lt_irrefl _)
 have cel:∀{c u},c≠X.env.locals→s.heap.IsCell c u→h'.IsCell c u:=fun nc ⟨o,q,hd⟩=>⟨o,(same nc).trans q,hd⟩
 refine⟨I.ok,I.os,I.bare,⟨fun b o e n' hb hx=>(same (old e)).trans (I.base.keep b o e n' hb hx),fun b o e n' hb hx=>?_,I.base.free,fun b o e hx=>?_,I.base.tups,I.base.frzs,I.base.tbls⟩,⟨_,hns',fun j y u e1 e2 e3=>?_⟩,fun x c q=>?_,I.free,I.freeC,fun p hp=>?_,I.hok.keptT fun b u nb q=>?_,by rw[List.length_set];exact I.len⟩
 ·obtain⟨sl,q⟩:=I.base.slot b o e n' hb hx
  exact⟨sl,(same (old e)).trans q⟩
 ·obtain⟨o',q⟩:=I.base.there b o e hx
  exact⟨o',(same (old e)).trans q⟩
 ·have hji:j≠i:=fun z=>by
   rw[z,List.getElem?_set]at e2
   simp only[if_true]at e2
   split at e2<;>cases e2
  rw[List.getElem?_set_ne (Ne.symm hji)]at e2
  have hyn:y≠n:=fun z=>by
   rw[z]at e1
   obtain⟨l1,q1⟩:=List.getElem?_eq_some_iff.mp e1
   obtain⟨l2,q2⟩:=List.getElem?_eq_some_iff.mp hi
   rcases Nat.lt_or_gt_of_ne hji with lt|lt
   ·exact List.pairwise_iff_getElem.mp hN _ _ l1 l2 lt (q1.trans q2.symm)
   ·exact List.pairwise_iff_getElem.mp hN _ _ l2 l1 lt (q2.trans q1.symm)
  obtain⟨w',r,l⟩:=hl j y u e1 e2 e3
  refine⟨w',r,?_⟩
  rcases l with ⟨l1,l2⟩|⟨l1,c,l2,l3⟩
  ·exact .inl ⟨l1,by show(if y=n then v else m y)=some w';rw[if_neg hyn];exact l2⟩
  ·exact .inr ⟨l1,c,l2,cel (I.cne y c l2) l3⟩
 ·obtain⟨v',q'⟩:=I.cell x c q
  exact⟨v',cel (I.cne x c q) q'⟩
 ·obtain⟨p1,p2',p3,p4,p5⟩:=I.pin p hp
  exact⟨(same p3).trans p1,p2',p3,p4,p5⟩
 ·exact(same (fun z=>nb (by rw[z];exact I.free))).trans q
end
def CatchOk (h:Heap)(C D:Addr):Prop:=∃(nm q nm' q':Str) (N N':Addr) (bs bm bs' bm':List Value) (hdct hdct':Bool) (sn sn':List Str) (sub sub':List Value) (ab ab':Bool) (col col':Option Bool) (dd dd':Option Addr) (k0 k1 k2 k3 k5 j0 j1 j2 j3 j5:Option Value) (newId newId':String),
 h.get? C=some (excClassObj nm q C N bs bm hdct sn sub ab col dd k0 k1 k2 k3 k5 newId)∧h.get? D=some (excClassObj nm' q' D N' bs' bm' hdct' sn' sub' ab' col' dd' j0 j1 j2 j3 j5 newId')∧bm'.contains (.type "BaseException")=true∧(Value.ref C::bm).contains (.ref D)=true
def endsLess (i:Nat)(D:Ends):Ends:={nx:=fun σ H=>D.nx (σ.set i none) H,rt:=D.rt,bk:=fun σ H=>D.bk (σ.set i none) H,ct:=fun σ H=>D.ct (σ.set i none) H}
def tTry (i:Nat)(EX:St→XK)(tb:TS)(ts:Addr→Addr→TS):TS:=fun D σ H=>tb D σ H∧∀σ' C ea H',EX σ' (.ref C) (some ea) H'→H' ea=none→ts ea C (endsLess i D) (σ'.set i (some (.ref ea))) H'
def objO (a:Addr)(o:Obj):HO:=.ext fun h=>h.get? a=some o
def del (H:Hp)(c:Addr):Hp:=fun b=>if b=c then none else H b
section
variable {P:Program}{w:World}{H H':Hp}{h h':Heap}{a b c:Addr}{o:Obj}
theorem del_same:del H c c=none:=if_pos rfl
theorem del_ne (n:b≠c):del H c b=H b:=if_neg n
theorem objO_ok (e:h.get? a=some o):ObjOk P w H h a (objO a o):=⟨e,⟨o,e⟩,fun h1 h2 q k=>k o q⟩
theorem objO_at (ok:HOk P w H h)(q:H a=some (objO a o)):h.get? a=some o:=(ok a _ q).1
theorem objO_own {y:Addr}(e:H c=some (objO c o))(q:H b=some (.own y)):b≠c:=fun z=>by
 rw[z,e]at q
 have q':some (HO.ext _)=some (HO.own y):=q
 cases q'
theorem objO_tup {xs:List V}(e:H c=some (objO c o))(q:H b=some (.tup xs)):b≠c:=fun z=>by
 rw[z,e]at q
 have q':some (HO.ext _)=some (HO.tup xs):=q
 cases q'
theorem HOk.del (ok:HOk P w H h)(e:H c=some (objO c o)):HOk P w (L2.del H c) h:=fun b u q=>by
 by_cases hb:b=c
 ·rw[hb,del_same]at q;cases q
 ·rw[del_ne hb]at q
  exact(ok b u q).stay (fun _ _ _ e=>e) (fun d r=>by rw[del_ne (objO_own e r)];exact r) fun d xs r=>by rw[del_ne (objO_tup e r)];exact r
theorem HOk.obj (ok:HOk P w H h)(n:H c=none)(e:h.get? c=some o):HOk P w (upd H c (objO c o)) h:=fun b u q=>by
 by_cases hb:b=c
 ·subst hb;rw[upd_same]at q;cases q;exact objO_ok e
 ·rw[upd_ne hb]at q
  exact(ok b u q).stay (fun _ _ _ e=>e) (fun d r=>by rw[upd_ne (ne_of_none r n)];exact r) fun d xs r=>by rw[upd_ne (ne_of_none r n)];exact r
theorem Un.lent {fs:List Addr}{H1:Hp}(un:Un fs [] (upd H c (objO c o)) H1 h h')(n:H c=none)(e:h.get? c=some o)(e':H1 c=some (objO c o))(k:h'.get? c=some o):Un fs [] H (L2.del H1 c) h h' where
 keep:=fun b ob q m hb hx=>by
  by_cases z:b=c
  ·subst z;rw[e]at q;cases q;exact k
  ·exact un.keep b ob q (by rw[upd_ne z];exact m) hb hx
 slot:=fun b ob q m hb hx=>by
  by_cases z:b=c
  ·subst z;rw[e]at q;cases q;exact⟨o.slots,k⟩
  ·exact un.slot b ob q (by rw[upd_ne z];exact m) hb hx
 free:=fun b ob q m hx=>by
  by_cases z:b=c
  ·rw[z];exact del_same
  ·rw[del_ne z];exact un.free b ob q (by rw[upd_ne z];exact m) hx
 there:=fun b ob q hx=>un.there b ob q hx
 tups:=fun b xs q=>by
  have z:=ne_of_none q n
  rw[del_ne z];exact un.tups b xs (by rw[upd_ne z];exact q)
 frzs:=fun b ob u q=>by
  have z:=ne_of_none q n
  rw[del_ne z];exact un.frzs b ob u (by rw[upd_ne z];exact q)
 tbls:=fun b ps q=>by
  have z:=ne_of_none q n
  rw[del_ne z];exact un.tbls b ps (by rw[upd_ne z];exact q)
end
open PySem PySem.Spec PyProof.Rows PySem.Builtin.Getset_descriptor
section
variable {K:PySem.W.Frag}{M:Model}{h:Heap}{x C:Addr}{name:Str}{ax gx:Value}
theorem exc_ty {ob:Obj}(e:h.get? x=some ob)(c:ob.cls=.ref C):PySem.W.Looks M h (typeOf (.ref x)) (.ref C):=by
 rw[←c]
 exact(PySem.W.Looks.ld e).andThen .now
theorem find_data (X:K.In h)(h1:PySem.W.findIn K (.ref C) name=some (some ax))(h2:PySem.W.specialIn K ax "__get__"=some (some gx))(h3:PySem.W.takesIn K ax=some true):
  PySem.W.Looks M h (Builtin.ObjectAttr.find (.ref x) (.ref C) name) (.bind gx ax):=by
 have e1:=PySem.W.looks_findIn (M:=M) X h1
 have e2:PySem.W.Looks M h (Builtin.ObjectAttr.getOf (some ax)) (some gx):=PySem.W.looks_specialIn X h2
 have e3:PySem.W.Looks M h (Builtin.ObjectAttr.dataDescriptor? (some ax) (some gx)) (some (gx,ax)):=(PySem.W.looks_takesIn X h3).andThen .now
 exact e1.andThen (e2.andThen (e3.andThen (.tag .now)))
end
section
variable {prog:Program}{w:World}{A:Around}{E:Value→Shared→Prop}{s:Shared}{K:PySem.W.Frag}{x C:Addr}{ob:Obj}
theorem exc_class_get {R:Result→Shared→Prop}{tp:Value}(X:K.In s.heap)(e:s.heap.get? x=some ob)(c:ob.cls=.ref C)(hm:PySem.W.mroIn K C (.type "object")=some true)(q:R (.ok (.ret (.ref C))) s):
  codeAny (model prog w) A (.call (.builtin "getset_descriptor.__get__") ⟨[.builtin "object.__class__", .ref x,tp],[]⟩) R s:=by
 obtain⟨hp,gn,dr,tk,os⟩:=s
 have y1:=exc_ty (M:=model prog w) e c
 have y2:=PySem.W.looks_mroIn (M:=model prog w) X hm
 refine codeAny_call_builtin PySem.W.KF.slot_gs.plain PySem.W.KF.entry_gs ?_
 refine PySem.W.KF.slot_gs.check _ _ _ _ _ _ _ _ PySem.W.KF.type_class (PySem.W.KF.args_gs _ _ _) ?_
 unfold Builtin.«getset_descriptor.__get__»
 unfold descrGet
 rw[PySem.W.dga_obj]
 refine wpAny_bind (wpAny_pure ?_)
 unfold descrGetter descrCheckInstance
 unfold descrNameAndClass isInstance
 simp only[PySem.W.KF.owner_class]
 repeat lk
 refine⟨Code.quiet_builtin _ (by decide+kernel),?_⟩
 refine codeAny_builtin PySem.W.KF.entry_class ?_
 unfold Builtin.«object.__class__»
 unfold shownTypeOf
 repeat lk
 exact q
theorem exc_check {Q:Unit→Shared→Prop}{nameV:Value}(X:K.In s.heap)(e:s.heap.get? x=some ob)(c:ob.cls=.ref C)(gb:PySem.W.mroIn K C (.type "BaseException")=some true)(q:Q () s):
  wpAny (model prog w) A (checkBuiltinCall "BaseException.__getattribute__" ⟨[.ref x,nameV],[]⟩) Q E s:=by
 obtain⟨hp,gn,dr,tk,os⟩:=s
 have y1:=exc_ty (M:=model prog w) e c
 have y2:=PySem.W.looks_mroIn (M:=model prog w) X gb
 have k1:builtinKind "BaseException.__getattribute__"=some .slot:=by decide+kernel
 have k2:splitId "BaseException.__getattribute__"=some ("BaseException","__getattribute__"):=by decide+kernel
 have k3:=F.args_bexc_ga (.ref x) nameV
 simp only[checkBuiltinCall,k1,k2]
 unfold isInstance
 refine wpAny_bind (wpAny_bind (y1.at (y2.at ?_)))
 rw[if_neg (by decide)]
 cases hz:Manifest.signature? "BaseException.__getattribute__" with
 |none=>exact wpAny_pure q
 |some sig=>
  simp only[argsOk,hz]at k3
  have k4:Bind.checkArgs "BaseException.__getattribute__" sig ⟨[.ref x,nameV],[]⟩=pure ():=k3
  show wpAny _ _ (Bind.checkArgs "BaseException.__getattribute__" sig ⟨[.ref x,nameV],[]⟩) _ _ _
  rw[k4]
  exact wpAny_pure q
variable (g0:PySem.W.findIn K (.ref C) "__getattribute__"=some (some (.builtin "BaseException.__getattribute__")))(g1:PySem.W.findIn K (.ref C) "__getattr__"=some none)(gb:PySem.W.mroIn K C (.type "BaseException")=some true)
 (g2:PySem.W.findIn K (.ref C) "__class__"=some (some (.builtin "object.__class__"))) (g3:PySem.W.specialIn K (.builtin "object.__class__") "__get__"=some (some (.builtin "getset_descriptor.__get__")))
 (g4:PySem.W.takesIn K (.builtin "object.__class__")=some true) (g5:PySem.W.mroIn K C (.type "object")=some true)
include g0 g1 gb g2 g3 g4 g5
theorem exc_class {Q:Option Value→Shared→Prop}(X:K.In s.heap)(e:s.heap.get? x=some ob)(c:ob.cls=.ref C)(q:Q (some (.ref C)) {s with toks:=s.toks+1}):wpAny (model prog w) A (getAttr? (.ref x) "__class__") Q E s:=by
 obtain⟨hp,gn,dr,tk,os⟩:=s
 have y1:=exc_ty (M:=model prog w) e c
 have y2:=PySem.W.looks_findIn (M:=model prog w) X g0
 have y3:=PySem.W.looks_findIn (M:=model prog w) X g1
 have y4:=find_data (M:=model prog w) (x:=x) X g2 g3 g4
 unfold getAttr? getAttrBy?
 unfold getAttrBy
 refine wpAny_bind (wpAny_mkText ?_)
 refine wpAny_bind (wpAny_attempt (wpAny_holding ?_))
 refine wpAny_bind (y1.at ?_)
 refine wpAny_bind (y2.at ?_)
 show wpAny _ _ (getAttrByItsOwn _ _ _ _ _ _) _ _ _
 unfold getAttrByItsOwn
 refine wpAny_bind ((show PySem.W.Looks (model prog w) hp (hookBefore (.ref C)) none from y3).at ?_)
 refine wpAny_bind (wpAny_attempt (wpAny_holding ?_))
 show wpAny _ _ (boundAndCalled _ _ _) _ _ _
 unfold boundAndCalled
 rw[F.excAttr_ValueError.ga.bind]
 refine wpAny_bind (wpAny_pure (wpAny_call (codeAny_call_builtin F.excAttr_ValueError.ga.plain F.entry_bexc_ga (exc_check X e c gb ?_))))
 unfold Builtin.«object.__getattribute__»
 refine wpAny_bind (wpAny_pure (wpAny_bind (wpAny_pure (wpAny_bind (y1.at (wpAny_bind (y4.at ?_)))))))
 show wpAny _ _ (holding [_] (call _ [_,_,_])>>=ret) _ _ _
 refine wpAny_bind (wpAny_holding (wpAny_call (exc_class_get X e c g5 ?_)))
 refine wpAny_pure ?_
 exact PySem.W.handed_on rfl (wpAny_pure q)
end
structure ExcCls (K:PySem.W.Frag)(C:Addr):Prop where
 g0:PySem.W.findIn K (.ref C) "__getattribute__"=some (some (.builtin "BaseException.__getattribute__"))
 g1:PySem.W.findIn K (.ref C) "__getattr__"=some none
 gb:PySem.W.mroIn K C (.type "BaseException")=some true
 g2:PySem.W.findIn K (.ref C) "__class__"=some (some (.builtin "object.__class__"))
 g3:PySem.W.specialIn K (.builtin "object.__class__") "__get__"=some (some (.builtin "getset_descriptor.__get__"))
 g4:PySem.W.takesIn K (.builtin "object.__class__")=some true
 g5:PySem.W.mroIn K C (.type "object")=some true
 lk:∃c0 d0 cd sl,K.lookup C=some ⟨c0,d0, .cls cd,sl⟩
theorem kitx_exc {K:PySem.W.Frag}{x C:Addr}(S:ExcCls K C):PySem.W.KitX K (.ref x) (.ref C) (fun h=>∃ob,h.get? x=some ob∧ob.cls=.ref C) where
 ty:=fun _ _ _ ⟨ob,e,c⟩=>exc_ty e c
 it:=fun M h X _=>by
  obtain⟨c0,d0,cd,sl,q⟩:=S.lk
  intro A' Q' E' s' k z
  unfold isType
  unfold loadHead
  exact wpAny_bind (wpAny_loadPart (k _ _ (X _ _ q)) (wpAny_pure z))
 ne:=fun h tp dd its n sl X e=>by
  obtain⟨c0,d0,cd,sl',q⟩:=S.lk
  cases hz:(Value.ref C==Value.ref tp) with
  |false=>rfl
  |true=>
   have z:C=tp:=by simpa using hz
   have e2:=X _ _ q
   rw[z,e]at e2
   cases e2
 ca:=fun{prog w A E Q s} X ⟨ob,e,c⟩ k=>exc_class S.g0 S.g1 S.gb S.g2 S.g3 S.g4 S.g5 X e c k
section
variable {X:Cx}
theorem call_isiE:CallR X (.builtin "isinstance") (fun xs H Q=>∃ea ob C D b,xs=[.ref ea, .ref D]∧H ea=some (objO ea ob)∧ob.cls=.ref C∧ExcCls X.K C∧PySem.W.kitOne X.K (.ref C) (.ref D)=some b∧Q (.bl b) H):=by
 intro pins s σ H xs us Q I r h
 obtain⟨ea,ob,C,D,b,rfl,e,c,S,k,q⟩:=h
 obtain⟨u,u',rfl,rx,ry⟩:=vals2 r
 cases(show u=Value.ref ea from rx)
 cases(show u'=Value.ref D from ry)
 exact PySem.W.kia_one (kitx_exc S) I.kIn ⟨ob,objO_at I.hok e,c⟩ k (fun z=>nomatch z) fun tk=>⟨.bl b,H,I.tok tk,rfl,q⟩
theorem call_isiT:CallR X (.builtin "isinstance") (fun xs H Q=>∃ea ob C T b,xs=[.ref ea, .ty T]∧H ea=some (objO ea ob)∧ob.cls=.ref C∧ExcCls X.K C∧PySem.W.kitOne X.K (.ref C) (.type T)=some b∧Q (.bl b) H):=by
 intro pins s σ H xs us Q I r h
 obtain⟨ea,ob,C,T,b,rfl,e,c,S,k,q⟩:=h
 obtain⟨u,u',rfl,rx,ry⟩:=vals2 r
 cases(show u=Value.ref ea from rx)
 cases(show u'=Value.type T from ry)
 exact PySem.W.kia_one (kitx_exc S) I.kIn ⟨ob,objO_at I.hok e,c⟩ k (fun z=>nomatch z) fun tk=>⟨.bl b,H,I.tok tk,rfl,q⟩
theorem vals_refs:∀{ds:List Addr} {us:List Value},Vals (ds.map V.ref) us→us=ds.map Value.ref
 |[],us,r=>by cases r;rfl
 |d::ds,us,r=>by
  cases r with
  |cons a b=>rw[List.map_cons,←vals_refs b];cases(show _=Value.ref d from a);rfl
theorem call_isiN:CallR X (.builtin "isinstance") (fun xs H Q=>∃(ea:Addr) (ob:Obj) (C tp:Addr) (ds:List Addr) (b:Bool),xs=[.ref ea, .ref tp]∧H ea=some (objO ea ob)∧ob.cls=.ref C∧ExcCls X.K C∧H tp=some (.tup (ds.map V.ref))∧PySem.W.kitAny X.K (.ref C) (ds.map Value.ref)=some b∧Q (.bl b) H):=by
 intro pins s σ H xs us Q I r h
 obtain⟨ea,ob,C,tp,ds,b,rfl,e,c,S,et,k,q⟩:=h
 obtain⟨u,u',rfl,rx,ry⟩:=vals2 r
 cases(show u=Value.ref ea from rx)
 cases(show u'=Value.ref tp from ry)
 obtain⟨_,its,rv,o,ho,hc,n,hd⟩:=(show ObjOk X.prog X.w H s.heap tp (.tup (ds.map V.ref)) from I.hok tp _ et)
 have ei:=vals_refs rv
 subst ei
 obtain⟨oc,od,dt,sl⟩:=o
 have hc':oc=.type "tuple":=hc
 have hd':dt=.seq (ds.map Value.ref).toArray n:=hd
 subst hc' hd'
 exact PySem.W.kia_tup (kitx_exc S) I.kIn ⟨ob,objO_at I.hok e,c⟩ ho k (fun z=>nomatch z) fun tk=>⟨.bl b,H,I.tok tk,rfl,q⟩
end
structure RoomM (k:Nat)(A:Around):Prop where
 dp:A.depth+3*k+5<recursionLimit
 un:A.units+16*k+200<cLine
theorem Room.marked {k:Nat}{A:Around}{e:Option Value}(r:Room k A):RoomM k (A.mark e):=⟨r.dp,r.un⟩
theorem RoomM.deeper {k:Nat}{A:Around}(r:RoomM (k+1) A)(env:Env):RoomM k (A.deeper env) :=
 ⟨by have:=r.dp;show A.depth+1+3*k+5<_;omega,by have:=r.un;show A.units+3+16*k+200<_;omega⟩
structure FnOkM (P:Program)(w:World)(K:PySem.W.Frag)(mg:Str→Option Value)(base:Heap)(k:Nat)(f:Addr)(fd:FuncData)(ps:List Str)(sp:Sp):Prop where
 len:∀vs H Q E,sp vs H Q E→vs.length=ps.length
 run:∀(A:Around) (outer:List Env) (s:Shared) (H:Hp) (args:Args) (us:List Value) (vs:List V) (Q:VK) (E:XK),RoomM k A→Env0 P w K mg base A outer s H→BindsTo s fd args (ps.zip us)→Vals vs us→sp vs H Q E→
  codeAny (model P w) A (.call (.ref f) args) (CR CX0 outer P w H s Q E) s
def cxOfM (P:Program)(w:World)(K:PySem.W.Frag)(mg:Str→Option Value)(base:Heap)(N:List Str)(qual:Str)(scope:Scope)(f:Addr)(cd:Value)(A:Around)(outer:List Env)(s:Shared)(H:Hp):Cx :=
 {cxOf CX0 P w K mg base N qual scope f cd A outer s H E0 with calm:=false,xe:=fun _ _=>False}
theorem Fun.okM {P:Program}{w:World}{K:PySem.W.Frag}{mg:Str→Option Value}{base:Heap}{x qual:Str}{st:Stmt}{f:Addr}{fd:FuncData}{N ps:List Str}{k:Nat}{sp:Sp}(F:Fun K x qual st f fd)(S:FnScope N ps (defScope st))(len:∀vs H Q E,sp vs H Q E→vs.length=ps.length)
  (hbody:∀(cdv:Value) (A:Around) (outer:List Env) (s:Shared) (H:Hp) (vs:List V) (Q:VK) (E:XK),RoomM k (A.deeper (envOfC qual (defScope st) s.heap.objs.size f cdv))→sp vs H Q E→
   ∃t,PSs (cxOfM P w K mg base N qual (defScope st) f cdv A outer s H) (defBody st) t∧t {nx:=fun _ H'=>Q .non H',rt:=Q} (start N vs) H):FnOkM P w K mg base (k+1) f fd ps sp:=by
 obtain⟨oc,od,kV,doc,pm,an,cdv,ct,osl,rfl,lk,hcd⟩:=F.ex
 refine⟨len,fun A outer s H args us vs Q E hr e0 hb r hsp=>?_⟩
 have hl:=len _ _ _ _ hsp
 have KX:K.In s.heap:=e0.mod.kin.keeps fun b o q=>(e0.bs b o q).1
 have lim:s.heap.NoLimit:=e0.mod.nolimit.keeps fun b o q=>(e0.bs b o q).1
 have hdep:A.depth<recursionLimit:=by have:=hr.dp;omega
 have kinds:∀y∈ps.zip us,(defScope st).names.lookup y.1=some .local∨((defScope st).names.lookup y.1=some .cell∧((cellsFrom (s.heap.objs.size+1) (defScope st).names []).lookup y.1).isSome=true):=fun y hy=>by
  have hm:(y.1,y.2)∈ps.zip us:=hy
  rcases S.par y.1 (List.of_mem_zip hm).1 with z|z
  ·exact .inl z
  ·exact .inr ⟨z,PySem.W.cellsFrom_some _ _ _ (.inl z)⟩
 refine codeAny_call_function hdep (KX _ _ lk) rfl S.co S.gen rfl (PySem.W.codeRec_of KX hcd) ?_
 refine hb _ _ _ _ ?_
 refine wpAny_newFunctionEnv_cells S.kind kinds fun env he s1 y=>?_
 subst he
 refine⟨lim.keeps y.toInCall.keep,?_⟩
 refine codeAny_func ?_
 obtain⟨t,ht,hq⟩:=hbody cdv A outer s H vs Q E (hr.deeper _) hsp
 have e1:Env0 P w K mg base {A with handled:=none} outer s H:=⟨e0.frames,e0.mod,e0.bs,e0.bsz,e0.funs,e0.frf,e0.hok,e0.bare⟩
 have I0:=inv_start (CX:=CX0) (qual:=qual) (f:=f) (cd:=cdv) (E:=E0) S (A:={A with handled:=none}) rfl e1 hl r y
 have I:Inv (cxOfM P w K mg base N qual (defScope st) f cdv A outer s H) [] (start N vs) H s1 :=
  ⟨⟨I0.ok.mod,I0.ok.kind,I0.ok.glob,I0.ok.blt,I0.ok.above,I0.ok.inj,I0.ok.has,I0.ok.cab,(fun z=>by cases z),Around.frames_deeper e0.frames,I0.ok.stk,I0.ok.exf,I0.ok.bs,I0.ok.bsz,I0.ok.noex,I0.ok.exfs,I0.ok.funs,I0.ok.frf⟩,
   I0.os,I0.bare,I0.base,I0.loc,I0.cell,I0.free,I0.freeC,I0.pin,I0.hok,I0.len⟩
 refine wpAny_mono (ht [] s1 (start N vs) H _ I hq) (fun fl s' hs=>?_) fun e s' z=>False.elim z
 cases fl with
 |ret u=>
  obtain⟨v,σ',H',J,rv,q⟩:=hs
  exact⟨v,H',J.os,J.bare,J.base,J.hok,rv,q⟩
 |next=>
  obtain⟨σ',H',J,q⟩:=hs
  exact⟨V.non,H',J.os,J.bare,J.base,J.hok,rfl,q⟩
 |brk=>
  obtain⟨_,_,_,q⟩:=hs
  exact False.elim q
 |cont=>
  obtain⟨_,_,_,q⟩:=hs
  exact False.elim q
def tCallE (ea:Addr)(oe:Obj)(sp:Sp)(t:TA):TE:=fun σ H Q=>t σ H fun vs H1=>H1 ea=none→sp vs (upd H1 ea (objO ea oe)) (fun r H'=>H' ea=some (objO ea oe)∧Q r (del H' ea)) E0
theorem pe_callX {X:Cx}{k:Nat}{x:Str}{ps:List Str}{sp:Sp}{p pos:Pos}{e:Expr}{es:List Expr}{t:TA}{f ea:Addr}{oe:Obj}{fd:FuncData}(F:FnOkM X.prog X.w X.K X.mg X.base k f fd ps sp)(hb:Binds X.K fd ps [])(hk:PySem.W.keepIn X.K (.ref f)=true)(hm:X.mg x=some (.ref f))(hr:RoomM k X.A)(hg:Gl X x)
  (hp:(ea,oe)∈X.pn) (nb:X.base.get? ea=none) (ha:PA X (e::es) t)
  (hdb:(x==("__debug__":Str))=false:=by decide) (he:starEach (e::es) X.env=(false,eval e X.env)::starEach es X.env:=by rfl) (hpl:(backTo pos (starEach es X.env)).any (·.1)=false:=by rfl):
  PE X (.Call (.Name x p) (e::es) [] pos) (tCallE ea oe sp t):=by
 intro pins s σ H Q I h
 refine wpAny_Call_Name_kw (ld_glob I hg hm ?_ hdb)
 refine PySem.W.callWith_K (h₀:=X.base) I.ok.mod.kin hk (thn (ha pos pins s σ H _ I h) fun us s1 ⟨vs,H1,I1,r,q⟩=>⟨I1.kIn,?_⟩) he hpl
 obtain⟨ho,n1,p3,p4,p5⟩:=I1.pin (ea,oe) (List.mem_append_left _ hp)
 have e0:Env0 X.prog X.w X.K X.mg X.base X.A X.stack s1 (upd H1 ea (objO ea oe)):=⟨I1.ok.frames,I1.ok.mod,fun b o q=>⟨(I1.bs b o q).1,by
   rw[upd_ne (fun z=>by rw[z,nb]at q;cases q)];exact(I1.bs b o q).2⟩,Nat.le_trans I1.ok.bsz I1.sz,I1.stack,fun b hb'=>by
   have z:b≠ea:=fun z=>by
    rcases List.mem_cons.mp (I1.stkSub b hb') with z1|z1
    ·exact p3 (z.symm.trans z1)
    ·exact p4 (z ▸ z1)
   rw[upd_ne z];exact I1.stkFree b hb',I1.hok.obj n1 ho,I1.bare⟩
 have q':=q n1
 have hl':us.length=ps.length:=by rw[←r.length];exact F.len _ _ _ _ q'
 have bt:BindsTo s1 fd ⟨us,[]⟩ (ps.zip us):=by
  have:=hb s1 us I1.kIn (by rw[List.append_nil];exact hl')
  rw[List.append_nil]at this
  exact this
 refine wpAny_call (codeAny_mono (F.run X.A X.stack s1 _ ⟨us,[]⟩ us vs _ _ hr e0 bt r q') fun r' s' hq=>?_)
 cases r' with
 |error e=>exact False.elim hq
 |ok fl=>
  cases fl with
  |ret u'=>
   obtain⟨v',H',os,bare,un,hok,r2,q1,q2⟩:=hq
   exact I1.after ⟨v',_,os,bare,un.lent n1 ho q1 (objO_at hok q1),hok.del q1,r2,q2⟩
  |next=>exact False.elim hq
  |brk=>exact False.elim hq
  |cont=>exact False.elim hq
def HT (X:Cx)(pins:List (Addr×Obj))(EX:St→XK):Value→Shared→Prop:=fun e s2=>∃(ea C:Addr) (σ:St) (H':Hp) (s1:Shared) (B:Heap) (t:Addr) (h4:Heap),e=.ref ea∧s2={s1 with heap:=h4}∧Inv X pins σ H' s1∧H' ea=none∧
 Heap.HeldW B (X.env::X.outer) ea (.ref C) (.ref t) X.env.locals h4∧s1.heap.UpToSlots h4∧(∀p∈X.pn++pins,p.1≠ea)∧
 (∀b o,s1.heap.get? b=some o→b∉frs X.stack→(H' b≠none∨(∃o',X.s₀.heap.get? b=some o')∨b∈(X.pn++pins).map (·.1))→B.get? b=some o)∧EX σ (.ref C) (some ea) H'
def LT (X:Cx)(pins:List (Addr×Obj))(EX:St→XK):Value→Shared→Prop:=fun e s=>wpAny (model X.prog X.w) X.A (noteFrame e X.env) (fun _ s2=>HT X pins EX e s2) (fun _ _=>False) s
theorem xt_lt {X:Cx}{pins:List (Addr×Obj)}{EX:St→XK}{e:Value}{s1:Shared}(hst:X.stack=X.env::X.outer)(hfr:X.env.frame=some X.env.locals)(q:XT X pins EX e s1):LT X pins EX e s1:=by
 obtain⟨ea,C,σ',H',rfl,J,nea,⟨B,t,fl,npin,keepB⟩,hE⟩:=q
 have fl':Heap.FlyingW B (X.env::X.outer) ea (.ref C) (.ref t) s1.heap:=by rw[←hst];exact fl
 have hfrm:X.A.frames=some (X.env::X.outer):=by rw[←hst];exact J.ok.frames
 exact wpAny_looks_onW hfrm hfr fl' fun h4 held4 sm4=>⟨ea,C,σ',H',s1,B,t,h4,rfl,rfl,J,nea,held4,sm4,npin,keepB,hE⟩
theorem lt_own {X:Cx}{pins:List (Addr×Obj)}{EX:St→XK}:PassesOwn (model (cxTry X pins (LT X pins EX)).prog (cxTry X pins (LT X pins EX)).w) (cxTry X pins (LT X pins EX)).A (cxTry X pins (LT X pins EX)).env (cxTry X pins (LT X pins EX)).xe:=PassesOwn.looking (M:=model X.prog X.w) (A:=X.A) (env:=X.env) (K:=HT X pins EX) (E₁:=fun _ _=>False)
theorem ps_forT {X:Cx}{pins:List (Addr×Obj)}{EX:St→XK}{tg iter:Expr}{body:List Stmt}{wi:TI}{g:TG}{tb:TS}{pos:Pos}(hc:(cxTry X pins (LT X pins EX)).calm=true)(hi:PI (cxTry X pins (LT X pins EX)) tg iter wi)(hg:PG (cxTry X pins (LT X pins EX)) tg g)(hb:PSs (cxTry X pins (LT X pins EX)) body tb)
  (hs:∀x,foldedSetIterable iter (cxTry X pins (LT X pins EX)).env x=pure x:=by intro _;rfl):PS (cxTry X pins (LT X pins EX)) (.For tg iter body [] pos) (tFor wi g tb):=ps_for lt_own hc hi hg hb hs
theorem pe_callTL {X:Cx}{pins0:List (Addr×Obj)}{EX:St→XK}{k:Nat}{x:Str}{ps:List Str}{sp:Sp}{p pos:Pos}{e:Expr}{es:List Expr}{t:TA}{f:Addr}{fd:FuncData}(hst:X.stack=X.env::X.outer)(hfr:X.env.frame=some X.env.locals)(hex:X.ex=[])(F:FnOk X.prog X.w X.K X.mg X.base (CXF X.prog X.w) k f fd ps sp)(hb:Binds X.K fd ps [])(hk:PySem.W.keepIn X.K (.ref f)=true)(hm:X.mg x=some (.ref f))(hr:Room k X.A)(hg:Gl X x)
  (ha:PA (cxTry X pins0 (LT X pins0 EX)) (e::es) t) (hdb:(x==("__debug__":Str))=false:=by decide) (he:starEach (e::es) X.env=(false,eval e X.env)::starEach es X.env:=by rfl) (hpl:(backTo pos (starEach es X.env)).any (·.1)=false:=by rfl):
  PE (cxTry X pins0 (LT X pins0 EX)) (.Call (.Name x p) (e::es) [] pos) (tCallT sp EX t):=by
 intro pins s σ H Q I h
 refine wpAny_Call_Name_kw (ld_glob I hg hm ?_ hdb)
 refine PySem.W.callWith_K (h₀:=X.base) I.ok.mod.kin hk (thn (ha pos pins s σ H _ I h) fun us s1 ⟨vs,H1,I1,r,q⟩=>⟨I1.kIn,?_⟩) he hpl
 have hl':us.length=ps.length:=by rw[←r.length];exact F.len _ _ _ _ q
 have bt:BindsTo s1 fd ⟨us,[]⟩ (ps.zip us):=by
  have:=hb s1 us I1.kIn (by rw[List.append_nil];exact hl')
  rw[List.append_nil]at this
  exact this
 refine wpAny_call (codeAny_mono (F.run X.A X.stack s1 H1 ⟨us,[]⟩ us vs Q (EX σ) hr I1.env0 bt r q) fun r' s' hq=>?_)
 cases r' with
 |error e=>
  obtain⟨ea,C,H',rfl,⟨os,bare,un,hok,nea,B,tt,fl,keepB⟩,hE⟩:=hq
  have J0:Inv (cxTry X pins0 (LT X pins0 EX)) pins σ H' s':=I1.call' os un hok bare (fun b z=>absurd z (by simp))
  have J:=J0.ofTry
  have I1':=I1.ofTry
  have nfr:∀{b},b∈(X.pn++pins0).map (·.1)→b∉frs X.stack:=fun{b} hb z=>by
   obtain⟨p,hp,rfl⟩:=List.mem_map.mp hb
   obtain⟨p1,p2,p3,p4,p5⟩:=I1'.pin p hp
   rcases List.mem_cons.mp (I1'.stkSub _ z) with z1|z1
   ·exact p3 z1
   ·exact p4 z1
  refine xt_lt hst hfr ⟨ea,C,σ,H',rfl,J,nea,⟨B,tt,fl,fun p hp z=>?_,fun b o q hb hc=>keepB b o q hb ?_⟩,hE⟩
  ·obtain⟨p1,_⟩:=I1'.pin p hp
   have j1:=(J.pin p hp).1
   have:=keepB p.1 p.2 j1 (nfr (List.mem_map_of_mem hp)) (.inr ⟨_,p1⟩)
   rw[z,fl.2.1]at this
   cases this
  ·rcases hc with z|⟨o',z⟩|z
   ·exact .inl z
   ·exact .inr (I1'.base.there b o' z (by rw[hex];simp))
   ·obtain⟨p,hp,rfl⟩:=List.mem_map.mp z
    exact .inr ⟨_,(I1'.pin p hp).1⟩
 |ok fl=>
  cases fl with
  |ret u=>exact I1.after hq
  |next=>exact False.elim hq
  |brk=>exact False.elim hq
  |cont=>exact False.elim hq
theorem ps_tryL {X:Cx}{body suite:List Stmt}{b₀:Stmt}{y n:Str}{np hpos pos:Pos}{tb:TS}{ts:Addr→Addr→TS}{EX:St→XK}{D:Addr}{i:Nat}(hex:X.ex=[])(hst:X.stack=X.env::X.outer)(hfr:X.env.frame=some X.env.locals)
  (hN:X.N.Nodup) (hi:X.N[i]?=some n) (hn:X.env.scope.names.lookup n=some .local) (hg:Gl X y) (hm:X.mg y=some (.ref D)) (hcls:∀σ C ea H',EX σ (.ref C) ea H'→CatchOk X.base C D)
  (hb:∀pins,PSs (cxTry X pins (LT X pins EX)) body tb) (hs:∀ea C oe pins,(ea,oe)∈pins→oe.cls=.ref C→X.base.get? ea=none→PSs (cxSuite X ea pins) (b₀::suite) (ts ea C)) (hdb:(y==("__debug__":Str))=false:=by decide):
  PS X (.Try body [.ExceptHandler (some (.Name y np)) (some n) (b₀::suite) hpos] [] [] pos) (tTry i EX tb ts):=by
 intro pins s σ H De I h
 obtain⟨h1,h2⟩:=h
 refine wpAny_Try_except (wpAny_mono (hb pins [] s σ H De I.toTry h1) (fun f s1 q=>?_) (fun e s1 q=>?_))
 ·cases f with
  |next=>obtain⟨σ',H',J,q⟩:=q;exact wpAny_execs_nil ⟨σ',H',J.ofTry,q⟩
  |ret u=>obtain⟨v,σ',H',J,r,q⟩:=q;exact⟨v,σ',H',J.ofTry,r,q⟩
  |brk=>obtain⟨σ',H',J,q⟩:=q;exact⟨σ',H',J.ofTry,q⟩
  |cont=>obtain⟨σ',H',J,q⟩:=q;exact⟨σ',H',J.ofTry,q⟩
 ·refine wpAny_mono q (fun _ s2 hq=>?_) (fun _ _ z=>z.elim)
  obtain⟨ea,C,σ',H',s1,B,t,h4,rfl,rfl,J,nea,held4,sm4,npin,keepB,hE⟩:=hq
  refine wpAny_landsW held4 fun h5 fl5 sm5=>?_
  have J5:Inv X pins σ' H' {s1 with heap:=h5}:=J.stays hex (fun b o q hb hc=>fl5.1 b o (keepB b o q hb hc)) (sm4.trans sm5)
  have rel:∀{b},(H' b≠none∨(∃o',X.s₀.heap.get? b=some o')∨b∈(X.pn++pins).map (·.1))→∃o1,s1.heap.get? b=some o1:=fun{b} hc=>by
   rcases hc with z|⟨o',z⟩|z
   ·cases hz:H' b with
    |none=>exact absurd hz z
    |some u=>exact(J.hok b u hz).there
   ·exact J.base.there b o' z (by rw[hex];simp)
   ·obtain⟨p,hp,rfl⟩:=List.mem_map.mp z
    exact⟨_,(J.pin p hp).1⟩
  obtain⟨oe,hoe,hoec⟩:=fl5.there
  obtain⟨nm,q,nm',q',N,N',bs,bm,bs',bm',hdct,hdct',sn,sn',sub,sub',ab,ab',col,col',dd,dd',k0,k1,k2,k3,k5,j0,j1,j2,j3,j5,newId,newId',hC,hD,hbase,hsub⟩:=hcls σ' C _ H' hE
  refine wpAny_handleBy_cons (codeAny_handlers_test (ld_glob (X:=cxSuite X ea pins) J5.toSuite hg hm ?_ hdb)) (by intro q;cases q)
  refine wpAny_excMatches_own (J5.bk _ _ hC) (J5.bk _ _ hD) hoe hoec hbase hsub ?_
  refine codeAny_handlers_suite_as ?_
  refine lands_againW fl5 fun h6 fl6 sm6=>?_
  have J6:Inv X pins σ' H' {s1 with heap:=h6}:=Inv.stays (s:={s1 with heap:=h5}) hex J5 (fun b o q hb hc=>by
   obtain⟨o1,q1⟩:=rel hc
   have k1':=keepB b o1 q1 hb hc
   have k2':=fl5.1 b o1 k1'
   have q':h5.get? b=some o:=q
   rw[k2']at q'
   cases q'
   exact fl6.1 b o k1') sm6
  obtain⟨oe6,hoe6,hoec6⟩:=fl6.there
  obtain⟨_,_,_,oe7,ws7,_,_,_,hoe7,hoec7,hoed7,_⟩:=fl6
  have nst:ea∉frs X.stack:=fun z=>by
   obtain⟨_,o,ho,hnf⟩:=J6.stack.mem z
   have e1:h6.get? ea=some oe7:=hoe7
   have e2:h6.get? ea=some o:=ho
   rw[e1]at e2
   cases e2
   exact hnf _ hoed7
  have nl:ea≠X.env.locals:=fun z=>nst (by rw[hst,z];unfold frs;rw[List.filterMap_cons,hfr];exact List.mem_cons_self)
  have nf:ea∉X.fs:=fun z=>nst (by rw[hst];unfold frs;rw[List.filterMap_cons,hfr];exact List.mem_cons_of_mem _ z)
  have hcl7:oe7.cls=.ref C:=by
   have e1:h6.get? ea=some oe7:=hoe7
   have e2:h6.get? ea=some oe6:=hoe6
   rw[e1]at e2
   cases e2
   exact hoec6
  have nb:X.base.get? ea=none:=by
   cases hz:X.base.get? ea with
   |none=>rfl
   |some o=>
    have k1':=keepB ea o (J.bk _ _ hz) nst (.inr (.inl ⟨o,(J.ok.bs _ _ hz).1⟩))
    rw[held4.2.1]at k1'
    cases k1'
  have Jp:Inv X (pins++[(ea,oe7)]) σ' H' {s1 with heap:=h6}:=J6.morePin hoe7 nea nl nf (fun v z=>by rw[hoed7]at z;cases z)
  refine store_ok (X:=cxSuite X ea (pins++[(ea,oe7)])) Jp.toSuite hN hi (Or.inl hn) (v:=.ref ea) rfl (fun s7 J7=>?_) (.inr hn)
  refine wpAny_mono (hs ea C oe7 (pins++[(ea,oe7)]) (List.mem_append_right _ List.mem_cons_self) hcl7 nb [] s7 (σ'.set i (some (.ref ea))) H' (endsLess i De) J7 (h2 σ' C ea H' hE nea)) (fun f s8 q8=>?_) (fun _ _ z=>False.elim z)
  cases f with
  |next=>
   obtain⟨σ8,H8,J8,q⟩:=q8
   exact name_gone (J8.ofSuite I.ok.hd).lessPin hN hi hn fun s9 J9=>⟨_,H8,J9,q⟩
  |ret u=>
   obtain⟨v,σ8,H8,J8,r,q⟩:=q8
   exact name_gone (J8.ofSuite I.ok.hd).lessPin hN hi hn fun s9 J9=>⟨v,_,H8,J9,r,q⟩
  |brk=>
   obtain⟨σ8,H8,J8,q⟩:=q8
   exact name_gone (J8.ofSuite I.ok.hd).lessPin hN hi hn fun s9 J9=>⟨_,H8,J9,q⟩
  |cont=>
   obtain⟨σ8,H8,J8,q⟩:=q8
   exact name_gone (J8.ofSuite I.ok.hd).lessPin hN hi hn fun s9 J9=>⟨_,H8,J9,q⟩
structure PEx (X:Cx)(e:Expr)(t:TE):Prop where
 h:PE X e t
structure PAx (X:Cx)(es:List Expr)(t:TA):Prop where
 h:PA X es t
structure PSx (X:Cx)(st:Stmt)(t:TS):Prop where
 h:PS X st t
structure PSsx (X:Cx)(sts:List Stmt)(t:TS):Prop where
 h:PSs X sts t
section
variable {X:Cx}
theorem star_tup {es' es:List Expr}{x1}{p:Pos}{env:Env}:starEach (.Tuple es' x1 p::es) env=(false,eval (.Tuple es' x1 p) env)::starEach es env:=rfl
theorem star_con {v}{j}{es:List Expr}{p:Pos}{env:Env}:starEach (.Constant v j p::es) env=(false,eval (.Constant v j p) env)::starEach es env:=rfl
theorem star_bin {a b:Expr}{o:Operator}{es:List Expr}{p:Pos}{env:Env}:starEach (.BinOp a o b p::es) env=(false,eval (.BinOp a o b p) env)::starEach es env:=rfl
theorem star_nam {x:Str}{es:List Expr}{p:Pos}{env:Env}:starEach (.Name x p::es) env=(false,eval (.Name x p) env)::starEach es env:=rfl
theorem star_cal {g:Expr}{es' es:List Expr}{ks:List Keyword}{p:Pos}{env:Env}:starEach (.Call g es' ks p::es) env=(false,eval (.Call g es' ks p) env)::starEach es env:=rfl
theorem star_sub {a b:Expr}{es:List Expr}{p:Pos}{env:Env}:starEach (.Subscript a b p::es) env=(false,eval (.Subscript a b p) env)::starEach es env:=rfl
theorem swaps_tup {es:List Expr}{x1}{x:Str}{p p':Pos}{l}{env:Env}:swapsWith (.Tuple es x1 p) (some (.Name x p')) l env=pure false:=rfl
theorem x_tup {es:List Expr}{x1}{p:Pos}{t:TA}(h:PAx X es t):PEx X (.Tuple es x1 p) (tTup t):=⟨pe_tup h.h⟩
theorem x_lst {es:List Expr}{p:Pos}{t:TA}(h:PAx X es t):PEx X (.List es p) (tLst t):=⟨pe_lst h.h⟩
theorem x_nil:PAx X [] tNil:=⟨pa_nil⟩
theorem x_str {x:Str}{j}{es:List Expr}{p:Pos}{t:TA}(hr:PAx X es t):PAx X (.Constant (.str x) j p::es) (tCons (tC (.str x)) t):=⟨pa_cons pe_str hr.h star_con⟩
theorem x_int {x:Int}{j}{es:List Expr}{p:Pos}{t:TA}(hr:PAx X es t):PAx X (.Constant (.int x) j p::es) (tCons (tC (.int x)) t):=⟨pa_cons pe_int hr.h star_con⟩
theorem x_t {es' es:List Expr}{x1}{p:Pos}{te:TE}{t:TA}(ha:PEx X (.Tuple es' x1 p) te)(hr:PAx X es t):PAx X (.Tuple es' x1 p::es) (tCons te t):=⟨pa_cons ha.h hr.h star_tup⟩
theorem x_b {a b:Expr}{o:Operator}{es:List Expr}{p:Pos}{te:TE}{t:TA}(ha:PEx X (.BinOp a o b p) te)(hr:PAx X es t):PAx X (.BinOp a o b p::es) (tCons te t):=⟨pa_cons ha.h hr.h star_bin⟩
theorem x_n {x:Str}{es:List Expr}{p:Pos}{te:TE}{t:TA}(ha:PEx X (.Name x p) te)(hr:PAx X es t):PAx X (.Name x p::es) (tCons te t):=⟨pa_cons ha.h hr.h star_nam⟩
theorem x_c {g:Expr}{es' es:List Expr}{ks:List Keyword}{p:Pos}{te:TE}{t:TA}(ha:PEx X (.Call g es' ks p) te)(hr:PAx X es t):PAx X (.Call g es' ks p::es) (tCons te t):=⟨pa_cons ha.h hr.h star_cal⟩
theorem x_s {a b:Expr}{es:List Expr}{p:Pos}{te:TE}{t:TA}(ha:PEx X (.Subscript a b p) te)(hr:PAx X es t):PAx X (.Subscript a b p::es) (tCons te t):=⟨pa_cons ha.h hr.h star_sub⟩
theorem x_pv (i:Nat){x:Str}{pos:Pos}(hN:X.N[i]?=some x:=by rfl)(hv:Vis X.env.scope x:=by first|exact Or.inl rfl|exact Or.inr (Or.inl rfl)|exact Or.inr (Or.inr rfl))(hd:(x==("__debug__":Str))=false:=by decide)
  (hcd:(x==("__classdict__":Str))=false:=by decide):PEx X (.Name x pos) (tVar i):=⟨pv i hN hv hd hcd⟩
theorem x_set {i:Nat}{x:Str}{e:Expr}{te:TE}{pos' pos:Pos}(hN:X.N.Nodup)(hi:X.N[i]?=some x)(hx:Loc X.env.scope x)(he:PEx X e te)(hs:swapsWith e (some (.Name x pos')) pos.line X.env=pure false:=by rfl)
  (hf:X.fn x=true∨X.env.scope.names.lookup x=some .local:=by first|exact .inl rfl|exact .inr rfl|assumption):PSx X (.Assign [.Name x pos'] e pos) (tAsg te (gName i)):=⟨ps_set hN hi hx he.h hs hf⟩
theorem x_cons {st:Stmt}{rest:List Stmt}{t u:TS}(h1:PSx X st t)(h2:PSsx X rest u):PSsx X (st::rest) (tSeq t u):=⟨pss_cons h1.h h2.h⟩
theorem x_one {st:Stmt}{t:TS}(h1:PSx X st t):PSsx X [st] t:=⟨pss_one h1.h⟩
theorem x_weak {b:Stmt}{t t':TS}(h:PSx X b t)(k:∀D σ H,t' D σ H→t D σ H):PSx X b t':=⟨fun pins s σ H D I q=>h.h pins s σ H D I (k D σ H q)⟩
theorem x_weaks {b:List Stmt}{t t':TS}(h:PSsx X b t)(k:∀D σ H,t' D σ H→t D σ H):PSsx X b t':=⟨fun pins s σ H D I q=>h.h pins s σ H D I (k D σ H q)⟩
theorem x_for {tg iter:Expr}{body:List Stmt}{wi:TI}{g:TG}{tb:TS}{pos:Pos}(hp:PassesOwn (model X.prog X.w) X.A X.env X.xe)(hc:X.calm=true)(hi:PI X tg iter wi)(hg:PG X tg g)(hb:PSsx X body tb)
  (hs:∀x,foldedSetIterable iter X.env x=pure x:=by intro _;rfl):PSx X (.For tg iter body [] pos) (tFor wi g tb):=⟨ps_for hp hc hi hg hb.h hs⟩
theorem x_ci {x:Int}{j}{p:Pos}:PEx X (.Constant (.int x) j p) (tC (.int x)):=⟨pe_int⟩
end
section
variable {κ:Type}[DecidableEq κ]
def valV (kvs:List (κ×V))(k:κ):Option V:=(kvs.find? fun kv=>decide (kv.1=k)).map (·.2)
def putK (kvs:List (κ×V))(k:κ)(v:V):List (κ×V) :=
 if(kvs.any fun kv=>decide (kv.1=k))=true then kvs.map (fun kv=>if kv.1=k then(kv.1,v) else kv) else kvs++[(k,v)]
theorem valV_pos {p:κ×V}{r:List (κ×V)}{k:κ}(e:p.1=k):valV (p::r) k=some p.2:=by simp[valV,List.find?_cons,e]
theorem valV_neg {p:κ×V}{r:List (κ×V)}{k:κ}(e:¬p.1=k):valV (p::r) k=valV r k:=by simp[valV,List.find?_cons,e]
theorem valV_any (k:κ):∀kvs:List (κ×V),(kvs.any fun kv=>decide (kv.1=k))=(valV kvs k).isSome
 |[]=>rfl
 |p::r=>by
  rw[List.any_cons]
  by_cases e:p.1=k
  ·simp only[valV_pos e,decide_eq_true e,Bool.true_or,Option.isSome_some]
  ·rw[valV_neg e,decide_eq_false e,Bool.false_or];exact valV_any k r
theorem valV_map (k j:κ)(y:V):∀kvs:List (κ×V),valV (kvs.map fun kv=>if kv.1=k then(kv.1,y) else kv) j=(valV kvs j).map fun x=>if j=k then y else x
 |[]=>rfl
 |p::r=>by
  have ih:=valV_map k j y r
  rw[List.map_cons]
  by_cases h:p.1=k
  ·rw[if_pos h]
   by_cases e:p.1=j
   ·rw[valV_pos (p:=(p.1,y)) e,valV_pos e,Option.map_some,if_pos (e.symm.trans h)]
   ·rw[valV_neg (p:=(p.1,y)) e,valV_neg e,ih]
  ·rw[if_neg h]
   by_cases e:p.1=j
   ·rw[valV_pos (p:=p) e,valV_pos e,Option.map_some,if_neg (fun z=>h (e.trans z))]
   ·rw[valV_neg (p:=p) e,valV_neg e,ih]
theorem valV_snoc (k j:κ)(y:V):∀kvs:List (κ×V),valV kvs k=none→valV (kvs++[(k,y)]) j=if j=k then some y else valV kvs j
 |[],_=>by
  by_cases e:k=j
  ·rw[if_pos e.symm];exact valV_pos (p:=(k,y)) e
  ·rw[if_neg (fun z=>e z.symm)];exact valV_neg (p:=(k,y)) e
 |p::r,hn=>by
  rw[List.cons_append]
  have hk:¬p.1=k:=fun z=>by rw[valV_pos z]at hn;cases hn
  rw[valV_neg hk]at hn
  have ih:=valV_snoc k j y r hn
  by_cases e:p.1=j
  ·rw[valV_pos e,valV_pos e,if_neg (fun z=>hk (e.trans z))]
  ·rw[valV_neg e,valV_neg e,ih]
theorem valV_put (kvs:List (κ×V))(k j:κ)(y:V):valV (putK kvs k y) j=if j=k then some y else valV kvs j:=by
 unfold putK
 by_cases a:(kvs.any fun kv=>decide (kv.1=k))=true
 ·rw[if_pos a,valV_map]
  rw[valV_any]at a
  by_cases e:j=k
  ·obtain⟨x,hx⟩:=Option.isSome_iff_exists.mp a
   rw[if_pos e,e,hx,Option.map_some,if_pos rfl]
  ·rw[if_neg e]
   cases valV kvs j with
   |none=>rfl
   |some x=>rw[Option.map_some,if_neg e]
 ·rw[if_neg a]
  refine valV_snoc k j y kvs ?_
  rw[valV_any]at a
  cases q:valV kvs k with
  |none=>rfl
  |some x=>rw[q]at a;exact(a rfl).elim
theorem length_putK (kvs:List (κ×V))(k:κ)(v:V):(putK kvs k v).length≤kvs.length+1:=by
 unfold putK
 split
 ·rw[List.length_map];omega
 ·rw[List.length_append,List.length_cons,List.length_nil];omega
theorem putK_new {kvs:List (κ×V)}{k:κ}(v:V)(h:valV kvs k=none):putK kvs k v=kvs++[(k,v)]:=by
 unfold putK
 rw[valV_any,h]
 exact if_neg (by decide)
theorem RelO.isSome_eq {o:Option V}{u:Option Value}(r:RelO o u):o.isSome=u.isSome:=by
 cases o with
 |none=>cases u with
  |none=>rfl
  |some _=>exact(show False from r).elim
 |some _=>cases u with
  |none=>exact(show False from r).elim
  |some _=>rfl
theorem KV.val {kvs:List (κ×V)}{vs:List (κ×Value)}(r:KV kvs vs)(k:κ):RelO (valV kvs k) (valueAt vs k):=by
 unfold KV at r
 induction r with
 |nil=>exact True.intro
 |@cons p q ps qs h t ih=>
  obtain⟨h1,h2⟩:=h
  by_cases e:p.1=k
  ·have e':q.1=k:=h1.symm.trans e
   have b:valueAt (q::qs) k=some q.2:=by simp[valueAt,List.find?_cons,e']
   rw[valV_pos e,b];exact h2
  ·have e':¬q.1=k:=fun z=>e (h1.trans z)
   have b:valueAt (q::qs) k=valueAt qs k:=by simp[valueAt,List.find?_cons,e']
   rw[valV_neg e,b];exact ih
theorem KV.any {kvs:List (κ×V)}{vs:List (κ×Value)}(r:KV kvs vs)(k:κ):(kvs.any fun kv=>decide (kv.1=k))=vs.any fun kv=>decide (kv.1=k):=by
 unfold KV at r
 induction r with
 |nil=>rfl
 |cons h t ih=>rw[List.any_cons,List.any_cons,ih,h.1]
theorem KV.repl {kvs:List (κ×V)}{vs:List (κ×Value)}(r:KV kvs vs)(k:κ){y:V}{u:Value}(ry:RelV y u):
  KV (kvs.map fun kv=>if kv.1=k then(kv.1,y) else kv) (vs.map fun kv=>if kv.1=k then(kv.1,u) else kv):=by
 unfold KV at r ⊢
 induction r with
 |nil=>exact .nil
 |@cons p q ps qs h t ih=>
  rw[List.map_cons,List.map_cons]
  refine .cons ?_ ih
  obtain⟨h1,h2⟩:=h
  by_cases e:p.1=k
  ·rw[if_pos e,if_pos (h1.symm.trans e)];exact⟨h1,ry⟩
  ·rw[if_neg e,if_neg (fun z=>e (h1.trans z))];exact⟨h1,h2⟩
theorem KV.put {kvs:List (κ×V)}{vs:List (κ×Value)}(r:KV kvs vs)(k:κ){y:V}{u:Value}(ry:RelV y u):KV (putK kvs k y) (stored vs k u):=by
 unfold putK stored
 rw[r.any k]
 by_cases e:(vs.any fun kv=>decide (kv.1=k))=true
 ·rw[if_pos e,if_pos e];exact r.repl k ry
 ·rw[if_neg e,if_neg e];exact Paired.snoc r ⟨rfl,ry⟩
theorem KV.length {kvs:List (κ×V)}{vs:List (κ×Value)}(r:KV kvs vs):kvs.length=vs.length:=Paired.length r
end
theorem kV_is {P:Program}{w:World}{k:Key}{u:Value}(r:RelV (kV k) u):(mixKind P w).is k u=true:=by
 cases k with
 |inl i=>obtain⟨t,e⟩:=(show ∃t,u=Value.int i t from r);subst e;exact mixKind_int P w i t
 |inr x=>obtain⟨t,e⟩:=(show ∃t,u=Value.str x t from r);subst e;exact mixKind_str P w x t
theorem items_are {P:Program}{w:World}:∀{ks:List Key} {us:List Value},Vals (ks.map kV) us→ItemsAre (mixKind P w) ks us
 |[],_,r=>by rw[List.map_nil]at r;cases r;exact .nil
 |k::ks,_,r=>by
  rw[List.map_cons]at r
  cases r with
  |cons h t=>exact .cons (kV_is h) (items_are t)
abbrev KT (H:Hp):List (List Key×V)→List (List Key×Addr×Value)→Prop:=Paired fun p q=>p.1=q.1∧H q.2.1=some (.tup (p.1.map kV))∧RelV p.2 q.2.2
theorem KT.val {H:Hp}{kvs:List (List Key×V)}{xs:List (List Key×Addr×Value)}(r:KT H kvs xs)(k:List Key):RelO (valV kvs k) ((atKey xs k).map (·.2)):=by
 induction r with
 |nil=>exact True.intro
 |@cons p q ps qs h t ih=>
  obtain⟨h1,_,h2⟩:=h
  by_cases e:p.1=k
  ·have e':q.1=k:=h1.symm.trans e
   have b:atKey (q::qs) k=some q.2:=by simp[atKey,List.find?_cons,e']
   rw[valV_pos e,b];exact h2
  ·have e':¬q.1=k:=fun z=>e (h1.trans z)
   have b:atKey (q::qs) k=atKey qs k:=by simp[atKey,List.find?_cons,e']
   rw[valV_neg e,b];exact ih
theorem KT.repl {H:Hp}{kvs:List (List Key×V)}{xs:List (List Key×Addr×Value)}(r:KT H kvs xs)(k:List Key){y:V}{u:Value}(ry:RelV y u):
  KT H (kvs.map fun kv=>if kv.1=k then(kv.1,y) else kv) (xs.map (putAt k u)):=by
 induction r with
 |nil=>exact .nil
 |@cons p q ps qs h t ih=>
  rw[List.map_cons,List.map_cons]
  refine .cons ?_ ih
  obtain⟨h1,h2,h3⟩:=h
  unfold putAt
  by_cases e:p.1=k
  ·rw[if_pos e,if_pos (h1.symm.trans e)];exact⟨h1,h2,ry⟩
  ·rw[if_neg e,if_neg (fun z=>e (h1.trans z))];exact⟨h1,h2,h3⟩
theorem KT.put {H:Hp}{kvs:List (List Key×V)}{xs:List (List Key×Addr×Value)}(r:KT H kvs xs)(k:List Key){b:Addr}{y:V}{u:Value}(hb:H b=some (.tup (k.map kV)))(ry:RelV y u):
  KT H (putK kvs k y) (storedH xs k b u):=by
 have e:(kvs.any fun kv=>decide (kv.1=k))=(atKey xs k).isSome:=by
  rw[valV_any,(r.val k).isSome_eq,Option.isSome_map]
 unfold putK storedH
 rw[e]
 by_cases q:(atKey xs k).isSome=true
 ·rw[if_pos q,if_pos q];exact r.repl k ry
 ·rw[if_neg q,if_neg q];exact Paired.snoc r ⟨rfl,hb,ry⟩
theorem KT.keeps {H H':Hp}{kvs:List (List Key×V)}{xs:List (List Key×Addr×Value)}(r:KT H kvs xs)(ht:∀b ys,H b=some (.tup ys)→H' b=some (.tup ys)):KT H' kvs xs :=
 Paired.mapP r fun _ _ z=>⟨z.1,ht _ _ z.2.1,z.2.2⟩
section
variable {P:Program}{w:World}{H:Hp}{h:Heap}{a:Addr}
theorem rd_of {u:HO}(ok:HOk P w H h)(e:Rd H a u):ObjOk P w H h a u:=e.ok ok
theorem dk_rd {kvs:List (Key×V)}(ok:HOk P w H h)(e:Rd H a (.dK kvs)):kvs.length≤sizeLine∧(a==sysModules)=false∧∃vs,KV kvs vs∧h.DictOf (mixKind P w) a vs :=
 show ObjOk P w H h a (.dK kvs) from rd_of ok e
theorem dk_of {kvs:List (Key×V)}(ok:HOk P w H h)(e:H a=some (.dK kvs)):kvs.length≤sizeLine∧(a==sysModules)=false∧∃vs,KV kvs vs∧h.DictOf (mixKind P w) a vs:=dk_rd ok (.inl e)
theorem key_of {ks:List Key}(ok:HOk P w H h)(e:H a=some (.tup (ks.map kV))):(tupleKind (mixKind P w)).is h ks a:=by
 obtain⟨_,its,r,o,h1,h2,n,h3⟩:=(show ObjOk P w H h a (.tup (ks.map kV)) from ok a _ e)
 exact⟨o,its.toArray,n,h1,h2,h3,by simpa using items_are r⟩
theorem dt_rd {kvs:List (List Key×V)}(ok:HOk P w H h)(e:Rd H a (.dT kvs)):kvs.length≤sizeLine∧(a==sysModules)=false∧
  ∃xs,KT H kvs xs∧h.DictOfH (tupleKind (mixKind P w)) a xs:=by
 obtain⟨z,y,xs,r,o,es,ep,h1,h2,h3,h4,h5⟩:=(show ObjOk P w H h a (.dT kvs) from rd_of ok e)
 refine⟨z,y,xs,r,o,es,ep,h1,h2,h3,h4,fun x hx=>?_,h5⟩
 have all:∀{l:List (List Key×V)} {m:List (List Key×Addr×Value)},KT H l m→∀x∈m,(tupleKind (mixKind P w)).is h x.1 x.2.1:=by
  intro l m q
  induction q with
  |nil=>intro x hx;exact nomatch hx
  |@cons p q ps qs hq t ih=>
   intro x hx
   rcases List.mem_cons.mp hx with e|hx
   ·subst e
    exact key_of ok (by rw[←hq.1];exact hq.2.1)
   ·exact ih x hx
 exact all r x hx
theorem dt_of {kvs:List (List Key×V)}(ok:HOk P w H h)(e:H a=some (.dT kvs)):kvs.length≤sizeLine∧(a==sysModules)=false∧
  ∃xs,KT H kvs xs∧h.DictOfH (tupleKind (mixKind P w)) a xs:=dt_rd ok (.inl e)
end
def DGet (H:Hp)(a:Addr)(y:V)(r:Option V):Prop :=
 (∃kvs k,Rd H a (.dK kvs)∧y=kV k∧r=valV kvs k)∨∃kvs k b,Rd H a (.dT kvs)∧y=.ref b∧H b=some (.tup (k.map kV))∧r=valV kvs k
def DPut (H:Hp)(a:Addr)(y v:V)(H':Hp):Prop :=
 (∃kvs k,H a=some (.dK kvs)∧y=kV k∧kvs.length<sizeLine∧H'=upd H a (.dK (putK kvs k v)))∨
 ∃kvs k b,H a=some (.dT kvs)∧y=.ref b∧H b=some (.tup (k.map kV))∧kvs.length<sizeLine∧H'=upd H a (.dT (putK kvs k v))
theorem DPut.k {H:Hp}{a:Addr}{kvs:List (Key×V)}{k:Key}{v:V}(e:H a=some (.dK kvs))(hl:kvs.length<sizeLine):DPut H a (kV k) v (upd H a (.dK (putK kvs k v))):=.inl ⟨kvs,k,e,rfl,hl,rfl⟩
section
variable {X:Cx}{pins:List (Addr×Obj)}{σ:St}{H:Hp}{s:Shared}{a:Addr}{y v:V}{u r:Value}{o:Option V}{A:Around}{E:Value→Shared→Prop}
theorem Inv.big (I:Inv X pins σ H s):sysModules<s.heap.objs.size:=by
 have h:mainGlobals<s.heap.objs.size:=(I.mod.glob.keeps I.bk).lt
 exact Nat.lt_trans (by decide) h
theorem d_getItem {Q:Value→Shared→Prop}(hu:A.units+1<cLine)(I:Inv X pins σ H s)(g:DGet H a y (some v))(ry:RelV y u)(h:∀w' s',Inv X pins σ H s'→RelV v w'→Q w' s'):
  wpAny (model X.prog X.w) A (getItem (.ref a) u) Q E s:=by
 rcases g with ⟨kvs,k,e,ey,l⟩|⟨kvs,k,b,e,ey,eb,l⟩
 ·subst ey
  obtain⟨z,hd,vs,rel,dd⟩:=dk_rd I.hok e
  obtain⟨w',hw,rw'⟩:=RelO.some_of (v:=v) (o:=valueAt vs k) (by rw[l];exact rel.val k)
  exact wpAny_getItem_of (kV_is ry) dd.mapOf hw (h w' _ (I.tok _) rw')
 ·subst ey
  cases(show u=Value.ref b from ry)
  obtain⟨z,hd,xs,rel,dd⟩:=dt_rd I.hok e
  obtain⟨w',hw,rw'⟩:=RelO.some_of (v:=v) (o:=(atKey xs k).map (·.2)) (by rw[l];exact rel.val k)
  obtain⟨p,hp,hp2⟩:=Option.map_eq_some_iff.mp hw
  refine wpAny_getItem_heap (tupleKind_room_in1 hu) (key_of I.hok eb) dd hp ?_
  rw[hp2]
  exact h w' _ (I.tok _) rw'
theorem d_write {h':Heap}{t':Nat}{ob:HO}(I:Inv X pins σ H s)(mu:Mut (H a))(hs:Heap.SameBut a s.heap h')(he:∃q,h'.get? a=some q)(new:ObjOk X.prog X.w (upd H a ob) h' a ob):
  Inv X pins σ (upd H a ob) {s with heap:=h',toks:=t'} :=
 I.write (x:=a) (e:=a) mu (.inl rfl) (fun b q hb z=>(hs.2 b hb).trans z) he new
theorem dk_new {P:Program}{w:World}{H':Hp}{h':Heap}{kvs:List (Key×V)}{vs:List (Key×Value)}(z:kvs.length≤sizeLine)(hd:(a==sysModules)=false)(rel:KV kvs vs)(dd:h'.DictOf (mixKind P w) a vs):
  ObjOk P w H' h' a (.dK kvs):=⟨z,hd,vs,rel,dd⟩
theorem d_setItem {H':Hp}{Q:Unit→Shared→Prop}(hu:A.units+1<cLine)(I:Inv X pins σ H s)(g:DPut H a y v H')(ry:RelV y u)(rv:RelV v r)(h:∀s',Inv X pins σ H' s'→Q () s'):
  wpAny (model X.prog X.w) A (setItem (.ref a) u r) Q E s:=by
 rcases g with ⟨kvs,k,e,ey,l,eH⟩|⟨kvs,k,b,e,ey,eb,l,eH⟩
 ·subst ey eH
  obtain⟨z,hd,vs,rel,dd⟩:=dk_of I.hok e
  have hz:vs.length≤sizeLine:=by rw[←rel.length];exact z
  have hl:(putK kvs k v).length≤sizeLine:=by have:=length_putK kvs k v;omega
  refine wpAny_setItem_pairs (hsz:=hz) (kV_is ry) dd fun h' dd' hs=>h _ ?_
  have he:∃q,h'.get? a=some q:=let ⟨q,_,_,hq,_⟩:=dd';⟨q,hq⟩
  exact d_write I (by rw[e];exact True.intro) hs he (dk_new hl hd (rel.put k rv) dd')
 ·subst ey eH
  cases(show u=Value.ref b from ry)
  obtain⟨z,hd,xs,rel,dd⟩:=dt_of I.hok e
  have hz:xs.length≤sizeLine:=by rw[←Paired.length rel];exact z
  have hl:(putK kvs k v).length≤sizeLine:=by have:=length_putK kvs k v;omega
  refine wpAny_setItem_heap (hsz:=hz) (tupleKind_room_in1 hu) (key_of I.hok eb) dd fun h' dd' hs=>h _ ?_
  obtain⟨q,es,ep,hq,h2,h3,h4,_,h5⟩:=dd'
  refine d_write I (by rw[e];exact True.intro) hs ⟨q,hq⟩ ⟨hl,hd,_,(rel.put k eb rv).keeps fun c ys ec=>?_,q,es,ep,hq,h2,h3,h4,h5⟩
  rw[upd_ne (ne_of ec e (fun z=>nomatch z))]
  exact ec
end
section
variable {X:Cx}{pins:List (Addr×Obj)}{σ:St}{H:Hp}{s:Shared}{a:Addr}{kvs:List (Key×V)}{k:Key}{u:Value}{A:Around}{E:Value→Shared→Prop}
end
def NoSl (i:Expr):Prop:=∀ov iv,subscripted i false ov iv=operate [ov,iv] (getItem ov iv)
theorem subD_of {prog:Program}{w:World}{A:Around}{E:Value→Shared→Prop}{s:Shared}{env:Env}{value slice:Expr}{pos:Pos}{T id:String}{Q:Value→Shared→Prop}
  (hl:typeLookup (.type T) "__getitem__"=pure (some (.builtin id))) (hs:NoSl slice)
  (h:wpAny (model prog w) A (eval value env) (fun o s₁=>wpAny (model prog w) A (eval slice env) (fun i s₂=>s₂.TypeIs o T∧wpAny (model prog w) A (getItem o i) Q E s₂) E s₁) E s):
  wpAny (model prog w) A (eval (.Subscript value slice pos) env) Q E s:=by
 refine Subscript_ (wpAny_mono h (fun o s₁ h₁=>wpAny_mono h₁ (fun i s₂ h₂=>?_) fun _ _ x=>x) fun _ _ x=>x)
 obtain⟨hT,h₂⟩:=h₂
 unfold subscriptTail
 refine wpAny_bind ?_
 rw[getitemInPython_of_ne hT.not_modules]
 refine wpAny_bind (wpAny_specialOf hT hl ?_)
 have fin:wpAny (model prog w) A (subscripted slice false o i) (fun r s₃=>wpAny (model prog w) A (letTemporaryGo value o r>>=fun _=>pure r) Q E s₃) E s₂:=by
  rw[hs o i]
  exact wpAny_operating (wpAny_mono h₂ (fun r s₃ h₃=>wpAny_bind (wpAny_letTemporaryGo (wpAny_pure h₃))) fun _ _ x=>x)
 first
  |exact wpAny_pure (wpAny_bind fin)
  |exact wpAny_bind (wpAny_pure (wpAny_bind fin))
  |exact wpAny_bind fin
theorem dict_typeIs {X:Cx}{pins:List (Addr×Obj)}{σ:St}{H:Hp}{s:Shared}{a:Addr}{y:V}{o:Option V}(I:Inv X pins σ H s)(g:DGet H a y o):s.TypeIs (.ref a) "dict":=by
 rcases g with ⟨kvs,k,e,_,_⟩|⟨kvs,k,b,e,_,_,_⟩
 ·obtain⟨_,_,vs,_,dd⟩:=dk_rd I.hok e
  exact dd.typeIs
 ·obtain⟨_,_,xs,_,dd⟩:=dt_rd I.hok e
  exact dd.typeIs
def tDGet (td ty:TE):TE:=fun σ H Q=>td σ H fun x H1=>ty σ H1 fun y H2=>∃a v,x=.ref a∧DGet H2 a y (some v)∧Q v H2
def sDPut (td ty tv:TE):TS:=fun D σ H=>tv σ H fun v H1=>td σ H1 fun x H2=>ty σ H2 fun y H3=>∃a H4,x=.ref a∧DPut H3 a y v H4∧D.nx σ H4
section
variable {X:Cx}{o i e value:Expr}{pos pos' tpos:Pos}{td ty tv:TE}
theorem pe_dget (hu:X.A.units+1<cLine)(ho:PE X o td)(hi:PE X i ty)(hs:NoSl i):PE X (.Subscript o i pos) (tDGet td ty):=by
 intro pins s σ H Q I h
 refine subD_of PySem.F.slot_dict_getitem.lookup hs (thn (ho pins s σ H _ I h) fun u s1 ⟨x,H1,I1,rx,q1⟩=>thn (hi pins s1 σ H1 _ I1 q1) fun iv s2 ⟨y,H2,I2,ry,a,v,ex,g,q2⟩=>?_)
 subst ex
 obtain rfl:u=Value.ref a:=rx
 exact⟨dict_typeIs I2 g,d_getItem hu I2 g ry fun w' s3 I3 rw'=>⟨v,H2,I3,rw',q2⟩⟩
theorem ps_dput (hu:X.A.units+1<cLine)(ho:PE X o td)(hi:PE X i ty)(hv:PE X value tv)(hs:swapsWith value (some (.Subscript o i pos')) pos.line X.env=pure false):
  PS X (.Assign [.Subscript o i pos'] value pos) (sDPut td ty tv):=by
 intro pins s σ H D I h
 refine wpAny_Assign_Subscript (thn (hv pins s σ H _ I h) fun r s1 ⟨v,H1,I1,rv,q1⟩=>thn (ho pins s1 σ H1 _ I1 q1) fun u s2 ⟨x,H2,I2,rx,q2⟩=>thn (hi pins s2 σ H2 _ I2 q2) fun iv s3 ⟨y,H3,I3,ry,a,H4,ex,g,q3⟩=>?_) hs
 subst ex
 obtain rfl:u=Value.ref a:=rx
 exact d_setItem hu I3 g ry rv fun s4 I4=>⟨σ,H4,I4,q3⟩
end
theorem dk_empty {P:Program}{w:World}{H:Hp}(h:Heap)(hb:sysModules<h.objs.size):ObjOk P w H (h.push {cls:=.type "dict",data:=.dict #[]}) h.objs.size (.dK []) :=
 ⟨Nat.zero_le _,beq_eq_false_iff_ne.mpr (Ne.symm (Nat.ne_of_lt hb)),[], .nil,Heap.DictOf.new h⟩
def tDNewK:TE:=fun _ H Q=>∀p,H p=none→Q (.ref p) (upd H p (.dK []))
section
variable {X:Cx}{pos:Pos}
theorem pe_dnewK:PE X (.Dict [] [] pos) tDNewK:=fun pins s σ H Q I h=>
 wpAny_Dict_empty ⟨.ref s.heap.objs.size,_,I.laid (a:=s.heap.objs.size) (o:=.dK []) (t':=s.toks) (fun _ _ q=>Heap.get?_push_of_some _ q) (Nat.le_refl _) (dk_empty s.heap I.big),rfl,h _ (I.hok.fresh (Nat.le_refl _))⟩
end
def tPairs:List (TE×TE)→St→Hp→(List (V×V)→Hp→Prop)→Prop
 |[],_,H,Q=>Q [] H
 |(tk,tv)::r,σ,H,Q=>tk σ H fun x H1=>tv σ H1 fun y H2=>tPairs r σ H2 fun ps H3=>Q ((x,y)::ps) H3
abbrev VV:List (V×V)→List (Value×Value)→Prop:=Paired fun p q=>RelV p.1 q.1∧RelV p.2 q.2
def PPs (X:Cx)(pos:Pos)(keys:List (Option Expr))(values:List Expr)(trs:List (TE×TE)):Prop :=
 ∀(pins:List (Addr×Obj)) (s:Shared) (σ:St) (H:Hp) (Q:List (V×V)→Hp→Prop),Inv X pins σ H s→tPairs trs σ H Q→
  wpAny (model X.prog X.w) X.A (evalPairs (pairTrees keys values X.env pos)) (fun vs s'=>∃ps H',Inv X pins σ H' s'∧VV ps vs∧Q ps H') X.xe s
theorem pps_nil {X:Cx}{pos:Pos}:PPs X pos [] [] []:=fun pins s σ H Q I h=>pairTrees_nil_walk ⟨[],H,I, .nil,h⟩
theorem pps_cons {X:Cx}{pos:Pos}{k v:Expr}{ks:List (Option Expr)}{vs:List Expr}{tk tv:TE}{trs:List (TE×TE)}(hk:PE X k tk)(hv:PE X v tv)(hr:PPs X pos ks vs trs):
  PPs X pos (some k::ks) (v::vs) ((tk,tv)::trs):=fun pins s σ H Q I h=>
 pairTrees_cons_walk (thn (hk pins s σ H _ I h) fun u s1 ⟨x,H1,I1,rx,q1⟩=>thn (hv pins s1 σ H1 _ I1 q1) fun w2 s2 ⟨y,H2,I2,ry,q2⟩=>
  thn (hr pins s2 σ H2 _ I2 q2) fun ws s3 ⟨ps,H3,I3,rel,q3⟩=>⟨(x,y)::ps,H3,I3, .cons ⟨rx,ry⟩ rel,q3⟩)
def mergeK (kvs more:List (Key×V)):List (Key×V):=more.foldl (fun acc kv=>putK acc kv.1 kv.2) kvs
theorem KV.merge:∀{more:List (Key×V)} {rs:List (Key×Value)} {kvs:List (Key×V)} {vs:List (Key×Value)},KV more rs→KV kvs vs→KV (mergeK kvs more) (merged vs rs):=by
 intro more rs kvs vs r
 unfold KV at r
 induction r generalizing kvs vs with
 |nil=>intro q;exact q
 |@cons p q ps qs h t ih=>
  intro r0
  have e:KV (putK kvs p.1 p.2) (stored vs q.1 q.2):=by
   have:=r0.put p.1 h.2
   rw[←h.1];exact this
  exact ih e
theorem length_mergeK:∀(more kvs:List (Key×V)),(mergeK kvs more).length≤kvs.length+more.length
 |[],kvs=>by show kvs.length≤kvs.length+0;omega
 |p::r,kvs=>by
  have h1:=length_mergeK r (putK kvs p.1 p.2)
  have h2:=length_putK kvs p.1 p.2
  show(mergeK (putK kvs p.1 p.2) r).length≤_
  rw[List.length_cons];omega
theorem carries_of {P:Program}{w:World}:∀{kvs:List (Key×V)} {ws:List (Value×Value)},VV (kvs.map fun kv=>(kV kv.1,kv.2)) ws→∃rs,Carries (mixKind P w) ws rs∧KV kvs rs
 |[],_,r=>by rw[List.map_nil]at r;cases r;exact⟨[],True.intro, .nil⟩
 |p::kvs,_,r=>by
  rw[List.map_cons]at r
  cases r with
  |@cons a b as bs h t=>
   obtain⟨rs,c,q⟩:=carries_of (P:=P) (w:=w) t
   obtain⟨b1,b2⟩:=b
   exact⟨(p.1,b2)::rs,⟨kV_is h.1,rfl,c⟩, .cons ⟨rfl,h.2⟩ q⟩
def tDisp (trs:List (TE×TE)):TE:=fun σ H Q=>∀p,H p=none→tPairs trs σ (upd H p (.dK [])) fun ps H2=>H2 p=some (.dK [])∧∃kvs:List (Key×V),ps=kvs.map (fun kv=>(kV kv.1,kv.2))∧kvs.length≤15∧Q (.ref p) (upd H2 p (.dK (mergeK [] kvs)))
theorem pe_disp {X:Cx}{pos:Pos}{keys:List (Option Expr)}{values:List Expr}{trs:List (TE×TE)}(h:PPs X pos keys values trs)(hall:keys.all (·.isSome)=true)(hl:keys.length=values.length)(h0:keys≠[])
  (h15:keys.length≤15):PE X (.Dict keys values pos) (tDisp trs):=by
 intro pins s σ H Q I q
 have hn:=I.hok.fresh (Nat.le_refl s.heap.objs.size)
 have I1:=I.laid (a:=s.heap.objs.size) (o:=.dK []) (h':=s.heap.push {cls:=.type "dict",data:=.dict #[]}) (t':=s.toks) (fun _ _ q=>Heap.get?_push_of_some _ q) (Nat.le_refl _) (dk_empty s.heap I.big)
 refine wpAny_Dict_walk (knd:=mixKind X.prog X.w) hall hl h0 h15 (thn (h pins _ σ _ _ I1 (q _ hn)) fun ws s2 ⟨ps,H2,I2,rel,e,kvs,ep,lk,q2⟩=>?_)
 subst ep
 obtain⟨rs,c,rk⟩:=carries_of (P:=X.prog) (w:=X.w) rel
 obtain⟨z,hd,vs0,r0,dd⟩:=dk_of I2.hok e
 cases r0
 refine⟨rs,c,dd,fun h' dd' hs=>⟨.ref s.heap.objs.size,_,?_,rfl,q2⟩⟩
 have hz:(mergeK [] kvs).length≤sizeLine:=by
  have h1:=length_mergeK kvs []
  rw[List.length_nil]at h1
  rw[sizeLine_eq];omega
 have he:∃q,h'.get? s.heap.objs.size=some q:=let ⟨q,_,_,hq,_⟩:=dd';⟨q,hq⟩
 exact d_write I2 (by rw[e];exact True.intro) hs he (dk_new hz hd (rk.merge .nil) dd')
structure M1 (X:Cx)(o:Expr)(m:Str)(apos:Pos)(e:Expr)(cpos:Pos):Prop where
 base:attributeBase o m X.env (eval o X.env)=eval o X.env
 few:((backTo cpos (starEach [e] X.env)).all (fun x=>!x.1)&&(backToKw cpos (keywordEach [] X.env)).all (fun x=>x.1.isSome)
  &&decide (([e]:List Expr).length+([]:List Keyword).length+(if([]:List Keyword).isEmpty then 0 else 1)<30))=true
 line:(apos.endLine==cpos.line)=true
 trees:backTo cpos (starEach [e] X.env)=[(false,eval e X.env)]
structure M2 (X:Cx)(o:Expr)(m:Str)(apos:Pos)(e f:Expr)(cpos:Pos):Prop where
 base:attributeBase o m X.env (eval o X.env)=eval o X.env
 few:((backTo cpos (starEach [e,f] X.env)).all (fun x=>!x.1)&&(backToKw cpos (keywordEach [] X.env)).all (fun x=>x.1.isSome)
  &&decide (([e,f]:List Expr).length+([]:List Keyword).length+(if([]:List Keyword).isEmpty then 0 else 1)<30))=true
 line:(apos.endLine==cpos.line)=true
 trees:backTo cpos (starEach [e,f] X.env)=[(false,eval e X.env),(false,eval f X.env)]
section
variable {X:Cx}{pins:List (Addr×Obj)}{σ:St}{H:Hp}{s:Shared}{a:Addr}{y d:V}{u r:Value}{o:Option V}{A:Around}{E:Value→Shared→Prop}
end
section
variable {X:Cx}{o e f:Expr}{apos cpos:Pos}{td ty tx:TE}
end
section
variable {X:Cx}{pins:List (Addr×Obj)}{σ:St}{H:Hp}{s:Shared}{a:Addr}{kvs:List (Key×V)}{A:Around}{E:Value→Shared→Prop}
theorem d_copyOf {Q:Value→Shared→Prop}(I:Inv X pins σ H s)(e:Rd H a (.dK kvs))(h:∀p s',H p=none→Inv X pins σ (upd H p (.dK kvs)) s'→Q (.ref p) s'):wpAny (model X.prog X.w) A (call (.type "dict") [.ref a]) Q E s:=by
 obtain⟨z,hd,vs,rel,dd⟩:=dk_rd I.hok e
 refine kt_call_dict hd dd (by rw[←rel.length];exact z) fun h' dd' hs=>?_
 refine h _ _ (I.hok.fresh (Nat.le_refl _)) (I.laid (a:=s.heap.objs.size) (o:=.dK kvs) (t':=s.toks) (fun b q hq=>?_) (Nat.le_refl _) (dk_new z (beq_eq_false_iff_ne.mpr (Ne.symm (Nat.ne_of_lt I.big))) rel dd'))
 exact(hs.2 b (Nat.ne_of_lt (Heap.lt_size hq))).trans (Heap.get?_push_of_some _ hq)
end
section
variable {X:Cx}{pins:List (Addr×Obj)}{σ:St}{H:Hp}{s:Shared}{a:Addr}{y:V}{u:Value}{A:Around}{E:Value→Shared→Prop}
end
section
variable {X:Cx}
end
section
variable {κ:Type}[DecidableEq κ]
end
section
variable {X:Cx}
structure PPsx (X:Cx)(pos:Pos)(keys:List (Option Expr))(values:List Expr)(trs:List (TE×TE)):Prop where
 h:PPs X pos keys values trs
theorem xp_nil {pos:Pos}:PPsx X pos [] [] []:=⟨pps_nil⟩
theorem xp_cons {pos p:Pos}{z:Str}{j}{v:Expr}{ks:List (Option Expr)}{vs:List Expr}{tv:TE}{trs:List (TE×TE)}(hv:PEx X v tv)(hr:PPsx X pos ks vs trs):PPsx X pos (some (.Constant (.str z) j p)::ks) (v::vs) ((tC (.str z),tv)::trs):=⟨pps_cons pe_str hv.h hr.h⟩
theorem x_disp {pos:Pos}{keys:List (Option Expr)}{values:List Expr}{trs:List (TE×TE)}(h:PPsx X pos keys values trs)(hall:keys.all (·.isSome)=true)(hl:keys.length=values.length)(h0:keys≠[])(h15:keys.length≤15):PEx X (.Dict keys values pos) (tDisp trs):=⟨pe_disp h.h hall hl h0 h15⟩
theorem swaps_dict {ks:List (Option Expr)}{vs:List Expr}{x:Str}{p p':Pos}{l}{env:Env}:swapsWith (.Dict ks vs p) (some (.Name x p')) l env=pure false:=rfl
theorem x_op {a b:Expr}{op:Operator}{pos:Pos}{ta tb:TE}{r:R2}(ho:OpR X (binaryOp op) r)(ha:PEx X a ta)(hb:PEx X b tb):PEx X (.BinOp a op b pos) (tOp r ta tb):=⟨pe_op ho ha.h hb.h⟩
theorem swaps_bin {a b:Expr}{op:Operator}{x:Str}{p p':Pos}{l}{env:Env}:swapsWith (.BinOp a op b p) (some (.Name x p')) l env=pure false:=rfl
theorem swaps_lst {es:List Expr}{x:Str}{p p':Pos}{l}{env:Env}:swapsWith (.List es p) (some (.Name x p')) l env=pure false:=rfl
theorem x_ix {a b:Expr}{pos:Pos}{ta tb:TE}{r:R2}(hr:IxR X r)(ha:PEx X a ta)(hb:PEx X b tb)(hs:PlainIx b):PEx X (.Subscript a b pos) (tOp r ta tb):=⟨pe_ix hr ha.h hb.h hs⟩
theorem swaps_sub {a b:Expr}{x:Str}{p p':Pos}{l}{env:Env}:swapsWith (.Subscript a b p) (some (.Name x p')) l env=pure false:=rfl
end
section
variable {K:PySem.W.Frag}{i:Nat}{w z:Str}{t u e:TS}{D:Ends}{σ:St}{H:Hp}{a:Addr}{xs:List V}
theorem tag_el (h0:σ[i]?=some (some (.ref a)))(ha:H a=some (.tup (.str z::xs)))(ne:z≠w)(q:e D σ H):tIfS (tTest (tOp rEq (tOp (rIxT K) (tVar i) (tC (.int 0))) (tC (.str w)))) t e D σ H :=
 ⟨_,h0,a,_,0,_,rfl,rfl,SqT.of ha,atI_nat (j:=0) rfl,rfl,_,rfl,ite2 (fun c=>absurd (V.str.inj (of_decide_eq_true c)) ne) (fun _=>q)⟩
theorem tag_th (h0:σ[i]?=some (some (.ref a)))(ha:H a=some (.tup (.str w::xs)))(q:t D σ H):tIfS (tTest (tOp rEq (tOp (rIxT K) (tVar i) (tC (.int 0))) (tC (.str w)))) t e D σ H :=
 ⟨_,h0,a,_,0,_,rfl,rfl,SqT.of ha,atI_nat (j:=0) rfl,rfl,_,rfl,ite2 (fun _=>q) (fun c=>absurd (decide_eq_true rfl) c)⟩
theorem tag_no (h0:σ[i]?=some (some (.ref a)))(ha:H a=some (.tup (.str z::xs)))(ne:z≠w)(q:u D σ H):tSeq (tIfS (tTest (tOp rEq (tOp (rIxT K) (tVar i) (tC (.int 0))) (tC (.str w)))) t tNext) u D σ H:=tag_el (e:=tNext) h0 ha ne q
theorem tag_yes (h0:σ[i]?=some (some (.ref a)))(ha:H a=some (.tup (.str w::xs)))(q:∀nx,t ⟨nx,D.rt,D.bk,D.ct⟩ σ H):tSeq (tIfS (tTest (tOp rEq (tOp (rIxT K) (tVar i) (tC (.int 0))) (tC (.str w)))) t tNext) u D σ H:=tag_th (e:=tNext) h0 ha (q (u D))
theorem seq_cut (h:∀nx:St→Hp→Prop,(∀σ' H',u D σ' H'→nx σ' H')→t ⟨nx,D.rt,D.bk,D.ct⟩ σ H):tSeq t u D σ H:=h (u D) fun _ _ h=>h
theorem ix_t {j:Nat}{v:V}{Q:VK}(h0:σ[i]?=some (some (.ref a)))(ha:H a=some (.tup xs))(hj:xs[j]?=some v)(q:Q v H):tOp (rIxT K) (tVar i) (tC (.int (j:Int))) σ H Q:=⟨_,h0,a,_,_,_,rfl,rfl,SqT.of ha,atI_nat (j:=j) hj,q⟩
theorem dg_at {key:Str}{kvs:List (Key×V)}{v:V}{Q:VK}(h0:σ[i]?=some (some (.ref a)))(h:H a=some (.dK kvs))(g:valV kvs (Sum.inr key)=some v)(q:Q v H):tDGet (tVar i) (tC (.str key)) σ H Q:=⟨_,h0,a,_,rfl, .inl ⟨kvs,Sum.inr key,(by first|exact h|exact .inl h),rfl,g.symm⟩,q⟩
end
theorem len2 {τ:St}(h:τ.length=2):∃a b,τ=[a,b]:=by
 match τ,h with
 |[a,b],_=>exact⟨a,b,rfl⟩
theorem len3 {τ:St}(h:τ.length=3):∃a b c,τ=[a,b,c]:=by
 match τ,h with
 |[a,b,c],_=>exact⟨a,b,c,rfl⟩
section
variable {X:Cx}
theorem ixT (K:PySem.W.Frag)(h:X.K=K:=by rfl):IxR X (rIxT K):=h ▸ ix_tup
theorem ixL (K:PySem.W.Frag)(h:X.K=K:=by rfl):IxR X (rIxL K):=h ▸ ix_list
theorem clen (K:PySem.W.Frag)(h:X.K=K:=by rfl):CallR X (.builtin "len") (fun xs H Q=>∃p ys,xs=[.ref p]∧(SqL K H p ys∨SqT K H p ys)∧Q (.int ys.length) H):=h ▸ call_len_seq
theorem piL (K:PySem.W.Frag){tg l:Expr}{tl:TE}(hl:PE X l tl)(h:X.K=K:=by rfl):PI X tg l (iList K tl):=h ▸ pi_list hl
theorem piT (K:PySem.W.Frag){tg l:Expr}{tl:TE}(hl:PE X l tl)(h:X.K=K:=by rfl):PI X tg l (iTup K tl):=h ▸ pi_tup hl
theorem fldK (K:PySem.W.Frag){e:Expr}{f:Str}{pos:Pos}{ta:TE}(he:PE X e ta)(hb:attributeBase e f X.env (eval e X.env)=eval e X.env)(h:X.K=K:=by rfl):PE X (.Attribute e f pos) (tFld K ta f):=h ▸ pe_fld he hb
theorem sfldK (K:PySem.W.Frag){o value:Expr}{f:Str}{pos pos':Pos}{ta tv:TE}(ha:PE X o ta)(hv:PE X value tv)(hs:swapsWith value (some (.Attribute o f pos')) pos.line X.env=pure false)(h:X.K=K:=by rfl):PS X (.Assign [.Attribute o f pos'] value pos) (sFld K ta tv f):=h ▸ ps_fld ha hv hs
theorem pgT (K:PySem.W.Frag){es:List Expr}{k:Nat}{t:TGs}{n:Nat}{pos:Pos}(hc:X.calm=true)(hq:PGs X es t)(hn:(assignEach es X.env).length=n:=by rfl)(hst:(assignEach es X.env).findIdx? (·.1)=none:=by rfl)(h:X.K=K:=by rfl):PG X (.Tuple es k pos) (gTup K n t):=h ▸ pg_tup hc hq hn hst
end
def compOkM (osc:Scope)(N:List Str)(frees:List Str)(idx:List Nat)(scope:Scope):Bool :=
 scope.kind==.function&&(scope.names.all (fun y=>y.2 !=.cell)&&(scope.names.all (fun y=>y.2 !=.local||scope.names.lookup y.1==some .local)&&(scope.names.all (fun y=>y.2 !=.free||(osc.names.lookup y.1==some .cell||osc.names.lookup y.1==some .free))&&
 (idx.length==frees.length&&((idx.zip frees).all (fun p=>N[p.1]?==some p.2)&&frees.all (fun y=>scope.names.lookup y==some .free))))))
theorem compOkM_scope {X:Cx}{osc:Scope}{N:List Str}{frees:List Str}{idx:List Nat}{scope:Scope}(h:compOkM osc N frees idx scope=true)(ho:X.env.scope=osc)(hN:X.N=N):
  CompScopeM X frees idx scope∧∀y∈frees,scope.names.lookup y=some .free:=by
 unfold compOkM at h
 simp only[Bool.and_eq_true,List.all_eq_true,Bool.or_eq_true,bne_iff_ne,beq_iff_eq,decide_eq_true_eq]at h
 obtain⟨h1,h2,h3,h4,h7,h8,h9⟩:=h
 have fl:∀y∈frees,scope.names.lookup y=some .free:=fun y hy=>h9 y hy
 refine⟨⟨h1,h2,fun y hy e=>?_,fun y hy e=>?_,fun j y hj=>?_,h7,fun y hy=>mem_of_lookup' (fl y hy)⟩,fl⟩
 ·rcases h3 y hy with q|q
  ·exact absurd e q
  ·exact q
 ·have q:osc.names.lookup y.1=some .cell∨osc.names.lookup y.1=some .free:=by
   rcases h4 y hy with q|q
   ·exact absurd e q
   ·exact q
  rw[←ho]at q
  exact q
 ·obtain⟨k,e1,e2⟩:=zip_get h7 hj
  exact⟨k,e1,by rw[hN];exact h8 (k,y) e2⟩
theorem pe_lcM {X:Cx}{elt iter tg:Expr}{pos:Pos}{ifs:List Expr}{scope:Scope}{wi:TI}{g:TG}{tt:TT}{te:TE}(osc:Scope)(N:List Str)(M frees:List Str)(idx:List Nat)
  (hk:compOkM osc N frees idx scope=true) (hi:PI X tg iter wi) (hg:∀C s₀ H₀ ex,PG (cxComp X (M++frees) scope C s₀ H₀ ex) tg g)
  (ht:∀C s₀ H₀ ex,PTs (cxComp X (M++frees) scope C s₀ H₀ ex) ifs tt) (he:∀C s₀ H₀ ex,PE (cxComp X (M++frees) scope C s₀ H₀ ex) elt te)
  (ho:X.env.scope=osc:=by rfl) (hN:X.N=N:=by rfl) (hc:X.calm=true:=by rfl) (hs:∀v,foldedSetIterable iter X.env v=pure v:=by intro _;rfl):PE X (.ListComp elt [⟨tg,iter,ifs,0⟩] scope pos) (tCompM M.length idx wi g tt te):=by
 obtain⟨S,fl⟩:=compOkM_scope (X:=X) hk ho hN
 exact pe_lcompM hc S fl hi hg ht he hs
theorem ps_lcompM {X:Cx}{elt iter tg:Expr}{M:List Str}{g gy:TG}{y:Str}{py pos pos0:Pos}{ifs:List Expr}{scope:Scope}{frees:List Str}{idx:List Nat}{wi:TI}{tt:TT}{te:TE}
  (hc:X.calm=true) (S:CompScopeM X frees idx scope) (hfl:∀y∈frees,scope.names.lookup y=some .free) (hi:PI X tg iter wi) (hgy:PG X (.Name y py) gy) (hg:∀C s₀ H₀ ex,PG (cxComp X (M++frees) scope C s₀ H₀ ex) tg g)
  (ht:∀C s₀ H₀ ex,PTs (cxComp X (M++frees) scope C s₀ H₀ ex) ifs tt) (he:∀C s₀ H₀ ex,PE (cxComp X (M++frees) scope C s₀ H₀ ex) elt te)
  (hsw:swapsWith (.ListComp elt [⟨tg,iter,ifs,0⟩] scope pos) (some (.Name y py)) pos0.line X.env=pure true)
  (hs:∀v,foldedSetIterable iter X.env v=pure v:=by intro _;rfl):PS X (.Assign [.Name y py] (.ListComp elt [⟨tg,iter,ifs,0⟩] scope pos) pos0) (tAsg (tCompM M.length idx wi g tt te) gy):=by
 intro pins s σ H D I h
 rw[exec_Assign_Name_used _ _ _ _ hsw]
 refine wpAny_bind (wpAny_standAt ?_)
 refine wpAny_bind ?_
 show wpAny _ _ (comprehension (.ListComp elt [⟨tg,iter,ifs,0⟩] scope pos) scope X.env _ (newList []) _ _ (some (assign (.Name y py) X.env))>>=fun _=>pure ()) _ _ s
 refine wpAny_bind (wpAny_mono (Q:=fun _ s'=>∃σ' H',Inv X pins σ' H' s'∧D.nx σ' H') ?_ (fun _ s' h'=>wpAny_pure (wpAny_pure h')) fun _ _ h'=>h')
 refine comp_core (M:=M) (g:=g) (XE:=noX) (use:=some (assign (.Name y py) X.env)) (Q':=fun _ s'=>∃σ' H',Inv X pins σ' H' s'∧D.nx σ' H') hc S hfl hi (fun C s₀ H₀ ex=>by rw[cxE_no];exact hg C s₀ H₀ ex) (fun C s₀ H₀ ex=>by rw[cxE_no];exact ht C s₀ H₀ ex) (fun C s₀ H₀ ex=>by rw[cxE_no];exact he C s₀ H₀ ex) hs I h (fun _ _ _ _ _ _ _ _ _ _ (z:False)=>z.elim) fun Dd C H' m4 s4 hn4 hJ HC nC nfC szC celC pinC q=>?_
 show wpAny _ _ (assign (.Name y py) X.env (.ref Dd)) _ _ s4
 have I5:=hJ s4.heap ⟨rfl,fun _ _=>rfl⟩
 obtain⟨oC,es,ep,gC,rC⟩:=id hn4
 have IPn:Inv X (pins++[(C,oC)]) σ H' s4:=I5.pins_of fun p hp=>(List.mem_append.mp hp).elim (fun z=>I5.pin p (List.mem_append_right _ z)) fun z=>by
  have z':p=(C,oC):=by simpa using z
  subst z'
  exact⟨gC,HC,nC,nfC,fun v q=>by have q2:oC.data=.cell v:=q;have q3:=rC.1;rw[q2]at q3;cases q3⟩
 refine thn (hgy _ s4 σ _ (.ref Dd) _ _ IPn rfl q) fun _ s6 ⟨σ6,H6,I6,q6⟩=>?_
 have pC:=I6.pin (C,oC) (List.mem_append_right _ (List.mem_append_right _ (List.mem_singleton.mpr rfl)))
 exact⟨m4,hn4.at' (fun o e=>by rw[gC]at e;cases e;exact pC.1),fun h'' sb=>⟨σ6,H6,I6.unpinned.turned (t':=s6.toks) (fun b o hb e=>(sb.2 b hb).trans e) pC.2.1 nC (.inr szC) celC pinC,q6⟩⟩
theorem ps_lcomp {X:Cx}{elt iter:Expr}{x y:Str}{px py pos pos0:Pos}{ifs:List Expr}{scope:Scope}{frees:List Str}{idx:List Nat}{wi:TI}{tt:TT}{te:TE}{g:TG}
  (hc:X.calm=true) (S:CompScope X x frees idx scope) (hfl:∀y∈frees,scope.names.lookup y=some .free) (hi:PI X (.Name x px) iter wi) (hgy:PG X (.Name y py) g)
  (ht:∀C s₀ H₀ ex,PTs (cxComp X (x::frees) scope C s₀ H₀ ex) ifs tt) (he:∀C s₀ H₀ ex,PE (cxComp X (x::frees) scope C s₀ H₀ ex) elt te)
  (hsw:swapsWith (.ListComp elt [⟨.Name x px,iter,ifs,0⟩] scope pos) (some (.Name y py)) pos0.line X.env=pure true)
  (hs:∀v,foldedSetIterable iter X.env v=pure v:=by intro _;rfl):PS X (.Assign [.Name y py] (.ListComp elt [⟨.Name x px,iter,ifs,0⟩] scope pos) pos0) (tAsg (tComp idx wi tt te) g):=by
 have h:=ps_lcompM (M:=[x]) (g:=gName 0) hc ⟨S.kind,S.nocell,S.loc,S.fr,S.ix,S.len,S.cl⟩ hfl hi hgy (fun C s₀ H₀ ex=>pg_name (i:=0) S.nd rfl (.inl (lookup_relabel_local S.tgt)) (.inr (lookup_relabel_local S.tgt))) ht he hsw hs
 exact tComp_M ▸ h
theorem ps_lc {X:Cx}{elt iter:Expr}{x y:Str}{px py pos pos0:Pos}{ifs:List Expr}{scope:Scope}{wi:TI}{tt:TT}{te:TE}{g:TG}(osc:Scope)(N:List Str)(frees:List Str)(idx:List Nat)
  (hk:compOk osc N x frees idx scope=true) (hi:PI X (.Name x px) iter wi) (hgy:PG X (.Name y py) g)
  (ht:∀C s₀ H₀ ex,PTs (cxComp X (x::frees) scope C s₀ H₀ ex) ifs tt) (he:∀C s₀ H₀ ex,PE (cxComp X (x::frees) scope C s₀ H₀ ex) elt te)
  (hsw:swapsWith (.ListComp elt [⟨.Name x px,iter,ifs,0⟩] scope pos) (some (.Name y py)) pos0.line X.env=pure true)
  (ho:X.env.scope=osc:=by rfl) (hN:X.N=N:=by rfl) (hc:X.calm=true:=by rfl) (hs:∀v,foldedSetIterable iter X.env v=pure v:=by intro _;rfl):
  PS X (.Assign [.Name y py] (.ListComp elt [⟨.Name x px,iter,ifs,0⟩] scope pos) pos0) (tAsg (tComp idx wi tt te) g):=by
 obtain⟨S,fl⟩:=compOk_scope (X:=X) hk ho hN
 exact ps_lcomp hc S fl hi hgy ht he hsw hs
end L2
namespace PySem
open PyProof.Rows
namespace F
end F
section
variable {prog:Program}{w:World}{A:Around}{E:Value→Shared→Prop}{s:Shared}
end
end PySem
namespace PySem
open PyProof.Rows
section
variable {prog:Program}{w:World}{A:Around}{E:Value→Shared→Prop}{s:Shared}
end
section
variable {prog:Program}{w:World}{A:Around}{s:Shared}{R:Result→Shared→Prop}
end
section
variable {prog:Program}{w:World}{A:Around}{E:Value→Shared→Prop}{s:Shared}
end
end PySem
namespace L2
open PySem PySem.Spec PyProof.Rows
section
variable {X:Cx}
theorem boot_rev:bootBuiltins "reversed"=some (.type "reversed"):=PyProof.Rows.boot_reversed
theorem Vals.of_get:∀{xs:List V} {us:List Value},xs.length=us.length→(∀(i:Nat) (x:V) (u:Value),xs[i]?=some x→us[i]?=some u→RelV x u)→Vals xs us
 |[],[],_,_=>.nil
 |[],_::_,h,_=>by simp at h
 |_::_,[],h,_=>by simp at h
 |x::xs,u::us,h,g=>.cons (g 0 x u rfl rfl) (Vals.of_get (by simpa using h) fun i a b e f=>g (i+1) a b (by simpa using e) (by simpa using f))
end
open PySem PySem.Spec PyProof.Rows PySem.W
end L2
namespace Fw
open PySem PySem.Spec PyProof.Rows L2
def top (i:Nat):Stmt:=PySem.Challenge.pw_facework_k66_rings.main.body.getD i (.Pass ⟨0,0,0,0⟩)
def G60:Int:=10^60
theorem G60_lt:G60<2^200:=by unfold G60;decide
theorem bits_lt {i:Int}(h1: -(2^200)<i)(h2:i<2^200):Builtin.Int.intBits i≤2^20:=by
 have hb:Builtin.Int.intBits i≤200:=by
  unfold Builtin.Int.intBits
  by_cases h0:i=0
  ·subst h0;decide
  ·have hz:(i==0)=false:=by simpa using h0
   rw[hz]
   have hn:i.natAbs≠0:=by omega
   have:=(Nat.log2_lt hn (k:=200)).mpr (by omega)
   show i.natAbs.log2+1≤200
   omega
 exact Nat.le_trans hb (by decide)
theorem mul_ok {i j:Int}(h1: -G60<i)(h2:i<G60)(h3: -G60<j)(h4:j<G60):IntMulOk i j:=by
 have:=G60_lt
 exact IntMulOk.of_bits (bits_lt (by omega) (by omega)) (bits_lt (by omega) (by omega))
end Fw
namespace L2
open PySem PySem.Spec PyProof.Rows
theorem op_mulG {X:Cx}:OpR X (binaryOp .Mult) (rI (fun i j=>IntMulOk i j) fun i j=>.int (i*j)):=opI fun _ _ _ _ _ _ _ hc q=>mul_int q hc
end L2
namespace Fw
open PySem PySem.Spec PyProof.Rows L2
def spWhole:Sp:=fun vs H Q _=>∃i:Int,vs=[.int i]∧Q (.bl true) H
def spNum:Sp:=fun vs H Q _=>∃i:Int,vs=[.int i]∧∀H',Same H H'→Q (.int i) H'
def rk (w:Nat)(i j:Int):Int:=match w with
 |0=>i+j
 |1=>i-j
 |2=>i*j
 |_=>if i<j then 1 else 0
def In60 (i:Int):Prop:=-G60<i∧i<G60
inductive CspRk (w:Nat)(vs:List V)(H:Hp)(Q:VK)(E_:XK):Prop where
 |mk (i j:Int):vs=[.int i, .int j]→In60 i→In60 j→Q (.int (rk w i j)) H→CspRk w vs H Q E_
def spRk (w:Nat):Sp:=CspRk w
section
variable {P:Program}{w:World}{K:PySem.W.Frag}{mg:Str→Option Value}{base:Heap}{f:Addr}{fd:FuncData}
theorem kit_int (K:PySem.W.Frag):PySem.W.kitOne K (.type "int") (.type "int")=some true:=by first|rfl|kernel_rfl
theorem kit_bool (K:PySem.W.Frag):PySem.W.kitOne K (.type "int") (.type "bool")=some false:=by first|rfl|kernel_rfl
theorem boot_bool':bootBuiltins "bool"=some (.type "bool"):=by decide+kernel
abbrev s_whole:Stmt:=top 11
theorem sc_whole:FnScope ["thing"] ["thing"] (defScope s_whole):=⟨rfl,rfl,rfl,by decide+kernel,rfl,by decide+kernel,by decide+kernel⟩
theorem ok_whole (F:Fun K "is_whole" "is_whole" s_whole f fd)(mi:mg "isinstance"=none)(mI:mg "int"=none)(mB:mg "bool"=none):FnOk P w K mg base CX0 1 f fd ["thing"] spWhole:=by
 refine F.ok sc_whole (fun vs H Q E h=>?_) (fun cdv A outer s H vs Q E hr h=>?_)
 ·obtain⟨i,rfl,_⟩:=h
  rfl
 obtain⟨i,rfl,q⟩:=h
 refine⟨_,pss_one (ps_ret (pe_and (pe_callB call_isi rfl mi boot_isinstance (pa_cons (pv 0) (pa_cons (pe_bltn (v:=.ty "int") rfl mI boot_int rfl) pa_nil))) (pe_one (pe_not (pe_callB call_isi rfl mi boot_isinstance (pa_cons (pv 0) (pa_cons (pe_bltn (v:=.ty "bool") rfl mB boot_bool' rfl) pa_nil))))))),?_⟩
 refine⟨_,rfl,_,_,_,_,rfl, .int i,kit_int K,_,rfl,iteT ?_⟩
 exact⟨_,rfl,_,_,_,_,rfl, .int i,kit_bool K,_,rfl,q⟩
abbrev s_num:Stmt:=top 19
theorem sc_num:FnScope ["value"] ["value"] (defScope s_num):=⟨rfl,rfl,rfl,by decide+kernel,rfl,by decide+kernel,by decide+kernel⟩
theorem ok_num (F:Fun K "number_of" "number_of" s_num f fd)(h1:Has P w K mg base 1 "is_whole" ["thing"] spWhole):FnOk P w K mg base CX0 2 f fd ["value"] spNum:=by
 refine F.ok sc_num (fun vs H Q E h=>?_) (fun cdv A outer s H vs Q E hr h=>?_)
 ·obtain⟨i,rfl,_⟩:=h
  rfl
 obtain⟨i,rfl,q⟩:=h
 refine⟨_,pss_cons (ps_if (pt_not (pt_val (pcall h1 hr (by decide) rfl (pa_cons (pv 0) pa_nil)))) (pss_one ps_never) pss_nil) (pss_one (ps_ret (pv 0))),?_⟩
 exact⟨_,rfl,i,rfl,true,rfl,iteF ⟨_,rfl,q H (Same.refl _)⟩⟩
abbrev s_rk (n:Nat):Stmt:=top (14+n)
theorem sc_rk0:FnScope ["one","other"] ["one","other"] (defScope (s_rk 0)):=⟨rfl,rfl,rfl,by decide+kernel,rfl,by decide+kernel,by decide+kernel⟩
theorem sc_rk1:FnScope ["one","other"] ["one","other"] (defScope (s_rk 1)):=⟨rfl,rfl,rfl,by decide+kernel,rfl,by decide+kernel,by decide+kernel⟩
theorem sc_rk2:FnScope ["one","other"] ["one","other"] (defScope (s_rk 2)):=⟨rfl,rfl,rfl,by decide+kernel,rfl,by decide+kernel,by decide+kernel⟩
theorem sc_rk3:FnScope ["one","other"] ["one","other"] (defScope (s_rk 3)):=⟨rfl,rfl,rfl,by decide+kernel,rfl,by decide+kernel,by decide+kernel⟩
theorem rk_len {n:Nat}:∀vs H Q E,spRk n vs H Q E→vs.length=(["one","other"]:List Str).length:=fun vs H Q E h=>by
 obtain⟨i,j,rfl,_⟩:=h
 rfl
theorem ok_rk0 (F:Fun K "sum_of" "sum_of" (s_rk 0) f fd):FnOk P w K mg base CX0 1 f fd ["one","other"] (spRk 0):=by
 refine F.ok sc_rk0 rk_len (fun cdv A outer s H vs Q E hr h=>?_)
 obtain⟨i,j,rfl,_,_,q⟩:=h
 exact⟨_,pss_one (ps_ret (pe_op op_add (pv 0) (pv 1))),_,rfl,_,rfl,i,j,rfl,rfl,q⟩
theorem ok_rk1 (F:Fun K "difference_of" "difference_of" (s_rk 1) f fd):FnOk P w K mg base CX0 1 f fd ["one","other"] (spRk 1):=by
 refine F.ok sc_rk1 rk_len (fun cdv A outer s H vs Q E hr h=>?_)
 obtain⟨i,j,rfl,_,_,q⟩:=h
 exact⟨_,pss_one (ps_ret (pe_op op_sub (pv 0) (pv 1))),_,rfl,_,rfl,i,j,rfl,rfl,q⟩
theorem ok_rk2 (F:Fun K "product_of" "product_of" (s_rk 2) f fd):FnOk P w K mg base CX0 1 f fd ["one","other"] (spRk 2):=by
 refine F.ok sc_rk2 rk_len (fun cdv A outer s H vs Q E hr h=>?_)
 obtain⟨i,j,rfl,h1,h2,q⟩:=h
 exact⟨_,pss_one (ps_ret (pe_op op_mulG (pv 0) (pv 1))),_,rfl,_,rfl,i,j,rfl,rfl,mul_ok h1.1 h1.2 h2.1 h2.2,q⟩
theorem ok_rk3 (F:Fun K "is_less" "is_less" (s_rk 3) f fd):FnOk P w K mg base CX0 1 f fd ["one","other"] (spRk 3):=by
 refine F.ok sc_rk3 rk_len (fun cdv A outer s H vs Q E hr h=>?_)
 obtain⟨i,j,rfl,_,_,q⟩:=h
 refine⟨_,pss_one (ps_ret (pe_ifExp (pt_cmpR op_lt (pv 0) (pv 1) (nomark _)) pe_int pe_int)),_,rfl,_,rfl,i,j,rfl,rfl,_,rfl,ite2 (fun c=>?_) (fun c=>?_)⟩
 ·have c1:i<j:=of_decide_eq_true c
  show Q (.int 1) H
  have e:rk 3 i j=1:=if_pos c1
  rw[e]at q
  exact q
 ·have c1:¬i<j:=fun z=>c (decide_eq_true z)
  show Q (.int 0) H
  have e:rk 3 i j=0:=if_neg c1
  rw[e]at q
  exact q
end
def wordOf:Nat→Str
 |0=>"plus"
 |1=>"minus"
 |2=>"times"
 |_=>"less"
def rkL (fr:Nat→Addr):List (Str×V):=[("plus", .ref (fr 0)),("minus", .ref (fr 1)),("times", .ref (fr 2)),("less", .ref (fr 3))]
theorem rk_words:("minus":Str)≠"plus"∧("times":Str)≠"plus"∧("times":Str)≠"minus"∧("less":Str)≠"plus"∧("less":Str)≠"minus"∧("less":Str)≠"times":=by decide+kernel
theorem rk_look (fr:Nat→Addr):∀k,k≤3→(rkL fr).lookup (wordOf k)=some (.ref (fr k))
 |0,_=>by first|rfl|(unfold rkL wordOf;simp[List.lookup_cons])
 |1,_=>by
  have h:=rk_words
  have b:∀{x y:Str},x≠y→(x==y)=false:=fun n=>by simpa using n
  show(rkL fr).lookup ("minus":Str)=_
  unfold rkL
  simp only[List.lookup_cons,b h.1,beq_self_eq_true]
 |2,_=>by
  have h:=rk_words
  have b:∀{x y:Str},x≠y→(x==y)=false:=fun n=>by simpa using n
  show(rkL fr).lookup ("times":Str)=_
  unfold rkL
  simp only[List.lookup_cons,b h.2.1,b h.2.2.1,beq_self_eq_true]
 |3,_=>by
  have h:=rk_words
  have b:∀{x y:Str},x≠y→(x==y)=false:=fun n=>by simpa using n
  show(rkL fr).lookup ("less":Str)=_
  unfold rkL
  simp only[List.lookup_cons,b h.2.2.2.1,b h.2.2.2.2.1,b h.2.2.2.2.2,beq_self_eq_true]
 |n+4,h=>by omega
inductive CspReck (CT:Addr)(vs:List V)(H:Hp)(Q:VK)(E:XK):Prop where
 |mk (k:Nat) (i j:Int):vs=[.str (wordOf k), .int i, .int j]→k≤3→In60 i→In60 j→(In60 (rk k i j)→∀H',Same H H'→Q (.int (rk k i j)) H')→(¬In60 (rk k i j)→∀ea H',Same H H'→E (.ref CT) (some ea) H')→CspReck CT vs H Q E
def spReck (CT:Addr):Sp:=CspReck CT
theorem abs_in (n:Int):(G60≤if n<0 then -n else n)↔¬In60 n:=by
 unfold In60
 split<;>omega
section
variable {P:Program}{w:World}{K:PySem.W.Frag}{mg:Str→Option Value}{base:Heap}{f:Addr}{fd:FuncData}
abbrev s_reck:Stmt:=top 20
theorem sc_reck:FnScope ["word","one","other","number"] ["word","one","other"] (defScope s_reck):=⟨rfl,rfl,rfl,by decide+kernel,rfl,by decide+kernel,by decide+kernel⟩
theorem boot_abs':bootBuiltins "abs"=some (.builtin "abs"):=by decide+kernel
set_option maxHeartbeats 1000000 in
theorem ok_reck {CT dr:Addr}{fr:Nat→Addr}{bm:List Value}{newId B initId:String}(F:Fun K "reckoned" "reckoned" s_reck f fd)(O:OwnCls "TooGreat" CT bm newId mg base)(FB:ExcBaseFacts B newId initId bm)(ma:mg "abs"=none)(hR:mg "RECKONINGS"=some (.ref dr))(D:StrDict K w dr (rkL fr))
  (hF:∀n,n≤3→∃fd,FnOk P w K mg base CX0 1 (fr n) fd ["one","other"] (spRk n)∧PySem.W.keepIn K (.ref (fr n))=true∧Binds K fd ["one","other"] []) (h1:Has P w K mg base 2 "number_of" ["value"] spNum):
  FnOk P w K mg base (CXF P w) 3 f fd ["word","one","other"] (spReck CT):=by
 refine F.okX sc_reck (fun vs H Q E h=>?_) (fun cdv A outer s H vs Q E hr h=>?_)
 ·obtain⟨k,i,j,rfl,_⟩:=h
  rfl
 obtain⟨k,i,j,rfl,hk,hi,hj,q1,q2⟩:=h
 refine⟨_,pss_cons (ps_set (i:=3) sc_reck.nd rfl (Or.inl rfl) (pe_callE (E:=E0) (fun f sp=>∃n,n≤3∧f=fr n∧sp=spRk n) (fun f sp ⟨n,hn,e1,e2⟩=>by
    obtain⟨fd',G,kp,b⟩:=hF n hn
    rw[e1,e2]
    exact⟨1,fd',_,G,hr.mono (by decide),kp,b⟩) (pe_ix ix_dict (pe_glob (v:=.ref dr) rfl hR rfl) (pv 0) (fun _ _=>rfl)) pass0
   (pa_cons (pcall h1 hr (by decide) rfl (pa_cons (pv 1) pa_nil)) (pa_cons (pcall h1 hr (by decide) rfl (pa_cons (pv 2) pa_nil)) pa_nil))))
  (pss_cons (ps_if (pt_cmpR op_ge (pe_callB call_abs rfl ma boot_abs' (pa_cons (pv 3) pa_nil)) (pe_op op_pow pe_int pe_int) (nomark _)) (pss_one (ps_raise O FB rfl (pa_cons pe_str pa_nil))) pss_nil)
  (pss_one (ps_ret (pv 3)))),?_⟩
 refine⟨_,rfl,wordOf k,dr,_, .ref (fr k),rfl,rfl,D,rk_look fr k hk,fr k,spRk k,rfl,⟨k,hk,rfl,rfl⟩,_,rfl,i,rfl,fun H1 s1=>⟨_,rfl,j,rfl,fun H2 s2=>⟨i,j,rfl,hi,hj,?_⟩⟩⟩
 have s12:=s1.trans s2
 refine⟨_,rfl,_,rfl,10,60,rfl,rfl,⟨by decide,by decide,by decide⟩,_,_,rfl,rfl,_,rfl,ite2 (fun c=>?_) (fun c=>?_)⟩
 ·have c1:G60≤if rk k i j<0 then -(rk k i j) else rk k i j:=of_decide_eq_true c
  exact⟨small (by show 1≤1000000;decide),fun ea _=>q2 ((abs_in _).mp c1) ea H2 s12⟩
 ·have c1:¬(G60≤if rk k i j<0 then -(rk k i j) else rk k i j):=fun z=>c (decide_eq_true z)
  have c2:In60 (rk k i j):=by
   by_cases z:In60 (rk k i j)
   ·exact z
   ·exact absurd ((abs_in _).mpr z) c1
  exact⟨_,rfl,q1 c2 H2 s12⟩
end
end Fw
namespace PySem
open PyProof.Rows
namespace F
theorem slot_lri_hint:Slot "list_reverseiterator" "__length_hint__" "list_reverseiterator.__length_hint__" :=
 .of (owner:="list_reverseiterator") (n:="__length_hint__") (by rw[typeLookup_type,builtinLookup_eq_fast];kernel_rfl) (by decide+kernel) (by decide+kernel) (by decide+kernel)
  (by first|exact .inl (by decide+kernel)|exact .inr (by decide+kernel)) (by rw[isSubtype_type];kernel_rfl)
theorem nolen_lri:typeLookup (.type "list_reverseiterator") "__len__"=pure none:=by rw[typeLookup_type,builtinLookup_eq_fast];kernel_rfl
end F
section
variable {prog:Program}{w:World}{A:Around}{s:Shared}{R:Result→Shared→Prop}
theorem wpAny_extend_lri (hh:A.handled=none)(S I l:Addr)(res:Value)(c₀:Nat){xs:Array Value}(hn:xs.size≤sizeLine)(hlI:l≠I)(hSI:S≠I)(hSl:S≠l)(hit:s.heap.IsRevIter I l ((xs.size:Int)-1))(hl:s.heap.IsList l xs)
  (hS:s.heap.get? S=some {cls:=.type "list",data:=.seq #[] c₀})
  (hR:∀s' acc' c',Moved [S,I] (fun a b=>a=b) s s'→s'.heap.get? S=some {cls:=.type "list",dict:=none,data:=.seq acc' c',slots:=#[]}→ItemsOf (fun i v=>xs[xs.size-1-i]?=some v) acc' xs.size→R (.ok (.ret res)) s'):
  wpAny (model prog w) A.in1 (Builtin.List.listExtendWith (.ref S) (.ref I) res)
   (fun fin s'=>match fin with|.done f=>R (.ok f) s'|.again c'=>c'.quiet=true∧codeAny (model prog w) A c' R s') (fun e s'=>R (.error e) s') s:=by
 have l63:=L2.line63
 have hz:(xs.size:Int)<2^63:=by omega
 have W:=(Walks.listRev (prog:=prog) (w:=w) (A:=A.in1) hh I l hlI xs).toS
 have hSf:S∉[I,l]:=by simp[hSI,hSl]
 unfold Builtin.List.listExtendWith
 refine wpAny_bind (wpAny_typeOf hit.typeIs ?_)
 have h1:Builtin.List.listSameRef (.ref S) (.ref I)=false:=by simp[Builtin.List.listSameRef,hSI]
 have h2:(Value.type "list_reverseiterator"==Value.type "list")=false:=by decide
 have h3:(Value.type "list_reverseiterator"==Value.type "tuple")=false:=by decide
 simp only[h1,h2,h3,Bool.or_false,Bool.false_eq_true,if_false]
 refine wpAny_bind (wpAny_pyIter_revIter hit ?_)
 refine wpAny_bind (wpAny_holding ?_)
 unfold Builtin.List.listLengthHint
 refine wpAny_bind (wpAny_specialOf hit.typeIs F.nolen_lri ?_)
 show wpAny _ A.in1 (specialOf (Value.ref I) (Str.ofString "__length_hint__")>>=_) _ _ _
 refine wpAny_bind (wpAny_specialOf hit.typeIs F.slot_lri_hint.lookup ?_)
 (generalize hid:("list_reverseiterator.__length_hint__":String)=id0;(fail_if_success (clear hid id0));wp_delta;rw[show splitId id0=some ("list_reverseiterator","__length_hint__") from by subst hid;decide+kernel];subst hid)
 refine wpAny_bind (wpAny_isInstance (b:=true) hit.typeIs (by rw[isSubtype_type];kernel_rfl) ?_)
 rw[if_neg (by decide)]
 dsimp only
 rw[if_pos (by decide+kernel),if_neg (by decide+kernel)]
 refine wpAny_pure ?_
 have key:∀(h':Heap) (c₁:Nat),h'.get? S=some {cls:=.type "list",data:=.seq #[] c₁}→(∀b o,b≠S→s.heap.get? b=some o→h'.get? b=some o)→
   codeAny (model prog w) A (.builtin "list.extend.loop" ⟨[.ref S, .ref I,res],[]⟩) R {s with heap:=h'}:=fun h' c₁ hS' kp=>by
  have st:(fun(i:Nat) (s:Shared)=>i≤xs.size∧s.heap.IsRevIter I l ((xs.size:Int)-1-(i:Int))∧s.heap.IsList l xs) 0 {s with heap:=h'}:=by
   refine⟨Nat.zero_le _,?_,?_⟩
   ·have e:(xs.size:Int)-1-((0:Nat):Int)=(xs.size:Int)-1:=by omega
    show Heap.IsRevIter h' I l ((xs.size:Int)-1-((0:Nat):Int))
    rw[e]
    exact hit.at fun o e=>kp I _ (Ne.symm hSI) e
   ·exact hl.at fun o e=>kp l _ (Ne.symm hSl) e
  refine codeAny_extend_loopS W hn S hSf res xs.size 0 _ #[] c₁ rfl (Nat.zero_le _) st hS' (ItemsOf.nil _) fun s' acc' c' hm hS'' hacc=>?_
  exact hR s' acc' c' ⟨fun b o hb e=>hm.heap b o hb (kp b o (fun z=>hb (by simp[z])) e),hm.gens.symm,hm.drawn,hm.os,hm.toks⟩ hS'' hacc
 split
 ·refine wpAny_bind (wpAny_rule ?_)
  refine wpAny_bind ?_
  show wpAny _ A.in1 (updateSeq S (·.push .none)>>=fun _=>updateSeq S (·.pop)) _ _ _
  clear l63 hz hn
  refine wpAny_bind (wpAny_updateSeq hS rfl ?_)
  have hS₂:=Heap.get?_update_self (Obj.mapSeq (·.push Value.none)) hS rfl
  refine wpAny_updateSeq (hz:=by seq_fits) hS₂ rfl ?_
  have hS₃:=Heap.get?_update_self (Obj.mapSeq (·.pop)) hS₂ rfl
  exact wpAny_pure ⟨plainId_quiet F.plain_extend_loop _,key _ _ hS₃ fun b o hb e=>(Heap.get?_update_other _ _ (Ne.symm hb)).trans ((Heap.get?_update_other _ _ (Ne.symm hb)).trans e)⟩
 ·exact wpAny_pure ⟨plainId_quiet F.plain_extend_loop _,key _ _ hS fun b o _ e=>e⟩
end
section
variable {prog:Program}{w:World}{A:Around}{E:Value→Shared→Prop}{s:Shared}
theorem wpAny_collect_lri {Q:List Value→Shared→Prop}(hh:A.handled=none)(I l:Addr){xs:Array Value}(hn:xs.size≤sizeLine)(hlI:l≠I)(hit:s.heap.IsRevIter I l ((xs.size:Int)-1))(hl:s.heap.IsList l xs)
  (hQ:∀s' acc,s.heap.objs.size<s'.heap.objs.size→Moved [s.heap.objs.size,I] (fun a b=>a=b) s s'→ItemsOf (fun i v=>xs[xs.size-1-i]?=some v) acc xs.size→Q acc.toList s'):wpAny (model prog w) A (collect (.ref I)) Q E s:=by
 have hSI:s.heap.objs.size≠I:=fun e=>by
  obtain⟨o,ho,_⟩:=hit
  have:=Heap.lt_size ho
  rw[←e]at this
  exact Nat.lt_irrefl _ this
 have hSl:s.heap.objs.size≠l:=fun e=>by
  obtain⟨o,ho,_⟩:=hl
  have:=Heap.lt_size ho
  rw[←e]at this
  exact Nat.lt_irrefl _ this
 unfold collect
 refine wpAny_bind (wpAny_runValue ?_)
 generalize hR:(fun r s'=>_:Result→Shared→Prop)=R
 refine codeAny_builtin F.entry_proto_collect ?_
 rw[Around.under_plainId F.plain_proto_collect _]
 show wpAny _ A.in1 (newList []>>=fun l=>again (.builtin "list.__iadd__" ⟨[l, .ref I],[]⟩)) _ _ s
 refine wpAny_bind (wpAny_newObj_type ?_)
 refine wpAny_pure ⟨plainId_quiet F.plain_list_iadd _,codeAny_builtin F.entry_list_iadd ?_⟩
 rw[Around.under_plainId F.plain_list_iadd _]
 show wpAny _ A.in1 (Builtin.List.listExtendWith (.ref s.heap.objs.size) (.ref I) (.ref s.heap.objs.size)) _ _ _
 refine wpAny_extend_lri (A:=A) (s:={s with heap:=s.heap.push {cls:=.type "list",data:=.seq ([]:List Value).toArray}}) hh s.heap.objs.size I l (.ref s.heap.objs.size) _ hn hlI hSI hSl (hit.at fun o e=>Heap.get?_push_of_some _ e) (hl.at fun o e=>Heap.get?_push_of_some _ e) (Heap.get?_push_size _ rfl) fun s' acc' c' hm hS' hacc=>?_
 subst hR
 show wpAny _ A (load s.heap.objs.size>>=_) _ _ s'
 refine wpAny_bind (wpAny_load hS' ?_)
 exact wpAny_pure (hQ s' acc' (Heap.lt_size hS') ⟨fun b o hb e=>hm.heap b o hb (Heap.get?_push_of_some _ e),hm.gens,hm.drawn,hm.os,hm.toks⟩ hacc)
theorem code_tuple_new_lri {Q₁:Value→Shared→Prop}(hh:A.handled=none)(I l:Addr){xs:Array Value}(hn:xs.size≤sizeLine)(hlI:l≠I)(hit:s.heap.IsRevIter I l ((xs.size:Int)-1))(hl:s.heap.IsList l xs)
  (h:∀s' acc,s.heap.objs.size<s'.heap.objs.size→Moved [s.heap.objs.size,I] (fun a b=>a=b) s s'→ItemsOf (fun i v=>xs[xs.size-1-i]?=some v) acc xs.size→Q₁ (.ref s'.heap.objs.size) {s' with heap:=s'.heap.push {cls:=.type "tuple",data:=.seq acc}}):
  codeAny (model prog w) A (.call (.builtin "tuple.__new__") ⟨[.type "tuple", .ref I],[]⟩) (wants Q₁ E) s:=by
 refine codeAny_of_tree ?_
 show wpAny _ A.in1 (do checkBuiltinCall "tuple.__new__" ⟨[.type "tuple", .ref I],[]⟩;again (.builtin "tuple.__new__" ⟨[.type "tuple", .ref I],[]⟩)) _ _ s
 refine wpAny_bind (wpAny_of_eq (F.newCall_tuple_1 _) (wpAny_pure ⟨plainId_quiet F.plain_tuple_new _,codeAny_builtin F.entry_tuple_new ?_⟩))
 rw[Around.under_plainId F.plain_tuple_new _]
 have hsub:=sub_tuple_self
 have hinit:=init_tuple_lookup
 have hmh:=madeHere_tuple
 have hTI:=hit.typeIs
 wp_walk using wpAny_typeOf hTI,wpAny_collect_lri (A:=A.in1) hh I l hn hlI hit hl
 intro s' acc hlt hm hacc
 show wpAny _ _ (Builtin.Tuple.tupleExact acc.toList.toArray>>=fun v=>ret v) _ _ _
 unfold Builtin.Tuple.tupleExact
 refine wpAny_bind (wpAny_newObj_type ?_ (by show acc.toList.toArray.size≤sizeLine;simp only[Array.toArray_toList];rw[hacc.1];exact hn))
 refine wpAny_pure ?_
 have e:acc.toList.toArray=acc:=by simp
 rw[e]
 exact h s' acc hlt hm hacc
theorem call_tuple_lri {Q:Value→Shared→Prop}(hh:A.handled=none)(I l:Addr){xs:Array Value}(hn:xs.size≤sizeLine)(hlI:l≠I)(hit:s.heap.IsRevIter I l ((xs.size:Int)-1))(hl:s.heap.IsList l xs)
  (hQ:∀s' acc,s.heap.objs.size<s'.heap.objs.size→Moved [s.heap.objs.size,I] (fun a b=>a=b) s s'→ItemsOf (fun i v=>xs[xs.size-1-i]?=some v) acc xs.size→Q (.ref s'.heap.objs.size) {s' with heap:=s'.heap.push {cls:=.type "tuple",data:=.seq acc}}):
  wpAny (model prog w) A (call (.type "tuple") [.ref I]) Q E s:=by
 refine callType_codes (Q₁:=fun obj s₁=>s₁.TypeIs obj "tuple"∧Q obj s₁) F.called_tuple (F.typeCall_tuple_1 _) F.entry_object_init
  (code_tuple_new_lri (A:=A.in1) hh I l hn hlI hit hl fun s' acc hlt hm hacc=>⟨⟨_,Heap.get?_push_size _ rfl,rfl⟩,hQ s' acc hlt hm hacc⟩) fun obj s₁ h₁=>?_
 exact⟨h₁.1,F.args_object_init_2 obj _,object_init_meets F.called_tuple.init.lookup F.called_tuple.made (by decide) prog w A.in1 _ s₁ ⟨h₁.1,rfl,h₁.2⟩⟩
end
end PySem
namespace L2
open PySem PySem.Spec PyProof.Rows
section
variable {X:Cx}
def tTupRev (K:PySem.W.Frag)(te:TE):TE:=fun σ H Q=>te σ H fun x H1=>∃a xs,x=.ref a∧SqL K H1 a xs∧∀l,H1 l=none→Q (.ref l) (upd H1 l (.tup xs.reverse))
theorem pe_tupRev {e:Expr}{te:TE}{p pos p2 pos2:Pos}(hc:X.calm=true)(hgl:Gl X "tuple")(hml:X.mg "tuple"=none)(hgr:Gl X "reversed")(hmr:X.mg "reversed"=none)(he:PE X e te)
  (hs1:starEach [Expr.Call (.Name "reversed" p2) [e] [] pos2] X.env=[(false,eval (Expr.Call (.Name "reversed" p2) [e] [] pos2) X.env)]:=by rfl) (hs2:starEach [e] X.env=[(false,eval e X.env)]:=by rfl):
  PE X (.Call (.Name "tuple" p) [.Call (.Name "reversed" p2) [e] [] pos2] [] pos) (tTupRev X.K te):=by
 intro pins s σ H Q I h
 refine wpAny_Call_Name_kw (ld_blt I hgl hml PyProof.Rows.boot_tuple ?_ (by decide) (by decide))
 refine PyProof.Rows.callWith_type1 ?_ hs1 rfl
 rw[hs1]
 refine Calls.spliced_cons ?_
 refine wpAny_Call_Name_kw (ld_blt I hgr hmr boot_rev ?_ (by decide) (by decide))
 refine PyProof.Rows.callWith_type1 ?_ hs2 rfl
 rw[hs2]
 refine Calls.spliced_cons (thn (he pins s σ H _ I h) fun u s1 ⟨x,H1,I1,r1,q1⟩=>?_)
 refine Calls.spliced_nil ?_
 obtain⟨a,xs,rfl,hq,q⟩:=q1
 cases r1
 obtain⟨its,rv,pt,hz⟩:=I1.list hq
 have hlen:=rv.length
 have h63:=line63
 refine call_reversed_list pt.isList ?_
 refine Calls.spliced_nil ?_
 have ha:a<s1.heap.objs.size:=by obtain⟨o,ho,_⟩:=pt.isList;exact Heap.lt_size ho
 have hl:Heap.IsList (s1.heap.push (revObj a ((its.toArray.size:Int)-1))) a its.toArray:=pt.isList.at fun o e=>Heap.get?_push_of_some _ e
 refine call_tuple_lri (s:={s1 with heap:=s1.heap.push (revObj a ((its.toArray.size:Int)-1))}) (I1.ok.hd hc) s1.heap.objs.size a (xs:=its.toArray) (by simp;omega) (Nat.ne_of_lt ha) ⟨_,Heap.get?_push_size _ rfl,rfl,rfl⟩ hl fun s' acc hlt hm hacc=>?_
 obtain⟨h',g',d',t',o'⟩:=s'
 have eg:s1.gens=g':=hm.gens
 have ed:d'=s1.drawn:=hm.drawn
 have eo:o'=s1.os:=hm.os
 subst eg ed eo
 have sz:(s1.heap.push (revObj a (((its.toArray).size:Int)-1))).objs.size=s1.heap.objs.size+1:=Heap.size_push ..
 have hlt':s1.heap.objs.size+1<h'.objs.size:=by rw[←sz];exact hlt
 have kp:∀b o,s1.heap.get? b=some o→(h'.push {cls:=.type "tuple",data:=.seq acc}).get? b=some o:=fun b o e=>by
  have hb:=Heap.lt_size e
  refine Heap.get?_push_of_some _ (hm.heap b o ?_ (Heap.get?_push_of_some _ e))
  simp only[List.mem_cons,List.not_mem_nil,or_false,not_or]
  exact⟨Nat.ne_of_lt (Nat.lt_of_lt_of_le hb (Nat.le_of_lt (by rw[sz];exact Nat.lt_succ_self _))),Nat.ne_of_lt hb⟩
 have va:Vals xs.reverse acc.toList:=by
  refine Vals.of_get (by rw[List.length_reverse,hlen];have:=hacc.1;simp at this;simp[this]) fun i x u e f=>?_
  have hi:i<xs.length:=by have:=(List.getElem?_eq_some_iff.mp e).1;simpa using this
  rw[List.getElem?_reverse hi]at e
  have f':acc[i]?=some u:=by simpa using f
  have g:=hacc.2 i u f'
  have g':its[xs.length-1-i]?=some u:=by
   have:its.toArray[its.toArray.size-1-i]?=some u:=g
   simp only[List.size_toArray,List.getElem?_toArray]at this
   rw[hlen];exact this
  obtain⟨u',hu',ru⟩:=rv.get e
  rw[g']at hu'
  cases hu'
  exact ru
 have ea:acc.toList.toArray=acc:=by simp
 have hle:s1.heap.objs.size≤h'.objs.size:=Nat.le_of_lt (Nat.lt_trans (Nat.lt_succ_self _) hlt')
 have hz':xs.reverse.length≤sizeLine:=by simpa using hz
 refine⟨.ref _,_,I1.laid (t':=t') kp (a:=h'.objs.size) hle (show ObjOk X.prog X.w _ _ _ (.tup xs.reverse) from⟨hz',acc.toList,va,_,Heap.get?_push_size _ rfl,rfl,?_⟩),rfl,q _ (I1.hok.fresh hle)⟩
 exact⟨_,by rw[ea]⟩
end
end L2
namespace Fw
open PySem PySem.Spec PyProof.Rows L2
def Kp1 (pl:Addr)(H H':Hp):Prop:=∀b o,b≠pl→H b=some o→H' b=some o
inductive CspTaken (vs:List V)(H:Hp)(Q:VK)(E_:XK):Prop where
 |mk (pl:Addr) (p a:List V) (n:Nat):vs=[.ref pl, .int (n:Int)]→H pl=some (.lst (p++a))→a.length=n→n≤100→(∀t H',H t=none→H' t=some (.tup a)→H' pl=some (.lst p)→Kp1 pl H H'→Q (.ref t) H')→CspTaken vs H Q E_
def spTaken:Sp:=CspTaken
section
variable {P:Program}{w:World}{K:PySem.W.Frag}{mg:Str→Option Value}{base:Heap}{f:Addr}{fd:FuncData}{CM CF CC:Addr}
abbrev s_taken:Stmt:=top 21
abbrev nT:List Str:=["pile","count","told"]
theorem sc_taken:FnScope nT ["pile","count"] (defScope s_taken):=⟨rfl,rfl,rfl,by decide+kernel,rfl,by decide+kernel,by decide+kernel⟩
theorem take_rev {a:List V}{i:Nat}(hi:i<a.length):∃v,(a.take (a.length-i)).getLast?=some v∧(a.take (a.length-i)).dropLast=a.take (a.length-(i+1))∧a.reverse.take i++[v]=a.reverse.take (i+1):=by
 have h1:a.length-1-i<a.length:=by omega
 refine⟨a[a.length-1-i],?_,?_,?_⟩
 ·rw[List.getLast?_eq_getElem?,List.length_take,List.getElem?_take]
  have e:min (a.length-i) a.length-1=a.length-1-i:=by rw[Nat.min_eq_left (Nat.sub_le _ _)];exact Nat.sub_right_comm _ _ _
  rw[e,if_pos (by omega)]
  exact List.getElem?_eq_getElem h1
 ·rw[List.dropLast_eq_take,List.length_take,List.take_take,Nat.min_eq_left (Nat.sub_le _ _),Nat.min_eq_left (Nat.sub_le _ _),Nat.sub_sub]
 ·rw[List.take_add_one,List.getElem?_reverse hi,List.getElem?_eq_getElem h1]
  rfl
theorem ok_taken (F:Fun K "taken_off" "taken_off" s_taken f fd)(mt:mg "tuple"=none)(mr:mg "reversed"=none)(mg':mg "range"=none):FnOk P w K mg base CX0 1 f fd ["pile","count"] spTaken:=by
 refine F.ok sc_taken (fun vs H Q E h=>?_) (fun cdv A outer s H vs Q E hr h=>?_)
 ·obtain⟨pl,p,a,n,rfl,_⟩:=h
  rfl
 obtain⟨pl,p,a,n,rfl,hp,la,ln,q⟩:=h
 subst la
 have hz:=sizeLine_eq
 refine⟨_,pss_cons (ps_lc (defScope s_taken) nT ["pile"] [0] (by decide+kernel) (pi_range1 rfl mg' (pa_cons (pv 1) pa_nil)) (pg_name (i:=2) sc_taken.nd rfl (Or.inl rfl)) (fun C s₀ H₀ ex=>pts_nil)
   (fun C s₀ H₀ ex=>show PE _ _ (tBM0 K "list" rPop _) from pe_bm0 PySem.F.plainAttrs_list PySem.F.slot_list_pop PySem.F.type_list_pop mt_pop (pv 1)) (by with_unfolding_all rfl))
  (pss_one (ps_ret (pe_tupRev rfl rfl mt rfl mr (pv 2)))),?_⟩
 refine⟨_,rfl,(a.length:Int),rfl,by omega,by omega,?_⟩
 rw[Int.toNat_natCast]
 refine comp_range (n:=a.length) (fun i vs H'=>vs=a.reverse.take i∧H' pl=some (.lst (p++a.take (a.length-i)))∧Kp1 pl H H'∧(∀b,b≠pl→H' b=H b)) ⟨rfl,?_,fun b o _ h=>h,fun _ _=>rfl⟩ ?_ ?_ ?_
 ·rw[Nat.sub_zero,List.take_length]
  exact hp
 ·rintro i vs H' hi ⟨rfl,_⟩
  rw[List.length_take,List.length_reverse]
  omega
 ·rintro i vs H' hi ⟨rfl,hp',kp,ke⟩
  obtain⟨v,e1,e2,e3⟩:=take_rev hi
  refine⟨_,rfl, .inl ⟨rfl,_,SqL.of hp'⟩,pl,_,v,rfl,rfl,hp',?_,nx hi ⟨e3,?_,fun b o nb hb=>?_,fun b nb=>?_⟩⟩
  ·rw[←List.getLast?_eq_getElem?,List.getLast?_append,e1]
   rfl
  ·have ne:a.take (a.length-i)≠[]:=fun z=>by rw[z]at e1;cases e1
   rw[upd_same,List.dropLast_append_of_ne_nil ne,e2]
  ·rw[upd_ne nb]
   exact kp b o nb hb
  ·rw[upd_ne nb]
   exact ke b nb
 ·rintro vs H' ⟨rfl,hp',kp,ke⟩ l hl
  have lpl:l≠pl:=fun z=>by rw[z,hp']at hl;cases hl
  rw[Nat.sub_self,List.take_zero,List.append_nil]at hp'
  have e1:a.reverse.take a.length=a.reverse:=List.take_of_length_le (by rw[List.length_reverse];exact Nat.le_refl _)
  rw[e1]
  refine⟨_,rfl,l,a.reverse,rfl,SqL.of upd_same,fun t ht=>?_⟩
  rw[List.reverse_reverse]
  have tl:t≠l:=fun z=>by rw[z,upd_same]at ht;cases ht
  rw[upd_ne tl]at ht
  have tpl:t≠pl:=fun z=>by rw[z,hp']at ht;cases ht
  refine q t _ (by rw[←ke t tpl];exact ht) upd_same (by rw[upd_ne (Ne.symm tpl),upd_ne (Ne.symm lpl)];exact hp') fun b o nb hb=>?_
  have h1:=kp b o nb hb
  rw[upd_ne (fun z=>by rw[z,ht]at h1;cases h1),upd_ne (fun z=>by rw[z,hl]at h1;cases h1)]
  exact h1
end
def mfl (cl pl fr ofr st:Addr)(ah:V):List (Str×V):=[("calls", .ref cl),("pile", .ref pl),("frame", .ref fr),("outer_frames", .ref ofr),("stored", .ref st),("ahead",ah)]
def ffl (own:Addr)(be:V):List (Str×V):=[("own", .ref own),("behind",be)]
def cfl (most begun under:V):List (Str×V):=[("most",most),("begun",begun),("under_way",under)]
def clf (to:V)(k:Addr):List (Str×V):=[("to",to),("kept", .ref k)]
structure TxM (K:PySem.W.Frag)(CM CF CC CL:Addr):Prop where
 cm:Cls K CM
 m1:NoAttr K CM "calls"
 m2:NoAttr K CM "pile"
 m3:NoAttr K CM "frame"
 m4:NoAttr K CM "outer_frames"
 m5:NoAttr K CM "stored"
 m6:NoAttr K CM "ahead"
 cf:Cls K CF
 f1:NoAttr K CF "own"
 f2:NoAttr K CF "behind"
 cc:Cls K CC
 c1:NoAttr K CC "most"
 c2:NoAttr K CC "begun"
 c3:NoAttr K CC "under_way"
 cl:Cls K CL
 l1:NoAttr K CL "to"
 l2:NoAttr K CL "kept"
section
variable (cl pl fr ofr st:Addr)(ah v:V)
theorem mf1:(mfl cl pl fr ofr st ah).lookup ("calls":Str)=some (V.ref cl):=by first|rfl|(with_unfolding_all rfl)|kernel_rfl
theorem mf2:(mfl cl pl fr ofr st ah).lookup ("pile":Str)=some (V.ref pl):=by first|rfl|(with_unfolding_all rfl)|kernel_rfl
theorem mf3:(mfl cl pl fr ofr st ah).lookup ("frame":Str)=some (V.ref fr):=by first|rfl|(with_unfolding_all rfl)|kernel_rfl
theorem mf4:(mfl cl pl fr ofr st ah).lookup ("outer_frames":Str)=some (V.ref ofr):=by first|rfl|(with_unfolding_all rfl)|kernel_rfl
theorem mf5:(mfl cl pl fr ofr st ah).lookup ("stored":Str)=some (V.ref st):=by first|rfl|(with_unfolding_all rfl)|kernel_rfl
theorem mf6:(mfl cl pl fr ofr st ah).lookup ("ahead":Str)=some ah:=by first|rfl|(with_unfolding_all rfl)|kernel_rfl
theorem mp6:putF "ahead" v (mfl cl pl fr ofr st ah)=mfl cl pl fr ofr st v:=by first|rfl|(with_unfolding_all rfl)|kernel_rfl
theorem mp3 (fr':Addr):putF "frame" (V.ref fr') (mfl cl pl fr ofr st ah)=mfl cl pl fr' ofr st ah:=by first|rfl|(with_unfolding_all rfl)|kernel_rfl
theorem ff1:(ffl pl v).lookup ("own":Str)=some (V.ref pl):=by first|rfl|(with_unfolding_all rfl)|kernel_rfl
theorem ff2:(ffl pl v).lookup ("behind":Str)=some v:=by first|rfl|(with_unfolding_all rfl)|kernel_rfl
theorem cf1 (x y z:V):(cfl x y z).lookup ("most":Str)=some x:=by first|rfl|(with_unfolding_all rfl)|kernel_rfl
theorem cf2 (x y z:V):(cfl x y z).lookup ("begun":Str)=some y:=by first|rfl|(with_unfolding_all rfl)|kernel_rfl
theorem cf3 (x y z:V):(cfl x y z).lookup ("under_way":Str)=some z:=by first|rfl|(with_unfolding_all rfl)|kernel_rfl
theorem cp2 (x y z:V):putF "begun" v (cfl x y z)=cfl x v z:=by first|rfl|(with_unfolding_all rfl)|kernel_rfl
theorem cp3 (x y z:V):putF "under_way" v (cfl x y z)=cfl x y v:=by first|rfl|(with_unfolding_all rfl)|kernel_rfl
theorem lf1:(clf v pl).lookup ("to":Str)=some v:=by first|rfl|(with_unfolding_all rfl)|kernel_rfl
theorem lf2:(clf v pl).lookup ("kept":Str)=some (V.ref pl):=by first|rfl|(with_unfolding_all rfl)|kernel_rfl
end
structure MA where
 (m dx pl ofr cl dxc st:Addr)
structure Fm where
 (fr dxf own:Addr)
 vs:List V
 be:V
structure MCo where
 pile:List V
 cur:Fm
 outer:List Fm
 sto:List V
 ah:V
 (most begun under:Int)
structure MS (CM CF CC:Addr)(H:Hp)(a:MA)(s:MCo):Prop where
 ob:H a.m=some (.ins CM a.dx (mfl a.cl a.pl s.cur.fr a.ofr a.st s.ah))
 hp:H a.pl=some (.lst s.pile)
 hf:H a.ofr=some (.lst (s.outer.map fun f=>V.ref f.fr))
 hc:H a.cl=some (.ins CC a.dxc (cfl (.int s.most) (.int s.begun) (.int s.under)))
 hs:H a.st=some (.lst s.sto)
 fs:∀f∈s.cur::s.outer,H f.fr=some (.ins CF f.dxf (ffl f.own f.be))∧H f.own=some (.lst f.vs)
 nd:(a.pl::a.ofr::a.st::(s.cur::s.outer).map (·.own)).Nodup
def Mu (a:MA)(s:MCo)(b:Addr):Prop:=b=a.m∨b=a.cl∨b∈a.pl::a.ofr::a.st::(s.cur::s.outer).map (·.own)
def Ext (a:MA)(s:MCo)(H:Hp)(s':MCo)(H':Hp):Prop:=∀b o,¬Mu a s b→H b=some o→¬Mu a s' b∧H' b=some o
theorem Ext.trans {a:MA}{s s1 s2:MCo}{H H1 H2:Hp}(x:Ext a s H s1 H1)(y:Ext a s1 H1 s2 H2):Ext a s H s2 H2:=fun b o n h=>y b o (x b o n h).1 (x b o n h).2
theorem Same.ext {a:MA}{s:MCo}{H H':Hp}(e:Same H H'):Ext a s H s H':=fun b o n h=>⟨n,e b o h⟩
theorem at_ne {H:Hp}{a b:Addr}{o x:HO}(h:H a=some o)(n:a≠b):(upd H b x) a=some o:=by rw[upd_ne n];exact h
theorem obl {H:Hp}{a b C dx:Addr}{fs:List (Str×V)}{xs:List V}(h:H a=some (.ins C dx fs))(q:H b=some (.lst xs)):a≠b:=ne_of h q (by intro z;cases z)
theorem obo {H:Hp}{a b C dx C' dx':Addr}{fs fs':List (Str×V)}(h:H a=some (.ins C dx fs))(q:H b=some (.ins C' dx' fs'))(n:fs.length≠fs'.length):a≠b:=ne_of h q (by intro z;injection z with _ _ e;exact n (congrArg List.length e))
def MCo.setP (s:MCo)(p:List V):MCo:={s with pile:=p}
def MCo.setO (s:MCo)(o:List V):MCo:={s with cur:={s.cur with vs:=o}}
def MCo.setS (s:MCo)(o:List V):MCo:={s with sto:=o}
def MCo.setA (s:MCo)(v:V):MCo:={s with ah:=v}
def MCo.setC (s:MCo)(b u:Int):MCo:={s with begun:=b,under:=u}
section
variable {CM CF CC:Addr}{H H':Hp}{a:MA}{s:MCo}
theorem MS.fc (M:MS CM CF CC H a s):H s.cur.fr=some (.ins CF s.cur.dxf (ffl s.cur.own s.cur.be)):=(M.fs _ List.mem_cons_self).1
theorem MS.ho (M:MS CM CF CC H a s):H s.cur.own=some (.lst s.cur.vs):=(M.fs _ List.mem_cons_self).2
theorem MS.same (M:MS CM CF CC H a s)(e:Same H H'):MS CM CF CC H' a s:=⟨e _ _ M.ob,e _ _ M.hp,e _ _ M.hf,e _ _ M.hc,e _ _ M.hs,fun f hf=>⟨e _ _ (M.fs f hf).1,e _ _ (M.fs f hf).2⟩,M.nd⟩
theorem MS.npl (M:MS CM CF CC H a s):a.pl∉a.ofr::a.st::(s.cur::s.outer).map (·.own):=(List.nodup_cons.mp M.nd).1
theorem MS.nof (M:MS CM CF CC H a s):a.ofr∉a.st::(s.cur::s.outer).map (·.own):=(List.nodup_cons.mp (List.nodup_cons.mp M.nd).2).1
theorem MS.nst (M:MS CM CF CC H a s):a.st∉(s.cur::s.outer).map (·.own):=(List.nodup_cons.mp (List.nodup_cons.mp (List.nodup_cons.mp M.nd).2).2).1
theorem MS.now (M:MS CM CF CC H a s):s.cur.own∉s.outer.map (·.own):=(List.nodup_cons.mp (List.nodup_cons.mp (List.nodup_cons.mp (List.nodup_cons.mp M.nd).2).2).2).1
theorem MS.ofpl (M:MS CM CF CC H a s):a.ofr≠a.pl:=fun e=>M.npl (e ▸ List.mem_cons_self)
theorem MS.stpl (M:MS CM CF CC H a s):a.st≠a.pl:=fun e=>M.npl (e ▸ List.mem_cons_of_mem _ List.mem_cons_self)
theorem MS.stof (M:MS CM CF CC H a s):a.st≠a.ofr:=fun e=>M.nof (e ▸ List.mem_cons_self)
theorem MS.fpl (M:MS CM CF CC H a s){f:Fm}(hf:f∈s.cur::s.outer):f.own≠a.pl:=fun e=>M.npl (e ▸ List.mem_cons_of_mem _ (List.mem_cons_of_mem _ (List.mem_map_of_mem hf)))
theorem MS.fof (M:MS CM CF CC H a s){f:Fm}(hf:f∈s.cur::s.outer):f.own≠a.ofr:=fun e=>M.nof (e ▸ List.mem_cons_of_mem _ (List.mem_map_of_mem hf))
theorem MS.fst (M:MS CM CF CC H a s){f:Fm}(hf:f∈s.cur::s.outer):f.own≠a.st:=fun e=>M.nst (e ▸ List.mem_map_of_mem hf)
theorem MS.fow (M:MS CM CF CC H a s){f:Fm}(hf:f∈s.outer):f.own≠s.cur.own:=fun e=>M.now (e ▸ List.mem_map_of_mem hf)
theorem MS.mcl (M:MS CM CF CC H a s):a.m≠a.cl:=obo M.ob M.hc (by show ¬((6:Nat)=3);decide)
theorem MS.fm (M:MS CM CF CC H a s){f:Fm}(hf:f∈s.cur::s.outer):f.fr≠a.m:=obo (M.fs f hf).1 M.ob (by show ¬((2:Nat)=6);decide)
theorem MS.fcl (M:MS CM CF CC H a s){f:Fm}(hf:f∈s.cur::s.outer):f.fr≠a.cl:=obo (M.fs f hf).1 M.hc (by show ¬((2:Nat)=3);decide)
theorem MS.setP (M:MS CM CF CC H a s)(p:List V):MS CM CF CC (upd H a.pl (.lst p)) a (s.setP p) :=
 ⟨at_ne M.ob (obl M.ob M.hp),upd_same,at_ne M.hf M.ofpl,at_ne M.hc (obl M.hc M.hp),at_ne M.hs M.stpl,fun f hf=>⟨at_ne (M.fs f hf).1 (obl (M.fs f hf).1 M.hp),at_ne (M.fs f hf).2 (M.fpl hf)⟩,M.nd⟩
theorem MS.setS (M:MS CM CF CC H a s)(p:List V):MS CM CF CC (upd H a.st (.lst p)) a (s.setS p) :=
 ⟨at_ne M.ob (obl M.ob M.hs),at_ne M.hp (Ne.symm M.stpl),at_ne M.hf (Ne.symm M.stof),at_ne M.hc (obl M.hc M.hs),upd_same,fun f hf=>⟨at_ne (M.fs f hf).1 (obl (M.fs f hf).1 M.hs),at_ne (M.fs f hf).2 (M.fst hf)⟩,M.nd⟩
theorem MS.setO (M:MS CM CF CC H a s)(p:List V):MS CM CF CC (upd H s.cur.own (.lst p)) a (s.setO p):=by
 have hm:s.cur∈s.cur::s.outer:=List.mem_cons_self
 refine⟨at_ne M.ob (obl M.ob M.ho),at_ne M.hp (Ne.symm (M.fpl hm)),at_ne M.hf (Ne.symm (M.fof hm)),at_ne M.hc (obl M.hc M.ho),at_ne M.hs (Ne.symm (M.fst hm)),fun f hf=>?_,M.nd⟩
 rcases List.mem_cons.mp hf with rfl|hf'
 ·exact⟨at_ne M.fc (obl M.fc M.ho),upd_same⟩
 ·have h:=M.fs f (List.mem_cons_of_mem _ hf')
  exact⟨at_ne h.1 (obl h.1 M.ho),at_ne h.2 (M.fow hf')⟩
theorem MS.setA (M:MS CM CF CC H a s)(v:V):MS CM CF CC (upd H a.m (.ins CM a.dx (mfl a.cl a.pl s.cur.fr a.ofr a.st v))) a (s.setA v) :=
 ⟨upd_same,at_ne M.hp (Ne.symm (obl M.ob M.hp)),at_ne M.hf (Ne.symm (obl M.ob M.hf)),at_ne M.hc (Ne.symm M.mcl),at_ne M.hs (Ne.symm (obl M.ob M.hs)),fun f hf=>⟨at_ne (M.fs f hf).1 (M.fm hf),at_ne (M.fs f hf).2 (Ne.symm (obl M.ob (M.fs f hf).2))⟩,M.nd⟩
theorem MS.setC (M:MS CM CF CC H a s)(b u:Int):MS CM CF CC (upd H a.cl (.ins CC a.dxc (cfl (.int s.most) (.int b) (.int u)))) a (s.setC b u) :=
 ⟨at_ne M.ob M.mcl,at_ne M.hp (Ne.symm (obl M.hc M.hp)),at_ne M.hf (Ne.symm (obl M.hc M.hf)),upd_same,at_ne M.hs (Ne.symm (obl M.hc M.hs)),fun f hf=>⟨at_ne (M.fs f hf).1 (M.fcl hf),at_ne (M.fs f hf).2 (Ne.symm (obl M.hc (M.fs f hf).2))⟩,M.nd⟩
theorem xtP {x:HO}{p:List V}:Ext a s H (s.setP p) (upd H a.pl x):=fun b o n h=>⟨n,at_ne h fun e=>by subst e;exact n (.inr (.inr List.mem_cons_self))⟩
theorem xtS {x:HO}{p:List V}:Ext a s H (s.setS p) (upd H a.st x):=fun b o n h=>⟨n,at_ne h fun e=>by subst e;exact n (.inr (.inr (List.mem_cons_of_mem _ (List.mem_cons_of_mem _ List.mem_cons_self))))⟩
theorem xtO {x:HO}{p:List V}:Ext a s H (s.setO p) (upd H s.cur.own x):=fun b o n h=>⟨n,at_ne h fun e=>by subst e;exact n (.inr (.inr (List.mem_cons_of_mem _ (List.mem_cons_of_mem _ (List.mem_cons_of_mem _ List.mem_cons_self)))))⟩
theorem xtA {x:HO}{v:V}:Ext a s H (s.setA v) (upd H a.m x):=fun b o n h=>⟨n,at_ne h fun e=>by subst e;exact n (.inl rfl)⟩
theorem xtC {x:HO}{i j:Int}:Ext a s H (s.setC i j) (upd H a.cl x):=fun b o n h=>⟨n,at_ne h fun e=>by subst e;exact n (.inr (.inl rfl))⟩
theorem MS.tupN (M:MS CM CF CC H a s){r:Addr}{xs:List V}(h:H r=some (.tup xs)):¬Mu a s r:=by
 rintro(rfl|rfl|hm)
 ·rw[M.ob]at h;cases h
 ·rw[M.hc]at h;cases h
 ·rcases List.mem_cons.mp hm with rfl|hm
  ·rw[M.hp]at h;cases h
  ·rcases List.mem_cons.mp hm with rfl|hm
   ·rw[M.hf]at h;cases h
   ·rcases List.mem_cons.mp hm with rfl|hm
    ·rw[M.hs]at h;cases h
    ·obtain⟨f,hf,rfl⟩:=List.mem_map.mp hm
     rw[(M.fs f hf).2]at h;cases h
theorem MS.noneN (M:MS CM CF CC H a s){r:Addr}(h:H r=none):¬Mu a s r:=by
 rintro(rfl|rfl|hm)
 ·rw[M.ob]at h;cases h
 ·rw[M.hc]at h;cases h
 ·rcases List.mem_cons.mp hm with rfl|hm
  ·rw[M.hp]at h;cases h
  ·rcases List.mem_cons.mp hm with rfl|hm
   ·rw[M.hf]at h;cases h
   ·rcases List.mem_cons.mp hm with rfl|hm
    ·rw[M.hs]at h;cases h
    ·obtain⟨f,hf,rfl⟩:=List.mem_map.mp hm
     rw[(M.fs f hf).2]at h;cases h
theorem Kp1.xt {p':List V}(k:Kp1 a.pl H H'):Ext a s H (s.setP p') H':=fun b o n h=>⟨n,k b o (fun e=>by subst e;exact n (.inr (.inr List.mem_cons_self))) h⟩
theorem MS.kp1 (M:MS CM CF CC H a s){p':List V}(k:Kp1 a.pl H H')(hp:H' a.pl=some (.lst p')):MS CM CF CC H' a (s.setP p') :=
 ⟨k _ _ (obl M.ob M.hp) M.ob,hp,k _ _ M.ofpl M.hf,k _ _ (obl M.hc M.hp) M.hc,k _ _ M.stpl M.hs,fun f hf=>⟨k _ _ (obl (M.fs f hf).1 M.hp) (M.fs f hf).1,k _ _ (M.fpl hf) (M.fs f hf).2⟩,M.nd⟩
end
def nm:Nat→Str
 |0=>"number"|1=>"local"|2=>"global"|3=>"keep"|4=>"drop"|5=>"store"|10=>"unless"|11=>"jump"|_=>"back"
def RS (n:Nat)(args:List V)(s s':MCo):Prop:=match n with
 |0=>∃v,args=[v]∧s'=s.setP (s.pile++[v])
 |1=>∃(j:Nat) (v:V),args=[.int (j:Int)]∧s.cur.vs[j]?=some v∧s'=s.setP (s.pile++[v])
 |2=>∃(j:Nat) (v:V),args=[.int (j:Int)]∧s.sto[j]?=some v∧s'=s.setP (s.pile++[v])
 |3=>∃(p:List V) (v:V),args=[]∧s.pile=p++[v]∧s'=(s.setP p).setO (s.cur.vs++[v])
 |4=>∃(o u:List V) (n:Nat),args=[.int (n:Int)]∧s.cur.vs=o++u∧u.length=n∧s'=s.setO o
 |5=>∃(p:List V) (v:V),args=[]∧s.pile=p++[v]∧s'=(s.setP p).setS (s.sto++[v])
 |10=>∃(p:List V) (t:V) (i:Int),args=[t]∧s.pile=p++[.int i]∧s'=if i=0 then(s.setP p).setA t else s.setP p
 |11=>∃t,args=[t]∧s'=s.setA t
 |_=>args=[]∧s.outer=[]∧s'=s.setA .non
inductive CspRow (CM CF CC:Addr)(n:Nat)(vs:List V)(H:Hp)(Q:VK)(E_:XK):Prop where
 |mk (a:MA) (s s':MCo) (r:Addr) (args:List V):vs=[.ref a.m, .ref r]→MS CM CF CC H a s→H r=some (.tup (.str (nm n)::args))→RS n args s s'→s.pile.length≤500→s.cur.vs.length≤500→s.sto.length≤500→(∀H',MS CM CF CC H' a s'→Ext a s H s' H'→Q .non H')→CspRow CM CF CC n vs H Q E_
def spRow (CM CF CC:Addr)(n:Nat):Sp:=CspRow CM CF CC n
section
variable {P:Program}{w:World}{K:PySem.W.Frag}{mg:Str→Option Value}{base:Heap}{f:Addr}{fd:FuncData}{CM CF CC CL:Addr}
theorem row_len {n:Nat}:∀vs H Q E,spRow CM CF CC n vs H Q E→vs.length=(["machine","row"]:List Str).length:=fun vs H Q E h=>by
 obtain⟨a,s,s',r,args,rfl,_⟩:=h
 rfl
abbrev s_do (n:Nat):Stmt:=top (28+n)
theorem sc_do0:FnScope ["machine","row"] ["machine","row"] (defScope (s_do 0)):=⟨rfl,rfl,rfl,by decide+kernel,rfl,by decide+kernel,by decide+kernel⟩
theorem sc_do1:FnScope ["machine","row"] ["machine","row"] (defScope (s_do 1)):=⟨rfl,rfl,rfl,by decide+kernel,rfl,by decide+kernel,by decide+kernel⟩
theorem sc_do2:FnScope ["machine","row"] ["machine","row"] (defScope (s_do 2)):=⟨rfl,rfl,rfl,by decide+kernel,rfl,by decide+kernel,by decide+kernel⟩
theorem sc_do3:FnScope ["machine","row"] ["machine","row"] (defScope (s_do 3)):=⟨rfl,rfl,rfl,by decide+kernel,rfl,by decide+kernel,by decide+kernel⟩
theorem sc_do4:FnScope ["machine","row","place"] ["machine","row"] (defScope (s_do 4)):=⟨rfl,rfl,rfl,by decide+kernel,rfl,by decide+kernel,by decide+kernel⟩
theorem sc_do5:FnScope ["machine","row"] ["machine","row"] (defScope (s_do 5)):=⟨rfl,rfl,rfl,by decide+kernel,rfl,by decide+kernel,by decide+kernel⟩
theorem sc_do7:FnScope ["machine","row"] ["machine","row"] (defScope (s_do 7)):=⟨rfl,rfl,rfl,by decide+kernel,rfl,by decide+kernel,by decide+kernel⟩
theorem sc_do8:FnScope ["machine","row"] ["machine","row"] (defScope (s_do 8)):=⟨rfl,rfl,rfl,by decide+kernel,rfl,by decide+kernel,by decide+kernel⟩
theorem ok_do0 (F:Fun K "do_number" "do_number" (s_do 0) f fd)(Tx:TxM K CM CF CC CL):FnOk P w K mg base (CXF P w) 1 f fd ["machine","row"] (spRow CM CF CC 0):=by
 refine F.okX sc_do0 row_len (fun cdv A outer s H vs Q E hr h=>?_)
 obtain⟨a,s,s',r,args,rfl,M,hr',⟨v,rfl,rfl⟩,lp,lo,ls,q⟩:=h
 refine⟨_,pss_one (ps_expr (pe_bm PySem.F.plainAttrs_list PySem.F.slot_list_append PySem.F.type_list_append mt_append (fldK K (pv 0) rfl) (pa_cons (pe_ix (ixT K) (pv 1) pe_int (fun _ _=>rfl)) pa_nil))),?_⟩
 refine⟨_,rfl,a.m,CM,a.dx,_, .ref a.pl,rfl,M.ob,Tx.cm,Tx.m2,mf2 _ _ _ _ _ _, .inl ⟨rfl,_,SqL.of M.hp⟩,_,rfl,r,_,1,v,rfl,rfl,SqT.of hr',atI_nat (j:=1) rfl,a.pl,s.pile,v,rfl,rfl,M.hp,small' (by omega),?_⟩
 exact q _ (M.setP _) xtP
theorem ok_do1 (F:Fun K "do_local" "do_local" (s_do 1) f fd)(Tx:TxM K CM CF CC CL):FnOk P w K mg base (CXF P w) 1 f fd ["machine","row"] (spRow CM CF CC 1):=by
 refine F.okX sc_do1 row_len (fun cdv A outer s H vs Q E hr h=>?_)
 obtain⟨a,s,s',r,args,rfl,M,hr',⟨j,v,rfl,hv,rfl⟩,lp,lo,ls,q⟩:=h
 refine⟨_,pss_one (ps_expr (pe_bm PySem.F.plainAttrs_list PySem.F.slot_list_append PySem.F.type_list_append mt_append (fldK K (pv 0) rfl) (pa_cons (pe_ix (ixL K) (fldK K (fldK K (pv 0) rfl) rfl) (pe_ix (ixT K) (pv 1) pe_int (fun _ _=>rfl)) (fun _ _=>rfl)) pa_nil))),?_⟩
 refine⟨_,rfl,a.m,CM,a.dx,_, .ref a.pl,rfl,M.ob,Tx.cm,Tx.m2,mf2 _ _ _ _ _ _, .inl ⟨rfl,_,SqL.of M.hp⟩,_,rfl,a.m,CM,a.dx,_, .ref s.cur.fr,rfl,M.ob,Tx.cm,Tx.m3,mf3 _ _ _ _ _ _,s.cur.fr,CF,s.cur.dxf,_, .ref s.cur.own,rfl,M.fc,Tx.cf,Tx.f1,ff1 _ _,_,rfl,r,_,1, .int j,rfl,rfl,SqT.of hr',atI_nat (j:=1) rfl,s.cur.own,_,j,v,rfl,rfl,SqL.of M.ho,atI_nat (j:=j) hv,a.pl,s.pile,v,rfl,rfl,M.hp,small' (by omega),?_⟩
 exact q _ (M.setP _) xtP
theorem ok_do2 (F:Fun K "do_global" "do_global" (s_do 2) f fd)(Tx:TxM K CM CF CC CL):FnOk P w K mg base (CXF P w) 1 f fd ["machine","row"] (spRow CM CF CC 2):=by
 refine F.okX sc_do2 row_len (fun cdv A outer s H vs Q E hr h=>?_)
 obtain⟨a,s,s',r,args,rfl,M,hr',⟨j,v,rfl,hv,rfl⟩,lp,lo,ls,q⟩:=h
 refine⟨_,pss_one (ps_expr (pe_bm PySem.F.plainAttrs_list PySem.F.slot_list_append PySem.F.type_list_append mt_append (fldK K (pv 0) rfl) (pa_cons (pe_ix (ixL K) (fldK K (pv 0) rfl) (pe_ix (ixT K) (pv 1) pe_int (fun _ _=>rfl)) (fun _ _=>rfl)) pa_nil))),?_⟩
 refine⟨_,rfl,a.m,CM,a.dx,_, .ref a.pl,rfl,M.ob,Tx.cm,Tx.m2,mf2 _ _ _ _ _ _, .inl ⟨rfl,_,SqL.of M.hp⟩,_,rfl,a.m,CM,a.dx,_, .ref a.st,rfl,M.ob,Tx.cm,Tx.m5,mf5 _ _ _ _ _ _,_,rfl,r,_,1, .int j,rfl,rfl,SqT.of hr',atI_nat (j:=1) rfl,a.st,_,j,v,rfl,rfl,SqL.of M.hs,atI_nat (j:=j) hv,a.pl,s.pile,v,rfl,rfl,M.hp,small' (by omega),?_⟩
 exact q _ (M.setP _) xtP
theorem ok_do3 (F:Fun K "do_keep" "do_keep" (s_do 3) f fd)(Tx:TxM K CM CF CC CL):FnOk P w K mg base (CXF P w) 1 f fd ["machine","row"] (spRow CM CF CC 3):=by
 refine F.okX sc_do3 row_len (fun cdv A outer s H vs Q E hr h=>?_)
 obtain⟨a,s,s',r,args,rfl,M,hr',⟨p,v,rfl,hp,rfl⟩,lp,lo,ls,q⟩:=h
 refine⟨_,pss_one (ps_expr (pe_bm PySem.F.plainAttrs_list PySem.F.slot_list_append PySem.F.type_list_append mt_append (fldK K (fldK K (pv 0) rfl) rfl) (pa_cons (pe_bm0 PySem.F.plainAttrs_list PySem.F.slot_list_pop PySem.F.type_list_pop mt_pop (fldK K (pv 0) rfl)) pa_nil))),?_⟩
 have M1:=M.setP p
 have hpl:=M.hp
 rw[hp]at hpl
 refine⟨_,rfl,a.m,CM,a.dx,_, .ref s.cur.fr,rfl,M.ob,Tx.cm,Tx.m3,mf3 _ _ _ _ _ _,s.cur.fr,CF,s.cur.dxf,_, .ref s.cur.own,rfl,M.fc,Tx.cf,Tx.f1,ff1 _ _, .inl ⟨rfl,_,SqL.of M.ho⟩,_,rfl,a.m,CM,a.dx,_, .ref a.pl,rfl,M.ob,Tx.cm,Tx.m2,mf2 _ _ _ _ _ _, .inl ⟨rfl,_,SqL.of M.hp⟩,a.pl,_,v,rfl,rfl,hpl,by simp,?_⟩
 rw[List.dropLast_concat]
 exact⟨s.cur.own,s.cur.vs,v,rfl,rfl,M1.ho,small' (by omega),q _ (M1.setO _) (xtP.trans xtO)⟩
theorem drop_one {o u:List V}{i n:Nat}(l:u.length=n)(h:i<n):∃v,o++u.take (n-i)=(o++u.take (n-(i+1)))++[v]:=by
 have hl:n-(i+1)<u.length:=by omega
 refine⟨u[n-(i+1)],?_⟩
 rw[List.append_assoc,show n-i=n-(i+1)+1 by omega,List.take_add_one,List.getElem?_eq_getElem hl]
 rfl
theorem ok_do4 (F:Fun K "do_drop" "do_drop" (s_do 4) f fd)(Tx:TxM K CM CF CC CL)(mr:mg "range"=none):FnOk P w K mg base (CXF P w) 1 f fd ["machine","row"] (spRow CM CF CC 4):=by
 refine F.okX sc_do4 row_len (fun cdv A outer s H vs Q E hr h=>?_)
 obtain⟨a,s,s',r,args,rfl,M,hr',⟨o,u,n,rfl,hv,lu,rfl⟩,lp,lo,ls,q⟩:=h
 have ln:n≤500:=by rw[hv,List.length_append]at lo;omega
 refine⟨_,pss_one (ps_for PassesOwn.leaving rfl (pi_range1 rfl mr (pa_cons (pe_ix (ixT K) (pv 1) pe_int (fun _ _=>rfl)) pa_nil)) (pg_name (i:=2) sc_do4.nd rfl (Or.inl rfl)) (pss_one (ps_expr (pe_bm0 PySem.F.plainAttrs_list PySem.F.slot_list_pop PySem.F.type_list_pop mt_pop (fldK K (fldK K (pv 0) rfl) rfl))))),?_⟩
 refine⟨_,rfl,r,_,1, .int (n:Int),rfl,rfl,SqT.of hr',atI_nat (j:=1) rfl,(n:Int),rfl,by omega,by omega,?_⟩
 refine for_range (n:=n) (fun i σ H'=>(∃z,σ=[some (.ref a.m),some (.ref r),z])∧MS CM CF CC H' a (s.setO (o++u.take (n-i)))∧Ext a s H (s.setO o) H') ⟨⟨none,rfl⟩,?_,fun b o n h=>⟨n,h⟩⟩ ?_ ?_
 ·rw[Nat.sub_zero,←lu,List.take_length,←hv]
  exact M
 ·rintro i σ H' hi ⟨⟨z,rfl⟩,M',x⟩
  obtain⟨v,e⟩:=drop_one (o:=o) lu hi
  rw[e]at M'
  have hpl:H' s.cur.own=some (.lst ((o++u.take (n-(i+1)))++[v])):=M'.ho
  refine⟨_,rfl,a.m,CM,a.dx,_, .ref s.cur.fr,rfl,M'.ob,Tx.cm,Tx.m3,mf3 _ _ _ _ _ _,s.cur.fr,CF,s.cur.dxf,_, .ref s.cur.own,rfl,M'.fc,Tx.cf,Tx.f1,ff1 _ _, .inl ⟨rfl,_,SqL.of M'.ho⟩,s.cur.own,_,v,rfl,rfl,hpl,by simp,⟨_,rfl⟩,?_,?_⟩
  ·rw[List.dropLast_concat]
   exact M'.setO _
  ·exact x.trans (xtO (s:=s.setO o) (p:=o))
 ·rintro σ H' ⟨_,M',x⟩
  rw[Nat.sub_self,List.take_zero,List.append_nil]at M'
  exact q _ M' x
theorem ok_do5 (F:Fun K "do_store" "do_store" (s_do 5) f fd)(Tx:TxM K CM CF CC CL):FnOk P w K mg base (CXF P w) 1 f fd ["machine","row"] (spRow CM CF CC 5):=by
 refine F.okX sc_do5 row_len (fun cdv A outer s H vs Q E hr h=>?_)
 obtain⟨a,s,s',r,args,rfl,M,hr',⟨p,v,rfl,hp,rfl⟩,lp,lo,ls,q⟩:=h
 refine⟨_,pss_one (ps_expr (pe_bm PySem.F.plainAttrs_list PySem.F.slot_list_append PySem.F.type_list_append mt_append (fldK K (pv 0) rfl) (pa_cons (pe_bm0 PySem.F.plainAttrs_list PySem.F.slot_list_pop PySem.F.type_list_pop mt_pop (fldK K (pv 0) rfl)) pa_nil))),?_⟩
 have M1:=M.setP p
 have hpl:=M.hp
 rw[hp]at hpl
 refine⟨_,rfl,a.m,CM,a.dx,_, .ref a.st,rfl,M.ob,Tx.cm,Tx.m5,mf5 _ _ _ _ _ _, .inl ⟨rfl,_,SqL.of M.hs⟩,_,rfl,a.m,CM,a.dx,_, .ref a.pl,rfl,M.ob,Tx.cm,Tx.m2,mf2 _ _ _ _ _ _, .inl ⟨rfl,_,SqL.of M.hp⟩,a.pl,_,v,rfl,rfl,hpl,by simp,?_⟩
 rw[List.dropLast_concat]
 exact⟨a.st,s.sto,v,rfl,rfl,M1.hs,small' (by omega),q _ (M1.setS _) (xtP.trans xtS)⟩
theorem ok_do8 (F:Fun K "do_jump" "do_jump" (s_do 8) f fd)(Tx:TxM K CM CF CC CL):FnOk P w K mg base (CXF P w) 1 f fd ["machine","row"] (spRow CM CF CC 11):=by
 refine F.okX sc_do8 row_len (fun cdv A outer s H vs Q E hr h=>?_)
 obtain⟨a,s,s',r,args,rfl,M,hr',⟨t,rfl,rfl⟩,lp,lo,ls,q⟩:=h
 refine⟨_,pss_one (sfldK K (pv 0) (pe_ix (ixT K) (pv 1) pe_int (fun _ _=>rfl)) rfl),?_⟩
 refine⟨_,rfl,r,_,1,t,rfl,rfl,SqT.of hr',atI_nat (j:=1) rfl,_,rfl,a.m,CM,a.dx,_,rfl,M.ob,Tx.cm,Tx.m6,(by show 6<1000;decide),?_⟩
 rw[mp6]
 exact q _ (M.setA _) xtA
theorem ok_do7 (F:Fun K "do_unless" "do_unless" (s_do 7) f fd)(Tx:TxM K CM CF CC CL)(h1:Has P w K mg base 2 "number_of" ["value"] spNum):FnOk P w K mg base (CXF P w) 3 f fd ["machine","row"] (spRow CM CF CC 10):=by
 refine F.okX sc_do7 row_len (fun cdv A outer s H vs Q E hr h=>?_)
 obtain⟨a,s,s',r,args,rfl,M,hr',⟨p,t,i,rfl,hp,rfl⟩,lp,lo,ls,q⟩:=h
 have hpl:=M.hp
 rw[hp]at hpl
 refine⟨_,pss_one (ps_if (pt_cmpR op_eq (pcall h1 hr (by decide) rfl (pa_cons (pe_bm0 PySem.F.plainAttrs_list PySem.F.slot_list_pop PySem.F.type_list_pop mt_pop (fldK K (pv 0) rfl)) pa_nil)) pe_int (nomark _)) (pss_one (sfldK K (pv 0) (pe_ix (ixT K) (pv 1) pe_int (fun _ _=>rfl)) rfl)) pss_nil),?_⟩
 refine⟨_,rfl,a.m,CM,a.dx,_, .ref a.pl,rfl,M.ob,Tx.cm,Tx.m2,mf2 _ _ _ _ _ _, .inl ⟨rfl,_,SqL.of M.hp⟩,a.pl,_, .int i,rfl,rfl,hpl,by simp,?_⟩
 rw[List.dropLast_concat]
 refine⟨i,rfl,fun H1 s1=>⟨rfl,_,rfl,?_⟩⟩
 have M1:=(M.setP p).same s1
 have k1:Ext a s H (s.setP p) H1:=xtP.trans (Same.ext s1)
 refine ite2 (fun c=>?_) (fun c=>?_)
 ·have c1:V.int i=V.int 0:=of_decide_eq_true c
  have c2:i=0:=by injection c1
  rw[if_pos c2]at q
  have hr1:=(k1 r _ (M.tupN hr') hr').2
  refine(ix_t (a:=r) (j:=1) rfl hr1 rfl ⟨_,rfl,a.m,CM,a.dx,_,rfl,M1.ob,Tx.cm,Tx.m6,(by show 6<1000;decide),?_⟩)
  rw[mp6]
  exact q _ (M1.setA t) (k1.trans xtA)
 ·have c2:¬i=0:=fun z=>c (by rw[z];rfl)
  rw[if_neg c2]at q
  exact q _ M1 k1
end
inductive CspReckon (CM CF CC CT:Addr)(vs:List V)(H:Hp)(Q:VK)(E:XK):Prop where
 |mk (a:MA) (s:MCo) (r:Addr) (p:List V) (k:Nat) (i j:Int):vs=[.ref a.m, .ref r]→MS CM CF CC H a s→s.pile=p++[.int i, .int j]→H r=some (.tup [.str (wordOf k)])→k≤3→p.length≤500→In60 i→In60 j→(In60 (rk k i j)→∀H',MS CM CF CC H' a (s.setP (p++[.int (rk k i j)]))→Ext a s H (s.setP (p++[.int (rk k i j)])) H'→Q .non H')→(¬In60 (rk k i j)→∀ea H',(∀b o,¬Mu a s b→H b=some o→H' b=some o)→E (.ref CT) (some ea) H')→CspReckon CM CF CC CT vs H Q E
def spReckon (CM CF CC CT:Addr):Sp:=CspReckon CM CF CC CT
section
variable {P:Program}{w:World}{K:PySem.W.Frag}{mg:Str→Option Value}{base:Heap}{f:Addr}{fd:FuncData}{CM CF CC CL CT:Addr}
abbrev s_doreck:Stmt:=top 34
theorem sc_doreck:FnScope ["machine","row","numbers"] ["machine","row"] (defScope s_doreck):=⟨rfl,rfl,rfl,by decide+kernel,rfl,by decide+kernel,by decide+kernel⟩
theorem ok_doreck {fR:Addr}{gR:FuncData}(F:Fun K "do_reckon" "do_reckon" s_doreck f fd)(Tx:TxM K CM CF CC CL)(h1:Has P w K mg base 1 "taken_off" ["pile","count"] spTaken)
  (G:FnOk P w K mg base (CXF P w) 3 fR gR ["word","one","other"] (spReck CT)) (hm:mg "reckoned"=some (.ref fR)) (kp:PySem.W.keepIn K (.ref fR)=true) (b:Binds K gR ["word","one","other"] []):
  FnOk P w K mg base (CXF P w) 4 f fd ["machine","row"] (spReckon CM CF CC CT):=by
 refine F.okX sc_doreck (fun vs H Q E h=>?_) (fun cdv A outer s H vs Q E hr h=>?_)
 ·obtain⟨a,s,r,p,k,i,j,rfl,_⟩:=h
  rfl
 obtain⟨a,s,r,p,k,i,j,rfl,M,hp,hr',hk,lp,hi,hj,q1,q2⟩:=h
 have hpl:=M.hp
 rw[hp]at hpl
 refine⟨_,pss_cons (ps_set (i:=2) sc_doreck.nd rfl (Or.inl rfl) (pcall h1 hr (by decide) rfl (pa_cons (fldK K (pv 0) rfl) (pa_cons pe_int pa_nil))))
  (pss_one (ps_expr (pe_bm PySem.F.plainAttrs_list PySem.F.slot_list_append PySem.F.type_list_append mt_append (fldK K (pv 0) rfl) (pa_cons (pe_call G hr rfl hm kp b .nil passes_up
   (pa_cons (pe_ix (ixT K) (pv 1) pe_int (fun _ _=>rfl)) (pa_cons (pe_ix (ixT K) (pv 2) pe_int (fun _ _=>rfl)) (pa_cons (pe_ix (ixT K) (pv 2) pe_int (fun _ _=>rfl)) pa_nil)))) pa_nil)))),?_⟩
 refine⟨_,rfl,a.m,CM,a.dx,_, .ref a.pl,rfl,M.ob,Tx.cm,Tx.m2,mf2 _ _ _ _ _ _,a.pl,p,[.int i, .int j],2,rfl,hpl,rfl,by decide,fun t H1 ht0 ht hp1 k1=>?_⟩
 have M1:=M.kp1 k1 hp1
 have x1:Ext a s H (s.setP p) H1:=Kp1.xt k1
 have hr1:=(x1 r _ (M.tupN hr') hr').2
 refine⟨_,rfl,a.m,CM,a.dx,_, .ref a.pl,rfl,M1.ob,Tx.cm,Tx.m2,mf2 _ _ _ _ _ _, .inl ⟨rfl,_,SqL.of M1.hp⟩,ix_t (a:=r) (j:=0) rfl hr1 rfl ⟨_,rfl,t,_,0, .int i,rfl,rfl,SqT.of ht,atI_nat (j:=0) rfl,
  ix_t (a:=t) (j:=1) rfl ht rfl ⟨k,i,j,rfl,hk,hi,hj,fun hin H2 s2=>?_,fun hout ea H2 s2=>q2 hout ea H2 fun b o n h=>s2 b o (x1 b o n h).2⟩⟩⟩
 have M2:=M1.same s2
 exact⟨a.pl,p,_,rfl,rfl,M2.hp,small' (by omega),q1 hin _ (M2.setP _) ((x1.trans (Same.ext s2)).trans xtP)⟩
end
end Fw
namespace L2
open PySem PySem.Spec PyProof.Rows
theorem call_isiO {X:Cx}:CallR X (.builtin "isinstance") (fun xs H Q=>∃x t C b,xs=[x, .ref C]∧TyOf X.K H x t∧PySem.W.kitOne X.K t (.ref C)=some b∧Q (.bl b) H):=by
 intro pins s σ H xs us Q I r h
 obtain⟨x,t,C,b,rfl,ty,e,q⟩:=h
 obtain⟨u,w',rfl,rx,ry⟩:=vals2 r
 cases(show w'=Value.ref C from ry)
 exact isinst_ok I rx ty e fun tk=>⟨.bl b,H,I.tok tk,rfl,q⟩
end L2
namespace Fw
open PySem PySem.Spec PyProof.Rows L2
theorem Kp1.trans {m:Addr}{H H1 H2:Hp}(a:Kp1 m H H1)(b:Kp1 m H1 H2):Kp1 m H H2:=fun c o n h=>b c o n (a c o n h)
theorem Kp1.free {m b:Addr}{H H':Hp}(k:Kp1 m H H')(n:b≠m)(h:H' b=none):H b=none:=by
 cases hz:H b with
 |none=>rfl
 |some o=>rw[k b o n hz]at h;cases h
theorem lay1 {H:Hp}{d m C dx:Addr}{o:HO}{fs fs':List (Str×V)}(hm:H m=some (.ins C dx fs))(hd:H d=none):
  (upd H d o) m=some (.ins C dx fs)∧(upd (upd H d o) m (.ins C dx fs')) m=some (.ins C dx fs')∧(upd (upd H d o) m (.ins C dx fs')) d=some o∧Kp1 m H (upd (upd H d o) m (.ins C dx fs'))∧d≠m:=by
 have n:m≠d:=ne_of_none hm hd
 refine⟨by rw[upd_ne n];exact hm,upd_same,by rw[upd_ne (Ne.symm n),upd_same],fun b x nb h=>?_,Ne.symm n⟩
 rw[upd_ne nb,upd_ne (ne_of_none h hd)]
 exact h
theorem made1 {H:Hp}{x y:Addr}{C:Addr}{fs:List (Str×V)}(hx:H x=none)(hy:H y=none)(n:y≠x):
  (upd (upd (upd H y (.own x)) x (.ins C y [])) x (.ins C y fs)) x=some (.ins C y fs)∧∀b o,H b=some o→(upd (upd (upd H y (.own x)) x (.ins C y [])) x (.ins C y fs)) b=some o:=by
 refine⟨upd_same,fun b o h=>?_⟩
 rw[upd_ne (ne_of_none h hx),upd_ne (ne_of_none h hx),upd_ne (ne_of_none h hy)]
 exact h
inductive CspCalls (CC:Addr)(vs:List V)(H:Hp)(Q:VK)(E_:XK):Prop where
 |mk (p dx:Addr) (v:V):vs=[.ref p,v]→H p=some (.ins CC dx [])→Q .non (upd H p (.ins CC dx (cfl v (.int 0) (.int 0))))→CspCalls CC vs H Q E_
def spCalls (CC:Addr):Sp:=CspCalls CC
inductive CspFrame (CF:Addr)(vs:List V)(H:Hp)(Q:VK)(E_:XK):Prop where
 |mk (p dx own:Addr) (be:V):vs=[.ref p, .ref own,be]→H p=some (.ins CF dx [])→Q .non (upd H p (.ins CF dx (ffl own be)))→CspFrame CF vs H Q E_
def spFrame (CF:Addr):Sp:=CspFrame CF
inductive CspClosed (CL:Addr)(vs:List V)(H:Hp)(Q:VK)(E_:XK):Prop where
 |mk (p dx k:Addr) (to:V):vs=[.ref p,to, .ref k]→H p=some (.ins CL dx [])→Q .non (upd H p (.ins CL dx (clf to k)))→CspClosed CL vs H Q E_
def spClosed (CL:Addr):Sp:=CspClosed CL
inductive CspBegin (CC CTl CTd:Addr)(vs:List V)(H:Hp)(Q:VK)(E:XK):Prop where
 |mk (p dx:Addr) (m b u:Int):vs=[.ref p]→H p=some (.ins CC dx (cfl (.int m) (.int b) (.int u)))→(m<b+1→∀ea,E (.ref CTl) (some ea) H)→(b+1≤m→10<u+1→∀ea,E (.ref CTd) (some ea) H)→(b+1≤m→u+1≤10→Q .non (upd H p (.ins CC dx (cfl (.int m) (.int (b+1)) (.int (u+1))))))→CspBegin CC CTl CTd vs H Q E
def spBegin (CC CTl CTd:Addr):Sp:=CspBegin CC CTl CTd
inductive CspComeBack (CC:Addr)(vs:List V)(H:Hp)(Q:VK)(E_:XK):Prop where
 |mk (p dx:Addr) (m b u:Int):vs=[.ref p]→H p=some (.ins CC dx (cfl (.int m) (.int b) (.int u)))→Q .non (upd H p (.ins CC dx (cfl (.int m) (.int b) (.int (u-1)))))→CspComeBack CC vs H Q E_
def spComeBack (CC:Addr):Sp:=CspComeBack CC
section
variable {P:Program}{w:World}{K:PySem.W.Frag}{mg:Str→Option Value}{base:Heap}{f:Addr}{fd:FuncData}{CM CF CC CL CTl CTd:Addr}
abbrev s_calls:Stmt:=inClass (top 23) 0
abbrev s_begin:Stmt:=inClass (top 23) 1
abbrev s_comeb:Stmt:=inClass (top 23) 2
abbrev s_closed:Stmt:=inClass (top 25) 0
abbrev s_frame:Stmt:=inClass (top 26) 0
abbrev s_mach:Stmt:=inClass (top 27) 0
theorem sc_calls:FnScope ["self","most"] ["self","most"] (defScope s_calls):=⟨rfl,rfl,rfl,by decide+kernel,rfl,by decide+kernel,by decide+kernel⟩
theorem sc_begin:FnScope ["self"] ["self"] (defScope s_begin):=⟨rfl,rfl,rfl,by decide+kernel,rfl,by decide+kernel,by decide+kernel⟩
theorem sc_comeb:FnScope ["self"] ["self"] (defScope s_comeb):=⟨rfl,rfl,rfl,by decide+kernel,rfl,by decide+kernel,by decide+kernel⟩
theorem sc_closed:FnScope ["self","to","kept"] ["self","to","kept"] (defScope s_closed):=⟨rfl,rfl,rfl,by decide+kernel,rfl,by decide+kernel,by decide+kernel⟩
theorem sc_frame:FnScope ["self","own","behind"] ["self","own","behind"] (defScope s_frame):=⟨rfl,rfl,rfl,by decide+kernel,rfl,by decide+kernel,by decide+kernel⟩
theorem sc_mach:FnScope ["self","most"] ["self","most"] (defScope s_mach):=⟨rfl,rfl,rfl,by decide+kernel,rfl,by decide+kernel,by decide+kernel⟩
theorem c1 (a:V):putF "most" a []=([("most",a)]:List (Str×V)):=by first|rfl|(with_unfolding_all rfl)|kernel_rfl
theorem c2 (a b:V):putF "begun" b [("most",a)]=([("most",a),("begun",b)]:List (Str×V)):=by first|rfl|(with_unfolding_all rfl)|kernel_rfl
theorem c3 (a b c:V):putF "under_way" c [("most",a),("begun",b)]=([("most",a),("begun",b),("under_way",c)]:List (Str×V)):=by first|rfl|(with_unfolding_all rfl)|kernel_rfl
theorem f1 (a:V):putF "own" a []=([("own",a)]:List (Str×V)):=by first|rfl|(with_unfolding_all rfl)|kernel_rfl
theorem f2 (a b:V):putF "behind" b [("own",a)]=([("own",a),("behind",b)]:List (Str×V)):=by first|rfl|(with_unfolding_all rfl)|kernel_rfl
theorem l1 (a:V):putF "to" a []=([("to",a)]:List (Str×V)):=by first|rfl|(with_unfolding_all rfl)|kernel_rfl
theorem l2 (a b:V):putF "kept" b [("to",a)]=([("to",a),("kept",b)]:List (Str×V)):=by first|rfl|(with_unfolding_all rfl)|kernel_rfl
theorem ok_calls (F:Fun K "__init__" "Calls.__init__" s_calls f fd)(Tx:TxM K CM CF CC CL):FnOk P w K mg base CX0 1 f fd ["self","most"] (spCalls CC):=by
 refine F.ok sc_calls (fun vs H Q E h=>?_) (fun cdv A outer s H vs Q E hr h=>?_)
 ·obtain⟨p,dx,v,rfl,_⟩:=h
  rfl
 obtain⟨p,dx,v,rfl,hp,q⟩:=h
 refine⟨_,pss_cons (sfldK K (pv 0) (pv 1) rfl) (pss_cons (sfldK K (pv 0) pe_int rfl) (pss_one (sfldK K (pv 0) pe_int rfl))),?_⟩
 refine⟨_,rfl,_,rfl,p,CC,dx,[],rfl,hp,Tx.cc,Tx.c1,(by show 0<1000;decide),?_⟩
 rw[c1]
 refine⟨_,rfl,p,CC,dx,_,rfl,upd_same,Tx.cc,Tx.c2,(by show 1<1000;decide),?_⟩
 rw[c2]
 refine⟨_,rfl,p,CC,dx,_,rfl,upd_same,Tx.cc,Tx.c3,(by show 2<1000;decide),?_⟩
 rw[c3,upd_upd,upd_upd]
 exact q
theorem ok_frame (F:Fun K "__init__" "Frame.__init__" s_frame f fd)(Tx:TxM K CM CF CC CL):FnOk P w K mg base CX0 1 f fd ["self","own","behind"] (spFrame CF):=by
 refine F.ok sc_frame (fun vs H Q E h=>?_) (fun cdv A outer s H vs Q E hr h=>?_)
 ·obtain⟨p,dx,own,be,rfl,_⟩:=h
  rfl
 obtain⟨p,dx,own,be,rfl,hp,q⟩:=h
 refine⟨_,pss_cons (sfldK K (pv 0) (pv 1) rfl) (pss_one (sfldK K (pv 0) (pv 2) rfl)),?_⟩
 refine⟨_,rfl,_,rfl,p,CF,dx,[],rfl,hp,Tx.cf,Tx.f1,(by show 0<1000;decide),?_⟩
 rw[f1]
 refine⟨_,rfl,_,rfl,p,CF,dx,_,rfl,upd_same,Tx.cf,Tx.f2,(by show 1<1000;decide),?_⟩
 rw[f2,upd_upd]
 exact q
theorem ok_closed (F:Fun K "__init__" "Closed.__init__" s_closed f fd)(Tx:TxM K CM CF CC CL):FnOk P w K mg base CX0 1 f fd ["self","to","kept"] (spClosed CL):=by
 refine F.ok sc_closed (fun vs H Q E h=>?_) (fun cdv A outer s H vs Q E hr h=>?_)
 ·obtain⟨p,dx,k,to,rfl,_⟩:=h
  rfl
 obtain⟨p,dx,k,to,rfl,hp,q⟩:=h
 refine⟨_,pss_cons (sfldK K (pv 0) (pv 1) rfl) (pss_one (sfldK K (pv 0) (pv 2) rfl)),?_⟩
 refine⟨_,rfl,_,rfl,p,CL,dx,[],rfl,hp,Tx.cl,Tx.l1,(by show 0<1000;decide),?_⟩
 rw[l1]
 refine⟨_,rfl,_,rfl,p,CL,dx,_,rfl,upd_same,Tx.cl,Tx.l2,(by show 1<1000;decide),?_⟩
 rw[l2,upd_upd]
 exact q
theorem ok_begin {bm bm':List Value}{newId B initId newId' B' initId':String}{tk:Tok}(F:Fun K "begin" "Calls.begin" s_begin f fd)(Tx:TxM K CM CF CC CL)(O:OwnCls "TooLong" CTl bm newId mg base)(FB:ExcBaseFacts B newId initId bm)(O':OwnCls "TooDeep" CTd bm' newId' mg base)(FB':ExcBaseFacts B' newId' initId' bm')
  (hM:mg "MOST_UNDER_WAY"=some (.int 10 tk)):FnOk P w K mg base (CXF P w) 1 f fd ["self"] (spBegin CC CTl CTd):=by
 refine F.okX sc_begin (fun vs H Q E h=>?_) (fun cdv A outer s H vs Q E hr h=>?_)
 ·obtain⟨p,dx,m,b,u,rfl,_⟩:=h
  rfl
 obtain⟨p,dx,m,b,u,rfl,hp,q1,q2,q3⟩:=h
 refine⟨_,pss_cons (ps_if (pt_cmpR op_gt (pe_op op_add (fldK K (pv 0) rfl) pe_int) (fldK K (pv 0) rfl) (nomark _)) (pss_one (ps_raise O FB rfl (pa_cons pe_str pa_nil))) pss_nil)
  (pss_cons (ps_if (pt_cmpR op_gt (pe_op op_add (fldK K (pv 0) rfl) pe_int) (pe_glob (v:=.int 10) rfl hM ⟨_,rfl⟩) (nomark _)) (pss_one (ps_raise O' FB' rfl (pa_cons pe_str pa_nil))) pss_nil)
  (pss_cons (sfldK K (pv 0) (pe_op op_add (fldK K (pv 0) rfl) pe_int) rfl) (pss_one (sfldK K (pv 0) (pe_op op_add (fldK K (pv 0) rfl) pe_int) rfl)))),?_⟩
 refine⟨_,rfl,p,CC,dx,_,_,rfl,hp,Tx.cc,Tx.c2,cf2 _ _ _,b,1,rfl,rfl,_,rfl,p,CC,dx,_,_,rfl,hp,Tx.cc,Tx.c1,cf1 _ _ _,b+1,m,rfl,rfl,_,rfl,ite2 (fun c=>?_) (fun c=>?_)⟩
 ·exact⟨small (by show 1≤1000000;decide),fun ea _=>q1 (of_decide_eq_true c) ea⟩
 have c1:b+1≤m:=Int.not_lt.mp fun z=>c (decide_eq_true z)
 refine⟨_,rfl,p,CC,dx,_,_,rfl,hp,Tx.cc,Tx.c3,cf3 _ _ _,u,1,rfl,rfl,u+1,10,rfl,rfl,_,rfl,ite2 (fun c'=>?_) (fun c'=>?_)⟩
 ·exact⟨small (by show 1≤1000000;decide),fun ea _=>q2 c1 (of_decide_eq_true c') ea⟩
 have c2:u+1≤10:=Int.not_lt.mp fun z=>c' (decide_eq_true z)
 refine⟨_,rfl,p,CC,dx,_,_,rfl,hp,Tx.cc,Tx.c2,cf2 _ _ _,b,1,rfl,rfl,_,rfl,p,CC,dx,_,rfl,hp,Tx.cc,Tx.c2,(by show 3<1000;decide),?_⟩
 rw[cp2]
 refine⟨_,rfl,p,CC,dx,_,_,rfl,upd_same,Tx.cc,Tx.c3,cf3 _ _ _,u,1,rfl,rfl,_,rfl,p,CC,dx,_,rfl,upd_same,Tx.cc,Tx.c3,(by show 3<1000;decide),?_⟩
 rw[cp3,upd_upd]
 exact q3 c1 c2
theorem ok_comeb (F:Fun K "come_back" "Calls.come_back" s_comeb f fd)(Tx:TxM K CM CF CC CL):FnOk P w K mg base (CXF P w) 1 f fd ["self"] (spComeBack CC):=by
 refine F.okX sc_comeb (fun vs H Q E h=>?_) (fun cdv A outer s H vs Q E hr h=>?_)
 ·obtain⟨p,dx,m,b,u,rfl,_⟩:=h
  rfl
 obtain⟨p,dx,m,b,u,rfl,hp,q⟩:=h
 refine⟨_,pss_one (sfldK K (pv 0) (pe_op op_sub (fldK K (pv 0) rfl) pe_int) rfl),?_⟩
 refine⟨_,rfl,p,CC,dx,_,_,rfl,hp,Tx.cc,Tx.c3,cf3 _ _ _,u,1,rfl,rfl,_,rfl,p,CC,dx,_,rfl,hp,Tx.cc,Tx.c3,(by show 3<1000;decide),?_⟩
 rw[cp3]
 exact q
end
theorem comp_tup {K:PySem.W.Frag}{H:Hp}{a:Addr}{xs:List V}{tt:TT}{te:TE}{σ':L2.St}{Q:VK}(Pv:Nat→List V→Hp→Prop)(h0:Pv 0 [] H)(hl:∀i vs H,i≤xs.length→Pv i vs H→SqT K H a xs∧vs.length<sizeLine)
  (hs:∀i x vs H2,i<xs.length→xs[i]?=some x→Pv i vs H2→tt (some x::σ') H2 fun b H4=>if b=true then te (some x::σ') H4 fun v H5=>Nx xs.length i (Pv (i+1) (vs++[v]) H5) else Nx xs.length i (Pv (i+1) vs H4))
  (hd:∀vs H2,Pv xs.length vs H2→∀l,H2 l=none→Q (.ref l) (upd H2 l (.lst vs))):CompW (Itt K a) tt te σ' Q H:=by
 refine⟨fun i m vs H=>m=xs.length-i∧i≤xs.length∧Pv i vs H,⟨xs.length,by simp,Nat.zero_le _,h0⟩,?_⟩
 rintro i m vs H2 ⟨rfl,hi,p⟩
 obtain⟨q1,q2⟩:=hl i vs H2 hi p
 refine⟨q2,?_⟩
 by_cases hlt:i<xs.length
 ·refine .inr ⟨⟨xs,xs[i],q1,by simp[hlt]⟩,?_⟩
  rintro x H3 ⟨e,y⟩
  subst e
  exact hs i x vs _ hlt (y xs q1) p
 ·have e:i=xs.length:=by omega
  subst e
  exact .inl ⟨⟨xs,q1,Nat.le_refl _⟩,hd vs H2 p⟩
def MCo.push (s:MCo)(f:Fm)(t:V):MCo:={s with cur:=f,outer:=s.outer++[s.cur],ah:=t}
def MCo.pop (s:MCo)(f:Fm)(O:List Fm)(t:V):MCo:={s with cur:=f,outer:=O,ah:=t}
section
variable {CM CF CC:Addr}{H H':Hp}{a:MA}{s:MCo}
theorem MS.mlst (M:MS CM CF CC H a s){b:Addr}(h:b∈a.pl::a.ofr::a.st::(s.cur::s.outer).map (·.own)):∃xs,H b=some (.lst xs):=by
 rcases List.mem_cons.mp h with rfl|hm
 ·exact⟨_,M.hp⟩
 ·rcases List.mem_cons.mp hm with rfl|hm
  ·exact⟨_,M.hf⟩
  ·rcases List.mem_cons.mp hm with rfl|hm
   ·exact⟨_,M.hs⟩
   ·obtain⟨f,hf,rfl⟩:=List.mem_map.mp hm
    exact⟨_,(M.fs f hf).2⟩
theorem MS.push (M:MS CM CF CC H a s){f:Fm}{t:V}(h1:H' a.m=some (.ins CM a.dx (mfl a.cl a.pl f.fr a.ofr a.st t)))(h2:H' a.ofr=some (.lst ((s.outer++[s.cur]).map fun f=>V.ref f.fr)))
  (h3:H' f.fr=some (.ins CF f.dxf (ffl f.own f.be))) (h4:H' f.own=some (.lst f.vs)) (h5:H f.own=none) (k:∀b o,b≠a.m→b≠a.ofr→H b=some o→H' b=some o):MS CM CF CC H' a (s.push f t)∧Ext a s H (s.push f t) H':=by
 have hin:∀g∈s.outer++[s.cur],g∈s.cur::s.outer:=fun g hg=>by
  rcases List.mem_append.mp hg with h|h
  ·exact List.mem_cons_of_mem _ h
  ·rw[List.mem_singleton.mp h];exact List.mem_cons_self
 have keep:∀g∈s.cur::s.outer,H' g.fr=some (.ins CF g.dxf (ffl g.own g.be))∧H' g.own=some (.lst g.vs):=fun g hg=>
  ⟨k _ _ (M.fm hg) (obl (M.fs g hg).1 M.hf) (M.fs g hg).1,k _ _ (Ne.symm (obl M.ob (M.fs g hg).2)) (M.fof hg) (M.fs g hg).2⟩
 refine⟨⟨h1,k _ _ (Ne.symm (obl M.ob M.hp)) (Ne.symm M.ofpl) M.hp,h2,k _ _ (Ne.symm M.mcl) (obl M.hc M.hf) M.hc,k _ _ (Ne.symm (obl M.ob M.hs)) M.stof M.hs,fun g hg=>?_,?_⟩,fun b o n h=>⟨?_,?_⟩⟩
 ·rcases List.mem_cons.mp hg with rfl|hg'
  ·exact⟨h3,h4⟩
  ·exact keep g (hin g hg')
 ·have n0:f.own∉a.pl::a.ofr::a.st::(s.cur::s.outer).map (·.own):=fun hm=>by
   obtain⟨xs,hx⟩:=M.mlst hm
   rw[hx]at h5
   cases h5
  have n1:(f.own::a.pl::a.ofr::a.st::(s.cur::s.outer).map (·.own)).Nodup:=List.nodup_cons.mpr ⟨n0,M.nd⟩
  refine(List.Perm.nodup_iff ?_).mpr n1
  show(a.pl::a.ofr::a.st::f.own::(s.outer++[s.cur]).map (·.own)).Perm _
  rw[List.map_append]
  refine List.Perm.trans ?_ (List.perm_middle (l₁:=[a.pl,a.ofr,a.st]) (a:=f.own) (l₂:=(s.cur::s.outer).map (·.own)))
  exact((((List.perm_append_singleton s.cur.own (s.outer.map (·.own))).cons _).cons _).cons _).cons _
 ·rintro(rfl|rfl|hm)
  ·exact n (.inl rfl)
  ·exact n (.inr (.inl rfl))
  ·have hm':b∈a.pl::a.ofr::a.st::f.own::(s.outer++[s.cur]).map (·.own):=hm
   by_cases e:b=f.own
   ·rw[e,h5]at h;cases h
   ·refine n (.inr (.inr ?_))
    simp only[List.mem_cons,List.map_cons,List.map_append,List.mem_append,List.map_nil,List.not_mem_nil,or_false]at hm' ⊢
    rcases hm' with h|h|h|h|h|h
    ·exact .inl h
    ·exact .inr (.inl h)
    ·exact .inr (.inr (.inl h))
    ·exact absurd h e
    ·exact .inr (.inr (.inr (.inr h)))
    ·exact .inr (.inr (.inr (.inl h)))
 ·exact k b o (fun e=>n (.inl e)) (fun e=>n (.inr (.inr (e ▸ List.mem_cons_of_mem _ List.mem_cons_self)))) h
theorem MS.pop (M:MS CM CF CC H a s){f:Fm}{O:List Fm}{t:V}(ho:s.outer=O++[f])(h1:H' a.m=some (.ins CM a.dx (mfl a.cl a.pl f.fr a.ofr a.st t)))(h2:H' a.ofr=some (.lst (O.map fun f=>V.ref f.fr)))
  (k:∀b o,b≠a.m→b≠a.ofr→H b=some o→H' b=some o):MS CM CF CC H' a (s.pop f O t)∧Ext a s H (s.pop f O t) H':=by
 have hin:∀g∈f::O,g∈s.cur::s.outer:=fun g hg=>by
  rw[ho]
  rcases List.mem_cons.mp hg with rfl|h
  ·exact List.mem_cons_of_mem _ (List.mem_append_right _ (List.mem_singleton.mpr rfl))
  ·exact List.mem_cons_of_mem _ (List.mem_append_left _ h)
 refine⟨⟨h1,k _ _ (Ne.symm (obl M.ob M.hp)) (Ne.symm M.ofpl) M.hp,h2,k _ _ (Ne.symm M.mcl) (obl M.hc M.hf) M.hc,k _ _ (Ne.symm (obl M.ob M.hs)) M.stof M.hs,fun g hg=>?_,?_⟩,fun b o n h=>⟨?_,?_⟩⟩
 ·have hg':=hin g hg
  exact⟨k _ _ (M.fm hg') (obl (M.fs g hg').1 M.hf) (M.fs g hg').1,k _ _ (Ne.symm (obl M.ob (M.fs g hg').2)) (M.fof hg') (M.fs g hg').2⟩
 ·have n1:=M.nd
  rw[ho]at n1
  have n2:(a.pl::a.ofr::a.st::(O++[f]).map (·.own)).Nodup:=n1.sublist ((((List.sublist_cons_self _ _).cons₂ _).cons₂ _).cons₂ _)
  rw[List.map_append]at n2
  exact(List.Perm.nodup_iff ((((List.perm_append_singleton f.own (O.map (·.own))).symm.cons _).cons _).cons _)).mpr n2
 ·rintro(rfl|rfl|hm)
  ·exact n (.inl rfl)
  ·exact n (.inr (.inl rfl))
  ·have hm':b∈a.pl::a.ofr::a.st::(f::O).map (·.own):=hm
   refine n (.inr (.inr ?_))
   rcases List.mem_cons.mp hm' with h|h
   ·exact h ▸ List.mem_cons_self
   ·refine List.mem_cons_of_mem _ ?_
    rcases List.mem_cons.mp h with h|h
    ·exact h ▸ List.mem_cons_self
    ·refine List.mem_cons_of_mem _ ?_
     rcases List.mem_cons.mp h with h|h
     ·exact h ▸ List.mem_cons_self
     ·refine List.mem_cons_of_mem _ ?_
      obtain⟨g,hg,e⟩:=List.mem_map.mp h
      exact List.mem_map.mpr ⟨g,hin g hg,e⟩
 ·exact k b o (fun e=>n (.inl e)) (fun e=>n (.inr (.inr (e ▸ List.mem_cons_of_mem _ List.mem_cons_self)))) h
end
inductive CspLocals (CM CF CC:Addr)(vs:List V)(H:Hp)(Q:VK)(E_:XK):Prop where
 |mk (a:MA) (s:MCo) (pt:Addr) (js:List Nat) (ws:List V):vs=[.ref a.m, .ref pt]→MS CM CF CC H a s→H pt=some (.tup (js.map fun j:Nat=>V.int (j:Int)))→js.map (fun j=>s.cur.vs[j]?)=ws.map some→js.length≤500→(∀k,H k=none→Q (.ref k) (upd H k (.lst ws)))→CspLocals CM CF CC vs H Q E_
def spLocals (CM CF CC:Addr):Sp:=CspLocals CM CF CC
section
variable {P:Program}{w:World}{K:PySem.W.Frag}{mg:Str→Option Value}{base:Heap}{f:Addr}{fd:FuncData}{CM CF CC CL CTl CTd:Addr}
abbrev s_locals:Stmt:=top 37
theorem sc_locals:FnScope ["machine","places"] ["machine","places"] (defScope s_locals):=⟨rfl,rfl,rfl,by decide+kernel,rfl,by decide+kernel,by decide+kernel⟩
theorem ok_locals (F:Fun K "locals_at" "locals_at" s_locals f fd)(Tx:TxM K CM CF CC CL):FnOk P w K mg base CX0 1 f fd ["machine","places"] (spLocals CM CF CC):=by
 refine F.ok sc_locals (fun vs H Q E h=>?_) (fun cdv A outer s H vs Q E hr h=>?_)
 ·obtain⟨a,s,pt,js,ws,rfl,_⟩:=h
  rfl
 obtain⟨a,s,pt,js,ws,rfl,M,hpt,hjs,lj,q⟩:=h
 have hz:=sizeLine_eq
 have hl:ws.length=js.length:=by
  have:=congrArg List.length hjs
  simpa using this.symm
 refine⟨_,pss_one (ps_ret (pe_lc (defScope s_locals) ["machine","places"] ["machine"] [0] (by decide+kernel) (piT K (pv 1)) (fun C s₀ H₀ ex=>pts_nil)
  (fun C s₀ H₀ ex=>show PE _ _ (tOp (rIxL K) (tFld K (tFld K _ "frame") "own") _) from pe_ix (ixL K) (fldK K (fldK K (pv 1) rfl) rfl) (pv 0) (fun _ _=>rfl)))),?_⟩
 refine⟨_,rfl,pt,rfl,⟨_,SqT.of hpt⟩,comp_tup (xs:=js.map fun j:Nat=>V.int (j:Int)) (fun i vs H'=>H'=H∧vs=ws.take i) ⟨rfl,rfl⟩ ?_ ?_ ?_⟩
 ·rintro i vs H' hi ⟨rfl,rfl⟩
  exact⟨SqT.of hpt,by rw[List.length_take];omega⟩
 ·rintro i x vs H' hi hx ⟨rfl,rfl⟩
  rw[List.getElem?_map]at hx
  cases hj:js[i]? with
  |none=>rw[hj]at hx;cases hx
  |some j=>
   rw[hj]at hx
   cases hx
   have e:=congrArg (·[i]?) hjs
   simp only[List.getElem?_map,hj,Option.map_some]at e
   cases hw:ws[i]? with
   |none=>rw[hw]at e;cases e
   |some v=>
    rw[hw]at e
    have e':s.cur.vs[j]?=some v:=by injection e
    refine tt1 (iteT ⟨_,rfl,a.m,CM,a.dx,_, .ref s.cur.fr,rfl,M.ob,Tx.cm,Tx.m3,mf3 _ _ _ _ _ _,s.cur.fr,CF,s.cur.dxf,_, .ref s.cur.own,rfl,M.fc,Tx.cf,Tx.f1,ff1 _ _,_,rfl,s.cur.own,_,j,v,rfl,rfl,SqL.of M.ho,atI_nat (j:=j) e',nx hi ⟨rfl,?_⟩⟩)
    rw[List.take_add_one,hw]
    rfl
 ·rintro vs H' ⟨rfl,rfl⟩ l hl'
  rw[List.length_map,←hl,List.take_length]
  exact q l hl'
end
structure IsC (K:PySem.W.Frag)(C:Addr):Prop where
 i1:PySem.W.findIn K (.ref C) "__class__"=some (some (.builtin "object.__class__"))
 i2:PySem.W.specialIn K (.builtin "object.__class__") "__get__"=some (some (.builtin "getset_descriptor.__get__"))
 i3:PySem.W.takesIn K (.builtin "object.__class__")=some true
 i4:PySem.W.mroIn K C (.type "object")=some true
 i5:PySem.W.kitOne K (.ref C) (.ref C)=some true
inductive CspClose (CM CF CC CL:Addr)(vs:List V)(H:Hp)(Q:VK)(E_:XK):Prop where
 |mk (a:MA) (s:MCo) (r pt:Addr) (to:V) (js:List Nat) (ws:List V):vs=[.ref a.m, .ref r]→MS CM CF CC H a s→H r=some (.tup [.str "close",to, .ref pt])→H pt=some (.tup (js.map fun j:Nat=>V.int (j:Int)))→js.map (fun j=>s.cur.vs[j]?)=ws.map some→js.length≤500→s.pile.length≤500→(∀c dxl k H',MS CM CF CC H' a (s.setP (s.pile++[.ref c]))→H' c=some (.ins CL dxl (clf to k))→H' k=some (.lst ws)→¬Mu a s c→¬Mu a s k→Ext a s H (s.setP (s.pile++[.ref c])) H'→Q .non H')→CspClose CM CF CC CL vs H Q E_
def spClose (CM CF CC CL:Addr):Sp:=CspClose CM CF CC CL
inductive CspCallR (CM CF CC CL CTl CTd:Addr)(vs:List V)(H:Hp)(Q:VK)(E:XK):Prop where
 |mk (a:MA) (s:MCo) (r c dxl k:Addr) (p ws:List V) (v to:V):vs=[.ref a.m, .ref r]→MS CM CF CC H a s→s.pile=p++[.ref c,v]→H c=some (.ins CL dxl (clf to k))→H k=some (.lst ws)→¬Mu a s c→¬Mu a s k→p.length≤500→ws.length≤500→s.outer.length≤500→(s.most<s.begun+1→∀ea H',(∀b o,¬Mu a s b→H b=some o→H' b=some o)→E (.ref CTl) (some ea) H')→(s.begun+1≤s.most→10<s.under+1→∀ea H',(∀b o,¬Mu a s b→H b=some o→H' b=some o)→E (.ref CTd) (some ea) H')→(s.begun+1≤s.most→s.under+1≤10→∀fr dxf own H',MS CM CF CC H' a (((s.setP p).setC (s.begun+1) (s.under+1)).push ⟨fr,dxf,own,ws++[v],s.ah⟩ to)→Ext a s H (((s.setP p).setC (s.begun+1) (s.under+1)).push ⟨fr,dxf,own,ws++[v],s.ah⟩ to) H'→Q .non H')→CspCallR CM CF CC CL CTl CTd vs H Q E
def spCallR (CM CF CC CL CTl CTd:Addr):Sp:=CspCallR CM CF CC CL CTl CTd
inductive CspBackR (CM CF CC:Addr)(vs:List V)(H:Hp)(Q:VK)(E_:XK):Prop where
 |mk (a:MA) (s:MCo) (r:Addr):vs=[.ref a.m, .ref r]→MS CM CF CC H a s→s.outer.length≤500→(s.outer=[]→∀H',MS CM CF CC H' a (s.setA .non)→Ext a s H (s.setA .non) H'→Q .non H')→(∀O f,s.outer=O++[f]→∀H',MS CM CF CC H' a ((s.setC s.begun (s.under-1)).pop f O s.cur.be)→Ext a s H ((s.setC s.begun (s.under-1)).pop f O s.cur.be) H'→Q .non H')→CspBackR CM CF CC vs H Q E_
def spBackR (CM CF CC:Addr):Sp:=CspBackR CM CF CC
section
variable {P:Program}{w:World}{K:PySem.W.Frag}{mg:Str→Option Value}{base:Heap}{f:Addr}{fd:FuncData}{CM CF CC CL CTl CTd:Addr}
abbrev s_doclose:Stmt:=top 38
abbrev s_docall:Stmt:=top 40
abbrev s_doback:Stmt:=top 41
theorem sc_doclose:FnScope ["machine","row"] ["machine","row"] (defScope s_doclose):=⟨rfl,rfl,rfl,by decide+kernel,rfl,by decide+kernel,by decide+kernel⟩
theorem sc_docall:FnScope ["machine","row","values","function"] ["machine","row"] (defScope s_docall):=⟨rfl,rfl,rfl,by decide+kernel,rfl,by decide+kernel,by decide+kernel⟩
theorem sc_doback:FnScope ["machine","row"] ["machine","row"] (defScope s_doback):=⟨rfl,rfl,rfl,by decide+kernel,rfl,by decide+kernel,by decide+kernel⟩
theorem ok_doclose {fL:Addr}{gL:FuncData}(F:Fun K "do_close" "do_close" s_doclose f fd)(Tx:TxM K CM CF CC CL)(ML:Mk K CL fL)(GL:FnOk P w K mg base CX0 1 fL gL ["self","to","kept"] (spClosed CL))(bL:Binds K gL ["self","to","kept"] [])(hL:mg "Closed"=some (.ref CL))
  (h1:Has P w K mg base 1 "locals_at" ["machine","places"] (spLocals CM CF CC)):FnOk P w K mg base (CXF P w) 3 f fd ["machine","row"] (spClose CM CF CC CL):=by
 refine F.okX sc_doclose (fun vs H Q E h=>?_) (fun cdv A outer s H vs Q E hr h=>?_)
 ·obtain⟨a,s,r,pt,to,js,ws,rfl,_⟩:=h
  rfl
 obtain⟨a,s,r,pt,to,js,ws,rfl,M,hr',hpt,hjs,lj,lp,q⟩:=h
 refine⟨_,pss_one (ps_expr (pe_bm PySem.F.plainAttrs_list PySem.F.slot_list_append PySem.F.type_list_append mt_append (fldK K (pv 0) rfl) (pa_cons (pe_make ML GL hr rfl hL bL .nil pass0
  (pa_cons (pe_ix (ixT K) (pv 1) pe_int (fun _ _=>rfl)) (pa_cons (pcall h1 hr (by decide) rfl (pa_cons (pv 0) (pa_cons (pe_ix (ixT K) (pv 1) pe_int (fun _ _=>rfl)) pa_nil))) pa_nil))) pa_nil))),?_⟩
 refine⟨_,rfl,a.m,CM,a.dx,_, .ref a.pl,rfl,M.ob,Tx.cm,Tx.m2,mf2 _ _ _ _ _ _, .inl ⟨rfl,_,SqL.of M.hp⟩,_,rfl,r,_,1,to,rfl,rfl,SqT.of hr',atI_nat (j:=1) rfl,_,rfl,_,rfl,r,_,2, .ref pt,rfl,rfl,SqT.of hr',atI_nat (j:=2) rfl,
  a,s,pt,js,ws,rfl,M,hpt,hjs,lj,fun k hk=>fun c dxl hc hdx ncd=>⟨c,dxl,k,to,rfl,upd_same,rfl,?_⟩⟩
 have s1:=same_new hk (.lst ws)
 have hk1:(upd H k (.lst ws)) k=some (.lst ws):=upd_same
 revert s1 hk1 hc hdx
 generalize upd H k (.lst ws)=H1
 intro hc hdx s1 hk1
 obtain⟨a5,k5⟩:=made1 (C:=CL) (fs:=clf to k) hc hdx ncd
 revert a5 k5
 generalize upd (upd (upd H1 dxl (.own c)) c (.ins CL dxl [])) c (.ins CL dxl (clf to k))=H2
 intro a5 k5
 have M2:=(M.same s1).same k5
 have n1:c≠a.pl:=Ne.symm (ne_of_none (s1 _ _ M.hp) hc)
 have n2:k≠a.pl:=Ne.symm (ne_of_none M.hp hk)
 refine⟨a.pl,s.pile, .ref c,rfl,rfl,M2.hp,small' (by omega),q c dxl k _ (M2.setP _) (at_ne a5 n1) (at_ne (k5 _ _ hk1) n2) ((M.same s1).noneN hc) (M.noneN hk) ?_⟩
 exact((Same.ext s1).trans (Same.ext k5)).trans xtP
theorem ok_doback {fB:Addr}{gB:FuncData}(F:Fun K "do_back" "do_back" s_doback f fd)(Tx:TxM K CM CF CC CL)(ml:mg "len"=none)(MB:Meth K CC "come_back" fB)(GB:FnOk P w K mg base (CXF P w) 1 fB gB ["self"] (spComeBack CC))(bB:Binds K gB ["self"] []):
  FnOk P w K mg base (CXF P w) 2 f fd ["machine","row"] (spBackR CM CF CC):=by
 refine F.okX sc_doback (fun vs H Q E h=>?_) (fun cdv A outer s H vs Q E hr h=>?_)
 ·obtain⟨a,s,r,rfl,_⟩:=h
  rfl
 obtain⟨a,s,r,rfl,M,lo,q1,q2⟩:=h
 refine⟨_,pss_cons (ps_if (pt_cmpR op_eq (pe_callB (clen K) rfl ml PySem.boot_len (pa_cons (fldK K (pv 0) rfl) pa_nil)) pe_int (nomark _)) (pss_cons (sfldK K (pv 0) pe_non rfl) (pss_one ps_retN)) pss_nil)
  (pss_cons (ps_expr (pe_meth0 (E:=E) (fldK K (pv 0) rfl) Tx.cc MB GB hr bB .nil passes_up))
  (pss_cons (sfldK K (pv 0) (fldK K (fldK K (pv 0) rfl) rfl) rfl)
  (pss_one (sfldK K (pv 0) (pe_bm0 PySem.F.plainAttrs_list PySem.F.slot_list_pop PySem.F.type_list_pop mt_pop (fldK K (pv 0) rfl)) rfl)))),?_⟩
 refine⟨_,rfl,a.m,CM,a.dx,_, .ref a.ofr,rfl,M.ob,Tx.cm,Tx.m4,mf4 _ _ _ _ _ _,a.ofr,_,rfl, .inl (SqL.of M.hf),rfl,_,rfl,ite2 (fun c=>?_) (fun c=>?_)⟩
 ·have c1:V.int ((s.outer.map fun f=>V.ref f.fr).length:Nat)=V.int 0:=of_decide_eq_true c
  have c2:s.outer=[]:=by
   have e:(((s.outer.map fun f=>V.ref f.fr).length:Nat):Int)=0:=by injection c1
   rw[List.length_map]at e
   exact List.length_eq_zero_iff.mp (by omega)
  refine⟨_,rfl,a.m,CM,a.dx,_,rfl,M.ob,Tx.cm,Tx.m6,(by show 6<1000;decide),?_⟩
  rw[mp6]
  exact q1 c2 _ (M.setA .non) xtA
 ·have c2:s.outer≠[]:=fun z=>c (by rw[z];rfl)
  obtain⟨O,f,ho⟩:∃O f,s.outer=O++[f]:=⟨s.outer.dropLast,s.outer.getLast c2,(List.dropLast_concat_getLast c2).symm⟩
  have hof:H a.ofr=some (.lst ((O.map fun f=>V.ref f.fr)++[V.ref f.fr])):=by
   have h:=M.hf
   rw[ho,List.map_append]at h
   exact h
  refine⟨_,rfl,a.m,CM,a.dx,_, .ref a.cl,rfl,M.ob,Tx.cm,Tx.m1,mf1 _ _ _ _ _ _,a.cl,a.dxc,_,rfl,M.hc,rfl,a.cl,a.dxc,s.most,s.begun,s.under,rfl,M.hc,?_⟩
  have M1:=M.setC s.begun (s.under-1)
  have x1:Ext a s H (s.setC s.begun (s.under-1)) (upd H a.cl (.ins CC a.dxc (cfl (.int s.most) (.int s.begun) (.int (s.under-1))))):=xtC
  have hof1:=at_ne (b:=a.cl) (x:=.ins CC a.dxc (cfl (.int s.most) (.int s.begun) (.int (s.under-1)))) hof (Ne.symm (obl M.hc M.hf))
  revert M1 x1 hof1
  generalize upd H a.cl (.ins CC a.dxc (cfl (.int s.most) (.int s.begun) (.int (s.under-1))))=H1
  intro M1 x1 hof1
  refine⟨_,rfl,a.m,CM,a.dx,_, .ref s.cur.fr,rfl,M1.ob,Tx.cm,Tx.m3,mf3 _ _ _ _ _ _,s.cur.fr,CF,s.cur.dxf,_,s.cur.be,rfl,M1.fc,Tx.cf,Tx.f2,ff2 _ _,_,rfl,a.m,CM,a.dx,_,rfl,M1.ob,Tx.cm,Tx.m6,(by show 6<1000;decide),?_⟩
  rw[mp6]
  have M2:=M1.setA s.cur.be
  have nm:a.ofr≠a.m:=Ne.symm (obl M.ob M.hf)
  have hof2:=at_ne (b:=a.m) (x:=.ins CM a.dx (mfl a.cl a.pl s.cur.fr a.ofr a.st s.cur.be)) hof1 nm
  refine⟨_,rfl,a.m,CM,a.dx,_, .ref a.ofr,rfl,upd_same,Tx.cm,Tx.m4,mf4 _ _ _ _ _ _, .inl ⟨rfl,_,SqL.of hof2⟩,a.ofr,_, .ref f.fr,rfl,rfl,hof2,by simp,?_⟩
  rw[List.dropLast_concat]
  refine⟨_,rfl,a.m,CM,a.dx,_,rfl,at_ne upd_same (Ne.symm nm),Tx.cm,Tx.m3,(by show 6<1000;decide),?_⟩
  rw[mp3]
  obtain⟨M3,x3⟩:=M1.pop (f:=f) (O:=O) (t:=s.cur.be) (H':=upd (upd (upd H1 a.m (.ins CM a.dx (mfl a.cl a.pl s.cur.fr a.ofr a.st s.cur.be))) a.ofr (.lst (O.map fun f=>V.ref f.fr))) a.m (.ins CM a.dx (mfl a.cl a.pl f.fr a.ofr a.st s.cur.be))) ho upd_same (at_ne upd_same nm)
   fun b o n1 n2 h=>by rw[upd_ne n1,upd_ne n2,upd_ne n1];exact h
  exact q2 O f ho _ M3 (x1.trans x3)
end
section
variable {P:Program}{w:World}{K:PySem.W.Frag}{mg:Str→Option Value}{base:Heap}{f:Addr}{fd:FuncData}{CM CF CC CL CTl CTd:Addr}
theorem ok_docall {fB fF:Addr}{gB gF:FuncData}(F:Fun K "do_call" "do_call" s_docall f fd)(Tx:TxM K CM CF CC CL)(IC:IsC K CL)(mi:mg "isinstance"=none)(h1:Has P w K mg base 1 "taken_off" ["pile","count"] spTaken)(hL:mg "Closed"=some (.ref CL))
  (MB:Meth K CC "begin" fB) (GB:FnOk P w K mg base (CXF P w) 1 fB gB ["self"] (spBegin CC CTl CTd)) (bB:Binds K gB ["self"] []) (MF:Mk K CF fF) (GF:FnOk P w K mg base CX0 1 fF gF ["self","own","behind"] (spFrame CF)) (bF:Binds K gF ["self","own","behind"] []) (hF:mg "Frame"=some (.ref CF)):
  FnOk P w K mg base (CXF P w) 3 f fd ["machine","row"] (spCallR CM CF CC CL CTl CTd):=by
 refine F.okX sc_docall (fun vs H Q E h=>?_) (fun cdv A outer s H vs Q E hr h=>?_)
 ·obtain⟨a,s,r,c,dxl,k,p,ws,v,to,rfl,_⟩:=h
  rfl
 obtain⟨a,s,r,c,dxl,k,p,ws,v,to,rfl,M,hp,hc,hk,nc,nk,lp,lw,lo,q1,q2,q3⟩:=h
 have hpl:=M.hp
 rw[hp]at hpl
 refine⟨_,pss_cons (ps_set (i:=2) sc_docall.nd rfl (Or.inl rfl) (pcall h1 hr (by decide) rfl (pa_cons (fldK K (pv 0) rfl) (pa_cons pe_int pa_nil))))
  (pss_cons (ps_set (i:=3) sc_docall.nd rfl (Or.inl rfl) (pe_ix (ixT K) (pv 2) pe_int (fun _ _=>rfl)))
  (pss_cons (ps_if (pt_not (pt_val (pe_callB call_isiO rfl mi boot_isinstance (pa_cons (pv 3) (pa_cons (pe_glob (v:=.ref CL) rfl hL rfl) pa_nil))))) (pss_one ps_never) pss_nil)
  (pss_cons (ps_expr (pe_meth0 (E:=E) (fldK K (pv 0) rfl) Tx.cc MB GB (hr.mono (by decide)) bB .nil passes_up))
  (pss_cons (ps_expr (pe_bm PySem.F.plainAttrs_list PySem.F.slot_list_append PySem.F.type_list_append mt_append (fldK K (pv 0) rfl) (pa_cons (fldK K (pv 0) rfl) pa_nil)))
  (pss_cons (sfldK K (pv 0) (pe_make MF GF hr rfl hF bF .nil pass0 (pa_cons (pe_op op_cat (fldK K (pv 3) rfl) (pe_lst (pa_cons (pe_ix (ixT K) (pv 2) pe_int (fun _ _=>rfl)) pa_nil))) (pa_cons (fldK K (pv 0) rfl) pa_nil))) rfl)
  (pss_one (sfldK K (pv 0) (fldK K (pv 3) rfl) rfl))))))),?_⟩
 refine⟨_,rfl,a.m,CM,a.dx,_, .ref a.pl,rfl,M.ob,Tx.cm,Tx.m2,mf2 _ _ _ _ _ _,a.pl,p,[.ref c,v],2,rfl,hpl,rfl,by decide,fun t H1 ht0 ht hp1 k1=>?_⟩
 have M1:=M.kp1 k1 hp1
 have x1:Ext a s H (s.setP p) H1:=Kp1.xt k1
 have hc1:=(x1 c _ nc hc).2
 have hk1:=(x1 k _ nk hk).2
 refine(ix_t (a:=t) (j:=0) rfl ht rfl ?_)
 refine⟨_,rfl,_,_,_,_,rfl, .ins hc1 Tx.cl IC.i1 IC.i2 IC.i3 IC.i4,IC.i5,true,rfl,iteF ?_⟩
 refine⟨_,rfl,a.m,CM,a.dx,_, .ref a.cl,rfl,M1.ob,Tx.cm,Tx.m1,mf1 _ _ _ _ _ _,a.cl,a.dxc,_,rfl,M1.hc,rfl,a.cl,a.dxc,s.most,s.begun,s.under,rfl,M1.hc,
  fun z ea=>q1 z ea H1 fun b o n h=>(x1 b o n h).2,fun z z' ea=>q2 z z' ea H1 fun b o n h=>(x1 b o n h).2,fun z z'=>?_⟩
 have M2:MS CM CF CC (upd H1 a.cl (.ins CC a.dxc (cfl (.int s.most) (.int (s.begun+1)) (.int (s.under+1))))) a ((s.setP p).setC (s.begun+1) (s.under+1)):=M1.setC (s.begun+1) (s.under+1)
 have x2:Ext a s H ((s.setP p).setC (s.begun+1) (s.under+1)) (upd H1 a.cl (.ins CC a.dxc (cfl (.int s.most) (.int (s.begun+1)) (.int (s.under+1))))):=x1.trans xtC
 have ht2:=at_ne (b:=a.cl) (x:=.ins CC a.dxc (cfl (.int s.most) (.int (s.begun+1)) (.int (s.under+1)))) ht (Ne.symm (ne_of M1.hc ht (by intro z;cases z)))
 have hc2:=(x2 c _ nc hc).2
 have hk2:=(x2 k _ nk hk).2
 have nc2:=(x2 c _ nc hc).1
 have nk2:=(x2 k _ nk hk).1
 revert M2 x2 ht2 hc2 hk2
 generalize upd H1 a.cl (.ins CC a.dxc (cfl (.int s.most) (.int (s.begun+1)) (.int (s.under+1))))=H2
 intro M2 x2 ht2 hc2 hk2
 have no:a.ofr≠a.m:=Ne.symm (obl M2.ob M2.hf)
 have nco:c≠a.ofr:=obl hc2 M2.hf
 have nko:k≠a.ofr:=fun e=>nk2 (.inr (.inr (e ▸ List.mem_cons_of_mem _ List.mem_cons_self)))
 have nto:t≠a.ofr:=ne_of ht2 M2.hf (by intro z;cases z)
 refine⟨_,rfl,a.m,CM,a.dx,_, .ref a.ofr,rfl,M2.ob,Tx.cm,Tx.m4,mf4 _ _ _ _ _ _, .inl ⟨rfl,_,SqL.of M2.hf⟩,_,rfl,a.m,CM,a.dx,_, .ref s.cur.fr,rfl,M2.ob,Tx.cm,Tx.m3,mf3 _ _ _ _ _ _,a.ofr,_, .ref s.cur.fr,rfl,rfl,M2.hf,small' (by rw[List.length_map];show s.outer.length≤1000000;omega),?_⟩
 have k3:∀b o,b≠a.ofr→H2 b=some o→(upd H2 a.ofr (.lst ((s.outer.map fun f=>V.ref f.fr)++[.ref s.cur.fr]))) b=some o:=fun b o n h=>at_ne h n
 have o3:(upd H2 a.ofr (.lst ((s.outer.map fun f=>V.ref f.fr)++[.ref s.cur.fr]))) a.ofr=some (.lst ((s.outer.map fun f=>V.ref f.fr)++[.ref s.cur.fr])):=upd_same
 have f3:∀b,b≠a.ofr→(upd H2 a.ofr (.lst ((s.outer.map fun f=>V.ref f.fr)++[.ref s.cur.fr]))) b=H2 b:=fun b n=>upd_ne n
 revert k3 o3 f3
 generalize hH3:upd H2 a.ofr (.lst ((s.outer.map fun f=>V.ref f.fr)++[.ref s.cur.fr]))=H3
 intro k3 o3 f3
 rw[show(upd H2 a.ofr (.lst ((((s.setP p).setC (s.begun+1) (s.under+1)).outer.map fun f=>V.ref f.fr)++[.ref s.cur.fr])))=H3 from hH3]
 have ob3:H3 a.m=some (.ins CM a.dx (mfl a.cl a.pl s.cur.fr a.ofr a.st s.ah)):=k3 _ _ (Ne.symm no) M2.ob
 have hc3:=k3 _ _ nco hc2
 have hk3:=k3 _ _ nko hk2
 have ht3:=k3 _ _ nto ht2
 refine⟨_,rfl,c,CL,dxl,_, .ref k,rfl,hc3,Tx.cl,Tx.l2,lf2 _ _,ix_t (a:=t) (j:=1) rfl ht3 rfl ⟨small (by show 1≤1000000;decide),fun l1 hl1=>?_⟩⟩
 have s4:=same_new hl1 (.lst [v])
 have l4:(upd H3 l1 (.lst [v])) l1=some (.lst [v]):=upd_same
 revert s4 l4
 generalize upd H3 l1 (.lst [v])=H4
 intro s4 l4
 refine⟨k,l1,ws,[v],rfl,rfl,s4 _ _ hk3,l4,small (by show ws.length+1≤1000000;omega),fun own hown=>?_⟩
 have s5:=same_new hown (.lst (ws++[v]))
 have o5:(upd H4 own (.lst (ws++[v]))) own=some (.lst (ws++[v])):=upd_same
 have own2:H2 own=none:=by
  have e:own≠a.ofr:=Ne.symm (ne_of_none (s4 _ _ o3) hown)
  rw[←f3 own e]
  exact Same.free s4 hown
 revert s5 o5
 generalize upd H4 own (.lst (ws++[v]))=H5
 intro s5 o5
 have s35:Same H3 H5:=s4.trans s5
 refine⟨_,rfl,a.m,CM,a.dx,_,s.ah,rfl,s35 _ _ ob3,Tx.cm,Tx.m6,mf6 _ _ _ _ _ _,fun fr dxf hfr hdxf nfr=>⟨fr,dxf,own,s.ah,rfl,upd_same,rfl,?_⟩⟩
 obtain⟨a6,k6⟩:=made1 (C:=CF) (fs:=ffl own s.ah) hfr hdxf nfr
 revert a6 k6
 generalize upd (upd (upd H5 dxf (.own fr)) fr (.ins CF dxf [])) fr (.ins CF dxf (ffl own s.ah))=H6
 intro a6 k6
 have s36:Same H3 H6:=s35.trans k6
 refine⟨_,rfl,a.m,CM,a.dx,_,rfl,s36 _ _ ob3,Tx.cm,Tx.m3,(by show 6<1000;decide),?_⟩
 rw[mp3]
 have ncm:c≠a.m:=obo hc3 ob3 (by show ¬((2:Nat)=6);decide)
 refine⟨_,rfl,c,CL,dxl,_,to,rfl,at_ne (s36 _ _ hc3) ncm,Tx.cl,Tx.l1,lf1 _ _,_,rfl,a.m,CM,a.dx,_,rfl,upd_same,Tx.cm,Tx.m6,(by show 6<1000;decide),?_⟩
 rw[mp6,upd_upd]
 have frm:fr≠a.m:=Ne.symm (ne_of_none (s35 _ _ ob3) hfr)
 have owm:own≠a.m:=Ne.symm (ne_of_none (s4 _ _ ob3) hown)
 obtain⟨M7,x7⟩:=M2.push (f:=⟨fr,dxf,own,ws++[v],s.ah⟩) (t:=to) (H':=upd H6 a.m (.ins CM a.dx (mfl a.cl a.pl fr a.ofr a.st to))) upd_same
  (by rw[List.map_append];exact at_ne (s36 _ _ o3) no) (at_ne a6 frm) (at_ne (k6 _ _ o5) owm) own2 fun b o n1 n2 h=>at_ne (s36 _ _ (k3 b o n2 h)) n1
 exact q3 z z' fr dxf own _ M7 (x2.trans x7)
end
inductive CspMach (CM CF CC:Addr)(vs:List V)(H:Hp)(Q:VK)(E_:XK):Prop where
 |mk (m dx:Addr) (mo:Int):vs=[.ref m, .int mo]→H m=some (.ins CM dx [])→(∀(a:MA) fr dxf own H',a.m=m→MS CM CF CC H' a ⟨[],⟨fr,dxf,own,[], .int 0⟩,[],[], .int 0,mo,0,0⟩→Kp1 m H H'→(∀b,Mu a ⟨[],⟨fr,dxf,own,[], .int 0⟩,[],[], .int 0,mo,0,0⟩ b→b=m∨H b=none)→Q .non H')→CspMach CM CF CC vs H Q E_
def spMach (CM CF CC:Addr):Sp:=CspMach CM CF CC
section
variable {P:Program}{w:World}{K:PySem.W.Frag}{mg:Str→Option Value}{base:Heap}{f:Addr}{fd:FuncData}{CM CF CC CL:Addr}
theorem m1 (a:V):putF "calls" a []=([("calls",a)]:List (Str×V)):=by first|rfl|(with_unfolding_all rfl)|kernel_rfl
theorem m2 (a b:V):putF "pile" b [("calls",a)]=([("calls",a),("pile",b)]:List (Str×V)):=by first|rfl|(with_unfolding_all rfl)|kernel_rfl
theorem m3 (a b c:V):putF "frame" c [("calls",a),("pile",b)]=([("calls",a),("pile",b),("frame",c)]:List (Str×V)):=by first|rfl|(with_unfolding_all rfl)|kernel_rfl
theorem m4 (a b c d:V):putF "outer_frames" d [("calls",a),("pile",b),("frame",c)]=([("calls",a),("pile",b),("frame",c),("outer_frames",d)]:List (Str×V)):=by first|rfl|(with_unfolding_all rfl)|kernel_rfl
theorem m5 (a b c d e:V):putF "stored" e [("calls",a),("pile",b),("frame",c),("outer_frames",d)]=([("calls",a),("pile",b),("frame",c),("outer_frames",d),("stored",e)]:List (Str×V)):=by first|rfl|(with_unfolding_all rfl)|kernel_rfl
theorem m6 (a b c d e g:V):putF "ahead" g [("calls",a),("pile",b),("frame",c),("outer_frames",d),("stored",e)]=([("calls",a),("pile",b),("frame",c),("outer_frames",d),("stored",e),("ahead",g)]:List (Str×V)):=by first|rfl|(with_unfolding_all rfl)|kernel_rfl
theorem ok_mach (F:Fun K "__init__" "Machine.__init__" s_mach f fd)(Tx:TxM K CM CF CC CL){fC fF:Addr}{gC gF:FuncData}(MC:Mk K CC fC)(GC:FnOk P w K mg base CX0 1 fC gC ["self","most"] (spCalls CC))(bC:Binds K gC ["self","most"] [])(hC:mg "Calls"=some (.ref CC))
  (MF:Mk K CF fF) (GF:FnOk P w K mg base CX0 1 fF gF ["self","own","behind"] (spFrame CF)) (bF:Binds K gF ["self","own","behind"] []) (hF:mg "Frame"=some (.ref CF)):FnOk P w K mg base CX0 3 f fd ["self","most"] (spMach CM CF CC):=by
 refine F.ok sc_mach (fun vs H Q E h=>?_) (fun cdv A outer s H vs Q E hr h=>?_)
 ·obtain⟨m,dx,mo,rfl,_⟩:=h
  rfl
 obtain⟨m,dx,mo,rfl,hm,q⟩:=h
 have hr2:Room 2 _:=hr.mono (by decide)
 refine⟨_,pss_cons (sfldK K (pv 0) (pe_make MC GC hr2 rfl hC bC .nil pass0 (pa_cons (pv 1) pa_nil)) rfl) (pss_cons (sfldK K (pv 0) (pe_lst pa_nil) rfl)
  (pss_cons (sfldK K (pv 0) (pe_make MF GF hr2 rfl hF bF .nil pass0 (pa_cons (pe_lst pa_nil) (pa_cons pe_int pa_nil))) rfl)
  (pss_cons (sfldK K (pv 0) (pe_lst pa_nil) rfl) (pss_cons (sfldK K (pv 0) (pe_lst pa_nil) rfl) (pss_one (sfldK K (pv 0) pe_int rfl)))))),?_⟩
 refine⟨_,rfl,fun cl dx1 hx hdx nx=>⟨cl,dx1, .int mo,rfl,upd_same,rfl,?_⟩⟩
 obtain⟨a1,k1⟩:=made1 (C:=CC) (fs:=cfl (.int mo) (.int 0) (.int 0)) hx hdx nx
 revert a1 k1
 generalize upd (upd (upd H dx1 (.own cl)) cl (.ins CC dx1 [])) cl (.ins CC dx1 (cfl (.int mo) (.int 0) (.int 0)))=H1
 intro a1 k1
 have ncl:cl≠m:=Ne.symm (ne_of_none hm hx)
 refine⟨_,rfl,m,CM,dx,[],rfl,k1 _ _ hm,Tx.cm,Tx.m1,(by show 0<1000;decide),?_⟩
 rw[m1]
 have k2:Kp1 m H (upd H1 m (.ins CM dx [("calls", .ref cl)])):=fun b o nb h=>by rw[upd_ne nb];exact k1 b o h
 have b2:(upd H1 m (.ins CM dx [("calls", .ref cl)])) m=some (.ins CM dx [("calls", .ref cl)]):=upd_same
 have cl2:(upd H1 m (.ins CM dx [("calls", .ref cl)])) cl=some (.ins CC dx1 (cfl (.int mo) (.int 0) (.int 0))):=by rw[upd_ne ncl];exact a1
 revert k2 b2 cl2
 generalize upd H1 m (.ins CM dx [("calls", .ref cl)])=H2
 intro k2 b2 cl2
 refine⟨small (by show 0≤1000000;decide),fun pl hpl=>?_⟩
 obtain⟨a3,b3,c3,k3,npl⟩:=lay1 (o:=.lst []) (fs':=[("calls", .ref cl),("pile", .ref pl)]) b2 hpl
 refine⟨_,rfl,m,CM,dx,_,rfl,a3,Tx.cm,Tx.m2,(by show 1<1000;decide),?_⟩
 rw[m2]
 revert b3 c3 k3
 generalize upd (upd H2 pl (.lst [])) m (.ins CM dx [("calls", .ref cl),("pile", .ref pl)])=H3
 intro b3 c3 k3
 refine⟨small (by show 0≤1000000;decide),fun own hown=>?_⟩
 have nown:own≠m:=Ne.symm (ne_of_none b3 hown)
 have e4:=same_new hown (.lst [])
 have c4:(upd H3 own (.lst [])) own=some (.lst []):=upd_same
 revert e4 c4
 generalize upd H3 own (.lst [])=H4
 intro e4 c4
 intro fr dxf hfr hdxf nfr
 refine⟨fr,dxf,own, .int 0,rfl,upd_same,rfl,?_⟩
 obtain⟨a5,k5⟩:=made1 (C:=CF) (fs:=ffl own (.int 0)) hfr hdxf nfr
 have nfm:fr≠m:=Ne.symm (ne_of_none (e4 _ _ b3) hfr)
 revert a5 k5
 generalize upd (upd (upd H4 dxf (.own fr)) fr (.ins CF dxf [])) fr (.ins CF dxf (ffl own (.int 0)))=H5
 intro a5 k5
 refine⟨_,rfl,m,CM,dx,_,rfl,k5 _ _ (e4 _ _ b3),Tx.cm,Tx.m3,(by show 2<1000;decide),?_⟩
 rw[m3]
 have k6:Kp1 m H3 (upd H5 m (.ins CM dx [("calls", .ref cl),("pile", .ref pl),("frame", .ref fr)])):=fun b o nb h=>by rw[upd_ne nb];exact k5 _ _ (e4 _ _ h)
 have b6:(upd H5 m (.ins CM dx [("calls", .ref cl),("pile", .ref pl),("frame", .ref fr)])) m=some (.ins CM dx [("calls", .ref cl),("pile", .ref pl),("frame", .ref fr)]):=upd_same
 have o6:(upd H5 m (.ins CM dx [("calls", .ref cl),("pile", .ref pl),("frame", .ref fr)])) own=some (.lst []):=by rw[upd_ne nown];exact k5 _ _ c4
 have f6:(upd H5 m (.ins CM dx [("calls", .ref cl),("pile", .ref pl),("frame", .ref fr)])) fr=some (.ins CF dxf (ffl own (.int 0))):=by rw[upd_ne nfm];exact a5
 have p6:=k6 _ _ npl c3
 revert k6 b6 o6 f6 p6
 generalize upd H5 m (.ins CM dx [("calls", .ref cl),("pile", .ref pl),("frame", .ref fr)])=H6
 intro k6 b6 o6 f6 p6
 refine⟨small (by show 0≤1000000;decide),fun ofr hofr=>?_⟩
 obtain⟨a7,b7,c7,k7,nofr⟩:=lay1 (o:=.lst []) (fs':=[("calls", .ref cl),("pile", .ref pl),("frame", .ref fr),("outer_frames", .ref ofr)]) b6 hofr
 have n2:ofr≠pl:=Ne.symm (ne_of_none p6 hofr)
 have n3:ofr≠own:=Ne.symm (ne_of_none o6 hofr)
 refine⟨_,rfl,m,CM,dx,_,rfl,a7,Tx.cm,Tx.m4,(by show 3<1000;decide),?_⟩
 rw[m4]
 revert b7 c7 k7
 generalize upd (upd H6 ofr (.lst [])) m (.ins CM dx [("calls", .ref cl),("pile", .ref pl),("frame", .ref fr),("outer_frames", .ref ofr)])=H7
 intro b7 c7 k7
 refine⟨small (by show 0≤1000000;decide),fun st hst=>?_⟩
 obtain⟨a8,b8,c8,k8,nst⟩:=lay1 (o:=.lst []) (fs':=[("calls", .ref cl),("pile", .ref pl),("frame", .ref fr),("outer_frames", .ref ofr),("stored", .ref st)]) b7 hst
 refine⟨_,rfl,m,CM,dx,_,rfl,a8,Tx.cm,Tx.m5,(by show 4<1000;decide),?_⟩
 rw[m5]
 revert b8 c8 k8
 generalize upd (upd H7 st (.lst [])) m (.ins CM dx [("calls", .ref cl),("pile", .ref pl),("frame", .ref fr),("outer_frames", .ref ofr),("stored", .ref st)])=H8
 intro b8 c8 k8
 refine⟨_,rfl,m,CM,dx,_,rfl,b8,Tx.cm,Tx.m6,(by show 5<1000;decide),?_⟩
 rw[m6]
 have k68:Kp1 m H6 (upd H8 m (.ins CM dx (mfl cl pl fr ofr st (.int 0)))):=fun b o nb h=>by rw[upd_ne nb];exact k8 _ _ nb (k7 _ _ nb h)
 have n5:st≠own:=Ne.symm (ne_of_none (k7 _ _ nown o6) hst)
 have n1:pl≠own:=ne_of_none c3 hown
 have n4:st≠pl:=Ne.symm (ne_of_none (k7 _ _ npl p6) hst)
 have n6:st≠ofr:=Ne.symm (ne_of_none c7 hst)
 refine q ⟨m,dx,pl,ofr,cl,dx1,st⟩ fr dxf own _ rfl ⟨upd_same,k68 _ _ npl p6,by rw[upd_ne nofr];exact k8 _ _ nofr c7,k68 _ _ ncl (k6 _ _ ncl (k3 _ _ ncl cl2)),by rw[upd_ne nst];exact c8,fun g hg=>?_,?_⟩ ((k2.trans (k3.trans k6)).trans k68) fun b hb=>?_
 ·rw[List.mem_singleton.mp hg]
  exact⟨k68 _ _ nfm f6,k68 _ _ nown o6⟩
 ·show[pl,ofr,st,own].Nodup
  simp[n1,Ne.symm n2,n3,Ne.symm n4,n5,Ne.symm n6]
 ·rcases hb with h|h|h
  ·exact .inl h
  ·exact .inr (by rw[show b=cl from h];exact hx)
  ·have h':b∈[pl,ofr,st,own]:=h
   simp only[List.mem_cons,List.not_mem_nil,or_false]at h'
   rcases h' with h|h|h|h
   ·exact .inr (h ▸ k2.free npl hpl)
   ·exact .inr (h ▸ (k2.trans (k3.trans k6)).free nofr hofr)
   ·exact .inr (h ▸ (k2.trans (k3.trans (k6.trans k7))).free nst hst)
   ·exact .inr (h ▸ (k2.trans k3).free nown hown)
end
inductive Wv where
 |num (i:Int)
 |fn (to:Nat) (kept:List Wv)
 |rg (fs:List (Nat×List Nat)) (own:List Wv) (i:Nat)
def rgs (fs:List (Nat×List Nat))(own:List Wv):List Wv:=(List.range fs.length).map fun i=>.rg fs own i
mutual
inductive Wr (CL:Addr)(N:Addr→Prop)(H:Hp):V→Wv→Prop where
 |num (i:Int):Wr CL N H (.int i) (.num i)
 |fn {c dxl k:Addr} {to:Nat} {ws:List V} {kept:List Wv}:H c=some (.ins CL dxl (clf (.int (to:Int)) k))→H k=some (.lst ws)→N c→N k→Wrs CL N H ws kept→Wr CL N H (.ref c) (.fn to kept)
 |rg {cs:List Addr} {ows:List V} {own:List Wv} {fs:List (Nat×List Nat)} {i:Nat} {c:Addr}:cs.length=fs.length→cs[i]?=some c→(∀(j:Nat) (c':Addr) (f:Nat×List Nat),cs[j]?=some c'→fs[j]?=some f→∃dxl k ws,H c'=some (.ins CL dxl (clf (.int (f.1:Int)) k))∧H k=some (.lst ws)∧N c'∧N k∧f.2.map (fun p=>(ows++cs.map V.ref)[p]?)=ws.map some)→Wrs CL N H ows own→Wr CL N H (.ref c) (.rg fs own i)
inductive Wrs (CL:Addr)(N:Addr→Prop)(H:Hp):List V→List Wv→Prop where
 |nil:Wrs CL N H [] []
 |cons {v:V} {t:Wv} {vs:List V} {ts:List Wv}:Wr CL N H v t→Wrs CL N H vs ts→Wrs CL N H (v::vs) (t::ts)
end
section
variable {CL:Addr}{N N':Addr→Prop}{H H':Hp}
mutual
theorem Wr.mono (x:∀b o,N b→H b=some o→N' b∧H' b=some o):∀{v:V} {t:Wv},Wr CL N H v t→Wr CL N' H' v t
 |_,_, .num i=>.num i
 |_,_, .fn h1 h2 n1 n2 r=>.fn (x _ _ n1 h1).2 (x _ _ n2 h2).2 (x _ _ n1 h1).1 (x _ _ n2 h2).1 (Wrs.mono x r)
 |_,_, .rg l hc h r=>.rg l hc (fun j c' f e1 e2=>by
   obtain⟨dxl,k,ws,h1,h2,n1,n2,h3⟩:=h j c' f e1 e2
   exact⟨dxl,k,ws,(x _ _ n1 h1).2,(x _ _ n2 h2).2,(x _ _ n1 h1).1,(x _ _ n2 h2).1,h3⟩) (Wrs.mono x r)
theorem Wrs.mono (x:∀b o,N b→H b=some o→N' b∧H' b=some o):∀{vs:List V} {ts:List Wv},Wrs CL N H vs ts→Wrs CL N' H' vs ts
 |_,_, .nil=>.nil
 |_,_, .cons r q=>.cons (Wr.mono x r) (Wrs.mono x q)
end
theorem Wrs.len:∀{vs:List V} {ts:List Wv},Wrs CL N H vs ts→vs.length=ts.length
 |_,_, .nil=>rfl
 |_,_, .cons _ q=>congrArg (·+1) (Wrs.len q)
theorem Wrs.app:∀{vs ws:List V} {ts us:List Wv},Wrs CL N H vs ts→Wrs CL N H ws us→Wrs CL N H (vs++ws) (ts++us)
 |_,_,_,_, .nil,q=>q
 |_,_,_,_, .cons r p,q=>.cons r (Wrs.app p q)
theorem Wrs.snoc {vs:List V}{ts:List Wv}{v:V}{t:Wv}(r:Wrs CL N H vs ts)(q:Wr CL N H v t):Wrs CL N H (vs++[v]) (ts++[t]):=r.app (.cons q .nil)
theorem Wrs.get:∀{vs:List V} {ts:List Wv} {j:Nat} {t:Wv},Wrs CL N H vs ts→ts[j]?=some t→∃v,vs[j]?=some v∧Wr CL N H v t
 |_,_,_,_, .nil,h=>by simp at h
 |_,_,0,_, .cons r q,h=>by simp at h;subst h;exact⟨_,rfl,r⟩
 |_,_,j+1,_, .cons r q,h=>by
  simp at h
  obtain⟨v,e,w⟩:=Wrs.get q h
  exact⟨v,by simpa using e,w⟩
theorem Wrs.pick {vs:List V}{ts:List Wv}(r:Wrs CL N H vs ts):∀{js:List Nat} {us:List Wv},js.map (fun j=>ts[j]?)=us.map some→∃ws,js.map (fun j=>vs[j]?)=ws.map some∧Wrs CL N H ws us
 |[],[],_=>⟨[],rfl, .nil⟩
 |[],_::_,h=>by cases h
 |_::_,[],h=>by cases h
 |j::js,u::us,h=>by
  simp only[List.map_cons,List.cons.injEq]at h
  obtain⟨v,e,q⟩:=r.get h.1
  obtain⟨ws,e2,q2⟩:=Wrs.pick r h.2
  exact⟨v::ws,by simp only[List.map_cons,e,e2], .cons q q2⟩
end
inductive Frs (CL:Addr)(N:Addr→Prop)(H:Hp):List Fm→List (List Wv×Nat)→Prop where
 |nil:Frs CL N H [] []
 |cons {f:Fm} {o:List Wv} {b:Nat} {fs:List Fm} {os:List (List Wv×Nat)}:Wrs CL N H f.vs o→f.be=.int (b:Int)→Frs CL N H fs os→Frs CL N H (f::fs) ((o,b)::os)
theorem Frs.mono {CL:Addr}{N N':Addr→Prop}{H H':Hp}(x:∀b o,N b→H b=some o→N' b∧H' b=some o):∀{fs:List Fm} {os:List (List Wv×Nat)},Frs CL N H fs os→Frs CL N' H' fs os
 |_,_, .nil=>.nil
 |_,_, .cons r e q=>.cons (r.mono x) e (q.mono x)
theorem Frs.len {CL:Addr}{N:Addr→Prop}{H:Hp}:∀{fs:List Fm} {os:List (List Wv×Nat)},Frs CL N H fs os→fs.length=os.length
 |_,_, .nil=>rfl
 |_,_, .cons _ _ q=>congrArg (·+1) q.len
structure AS where
 pile:List Wv
 own:List Wv
 be:Nat
 outer:List (List Wv×Nat)
 sto:List Wv
 pc:Nat
 begun:Nat
inductive Rw where
 |num (i:Int)|loc (j:Nat)|glob (j:Nat)|keep|drop (n:Nat)|store|reck (k:Nat)|unl (t:Nat)|jump (t:Nat)|close (to:Nat) (js:List Nat)|ring (fs:List (Nat×List Nat))|call|back
inductive Out where
 |num (i:Int)|long|deep|great
deriving DecidableEq
def In60b (i:Int):Bool:=decide (-(10^60)<i)&&decide (i<10^60)
def picked (own:List Wv):List Nat→Option (List Wv)
 |[]=>some []
 |j::js=>match own[j]?,picked own js with
  |some v,some vs=>some (v::vs)
  |_,_=>none
def keptW:Wv→Option (Nat×List Wv)
 |.num _=>none
 |.fn to kept=>some (to,kept)
 |.rg fs own i=>match fs[i]? with
  |none=>none
  |some f=>(picked (own++rgs fs own) f.2).map fun k=>(f.1,k)
def stepA (most:Int)(row:Rw)(A:AS):Option (AS ⊕ Out) :=
 if A.pile.length≤400∧A.own.length≤400∧A.sto.length≤400∧A.outer.length≤400 then
 match row with
 |.num i=>some (.inl {A with pile:=.num i::A.pile})
 |.loc j=>(A.own[j]?).map fun v=>.inl {A with pile:=v::A.pile}
 |.glob j=>(A.sto[j]?).map fun v=>.inl {A with pile:=v::A.pile}
 |.keep=>match A.pile with
  |v::p=>some (.inl {A with pile:=p,own:=A.own++[v]})
  |[]=>none
 |.drop n=>if n≤A.own.length then some (.inl {A with own:=A.own.take (A.own.length-n)}) else none
 |.store=>match A.pile with
  |v::p=>some (.inl {A with pile:=p,sto:=A.sto++[v]})
  |[]=>none
 |.reck k=>match A.pile with
  |.num j::.num i::p=>if k≤3∧In60b i=true∧In60b j=true then some (if In60b (rk k i j)=true then .inl {A with pile:=.num (rk k i j)::p} else .inr .great) else none
  |_=>none
 |.unl t=>match A.pile with
  |.num i::p=>some (.inl (if i=0 then{A with pile:=p,pc:=t} else{A with pile:=p}))
  |_=>none
 |.jump t=>some (.inl {A with pc:=t})
 |.close to js=>if js.length≤400 then(picked A.own js).map fun vs=>.inl {A with pile:=.fn to vs::A.pile} else none
 |.ring fs=>if fs.length≤5∧(∀f∈fs,f.2.length≤400∧(picked (A.own++rgs fs A.own) f.2).isSome=true) then some (.inl {A with own:=A.own++rgs fs A.own}) else none
 |.call=>match A.pile with
  |v::u::p=>match keptW u with
   |none=>none
   |some (to,kept)=>if kept.length≤400 then some (if most<(A.begun:Int)+1 then .inr .long else if 10<A.outer.length+1 then .inr .deep else
    .inl {A with pile:=p,own:=kept++[v],be:=A.pc,outer:=(A.own,A.be)::A.outer,pc:=to,begun:=A.begun+1}) else none
  |_=>none
 |.back=>match A.outer with
  |[]=>match A.pile with
   |.num i::_=>some (.inr (.num i))
   |_=>none
  |(o,b)::fs=>some (.inl {A with own:=o,be:=b,outer:=fs,pc:=A.be})
 else none
def runA (most:Int)(code:List Rw):Nat→AS→Option Out
 |0,_=>none
 |n+1,A=>match code[A.pc]? with
  |none=>none
  |some row=>match stepA most row {A with pc:=A.pc+1} with
   |none=>none
   |some (.inr o)=>some o
   |some (.inl A')=>runA most code n A'
def RwL (H:Hp)(r:Addr):Rw→Prop
 |.num i=>H r=some (.tup [.str "number", .int i])
 |.loc j=>H r=some (.tup [.str "local", .int (j:Int)])
 |.glob j=>H r=some (.tup [.str "global", .int (j:Int)])
 |.keep=>H r=some (.tup [.str "keep"])
 |.drop n=>H r=some (.tup [.str "drop", .int (n:Int)])
 |.store=>H r=some (.tup [.str "store"])
 |.reck k=>H r=some (.tup [.str (wordOf k)])
 |.unl t=>H r=some (.tup [.str "unless", .int (t:Int)])
 |.jump t=>H r=some (.tup [.str "jump", .int (t:Int)])
 |.close to js=>∃pt,H r=some (.tup [.str "close", .int (to:Int), .ref pt])∧H pt=some (.tup (js.map fun j:Nat=>V.int (j:Int)))
 |.ring fs=>∃(rt:Addr) (ps:List Addr),H r=some (.tup [.str "ring", .ref rt])∧H rt=some (.tup (ps.map V.ref))∧ps.length=fs.length∧∀(j:Nat) (p:Addr) (f:Nat×List Nat),ps[j]?=some p→fs[j]?=some f→∃pt,H p=some (.tup [.int (f.1:Int), .ref pt])∧H pt=some (.tup (f.2.map fun j:Nat=>V.int (j:Int)))
 |.call=>H r=some (.tup [.str "call"])
 |.back=>H r=some (.tup [.str "back"])
structure AR (CL:Addr)(H:Hp)(a:MA)(s:MCo)(A:AS):Prop where
 pl:Wrs CL (fun b=>¬Mu a s b) H s.pile.reverse A.pile
 ow:Wrs CL (fun b=>¬Mu a s b) H s.cur.vs A.own
 be:s.cur.be=.int (A.be:Int)
 ou:Frs CL (fun b=>¬Mu a s b) H s.outer.reverse A.outer
 st:Wrs CL (fun b=>¬Mu a s b) H s.sto A.sto
 pc:s.ah=.int (A.pc:Int)
 bg:s.begun=(A.begun:Int)
 un:s.under=(A.outer.length:Int)
theorem picked_map {own:List Wv}:∀{js:List Nat} {us:List Wv},picked own js=some us→js.map (fun j=>own[j]?)=us.map some
 |[],us,h=>by cases h;rfl
 |j::js,us,h=>by
  unfold picked at h
  split at h
  ·rename_i v vs e1 e2
   cases h
   simp only[List.map_cons,e1,picked_map e2]
  ·cases h
section
variable {CL:Addr}{N:Addr→Prop}{H:Hp}
theorem rgs_len {fs:List (Nat×List Nat)}{own:List Wv}:(rgs fs own).length=fs.length:=by simp[rgs]
theorem rgs_at {fs:List (Nat×List Nat)}{own:List Wv}{i:Nat}(h:i<fs.length):(rgs fs own)[i]?=some (.rg fs own i):=by simp[rgs,h]
theorem Wrs.of:∀{vs:List V} {ts:List Wv},vs.length=ts.length→(∀(j:Nat) v t,vs[j]?=some v→ts[j]?=some t→Wr CL N H v t)→Wrs CL N H vs ts
 |[],[],_,_=>.nil
 |[],_::_,h,_=>by simp at h
 |_::_,[],h,_=>by simp at h
 |v::vs,t::ts,h,g=>.cons (g 0 v t rfl rfl) (Wrs.of (by simpa using h) fun j v' t' e1 e2=>g (j+1) v' t' (by simpa using e1) (by simpa using e2))
theorem Wr.kept {v:V}{u:Wv}{to:Nat}{kept:List Wv}(r:Wr CL N H v u)(h:keptW u=some (to,kept)):∃c dxl k ws,v=.ref c∧H c=some (.ins CL dxl (clf (.int (to:Int)) k))∧H k=some (.lst ws)∧N c∧N k∧Wrs CL N H ws kept:=by
 cases r with
 |num i=>cases h
 |fn h1 h2 n1 n2 r=>cases h;exact⟨_,_,_,_,rfl,h1,h2,n1,n2,r⟩
 |@rg cs ows own fs i c l hc g r=>
  unfold keptW at h
  cases e:fs[i]? with
  |none=>simp only[e]at h;cases h
  |some f=>
   simp only[e]at h
   cases e2:picked (own++rgs fs own) f.2 with
   |none=>rw[e2]at h;cases h
   |some k0=>
    rw[e2]at h
    cases h
    obtain⟨dxl,k,ws,h1,h2,n1,n2,h3⟩:=g i c f hc e
    refine⟨c,dxl,k,ws,rfl,h1,h2,n1,n2,?_⟩
    have all:Wrs CL N H (ows++cs.map V.ref) (own++rgs fs own):=r.app (Wrs.of (by rw[rgs_len,List.length_map,l]) fun j v t e1 e3=>by
     rw[List.getElem?_map]at e1
     cases ec:cs[j]? with
     |none=>rw[ec]at e1;cases e1
     |some c'=>
      rw[ec]at e1
      cases e1
      have lj:j<fs.length:=by have:=(List.getElem?_eq_some_iff.mp ec).1;omega
      rw[rgs_at lj]at e3
      cases e3
      exact .rg l ec g r)
    obtain⟨ws',e4,q⟩:=all.pick (picked_map e2)
    have:ws'=ws:=by
     have:=e4.symm.trans h3
     exact(List.map_inj_right (fun a b z=>Option.some.inj z)).mp this
    subst this
    exact q
end
def RingL (CL:Addr)(N:Addr→Prop)(H:Hp)(vals:List V)(cs:List Addr)(fs:List (Nat×List Nat)):Prop:=∀(j:Nat) (c:Addr) (f:Nat×List Nat),cs[j]?=some c→fs[j]?=some f→∃dxl k ws,H c=some (.ins CL dxl (clf (.int (f.1:Int)) k))∧H k=some (.lst ws)∧N c∧N k∧f.2.map (fun p=>vals[p]?)=ws.map some
def RingR (H:Hp)(r:Addr)(fs:List (Nat×List Nat)):Prop:=∃(rt:Addr) (ps:List Addr),H r=some (.tup [.str "ring", .ref rt])∧H rt=some (.tup (ps.map V.ref))∧ps.length=fs.length∧∀(j:Nat) (p:Addr) (f:Nat×List Nat),ps[j]?=some p→fs[j]?=some f→∃pt,H p=some (.tup [.int (f.1:Int), .ref pt])∧H pt=some (.tup (f.2.map fun j:Nat=>V.int (j:Int)))
inductive CspRing (CM CF CC CL:Addr)(vs:List V)(H:Hp)(Q:VK)(E_:XK):Prop where
 |mk (a:MA) (s:MCo) (r:Addr) (fs:List (Nat×List Nat)):vs=[.ref a.m, .ref r]→MS CM CF CC H a s→RingR H r fs→fs.length≤5→s.cur.vs.length≤400→(∀f∈fs,f.2.length≤400∧∀p∈f.2,p<s.cur.vs.length+fs.length)→(∀cs H',cs.length=fs.length→MS CM CF CC H' a (s.setO (s.cur.vs++cs.map V.ref))→Ext a s H (s.setO (s.cur.vs++cs.map V.ref)) H'→RingL CL (fun b=>¬Mu a s b) H' (s.cur.vs++cs.map V.ref) cs fs→Q .non H')→CspRing CM CF CC CL vs H Q E_
def spRing (CM CF CC CL:Addr):Sp:=CspRing CM CF CC CL
theorem Wrs.top {CL:Addr}{N:Addr→Prop}{H:Hp}{l:List V}{t:Wv}{p:List Wv}(r:Wrs CL N H l.reverse (t::p)):∃l' v,l=l'++[v]∧Wr CL N H v t∧Wrs CL N H l'.reverse p:=by
 generalize e:l.reverse=k at r
 cases r with
 |@cons v _ vs _ w q=>exact⟨vs.reverse,v,by rw[←List.reverse_reverse l,e,List.reverse_cons],w,by rw[List.reverse_reverse];exact q⟩
theorem Wrs.push {CL:Addr}{N:Addr→Prop}{H:Hp}{l:List V}{v:V}{t:Wv}{p:List Wv}(r:Wrs CL N H l.reverse p)(w:Wr CL N H v t):Wrs CL N H (l++[v]).reverse (t::p):=by
 rw[List.reverse_append]
 exact .cons w r
theorem in60b {i:Int}:In60b i=true↔In60 i:=by
 unfold In60b In60 G60
 simp
theorem Wrs.take {CL:Addr}{N:Addr→Prop}{H:Hp}:∀{vs:List V} {ts:List Wv} (n:Nat),Wrs CL N H vs ts→Wrs CL N H (vs.take n) (ts.take n)
 |_,_,0,_=>by simp only[List.take_zero];exact .nil
 |_,_,n+1, .nil=>by simp only[List.take_nil];exact .nil
 |_,_,n+1, .cons r q=>by simp only[List.take_succ_cons];exact .cons r (q.take n)
theorem picked_in {own:List Wv}:∀{js:List Nat} {us:List Wv} {p:Nat},picked own js=some us→p∈js→∃t,own[p]?=some t
 |[],us,p,h,hp=>by simp at hp
 |j::js,us,p,h,hp=>by
  unfold picked at h
  cases e1:own[j]? with
  |none=>simp only[e1]at h;cases h
  |some v=>
   cases e2:picked own js with
   |none=>simp only[e1,e2]at h;cases h
   |some vs=>
    rcases List.mem_cons.mp hp with z|z
    ·subst z;exact⟨v,e1⟩
    ·exact picked_in e2 z
def rwN:Rw→Nat
 |.num _=>0|.loc _=>1|.glob _=>2|.keep=>3|.drop _=>4|.store=>5|.reck k=>6+k|.unl _=>10|.jump _=>11|.close _ _=>12|.ring _=>13|.call=>14|.back=>15
def rowSp (CM CF CC CL CT CTl CTd:Addr)(n:Nat):Sp:=if n=13 then spRing CM CF CC CL else if n=12 then spClose CM CF CC CL else if n=14 then spCallR CM CF CC CL CTl CTd else if n=15 then spBackR CM CF CC else if 6≤n∧n≤9 then spReckon CM CF CC CT else spRow CM CF CC n
section
variable {CM CF CC CL CT CTl CTd:Addr}{H:Hp}{a:MA}{s:MCo}{A:AS}
set_option maxHeartbeats 1000000 in
theorem step_row {r:Addr}{row:Rw}{res:AS ⊕ Out}{Q:VK}{E:XK}(M:MS CM CF CC H a s)(R:AR CL H a s A)(hr:RwL H r row)(h:stepA s.most row A=some res)
  (q1:∀A',res=.inl A'→∀s' H',MS CM CF CC H' a s'→AR CL H' a s' A'→Ext a s H s' H'→s'.most=s.most→Q .non H')
  (q2:∀i,res=.inr (.num i)→∀p s' H',s'.pile=p++[.int i]→s'.ah=.non→MS CM CF CC H' a s'→Ext a s H s' H'→Q .non H')
  (q3:res=.inr .long→∀ea H',(∀b o,¬Mu a s b→H b=some o→H' b=some o)→E (.ref CTl) (some ea) H')
  (q4:res=.inr .deep→∀ea H',(∀b o,¬Mu a s b→H b=some o→H' b=some o)→E (.ref CTd) (some ea) H')
  (q5:res=.inr .great→∀ea H',(∀b o,¬Mu a s b→H b=some o→H' b=some o)→E (.ref CT) (some ea) H'):
  rowSp CM CF CC CL CT CTl CTd (rwN row) [.ref a.m, .ref r] H Q E:=by
 have lp:s.pile.length=A.pile.length:=by have:=R.pl.len;rwa [List.length_reverse]at this
 have lo:=R.ow.len
 have ls:=R.st.len
 have lou:s.outer.length=A.outer.length:=by have:=R.ou.len;rwa [List.length_reverse]at this
 unfold stepA at h
 split at h
 case isFalse=>cases h
 rename_i c
 obtain⟨c1,c2,c3,c4⟩:=c
 cases row with
 |num i=>
  cases h
  exact⟨a,s,_,r,[.int i],rfl,M,hr,⟨_,rfl,rfl⟩,by omega,by omega,by omega,fun H' M' x=>q1 _ rfl _ H' M' ⟨(R.pl.mono x).push (.num i),R.ow.mono x,R.be,R.ou.mono x,R.st.mono x,R.pc,R.bg,R.un⟩ x rfl⟩
 |loc j=>
  cases hv:A.own[j]? with
  |none=>simp[hv]at h
  |some t=>
   simp only[hv,Option.map_some,Option.some.injEq]at h
   subst h
   obtain⟨v,ev,wv⟩:=R.ow.get hv
   exact⟨a,s,_,r,[.int j],rfl,M,hr,⟨j,v,rfl,ev,rfl⟩,by omega,by omega,by omega,fun H' M' x=>q1 _ rfl _ H' M' ⟨(R.pl.mono x).push (wv.mono x),R.ow.mono x,R.be,R.ou.mono x,R.st.mono x,R.pc,R.bg,R.un⟩ x rfl⟩
 |glob j=>
  cases hv:A.sto[j]? with
  |none=>simp[hv]at h
  |some t=>
   simp only[hv,Option.map_some,Option.some.injEq]at h
   subst h
   obtain⟨v,ev,wv⟩:=R.st.get hv
   exact⟨a,s,_,r,[.int j],rfl,M,hr,⟨j,v,rfl,ev,rfl⟩,by omega,by omega,by omega,fun H' M' x=>q1 _ rfl _ H' M' ⟨(R.pl.mono x).push (wv.mono x),R.ow.mono x,R.be,R.ou.mono x,R.st.mono x,R.pc,R.bg,R.un⟩ x rfl⟩
 |keep=>
  have rp:=R.pl
  cases hp:A.pile with
  |nil=>simp[hp]at h
  |cons t p=>
   simp only[hp,Option.some.injEq]at h
   subst h
   rw[hp]at rp
   obtain⟨l,v,e,w,rp'⟩:=rp.top
   exact⟨a,s,_,r,[],rfl,M,hr,⟨l,v,rfl,e,rfl⟩,by omega,by omega,by omega,fun H' M' x=>q1 _ rfl _ H' M' ⟨rp'.mono x,(R.ow.mono x).snoc (w.mono x),R.be,R.ou.mono x,R.st.mono x,R.pc,R.bg,R.un⟩ x rfl⟩
 |drop n=>
  simp only at h
  split at h
  case isFalse=>cases h
  rename_i cn
  simp only[Option.some.injEq]at h
  subst h
  exact⟨a,s,_,r,[.int (n:Int)],rfl,M,hr,⟨s.cur.vs.take (s.cur.vs.length-n),s.cur.vs.drop (s.cur.vs.length-n),n,rfl,(List.take_append_drop _ _).symm,by rw[List.length_drop];omega,rfl⟩,by omega,by omega,by omega,fun H' M' x=>q1 _ rfl _ H' M' ⟨R.pl.mono x,by
   show Wrs _ _ _ (s.cur.vs.take (s.cur.vs.length-n)) (A.own.take (A.own.length-n))
   rw[lo]
   exact(R.ow.mono x).take _,R.be,R.ou.mono x,R.st.mono x,R.pc,R.bg,R.un⟩ x rfl⟩
 |ring fs=>
  simp only at h
  split at h
  case isFalse=>cases h
  rename_i cn
  obtain⟨c5,cf⟩:=cn
  simp only[Option.some.injEq]at h
  subst h
  refine⟨a,s,r,fs,rfl,M,hr,c5,by omega,fun f hf=>⟨(cf f hf).1,fun p hp=>?_⟩,fun cs H' lc M' x g=>q1 _ rfl _ H' M' ⟨R.pl.mono x,?_,R.be,R.ou.mono x,R.st.mono x,R.pc,R.bg,R.un⟩ x rfl⟩
  ·obtain⟨us,hu⟩:=Option.isSome_iff_exists.mp (cf f hf).2
   have:=picked_map hu
   obtain⟨t,ht⟩:=picked_in hu hp
   have:=(List.getElem?_eq_some_iff.mp ht).1
   rw[List.length_append,rgs_len]at this
   omega
  ·have ow':=R.ow.mono x
   refine ow'.app (Wrs.of (by rw[rgs_len,List.length_map,lc]) fun j v t e1 e3=>?_)
   rw[List.getElem?_map]at e1
   cases ec:cs[j]? with
   |none=>rw[ec]at e1;cases e1
   |some c'=>
    rw[ec]at e1
    cases e1
    have lj:j<fs.length:=by have:=(List.getElem?_eq_some_iff.mp ec).1;omega
    rw[rgs_at lj]at e3
    cases e3
    exact .rg lc ec g ow'
 |store=>
  have rp:=R.pl
  cases hp:A.pile with
  |nil=>simp[hp]at h
  |cons t p=>
   simp only[hp,Option.some.injEq]at h
   subst h
   rw[hp]at rp
   obtain⟨l,v,e,w,rp'⟩:=rp.top
   exact⟨a,s,_,r,[],rfl,M,hr,⟨l,v,rfl,e,rfl⟩,by omega,by omega,by omega,fun H' M' x=>q1 _ rfl _ H' M' ⟨rp'.mono x,R.ow.mono x,R.be,R.ou.mono x,(R.st.mono x).snoc (w.mono x),R.pc,R.bg,R.un⟩ x rfl⟩
 |jump t=>
  cases h
  exact⟨a,s,_,r,[.int t],rfl,M,hr,⟨_,rfl,rfl⟩,by omega,by omega,by omega,fun H' M' x=>q1 _ rfl _ H' M' ⟨R.pl.mono x,R.ow.mono x,R.be,R.ou.mono x,R.st.mono x,rfl,R.bg,R.un⟩ x rfl⟩
 |unl t=>
  have rp:=R.pl
  rcases hp:A.pile with _|⟨_|⟨_,_⟩|⟨_,_,_⟩,p⟩
  ·simp[hp]at h
  ·rename_i i
   simp only[hp,Option.some.injEq]at h
   subst h
   rw[hp]at rp
   obtain⟨l,v,e,w,rp'⟩:=rp.top
   cases w
   refine⟨a,s,_,r,[.int t],rfl,M,hr,⟨l,_,i,rfl,e,rfl⟩,by omega,by omega,by omega,fun H' M' x=>?_⟩
   by_cases z:i=0
   ·simp only[if_pos z]at M' x
    exact q1 _ rfl _ H' M' ⟨by rw[if_pos z];exact rp'.mono x,by rw[if_pos z];exact R.ow.mono x,by rw[if_pos z];exact R.be,by rw[if_pos z];exact R.ou.mono x,by rw[if_pos z];exact R.st.mono x,by rw[if_pos z];rfl,by rw[if_pos z];exact R.bg,by rw[if_pos z];exact R.un⟩ x rfl
   ·simp only[if_neg z]at M' x
    exact q1 _ rfl _ H' M' ⟨by rw[if_neg z];exact rp'.mono x,by rw[if_neg z];exact R.ow.mono x,by rw[if_neg z];exact R.be,by rw[if_neg z];exact R.ou.mono x,by rw[if_neg z];exact R.st.mono x,by rw[if_neg z];exact R.pc,by rw[if_neg z];exact R.bg,by rw[if_neg z];exact R.un⟩ x rfl
  ·simp[hp]at h
  ·simp[hp]at h
 |close to js=>
  obtain⟨pt,hr1,hpt⟩:=hr
  simp only at h
  split at h
  case isFalse=>cases h
  rename_i cj
  cases hpk:picked A.own js with
  |none=>simp[hpk]at h
  |some us=>
   simp only[hpk,Option.map_some,Option.some.injEq]at h
   subst h
   obtain⟨ws,ews,rws⟩:=R.ow.pick (picked_map hpk)
   exact⟨a,s,r,pt, .int to,js,ws,rfl,M,hr1,hpt,ews,by omega,by omega,fun cc dxl k H' M' hc hk nc nk x=>q1 _ rfl _ H' M' ⟨(R.pl.mono x).push (.fn hc hk nc nk (rws.mono x)),R.ow.mono x,R.be,R.ou.mono x,R.st.mono x,R.pc,R.bg,R.un⟩ x rfl⟩
 |reck k=>
  have rp:=R.pl
  rcases hp:A.pile with _|⟨_|⟨_,_⟩|⟨_,_,_⟩,_|⟨_|⟨_,_⟩|⟨_,_,_⟩,p⟩⟩
  ·simp[hp]at h
  ·simp[hp]at h
  ·rename_i j i
   simp only[hp]at h
   split at h
   case isFalse=>cases h
   rename_i cc
   obtain⟨hk,hi,hj⟩:=cc
   simp only[Option.some.injEq]at h
   rw[hp]at rp
   obtain⟨l,v,e,w,rp'⟩:=rp.top
   obtain⟨l',v',e',w',rp2⟩:=rp'.top
   cases w
   cases w'
   subst e'
   have hN:rowSp CM CF CC CL CT CTl CTd (rwN (.reck k))=spReckon CM CF CC CT:=by
    show rowSp CM CF CC CL CT CTl CTd (6+k)=_
    unfold rowSp
    rw[if_neg (by omega),if_neg (by omega),if_neg (by omega),if_neg (by omega),if_pos (by omega)]
   rw[hN]
   refine⟨a,s,r,l',k,i,j,rfl,M,by rw[e,List.append_assoc];rfl,hr,hk,by have:=congrArg List.length e;simp at this;omega,in60b.mp hi,in60b.mp hj,fun hin H' M' x=>?_,fun hout ea H' kp=>?_⟩
   ·rw[if_pos (in60b.mpr hin)]at h
    exact q1 _ h.symm _ H' M' ⟨(rp2.mono x).push (.num _),R.ow.mono x,R.be,R.ou.mono x,R.st.mono x,R.pc,R.bg,R.un⟩ x rfl
   ·rw[if_neg (fun z=>hout (in60b.mp z))]at h
    exact q5 h.symm ea H' kp
  all_goals simp[hp]at h
 |call=>
  have rp:=R.pl
  rcases hp:A.pile with _|⟨t,_|⟨u,p⟩⟩
  ·simp[hp]at h
  ·simp[hp]at h
  ·simp only[hp]at h
   cases hkw:keptW u with
   |none=>rw[hkw]at h;cases h
   |some tk=>
   obtain⟨to,kept⟩:=tk
   rw[hkw]at h
   simp only at h
   split at h
   case isFalse=>cases h
   rename_i ck
   simp only[Option.some.injEq]at h
   rw[hp]at rp
   obtain⟨l,v,e,w,rp'⟩:=rp.top
   obtain⟨l',v',e',w',rp2⟩:=rp'.top
   obtain⟨cc,dxl,k,ws,ev',hc,hk,nc,nk,rws⟩:=w'.kept hkw
   ·subst ev'
    subst e'
    have lw:=rws.len
    refine⟨a,s,r,cc,dxl,k,l',ws,v, .int to,rfl,M,by rw[e,List.append_assoc];rfl,hc,hk,nc,nk,by have:=congrArg List.length e;simp at this;omega,by omega,by omega,fun z ea H' kp=>?_,fun z z' ea H' kp=>?_,fun z z' fr dxf own H' M' x=>?_⟩
    ·rw[R.bg]at z
     rw[if_pos z]at h
     exact q3 h.symm ea H' kp
    ·rw[R.bg]at z
     rw[R.un]at z'
     rw[if_neg (by omega),if_pos (by omega)]at h
     exact q4 h.symm ea H' kp
    ·have z1:=z
     have z2:=z'
     rw[R.bg]at z1
     rw[R.un]at z2
     rw[if_neg (by omega),if_neg (by omega)]at h
     refine q1 _ h.symm _ H' M' ⟨rp2.mono x,(rws.mono x).snoc (w.mono x),R.pc,?_,R.st.mono x,rfl,?_,?_⟩ x rfl
     ·show Frs _ _ _ (s.outer++[s.cur]).reverse _
      rw[List.reverse_append]
      exact .cons (R.ow.mono x) R.be (R.ou.mono x)
     ·show s.begun+1=((A.begun+1:Nat):Int)
      rw[R.bg]
      rfl
     ·show s.under+1=((A.outer.length+1:Nat):Int)
      rw[R.un]
      rfl
 |back=>
  have rp:=R.pl
  have ro:=R.ou
  rcases ho:A.outer with _|⟨⟨o,b⟩,fs⟩
  ·rcases hp:A.pile with _|⟨_|⟨_,_⟩|⟨_,_,_⟩,p⟩
   ·simp[ho,hp]at h
   ·rename_i i
    simp only[ho,hp,Option.some.injEq]at h
    rw[hp]at rp
    obtain⟨l,v,e,w,rp'⟩:=rp.top
    cases w
    have so:s.outer=[]:=List.length_eq_zero_iff.mp (by rw[lou,ho];rfl)
    exact⟨a,s,r,rfl,M,by omega,fun _ H' M' x=>q2 i h.symm l (s.setA .non) H' e rfl M' x,fun O f hO=>by rw[so]at hO;exact absurd hO (by simp)⟩
   ·simp[ho,hp]at h
   ·simp[ho,hp]at h
  ·simp only[ho,Option.some.injEq]at h
   refine⟨a,s,r,rfl,M,by omega,fun so=>?_,fun O f hO H' M' x=>?_⟩
   ·rw[so,ho]at lou
    simp at lou
   ·rw[hO,ho,List.reverse_append]at ro
    cases ro with
    |cons w eb rest=>
     refine q1 _ h.symm _ H' M' ⟨R.pl.mono x,w.mono x,eb,?_,R.st.mono x,R.be,R.bg,?_⟩ x rfl
     ·exact rest.mono x
     ·show s.under-1=(fs.length:Int)
      rw[R.un,ho]
      simp
end
end Fw
namespace L2
open PySem PySem.Spec PyProof.Rows
structure FunD (K:PySem.W.Frag)(x qual:Str)(st:Stmt)(f:Addr)(fd:FuncData)(T:Addr)(its:Array Value):Prop where
 ex:∃(oc:Value) (od:Option Addr) (kV doc pm:Value) (an:Option Addr) (cdv ct:Value) (osl:Array (Option Value)),
  fd=PySem.W.fnOf x qual (defArgs st) (defBody st) (defScope st) (.ref T) kV doc pm an cdv ct∧K.lookup f=some ⟨oc,od, .func fd,osl⟩∧PySem.W.codeIn K cdv qual=true
 kp:PySem.W.keepIn K (.ref f)=true
 df:∃oc od n sl,K.lookup T=some ⟨oc,od, .seq its n,sl⟩
section
variable {P:Program}{w:World}{K:PySem.W.Frag}{mg:Str→Option Value}{base:Heap}{N:List Str}{qual:Str}{f:Addr}{T:Addr}{its:Array Value}
theorem FunD.okX {x:Str}{st:Stmt}{fd:FuncData}{ps:List Str}{k:Nat}{sp:Sp}(F:FunD K x qual st f fd T its)(S:FnScope N ps (defScope st))(len:∀vs H Q E,sp vs H Q E→vs.length=ps.length)
  (hbody:∀(cdv:Value) (A:Around) (outer:List Env) (s:Shared) (H:Hp) (vs:List V) (Q:VK) (E:XK),Room k (A.deeper (envOfC qual (defScope st) s.heap.objs.size f cdv))→sp vs H Q E→
   ∃t,PSs (cxOf (CXF P w) P w K mg base N qual (defScope st) f cdv A outer s H E) (defBody st) t∧t {nx:=fun _ H'=>Q .non H',rt:=Q} (start N vs) H):FnOk P w K mg base (CXF P w) (k+1) f fd ps sp:=by
 obtain⟨oc,od,kV,doc,pm,an,cdv,ct,osl,rfl,lk,hcd⟩:=F.ex
 exact fn_of lk hcd S len fun A outer s H vs Q E hr hsp=>hbody cdv A outer s H vs Q E hr hsp
theorem FunD.binds {x:Str}{st:Stmt}{fd:FuncData}{ps:List Str}(F:FunD K x qual st f fd T its)
  (h:∀(kV doc pm:Value) (an:Option Addr) (cdv ct:Value) (us:List Value),us.length=ps.length→∃k:Option (Array Value)→Sem (List (Str×Value)),bindArgs (PySem.W.fnOf x qual (defArgs st) (defBody st) (defScope st) (.ref T) kV doc pm an cdv ct) ⟨us,[]⟩=seqItems? (.ref T)>>=k∧k (some its)=pure (ps.zip us)):Binds K fd ps []:=by
 obtain⟨oc,od,kV,doc,pm,an,cdv,ct,osl,rfl,lk,hcd⟩:=F.ex
 obtain⟨oc',od',n,sl,hT⟩:=F.df
 intro s us hK hl
 rw[List.append_nil]at hl ⊢
 obtain⟨k,e1,e2⟩:=h kV doc pm an cdv ct us hl
 exact BindsTo.of_defaults rfl (hK T _ hT) rfl e1 e2
end
end L2
namespace Fw
open PySem PySem.Spec PyProof.Rows L2
def rowsL (fr:Nat→Addr):List (Str×V):=[("number", .ref (fr 0)),("local", .ref (fr 1)),("global", .ref (fr 2)),("keep", .ref (fr 3)),("drop", .ref (fr 4)),("store", .ref (fr 5)),("plus", .ref (fr 6)),("minus", .ref (fr 7)),("times", .ref (fr 8)),("less", .ref (fr 9)),("unless", .ref (fr 10)),("jump", .ref (fr 11)),("close", .ref (fr 12)),("ring", .ref (fr 13)),("call", .ref (fr 14)),("back", .ref (fr 15)),("block", .ref (fr 16)),("field", .ref (fr 17)),("case", .ref (fr 18))]
section
variable (fr:Nat→Addr)
theorem rl0:(rowsL fr).lookup ("number":Str)=some (.ref (fr 0)):=by first|rfl|(with_unfolding_all rfl)|kernel_rfl
theorem rl1:(rowsL fr).lookup ("local":Str)=some (.ref (fr 1)):=by first|rfl|(with_unfolding_all rfl)|kernel_rfl
theorem rl3:(rowsL fr).lookup ("keep":Str)=some (.ref (fr 3)):=by first|rfl|(with_unfolding_all rfl)|kernel_rfl
theorem rl6:(rowsL fr).lookup ("plus":Str)=some (.ref (fr 6)):=by first|rfl|(with_unfolding_all rfl)|kernel_rfl
theorem rl7:(rowsL fr).lookup ("minus":Str)=some (.ref (fr 7)):=by first|rfl|(with_unfolding_all rfl)|kernel_rfl
theorem rl8:(rowsL fr).lookup ("times":Str)=some (.ref (fr 8)):=by first|rfl|(with_unfolding_all rfl)|kernel_rfl
theorem rl9:(rowsL fr).lookup ("less":Str)=some (.ref (fr 9)):=by first|rfl|(with_unfolding_all rfl)|kernel_rfl
theorem rl2:(rowsL fr).lookup ("global":Str)=some (.ref (fr 2)):=by first|rfl|(with_unfolding_all rfl)|kernel_rfl
theorem rl4:(rowsL fr).lookup ("drop":Str)=some (.ref (fr 4)):=by first|rfl|(with_unfolding_all rfl)|kernel_rfl
theorem rl5:(rowsL fr).lookup ("store":Str)=some (.ref (fr 5)):=by first|rfl|(with_unfolding_all rfl)|kernel_rfl
theorem rl10:(rowsL fr).lookup ("unless":Str)=some (.ref (fr 10)):=by first|rfl|(with_unfolding_all rfl)|kernel_rfl
theorem rl11:(rowsL fr).lookup ("jump":Str)=some (.ref (fr 11)):=by first|rfl|(with_unfolding_all rfl)|kernel_rfl
theorem rl15:(rowsL fr).lookup ("back":Str)=some (.ref (fr 15)):=by first|rfl|(with_unfolding_all rfl)|kernel_rfl
theorem rl12:(rowsL fr).lookup ("close":Str)=some (.ref (fr 12)):=by first|rfl|(with_unfolding_all rfl)|kernel_rfl
theorem rl14:(rowsL fr).lookup ("call":Str)=some (.ref (fr 14)):=by first|rfl|(with_unfolding_all rfl)|kernel_rfl
theorem rl13:(rowsL fr).lookup ("ring":Str)=some (.ref (fr 13)):=by first|rfl|(with_unfolding_all rfl)|kernel_rfl
theorem rl_reck:∀k,k≤3→(rowsL fr).lookup (wordOf k)=some (.ref (fr (6+k)))
 |0,_=>rl6 fr
 |1,_=>rl7 fr
 |2,_=>rl8 fr
 |3,_=>rl9 fr
 |n+4,h=>by omega
end
def rwNm:Rw→Str
 |.num _=>"number"|.loc _=>"local"|.glob _=>"global"|.keep=>"keep"|.drop _=>"drop"|.store=>"store"|.reck k=>wordOf k|.unl _=>"unless"|.jump _=>"jump"|.close _ _=>"close"|.ring _=>"ring"|.call=>"call"|.back=>"back"
def okRw:Rw→Prop
 |.reck k=>k≤3
 |_=>True
theorem rl_rw (fr:Nat→Addr){row:Rw}(h:okRw row):(rowsL fr).lookup (rwNm row)=some (.ref (fr (rwN row))):=by
 cases row with
 |num i=>exact rl0 fr
 |loc j=>exact rl1 fr
 |glob j=>exact rl2 fr
 |keep=>exact rl3 fr
 |drop n=>exact rl4 fr
 |store=>exact rl5 fr
 |reck k=>exact rl_reck fr k h
 |unl t=>exact rl10 fr
 |jump t=>exact rl11 fr
 |close to js=>exact rl12 fr
 |ring fs=>exact rl13 fr
 |call=>exact rl14 fr
 |back=>exact rl15 fr
def usedRow (n:Nat):Prop:=n≤13∨n=14∨n=15
theorem used_rw {row:Rw}(h:okRw row):usedRow (rwN row):=by
 cases row with
 |reck k=>
  have h':k≤3:=h
  exact .inl (by show 6+k≤13;omega)
 |call=>exact .inr (.inl rfl)
 |back=>exact .inr (.inr rfl)
 |_=>exact .inl (by simp[rwN])
theorem step_ok {most:Int}{row:Rw}{A:AS}{res:AS ⊕ Out}(h:stepA most row A=some res):okRw row:=by
 cases row with
 |reck k=>
  show k≤3
  unfold stepA at h
  split at h
  ·simp only at h
   split at h
   ·split at h
    ·rename_i c;exact c.1
    ·cases h
   ·cases h
  ·cases h
 |_=>trivial
theorem rw_head {H:Hp}{r:Addr}{row:Rw}(h:RwL H r row):∃args,H r=some (.tup (.str (rwNm row)::args)):=by
 cases row with
 |close to js=>obtain⟨pt,h1,_⟩:=h;exact⟨_,h1⟩
 |ring fs=>obtain⟨rt,ps,h1,_⟩:=h;exact⟨_,h1⟩
 |_=>exact⟨_,h⟩
theorem RwL.same {H H':Hp}{r:Addr}{row:Rw}(e:Same H H')(h:RwL H r row):RwL H' r row:=by
 cases row with
 |close to js=>obtain⟨pt,h1,h2⟩:=h;exact⟨pt,e _ _ h1,e _ _ h2⟩
 |ring fs=>
  obtain⟨rt,ps,h1,h2,l,g⟩:=h
  refine⟨rt,ps,e _ _ h1,e _ _ h2,l,fun j p f ep ef=>?_⟩
  obtain⟨pt,g1,g2⟩:=g j p f ep ef
  exact⟨pt,e _ _ g1,e _ _ g2⟩
 |_=>exact e _ _ h
def CodeL (H:Hp)(rvs:List V)(rows:List Rw):Prop:=rvs.length=rows.length∧∀(i:Nat) (row:Rw),rows[i]?=some row→∃r:Addr,rvs[i]?=some (V.ref r)∧RwL H r row
def A0:AS:=⟨[],[],0,[],[],0,0⟩
inductive CspDone (CT CTl CTd:Addr)(vs:List V)(H:Hp)(Q:VK)(E:XK):Prop where
 |mk (c:Addr) (most:Int) (rvs:List V) (rows:List Rw) (out:Out) (n:Nat):vs=[.ref c, .int most]→H c=some (.tup rvs)→CodeL H rvs rows→runA most rows n A0=some out→(∀i,out=.num i→∀H',Same H H'→Q (.int i) H')→(out=.long→∀ea H',Same H H'→E (.ref CTl) (some ea) H')→(out=.deep→∀ea H',Same H H'→E (.ref CTd) (some ea) H')→(out=.great→∀ea H',Same H H'→E (.ref CT) (some ea) H')→CspDone CT CTl CTd vs H Q E
def spDone (CT CTl CTd:Addr):Sp:=CspDone CT CTl CTd
def Ke (H0:Hp)(a:MA)(s:MCo)(H:Hp):Prop:=∀b o,H0 b=some o→¬Mu a s b∧H b=some o
theorem Ke.ext {H0 H H':Hp}{a:MA}{s s':MCo}(k:Ke H0 a s H)(x:Ext a s H s' H'):Ke H0 a s' H':=fun b o h=>x b o (k b o h).1 (k b o h).2
def Wd (CM CF CC CL:Addr)(H0:Hp)(c:Addr)(a:MA)(most:Int)(rows:List Rw)(out:Out)(m:Nat)(σ:L2.St)(H:Hp):Prop:=∃o,σ=[some (.ref c),some (.int most),some (.ref a.m),o]∧
 ((∃s A,MS CM CF CC H a s∧AR CL H a s A∧Ke H0 a s H∧s.most=most∧runA most rows m A=some out)∨(∃(s:MCo) (p:List V) (i:Int),MS CM CF CC H a s∧Ke H0 a s H∧s.pile=p++[.int i]∧s.ah=.non∧out=.num i∧m=0))
section
variable {P:Program}{w:World}{K:PySem.W.Frag}{mg:Str→Option Value}{base:Heap}{f:Addr}{fd:FuncData}{CM CF CC CL CT CTl CTd:Addr}
abbrev s_done:Stmt:=top 46
theorem sc_done:FnScope ["code","most","machine","row"] ["code","most"] (defScope s_done):=⟨rfl,rfl,rfl,by decide+kernel,rfl,by decide+kernel,by decide+kernel⟩
set_option maxHeartbeats 2000000 in
theorem ok_done {T dr fM:Addr}{gM:FuncData}{its:Array Value}{fr:Nat→Addr}(F:FunD K "done" "done" s_done f fd T its)(Tx:TxM K CM CF CC CL)(MM:Mk K CM fM)(GM:FnOk P w K mg base CX0 3 fM gM ["self","most"] (spMach CM CF CC))(bM:Binds K gM ["self","most"] [])(hM:mg "Machine"=some (.ref CM))
  (hR:mg "ROWS"=some (.ref dr)) (D:StrDict K w dr (rowsL fr)) (hF:∀n,usedRow n→∃k fd,k≤4∧FnOk P w K mg base (CXF P w) k (fr n) fd ["machine","row"] (rowSp CM CF CC CL CT CTl CTd n)∧PySem.W.keepIn K (.ref (fr n))=true∧Binds K fd ["machine","row"] [])
  (hN:Has P w K mg base 2 "number_of" ["value"] spNum):FnOk P w K mg base (CXF P w) 5 f fd ["code","most"] (spDone CT CTl CTd):=by
 refine F.okX sc_done (fun vs H Q E h=>?_) (fun cdv A outer s H vs Q E hr h=>?_)
 ·obtain⟨c,most,rvs,rows,out,n,rfl,_⟩:=h
  rfl
 obtain⟨c,most,rvs,rows,out,n,rfl,hc,cd,ex,q1,q2,q3,q4⟩:=h
 refine⟨_,pss_cons (ps_set (i:=2) sc_done.nd rfl (Or.inl rfl) (pe_make MM GM hr rfl hM bM .nil pass0 (pa_cons (pv 1) pa_nil)))
  (pss_cons (ps_while PassesOwn.leaving (pt_cmp (pc_notN (fldK K (pv 2) rfl)))
   (pss_cons (ps_set (i:=3) sc_done.nd rfl (Or.inl rfl) (pe_ix (ixT K) (pv 0) (fldK K (pv 2) rfl) (fun _ _=>rfl)))
   (pss_cons (sfldK K (pv 2) (pe_op op_add (fldK K (pv 2) rfl) pe_int) rfl)
   (pss_one (ps_expr (pe_callE (E:=E) (fun f sp=>∃n,usedRow n∧f=fr n∧sp=rowSp CM CF CC CL CT CTl CTd n) (fun f sp ⟨n,hn,e1,e2⟩=>by
    obtain⟨k,fd',hk,G,kp,b⟩:=hF n hn
    rw[e1,e2]
    exact⟨k,fd',_,G,hr.mono hk,kp,b⟩) (pe_ix ix_dict (pe_glob (v:=.ref dr) rfl hR rfl) (pe_ix (ixT K) (pv 3) pe_int (fun _ _=>rfl)) (fun _ _=>rfl)) passes_up (pa_cons (pv 2) (pa_cons (pv 3) pa_nil))))))))
  (pss_one (ps_ret (pcall hN hr (by decide) rfl (pa_cons (pe_bm0 PySem.F.plainAttrs_list PySem.F.slot_list_pop PySem.F.type_list_pop mt_pop (fldK K (pv 2) rfl)) pa_nil))))),?_⟩
 refine⟨_,rfl,fun mm dx hmm hdx nmm=>⟨mm,dx,most,rfl,upd_same,fun a frm dxf own H1 ea M1 k1 f1=>⟨rfl,?_⟩⟩⟩
 subst ea
 have ke1:Ke H a ⟨[],⟨frm,dxf,own,[], .int 0⟩,[],[], .int 0,most,0,0⟩ H1:=fun b o h=>by
  have hb:(upd (upd H dx (.own a.m)) a.m (.ins CM dx [])) b=some o:=by rw[upd_ne (ne_of_none h hmm),upd_ne (ne_of_none h hdx)];exact h
  refine⟨fun z=>?_,k1 b o (ne_of_none h hmm) hb⟩
  rcases f1 b z with e|e
  ·exact ne_of_none h hmm e
  ·rw[hb]at e;cases e
 have r1:AR CL H1 a ⟨[],⟨frm,dxf,own,[], .int 0⟩,[],[], .int 0,most,0,0⟩ A0:=⟨.nil, .nil,rfl, .nil, .nil,rfl,rfl,rfl⟩
 refine⟨Wd CM CF CC CL H c a most rows out,⟨n,none,rfl, .inl ⟨_,A0,M1,r1,ke1,rfl,ex⟩⟩,?_⟩
 rintro m σ H2 ⟨o,rfl,⟨s,A,M,R,ke,hm,ex2⟩|⟨s,p,i,M,ke,hp,ha,rfl,rfl⟩⟩
 ·cases m with
  |zero=>cases ex2
  |succ m=>
   refine⟨_,rfl,a.m,CM,a.dx,_,_,rfl,M.ob,Tx.cm,Tx.m6,mf6 _ _ _ _ _ _,_,rfl,?_⟩
   rw[R.pc]
   refine ite2 (fun _=>?_) (fun z=>absurd rfl z)
   refine⟨_,fun _ _ h=>h,?_⟩
   unfold runA at ex2
   cases hrow:rows[A.pc]? with
   |none=>rw[hrow]at ex2;cases ex2
   |some row=>
    rw[hrow]at ex2
    dsimp only at ex2
    obtain⟨r,er,hr2⟩:=cd.2 _ row hrow
    have obm:H2 a.m=some (.ins CM a.dx (mfl a.cl a.pl s.cur.fr a.ofr a.st (.int (A.pc:Int)))):=by have:=M.ob;rwa [R.pc]at this
    refine⟨_,rfl,_,rfl,a.m,CM,a.dx,_, .int A.pc,rfl,obm,Tx.cm,Tx.m6,mf6 _ _ _ _ _ _,c,rvs,(A.pc:Int), .ref r,rfl,rfl,SqT.of (ke _ _ hc).2,atI_nat (j:=A.pc) er,?_⟩
    refine⟨_,rfl,a.m,CM,a.dx,_, .int A.pc,rfl,obm,Tx.cm,Tx.m6,mf6 _ _ _ _ _ _,_,_,rfl,rfl,_,rfl,a.m,CM,a.dx,_,rfl,obm,Tx.cm,Tx.m6,(by show 6<1000;decide),?_⟩
    rw[mp6]
    dsimp only
    rw[show(A.pc:Int)+1=((A.pc+1:Nat):Int) from rfl]
    have M3:=M.setA (.int ((A.pc+1:Nat):Int))
    have x3:Ext a s H2 (s.setA (.int ((A.pc+1:Nat):Int))) (upd H2 a.m (.ins CM a.dx (mfl a.cl a.pl s.cur.fr a.ofr a.st (.int ((A.pc+1:Nat):Int))))):=xtA
    revert M3 x3
    generalize upd H2 a.m (.ins CM a.dx (mfl a.cl a.pl s.cur.fr a.ofr a.st (.int ((A.pc+1:Nat):Int))))=H3
    intro M3 x3
    have ke3:=ke.ext x3
    have s3:Same H H3:=fun b o h=>(ke3 b o h).2
    have R3:AR CL H3 a (s.setA (.int ((A.pc+1:Nat):Int))) {A with pc:=A.pc+1}:=⟨R.pl.mono x3,R.ow.mono x3,R.be,R.ou.mono x3,R.st.mono x3,rfl,R.bg,R.un⟩
    have hr3:=RwL.same s3 hr2
    cases hst:stepA most row {A with pc:=A.pc+1} with
    |none=>rw[hst]at ex2;cases ex2
    |some res=>
     rw[hst]at ex2
     obtain⟨args,hra⟩:=rw_head hr3
     have okr:=step_ok hst
     refine(ix_t (a:=r) (j:=0) rfl hra rfl ⟨rwNm row,dr,_, .ref (fr (rwN row)),rfl,rfl,D,rl_rw fr okr,fr (rwN row),_,rfl,⟨rwN row,used_rw okr,rfl,rfl⟩,_,rfl,_,rfl,?_⟩)
     rw[←hm]at hst
     refine step_row (s:=s.setA (.int ((A.pc+1:Nat):Int))) M3 R3 hr3 hst ?_ ?_ ?_ ?_ ?_
     ·rintro A' rfl s' H' M' R' x' hm'
      exact⟨m,by omega,_,rfl, .inl ⟨s',A',M',R',ke3.ext x',hm'.trans hm,ex2⟩⟩
     ·rintro i rfl p s' H' hp ha M' x'
      cases ex2
      exact⟨0,by omega,_,rfl, .inr ⟨s',p,i,M',ke3.ext x',hp,ha,rfl,rfl⟩⟩
     ·rintro rfl ea H' kp
      cases ex2
      exact q2 rfl ea H' fun b o h=>kp b o (ke3 b o h).1 (ke3 b o h).2
     ·rintro rfl ea H' kp
      cases ex2
      exact q3 rfl ea H' fun b o h=>kp b o (ke3 b o h).1 (ke3 b o h).2
     ·rintro rfl ea H' kp
      cases ex2
      exact q4 rfl ea H' fun b o h=>kp b o (ke3 b o h).1 (ke3 b o h).2
 ·refine⟨_,rfl,a.m,CM,a.dx,_,_,rfl,M.ob,Tx.cm,Tx.m6,mf6 _ _ _ _ _ _,_,rfl,?_⟩
  rw[ha]
  refine ite2 (fun z=>absurd z (by decide)) (fun _=>?_)
  have hpl:=M.hp
  rw[hp]at hpl
  refine⟨_,rfl,a.m,CM,a.dx,_, .ref a.pl,rfl,M.ob,Tx.cm,Tx.m2,mf2 _ _ _ _ _ _, .inl ⟨rfl,_,SqL.of M.hp⟩,a.pl,_, .int i,rfl,rfl,hpl,by simp,i,rfl,fun H3 s3=>q1 i rfl _ fun b o h=>s3 b o (at_ne (ke b o h).2 fun e=>(ke b o h).1 (.inr (.inr (e ▸ List.mem_cons_self))))⟩
end
end Fw
namespace PySem
open PyProof.Rows
section
variable {prog:Program}{w:World}{A:Around}{E:Value→Shared→Prop}{s:Shared}
theorem nextOfT_item {it t:Addr}{i:Nat}{xs:Array Value}{x:Value}{Q:Value→Shared→Prop}(hit:s.heap.IsTupleIter it t i)(ht:s.heap.IsTuple t xs)(hx:xs[i]?=some x)
  (hQ:∀h',h'.IsTupleIter it t (i+1)→Heap.SameBut it s.heap h'→Q x {s with heap:=h'}):wpAny (model prog w) A (Builtin.SmallTypes.nextOf (.ref it)) Q E s:=by
 obtain⟨o,ho,hc,hd⟩:=id hit
 obtain⟨u,hu,_,n,hn⟩:=ht
 unfold Builtin.SmallTypes.nextOf
 refine wpAny_bind (wpAny_callSpecial?_slot (name:=Str.ofString "__next__") hit.typeIs F.slot_tuple_iterator_next (wpAny_call_entry F.slot_tuple_iterator_next hit.typeIs F.entry_tuple_iterator_next ?_ (F.args_tuple_iterator_next_1 _)))
 show wpAny _ _ (field (.ref it) 0>>=_) _ _ s
 refine wpAny_bind (wpAny_field ho hd (x:=.ref t) rfl ?_)
 rw[if_neg (show ¬((Value.ref t==Value.none)=true) from Bool.false_ne_true)]
 show wpAny _ _ (field (.ref it) 1>>=_) _ _ s
 refine wpAny_bind (wpAny_field ho hd (x:=.int i 0) rfl ?_)
 show wpAny _ _ (seqItems? (.ref t)>>=_) _ _ s
 refine wpAny_bind (wpAny_seqItems hu hn ?_)
 simp only[Int.toNat_natCast,hx]
 refine wpAny_bind (wpAny_setField ho hd (by simp) (wpAny_pure ⟨x,rfl,wpAny_pure (hQ _ ⟨_,Heap.get?_update_self _ ho (Obj.isFreed_of_fields (Obj.data_mapFields hd _)),(Obj.cls_mapFields ..).trans hc,by rw[Obj.data_mapFields hd];simp[rawInt]⟩ (Heap.SameBut.update ..))⟩))
end
end PySem
namespace L2
open PySem PySem.Spec PyProof.Rows
section
variable {X:Cx}{pins:List (Addr×Obj)}{σ:St}{H:Hp}{s:Shared}{h':Heap}
theorem Inv.turnedL {t':Nat}{ch:List Addr}(I:Inv X pins σ H s)(k:∀b o,b∉ch→s.heap.get? b=some o→h'.get? b=some o)(hf:∀b∈ch,FpOk X pins H b):Inv X pins σ H {s with heap:=h',toks:=t'}:=by
 have nit:∀b u,H b=some u→b∉ch:=fun b u e z=>by rw[(hf b z).1]at e;cases e
 refine I.step (g':=s.gens) (d':=s.drawn) (ch:=ch) (fun b hb=>?_) (fun b o _ _ hc e _=>k b o hc e) (fun b o _ _ hc e _=>⟨o.slots,k b o hc e⟩) (fun _ _ _ _ n=>n)
  (fun b o hc e=>⟨o,k b o hc e⟩) (fun _ _ e=>e) (fun _ _ _ e=>e) (fun b ps e=>⟨#[],by rw[e];simp⟩) (fun m hm=>?_) (fun b u e=>?_) I.bare
 ·obtain⟨f0,f1,f2,f3,f4,f5⟩:=hf b hb
  exact⟨f3,f1,f4,f5⟩
 ·obtain⟨o,es,ep,ho,r⟩:=hm
  exact⟨o,es,ep,k _ o (fun z=>(hf _ z).2.1 rfl) ho,r⟩
 ·refine(I.hok b u e).stay (fun c v hc q=>k c v ?_ q) (fun _ q=>q) fun _ _ q=>q
  rcases hc with z|z
  ·rw[z];exact nit b u e
  ·exact nit c _ z
theorem Inv.trackT {D:Addr}{vs:List V}{its:List Value}(I:Inv X pins σ H s)(hf:FpOk X pins H D)(hz:vs.length≤sizeLine)(hv:Vals vs its)(e:IsTup s.heap D its.toArray):Inv X pins σ (upd H D (.tup vs)) s:=by
 obtain⟨hD,h2,_,h1,h3,h4⟩:=hf
 obtain⟨hh,g,d,t,o⟩:=s
 have nD:∀b u,H b=some u→b≠D:=fun b u q z=>by rw[z,hD]at q;cases q
 refine I.step (g':=g) (d':=d) (t':=t) (h':=hh) (ch:=[D]) (fun b hb=>?_) (fun b o _ _ _ q _=>q) (fun b o _ _ _ q _=>⟨o.slots,q⟩) (fun b o hb q n=>?_) (fun b o _ q=>⟨o,q⟩)
  (fun b xs q=>by rw[upd_ne (nD b _ q)];exact q) (fun b o u q=>by rw[upd_ne (nD b _ q)];exact q) (fun b ps q=>⟨#[],by rw[upd_ne (nD b _ q),q];simp⟩) (fun m q=>q) (fun b u q=>?_) I.bare
 ·have z:b=D:=by simpa using hb
  subst z
  exact⟨h1,h2,h3,h4⟩
 ·rw[upd_ne (by simpa using hb)];exact n
 ·by_cases z:b=D
  ·subst z
   rw[upd_same]at q;cases q
   exact⟨hz,its,hv,e⟩
  ·rw[upd_ne z]at q
   exact(I.hok b u q).stay (fun _ _ _ q=>q) (fun c q=>by rw[upd_ne (nD c _ q)];exact q) fun c xs q=>by rw[upd_ne (nD c _ q)];exact q
end
theorem boot_zip':bootBuiltins "zip"=some (.type "zip"):=by decide+kernel
end L2
namespace PySem
open PyProof.Rows
section
variable {prog:Program}{w:World}{A:Around}{E:Value→Shared→Prop}{s:Shared}
abbrev el1 (h:Heap)(t:Addr):Heap:=h.push {cls:=.type "list_iterator",data:=.fields #[.ref t, .int 0 0]}
abbrev el2 (h:Heap)(t:Addr):Heap:=(el1 h t).push {cls:=.type "enumerate",data:=.fields #[.none, .bool false, .ref h.objs.size,rawInt 0, .none, .none]}
theorem call_enumL {t:Addr}{xs:Array Value}{n:Nat}{Q:Value→Shared→Prop}(h1:s.heap.get? t=some {cls:=.type "list",dict:=none,data:=.seq xs n,slots:=#[]})
  (h:∀h' e it,s.heap.objs.size≤e→s.heap.objs.size≤it→e≠it→IsEnum h' e it 0 .none→h'.IsListIter it t 0→(∀c o,s.heap.get? c=some o→h'.get? c=some o)→Q (.ref e) {s with heap:=h'}):
  wpAny (model prog w) A (call (.type "enumerate") [.ref t]) Q E s:=by
 refine callType_new F.called_enumerate (by decide) (F.typeCall_enumerate_1 _) (F.newCall_enumerate_1 _) (fun obj=>F.args_object_init_2 obj _) F.entry_enumerate_new (meets_enumerate_new t xs n) ⟨h1,?_⟩
 have z1:(el1 s.heap t).objs.size=s.heap.objs.size+1:=Heap.size_push ..
 have p2:(el2 s.heap t).get? (el1 s.heap t).objs.size=some _:=Heap.get?_push_size _ rfl
 have p1:(el2 s.heap t).get? s.heap.objs.size=some _:=Heap.get?_push_of_some _ (Heap.get?_push_size _ rfl)
 refine⟨⟨_,p2,rfl⟩,h _ _ _ ?_ (Nat.le_refl _) ?_ p2 ⟨_,p1,rfl,rfl⟩ fun c o e=>Heap.get?_push_of_some _ (Heap.get?_push_of_some _ e)⟩
 ·rw[z1];exact Nat.le_add_right _ _
 ·rw[z1];generalize s.heap.objs.size=n;intro q;simp at q
end
end PySem
namespace L2
open PySem PySem.Spec PyProof.Rows
def Iel (a:Addr):It :=
 ⟨fun i H=>∃xs x,H a=some (.lst xs)∧xs[i]?=some x,
  fun i H v H'=>∃(T:Addr) (xs:List V) (x:V),H a=some (.lst xs)∧xs[i]?=some x∧H T=none∧v=.ref T∧H'=upd H T (.tup [.int (i:Int),x]),
  fun i H=>∃xs,H a=some (.lst xs)∧xs.length=i⟩
theorem turn_enumL {P:Program}{w:World}{K:PySem.W.Frag}{elts:List Expr}{x1}{pos:Pos}(a e it:Addr):Turn P w K (.Tuple elts x1 pos) (Iel a) [e,it] e (fun i h=>(∃old,IsEnum h e it (i:Int) old)∧h.IsListIter it a i∧e≠it) where
 mem:=by simp
 obj:=fun i h st c hc=>by
  simp only[List.mem_cons,List.not_mem_nil,or_false]at hc
  obtain⟨⟨old,he⟩,⟨o1,j1,c1,d1⟩,ne⟩:=st
  rcases hc with rfl|rfl
  ·exact⟨_,he,fun v q=>by cases q⟩
  ·exact⟨o1,j1,fun v q=>by rw[d1]at q;cases q⟩
 keep:=fun i h h' st k=>by
  obtain⟨⟨old,he⟩,⟨o1,j1,r1⟩,ne⟩:=st
  exact⟨⟨old,k _ (by simp) _ he⟩,⟨o1,k _ (by simp) _ j1,r1⟩,ne⟩
 item:=by
  intro X hP hw hK hc i pins s σ H E I hf st hg
  subst hP hw hK
  obtain⟨xs,x,ha,hx⟩:=hg
  obtain⟨its1,rv1,p1,z1⟩:=I.list (SqL.of (K:=X.K) ha)
  obtain⟨u1,hu1,ru1⟩:=rv1.get hx
  obtain⟨⟨old,he⟩,j1,ne⟩:=st
  have nai:a≠it:=fun q=>by rw[q,(hf it (by simp)).1]at ha;cases ha
  have nae:a≠e:=fun q=>by rw[q,(hf e (by simp)).1]at ha;cases ha
  have hlt:i<its1.toArray.size:=by
   have:=(List.getElem?_eq_some_iff.mp hu1).1
   simpa using this
  refine wpAny_pyNext_enum_itemD (Draws.list (A:=X.A.in1) (show X.A.in1.handled=none from I.ok.hd hc) it a nai its1.toArray) he ⟨j1,p1.isList⟩ hlt ne (by simp[ne,Ne.symm nae]) fun x' h' tk hP ho hs' hT hsz hk=>⟨_,rfl,?_⟩
  have ex:x'=u1:=by
   have h1:its1[i]?=some x':=by simpa using hP
   rw[hu1]at h1
   exact(Option.some.inj h1).symm
  subst ex
  refine wpAny_letOwnedTupleGo_enum (s:={s with heap:=h',toks:=tk+1}) ho fun h2 he2 r7=>?_
  have I1:Inv X pins σ H {s with heap:=h2,toks:=tk+1}:=I.turnedL (t':=tk+1) (ch:=[e,it]) (fun c o hc q=>r7.extBut c o (fun q=>hc (by simp[q])) (hk c o (fun q=>hc (by simp[q])) (fun q=>hc (by simp[q])) q)) hf
  have fr:H s.heap.objs.size=none:=I.hok.fresh (Nat.le_refl _)
  have le:e<s.heap.objs.size:=Heap.lt_size he
  have li:it<s.heap.objs.size:=by obtain⟨o,ho',_⟩:=j1;exact Heap.lt_size ho'
  have I2:=I1.trackT (D:=s.heap.objs.size) (vs:=[.int (i:Int),x]) (its:=[.int (i:Int) tk,x']) (I.fpOk (Nat.le_refl _) fr) (by show 2≤sizeLine;rw[sizeLine_eq];decide) (.cons ⟨_,rfl⟩ (.cons ru1 .nil)) ⟨_,r7.extBut _ _ (Nat.ne_of_gt le) hT,rfl,_,rfl⟩
  refine⟨.ref s.heap.objs.size,_,I2,rfl,⟨_,xs,x,ha,hx,fr,rfl,rfl⟩,⟨⟨_,by simpa using he2⟩,hs'.1.extBut r7.extBut (Ne.symm ne),ne⟩,fun c hc=>?_⟩
  rw[upd_ne (by
   simp only[List.mem_cons,List.not_mem_nil,or_false]at hc
   rcases hc with rfl|rfl
   ·exact Nat.ne_of_lt le
   ·exact Nat.ne_of_lt li)]
  exact(hf c hc).1
 done:=by
  intro X hP hw hK hc i pins s σ H E I hf st hg
  subst hP hw hK
  obtain⟨xs,ha,hx⟩:=hg
  obtain⟨its1,rv1,p1,z1⟩:=I.list (SqL.of (K:=X.K) ha)
  have hl:=rv1.length
  obtain⟨⟨old,he⟩,j1,ne⟩:=st
  have nai:a≠it:=fun q=>by rw[q,(hf it (by simp)).1]at ha;cases ha
  have ei:its1.toArray.size=i:=by simp;omega
  refine wpAny_pyNext_enum_endD (Draws.list (A:=X.A.in1) (show X.A.in1.handled=none from I.ok.hd hc) it a nai its1.toArray) he ⟨by rw[ei];exact j1,p1.isList⟩ fun h' kp=>⟨rfl,I.turnedL (t':=s.toks) (ch:=[e,it]) (fun c o hc q=>kp c o (fun q=>hc (by simp[q])) q) hf⟩
 self:=fun _ _ _ _ _ st h=>by
  obtain⟨⟨old,he⟩,j1,ne⟩:=st
  exact wpAny_pyIter_enum he h
theorem boot_enumL:bootBuiltins "enumerate"=some (.type "enumerate"):=by decide+kernel
def iEnumL (ta:TE):TI:=fun σ H R=>ta σ H fun v H1=>∃a xs,v=.ref a∧H1 a=some (.lst xs)∧R (Iel a) H1
theorem pi_enumL {X:Cx}{e1:Expr}{ta:TE}{p pos pt:Pos}{elts:List Expr}{x1}(hg:Gl X "enumerate")(hm:X.mg "enumerate"=none)(ha:PE X e1 ta)
  (hs:starEach [e1] X.env=[(false,eval e1 X.env)]:=by rfl):PI X (.Tuple elts x1 pt) (.Call (.Name "enumerate" p) [e1] [] pos) (iEnumL ta):=by
 intro pins s σ H R I h
 refine wpAny_Call_Name_kw (ld_blt I hg hm boot_enumL ?_ (by decide) (by decide))
 refine PyProof.Rows.callWith_type1 ?_ hs rfl
 rw[hs]
 refine Calls.spliced_cons (thn (ha pins s σ H _ I h) fun v s1 ⟨x,H1,I1,r1,q1⟩=>Calls.spliced_nil ?_)
 obtain⟨a,xs,rfl,h1,q⟩:=q1
 cases r1
 obtain⟨z,its,n,r,hl,e0⟩:=I1.lstM h1
 refine call_enumL e0 fun h' e it l1 l2 ne he j kp=>?_
 refine wpAny_pyIter_enum (s:={s1 with heap:=h'}) he ?_
 refine⟨e,[e,it],_,_,H1,rfl,I1.kept (t':=s1.toks) kp,turn_enumL a e it,⟨⟨_,he⟩,j,ne⟩,fun c hc=>?_,q⟩
 simp only[List.mem_cons,List.not_mem_nil,or_false]at hc
 rcases hc with rfl|rfl
 ·exact I1.fpOk l1 (I1.hok.fresh l1)
 ·exact I1.fpOk l2 (I1.hok.fresh l2)
end L2
namespace PySem
open PyProof.Rows
section
variable {prog:Program}{w:World}{A:Around}{E:Value→Shared→Prop}{s:Shared}
theorem nextOfL_item {it t:Addr}{i:Nat}{xs:Array Value}{x:Value}{Q:Value→Shared→Prop}(hit:s.heap.IsListIter it t i)(ht:s.heap.IsList t xs)(hx:xs[i]?=some x)
  (hQ:∀h',h'.IsListIter it t (i+1)→Heap.SameBut it s.heap h'→Q x {s with heap:=h'}):wpAny (model prog w) A (Builtin.SmallTypes.nextOf (.ref it)) Q E s:=by
 obtain⟨o,ho,hc,hd⟩:=id hit
 obtain⟨u,hu,_,n,hn⟩:=ht
 unfold Builtin.SmallTypes.nextOf
 refine wpAny_bind (wpAny_callSpecial?_slot (name:=Str.ofString "__next__") hit.typeIs slot_listiter_next (wpAny_call_entry slot_listiter_next hit.typeIs entry_listiter_next ?_ (args_listiter_next _)))
 show wpAny _ _ (field (.ref it) 0>>=_) _ _ s
 refine wpAny_bind (wpAny_field ho hd (x:=.ref t) rfl ?_)
 rw[if_neg (show ¬((Value.ref t==Value.none)=true) from Bool.false_ne_true)]
 show wpAny _ _ (field (.ref it) 1>>=_) _ _ s
 refine wpAny_bind (wpAny_field ho hd (x:=.int i 0) rfl ?_)
 show wpAny _ _ (seqItems? (.ref t)>>=_) _ _ s
 refine wpAny_bind (wpAny_seqItems hu hn ?_)
 simp only[Int.toNat_natCast,hx]
 refine wpAny_bind (wpAny_setField ho hd (by simp) (wpAny_pure ⟨x,rfl,wpAny_pure (hQ _ ⟨_,Heap.get?_update_self _ ho (Obj.isFreed_of_fields (Obj.data_mapFields hd _)),(Obj.cls_mapFields ..).trans hc,by rw[Obj.data_mapFields hd];simp[rawInt]⟩ (Heap.SameBut.update ..))⟩))
theorem nextOfL_end {it t:Addr}{i:Nat}{xs:Array Value}{Q:Value→Shared→Prop}(hh:A.handled=none)(hit:s.heap.IsListIter it t i)(ht:s.heap.IsList t xs)(hx:xs[i]?=none)
  (hE:∀h' e,Heap.ExtBut it s.heap h'→(∃o,h'.get? e=some o∧o.cls=.type "StopIteration")→E (.ref e) {s with heap:=h'}):wpAny (model prog w) A (Builtin.SmallTypes.nextOf (.ref it)) Q E s:=by
 obtain⟨o,ho,hc,hd⟩:=id hit
 obtain⟨u,hu,_,n,hn⟩:=ht
 unfold Builtin.SmallTypes.nextOf
 refine wpAny_bind (wpAny_callSpecial?_slot (name:=Str.ofString "__next__") hit.typeIs slot_listiter_next (wpAny_call_entry slot_listiter_next hit.typeIs entry_listiter_next ?_ (args_listiter_next _)))
 show wpAny _ _ (field (.ref it) 0>>=_) _ _ s
 refine wpAny_bind (wpAny_field ho hd (x:=.ref t) rfl ?_)
 rw[if_neg (show ¬((Value.ref t==Value.none)=true) from Bool.false_ne_true)]
 show wpAny _ _ (field (.ref it) 1>>=_) _ _ s
 refine wpAny_bind (wpAny_field ho hd (x:=.int i 0) rfl ?_)
 show wpAny _ _ (seqItems? (.ref t)>>=_) _ _ s
 refine wpAny_bind (wpAny_seqItems hu hn ?_)
 simp only[Int.toNat_natCast,hx]
 refine wpAny_bind (wpAny_rule (wpAny_bind (wpAny_setField ho hd (by simp) ?_)))
 show wpAny _ _ (newExc (.type "StopIteration") []>>=_) _ _ _
 refine wpAny_bind ?_
 simp only[newExc,newTuple]
 refine wpAny_bind (wpAny_newObj_type ?_ (by size_fits))
 refine wpAny_bind (m:=firstArgMember _ _) (wpAny_of_eq (a:=Value.none) (by first|rfl|(simp only[firstArgMember];rfl)) ?_)
 refine wpAny_newObj_type ?_ (by size_fits)
 simp only[raiseNew]
 refine wpAny_bind (wpAny_handled ?_)
 first|rw[show A.in1.handled=none from hh]|rw[hh]
 exact wpAny_bind (wpAny_pure (wpAny_throw (hE _ _ (((Heap.SameBut.update ..).extBut.push _).push _) ⟨_,Heap.get?_push_size _ rfl,rfl⟩)))
structure ZipM (h:Heap)(z TI TO i1 i2 t1 t2:Addr)(k:Nat):Prop where
 nd:[z,TI,TO,i1,i2].Nodup
 zz:IsZip h z TI TO .none
 ti:IsPair h TI (.ref i1) (.ref i2)
 tO:∃a b,IsPair h TO a b
 j1:h.IsListIter i1 t1 k
 j2:h.IsTupleIter i2 t2 k
theorem zipM_item {z TI TO i1 i2 t1 t2:Addr}{k:Nat}{xs ys:Array Value}{x y:Value}{Q:Option Value→Shared→Prop}(Z:ZipM s.heap z TI TO i1 i2 t1 t2 k)(n1:t1∉[z,TO,i1,i2])(n2:t2∉[z,TO,i1,i2])
  (h1:s.heap.IsList t1 xs) (h2:s.heap.IsTuple t2 ys) (hx:xs[k]?=some x) (hy:ys[k]?=some y)
  (hQ:∀h',IsZip h' z TI TO (rawInt s.heap.objs.size)→IsPair h' TI (.ref i1) (.ref i2)→IsPair h' TO x y→h'.IsListIter i1 t1 (k+1)→h'.IsTupleIter i2 t2 (k+1)→IsPair h' s.heap.objs.size x y→h'.objs.size=s.heap.objs.size+1→
   (∀c o,c∉[z,TO,i1,i2]→s.heap.get? c=some o→h'.get? c=some o)→Q (some (.ref s.heap.objs.size)) {s with heap:=h'}):wpAny (model prog w) A (pyNext (.ref z)) Q E s:=by
 obtain⟨nd,zz,ti,⟨a,b,tO⟩,j1,j2⟩:=Z
 simp only[List.nodup_cons,List.mem_cons,List.not_mem_nil,or_false,not_or,List.nodup_nil,and_true,not_false_eq_true]at nd n1 n2
 obtain⟨⟨zTI,zTO,z1,z2⟩,⟨TITO,TI1,TI2⟩,⟨TO1,TO2⟩,i12⟩:=nd
 obtain⟨a1,a2,a3,a4⟩:=n1
 obtain⟨b1,b2,b3,b4⟩:=n2
 have hT:s.TypeIs (.ref z) "zip":=⟨_,zz,rfl⟩
 unfold pyNext
 refine wpAny_bind (wpAny_attempt (wpAny_callSpecial?_slot (name:=Str.ofString "__next__") hT F.slot_zip_next (wpAny_call_entry F.slot_zip_next hT F.entry_zip_next ?_ (F.args_zip_next_1 _))))
 show wpAny _ _ (field (.ref z) 2>>=_) _ _ _
 refine wpAny_bind (wpAny_field zz rfl (x:=.bool false) rfl ?_)
 show wpAny _ _ (field (.ref z) 3>>=_) _ _ _
 refine wpAny_bind (wpAny_field zz rfl (x:=.ref TI) rfl (wpAny_bind (wpAny_seqItems ti rfl ?_)))
 show wpAny _ _ (Builtin.SmallTypes.ownedTupleIsFree (.ref z)>>=_) _ _ _
 refine wpAny_bind ?_
 unfold Builtin.SmallTypes.ownedTupleIsFree
 refine wpAny_bind (wpAny_field zz rfl (x:=.none) rfl (wpAny_pure ?_))
 simp only[if_true]
 refine wpAny_bind (wpAny_rule (wpAny_bind (wpAny_field zz rfl (x:=.ref TO) rfl (wpAny_bind (wpAny_setField_rec zz (by simp) fun g1 q1 r1=>?_)))))
 replace q1:IsZip g1 z TI TO .ellipsis:=q1
 refine wpAny_bind ?_
 simp only[List.zipIdx_cons,List.zipIdx_nil,List.forIn_cons,List.forIn_nil]
 refine wpAny_bind (wpAny_bind (wpAny_onRaise ?_))
 show wpAny _ _ (Builtin.SmallTypes.nextOf (.ref i1)>>=_) _ _ _
 refine wpAny_bind (nextOfL_item (j1.extBut r1.extBut (Ne.symm z1)) (h1.extBut r1.extBut a1) hx fun g2 q2 r2=>wpAny_pure ?_)
 have tO2:IsPair g2 TO a b:=r2.extBut _ _ TO1 (r1.extBut _ _ (Ne.symm zTO) tO)
 refine wpAny_bind (wpAny_seqItems tO2 rfl (wpAny_bind (wpAny_updateSeq_pair tO2 fun g3 q3 r3=>?_)))
 replace q3:IsPair g3 TO x b:=q3
 refine wpAny_bind (wpAny_letGo (wpAny_pure ?_))
 refine wpAny_bind (wpAny_bind (wpAny_onRaise ?_))
 show wpAny _ _ (Builtin.SmallTypes.nextOf (.ref i2)>>=_) _ _ _
 refine wpAny_bind (nextOfT_item (((j2.extBut r1.extBut (Ne.symm z2)).extBut r2.extBut (Ne.symm i12)).extBut r3.extBut (Ne.symm TO2)) (((h2.extBut r1.extBut b1).extBut r2.extBut b3).extBut r3.extBut b2) hy fun g4 q4 r4=>wpAny_pure ?_)
 have tO4:IsPair g4 TO x b:=r4.extBut _ _ TO2 q3
 refine wpAny_bind (wpAny_seqItems tO4 rfl (wpAny_bind (wpAny_updateSeq_pair tO4 fun g5 q5 r5=>?_)))
 replace q5:IsPair g5 TO x y:=q5
 refine wpAny_bind (wpAny_letGo (wpAny_pure (wpAny_pure ?_)))
 refine wpAny_bind (wpAny_seqItems q5 rfl (wpAny_bind (wpAny_newTuple ?_)))
 have sz:g5.objs.size=s.heap.objs.size:=by rw[r5.1,r4.1,r3.1,r2.1,r1.1]
 have kp5:∀c o,c≠z→c≠TO→c≠i1→c≠i2→s.heap.get? c=some o→g5.get? c=some o:=fun c o c1 c2 c3 c4 e=>r5.extBut _ _ c2 (r4.extBut _ _ c4 (r3.extBut _ _ c2 (r2.extBut _ _ c3 (r1.extBut _ _ c1 e))))
 have zz5:IsZip g5 z TI TO .ellipsis:=r5.extBut _ _ zTO (r4.extBut _ _ z2 (r3.extBut _ _ zTO (r2.extBut _ _ z1 q1)))
 have k15:g5.IsListIter i1 t1 (k+1):=((q2.extBut r3.extBut (Ne.symm TO1)).extBut r4.extBut i12).extBut r5.extBut (Ne.symm TO1)
 have k25:g5.IsTupleIter i2 t2 (k+1):=q4.extBut r5.extBut (Ne.symm TO2)
 have ti5:IsPair g5 TI (.ref i1) (.ref i2):=kp5 _ _ (Ne.symm zTI) TITO TI1 TI2 ti
 show wpAny _ _ (Builtin.SmallTypes.ownedTupleHandOut (.ref z) (.ref g5.objs.size)>>=_) _ _ _
 refine wpAny_bind ?_
 unfold Builtin.SmallTypes.ownedTupleHandOut
 refine wpAny_bind (wpAny_setField_rec (Heap.get?_push_of_some _ zz5) (by simp) fun g7 q7 r7=>?_)
 replace q7:IsZip g7 z TI TO (rawInt g5.objs.size):=q7
 refine wpAny_setField_rec q7 (by simp) fun g8 q8 r8=>?_
 replace q8:IsZip g8 z TI TO (rawInt g5.objs.size):=q8
 have up:∀c o,c≠z→g5.get? c=some o→g8.get? c=some o:=fun c o c1 e=>r8.extBut _ _ c1 (r7.extBut _ _ c1 (Heap.get?_push_of_some _ e))
 have new:IsPair g8 g5.objs.size x y:=r8.extBut _ _ (Nat.ne_of_gt (Heap.lt_size zz5)) (r7.extBut _ _ (Nat.ne_of_gt (Heap.lt_size zz5)) (Heap.get?_push_size _ rfl))
 have sz8:g8.objs.size=s.heap.objs.size+1:=by rw[r8.1,r7.1,Heap.size_push,sz]
 rw[sz]at q8 new
 refine wpAny_pure ⟨_,rfl,?_⟩
 refine wpAny_pure ?_
 show Q (some (.ref g5.objs.size)) _
 rw[sz]
 exact hQ g8 q8 (up _ _ (Ne.symm zTI) ti5) (up _ _ (Ne.symm zTO) q5) (let ⟨o,e,r⟩:=k15;⟨o,up _ o (Ne.symm z1) e,r⟩) (let ⟨o,e,r⟩:=k25;⟨o,up _ o (Ne.symm z2) e,r⟩) new sz8 fun c o hc e=>by
  simp only[List.mem_cons,List.not_mem_nil,or_false,not_or]at hc
  exact up c o hc.1 (kp5 c o hc.1 hc.2.1 hc.2.2.1 hc.2.2.2 e)
theorem zipM_end {z TI TO i1 i2 t1 t2:Addr}{k:Nat}{xs:Array Value}{Q:Option Value→Shared→Prop}(hh:A.handled=none)(Z:ZipM s.heap z TI TO i1 i2 t1 t2 k)(n1:t1∉[z,TO,i1,i2])
  (h1:s.heap.IsList t1 xs) (hx:xs[k]?=none) (hQ:∀h',(∀c o,c∉[z,TO,i1,i2]→s.heap.get? c=some o→h'.get? c=some o)→Q none {s with heap:=h'}):wpAny (model prog w) A (pyNext (.ref z)) Q E s:=by
 obtain⟨nd,zz,ti,⟨a,b,tO⟩,j1,j2⟩:=Z
 simp only[List.nodup_cons,List.mem_cons,List.not_mem_nil,or_false,not_or,List.nodup_nil,and_true,not_false_eq_true]at nd n1
 obtain⟨⟨zTI,zTO,z1,z2⟩,⟨TITO,TI1,TI2⟩,⟨TO1,TO2⟩,i12⟩:=nd
 obtain⟨a1,a2,a3,a4⟩:=n1
 have hT:s.TypeIs (.ref z) "zip":=⟨_,zz,rfl⟩
 unfold pyNext
 refine wpAny_bind (wpAny_attempt (wpAny_callSpecial?_slot (name:=Str.ofString "__next__") hT F.slot_zip_next (wpAny_call_entry F.slot_zip_next hT F.entry_zip_next ?_ (F.args_zip_next_1 _))))
 show wpAny _ _ (field (.ref z) 2>>=_) _ _ _
 refine wpAny_bind (wpAny_field zz rfl (x:=.bool false) rfl ?_)
 show wpAny _ _ (field (.ref z) 3>>=_) _ _ _
 refine wpAny_bind (wpAny_field zz rfl (x:=.ref TI) rfl (wpAny_bind (wpAny_seqItems ti rfl ?_)))
 show wpAny _ _ (Builtin.SmallTypes.ownedTupleIsFree (.ref z)>>=_) _ _ _
 refine wpAny_bind ?_
 unfold Builtin.SmallTypes.ownedTupleIsFree
 refine wpAny_bind (wpAny_field zz rfl (x:=.none) rfl (wpAny_pure ?_))
 simp only[if_true]
 refine wpAny_bind (wpAny_rule (wpAny_bind (wpAny_field zz rfl (x:=.ref TO) rfl (wpAny_bind (wpAny_setField_rec zz (by simp) fun g1 q1 r1=>?_)))))
 replace q1:IsZip g1 z TI TO .ellipsis:=q1
 refine wpAny_bind ?_
 simp only[List.zipIdx_cons,List.zipIdx_nil,List.forIn_cons,List.forIn_nil]
 refine wpAny_bind (wpAny_bind (wpAny_onRaise ?_))
 show wpAny _ _ (Builtin.SmallTypes.nextOf (.ref i1)>>=_) _ _ _
 refine wpAny_bind (nextOfL_end hh (j1.extBut r1.extBut (Ne.symm z1)) (h1.extBut r1.extBut a1) hx fun g2 e r2 he=>?_)
 obtain⟨oe,ho,hc⟩:=he
 have zz2:IsZip g2 z TI TO .ellipsis:=r2 _ _ z1 q1
 have ez:e≠z:=fun q=>by subst q;rw[zz2]at ho;cases ho;simp at hc
 refine wpAny_setField_rec (s:={s with heap:=g2}) zz2 (by simp) fun g3 q3 r3=>?_
 refine wpAny_bind (wpAny_isInstance (T:="StopIteration") (b:=true) ⟨oe,r3.extBut _ _ ez ho,hc⟩ isSubtype_stop ?_)
 exact wpAny_pure (hQ _ fun c o hcc e=>by
  simp only[List.mem_cons,List.not_mem_nil,or_false,not_or]at hcc
  exact r3.extBut _ _ hcc.1 (r2 _ _ hcc.2.2.1 (r1.extBut _ _ hcc.1 e)))
abbrev zm1 (h:Heap)(t1:Addr):Heap:=h.push {cls:=.type "list_iterator",data:=.fields #[.ref t1, .int 0 0]}
abbrev zm2 (h:Heap)(t1 t2:Addr):Heap:=(zm1 h t1).push {cls:=.type "tuple_iterator",data:=.fields #[.ref t2, .int 0 0]}
abbrev zm3 (h:Heap)(t1 t2:Addr):Heap:=(zm2 h t1 t2).push {cls:=.type "tuple",data:=.seq #[.ref h.objs.size, .ref (zm1 h t1).objs.size]}
abbrev zm4 (h:Heap)(t1 t2:Addr):Heap:=(zm3 h t1 t2).push {cls:=.type "tuple",data:=.seq #[.none, .none]}
abbrev zm5 (h:Heap)(t1 t2:Addr):Heap:=(zm4 h t1 t2).push {cls:=.type "zip",data:=.fields #[.none, .bool false, .bool false, .ref (zm2 h t1 t2).objs.size, .ref (zm3 h t1 t2).objs.size]}
theorem meets_zipM (t1 t2:Addr)(xs ys:Array Value):
  Meets (Builtin.«zip.__new__» ⟨[.type "zip", .ref t1, .ref t2],[]⟩) (fun _ R s=>s.heap.IsList t1 xs∧s.heap.IsTuple t2 ys∧R (.ok (.ret (.ref (zm4 s.heap t1 t2).objs.size))) {s with heap:=zm5 s.heap t1 t2}) :=
 .of_wp fun prog w A R s h=>by
  obtain⟨hp,g,d,tk,os⟩:=s
  obtain⟨h1,h2,h⟩:=h
  have hsub:=sub_zip
  have q1:Heap.IsList (Shared.heap ⟨hp,g,d,tk,os⟩) t1 xs:=h1
  have q2:Heap.IsTuple (Shared.heap ⟨hp.push {cls:=.type "list_iterator",data:=.fields #[.ref t1, .int 0 0]},g,d,tk,os⟩) t2 ys:=Heap.IsTuple.push h2 _
  wp_walk using wpAny_pyIter_list q1,wpAny_pyIter_tuple q2
  exact⟨_,rfl,h⟩
theorem call_zipM {t1 t2:Addr}{xs ys:Array Value}{Q:Value→Shared→Prop}(h1:s.heap.IsList t1 xs)(h2:s.heap.IsTuple t2 ys)
  (h:∀h' z TI TO i1 i2,s.heap.objs.size≤z→s.heap.objs.size≤TI→s.heap.objs.size≤TO→s.heap.objs.size≤i1→s.heap.objs.size≤i2→ZipM h' z TI TO i1 i2 t1 t2 0→(∀c o,s.heap.get? c=some o→h'.get? c=some o)→Q (.ref z) {s with heap:=h'}):
  wpAny (model prog w) A (call (.type "zip") [.ref t1, .ref t2]) Q E s:=by
 refine callType_new F.called_zip (by decide) (F.typeCall_zip_2 _ _) (F.newCall_zip_2 _ _) (fun obj=>F.args_object_init_3 obj _ _) F.entry_zip_new (meets_zipM t1 t2 xs ys) ⟨h1,h2,?_⟩
 have z1:(zm1 s.heap t1).objs.size=s.heap.objs.size+1:=Heap.size_push ..
 have z2:(zm2 s.heap t1 t2).objs.size=s.heap.objs.size+2:=by rw[Heap.size_push,z1]
 have z3:(zm3 s.heap t1 t2).objs.size=s.heap.objs.size+3:=by rw[Heap.size_push,z2]
 have z4:(zm4 s.heap t1 t2).objs.size=s.heap.objs.size+4:=by rw[Heap.size_push,z3]
 have p5:(zm5 s.heap t1 t2).get? (zm4 s.heap t1 t2).objs.size=some _:=Heap.get?_push_size _ rfl
 have p4:(zm5 s.heap t1 t2).get? (zm3 s.heap t1 t2).objs.size=some _:=Heap.get?_push_of_some _ (Heap.get?_push_size _ rfl)
 have p3:(zm5 s.heap t1 t2).get? (zm2 s.heap t1 t2).objs.size=some _:=Heap.get?_push_of_some _ (Heap.get?_push_of_some _ (Heap.get?_push_size _ rfl))
 have p2:(zm5 s.heap t1 t2).get? (zm1 s.heap t1).objs.size=some _:=Heap.get?_push_of_some _ (Heap.get?_push_of_some _ (Heap.get?_push_of_some _ (Heap.get?_push_size _ rfl)))
 have p1:(zm5 s.heap t1 t2).get? s.heap.objs.size=some _:=Heap.get?_push_of_some _ (Heap.get?_push_of_some _ (Heap.get?_push_of_some _ (Heap.get?_push_of_some _ (Heap.get?_push_size _ rfl))))
 refine⟨⟨_,p5,rfl⟩,h _ _ _ _ _ _ ?_ ?_ ?_ (Nat.le_refl _) ?_ ⟨?_,p5,p3,⟨_,_,p4⟩,⟨_,p1,rfl,rfl⟩,⟨_,p2,rfl,rfl⟩⟩ fun c o e=>Heap.get?_push_of_some _ (Heap.get?_push_of_some _ (Heap.get?_push_of_some _ (Heap.get?_push_of_some _ (Heap.get?_push_of_some _ e))))⟩
 ·rw[z4];exact Nat.le_add_right _ _
 ·rw[z2];exact Nat.le_add_right _ _
 ·rw[z3];exact Nat.le_add_right _ _
 ·rw[z1];exact Nat.le_add_right _ _
 ·rw[z1,z2,z3,z4]
  generalize s.heap.objs.size=n
  simp only[List.nodup_cons,List.mem_cons,List.not_mem_nil,or_false,not_or,List.nodup_nil,and_true,not_false_eq_true]
  refine⟨⟨?_,?_,?_,?_⟩,⟨?_,?_,?_⟩,⟨?_,?_⟩,?_⟩<;>(intro q;simp at q)
end
end PySem
namespace L2
open PySem PySem.Spec PyProof.Rows
def Izm (a b:Addr):It :=
 ⟨fun i H=>∃xs ys x y,H a=some (.lst xs)∧H b=some (.tup ys)∧xs[i]?=some x∧ys[i]?=some y,
  fun i H v H'=>∃(T:Addr) (xs ys:List V) (x y:V),H a=some (.lst xs)∧H b=some (.tup ys)∧xs[i]?=some x∧ys[i]?=some y∧H T=none∧v=.ref T∧H'=upd H T (.tup [x,y]),
  fun i H=>∃xs,H a=some (.lst xs)∧xs.length≤i⟩
theorem turn_zipM {P:Program}{w:World}{K:PySem.W.Frag}{elts:List Expr}{x1}{pos:Pos}(a b z TI TO i1 i2:Addr):Turn P w K (.Tuple elts x1 pos) (Izm a b) [z,TI,TO,i1,i2] z (fun i h=>ZipM h z TI TO i1 i2 a b i) where
 mem:=by simp
 obj:=fun i h st c hc=>by
  simp only[List.mem_cons,List.not_mem_nil,or_false]at hc
  obtain⟨nd,zz,ti,⟨u,v,tO⟩,⟨o1,j1,c1,d1⟩,⟨o2,j2,c2,d2⟩⟩:=st
  rcases hc with rfl|rfl|rfl|rfl|rfl
  ·exact⟨_,zz,fun v q=>by cases q⟩
  ·exact⟨_,ti,fun v q=>by cases q⟩
  ·exact⟨_,tO,fun v q=>by cases q⟩
  ·exact⟨o1,j1,fun v q=>by rw[d1]at q;cases q⟩
  ·exact⟨o2,j2,fun v q=>by rw[d2]at q;cases q⟩
 keep:=fun i h h' st k=>by
  obtain⟨nd,zz,ti,⟨u,v,tO⟩,⟨o1,j1,r1⟩,⟨o2,j2,r2⟩⟩:=st
  exact⟨nd,k _ (by simp) _ zz,k _ (by simp) _ ti,⟨u,v,k _ (by simp) _ tO⟩,⟨o1,k _ (by simp) _ j1,r1⟩,⟨o2,k _ (by simp) _ j2,r2⟩⟩
 item:=by
  intro X hP hw hK hc i pins s σ H E I hf st hg
  subst hP hw hK
  obtain⟨xs,ys,x,y,ha,hb,hx,hy⟩:=hg
  obtain⟨its1,rv1,p1,z1⟩:=I.list (SqL.of (K:=X.K) ha)
  obtain⟨its2,rv2,p2,z2⟩:=I.tuple (SqT.of hb)
  obtain⟨u1,hu1,ru1⟩:=rv1.get hx
  obtain⟨u2,hu2,ru2⟩:=rv2.get hy
  have sub:∀c∈[z,TO,i1,i2],c∈[z,TI,TO,i1,i2]:=fun c hc=>by
   simp only[List.mem_cons,List.not_mem_nil,or_false]at hc ⊢
   rcases hc with h|h|h|h
   ·exact .inl h
   ·exact .inr (.inr (.inl h))
   ·exact .inr (.inr (.inr (.inl h)))
   ·exact .inr (.inr (.inr (.inr h)))
  have no:∀c u,H c=some u→c∉[z,TO,i1,i2]:=fun c u e q=>by rw[(hf c (sub c q)).1]at e;cases e
  have lt:∀c∈[z,TI,TO,i1,i2],c<s.heap.objs.size:=fun c hc=>by
   simp only[List.mem_cons,List.not_mem_nil,or_false]at hc
   obtain⟨nd,zz,ti,⟨u,v,tO⟩,⟨o1,j1,c1,d1⟩,⟨o2,j2,c2,d2⟩⟩:=st
   rcases hc with rfl|rfl|rfl|rfl|rfl
   ·exact Heap.lt_size zz
   ·exact Heap.lt_size ti
   ·exact Heap.lt_size tO
   ·exact Heap.lt_size j1
   ·exact Heap.lt_size j2
  refine zipM_item st (no a _ ha) (no b _ hb) p1.isList (show s.heap.IsTuple b its2.toArray from p2) (x:=u1) (y:=u2) (by simpa using hu1) (by simpa using hu2) fun h' q1 q2 q3 q4 q5 q6 _ kp=>⟨_,rfl,?_⟩
  refine wpAny_letOwnedTupleGo_zip (s:={s with heap:=h'}) q1 fun h2 q7 r7=>?_
  have nd:=st.nd
  have I1:Inv X pins σ H {s with heap:=h2}:=I.turnedL (t':=s.toks) (ch:=[z,TO,i1,i2]) (fun c o hc e=>r7.extBut c o (fun q=>hc (by simp[q])) (kp c o hc e)) fun c hc=>hf c (sub c hc)
  have fr:H s.heap.objs.size=none:=I.hok.fresh (Nat.le_refl _)
  have ne:∀c∈[z,TI,TO,i1,i2],c≠s.heap.objs.size:=fun c hc q=>by have:=lt c hc;rw[q]at this;exact Nat.lt_irrefl _ this
  have I2:=I1.trackT (D:=s.heap.objs.size) (vs:=[x,y]) (its:=[u1,u2]) (I.fpOk (Nat.le_refl _) fr) (by show 2≤sizeLine;rw[sizeLine_eq];decide) (.cons ru1 (.cons ru2 .nil)) ⟨_,r7.extBut _ _ (Ne.symm (ne z (by simp))) q6,rfl,_,rfl⟩
  simp only[List.nodup_cons,List.mem_cons,List.not_mem_nil,or_false,not_or,List.nodup_nil,and_true,not_false_eq_true]at nd
  obtain⟨⟨zTI,zTO,z1',z2'⟩,_⟩:=nd
  refine⟨.ref s.heap.objs.size,_,I2,rfl,⟨_,xs,ys,x,y,ha,hb,hx,hy,fr,rfl,rfl⟩,⟨st.nd,q7,r7.extBut _ _ (Ne.symm zTI) q2,⟨_,_,r7.extBut _ _ (Ne.symm zTO) q3⟩,q4.extBut r7.extBut (Ne.symm z1'),q5.extBut r7.extBut (Ne.symm z2')⟩,fun c hc=>?_⟩
  rw[upd_ne (ne c hc)]
  exact(hf c hc).1
 done:=by
  intro X hP hw hK hc i pins s σ H E I hf st hg
  subst hP hw hK
  obtain⟨xs,ha,hx⟩:=hg
  obtain⟨its1,rv1,p1,z1⟩:=I.list (SqL.of (K:=X.K) ha)
  have hl:=rv1.length
  have sub:∀c∈[z,TO,i1,i2],c∈[z,TI,TO,i1,i2]:=fun c hc=>by
   simp only[List.mem_cons,List.not_mem_nil,or_false]at hc ⊢
   rcases hc with h|h|h|h
   ·exact .inl h
   ·exact .inr (.inr (.inl h))
   ·exact .inr (.inr (.inr (.inl h)))
   ·exact .inr (.inr (.inr (.inr h)))
  have no:∀c u,H c=some u→c∉[z,TO,i1,i2]:=fun c u e q=>by rw[(hf c (sub c q)).1]at e;cases e
  exact zipM_end (I.ok.hd hc) st (no a _ ha) p1.isList (by simp;omega) fun h' kp=>⟨rfl,I.turnedL (t':=s.toks) (ch:=[z,TO,i1,i2]) kp fun c hc=>hf c (sub c hc)⟩
 self:=fun _ _ _ _ _ st h=>wpAny_pyIter_zip st.zz h
def iZipM (ta:TA):TI:=fun σ H R=>ta σ H fun vs H1=>∃a b xs ys,vs=[.ref a, .ref b]∧H1 a=some (.lst xs)∧H1 b=some (.tup ys)∧R (Izm a b) H1
theorem pi_zipM {X:Cx}{e1 e2:Expr}{ta:TA}{p pos pt:Pos}{elts:List Expr}{x1}(hg:Gl X "zip")(hm:X.mg "zip"=none)(ha:PA X [e1,e2] ta)
  (hs:starEach [e1,e2] X.env=[(false,eval e1 X.env),(false,eval e2 X.env)]:=by rfl) (hs2:starEach [e2] X.env=[(false,eval e2 X.env)]:=by rfl):PI X (.Tuple elts x1 pt) (.Call (.Name "zip" p) [e1,e2] [] pos) (iZipM ta):=by
 intro pins s σ H R I h
 refine Call_ (ld_blt I hg hm boot_zip' (PyProof.Rows.callWith_type1 (thn (ha pos pins s σ H _ I h) fun us s1 ⟨vs,H1,I1,r1,q1⟩=>?_) (by rw[hs,hs2]) (by rw[hs2];rfl)))
 obtain⟨a,b,xs,ys,rfl,h1,h2,q⟩:=q1
 cases r1 with
 |cons r rr=>
  cases rr with
  |cons r' rr=>
   cases rr
   cases r
   cases r'
   obtain⟨its1,rv1,p1,z1⟩:=I1.list (SqL.of (K:=X.K) h1)
   obtain⟨its2,rv2,p2,z2⟩:=I1.tuple (SqT.of h2)
   refine call_zipM p1.isList (show s1.heap.IsTuple b its2.toArray from p2) fun h' z TI TO i1 i2 l1 l2 l3 l4 l5 Z kp=>?_
   refine wpAny_pyIter_zip (s:={s1 with heap:=h'}) Z.zz ?_
   refine⟨z,[z,TI,TO,i1,i2],_,_,H1,rfl,I1.kept (t':=s1.toks) kp,turn_zipM a b z TI TO i1 i2,Z,fun c hc=>?_,q⟩
   simp only[List.mem_cons,List.not_mem_nil,or_false]at hc
   rcases hc with rfl|rfl|rfl|rfl|rfl
   ·exact I1.fpOk l1 (I1.hok.fresh l1)
   ·exact I1.fpOk l2 (I1.hok.fresh l2)
   ·exact I1.fpOk l3 (I1.hok.fresh l3)
   ·exact I1.fpOk l4 (I1.hok.fresh l4)
   ·exact I1.fpOk l5 (I1.hok.fresh l5)
theorem for_zipM {a b:Addr}{xs ys:List V}{g:TG}{tb:TS}{D:Ends}{σ:St}{H:Hp}(Pv:Nat→St→Hp→Prop)(le:xs.length=ys.length)(h0:Pv 0 σ H)(hl:∀i σ H,i≤xs.length→Pv i σ H→H a=some (.lst xs)∧H b=some (.tup ys))
  (hs:∀i x y (T:Addr) σ H,xs[i]?=some x→ys[i]?=some y→H T=none→Pv i σ H→g (.ref T) σ (upd H T (.tup [x,y])) fun σ2 H2=>tb {D with nx:=Pv (i+1),ct:=Pv (i+1),bk:=D.nx} σ2 H2) (hd:∀σ H,Pv xs.length σ H→D.nx σ H):
  ∃W:Nat→Nat→St→Hp→Prop,(∃m,W 0 m σ H)∧∀i m σ H,W i m σ H→
   ((Izm a b).stop i H∧D.nx σ H)∨((Izm a b).go i H∧∃N:St→Hp→Prop,(∀σ' H',N σ' H'→∃m',m'<m∧W (i+1) m' σ' H')∧∀x H',(Izm a b).yld i H x H'→g x σ H' fun σ2 H2=>tb {D with nx:=N,ct:=N,bk:=D.nx} σ2 H2):=by
 refine⟨fun i m σ H=>m=xs.length-i∧i≤xs.length∧Pv i σ H,⟨xs.length,by simp,Nat.zero_le _,h0⟩,?_⟩
 rintro i m σ H ⟨rfl,hi,p⟩
 obtain⟨q,q'⟩:=hl i σ H hi p
 by_cases hlt:i<xs.length
 ·have hlt':i<ys.length:=by omega
  refine .inr ⟨⟨xs,ys,xs[i],ys[i],q,q',by simp[hlt],by simp[hlt']⟩,Pv (i+1),fun σ' H' p'=>⟨xs.length-(i+1),by omega,rfl,hlt,p'⟩,fun v H' y=>?_⟩
  obtain⟨T,xs',ys',x,y,e1,e2,hx,hy,hT,rfl,rfl⟩:=y
  rw[q]at e1
  rw[q']at e2
  cases e1
  cases e2
  exact hs i x y T σ _ hx hy hT p
 ·have e:i=xs.length:=by omega
  subst e
  exact .inl ⟨⟨xs,q,Nat.le_refl _⟩,hd σ H p⟩
end L2
namespace Fw
open PySem PySem.Spec PyProof.Rows L2
section
variable {P:Program}{w:World}{K:PySem.W.Frag}{mg:Str→Option Value}{base:Heap}{f:Addr}{fd:FuncData}{CM CF CC CL:Addr}
abbrev s_doring:Stmt:=top 39
theorem sc_doring:FnScope ["machine","row","made","function","told"] ["machine","row"] (defScope s_doring):=⟨rfl,rfl,rfl,by decide+kernel,rfl,by decide+kernel,by decide+kernel⟩
theorem lp2 (to:V)(k k':Addr):putF "kept" (V.ref k') (clf to k)=clf to k':=by first|rfl|(with_unfolding_all rfl)|kernel_rfl
theorem nodup_at:∀{cs:List Addr} {i j:Nat} {c:Addr},cs.Nodup→cs[j]?=some c→cs[i]?=some c→j=i
 |[],_,_,_,_,h,_=>by simp at h
 |x::xs,0,0,_,_,_,_=>rfl
 |x::xs,i+1,0,c,nd,h,g=>by
  simp at h;subst h
  exact absurd (List.mem_of_getElem? (by simpa using g)) (List.nodup_cons.mp nd).1
 |x::xs,0,j+1,c,nd,h,g=>by
  simp at g;subst g
  exact absurd (List.mem_of_getElem? (by simpa using h)) (List.nodup_cons.mp nd).1
 |x::xs,i+1,j+1,c,nd,h,g=>congrArg (·+1) (nodup_at (List.nodup_cons.mp nd).2 (by simpa using h) (by simpa using g))
theorem pick_all {vals:List V}:∀{js:List Nat},(∀p∈js,p<vals.length)→∃ws:List V,js.map (fun p=>vals[p]?)=ws.map some
 |[],_=>⟨[],rfl⟩
 |j::js,h=>by
  obtain⟨ws,e⟩:=pick_all (vals:=vals) (js:=js) fun p hp=>h p (List.mem_cons_of_mem _ hp)
  exact⟨vals[j]'(h j List.mem_cons_self)::ws,by rw[List.map_cons,List.map_cons,e,List.getElem?_eq_getElem (h j List.mem_cons_self)]⟩
theorem ok_doring {fL:Addr}{gL:FuncData}(F:Fun K "do_ring" "do_ring" s_doring f fd)(Tx:TxM K CM CF CC CL)(ML:Mk K CL fL)(GL:FnOk P w K mg base CX0 1 fL gL ["self","to","kept"] (spClosed CL))(bL:Binds K gL ["self","to","kept"] [])(hL:mg "Closed"=some (.ref CL))
  (h1:Has P w K mg base 1 "locals_at" ["machine","places"] (spLocals CM CF CC)) (mz:mg "zip"=none):FnOk P w K mg base (CXF P w) 3 f fd ["machine","row"] (spRing CM CF CC CL):=by
 refine F.okX sc_doring (fun vs H Q E h=>?_) (fun cdv A outer s H vs Q E hr h=>?_)
 ·obtain⟨a,s,r,fs,rfl,_⟩:=h
  rfl
 obtain⟨a,s,r,fs,rfl,M,⟨rt,ps,hr',hrt,lp,hps⟩,l5,lv,hfs,q⟩:=h
 refine⟨_,pss_cons (ps_lc (te:=tMake CL (spClosed CL) [] E0 (tCons (tOp (rIxT K) (tVar 0) (tC (.int 0))) (tCons (tLst tNil) tNil))) (defScope s_doring) ["machine","row","made","function","told"] [] [] (by decide+kernel) (pi_tup (pe_ix ix_tup (pv 1) pe_int (fun _ _=>rfl))) (pg_name (i:=2) sc_doring.nd rfl (Or.inl rfl)) (fun C s₀ H₀ ex=>pts_nil)
   (fun C s₀ H₀ ex=>pe_make ML GL hr rfl hL bL .nil pass0 (pa_cons (pe_ix ix_tup (pv 0) pe_int (fun _ _=>rfl)) (pa_cons (pe_lst pa_nil) pa_nil))) rfl)
  (pss_cons (ps_expr (pe_bm PySem.F.plainAttrs_list PySem.F.slot_list_extend PySem.F.type_list_extend mt_extend (pe_fld (pe_fld (pv 0) rfl) rfl) (pa_cons (pv 2) pa_nil)))
  (pss_one (ps_for PassesOwn.leaving rfl (pi_zipM rfl mz (pa_cons (pv 2) (pa_cons (pe_ix ix_tup (pv 1) pe_int (fun _ _=>rfl)) pa_nil))) (pg_tup rfl (pgs_cons (pg_name (i:=3) sc_doring.nd rfl (Or.inl rfl)) (pgs_cons (pg_name (i:=4) sc_doring.nd rfl (Or.inl rfl)) pgs_nil)))
   (pss_one (ps_fld (pv 3) (pcall h1 hr (by decide) rfl (pa_cons (pv 0) (pa_cons (pe_ix ix_tup (pv 4) pe_int (fun _ _=>rfl)) pa_nil))) rfl))))),?_⟩
 refine⟨_,rfl,r,_,1, .ref rt,rfl,rfl,SqT.of hr',atI_nat (j:=1) rfl,rt,rfl,⟨_,SqT.of hrt⟩,?_⟩
 have hz:=sizeLine_eq
 refine comp_tup (xs:=ps.map V.ref) (fun i vs H'=>∃cs:List Addr,cs.length=i∧vs=cs.map V.ref∧Same H H'∧cs.Nodup∧(∀c∈cs,H c=none)∧∀(j:Nat) (c:Addr) (f:Nat×List Nat),cs[j]?=some c→fs[j]?=some f→∃dxl k,H' c=some (.ins CL dxl (clf (.int (f.1:Int)) k))) ⟨[],rfl,rfl,fun _ _ h=>h,List.nodup_nil,fun c hc=>by simp at hc,fun j c f hc=>by simp at hc⟩ ?_ ?_ ?_
 ·rintro i vs H' hi ⟨cs,rfl,rfl,sm,_⟩
  rw[List.length_map]at hi
  exact⟨SqT.of (sm _ _ hrt),by rw[List.length_map];omega⟩
 ·rintro i x vs H' hi hx ⟨cs,rfl,rfl,sm,nd,fresh,g⟩
  rw[List.getElem?_map]at hx
  cases hp:ps[cs.length]? with
  |none=>rw[hp]at hx;cases hx
  |some p=>
   rw[hp]at hx
   cases hx
   have li:cs.length<fs.length:=by have:=(List.getElem?_eq_some_iff.mp hp).1;omega
   obtain⟨pt,hp1,hp2⟩:=hps _ p _ hp (List.getElem?_eq_getElem li)
   refine tt1 (iteT (ix_t (a:=p) (j:=0) rfl (sm _ _ hp1) rfl ?_))
   refine⟨by simp,fun k hk=>fun c dxl hc hdx ncd=>⟨c,dxl,k,_,rfl,upd_same,rfl,?_⟩⟩
   have s1:=same_new hk (.lst [])
   have hk1:(upd H' k (.lst [])) k=some (.lst []):=upd_same
   revert s1 hk1 hc hdx
   generalize upd H' k (.lst [])=H1
   intro hc hdx s1 hk1
   obtain⟨a5,k5⟩:=made1 (C:=CL) (fs:=clf (.int (fs[cs.length].1:Int)) k) hc hdx ncd
   revert a5 k5
   generalize upd (upd (upd H1 dxl (.own c)) c (.ins CL dxl [])) c (.ins CL dxl (clf (.int (fs[cs.length].1:Int)) k))=H2
   intro a5 k5
   have smc:Same H H2:=fun b o h=>k5 _ _ (s1 _ _ (sm _ _ h))
   have hc0:H c=none:=by
    cases e:H c with
    |none=>rfl
    |some o=>rw[s1 _ _ (sm _ _ e)]at hc;cases hc
   have hc1:H' c=none:=by
    cases e:H' c with
    |none=>rfl
    |some o=>rw[s1 _ _ e]at hc;cases hc
   refine nx hi ⟨cs++[c],by simp,by simp,smc,?_,?_,?_⟩
   ·rw[List.nodup_append]
    refine⟨nd,by simp,fun b hb d hd z=>?_⟩
    rw[List.mem_singleton]at hd
    subst hd
    subst z
    obtain⟨j,hj⟩:=List.getElem?_of_mem hb
    have lj:j<fs.length:=by have:=(List.getElem?_eq_some_iff.mp hj).1;omega
    obtain⟨dx',k',e⟩:=g j _ _ hj (List.getElem?_eq_getElem lj)
    rw[hc1]at e;cases e
   ·intro b hb
    rcases List.mem_append.mp hb with z|z
    ·exact fresh b z
    ·rw[List.mem_singleton]at z;subst z;exact hc0
   ·intro j b f' hj hf
    by_cases lt:j<cs.length
    ·rw[List.getElem?_append_left lt]at hj
     obtain⟨dx',k',e⟩:=g j b f' hj hf
     exact⟨dx',k',k5 _ _ (s1 _ _ e)⟩
    ·have ej:j=cs.length:=by
      have:=(List.getElem?_eq_some_iff.mp hj).1
      simp at this;omega
     subst ej
     simp at hj
     subst hj
     rw[List.getElem?_eq_getElem li]at hf
     cases hf
     exact⟨dxl,k,a5⟩
 ·rintro vs H' ⟨cs,lc,rfl,sm,nd,fresh,g⟩ l hl
  rw[List.length_map]at lc
  have lcf:cs.length=fs.length:=by omega
  have sl:=same_new hl (.lst (cs.map V.ref))
  have hl1:(upd H' l (.lst (cs.map V.ref))) l=some (.lst (cs.map V.ref)):=upd_same
  revert sl hl1
  generalize upd H' l (.lst (cs.map V.ref))=H1
  intro sl hl1
  have smh:Same H H1:=fun b o h=>sl _ _ (sm _ _ h)
  have M1:=M.same smh
  have hl0:H l=none:=by
   cases e:H l with
   |none=>rfl
   |some o=>rw[sm _ _ e]at hl;cases hl
  have nlo:l≠s.cur.own:=Ne.symm (ne_of_none M.ho hl0)
  refine⟨_,rfl,a.m,CM,a.dx,_, .ref s.cur.fr,rfl,M1.ob,Tx.cm,Tx.m3,mf3 _ _ _ _ _ _,s.cur.fr,CF,s.cur.dxf,_, .ref s.cur.own,rfl,M1.fc,Tx.cf,Tx.f1,ff1 _ _, .inl ⟨rfl,_,SqL.of M1.ho⟩,_,rfl,s.cur.own,l,s.cur.vs,cs.map V.ref,rfl,rfl,M1.ho,hl1,by rw[List.length_map];omega,?_⟩
  have M2:=M1.setO (s.cur.vs++cs.map V.ref)
  have x2:Ext a s H (s.setO (s.cur.vs++cs.map V.ref)) (upd H1 s.cur.own (.lst (s.cur.vs++cs.map V.ref))):=(Same.ext smh).trans xtO
  have hl2:(upd H1 s.cur.own (.lst (s.cur.vs++cs.map V.ref))) l=some (.lst (cs.map V.ref)):=at_ne hl1 nlo
  have g2:∀(j:Nat) (c:Addr) (f:Nat×List Nat),cs[j]?=some c→fs[j]?=some f→∃dxl k,(upd H1 s.cur.own (.lst (s.cur.vs++cs.map V.ref))) c=some (.ins CL dxl (clf (.int (f.1:Int)) k)):=fun j c f hc hf=>by
   obtain⟨dxl,k,e⟩:=g j c f hc hf
   exact⟨dxl,k,at_ne (sl _ _ e) (obl (sl _ _ e) M1.ho)⟩
  revert M2 x2 hl2 g2
  generalize upd H1 s.cur.own (.lst (s.cur.vs++cs.map V.ref))=H2
  intro M2 x2 hl2 g2
  have old:∀{H':Hp} {b:Addr} {xs:List V},Ext a s H (s.setO (s.cur.vs++cs.map V.ref)) H'→H b=some (.tup xs)→H' b=some (.tup xs):=fun x h=>(x _ _ (M.tupN h) h).2
  refine⟨_,rfl,ix_t (a:=r) (j:=1) rfl (old x2 hr') rfl ⟨l,rt,cs.map V.ref,ps.map V.ref,rfl,hl2,old x2 hrt,?_⟩⟩
  refine for_zipM (xs:=cs.map V.ref) (ys:=ps.map V.ref) (fun i σ H'=>(∃o3 o4,σ=[some (.ref a.m),some (.ref r),some (.ref l),o3,o4])∧MS CM CF CC H' a (s.setO (s.cur.vs++cs.map V.ref))∧H' l=some (.lst (cs.map V.ref))∧Ext a s H (s.setO (s.cur.vs++cs.map V.ref)) H'∧
   ∀(j:Nat) (c:Addr) (f:Nat×List Nat),cs[j]?=some c→fs[j]?=some f→∃dxl k,H' c=some (.ins CL dxl (clf (.int (f.1:Int)) k))∧(j<i→∃ws,H' k=some (.lst ws)∧¬Mu a s k∧f.2.map (fun p=>(s.cur.vs++cs.map V.ref)[p]?)=ws.map some)) (by rw[List.length_map,List.length_map];omega) ⟨⟨_,_,rfl⟩,M2,hl2,x2,fun j c f hc hf=>?_⟩ ?_ ?_ ?_
  ·obtain⟨dxl,k,e⟩:=g2 j c f hc hf
   exact⟨dxl,k,e,fun z=>absurd z (Nat.not_lt_zero _)⟩
  ·rintro i σ H' hi ⟨_,M',hl',x',_⟩
   exact⟨hl',old x' hrt⟩
  ·rintro i x y T σ H' hx hy hT ⟨⟨o3,o4,rfl⟩,M',hl',x',g'⟩
   rw[List.getElem?_map]at hx hy
   cases hc:cs[i]? with
   |none=>rw[hc]at hx;cases hx
   |some c=>
   cases hp:ps[i]? with
   |none=>rw[hp]at hy;cases hy
   |some p=>
    rw[hc]at hx
    rw[hp]at hy
    cases hx
    cases hy
    have li:i<fs.length:=by have:=(List.getElem?_eq_some_iff.mp hp).1;omega
    have hf:=List.getElem?_eq_getElem li
    obtain⟨pt,hp1,hp2⟩:=hps _ p _ hp hf
    have sT:=same_new hT (.tup [V.ref c,V.ref p])
    have hT1:(upd H' T (.tup [V.ref c,V.ref p])) T=some (.tup [V.ref c,V.ref p]):=upd_same
    revert sT hT1
    generalize upd H' T (.tup [V.ref c,V.ref p])=H3
    intro sT hT1
    have M3:=M'.same sT
    have x3:=x'.trans (Same.ext sT)
    have hfm:=hfs _ (List.mem_of_getElem? hf)
    obtain⟨ws,ews⟩:=pick_all (vals:=s.cur.vs++cs.map V.ref) (js:=fs[i].2) fun p hp=>by rw[List.length_append,List.length_map];have:=hfm.2 p hp;omega
    obtain⟨dxl,k0,hc0,_⟩:=g' i c _ hc hf
    refine⟨T,_,rfl,SqT.of hT1,rfl,_,_,rfl,_,_,rfl,rfl,?_⟩
    refine⟨_,rfl,ix_t (a:=p) (j:=1) rfl (old x3 hp1) rfl ⟨a,s.setO (s.cur.vs++cs.map V.ref),pt,fs[i].2,ws,rfl,M3,old x3 hp2,ews,by have:=hfm.1;omega,fun k hk=>?_⟩⟩
    have hc3:(upd H3 k (.lst ws)) c=some (.ins CL dxl (clf (.int (fs[i].1:Int)) k0)):=same_new hk _ _ _ (sT _ _ hc0)
    refine⟨_,rfl,c,CL,dxl,_,rfl,hc3,Tx.cl,Tx.l2,(by show 2<1000;decide),?_⟩
    rw[lp2]
    have nc:¬Mu a s c:=M.noneN (fresh c (List.mem_of_getElem? hc))
    have nk:¬Mu a s k:=fun z=>M3.noneN hk z
    have s4:Same H3 (upd H3 k (.lst ws)):=same_new hk _
    have hk4:(upd H3 k (.lst ws)) k=some (.lst ws):=upd_same
    have kc:k≠c:=fun z=>by rw[z]at hk;rw[sT _ _ hc0]at hk;cases hk
    revert s4 hk4 hc3
    generalize upd H3 k (.lst ws)=H4
    intro hc3 s4 hk4
    have M4:=M3.same s4
    have up:∀b o,b≠c→H4 b=some o→(upd H4 c (.ins CL dxl (clf (.int (fs[i].1:Int)) k))) b=some o:=fun b o n h=>at_ne h n
    have nMu:∀b,Mu a s b→b≠c:=fun b hb z=>nc (z ▸ hb)
    refine⟨⟨_,_,rfl⟩,?_,up _ _ (Ne.symm (obl hc3 (s4 _ _ (sT _ _ hl')))) (s4 _ _ (sT _ _ hl')),?_,?_⟩
    ·refine⟨up _ _ (nMu _ (.inl rfl)) M4.ob,up _ _ (Ne.symm (obl hc3 M4.hp)) M4.hp,up _ _ (Ne.symm (obl hc3 M4.hf)) M4.hf,up _ _ (nMu _ (.inr (.inl rfl))) M4.hc,up _ _ (Ne.symm (obl hc3 M4.hs)) M4.hs,fun f hf'=>⟨up _ _ ?_ (M4.fs f hf').1,up _ _ (Ne.symm (obl hc3 (M4.fs f hf').2)) (M4.fs f hf').2⟩,M4.nd⟩
     rcases List.mem_cons.mp hf' with z|z
     ·subst z;exact ne_of_none M.fc (fresh c (List.mem_of_getElem? hc))
     ·exact ne_of_none (M.fs f (List.mem_cons_of_mem _ z)).1 (fresh c (List.mem_of_getElem? hc))
    ·exact fun b o n h=>⟨(x3 b o n h).1,up b o (ne_of_none h (fresh c (List.mem_of_getElem? hc))) (s4 _ _ (x3 b o n h).2)⟩
    ·intro j c' f' hj hf'
     by_cases e:j=i
     ·subst e
      rw[hc]at hj
      cases hj
      rw[hf]at hf'
      cases hf'
      exact⟨dxl,k,upd_same,fun _=>⟨ws,up _ _ kc hk4,nk,ews⟩⟩
     ·have ncc:c'≠c:=fun z=>by
       subst z
       exact e (nodup_at nd hj hc)
      obtain⟨dx',k',e1,e2⟩:=g' j c' f' hj hf'
      refine⟨dx',k',up _ _ ncc (s4 _ _ (sT _ _ e1)),fun lt=>?_⟩
      obtain⟨ws',q1,q2,q3⟩:=e2 (by omega)
      exact⟨ws',up _ _ (Ne.symm (obl hc3 (s4 _ _ (sT _ _ q1)))) (s4 _ _ (sT _ _ q1)),q2,q3⟩
  ·rintro σ H' ⟨_,M',hl',x',g'⟩
   rw[List.length_map]at g'
   refine q cs H' lcf M' x' fun j c f hc hf=>?_
   obtain⟨dxl,k,e,gk⟩:=g' j c f hc hf
   obtain⟨ws,h1,h2,h3⟩:=gk (List.getElem?_eq_some_iff.mp hc).1
   exact⟨dxl,k,ws,e,h1,M.noneN (fresh c (List.mem_of_getElem? hc)),h2,h3⟩
end
inductive Kd where
 |n
 |f (a r:Kd)
deriving DecidableEq
inductive Tm where
 |n (i:Int)
 |v (x:Nat)
 |g (j:Nat)
 |lt (x:Nat) (t b:Tm)
 |ift (c a b:Tm)
 |fn (x:Nat) (b:Tm)
 |op (k:Nat) (a b:Tm)
 |call (a b:Tm)
 |ring (x:Nat) (bs:List Tm) (b:Tm)
mutual
def dep:Tm→Nat
 |.n _=>0
 |.v _=>0
 |.g _=>0
 |.lt _ t b=>max (dep t) (dep b)+1
 |.ift c a b=>max (dep c) (max (dep a) (dep b))+1
 |.fn _ b=>dep b+1
 |.op _ a b=>max (dep a) (dep b)+1
 |.call a b=>max (dep a) (dep b)+1
 |.ring _ bs b=>max (depL bs) (dep b)+1
def depL:List Tm→Nat
 |[]=>0
 |t::ts=>max (dep t) (depL ts)
end
theorem mx1 {x y N:Nat}:max x y+1≤N↔x+1≤N∧y+1≤N:=⟨fun h=>⟨Nat.le_trans (Nat.succ_le_succ (Nat.le_max_left _ _)) h,Nat.le_trans (Nat.succ_le_succ (Nat.le_max_right _ _)) h⟩,fun h=>(Nat.le_total x y).elim (fun z=>by rw[Nat.max_eq_right z];exact h.2) (fun z=>by rw[Nat.max_eq_left z];exact h.1)⟩
theorem depL_at:∀{bs:List Tm} {i:Nat} {b:Tm},bs[i]?=some b→dep b≤depL bs
 |[],_,_,h=>by simp at h
 |t::ts,0,b,h=>by simp at h;subst h;unfold depL;omega
 |t::ts,i+1,b,h=>by
  have:=depL_at (bs:=ts) (by simpa using h)
  unfold depL;omega
abbrev fnn:Kd:=.f .n .n
mutual
def WT (S:List Kd):List Kd→Tm→Kd→Prop
 |_, .n i,k=>k=.n∧In60b i=true
 |Γ, .v x,k=>Γ[x]?=some k
 |_, .g j,k=>S[j]?=some k
 |Γ, .lt x t b,k=>x=Γ.length∧∃k',WT S Γ t k'∧WT S (Γ++[k']) b k
 |Γ, .ift c a b,k=>WT S Γ c .n∧WT S Γ a k∧WT S Γ b k
 |Γ, .fn x b,k=>x=Γ.length∧∃a r,k=.f a r∧WT S (Γ++[a]) b r
 |Γ, .op j a b,k=>k=.n∧j≤3∧WT S Γ a .n∧WT S Γ b .n
 |Γ, .call a b,k=>∃k',WT S Γ a (.f k' k)∧WT S Γ b k'
 |Γ, .ring x bs b,k=>x=Γ.length∧(1≤bs.length∧bs.length≤5)∧WTL S (Γ++List.replicate bs.length fnn++[.n]) bs∧WT S (Γ++List.replicate bs.length fnn) b k
def WTL (S:List Kd):List Kd→List Tm→Prop
 |_,[]=>True
 |Γ,t::ts=>WT S Γ t .n∧WTL S Γ ts
end
theorem WTL_at {S Γ:List Kd}:∀{bs:List Tm} {i:Nat} {b:Tm},WTL S Γ bs→bs[i]?=some b→WT S Γ b .n
 |[],_,_,_,h=>by simp at h
 |t::ts,0,b,w,h=>by simp at h;subst h;exact w.1
 |t::ts,i+1,b,w,h=>WTL_at (bs:=ts) w.2 (by simpa using h)
mutual
theorem WT.more {S S':List Kd}(e:∀(j:Nat) k,S[j]?=some k→S'[j]?=some k):∀{t:Tm} {Γ:List Kd} {k:Kd},WT S Γ t k→WT S' Γ t k
 |.n i,_,_,h=>h
 |.v x,_,_,h=>h
 |.g j,_,_,h=>e _ _ h
 |.lt x t b,_,_,⟨h0,k',h1,h2⟩=>⟨h0,k',WT.more e h1,WT.more e h2⟩
 |.ift c a b,_,_,⟨h0,h1,h2⟩=>⟨WT.more e h0,WT.more e h1,WT.more e h2⟩
 |.fn x b,_,_,⟨h0,a,r,h1,h2⟩=>⟨h0,a,r,h1,WT.more e h2⟩
 |.op j a b,_,_,⟨h0,h1,h2,h3⟩=>⟨h0,h1,WT.more e h2,WT.more e h3⟩
 |.call a b,_,_,⟨k',h1,h2⟩=>⟨k',WT.more e h1,WT.more e h2⟩
 |.ring x bs b,_,_,⟨h0,h1,h2,h3⟩=>⟨h0,h1,WTL.more e h2,WT.more e h3⟩
theorem WTL.more {S S':List Kd}(e:∀(j:Nat) k,S[j]?=some k→S'[j]?=some k):∀{ts:List Tm} {Γ:List Kd},WTL S Γ ts→WTL S' Γ ts
 |[],_,h=>h
 |t::ts,_,⟨h1,h2⟩=>⟨WT.more e h1,WTL.more e h2⟩
end
inductive Vl where
 |num (i:Int)
 |fn (x:Nat) (b:Tm) (env:List Vl)
 |rg (x:Nat) (bs:List Tm) (env:List Vl) (i:Nat)
def rgv (x:Nat)(bs:List Tm)(env:List Vl):List Vl:=(List.range bs.length).map fun i=>.rg x bs env i
theorem rgv_len {x:Nat}{bs:List Tm}{env:List Vl}:(rgv x bs env).length=bs.length:=by simp[rgv]
theorem rgv_at {x:Nat}{bs:List Tm}{env:List Vl}{i:Nat}(h:i<bs.length):(rgv x bs env)[i]?=some (.rg x bs env i):=by simp[rgv,h]
def callV:Vl→Option (Tm×List Vl)
 |.num _=>none
 |.fn _ b env=>some (b,env)
 |.rg x bs env i=>match bs[i]? with
  |none=>none
  |some b=>some (b,env++rgv x bs env)
inductive Rs where
 |val (v:Vl)|long|deep|great
def ev (most:Int)(S:List Vl):Nat→Nat→Tm→List Vl→Nat→Option (Rs×Nat)
 |0,_,_,_,_=>none
 |_+1,_, .n i,_,c=>some (.val (.num i),c)
 |_+1,_, .v x,env,c=>(env[x]?).map fun v=>(.val v,c)
 |_+1,_, .g j,_,c=>(S[j]?).map fun v=>(.val v,c)
 |_+1,_, .fn x b,env,c=>some (.val (.fn x b env),c)
 |m+1,d, .lt _ t b,env,c=>match ev most S m d t env c with
  |some (.val v,c1)=>ev most S m d b (env++[v]) c1
  |r=>r
 |m+1,d, .ift t a b,env,c=>match ev most S m d t env c with
  |some (.val (.num i),c1)=>ev most S m d (if i=0 then b else a) env c1
  |some (.val (.fn _ _ _),_)=>none
  |some (.val (.rg _ _ _ _),_)=>none
  |r=>r
 |m+1,d, .ring x bs b,env,c=>ev most S m d b (env++rgv x bs env) c
 |m+1,d, .op k a b,env,c=>match ev most S m d a env c with
  |some (.val v,c1)=>match ev most S m d b env c1 with
   |some (.val w,c2)=>match v,w with
    |.num i, .num j=>some (if In60b (rk k i j)=true then .val (.num (rk k i j)) else .great,c2)
    |_,_=>none
   |r=>r
  |r=>r
 |m+1,d, .call a b,env,c=>match ev most S m d a env c with
  |some (.val v,c1)=>match ev most S m d b env c1 with
   |some (.val w,c2)=>match callV v with
    |some (body,env')=>if most<(c2:Int)+1 then some (.long,c2) else if 10<d+1 then some (.deep,c2) else ev most S m (d+1) body (env'++[w]) (c2+1)
    |none=>none
   |r=>r
  |r=>r
mutual
inductive VT (S:List Kd):Vl→Kd→Prop where
 |num {i:Int}:In60b i=true→VT S (.num i) .n
 |fn {x:Nat} {b:Tm} {env:List Vl} {Γ:List Kd} {a r:Kd}:WT S (Γ++[a]) b r→ET S env Γ→x=Γ.length→dep b≤11→VT S (.fn x b env) (.f a r)
 |rg {x:Nat} {bs:List Tm} {b:Tm} {env:List Vl} {i:Nat} {Γ:List Kd}:bs[i]?=some b→WTL S (Γ++List.replicate bs.length fnn++[.n]) bs→ET S env Γ→x=Γ.length→bs.length≤5→depL bs≤11→VT S (.rg x bs env i) fnn
inductive ET (S:List Kd):List Vl→List Kd→Prop where
 |nil:ET S [] []
 |cons {v:Vl} {k:Kd} {vs:List Vl} {ks:List Kd}:VT S v k→ET S vs ks→ET S (v::vs) (k::ks)
end
mutual
theorem VT.more {S S':List Kd}(e:∀(j:Nat) k,S[j]?=some k→S'[j]?=some k):∀{v:Vl} {k:Kd},VT S v k→VT S' v k
 |_,_, .num h=>.num h
 |_,_, .fn h1 h2 h3 h4=>.fn (h1.more e) (ET.more e h2) h3 h4
 |_,_, .rg h1 h2 h3 h4 h5 h6=>.rg h1 (h2.more e) (ET.more e h3) h4 h5 h6
theorem ET.more {S S':List Kd}(e:∀(j:Nat) k,S[j]?=some k→S'[j]?=some k):∀{v:List Vl} {k:List Kd},ET S v k→ET S' v k
 |_,_, .nil=>.nil
 |_,_, .cons h1 h2=>.cons (VT.more e h1) (ET.more e h2)
end
theorem ET.get {S:List Kd}:∀{vs:List Vl} {ks:List Kd} {j:Nat} {k:Kd},ET S vs ks→ks[j]?=some k→∃v,vs[j]?=some v∧VT S v k
 |_,_,_,_, .nil,h=>by simp at h
 |_,_,0,_, .cons r q,h=>by simp at h;subst h;exact⟨_,rfl,r⟩
 |_,_,j+1,_, .cons r q,h=>by
  simp at h
  obtain⟨v,e,w⟩:=ET.get q h
  exact⟨v,by simpa using e,w⟩
theorem ET.snoc {S:List Kd}{v:Vl}{k:Kd}:∀{vs:List Vl} {ks:List Kd},ET S vs ks→VT S v k→ET S (vs++[v]) (ks++[k])
 |_,_, .nil,h=>.cons h .nil
 |_,_, .cons r q,h=>.cons r (ET.snoc q h)
theorem ET.app {S:List Kd}:∀{vs ws:List Vl} {ks ls:List Kd},ET S vs ks→ET S ws ls→ET S (vs++ws) (ks++ls)
 |_,_,_,_, .nil,h=>h
 |_,_,_,_, .cons r q,h=>.cons r (ET.app q h)
theorem ET.of {S:List Kd}{k:Kd}:∀{vs:List Vl},(∀v∈vs,VT S v k)→ET S vs (List.replicate vs.length k)
 |[],_=>.nil
 |v::vs,h=>.cons (h v List.mem_cons_self) (ET.of fun w hw=>h w (List.mem_cons_of_mem _ hw))
theorem ET.ring {S:List Kd}{x:Nat}{bs:List Tm}{env:List Vl}{Γ:List Kd}(w:WTL S (Γ++List.replicate bs.length fnn++[.n]) bs)(he:ET S env Γ)(hx:x=Γ.length)(l:bs.length≤5)(hd:depL bs≤11):ET S (env++rgv x bs env) (Γ++List.replicate bs.length fnn):=by
 have h:=ET.of (S:=S) (k:=fnn) (vs:=rgv x bs env) fun v hv=>by
  unfold rgv at hv
  rw[List.mem_map]at hv
  obtain⟨i,hi,rfl⟩:=hv
  have li:=List.mem_range.mp hi
  exact .rg (List.getElem?_eq_getElem li) w he hx l hd
 rw[rgv_len]at h
 exact he.app h
theorem VT.call {S:List Kd}{v:Vl}{a r:Kd}(h:VT S v (.f a r)):∃b env Γ,callV v=some (b,env)∧WT S (Γ++[a]) b r∧ET S env Γ∧dep b≤11:=by
 cases h with
 |fn h1 h2 h3 h4=>exact⟨_,_,_,rfl,h1,h2,h4⟩
 |@rg x bs b env i Γ h1 h2 h3 h4 h5 h6=>exact⟨b,env++rgv x bs env,Γ++List.replicate bs.length fnn,by unfold callV;simp only[h1],WTL_at h2 h1,ET.ring h2 h3 h4 h5 h6,Nat.le_trans (depL_at h1) h6⟩
theorem ev_typed {most:Int}{S:List Vl}{SK:List Kd}(hS:ET SK S SK):∀(m d:Nat) (t:Tm) (Γ:List Kd) (k:Kd) (env:List Vl) (c:Nat),WT SK Γ t k→ET SK env Γ→dep t≤12→d≤10→13*(10-d)+dep t+1≤m→
  ∃r c',ev most S m d t env c=some (r,c')∧∀v,r=.val v→VT SK v k
 |0,d,t,Γ,k,env,c,h,he,hd,h10,hm=>by omega
 |m+1,d, .n i,Γ,k,env,c,h,he,hd,h10,hm=>⟨_,_,rfl,fun v e=>by cases e;obtain⟨rfl,h2⟩:=h;exact .num h2⟩
 |m+1,d, .v x,Γ,k,env,c,h,he,hd,h10,hm=>by
  obtain⟨v,e,q⟩:=he.get h
  exact⟨.val v,c,by unfold ev;rw[e];rfl,fun w z=>by cases z;exact q⟩
 |m+1,d, .g j,Γ,k,env,c,h,he,hd,h10,hm=>by
  obtain⟨v,e,q⟩:=hS.get h
  exact⟨.val v,c,by unfold ev;rw[e];rfl,fun w z=>by cases z;exact q⟩
 |m+1,d, .fn x b,Γ,k,env,c,h,he,hd,h10,hm=>by
  obtain⟨hx,a,r,rfl,hb⟩:=h
  simp only[dep]at hd
  exact⟨_,_,rfl,fun w z=>by cases z;exact .fn hb he hx (by omega)⟩
 |m+1,d, .lt x t b,Γ,k,env,c,h,he,hd,h10,hm=>by
  obtain⟨hx,k',h1,h2⟩:=h
  simp only[dep]at hd hm
  have dm1:=Nat.le_max_left (dep t) (dep b)
  have dm2:=Nat.le_max_right (dep t) (dep b)
  generalize max (dep t) (dep b)=Dm at hd hm dm1 dm2
  obtain⟨r,c1,e1,q1⟩:=ev_typed hS m d t Γ k' env c h1 he (by omega) h10 (by omega)
  unfold ev
  rw[e1]
  cases r with
  |val v=>exact ev_typed hS m d b (Γ++[k']) k (env++[v]) c1 h2 (he.snoc (q1 v rfl)) (by omega) h10 (by omega)
  |long=>exact⟨_,_,rfl,fun v z=>by cases z⟩
  |deep=>exact⟨_,_,rfl,fun v z=>by cases z⟩
  |great=>exact⟨_,_,rfl,fun v z=>by cases z⟩
 |m+1,d, .ift t a b,Γ,k,env,c,h,he,hd,h10,hm=>by
  obtain⟨h0,h1,h2⟩:=h
  simp only[dep]at hd hm
  have dm1:=Nat.le_max_left (dep a) (dep b)
  have dm2:=Nat.le_max_right (dep a) (dep b)
  generalize max (dep a) (dep b)=Dm at hd hm dm1 dm2
  have dm3:=Nat.le_max_left (dep t) Dm
  have dm4:=Nat.le_max_right (dep t) Dm
  generalize max (dep t) Dm=Dn at hd hm dm3 dm4
  obtain⟨r,c1,e1,q1⟩:=ev_typed hS m d t Γ .n env c h0 he (by omega) h10 (by omega)
  unfold ev
  rw[e1]
  cases r with
  |val v=>
   cases q1 v rfl with
   |@num i hi=>
    dsimp only
    by_cases z:i=0
    ·rw[if_pos z];exact ev_typed hS m d b Γ k env c1 h2 he (by omega) h10 (by omega)
    ·rw[if_neg z];exact ev_typed hS m d a Γ k env c1 h1 he (by omega) h10 (by omega)
  |long=>exact⟨_,_,rfl,fun v z=>by cases z⟩
  |deep=>exact⟨_,_,rfl,fun v z=>by cases z⟩
  |great=>exact⟨_,_,rfl,fun v z=>by cases z⟩
 |m+1,d, .ring x bs b,Γ,k,env,c,h,he,hd,h10,hm=>by
  obtain⟨hx,l,hw,hb⟩:=h
  simp only[dep]at hd hm
  have dm1:=Nat.le_max_left (depL bs) (dep b)
  have dm2:=Nat.le_max_right (depL bs) (dep b)
  generalize max (depL bs) (dep b)=Dm at hd hm dm1 dm2
  unfold ev
  exact ev_typed hS m d b _ k _ c hb (ET.ring hw he hx l.2 (by omega)) (by omega) h10 (by omega)
 |m+1,d, .op j a b,Γ,k,env,c,h,he,hd,h10,hm=>by
  obtain⟨rfl,hj,h1,h2⟩:=h
  simp only[dep]at hd hm
  have dm1:=Nat.le_max_left (dep a) (dep b)
  have dm2:=Nat.le_max_right (dep a) (dep b)
  generalize max (dep a) (dep b)=Dm at hd hm dm1 dm2
  obtain⟨r,c1,e1,q1⟩:=ev_typed hS m d a Γ .n env c h1 he (by omega) h10 (by omega)
  unfold ev
  rw[e1]
  cases r with
  |val v=>
   obtain⟨r2,c2,e2,q2⟩:=ev_typed hS m d b Γ .n env c1 h2 he (by omega) h10 (by omega)
   dsimp only
   rw[e2]
   cases r2 with
   |val w=>
    cases q1 v rfl with
    |@num i hi=>cases q2 w rfl with
     |@num i2 hi2=>
      refine⟨_,_,rfl,fun v z=>?_⟩
      split at z
      ·rename_i hz;cases z;exact .num hz
      ·cases z
   |long=>exact⟨_,_,rfl,fun v z=>by cases z⟩
   |deep=>exact⟨_,_,rfl,fun v z=>by cases z⟩
   |great=>exact⟨_,_,rfl,fun v z=>by cases z⟩
  |long=>exact⟨_,_,rfl,fun v z=>by cases z⟩
  |deep=>exact⟨_,_,rfl,fun v z=>by cases z⟩
  |great=>exact⟨_,_,rfl,fun v z=>by cases z⟩
 |m+1,d, .call a b,Γ,k,env,c,h,he,hd,h10,hm=>by
  obtain⟨k',h1,h2⟩:=h
  simp only[dep]at hd hm
  have dm1:=Nat.le_max_left (dep a) (dep b)
  have dm2:=Nat.le_max_right (dep a) (dep b)
  generalize max (dep a) (dep b)=Dm at hd hm dm1 dm2
  obtain⟨r,c1,e1,q1⟩:=ev_typed hS m d a Γ (.f k' k) env c h1 he (by omega) h10 (by omega)
  unfold ev
  rw[e1]
  cases r with
  |val v=>
   obtain⟨r2,c2,e2,q2⟩:=ev_typed hS m d b Γ k' env c1 h2 he (by omega) h10 (by omega)
   dsimp only
   rw[e2]
   cases r2 with
   |val w=>
    ·obtain⟨body,env',Γ',ec,hb,henv,hdb⟩:=(q1 v rfl).call
     dsimp only
     rw[ec]
     dsimp only
     by_cases z1:most<(c2:Int)+1
     ·rw[if_pos z1];exact⟨_,_,rfl,fun v z=>by cases z⟩
     ·rw[if_neg z1]
      by_cases z2:10<d+1
      ·rw[if_pos z2];exact⟨_,_,rfl,fun v z=>by cases z⟩
      ·rw[if_neg z2]
       exact ev_typed hS m (d+1) body (Γ'++[k']) k (env'++[w]) (c2+1) hb (henv.snoc (q2 w rfl)) (by omega) (by omega) (by omega)
   |long=>exact⟨_,_,rfl,fun v z=>by cases z⟩
   |deep=>exact⟨_,_,rfl,fun v z=>by cases z⟩
   |great=>exact⟨_,_,rfl,fun v z=>by cases z⟩
  |long=>exact⟨_,_,rfl,fun v z=>by cases z⟩
  |deep=>exact⟨_,_,rfl,fun v z=>by cases z⟩
  |great=>exact⟨_,_,rfl,fun v z=>by cases z⟩
def ixOf (x:Nat):List Nat→Option Nat
 |[]=>none
 |y::ys=>if x=y then some 0 else(ixOf x ys).map (·+1)
def ixAll (own:List Nat):List Nat→Option (List Nat)
 |[]=>some []
 |y::ys=>match ixOf y own,ixAll own ys with
  |some i,some is=>some (i::is)
  |_,_=>none
def nms (x k:Nat):List Nat:=(List.range k).map (x+·)
theorem nms_len {x k:Nat}:(nms x k).length=k:=by simp[nms]
mutual
def At (code:List Rw):Tm→List Nat→Nat→Nat→Prop
 |.n i,_,p,q=>In60b i=true∧code[p]?=some (.num i)∧q=p+1
 |.v x,own,p,q=>∃j,ixOf x own=some j∧code[p]?=some (.loc j)∧q=p+1
 |.g j,_,p,q=>code[p]?=some (.glob j)∧q=p+1
 |.lt x t b,own,p,q=>∃p1 p2,At code t own p p1∧code[p1]?=some .keep∧At code b (own++[x]) (p1+1) p2∧code[p2]?=some (.drop 1)∧q=p2+1
 |.ift c a b,own,p,q=>∃p1 p2,At code c own p p1∧code[p1]?=some (.unl (p2+1))∧At code a own (p1+1) p2∧code[p2]?=some (.jump q)∧At code b own (p2+1) q
 |.fn x b,own,p,q=>∃to js names e,ixAll own names=some js∧names.length=own.length∧code[p]?=some (.close to js)∧q=p+1∧At code b (names++[x]) to e∧code[e]?=some .back
 |.op k a b,own,p,q=>∃p1 p2,k≤3∧At code a own p p1∧At code b own p1 p2∧code[p2]?=some (.reck k)∧q=p2+1
 |.call a b,own,p,q=>∃p1 p2,At code a own p p1∧At code b own p1 p2∧code[p2]?=some .call∧q=p2+1
 |.ring x bs b,own,p,q=>∃fs p1,code[p]?=some (.ring fs)∧fs.length=bs.length∧bs.length≤5∧AtL code bs (own++nms x bs.length) (x+bs.length) fs∧At code b (own++nms x bs.length) (p+1) p1∧code[p1]?=some (.drop bs.length)∧q=p1+1
def AtL (code:List Rw):List Tm→List Nat→Nat→List (Nat×List Nat)→Prop
 |[],_,_,_=>True
 |t::ts,inn,y,fs=>(∃f fs' names e,fs=f::fs'∧ixAll inn names=some f.2∧names.length=inn.length∧At code t (names++[y]) f.1 e∧code[e]?=some .back∧AtL code ts inn y fs')
end
theorem AtL_at {code:List Rw}{inn:List Nat}{y:Nat}:∀{bs:List Tm} {fs:List (Nat×List Nat)} {i:Nat} {b:Tm},AtL code bs inn y fs→bs[i]?=some b→∃f names e,fs[i]?=some f∧ixAll inn names=some f.2∧names.length=inn.length∧At code b (names++[y]) f.1 e∧code[e]?=some .back
 |[],_,_,_,_,h=>by simp at h
 |t::ts,fs,0,b,⟨f,fs',names,e,h0,h1,h2,h3,h4,h5⟩,h=>by simp at h;subst h;subst h0;exact⟨f,names,e,rfl,h1,h2,h3,h4⟩
 |t::ts,fs,i+1,b,⟨f,fs',names,e,h0,h1,h2,h3,h4,h5⟩,h=>by
  obtain⟨f2,n2,e2,g1,g2⟩:=AtL_at h5 (by simpa using h)
  subst h0
  exact⟨f2,n2,e2,by simpa using g1,g2⟩
mutual
def WB:Nat→Tm→Prop
 |_, .n _=>True
 |_, .v _=>True
 |_, .g _=>True
 |m, .lt x t b=>x=m∧WB m t∧WB (m+1) b
 |m, .ift c a b=>WB m c∧WB m a∧WB m b
 |m, .fn x b=>x=m∧WB (m+1) b
 |m, .op _ a b=>WB m a∧WB m b
 |m, .call a b=>WB m a∧WB m b
 |m, .ring x bs b=>x=m∧WBL (m+bs.length+1) bs∧WB (m+bs.length) b
def WBL:Nat→List Tm→Prop
 |_,[]=>True
 |m,t::ts=>WB m t∧WBL m ts
end
theorem WBL_at {m:Nat}:∀{bs:List Tm} {i:Nat} {b:Tm},WBL m bs→bs[i]?=some b→WB m b
 |[],_,_,_,h=>by simp at h
 |t::ts,0,b,w,h=>by simp at h;subst h;exact w.1
 |t::ts,i+1,b,w,h=>WBL_at (bs:=ts) w.2 (by simpa using h)
mutual
inductive VR (code:List Rw):Vl→Wv→Prop where
 |num {i:Int}:In60b i=true→VR code (.num i) (.num i)
 |fn {x:Nat} {b:Tm} {env:List Vl} {to e:Nat} {kept:List Wv} {names:List Nat}:ER code env names kept→x=env.length→At code b (names++[x]) to e→code[e]?=some .back→names.length+1+6*dep b≤150→dep b≤12→WB (x+1) b→VR code (.fn x b env) (.fn to kept)
 |rg {x:Nat} {bs:List Tm} {env:List Vl} {i:Nat} {fs:List (Nat×List Nat)} {own:List Nat} {vs:List Wv}:ER code env own vs→x=env.length→fs.length=bs.length→bs.length≤5→AtL code bs (own++nms x bs.length) (x+bs.length) fs→own.length+6+6*depL bs≤150→depL bs≤12→WBL (x+bs.length+1) bs→VR code (.rg x bs env i) (.rg fs vs i)
inductive ER (code:List Rw):List Vl→List Nat→List Wv→Prop where
 |nil {env:List Vl}:ER code env [] []
 |cons {env:List Vl} {y:Nat} {w:Vl} {v:Wv} {own:List Nat} {vs:List Wv}:env[y]?=some w→VR code w v→ER code env own vs→ER code env (y::own) (v::vs)
end
section
variable {code:List Rw}
theorem ER.len:∀{env:List Vl} {own:List Nat} {vs:List Wv},ER code env own vs→vs.length=own.length
 |_,_,_, .nil=>rfl
 |_,_,_, .cons _ _ q=>congrArg (·+1) q.len
theorem ER.snoc {env:List Vl}{w:Vl}{v:Wv}(h:VR code w v):∀{own:List Nat} {vs:List Wv},ER code env own vs→ER code (env++[w]) (own++[env.length]) (vs++[v])
 |_,_, .nil=>.cons (by simp) h .nil
 |_,_, .cons e r q=>.cons (by rw[List.getElem?_append_left (List.getElem?_eq_some_iff.mp e).1];exact e) r (q.snoc h)
theorem ER.get:∀{env:List Vl} {own:List Nat} {vs:List Wv} {x j:Nat},ER code env own vs→ixOf x own=some j→∃w v,env[x]?=some w∧vs[j]?=some v∧VR code w v
 |_,_,_,_,_, .nil,h=>by cases h
 |_,_,_,x,j, .cons (y:=y) e r q,h=>by
  unfold ixOf at h
  by_cases c:x=y
  ·rw[if_pos c]at h
   cases h
   subst c
   exact⟨_,_,e,rfl,r⟩
  ·rw[if_neg c]at h
   rename_i own vs
   cases hj:ixOf x own with
   |none=>rw[hj]at h;cases h
   |some k=>
    rw[hj]at h
    cases h
    obtain⟨w,v,h1,h2,h3⟩:=q.get hj
    exact⟨w,v,h1,by simpa using h2,h3⟩
theorem ER.pick {env:List Vl}{own:List Nat}{vs:List Wv}(r:ER code env own vs):∀{names js:List Nat},ixAll own names=some js→js.length=names.length∧∃kept,picked vs js=some kept∧ER code env names kept
 |[],js,h=>by cases h;exact⟨rfl,[],rfl, .nil⟩
 |y::ys,js,h=>by
  unfold ixAll at h
  split at h
  ·rename_i i is e1 e2
   cases h
   obtain⟨l,kept,h1,h2⟩:=r.pick e2
   obtain⟨w,v,g1,g2,g3⟩:=r.get e1
   exact⟨by simp[l],v::kept,by unfold picked;rw[g2,h1], .cons g1 g3 h2⟩
  ·cases h
theorem ER.more {env ws:List Vl}:∀{own:List Nat} {vs:List Wv},ER code env own vs→ER code (env++ws) own vs
 |_,_, .nil=>.nil
 |_,_, .cons e r q=>.cons (by rw[List.getElem?_append_left (List.getElem?_eq_some_iff.mp e).1];exact e) r (q.more)
theorem ER.app {env:List Vl}:∀{own on:List Nat} {vs vn:List Wv},ER code env own vs→ER code env on vn→ER code env (own++on) (vs++vn)
 |_,_,_,_, .nil,h=>h
 |_,_,_,_, .cons e r q,h=>.cons e r (q.app h)
theorem ER.of {env:List Vl}:∀{own:List Nat} {vs:List Wv},own.length=vs.length→(∀(j:Nat) y v,own[j]?=some y→vs[j]?=some v→∃w,env[y]?=some w∧VR code w v)→ER code env own vs
 |[],[],_,_=>.nil
 |[],_::_,h,_=>by simp at h
 |_::_,[],h,_=>by simp at h
 |y::ys,v::vs,h,g=>by
  obtain⟨w,e,r⟩:=g 0 y v rfl rfl
  exact .cons e r (ER.of (by simpa using h) fun j y' v' e1 e2=>g (j+1) y' v' (by simpa using e1) (by simpa using e2))
theorem ER.ring {x:Nat}{bs:List Tm}{env:List Vl}{fs:List (Nat×List Nat)}{own:List Nat}{vs:List Wv}(h:ER code env own vs)(hx:x=env.length)(l:fs.length=bs.length)(l5:bs.length≤5)(a:AtL code bs (own++nms x bs.length) (x+bs.length) fs)(h1:own.length+6+6*depL bs≤150)(h2:depL bs≤12)(wb:WBL (x+bs.length+1) bs):ER code (env++rgv x bs env) (own++nms x bs.length) (vs++rgs fs vs):=by
 refine h.more.app (ER.of (by rw[nms_len,rgs_len,l]) fun j y v e1 e2=>?_)
 have lj:j<bs.length:=by have:=(List.getElem?_eq_some_iff.mp e1).1;rwa [nms_len]at this
 rw[rgs_at (by omega)]at e2
 cases e2
 have ey:y=x+j:=by
  unfold nms at e1
  rw[List.getElem?_map,List.getElem?_range lj]at e1
  cases e1;rfl
 subst ey
 refine⟨.rg x bs env j,?_, .rg h hx l l5 a h1 h2 wb⟩
 rw[hx,List.getElem?_append_right (by omega),Nat.add_sub_cancel_left]
 rw[←hx]
 exact rgv_at lj
theorem VR.call {v:Vl}{u:Wv}{body:Tm}{env':List Vl}(h:VR code v u)(c:callV v=some (body,env')):∃to kept names y e,keptW u=some (to,kept)∧ER code env' names kept∧y=env'.length∧At code body (names++[y]) to e∧code[e]?=some .back∧names.length+1+6*dep body≤150∧dep body≤12∧WB (y+1) body:=by
 cases h with
 |num hi=>cases c
 |fn h1 h2 h3 h4 h5 h6 h7=>cases c;exact⟨_,_,_,_,_,rfl,h1,h2,h3,h4,h5,h6,h7⟩
 |@rg x bs env i fs own vs h1 h2 h3 h4 h5 h6 h7 h8=>
  unfold callV at c
  cases eb:bs[i]? with
  |none=>simp only[eb]at c;cases c
  |some b=>
   simp only[eb]at c
   cases c
   obtain⟨f,names,e,g1,g2,g3,g4,g5⟩:=AtL_at h5 eb
   have er:=ER.ring h1 h2 h3 h4 h5 h6 h7 h8
   obtain⟨lj,kept,g6,g7⟩:=er.pick g2
   have db:=depL_at eb
   refine⟨f.1,kept,names,x+bs.length,e,by unfold keptW;simp only[g1,g6];rfl,g7,by rw[List.length_append,rgv_len,h2],g4,g5,?_,by omega,WBL_at h8 eb⟩
   rw[g3,List.length_append,nms_len];omega
def Rch (most:Int)(code:List Rw)(A A':AS):Prop:=∃k,∀m,runA most code (m+k) A=runA most code m A'
def Ends (most:Int)(code:List Rw)(A:AS)(o:Out):Prop:=∃k,∀m,runA most code (m+k) A=some o
variable {most:Int}
theorem Rch.trans {A B C:AS}(a:Rch most code A B)(b:Rch most code B C):Rch most code A C:=by
 obtain⟨k,h⟩:=a
 obtain⟨l,g⟩:=b
 exact⟨l+k,fun m=>by rw[←Nat.add_assoc,h,g]⟩
theorem Rch.ends {A B:AS}{o:Out}(a:Rch most code A B)(b:Ends most code B o):Ends most code A o:=by
 obtain⟨k,h⟩:=a
 obtain⟨l,g⟩:=b
 exact⟨l+k,fun m=>by rw[←Nat.add_assoc,h,g]⟩
theorem rch_step {A A':AS}{row:Rw}(h:code[A.pc]?=some row)(s:stepA most row {A with pc:=A.pc+1}=some (.inl A')):Rch most code A A':=⟨1,fun m=>by
 rw[runA,h]
 dsimp only
 rw[s]⟩
theorem end_step {A:AS}{row:Rw}{o:Out}(h:code[A.pc]?=some row)(s:stepA most row {A with pc:=A.pc+1}=some (.inr o)):Ends most code A o:=⟨1,fun m=>by
 rw[runA,h]
 dsimp only
 rw[s]⟩
structure Bd (A:AS):Prop where
 p:A.pile.length≤400
 o:A.own.length≤400
 s:A.sto.length≤400
 u:A.outer.length≤400
theorem Bd.all {A:AS}(b:Bd A):A.pile.length≤400∧A.own.length≤400∧A.sto.length≤400∧A.outer.length≤400:=⟨b.p,b.o,b.s,b.u⟩
theorem do_num {A:AS}{i:Int}(b:Bd A)(h:code[A.pc]?=some (.num i)):Rch most code A {A with pile:=.num i::A.pile,pc:=A.pc+1}:=rch_step h (by unfold stepA;exact if_pos b.all)
theorem do_loc {A:AS}{j:Nat}{v:Wv}(b:Bd A)(h:code[A.pc]?=some (.loc j))(e:A.own[j]?=some v):Rch most code A {A with pile:=v::A.pile,pc:=A.pc+1}:=rch_step h (by
 unfold stepA;rw[if_pos b.all];dsimp only;rw[e];rfl)
theorem do_glob {A:AS}{j:Nat}{v:Wv}(b:Bd A)(h:code[A.pc]?=some (.glob j))(e:A.sto[j]?=some v):Rch most code A {A with pile:=v::A.pile,pc:=A.pc+1}:=rch_step h (by
 unfold stepA;rw[if_pos b.all];dsimp only;rw[e];rfl)
theorem do_keep {A:AS}{v:Wv}{p:List Wv}(b:Bd A)(h:code[A.pc]?=some .keep)(e:A.pile=v::p):Rch most code A {A with pile:=p,own:=A.own++[v],pc:=A.pc+1}:=rch_step h (by
 unfold stepA;rw[if_pos b.all];dsimp only;rw[e])
theorem do_drop {A:AS}{o u:List Wv}{n:Nat}(b:Bd A)(h:code[A.pc]?=some (.drop n))(e:A.own=o++u)(l:u.length=n):Rch most code A {A with own:=o,pc:=A.pc+1}:=rch_step h (by
 unfold stepA;rw[if_pos b.all];dsimp only
 rw[if_pos (by rw[e,List.length_append];omega)]
 rw[show A.own.take (A.own.length-n)=o by rw[e,List.length_append,←l,Nat.add_sub_cancel,List.take_left' rfl]])
theorem do_ring {A:AS}{fs:List (Nat×List Nat)}(b:Bd A)(h:code[A.pc]?=some (.ring fs))(l:fs.length≤5)(g:∀f∈fs,f.2.length≤400∧(picked (A.own++rgs fs A.own) f.2).isSome=true):Rch most code A {A with own:=A.own++rgs fs A.own,pc:=A.pc+1}:=rch_step h (by
 unfold stepA;rw[if_pos b.all];dsimp only;rw[if_pos ⟨l,g⟩])
theorem do_unl {A:AS}{i:Int}{p:List Wv}{t:Nat}(b:Bd A)(h:code[A.pc]?=some (.unl t))(e:A.pile=.num i::p):Rch most code A (if i=0 then{A with pile:=p,pc:=t} else{A with pile:=p,pc:=A.pc+1}):=rch_step h (by
 unfold stepA;rw[if_pos b.all];dsimp only;rw[e])
theorem do_jump {A:AS}{t:Nat}(b:Bd A)(h:code[A.pc]?=some (.jump t)):Rch most code A {A with pc:=t}:=rch_step h (by unfold stepA;exact if_pos b.all)
theorem do_close {A:AS}{to:Nat}{js:List Nat}{kept:List Wv}(b:Bd A)(h:code[A.pc]?=some (.close to js))(l:js.length≤400)(e:picked A.own js=some kept):Rch most code A {A with pile:=.fn to kept::A.pile,pc:=A.pc+1}:=rch_step h (by
 unfold stepA;rw[if_pos b.all];dsimp only;rw[if_pos l,e];rfl)
theorem do_reck {A:AS}{k:Nat}{i j:Int}{p:List Wv}(b:Bd A)(h:code[A.pc]?=some (.reck k))(hk:k≤3)(hi:In60b i=true)(hj:In60b j=true)(e:A.pile=.num j::.num i::p)(z:In60b (rk k i j)=true):Rch most code A {A with pile:=.num (rk k i j)::p,pc:=A.pc+1}:=rch_step h (by
 unfold stepA;rw[if_pos b.all];dsimp only;rw[e];dsimp only;rw[if_pos ⟨hk,hi,hj⟩,if_pos z])
theorem do_great {A:AS}{k:Nat}{i j:Int}{p:List Wv}(b:Bd A)(h:code[A.pc]?=some (.reck k))(hk:k≤3)(hi:In60b i=true)(hj:In60b j=true)(e:A.pile=.num j::.num i::p)(z:¬In60b (rk k i j)=true):Ends most code A .great:=end_step h (by
 unfold stepA;rw[if_pos b.all];dsimp only;rw[e];dsimp only;rw[if_pos ⟨hk,hi,hj⟩,if_neg z])
theorem do_call {A:AS}{v u:Wv}{to:Nat}{kept p:List Wv}(b:Bd A)(h:code[A.pc]?=some .call)(l:kept.length≤400)(e:A.pile=v::u::p)(k:keptW u=some (to,kept))(z1:¬most<(A.begun:Int)+1)(z2:¬10<A.outer.length+1):
  Rch most code A {A with pile:=p,own:=kept++[v],be:=A.pc+1,outer:=(A.own,A.be)::A.outer,pc:=to,begun:=A.begun+1}:=rch_step h (by
 unfold stepA;rw[if_pos b.all];dsimp only;rw[e];dsimp only;rw[k];dsimp only;rw[if_pos l,if_neg z1,if_neg z2])
theorem do_long {A:AS}{v u:Wv}{to:Nat}{kept p:List Wv}(b:Bd A)(h:code[A.pc]?=some .call)(l:kept.length≤400)(e:A.pile=v::u::p)(k:keptW u=some (to,kept))(z1:most<(A.begun:Int)+1):Ends most code A .long:=end_step h (by
 unfold stepA;rw[if_pos b.all];dsimp only;rw[e];dsimp only;rw[k];dsimp only;rw[if_pos l,if_pos z1])
theorem do_deep {A:AS}{v u:Wv}{to:Nat}{kept p:List Wv}(b:Bd A)(h:code[A.pc]?=some .call)(l:kept.length≤400)(e:A.pile=v::u::p)(k:keptW u=some (to,kept))(z1:¬most<(A.begun:Int)+1)(z2:10<A.outer.length+1):Ends most code A .deep:=end_step h (by
 unfold stepA;rw[if_pos b.all];dsimp only;rw[e];dsimp only;rw[k];dsimp only;rw[if_pos l,if_neg z1,if_pos z2])
theorem do_back {A:AS}{o:List Wv}{be:Nat}{fs:List (List Wv×Nat)}(b:Bd A)(h:code[A.pc]?=some .back)(e:A.outer=(o,be)::fs):Rch most code A {A with own:=o,be:=be,outer:=fs,pc:=A.be}:=rch_step h (by
 unfold stepA;rw[if_pos b.all];dsimp only;rw[e])
theorem do_end {A:AS}{i:Int}{p:List Wv}(b:Bd A)(h:code[A.pc]?=some .back)(e:A.outer=[])(e2:A.pile=.num i::p):Ends most code A (.num i):=end_step h (by
 unfold stepA;rw[if_pos b.all];dsimp only;rw[e];dsimp only;rw[e2])
theorem do_store {A:AS}{v:Wv}{p:List Wv}(b:Bd A)(h:code[A.pc]?=some .store)(e:A.pile=v::p):Rch most code A {A with pile:=p,sto:=A.sto++[v],pc:=A.pc+1}:=rch_step h (by
 unfold stepA;rw[if_pos b.all];dsimp only;rw[e])
end
def outOf:Rs→Option Out
 |.val _=>none
 |.long=>some .long
 |.deep=>some .deep
 |.great=>some .great
structure Pre (code:List Rw)(S:List Vl)(d n:Nat)(env:List Vl)(own:List Nat)(A:AS):Prop where
 er:ER code env own A.own
 sr:∀(j:Nat) w,S[j]?=some w→∃v,A.sto[j]?=some v∧VR code w v
 ou:A.outer.length=d
 d10:d≤10
 pl:A.pile.length+n+13*(10-d)≤300
 ow:own.length+6*n≤150
 st:A.sto.length≤100
section
variable {most:Int}{code:List Rw}{S:List Vl}{d n:Nat}{env:List Vl}{own:List Nat}{A:AS}
theorem Pre.bd (h:Pre code S d n env own A):Bd A:=⟨by have:=h.pl;omega,by have:=h.er.len;have:=h.ow;omega,by have:=h.st;omega,by have:=h.ou;have:=h.d10;omega⟩
theorem Pre.less {n':Nat}(h:Pre code S d n env own A)(e:n'≤n):Pre code S d n' env own A:=⟨h.er,h.sr,h.ou,h.d10,by have:=h.pl;omega,by have:=h.ow;omega,h.st⟩
theorem Pre.push {n' c pc:Nat}{v:Wv}(h:Pre code S d n env own A)(e:n'+1≤n):Pre code S d n' env own {A with pile:=v::A.pile,pc:=pc,begun:=c}:=⟨h.er,h.sr,h.ou,h.d10,by have:=h.pl;show A.pile.length+1+n'+_≤300;omega,by have:=h.ow;omega,h.st⟩
def Post (most:Int)(code:List Rw)(A:AS)(q:Nat)(r:Rs)(c':Nat):Prop :=
 (∀v,r=.val v→∃v',VR code v v'∧Rch most code A {A with pile:=v'::A.pile,pc:=q,begun:=c'})∧∀o,outOf r=some o→Ends most code A o
theorem Post.val {q:Nat}{v:Vl}{c':Nat}{v':Wv}(h:VR code v v')(g:Rch most code A {A with pile:=v'::A.pile,pc:=q,begun:=c'}):Post most code A q (.val v) c':=⟨fun w e=>by cases e;exact⟨v',h,g⟩,fun o e=>by cases e⟩
theorem Post.out {q:Nat}{r:Rs}{c':Nat}{o:Out}(e:outOf r=some o)(g:Ends most code A o):Post most code A q r c':=⟨fun w z=>(by subst z;cases e),fun o' z=>by rw[e]at z;cases z;exact g⟩
theorem Post.pass {q q':Nat}{r:Rs}{c':Nat}(h:Post most code A q r c')(nv:∀v,r≠.val v):Post most code A q' r c':=⟨fun v e=>absurd e (nv v),h.2⟩
end
theorem run_at {most:Int}{code:List Rw}{S:List Vl}:∀(m d:Nat) (t:Tm) (env:List Vl) (own:List Nat) (q:Nat) (A:AS) (r:Rs) (c':Nat),ev most S m d t env A.begun=some (r,c')→At code t own A.pc q→Pre code S d (dep t) env own A→dep t≤12→WB env.length t→Post most code A q r c'
 |0,d,t,env,own,q,A,r,c',h,_,_,_,_=>by cases h
 |m+1,d, .n i,env,own,q,A,r,c',h,ha,pr,hd,wb=>by
  obtain⟨hi,hr,rfl⟩:=ha
  cases h
  exact Post.val (.num hi) (do_num pr.bd hr)
 |m+1,d, .v x,env,own,q,A,r,c',h,ha,pr,hd,wb=>by
  obtain⟨j,hj,hr,rfl⟩:=ha
  obtain⟨w,v,h1,h2,h3⟩:=pr.er.get hj
  unfold ev at h
  rw[h1]at h
  cases h
  exact Post.val h3 (do_loc pr.bd hr h2)
 |m+1,d, .g j,env,own,q,A,r,c',h,ha,pr,hd,wb=>by
  obtain⟨hr,rfl⟩:=ha
  unfold ev at h
  cases hs:S[j]? with
  |none=>rw[hs]at h;cases h
  |some w=>
   rw[hs]at h
   cases h
   obtain⟨v,h2,h3⟩:=pr.sr j w hs
   exact Post.val h3 (do_glob pr.bd hr h2)
 |m+1,d, .fn x b,env,own,q,A,r,c',h,ha,pr,hd,wb=>by
  obtain⟨to,js,names,e,hj,hl,hr,rfl,hb,hk⟩:=ha
  obtain⟨hx,wb⟩:=wb
  obtain⟨lj,kept,h1,h2⟩:=pr.er.pick hj
  have ow:=pr.ow
  simp only[dep]at hd ow
  cases h
  exact Post.val (.fn h2 hx hb hk (by omega) (by omega) (by rw[hx];exact wb)) (do_close pr.bd hr (by omega) h1)
 |m+1,d, .lt x t b,env,own,q,A,r,c',h,ha,pr,hd,wb=>by
  obtain⟨p1,p2,a1,k1,a2,k2,rfl⟩:=ha
  obtain⟨hx,wb1,wb2⟩:=wb
  simp only[dep]at pr hd
  have dm1:=Nat.le_max_left (dep t) (dep b)
  have dm2:=Nat.le_max_right (dep t) (dep b)
  generalize max (dep t) (dep b)=Dm at pr hd dm1 dm2
  unfold ev at h
  cases e1:ev most S m d t env A.begun with
  |none=>rw[e1]at h;cases h
  |some rc=>
   obtain⟨r1,c1⟩:=rc
   have P1:=run_at m d t env own p1 A r1 c1 e1 a1 (pr.less (by omega)) (by omega) wb1
   rw[e1]at h
   cases r1 with
   |val v=>
    dsimp only at h
    obtain⟨v',hv,g1⟩:=P1.1 v rfl
    have b1:Bd {A with pile:=v'::A.pile,pc:=p1,begun:=c1}:=(pr.push (n':=0) (c:=c1) (pc:=p1) (v:=v') (by omega)).bd
    have g2:=do_keep (most:=most) b1 k1 rfl
    have pr2:Pre code S d (dep b) (env++[v]) (own++[x]) {A with pile:=A.pile,own:=A.own++[v'],pc:=p1+1,begun:=c1}:=⟨by rw[hx];exact pr.er.snoc hv,pr.sr,pr.ou,pr.d10,by have:=pr.pl;show A.pile.length+_+_≤300;omega,by have:=pr.ow;rw[List.length_append];simp;omega,pr.st⟩
    have P2:=run_at m d b (env++[v]) (own++[x]) p2 _ r c' h a2 pr2 (by omega) (by rw[List.length_append];exact wb2)
    have g12:=g1.trans g2
    refine⟨fun w hw=>?_,fun o ho=>g12.ends (P2.2 o ho)⟩
    obtain⟨w',hw',g3⟩:=P2.1 w hw
    have b3:=(pr2.push (n':=0) (c:=c') (pc:=p2) (v:=w'))
    have b3':Bd {A with pile:=w'::A.pile,own:=A.own++[v'],pc:=p2,begun:=c'}:=⟨by have:=pr.pl;show A.pile.length+1≤400;omega,pr2.bd.o,pr2.bd.s,pr2.bd.u⟩
    have g4:=do_drop (most:=most) (u:=[v']) b3' k2 rfl rfl
    exact⟨w',hw',g12.trans (g3.trans g4)⟩
   |long=>cases h;exact P1.pass (fun v z=>by cases z)
   |deep=>cases h;exact P1.pass (fun v z=>by cases z)
   |great=>cases h;exact P1.pass (fun v z=>by cases z)
 |m+1,d, .ift t a b,env,own,q,A,r,c',h,ha,pr,hd,wb=>by
  obtain⟨p1,p2,a1,k1,a2,k2,a3⟩:=ha
  obtain⟨wb1,wb2,wb3⟩:=wb
  simp only[dep]at pr hd
  have dm1:=Nat.le_max_left (dep a) (dep b)
  have dm2:=Nat.le_max_right (dep a) (dep b)
  generalize max (dep a) (dep b)=Dm at pr hd dm1 dm2
  have dm3:=Nat.le_max_left (dep t) Dm
  have dm4:=Nat.le_max_right (dep t) Dm
  generalize max (dep t) Dm=Dn at pr hd dm3 dm4
  unfold ev at h
  cases e1:ev most S m d t env A.begun with
  |none=>rw[e1]at h;cases h
  |some rc=>
   obtain⟨r1,c1⟩:=rc
   have P1:=run_at m d t env own p1 A r1 c1 e1 a1 (pr.less (by omega)) (by omega) wb1
   rw[e1]at h
   cases r1 with
   |val v=>
    obtain⟨v',hv,g1⟩:=P1.1 v rfl
    cases hv with
    |@num i hi=>
     dsimp only at h
     have b1:Bd {A with pile:=.num i::A.pile,pc:=p1,begun:=c1}:=(pr.push (n':=0) (c:=c1) (pc:=p1) (v:=.num i) (by omega)).bd
     have g2:=do_unl (most:=most) b1 k1 rfl
     by_cases z:i=0
     ·rw[if_pos z]at h g2
      have pr2:Pre code S d (dep b) env own {A with pile:=A.pile,pc:=p2+1,begun:=c1}:=⟨pr.er,pr.sr,pr.ou,pr.d10,by have:=pr.pl;show A.pile.length+_+_≤300;omega,by have:=pr.ow;omega,pr.st⟩
      have P2:=run_at m d b env own q _ r c' h a3 pr2 (by omega) wb3
      have g12:=g1.trans g2
      refine⟨fun w hw=>?_,fun o ho=>g12.ends (P2.2 o ho)⟩
      obtain⟨w',hw',g3⟩:=P2.1 w hw
      exact⟨w',hw',g12.trans g3⟩
     ·rw[if_neg z]at h g2
      have pr2:Pre code S d (dep a) env own {A with pile:=A.pile,pc:=p1+1,begun:=c1}:=⟨pr.er,pr.sr,pr.ou,pr.d10,by have:=pr.pl;show A.pile.length+_+_≤300;omega,by have:=pr.ow;omega,pr.st⟩
      have P2:=run_at m d a env own p2 _ r c' h a2 pr2 (by omega) wb2
      have g12:=g1.trans g2
      refine⟨fun w hw=>?_,fun o ho=>g12.ends (P2.2 o ho)⟩
      obtain⟨w',hw',g3⟩:=P2.1 w hw
      have b3:Bd {A with pile:=w'::A.pile,pc:=p2,begun:=c'}:=(pr.push (n':=0) (c:=c') (pc:=p2) (v:=w') (by omega)).bd
      exact⟨w',hw',g12.trans (g3.trans (do_jump b3 k2))⟩
    |fn h1 h2 h3 h4 h5 h6 h7=>cases h
    |rg=>cases h
   |long=>cases h;exact P1.pass (fun v z=>by cases z)
   |deep=>cases h;exact P1.pass (fun v z=>by cases z)
   |great=>cases h;exact P1.pass (fun v z=>by cases z)
 |m+1,d, .ring x bs b,env,own,q,A,r,c',h,ha,pr,hd,wb=>by
  obtain⟨fs,p1,k1,l,l5,al,a2,k2,rfl⟩:=ha
  obtain⟨hx,wb1,wb2⟩:=wb
  subst hx
  simp only[dep]at pr hd
  have dm1:=Nat.le_max_left (depL bs) (dep b)
  have dm2:=Nat.le_max_right (depL bs) (dep b)
  generalize max (depL bs) (dep b)=Dm at pr hd dm1 dm2
  unfold ev at h
  have ow:=pr.ow
  have er:=ER.ring pr.er rfl l l5 al (by omega) (by omega) wb1
  have g1:=do_ring (most:=most) pr.bd k1 (by omega) fun f hf=>by
   obtain⟨i,hi⟩:=List.getElem?_of_mem hf
   have li:i<bs.length:=by have:=(List.getElem?_eq_some_iff.mp hi).1;omega
   obtain⟨f',names,e,g1,g2,g3,g4,g5⟩:=AtL_at al (List.getElem?_eq_getElem li)
   rw[hi]at g1
   cases g1
   obtain⟨lj,kept,g6,g7⟩:=er.pick g2
   refine⟨?_,by rw[g6];rfl⟩
   rw[lj,g3,List.length_append,nms_len];omega
  have pr2:Pre code S d (dep b) (env++rgv env.length bs env) (own++nms env.length bs.length) {A with own:=A.own++rgs fs A.own,pc:=A.pc+1}:=⟨er,pr.sr,pr.ou,pr.d10,by have:=pr.pl;show A.pile.length+_+_≤300;omega,by rw[List.length_append,nms_len];omega,pr.st⟩
  have P2:=run_at m d b _ _ p1 {A with own:=A.own++rgs fs A.own,pc:=A.pc+1} r c' h a2 pr2 (by omega) (by rw[List.length_append,rgv_len];exact wb2)
  refine⟨fun w hw=>?_,fun o ho=>g1.ends (P2.2 o ho)⟩
  obtain⟨w',hw',g3⟩:=P2.1 w hw
  have b3:Bd {A with pile:=w'::A.pile,own:=A.own++rgs fs A.own,pc:=p1,begun:=c'}:=⟨by have:=pr.pl;show A.pile.length+1≤400;omega,pr2.bd.o,pr2.bd.s,pr2.bd.u⟩
  exact⟨w',hw',g1.trans (g3.trans (do_drop b3 k2 rfl (by rw[rgs_len,l])))⟩
 |m+1,d, .op k a b,env,own,q,A,r,c',h,ha,pr,hd,wb=>by
  obtain⟨p1,p2,hk,a1,a2,k1,rfl⟩:=ha
  obtain⟨wb1,wb2⟩:=wb
  simp only[dep]at pr hd
  have dm1:=Nat.le_max_left (dep a) (dep b)
  have dm2:=Nat.le_max_right (dep a) (dep b)
  generalize max (dep a) (dep b)=Dm at pr hd dm1 dm2
  unfold ev at h
  cases e1:ev most S m d a env A.begun with
  |none=>rw[e1]at h;cases h
  |some rc=>
   obtain⟨r1,c1⟩:=rc
   have P1:=run_at m d a env own p1 A r1 c1 e1 a1 (pr.less (by omega)) (by omega) wb1
   rw[e1]at h
   cases r1 with
   |val v=>
    obtain⟨v',hv,g1⟩:=P1.1 v rfl
    dsimp only at h
    cases e2:ev most S m d b env c1 with
    |none=>rw[e2]at h;cases h
    |some rc2=>
     obtain⟨r2,c2⟩:=rc2
     have P2:=run_at m d b env own p2 {A with pile:=v'::A.pile,pc:=p1,begun:=c1} r2 c2 e2 a2 (pr.push (by omega)) (by omega) wb2
     rw[e2]at h
     cases r2 with
     |val w=>
      obtain⟨w',hw,g2⟩:=P2.1 w rfl
      have b3:Bd {A with pile:=w'::v'::A.pile,pc:=p2,begun:=c2}:=⟨by have:=pr.pl;show A.pile.length+1+1≤400;omega,pr.bd.o,pr.bd.s,pr.bd.u⟩
      cases hv with
      |@num i hi=>cases hw with
       |@num j hj=>
        dsimp only at h
        by_cases z:In60b (rk k i j)=true
        ·rw[if_pos z]at h
         cases h
         exact Post.val (.num z) (g1.trans (g2.trans (do_reck b3 k1 hk hi hj rfl z)))
        ·rw[if_neg z]at h
         cases h
         exact Post.out rfl (g1.ends (g2.ends (do_great b3 k1 hk hi hj rfl z)))
       |fn=>cases h
       |rg=>cases h
      |fn=>cases hw<;>cases h
      |rg=>cases hw<;>cases h
     |long=>cases h;exact Post.out rfl (g1.ends (P2.2 _ rfl))
     |deep=>cases h;exact Post.out rfl (g1.ends (P2.2 _ rfl))
     |great=>cases h;exact Post.out rfl (g1.ends (P2.2 _ rfl))
   |long=>cases h;exact P1.pass (fun v z=>by cases z)
   |deep=>cases h;exact P1.pass (fun v z=>by cases z)
   |great=>cases h;exact P1.pass (fun v z=>by cases z)
 |m+1,d, .call a b,env,own,q,A,r,c',h,ha,pr,hd,wb=>by
  obtain⟨p1,p2,a1,a2,k1,rfl⟩:=ha
  obtain⟨wb1,wb2⟩:=wb
  simp only[dep]at pr hd
  have dm1:=Nat.le_max_left (dep a) (dep b)
  have dm2:=Nat.le_max_right (dep a) (dep b)
  generalize max (dep a) (dep b)=Dm at pr hd dm1 dm2
  unfold ev at h
  cases e1:ev most S m d a env A.begun with
  |none=>rw[e1]at h;cases h
  |some rc=>
   obtain⟨r1,c1⟩:=rc
   have P1:=run_at m d a env own p1 A r1 c1 e1 a1 (pr.less (by omega)) (by omega) wb1
   rw[e1]at h
   cases r1 with
   |val v=>
    obtain⟨v',hv,g1⟩:=P1.1 v rfl
    dsimp only at h
    cases e2:ev most S m d b env c1 with
    |none=>rw[e2]at h;cases h
    |some rc2=>
     obtain⟨r2,c2⟩:=rc2
     have P2:=run_at m d b env own p2 {A with pile:=v'::A.pile,pc:=p1,begun:=c1} r2 c2 e2 a2 (pr.push (by omega)) (by omega) wb2
     rw[e2]at h
     cases r2 with
     |val w=>
      obtain⟨w',hw,g2⟩:=P2.1 w rfl
      have b3:Bd {A with pile:=w'::v'::A.pile,pc:=p2,begun:=c2}:=⟨by have:=pr.pl;show A.pile.length+1+1≤400;omega,pr.bd.o,pr.bd.s,pr.bd.u⟩
      cases ecv:callV v with
      |none=>dsimp only at h;rw[ecv]at h;cases h
      |some be=>
       obtain⟨body,env'⟩:=be
       obtain⟨to,kept,names,x,e,hkw,her,hx,hat,hbk,hln,hdb,hwb⟩:=hv.call ecv
       dsimp only at h
       rw[ecv]at h
       dsimp only at h
       have lk:=her.len
       by_cases z1:most<(c2:Int)+1
       ·rw[if_pos z1]at h
        cases h
        exact Post.out rfl (g1.ends (g2.ends (do_long b3 k1 (by omega) rfl hkw z1)))
       ·rw[if_neg z1]at h
        by_cases z2:10<d+1
        ·rw[if_pos z2]at h
         cases h
         exact Post.out rfl (g1.ends (g2.ends (do_deep b3 k1 (by omega) rfl hkw z1 (by show 10<A.outer.length+1;rw[pr.ou];exact z2))))
        ·rw[if_neg z2]at h
         have g3:=do_call (most:=most) b3 k1 (by omega) rfl hkw z1 (by show ¬10<A.outer.length+1;rw[pr.ou];exact z2)
         have pr4:Pre code S (d+1) (dep body) (env'++[w]) (names++[x]) {A with pile:=A.pile,own:=kept++[w'],be:=p2+1,outer:=(A.own,A.be)::A.outer,pc:=to,begun:=c2+1}:=⟨by rw[hx];exact her.snoc hw,pr.sr,by show A.outer.length+1=d+1;rw[pr.ou],by omega,by have:=pr.pl;show A.pile.length+_+_≤300;omega,by rw[List.length_append];simp;omega,pr.st⟩
         have P4:=run_at m (d+1) body (env'++[w]) (names++[x]) e _ r c' h hat pr4 (by omega) (by rw[List.length_append,←hx];exact hwb)
         have g13:=g1.trans (g2.trans g3)
         refine⟨fun u hu=>?_,fun o ho=>g13.ends (P4.2 o ho)⟩
         obtain⟨u',hu',g5⟩:=P4.1 u hu
         have b5:Bd {A with pile:=u'::A.pile,own:=kept++[w'],be:=p2+1,outer:=(A.own,A.be)::A.outer,pc:=e,begun:=c'}:=⟨by have:=pr.pl;show A.pile.length+1≤400;omega,pr4.bd.o,pr4.bd.s,pr4.bd.u⟩
         exact⟨u',hu',g13.trans (g5.trans (do_back b5 hbk rfl))⟩
     |long=>cases h;exact Post.out rfl (g1.ends (P2.2 _ rfl))
     |deep=>cases h;exact Post.out rfl (g1.ends (P2.2 _ rfl))
     |great=>cases h;exact Post.out rfl (g1.ends (P2.2 _ rfl))
   |long=>cases h;exact P1.pass (fun v z=>by cases z)
   |deep=>cases h;exact P1.pass (fun v z=>by cases z)
   |great=>cases h;exact P1.pass (fun v z=>by cases z)
inductive Lr where
 |row (r:Rw)
 |late (k:Nat) (js:List Nat)
 |lateR (ks:List (Nat×List Nat))
 |hole
def namesOf (ab:Bool)(own:List Nat):List Nat:=if ab then own.reverse else own
theorem namesOf_len (ab:Bool)(own:List Nat):(namesOf ab own).length=own.length:=by cases ab<;>simp[namesOf]
theorem namesOf_mem {ab:Bool}{own:List Nat}{x:Nat}:x∈namesOf ab own↔x∈own:=by cases ab<;>simp[namesOf]
abbrev Lt:=List Nat×Tm
def comp (ab:Bool):Tm→List Nat→List Lt→Nat→Option (List Lr×List Lt)
 |.n i,_,L,_=>some ([.row (.num i)],L)
 |.v x,own,L,_=>(ixOf x own).map fun j=>([.row (.loc j)],L)
 |.g j,_,L,_=>some ([.row (.glob j)],L)
 |.lt x t b,own,L,p=>match comp ab t own L p with
  |none=>none
  |some (r1,L1)=>match comp ab b (own++[x]) L1 (p+r1.length+1) with
   |none=>none
   |some (r2,L2)=>some (r1++[.row .keep]++r2++[.row (.drop 1)],L2)
 |.ift c a b,own,L,p=>match comp ab c own L p with
  |none=>none
  |some (r1,L1)=>match comp ab a own L1 (p+r1.length+1) with
   |none=>none
   |some (r2,L2)=>match comp ab b own L2 (p+r1.length+1+r2.length+1) with
    |none=>none
    |some (r3,L3)=>some (r1++[.row (.unl (p+r1.length+1+r2.length+1))]++r2++[.row (.jump (p+r1.length+1+r2.length+1+r3.length))]++r3,L3)
 |.fn x b,own,L,_=>match ixAll own (namesOf ab own) with
  |none=>none
  |some js=>some ([.late L.length js],L++[(namesOf ab own++[x],b)])
 |.op k a b,own,L,p=>match comp ab a own L p with
  |none=>none
  |some (r1,L1)=>match comp ab b own L1 (p+r1.length) with
   |none=>none
   |some (r2,L2)=>some (r1++r2++[.row (.reck k)],L2)
 |.call a b,own,L,p=>match comp ab a own L p with
  |none=>none
  |some (r1,L1)=>match comp ab b own L1 (p+r1.length) with
   |none=>none
   |some (r2,L2)=>some (r1++r2++[.row .call],L2)
 |.ring x bs b,own,L,p=>match ixAll (own++nms x bs.length) (namesOf ab (own++nms x bs.length)) with
  |none=>none
  |some js=>match comp ab b (own++nms x bs.length) (L++bs.map fun t=>(namesOf ab (own++nms x bs.length)++[x+bs.length],t)) (p+1) with
   |none=>none
   |some (r,L2)=>some ([.lateR ((List.range bs.length).map fun i=>(L.length+i,js))]++r++[.row (.drop bs.length)],L2)
mutual
def sz:Tm→Nat
 |.n _=>1
 |.v _=>1
 |.g _=>1
 |.lt _ t b=>sz t+sz b+1
 |.ift c a b=>sz c+sz a+sz b+1
 |.fn _ b=>sz b+1
 |.op _ a b=>sz a+sz b+1
 |.call a b=>sz a+sz b+1
 |.ring _ bs b=>szL bs+sz b+1
def szL:List Tm→Nat
 |[]=>0
 |t::ts=>sz t+1+szL ts
end
def Phi (L:List Lt):Nat:=(L.map fun p=>2*sz p.2+1).sum
theorem Phi_app (a b:List Lt):Phi (a++b)=Phi a+Phi b:=by unfold Phi;rw[List.map_append,List.sum_append]
mutual
def GT:Nat→Tm→Prop
 |_, .n i=>In60b i=true
 |m, .v x=>x<m
 |_, .g _=>True
 |m, .lt x t b=>x=m∧GT m t∧GT (m+1) b
 |m, .ift c a b=>GT m c∧GT m a∧GT m b
 |m, .fn x b=>x=m∧GT (m+1) b
 |m, .op k a b=>k≤3∧GT m a∧GT m b
 |m, .call a b=>GT m a∧GT m b
 |m, .ring x bs b=>x=m∧(1≤bs.length∧bs.length≤5)∧GTL (m+bs.length+1) bs∧GT (m+bs.length) b
def GTL:Nat→List Tm→Prop
 |_,[]=>True
 |m,t::ts=>GT m t∧GTL m ts
end
theorem GTL_mem {m:Nat}:∀{bs:List Tm} {b:Tm},GTL m bs→b∈bs→GT m b
 |t::ts,b,w,h=>by
  rcases List.mem_cons.mp h with z|z
  ·subst z;exact w.1
  ·exact GTL_mem w.2 z
theorem depL_mem:∀{bs:List Tm} {b:Tm},b∈bs→dep b≤depL bs
 |t::ts,b,h=>by
  unfold depL
  rcases List.mem_cons.mp h with z|z
  ·subst z;omega
  ·have:=depL_mem z;omega
theorem Phi_ring (ns:List Nat):∀(bs:List Tm),bs.length+Phi (bs.map fun t=>(ns,t))=2*szL bs
 |[]=>rfl
 |t::ts=>by
  have:=Phi_ring ns ts
  unfold szL
  unfold Phi at this ⊢
  simp only[List.map_cons,List.sum_cons,List.length_cons]
  omega
mutual
theorem GT.wb:∀{t:Tm} {m:Nat},GT m t→WB m t
 |.n i,_,h=>trivial
 |.v x,_,h=>trivial
 |.g j,_,h=>trivial
 |.lt x t b,_,⟨h0,h1,h2⟩=>⟨h0,h1.wb,h2.wb⟩
 |.ift c a b,_,⟨h0,h1,h2⟩=>⟨h0.wb,h1.wb,h2.wb⟩
 |.fn x b,_,⟨h0,h1⟩=>⟨h0,h1.wb⟩
 |.op j a b,_,⟨h0,h1,h2⟩=>⟨h1.wb,h2.wb⟩
 |.call a b,_,⟨h1,h2⟩=>⟨h1.wb,h2.wb⟩
 |.ring x bs b,_,⟨h0,h1,h2,h3⟩=>⟨h0,h2.wb,h3.wb⟩
theorem GTL.wb:∀{ts:List Tm} {m:Nat},GTL m ts→WBL m ts
 |[],_,_=>trivial
 |t::ts,_,⟨h1,h2⟩=>⟨h1.wb,h2.wb⟩
end
mutual
theorem WT.gt {S:List Kd}:∀{t:Tm} {Γ:List Kd} {k:Kd},WT S Γ t k→GT Γ.length t
 |.n i,_,_,h=>h.2
 |.v x,_,_,h=>(List.getElem?_eq_some_iff.mp h).1
 |.g j,_,_,h=>trivial
 |.lt x t b,Γ,_,⟨h0,k',h1,h2⟩=>⟨h0,h1.gt,by have:=h2.gt;rwa [List.length_append]at this⟩
 |.ift c a b,_,_,⟨h0,h1,h2⟩=>⟨h0.gt,h1.gt,h2.gt⟩
 |.fn x b,Γ,_,⟨h0,a,r,h1,h2⟩=>⟨h0,by have:=h2.gt;rwa [List.length_append]at this⟩
 |.op j a b,_,_,⟨h0,h1,h2,h3⟩=>⟨h1,h2.gt,h3.gt⟩
 |.call a b,_,_,⟨k',h1,h2⟩=>⟨h1.gt,h2.gt⟩
 |.ring x bs b,Γ,_,⟨h0,h1,h2,h3⟩=>⟨h0,h1,by have:=h2.gt;simpa[Nat.add_assoc] using this,by have:=h3.gt;simpa using this⟩
theorem WTL.gt {S:List Kd}:∀{ts:List Tm} {Γ:List Kd},WTL S Γ ts→GTL Γ.length ts
 |[],_,_=>trivial
 |t::ts,_,⟨h1,h2⟩=>⟨h1.gt,h2.gt⟩
end
def LtOk (p:Lt):Prop:=∃names x,p.1=names++[x]∧(∀y,y∈names↔y<x)∧GT (x+1) p.2∧x+1+6*dep p.2≤150∧p.1.length+6*dep p.2≤150∧dep p.2≤12
def okR (n:Nat):Lr→Prop
 |.row _=>True
 |.late k _=>k<n
 |.lateR ks=>(1≤ks.length∧ks.length≤5)∧∀p∈ks,p.1<n
 |.hole=>False
theorem ix_mem {x:Nat}:∀{own:List Nat},x∈own→∃j,ixOf x own=some j
 |y::ys,h=>by
  unfold ixOf
  by_cases c:x=y
  ·exact⟨0,if_pos c⟩
  ·rw[if_neg c]
   rcases List.mem_cons.mp h with z|z
   ·exact absurd z c
   ·obtain⟨j,e⟩:=ix_mem z
    exact⟨j+1,by rw[e];rfl⟩
theorem ixAll_mem {own:List Nat}:∀{ns:List Nat},(∀y∈ns,y∈own)→∃js,ixAll own ns=some js
 |[],_=>⟨[],rfl⟩
 |y::ys,h=>by
  obtain⟨j,e⟩:=ix_mem (h y List.mem_cons_self)
  obtain⟨js,e2⟩:=ixAll_mem fun z hz=>h z (List.mem_cons_of_mem _ hz)
  exact⟨j::js,by unfold ixAll;rw[e,e2]⟩
structure Made (L:List Lt)(t:Tm)(r:List Lr)(L':List Lt)(N:List Lt):Prop where
 ex:L'=L++N
 lr:r.length+Phi N≤2*sz t
 ln:N.length+Phi N≤2*sz t
 ok:∀q∈N,LtOk q
 rw:∀x∈r,okR L'.length x
theorem okR.mono {m n:Nat}(h:m≤n):∀{x:Lr},okR m x→okR n x
 |.row _,_=>trivial
 |.late _ _,z=>Nat.lt_of_lt_of_le z h
 |.lateR _,z=>⟨z.1,fun p hp=>Nat.lt_of_lt_of_le (z.2 p hp) h⟩
theorem mem_snoc {own:List Nat}{m:Nat}(h:∀y,y∈own↔y<m):∀y,y∈own++[m]↔y<m+1:=fun y=>by
 rw[List.mem_append,List.mem_singleton,h y]
 omega
theorem mem_nms {own:List Nat}{m k:Nat}(h:∀y,y∈own↔y<m):∀y,y∈own++nms m k↔y<m+k:=fun y=>by
 rw[List.mem_append,h y]
 unfold nms
 simp only[List.mem_map,List.mem_range]
 constructor
 ·rintro(z|⟨i,hi,rfl⟩)<;>omega
 ·intro z
  by_cases c:y<m
  ·exact .inl c
  ·exact .inr ⟨y-m,by omega,by omega⟩
theorem Made.two {L L1 L2 N1 N2:List Lt}{a b t:Tm}{r1 r2 r:List Lr}(A:Made L a r1 L1 N1)(B:Made L1 b r2 L2 N2)(hs:2*sz a+2*sz b+2≤2*sz t)(hr:r.length≤r1.length+r2.length+2)(hm:∀x∈r,x∈r1∨x∈r2∨∃w,x=.row w):Made L t r L2 (N1++N2):=by
 have e2:L2.length=L1.length+N2.length:=by rw[B.ex,List.length_append]
 refine⟨by rw[B.ex,A.ex,List.append_assoc],by rw[Phi_app];have:=A.lr;have:=B.lr;omega,by rw[Phi_app,List.length_append];have:=A.ln;have:=B.ln;omega,fun q hq=>?_,fun x hx=>?_⟩
 ·rcases List.mem_append.mp hq with z|z
  ·exact A.ok q z
  ·exact B.ok q z
 ·rcases hm x hx with z|z|⟨w,rfl⟩
  ·exact(A.rw x z).mono (by omega)
  ·exact B.rw x z
  ·trivial
theorem comp_all {ab:Bool}:∀{t:Tm} {own:List Nat} {L:List Lt} {p m:Nat},GT m t→(∀y,y∈own↔y<m)→m+6*dep t≤150→own.length+6*dep t≤150→dep t≤13→∃r L' N,comp ab t own L p=some (r,L')∧Made L t r L' N
 |.n i,own,L,p,m,g,ho,h1,h2,h3=>⟨_,_,[],rfl,by simp,by simp[sz,Phi],by simp[sz,Phi],fun q hq=>by simp at hq,fun x hx=>by simp at hx;subst hx;trivial⟩
 |.g i,own,L,p,m,g,ho,h1,h2,h3=>⟨_,_,[],rfl,by simp,by simp[sz,Phi],by simp[sz,Phi],fun q hq=>by simp at hq,fun x hx=>by simp at hx;subst hx;trivial⟩
 |.v x,own,L,p,m,g,ho,h1,h2,h3=>by
  obtain⟨j,e⟩:=ix_mem ((ho x).mpr g)
  exact⟨[.row (.loc j)],L,[],by unfold comp;rw[e];rfl,by simp,by simp[sz,Phi],by simp[sz,Phi],fun q hq=>by simp at hq,fun x hx=>by simp at hx;subst hx;trivial⟩
 |.fn x b,own,L,p,m,g,ho,h1,h2,h3=>by
  obtain⟨hx,gb⟩:=g
  simp only[dep]at h1 h2 h3
  obtain⟨js,e⟩:=ixAll_mem (own:=own) (ns:=namesOf ab own) fun y hy=>namesOf_mem.mp hy
  refine⟨[.late L.length js],L++[(namesOf ab own++[x],b)],[(namesOf ab own++[x],b)],by unfold comp;rw[e],rfl,by simp[sz,Phi];omega,by simp[sz,Phi];omega,fun q hq=>?_,fun y hy=>?_⟩
  ·rw[List.mem_singleton]at hq
   subst hq
   refine⟨namesOf ab own,x,rfl,fun y=>by rw[namesOf_mem,ho y,hx],by rw[hx];exact gb,by show x+1+6*dep b≤150;omega,?_,by show dep b≤12;omega⟩
   show(namesOf ab own++[x]).length+6*dep b≤150
   rw[List.length_append,namesOf_len];simp;omega
  ·rw[List.mem_singleton]at hy
   subst hy
   show L.length<(L++[_]).length
   simp
 |.lt x t b,own,L,p,m,g,ho,h1,h2,h3=>by
  obtain⟨hx,g1,g2⟩:=g
  subst hx
  simp only[dep]at h1 h2 h3
  have dm1:=Nat.le_max_left (dep t) (dep b)
  have dm2:=Nat.le_max_right (dep t) (dep b)
  generalize max (dep t) (dep b)=Dm at h1 h2 h3 dm1 dm2
  obtain⟨r1,L1,N1,e1,M1⟩:=comp_all (ab:=ab) (L:=L) (p:=p) g1 ho (by omega) (by omega) (by omega)
  obtain⟨r2,L2,N2,e2,M2⟩:=comp_all (ab:=ab) (L:=L1) (p:=p+r1.length+1) g2 (mem_snoc ho) (by omega) (by rw[List.length_append];simp;omega) (by omega)
  refine⟨_,L2,N1++N2,by unfold comp;rw[e1];dsimp only;rw[e2],M1.two M2 (by simp only[sz];omega) (by simp;omega) fun y hy=>?_⟩
  simp only[List.mem_append,List.mem_singleton]at hy
  rcases hy with ((z|z)|z)|z
  ·exact .inl z
  ·exact .inr (.inr ⟨_,z⟩)
  ·exact .inr (.inl z)
  ·exact .inr (.inr ⟨_,z⟩)
 |.ift c a b,own,L,p,m,g,ho,h1,h2,h3=>by
  obtain⟨g0,g1,g2⟩:=g
  simp only[dep]at h1 h2 h3
  have dm1:=Nat.le_max_left (dep a) (dep b)
  have dm2:=Nat.le_max_right (dep a) (dep b)
  generalize max (dep a) (dep b)=Dm at h1 h2 h3 dm1 dm2
  have dm3:=Nat.le_max_left (dep c) Dm
  have dm4:=Nat.le_max_right (dep c) Dm
  generalize max (dep c) Dm=Dn at h1 h2 h3 dm3 dm4
  obtain⟨r1,L1,N1,e1,M1⟩:=comp_all (ab:=ab) (L:=L) (p:=p) g0 ho (by omega) (by omega) (by omega)
  obtain⟨r2,L2,N2,e2,M2⟩:=comp_all (ab:=ab) (L:=L1) (p:=p+r1.length+1) g1 ho (by omega) (by omega) (by omega)
  obtain⟨r3,L3,N3,e3,M3⟩:=comp_all (ab:=ab) (L:=L2) (p:=p+r1.length+1+r2.length+1) g2 ho (by omega) (by omega) (by omega)
  have l2:L2.length=L1.length+N2.length:=by rw[M2.ex,List.length_append]
  have l3:L3.length=L2.length+N3.length:=by rw[M3.ex,List.length_append]
  refine⟨_,L3,N1++(N2++N3),by unfold comp;rw[e1];dsimp only;rw[e2];dsimp only;rw[e3],⟨by rw[M3.ex,M2.ex,M1.ex];simp,?_,?_,fun q hq=>?_,fun y hy=>?_⟩⟩
  ·have:=M1.lr;have:=M2.lr;have:=M3.lr
   simp only[Phi_app,sz,List.length_append,List.length_singleton];omega
  ·have:=M1.ln;have:=M2.ln;have:=M3.ln
   simp only[Phi_app,sz,List.length_append];omega
  ·simp only[List.mem_append]at hq
   rcases hq with z|z|z
   ·exact M1.ok q z
   ·exact M2.ok q z
   ·exact M3.ok q z
  ·simp only[List.mem_append,List.mem_singleton]at hy
   rcases hy with (((z|z)|z)|z)|z
   ·exact(M1.rw y z).mono (by omega)
   ·subst z;trivial
   ·exact(M2.rw y z).mono (by omega)
   ·subst z;trivial
   ·exact M3.rw y z
 |.op k a b,own,L,p,m,g,ho,h1,h2,h3=>by
  obtain⟨hk,g1,g2⟩:=g
  simp only[dep]at h1 h2 h3
  have dm1:=Nat.le_max_left (dep a) (dep b)
  have dm2:=Nat.le_max_right (dep a) (dep b)
  generalize max (dep a) (dep b)=Dm at h1 h2 h3 dm1 dm2
  obtain⟨r1,L1,N1,e1,M1⟩:=comp_all (ab:=ab) (L:=L) (p:=p) g1 ho (by omega) (by omega) (by omega)
  obtain⟨r2,L2,N2,e2,M2⟩:=comp_all (ab:=ab) (L:=L1) (p:=p+r1.length) g2 ho (by omega) (by omega) (by omega)
  refine⟨_,L2,N1++N2,by unfold comp;rw[e1];dsimp only;rw[e2],M1.two M2 (by simp only[sz];omega) (by simp;omega) fun y hy=>?_⟩
  simp only[List.mem_append,List.mem_singleton]at hy
  rcases hy with (z|z)|z
  ·exact .inl z
  ·exact .inr (.inl z)
  ·exact .inr (.inr ⟨_,z⟩)
 |.ring x bs b,own,L,p,m,g,ho,h1,h2,h3=>by
  obtain⟨hx,l5,gl,gb⟩:=g
  subst hx
  simp only[dep]at h1 h2 h3
  have dm1:=Nat.le_max_left (depL bs) (dep b)
  have dm2:=Nat.le_max_right (depL bs) (dep b)
  generalize max (depL bs) (dep b)=Dm at h1 h2 h3 dm1 dm2
  have lo:(own++nms x bs.length).length=own.length+bs.length:=by rw[List.length_append,nms_len]
  obtain⟨js,e⟩:=ixAll_mem (own:=own++nms x bs.length) (ns:=namesOf ab (own++nms x bs.length)) fun y hy=>namesOf_mem.mp hy
  obtain⟨r,L2,N2,e2,M2⟩:=comp_all (ab:=ab) (L:=L++bs.map fun t=>(namesOf ab (own++nms x bs.length)++[x+bs.length],t)) (p:=p+1) gb (mem_nms ho) (by omega) (by rw[lo];omega) (by omega)
  have ph:=Phi_ring (namesOf ab (own++nms x bs.length)++[x+bs.length]) bs
  refine⟨_,L2,(bs.map fun t=>(namesOf ab (own++nms x bs.length)++[x+bs.length],t))++N2,by unfold comp;rw[e];dsimp only;rw[e2],⟨by rw[M2.ex,List.append_assoc],?_,?_,fun q hq=>?_,fun y hy=>?_⟩⟩
  ·have:=M2.lr
   simp only[Phi_app,sz,List.length_append,List.length_singleton];omega
  ·have:=M2.ln
   simp only[Phi_app,sz,List.length_append,List.length_map];omega
  ·rcases List.mem_append.mp hq with z|z
   ·rw[List.mem_map]at z
    obtain⟨t,ht,rfl⟩:=z
    have dt:=depL_mem ht
    refine⟨namesOf ab (own++nms x bs.length),x+bs.length,rfl,fun y=>by rw[namesOf_mem];exact mem_nms ho y,GTL_mem gl ht,by show x+bs.length+1+6*dep t≤150;omega,?_,by show dep t≤12;omega⟩
    show(namesOf ab (own++nms x bs.length)++[x+bs.length]).length+6*dep t≤150
    rw[List.length_append,namesOf_len,lo];simp;omega
   ·exact M2.ok q z
  ·simp only[List.mem_append,List.mem_singleton]at hy
   rcases hy with (z|z)|z
   ·subst z
    refine⟨by rw[List.length_map,List.length_range];exact l5,fun q hq=>?_⟩
    rw[List.mem_map]at hq
    obtain⟨i,hi,rfl⟩:=hq
    have:=List.mem_range.mp hi
    rw[M2.ex]
    simp only[List.length_append,List.length_map]
    omega
   ·exact M2.rw y z
   ·subst z;trivial
 |.call a b,own,L,p,m,g,ho,h1,h2,h3=>by
  obtain⟨g1,g2⟩:=g
  simp only[dep]at h1 h2 h3
  have dm1:=Nat.le_max_left (dep a) (dep b)
  have dm2:=Nat.le_max_right (dep a) (dep b)
  generalize max (dep a) (dep b)=Dm at h1 h2 h3 dm1 dm2
  obtain⟨r1,L1,N1,e1,M1⟩:=comp_all (ab:=ab) (L:=L) (p:=p) g1 ho (by omega) (by omega) (by omega)
  obtain⟨r2,L2,N2,e2,M2⟩:=comp_all (ab:=ab) (L:=L1) (p:=p+r1.length) g2 ho (by omega) (by omega) (by omega)
  refine⟨_,L2,N1++N2,by unfold comp;rw[e1];dsimp only;rw[e2],M1.two M2 (by simp only[sz];omega) (by simp;omega) fun y hy=>?_⟩
  simp only[List.mem_append,List.mem_singleton]at hy
  rcases hy with (z|z)|z
  ·exact .inl z
  ·exact .inr (.inl z)
  ·exact .inr (.inr ⟨_,z⟩)
def wholeL (bg:List Nat):List (Nat×List Nat)→Option (List (Nat×List Nat))
 |[]=>some []
 |k::ks=>match bg[k.1]?,wholeL bg ks with
  |some b,some r=>some ((b,k.2)::r)
  |_,_=>none
def wholeR (bg:List Nat):Lr→Option Rw
 |.row r=>some r
 |.late k js=>(bg[k]?).map fun b=>.close b js
 |.lateR ks=>(wholeL bg ks).map .ring
 |.hole=>none
def wholeAll (bg:List Nat):List Lr→Option (List Rw)
 |[]=>some []
 |r::rs=>match wholeR bg r,wholeAll bg rs with
  |some x,some xs=>some (x::xs)
  |_,_=>none
def bodies (ab:Bool):Nat→List Lr→List Lt→List Nat→Option (List Lr×List Lt×List Nat)
 |0,_,_,_=>none
 |m+1,rows,L,bg=>match L[bg.length]? with
  |none=>some (rows,L,bg)
  |some nb=>match comp ab nb.2 nb.1 L rows.length with
   |none=>none
   |some (r,L')=>bodies ab m (rows++r++[.row .back]) L' (bg++[rows.length])
def compAll (ab:Bool):List Tm→Tm→List Lr→List Lt→Option (List Lr×List Lt)
 |[],t,rows,L=>match comp ab t [] L rows.length with
  |none=>none
  |some (r,L1)=>some (rows++r++[.row .back],L1)
 |u::us,t,rows,L=>match comp ab u [] L rows.length with
  |none=>none
  |some (r,L1)=>compAll ab us t (rows++r++[.row .store]) L1
def Sub (code:List Rw)(bg:List Nat)(r:List Lr)(p:Nat):Prop:=∀(i:Nat) lr,r[i]?=some lr→∃w,wholeR bg lr=some w∧code[p+i]?=some w
def Lts (code:List Rw)(bg:List Nat)(N:List Lt)(k:Nat):Prop:=∀(i:Nat) nb,N[i]?=some nb→∃to e,bg[k+i]?=some to∧At code nb.2 nb.1 to e∧code[e]?=some .back
section
variable {code:List Rw}{bg:List Nat}
theorem Sub.left {a b:List Lr}{p:Nat}(h:Sub code bg (a++b) p):Sub code bg a p:=fun i lr e=>h i lr (by rw[List.getElem?_append_left (List.getElem?_eq_some_iff.mp e).1];exact e)
theorem Sub.right {a b:List Lr}{p:Nat}(h:Sub code bg (a++b) p):Sub code bg b (p+a.length):=fun i lr e=>by
 have:=h (a.length+i) lr (by rw[List.getElem?_append_right (by omega)];simpa using e)
 rwa [←Nat.add_assoc]at this
theorem Sub.one {w:Rw}{p:Nat}(h:Sub code bg [.row w] p):code[p]?=some w:=by
 obtain⟨w',e,g⟩:=h 0 _ rfl
 cases e
 exact g
theorem Lts.left {a b:List Lt}{k:Nat}(h:Lts code bg (a++b) k):Lts code bg a k:=fun i lr e=>h i lr (by rw[List.getElem?_append_left (List.getElem?_eq_some_iff.mp e).1];exact e)
theorem Lts.right {a b:List Lt}{k:Nat}(h:Lts code bg (a++b) k):Lts code bg b (k+a.length):=fun i lr e=>by
 have:=h (a.length+i) lr (by rw[List.getElem?_append_right (by omega)];simpa using e)
 rwa [←Nat.add_assoc]at this
theorem wholeL_at {inn names js:List Nat}{y:Nat}(ei:ixAll inn names=some js)(ln:names.length=inn.length):∀{bs:List Tm} {k0:Nat} {fs:List (Nat×List Nat)},wholeL bg ((List.range bs.length).map fun i=>(k0+i,js))=some fs→(∀(i:Nat) t,bs[i]?=some t→∃to e,bg[k0+i]?=some to∧At code t (names++[y]) to e∧code[e]?=some .back)→fs.length=bs.length∧AtL code bs inn y fs
 |[],k0,fs,h,g=>by cases h;exact⟨rfl,trivial⟩
 |t::ts,k0,fs,h,g=>by
  obtain⟨to,e,h1,h2,h3⟩:=g 0 t rfl
  rw[List.length_cons,List.range_succ_eq_map,List.map_cons,List.map_map]at h
  unfold wholeL at h
  dsimp only at h
  rw[h1]at h
  have em:(List.range ts.length).map ((fun i=>(k0+i,js))∘Nat.succ)=(List.range ts.length).map fun i=>(k0+1+i,js):=List.map_congr_left fun i _=>by show(k0+(i+1),js)=_;rw[show k0+(i+1)=k0+1+i by omega]
  rw[em]at h
  cases e2:wholeL bg ((List.range ts.length).map fun i=>(k0+1+i,js)) with
  |none=>rw[e2]at h;cases h
  |some fs'=>
   rw[e2]at h
   cases h
   obtain⟨l,a⟩:=wholeL_at ei ln (k0:=k0+1) e2 fun i t' ht=>by
    have:=g (i+1) t' (by simpa using ht)
    rwa [show k0+(i+1)=k0+1+i by omega]at this
   exact⟨by simp[l],(to,js),fs',names,e,rfl,ei,ln,h2,h3,a⟩
theorem comp_at {ab:Bool}:∀{t:Tm} {own:List Nat} {L:List Lt} {p m:Nat} {r:List Lr} {L':List Lt},GT m t→comp ab t own L p=some (r,L')→∃N,L'=L++N∧(Sub code bg r p→Lts code bg N L.length→At code t own p (p+r.length))
 |.n i,own,L,p,m,r,L',g,h=>by
  cases h
  exact⟨[],by simp,fun s _=>⟨g,s.one,rfl⟩⟩
 |.g i,own,L,p,m,r,L',g,h=>by
  cases h
  exact⟨[],by simp,fun s _=>⟨s.one,rfl⟩⟩
 |.v x,own,L,p,m,r,L',g,h=>by
  unfold comp at h
  cases e:ixOf x own with
  |none=>rw[e]at h;cases h
  |some j=>
   rw[e]at h
   cases h
   exact⟨[],by simp,fun s _=>⟨j,e,s.one,rfl⟩⟩
 |.fn x b,own,L,p,m,r,L',g,h=>by
  unfold comp at h
  cases e:ixAll own (namesOf ab own) with
  |none=>rw[e]at h;cases h
  |some js=>
   rw[e]at h
   cases h
   refine⟨[(namesOf ab own++[x],b)],rfl,fun s l=>?_⟩
   obtain⟨to,e1,h1,h2,h3⟩:=l 0 _ rfl
   obtain⟨w,hw,hc⟩:=s 0 _ rfl
   unfold wholeR at hw
   rw[Nat.add_zero]at h1
   dsimp only at hw
   rw[h1]at hw
   cases hw
   exact⟨to,js,namesOf ab own,e1,e,namesOf_len ab own,hc,rfl,h2,h3⟩
 |.lt x t b,own,L,p,m,r,L',g,h=>by
  obtain⟨hx,g1,g2⟩:=g
  unfold comp at h
  cases e1:comp ab t own L p with
  |none=>rw[e1]at h;cases h
  |some q1=>
   obtain⟨r1,L1⟩:=q1
   rw[e1]at h
   dsimp only at h
   cases e2:comp ab b (own++[x]) L1 (p+r1.length+1) with
   |none=>rw[e2]at h;cases h
   |some q2=>
    obtain⟨r2,L2⟩:=q2
    rw[e2]at h
    cases h
    obtain⟨N1,rfl,k1⟩:=comp_at g1 e1
    obtain⟨N2,rfl,k2⟩:=comp_at g2 e2
    refine⟨N1++N2,by simp,fun s l=>?_⟩
    have s4:=s.right
    have s3:=s.left.right
    have s2:=s.left.left.right
    have s1:=s.left.left.left
    simp only[List.length_append,List.length_singleton]at s2 s3 s4 ⊢
    refine⟨p+r1.length,p+r1.length+1+r2.length,k1 s1 l.left,s2.one,?_,?_,by omega⟩
    ·refine k2 (by rw[Nat.add_assoc];exact s3) ?_
     rw[List.length_append]
     exact l.right
    ·have:=s4.one
     rwa [show p+(r1.length+1+r2.length)=p+r1.length+1+r2.length by omega]at this
 |.ift c a b,own,L,p,m,r,L',g,h=>by
  obtain⟨g0,g1,g2⟩:=g
  unfold comp at h
  cases e1:comp ab c own L p with
  |none=>rw[e1]at h;cases h
  |some q1=>
   obtain⟨r1,L1⟩:=q1
   rw[e1]at h
   dsimp only at h
   cases e2:comp ab a own L1 (p+r1.length+1) with
   |none=>rw[e2]at h;cases h
   |some q2=>
    obtain⟨r2,L2⟩:=q2
    rw[e2]at h
    dsimp only at h
    cases e3:comp ab b own L2 (p+r1.length+1+r2.length+1) with
    |none=>rw[e3]at h;cases h
    |some q3=>
     obtain⟨r3,L3⟩:=q3
     rw[e3]at h
     cases h
     obtain⟨N1,rfl,k1⟩:=comp_at g0 e1
     obtain⟨N2,rfl,k2⟩:=comp_at g1 e2
     obtain⟨N3,rfl,k3⟩:=comp_at g2 e3
     refine⟨N1++N2++N3,by simp,fun s l=>?_⟩
     have s5:=s.right
     have s4:=s.left.right
     have s3:=s.left.left.right
     have s2:=s.left.left.left.right
     have s1:=s.left.left.left.left
     have l3:=l.right
     have l2:=l.left.right
     simp only[List.length_append,List.length_singleton]at s2 s3 s4 s5 l2 l3 k2 k3 ⊢
     refine⟨p+r1.length,p+r1.length+1+r2.length,k1 s1 l.left.left,s2.one,k2 (by rw[Nat.add_assoc];exact s3) l2,?_,?_⟩
     ·have:=s4.one
      rw[show p+(r1.length+1+r2.length)=p+r1.length+1+r2.length by omega]at this
      rw[this,show p+(r1.length+1+r2.length+1+r3.length)=p+r1.length+1+r2.length+1+r3.length by omega]
     ·rw[show p+(r1.length+1+r2.length+1+r3.length)=p+r1.length+1+r2.length+1+r3.length by omega]
      refine k3 ?_ (by rw[Nat.add_assoc];exact l3)
      rwa [show p+(r1.length+1+r2.length+1)=p+r1.length+1+r2.length+1 by omega]at s5
 |.ring x bs b,own,L,p,m,r,L',g,h=>by
  obtain⟨hx,l5,gl,gb⟩:=g
  unfold comp at h
  cases e1:ixAll (own++nms x bs.length) (namesOf ab (own++nms x bs.length)) with
  |none=>rw[e1]at h;cases h
  |some js=>
   rw[e1]at h
   dsimp only at h
   cases e2:comp ab b (own++nms x bs.length) (L++bs.map fun t=>(namesOf ab (own++nms x bs.length)++[x+bs.length],t)) (p+1) with
   |none=>rw[e2]at h;cases h
   |some q2=>
    obtain⟨r2,L2⟩:=q2
    rw[e2]at h
    cases h
    obtain⟨N2,rfl,k2⟩:=comp_at gb e2
    refine⟨(bs.map fun t=>(namesOf ab (own++nms x bs.length)++[x+bs.length],t))++N2,by simp,fun s l=>?_⟩
    have s3:=s.right
    have s2:=s.left.right
    obtain⟨w,hw,hc⟩:=s.left.left 0 _ rfl
    have ll:=l.left
    have lr:=l.right
    simp only[List.length_append,List.length_singleton,List.length_map]at s2 s3 lr k2 ⊢
    unfold wholeR at hw
    dsimp only at hw
    cases e3:wholeL bg ((List.range bs.length).map fun i=>(L.length+i,js)) with
    |none=>rw[e3]at hw;cases hw
    |some fs=>
     rw[e3]at hw
     cases hw
     obtain⟨lf,al⟩:=wholeL_at (code:=code) (y:=x+bs.length) e1 (namesOf_len ab _) e3 fun i t ht=>by
      have:=ll i (namesOf ab (own++nms x bs.length)++[x+bs.length],t) (by rw[List.getElem?_map,ht];rfl)
      exact this
     refine⟨fs,p+1+r2.length,hc,lf,l5.2,al,k2 s2 lr,?_,by omega⟩
     have:=s3.one
     rwa [show p+(1+r2.length)=p+1+r2.length by omega]at this
 |.op k a b,own,L,p,m,r,L',g,h=>by
  obtain⟨hk,g1,g2⟩:=g
  unfold comp at h
  cases e1:comp ab a own L p with
  |none=>rw[e1]at h;cases h
  |some q1=>
   obtain⟨r1,L1⟩:=q1
   rw[e1]at h
   dsimp only at h
   cases e2:comp ab b own L1 (p+r1.length) with
   |none=>rw[e2]at h;cases h
   |some q2=>
    obtain⟨r2,L2⟩:=q2
    rw[e2]at h
    cases h
    obtain⟨N1,rfl,k1⟩:=comp_at g1 e1
    obtain⟨N2,rfl,k2⟩:=comp_at g2 e2
    refine⟨N1++N2,by simp,fun s l=>?_⟩
    have s3:=s.right
    have s2:=s.left.right
    have s1:=s.left.left
    simp only[List.length_append,List.length_singleton]at s2 s3 ⊢
    refine⟨p+r1.length,p+r1.length+r2.length,hk,k1 s1 l.left,k2 s2 (by rw[List.length_append];exact l.right),?_,by omega⟩
    have:=s3.one
    rwa [←Nat.add_assoc]at this
 |.call a b,own,L,p,m,r,L',g,h=>by
  obtain⟨g1,g2⟩:=g
  unfold comp at h
  cases e1:comp ab a own L p with
  |none=>rw[e1]at h;cases h
  |some q1=>
   obtain⟨r1,L1⟩:=q1
   rw[e1]at h
   dsimp only at h
   cases e2:comp ab b own L1 (p+r1.length) with
   |none=>rw[e2]at h;cases h
   |some q2=>
    obtain⟨r2,L2⟩:=q2
    rw[e2]at h
    cases h
    obtain⟨N1,rfl,k1⟩:=comp_at g1 e1
    obtain⟨N2,rfl,k2⟩:=comp_at g2 e2
    refine⟨N1++N2,by simp,fun s l=>?_⟩
    have s3:=s.right
    have s2:=s.left.right
    have s1:=s.left.left
    simp only[List.length_append,List.length_singleton]at s2 s3 ⊢
    refine⟨p+r1.length,p+r1.length+r2.length,k1 s1 l.left,k2 s2 (by rw[List.length_append];exact l.right),?_,by omega⟩
    have:=s3.one
    rwa [←Nat.add_assoc]at this
end
theorem wholeL_some {bg:List Nat}:∀{ks:List (Nat×List Nat)},(∀q∈ks,q.1<bg.length)→∃fs,wholeL bg ks=some fs
 |[],_=>⟨[],rfl⟩
 |a::as,h=>by
  obtain⟨fs,e⟩:=wholeL_some (ks:=as) fun q hq=>h q (List.mem_cons_of_mem _ hq)
  exact⟨(bg[a.1]'(h a List.mem_cons_self),a.2)::fs,by unfold wholeL;rw[List.getElem?_eq_getElem (h a List.mem_cons_self),e]⟩
theorem wholeAll_at {bg:List Nat}:∀{rows:List Lr},(∀x∈rows,okR bg.length x)→∃code,wholeAll bg rows=some code∧code.length=rows.length∧∀(i:Nat) lr,rows[i]?=some lr→∃w,wholeR bg lr=some w∧code[i]?=some w
 |[],_=>⟨[],rfl,rfl,fun i lr e=>by simp at e⟩
 |y::ys,h=>by
  obtain⟨code,e,l,g⟩:=wholeAll_at (bg:=bg) fun x hx=>h x (List.mem_cons_of_mem _ hx)
  have hw:∃w,wholeR bg y=some w:=by
   have:=h y List.mem_cons_self
   cases y with
   |row r=>exact⟨r,rfl⟩
   |late k js=>
    have hk:k<bg.length:=this
    exact⟨.close bg[k] js,by show(bg[k]?).map _=_;rw[List.getElem?_eq_getElem hk];rfl⟩
   |lateR ks=>
    have hk:∀q∈ks,q.1<bg.length:=this.2
    have:∃fs,wholeL bg ks=some fs:=wholeL_some hk
    obtain⟨fs,e⟩:=this
    exact⟨.ring fs,by show(wholeL bg ks).map _=_;rw[e];rfl⟩
   |hole=>exact this.elim
  obtain⟨w,hw⟩:=hw
  refine⟨w::code,by unfold wholeAll;rw[hw,e],by simp[l],fun i lr hi=>?_⟩
  cases i with
  |zero=>simp at hi;subst hi;exact⟨w,hw,rfl⟩
  |succ i=>
   obtain⟨w',h1,h2⟩:=g i lr (by simpa using hi)
   exact⟨w',h1,by simpa using h2⟩
def Placed (ab:Bool)(rowsF:List Lr)(LF:List Lt)(bgF:List Nat)(k:Nat)(nb:Lt):Prop:=∃st r Lk N,bgF[k]?=some st∧comp ab nb.2 nb.1 Lk st=some (r,Lk++N)∧k<Lk.length∧(∀(i:Nat) x,N[i]?=some x→LF[Lk.length+i]?=some x)∧∀(i:Nat) lr,(r++[.row .back])[i]?=some lr→rowsF[st+i]?=some lr
theorem bodies_all {ab:Bool}{B:Nat}:∀(m:Nat) (rows:List Lr) (L:List Lt) (bg:List Nat),Phi (L.drop bg.length)<m→(∀x∈rows,okR L.length x)→(∀nb∈L,LtOk nb)→bg.length≤L.length→rows.length+Phi (L.drop bg.length)≤B→L.length+Phi (L.drop bg.length)≤B→
  ∃rowsF LF bgF,bodies ab m rows L bg=some (rowsF,LF,bgF)∧(∃X,rowsF=rows++X)∧(∃Y,LF=L++Y)∧(∃Z,bgF=bg++Z)∧bgF.length=LF.length∧rowsF.length≤B∧LF.length≤B∧(∀x∈rowsF,okR LF.length x)∧(∀nb∈LF,LtOk nb)∧∀(k:Nat) nb,bg.length≤k→LF[k]?=some nb→Placed ab rowsF LF bgF k nb
 |0,_,_,_,h,_,_,_,_,_=>absurd h (Nat.not_lt_zero _)
 |m+1,rows,L,bg,hm,hr,hl,hb,b1,b2=>by
  unfold bodies
  cases hat:L[bg.length]? with
  |none=>
   rw[List.getElem?_eq_none_iff]at hat
   exact⟨rows,L,bg,rfl,⟨[],by simp⟩,⟨[],by simp⟩,⟨[],by simp⟩,by omega,by omega,by omega,hr,hl,fun k nb hk e=>absurd (List.getElem?_eq_some_iff.mp e).1 (by omega)⟩
  |some nb=>
   have hlt:bg.length<L.length:=(List.getElem?_eq_some_iff.mp hat).1
   have ok:=hl nb (List.mem_of_getElem? hat)
   obtain⟨names,x,en,mem,gt,h40,h60,h12⟩:=ok
   obtain⟨r,L',N,ec,M⟩:=comp_all (ab:=ab) (t:=nb.2) (own:=nb.1) (L:=L) (p:=rows.length) gt (by rw[en];exact mem_snoc mem) h40 h60 (by omega)
   have eL:=M.ex
   subst eL
   dsimp only
   rw[ec]
   dsimp only
   have dr:L.drop bg.length=nb::L.drop (bg.length+1):=by
    rw[List.drop_eq_getElem_cons hlt]
    congr 1
    have:=(List.getElem?_eq_some_iff.mp hat).2
    exact this
   have ph:Phi (L.drop bg.length)=2*sz nb.2+1+Phi (L.drop (bg.length+1)):=by rw[dr];unfold Phi;rw[List.map_cons,List.sum_cons]
   have dr2:(L++N).drop (bg++[rows.length]).length=L.drop (bg.length+1)++N:=by
    rw[List.length_append,List.length_singleton,List.drop_append_of_le_length (by omega)]
   have ph2:Phi ((L++N).drop (bg++[rows.length]).length)=Phi (L.drop (bg.length+1))+Phi N:=by rw[dr2,Phi_app]
   have m1:=M.lr
   have m2:=M.ln
   obtain⟨rowsF,LF,bgF,e,⟨X,eX⟩,⟨Y,eY⟩,⟨Z,eZ⟩,c1,c2,c3,c4,c5,c6⟩:=bodies_all (ab:=ab) (B:=B) m (rows++r++[.row .back]) (L++N) (bg++[rows.length]) (by rw[ph2];omega) (fun y hy=>by
    simp only[List.mem_append,List.mem_singleton]at hy
    rcases hy with (z|z)|z
    ·exact(hr y z).mono (by rw[List.length_append];omega)
    ·exact M.rw y z
    ·subst z;trivial) (fun q hq=>by
    rcases List.mem_append.mp hq with z|z
    ·exact hl q z
    ·exact M.ok q z) (by simp only[List.length_append,List.length_singleton];omega) (by rw[ph2];simp only[List.length_append,List.length_singleton];omega) (by rw[ph2];simp only[List.length_append];omega)
   refine⟨rowsF,LF,bgF,e,⟨r++[.row .back]++X,by rw[eX];simp⟩,⟨N++Y,by rw[eY];simp⟩,⟨[rows.length]++Z,by rw[eZ];simp⟩,c1,c2,c3,c4,c5,fun k nb' hk hnb=>?_⟩
   by_cases z:k=bg.length
   ·subst z
    have e0:LF[bg.length]?=some nb:=by rw[eY,List.append_assoc,List.getElem?_append_left hlt];exact hat
    rw[e0]at hnb
    cases hnb
    refine⟨rows.length,r,L,N,by rw[eZ,List.append_assoc,List.getElem?_append_right (Nat.le_refl _)];simp,ec,hlt,fun i x' hx=>?_,fun i lr hi=>?_⟩
    ·rw[eY,List.append_assoc,List.getElem?_append_right (by omega),Nat.add_sub_cancel_left,List.getElem?_append_left (List.getElem?_eq_some_iff.mp hx).1]
     exact hx
    ·rw[eX,List.append_assoc,List.append_assoc,←List.append_assoc r,List.getElem?_append_right (by omega),Nat.add_sub_cancel_left,List.getElem?_append_left (List.getElem?_eq_some_iff.mp hi).1]
     exact hi
   ·exact c6 k nb' (by simp only[List.length_append,List.length_singleton];omega) hnb
theorem placed_at {ab:Bool}{rowsF:List Lr}{LF:List Lt}{bgF:List Nat}{code:List Rw}(hw:∀(i:Nat) lr,rowsF[i]?=some lr→∃w,wholeR bgF lr=some w∧code[i]?=some w)(ok:∀nb∈LF,LtOk nb)(pl:∀(k:Nat) nb,LF[k]?=some nb→Placed ab rowsF LF bgF k nb):
  ∀(n k:Nat) nb,LF.length≤n+k→LF[k]?=some nb→∃to e,bgF[k]?=some to∧At code nb.2 nb.1 to e∧code[e]?=some .back
 |0,k,nb,hn,h=>absurd (List.getElem?_eq_some_iff.mp h).1 (by omega)
 |n+1,k,nb,hn,h=>by
  obtain⟨st,r,Lk,N,e1,e2,e3,e4,e5⟩:=pl k nb h
  obtain⟨names,x,en,mem,gt,h40,h60,h12⟩:=ok nb (List.mem_of_getElem? h)
  obtain⟨N',eN,g⟩:=comp_at (code:=code) (bg:=bgF) gt e2
  have:N'=N:=List.append_cancel_left eN.symm
  subst this
  have sub:Sub code bgF (r++[.row .back]) st:=fun i lr hi=>hw _ _ (e5 i lr hi)
  refine⟨st,st+r.length,e1,g sub.left fun i nb' hi=>?_,sub.right.one⟩
  exact placed_at hw ok pl n (Lk.length+i) nb' (by omega) (e4 i nb' hi)
def AtAll (code:List Rw):List Tm→Tm→Nat→Prop
 |[],t,p=>∃q,At code t [] p q∧code[q]?=some .back
 |u::us,t,p=>∃p1,At code u [] p p1∧code[p1]?=some .store∧AtAll code us t (p1+1)
def szP (us:List Tm)(t:Tm):Nat:=(us.map fun u=>2*sz u+1).sum+2*sz t+1
def Own (t:Tm):Prop:=GT 0 t∧dep t≤12
structure MadeA (L:List Lt)(n:Nat)(X:List Lr)(L' N:List Lt):Prop where
 ex:L'=L++N
 lr:X.length+Phi N≤n
 ln:N.length+Phi N≤n
 ok:∀q∈N,LtOk q
 rw:∀x∈X,okR L'.length x
theorem compAll_all {ab:Bool}:∀{us:List Tm} {t:Tm} {rows:List Lr} {L:List Lt},(∀u∈us,Own u)→Own t→∃X L' N,compAll ab us t rows L=some (rows++X,L')∧MadeA L (szP us t) X L' N∧∀code bg,Sub code bg X rows.length→Lts code bg N L.length→AtAll code us t rows.length
 |[],t,rows,L,hu,ht=>by
  obtain⟨r,L',N,e,M⟩:=comp_all (ab:=ab) (t:=t) (own:=[]) (L:=L) (p:=rows.length) ht.1 (fun y=>by simp) (by have:=ht.2;omega) (by have:=ht.2;simp;omega) (by have:=ht.2;omega)
  refine⟨r++[.row .back],L',N,by unfold compAll;rw[e];simp,⟨M.ex,?_,?_,M.ok,fun x hx=>?_⟩,fun code bg s l=>?_⟩
  ·have:=M.lr;unfold szP;simp;omega
  ·have:=M.ln;unfold szP;simp;omega
  ·rcases List.mem_append.mp hx with z|z
   ·exact M.rw x z
   ·rw[List.mem_singleton]at z;subst z;trivial
  ·obtain⟨N',e',g⟩:=comp_at (code:=code) (bg:=bg) ht.1 e
   have:N'=N:=List.append_cancel_left (e'.symm.trans M.ex)
   subst this
   exact⟨_,g s.left l,s.right.one⟩
 |u::us,t,rows,L,hu,ht=>by
  have h1:=hu u List.mem_cons_self
  obtain⟨r,L1,N1,e,M⟩:=comp_all (ab:=ab) (t:=u) (own:=[]) (L:=L) (p:=rows.length) h1.1 (fun y=>by simp) (by have:=h1.2;omega) (by have:=h1.2;simp;omega) (by have:=h1.2;omega)
  obtain⟨X,L2,N2,e2,M2,g2⟩:=compAll_all (ab:=ab) (us:=us) (t:=t) (rows:=rows++r++[.row .store]) (L:=L1) (fun v hv=>hu v (List.mem_cons_of_mem _ hv)) ht
  have el:L2.length=L1.length+N2.length:=by rw[M2.ex,List.length_append]
  refine⟨r++[.row .store]++X,L2,N1++N2,by unfold compAll;rw[e];dsimp only;rw[e2];simp,⟨M2.ex.trans ((congrArg (·++N2) M.ex).trans (List.append_assoc _ _ _)),?_,?_,fun q hq=>?_,fun x hx=>?_⟩,fun code bg s l=>?_⟩
  ·have:=M.lr;have:=M2.lr;unfold szP at this ⊢;rw[Phi_app];simp only[List.map_cons,List.sum_cons,List.length_append,List.length_singleton];omega
  ·have:=M.ln;have:=M2.ln;unfold szP at this ⊢;rw[Phi_app];simp only[List.map_cons,List.sum_cons,List.length_append];omega
  ·rcases List.mem_append.mp hq with z|z
   ·exact M.ok q z
   ·exact M2.ok q z
  ·simp only[List.mem_append,List.mem_singleton]at hx
   rcases hx with (z|z)|z
   ·exact(M.rw x z).mono (by omega)
   ·subst z;trivial
   ·exact M2.rw x z
  ·obtain⟨N',e',g⟩:=comp_at (code:=code) (bg:=bg) h1.1 e
   have:N'=N1:=List.append_cancel_left (e'.symm.trans M.ex)
   subst this
   have s3:=s.right
   have s2:=s.left.right
   have g3:=g2 code bg
   simp only[List.length_append,List.length_singleton]at s3 g3
   refine⟨_,g s.left.left l.left,s2.one,?_⟩
   rw[Nat.add_assoc]
   refine g3 s3 ?_
   have:=l.right
   rw[M.ex,List.length_append]
   exact this
def CodeOf (ab:Bool)(us:List Tm)(t:Tm)(code:List Rw):Prop:=∃m rows L rowsF LF bgF,compAll ab us t [] []=some (rows,L)∧bodies ab m rows L []=some (rowsF,LF,bgF)∧rowsF.length≤50000∧LF.length≤50000∧wholeAll bgF rowsF=some code
theorem code_ok (ab:Bool){us:List Tm}{t:Tm}(hu:∀u∈us,Own u)(ht:Own t)(hs:szP us t≤50000):∃code,CodeOf ab us t code∧AtAll code us t 0:=by
 obtain⟨X,L,N,e,M,g⟩:=compAll_all (ab:=ab) (us:=us) (t:=t) (rows:=[]) (L:=[]) hu ht
 have eL:=M.ex
 rw[List.nil_append]at eL e
 subst eL
 obtain⟨rowsF,LF,bgF,eb,⟨X2,eX⟩,⟨Y,eY⟩,⟨Z,eZ⟩,c1,c2,c3,c4,c5,c6⟩:=bodies_all (ab:=ab) (B:=50000) (Phi L+1) X L [] (by simp) M.rw M.ok (by simp) (by have:=M.lr;simp;omega) (by have:=M.ln;simp;omega)
 obtain⟨code,ew,lw,hw⟩:=wholeAll_at (bg:=bgF) (rows:=rowsF) (by rw[c1];exact c4)
 refine⟨code,⟨_,_,_,_,_,_,e,eb,c2,c3,ew⟩,g code bgF (fun i lr hi=>?_) (fun i nb hi=>?_)⟩
 ·rw[show([]:List Lr).length=0 from rfl,Nat.zero_add]
  exact hw i lr (by rw[eX,List.getElem?_append_left (List.getElem?_eq_some_iff.mp hi).1];exact hi)
 ·rw[show([]:List Lt).length=0 from rfl,Nat.zero_add]
  exact placed_at hw c5 (fun k nb h=>c6 k nb (by simp) h) LF.length i nb (by omega) (by rw[eY,List.getElem?_append_left (List.getElem?_eq_some_iff.mp hi).1];exact hi)
def evAll (most:Int)(m:Nat):List Tm→Tm→List Vl→Nat→Option (Rs×Nat)
 |[],t,S,c=>ev most S m 0 t [] c
 |u::us,t,S,c=>match ev most S m 0 u [] c with
  |some (.val v,c1)=>evAll most m us t (S++[v]) c1
  |r=>r
def WTP:List Kd→List Tm→Tm→Prop
 |S,[],t=>WT S [] t .n∧dep t≤12
 |S,u::us,t=>∃k,WT S [] u k∧dep u≤12∧WTP (S++[k]) us t
theorem WTP.own:∀{us:List Tm} {t:Tm} {S:List Kd},WTP S us t→(∀u∈us,Own u)∧Own t
 |[],t,S,⟨h1,h2⟩=>⟨fun u hu=>by simp at hu,h1.gt,by omega⟩
 |u::us,t,S,⟨k,h1,h2,h3⟩=>by
  obtain⟨g1,g2⟩:=WTP.own h3
  refine⟨fun v hv=>?_,g2⟩
  rcases List.mem_cons.mp hv with z|z
  ·subst z;exact⟨h1.gt,by omega⟩
  ·exact g1 v z
theorem get_more {S:List Kd}{k:Kd}:∀(j:Nat) k',S[j]?=some k'→(S++[k])[j]?=some k':=fun j k' h=>by rw[List.getElem?_append_left (List.getElem?_eq_some_iff.mp h).1];exact h
theorem evAll_typed {most:Int}:∀{us:List Tm} {t:Tm} {S:List Vl} {SK:List Kd} {c:Nat},ET SK S SK→WTP SK us t→∃r c',evAll most 143 us t S c=some (r,c')∧∀v,r=.val v→∃i,v=.num i
 |[],t,S,SK,c,hS,⟨h1,h2⟩=>by
  obtain⟨r,c',e,q⟩:=ev_typed (most:=most) hS 143 0 t [] .n [] c h1 .nil h2 (by omega) (by omega)
  exact⟨r,c',e,fun v hv=>by cases q v hv with|num hi=>exact⟨_,rfl⟩⟩
 |u::us,t,S,SK,c,hS,⟨k,h1,h2,h3⟩=>by
  obtain⟨r,c1,e,q⟩:=ev_typed (most:=most) hS 143 0 u [] k [] c h1 .nil h2 (by omega) (by omega)
  unfold evAll
  rw[e]
  cases r with
  |val v=>exact evAll_typed ((ET.more get_more hS).snoc ((q v rfl).more get_more)) h3
  |long=>exact⟨_,_,rfl,fun v z=>by cases z⟩
  |deep=>exact⟨_,_,rfl,fun v z=>by cases z⟩
  |great=>exact⟨_,_,rfl,fun v z=>by cases z⟩
def outR:Rs→Out
 |.val (.num i)=>.num i
 |.val (.fn _ _ _)=>.num 0
 |.val (.rg _ _ _ _)=>.num 0
 |.long=>.long
 |.deep=>.deep
 |.great=>.great
theorem run_all {most:Int}{code:List Rw}{m:Nat}:∀{us:List Tm} {t:Tm} {S:List Vl} {A:AS} {r:Rs} {c':Nat},evAll most m us t S A.begun=some (r,c')→AtAll code us t A.pc→A.own=[]→A.outer=[]→A.pile=[]→(∀(j:Nat) w,S[j]?=some w→∃v,A.sto[j]?=some v∧VR code w v)→A.sto.length=S.length→S.length+us.length≤100→(∀u∈us,Own u)→Own t→(∀v,r=.val v→∃i,v=.num i)→Ends most code A (outR r)
 |[],t,S,A,r,c',h,⟨q,ha,hb⟩,h1,h2,h3,h4,h5,h6,hu,ht,hr=>by
  have pr:Pre code S 0 (dep t) [] [] A:=⟨by rw[h1];exact .nil,h4,by rw[h2];rfl,by omega,by rw[h3];have:=ht.2;simp;omega,by have:=ht.2;simp;omega,by simp at h6;omega⟩
  have P:=run_at m 0 t [] [] q A r c' h ha pr ht.2 ht.1.wb
  cases r with
  |val v=>
   obtain⟨i,rfl⟩:=hr v rfl
   obtain⟨v',hv,g⟩:=P.1 _ rfl
   cases hv
   exact g.ends (do_end (p:=A.pile) ⟨by rw[h3];simp,pr.bd.o,pr.bd.s,pr.bd.u⟩ hb h2 rfl)
  |long=>exact P.2 _ rfl
  |deep=>exact P.2 _ rfl
  |great=>exact P.2 _ rfl
 |u::us,t,S,A,r,c',h,⟨p1,ha,hb,hc⟩,h1,h2,h3,h4,h5,h6,hu,ht,hr=>by
  have hu1:=hu u List.mem_cons_self
  have pr:Pre code S 0 (dep u) [] [] A:=⟨by rw[h1];exact .nil,h4,by rw[h2];rfl,by omega,by rw[h3];have:=hu1.2;simp;omega,by have:=hu1.2;simp;omega,by simp at h6;omega⟩
  unfold evAll at h
  cases e:ev most S m 0 u [] A.begun with
  |none=>rw[e]at h;cases h
  |some q=>
   obtain⟨r1,c1⟩:=q
   have P:=run_at m 0 u [] [] p1 A r1 c1 e ha pr hu1.2 hu1.1.wb
   rw[e]at h
   cases r1 with
   |val v=>
    obtain⟨v',hv,g⟩:=P.1 _ rfl
    have g2:=do_store (most:=most) (A:={A with pile:=v'::A.pile,pc:=p1,begun:=c1}) ⟨by show A.pile.length+1≤400;rw[h3];simp,pr.bd.o,pr.bd.s,pr.bd.u⟩ hb rfl
    refine(g.trans g2).ends (run_all (us:=us) (t:=t) (S:=S++[v]) h hc h1 h2 h3 (fun j w hj=>?_) (by show(A.sto++[v']).length=_;rw[List.length_append,List.length_append,h5];rfl) (by rw[List.length_append];simp at h6 ⊢;omega) (fun x hx=>hu x (List.mem_cons_of_mem _ hx)) ht hr)
    show ∃z,(A.sto++[v'])[j]?=some z∧VR code w z
    by_cases c:j<S.length
    ·rw[List.getElem?_append_left c]at hj
     obtain⟨z,z1,z2⟩:=h4 j w hj
     exact⟨z,by rw[List.getElem?_append_left (by omega)];exact z1,z2⟩
    ·have lj:j<(S++[v]).length:=(List.getElem?_eq_some_iff.mp hj).1
     rw[List.length_append]at lj
     have ej:j=S.length:=by simp at lj;omega
     subst ej
     simp at hj
     subst hj
     exact⟨v',by rw[←h5];simp,hv⟩
   |long=>cases h;exact P.2 _ rfl
   |deep=>cases h;exact P.2 _ rfl
   |great=>cases h;exact P.2 _ rfl
def A0':AS:=⟨[],[],0,[],[],0,0⟩
theorem whole_run {most:Int}{us:List Tm}{t:Tm}(h:WTP [] us t)(l:us.length≤90){code:List Rw}(ha:AtAll code us t 0):∃r c' n,evAll most 143 us t [] 0=some (r,c')∧(∀v,r=.val v→∃i,v=.num i)∧runA most code n A0'=some (outR r):=by
 obtain⟨r,c',e,q⟩:=evAll_typed (most:=most) (us:=us) (t:=t) (S:=[]) (SK:=[]) (c:=0) .nil h
 obtain⟨h1,h2⟩:=h.own
 obtain⟨k,g⟩:=run_all (most:=most) (code:=code) (A:=A0') e ha rfl rfl rfl (fun j w hj=>by simp at hj) rfl (by simp;omega) h1 h2 q
 exact⟨r,c',0+k,e,q,g 0⟩
end Fw
namespace L2
open PySem PySem.Spec PyProof.Rows PySem.SeqAt
section
variable {X:Cx}
theorem vals_bools:∀{bs:List Bool} {us:List Value},Vals (bs.map V.bl) us→us=bs.map Value.bool
 |[],us,r=>by cases r;rfl
 |b::bs,us,r=>by
  cases r with
  |cons a c=>rw[List.map_cons,←vals_bools c];cases(show _=Value.bool b from a);rfl
theorem eq_bools (k:Bool)(bs:List Bool):∀y,y∈(bs.map Value.bool).toArray→∀(A:Around) (s:Shared),EqAt A s y (.bool k) (isBoolOf k y):=fun y hy A s=>by
 have hy':y∈bs.map Value.bool:=by simpa using hy
 obtain⟨b,_,rfl⟩:=List.mem_map.mp hy'
 exact EqAt.bool_bool b k
def rCountB:V→List V→Hp→VK→Prop:=fun x vs H Q=>∃(l:Addr) (bs:List Bool) (k:Bool),x=.ref l∧vs=[.bl k]∧H l=some (.lst (bs.map V.bl))∧Q (.int ((bs.countP (·==k):Nat):Int)) H
theorem mt_countB:MtM X "list.count" rCountB:=by
 intro pins s σ H x vs v us Q I rx rv h
 obtain⟨l,bs,k,rfl,rfl,hH,q⟩:=h
 cases rx
 obtain⟨u,rfl,ru⟩:=rv.one
 cases(show u=Value.bool k from ru)
 obtain⟨z,its,n,r,hl,e⟩:=I.lstM hH
 have ei:=vals_bools r
 subst ei
 refine call_meets PySem.F.slot_list_count ⟨_,e,rfl⟩ PySem.F.entry_list_count (PySem.F.args_list_count_2 _ _) (list_countAt l _ n none #[] (.bool k) (isBoolOf k)) ⟨e,fun y hy=>eq_bools k bs y hy _ _,?_⟩
 have ec:((bs.map Value.bool).toArray.toList.countP (isBoolOf k))=bs.countP (·==k):=by
  rw[show(bs.map Value.bool).toArray.toList=bs.map Value.bool from rfl,List.countP_map]
  rfl
 rw[ec]
 exact⟨.int _,H,I.tok _,⟨_,rfl⟩,q⟩
def rIndexB:V→List V→Hp→VK→Prop:=fun x vs H Q=>∃(l:Addr) (bs:List Bool) (k:Bool) (j:Nat),x=.ref l∧vs=[.bl k]∧H l=some (.lst (bs.map V.bl))∧bs[j]?=some k∧(∀m,m<j→bs[m]?=some (!k))∧Q (.int (j:Int)) H
theorem mt_indexB:MtM X "list.index" rIndexB:=by
 intro pins s σ H x vs v us Q I rx rv h
 obtain⟨l,bs,k,j,rfl,rfl,hH,hj,hno,q⟩:=h
 cases rx
 obtain⟨u,rfl,ru⟩:=rv.one
 cases(show u=Value.bool k from ru)
 obtain⟨z,its,n,r,hl,e⟩:=I.lstM hH
 have ei:=vals_bools r
 subst ei
 have hlt:j<bs.length:=(List.getElem?_eq_some_iff.mp hj).1
 have h63:=line63
 rw[List.length_map]at z
 refine call_meets PySem.F.slot_list_index ⟨_,e,rfl⟩ PySem.F.entry_list_index (PySem.F.args_list_index_2 _ _)
  (list_indexAt l _ n none #[] (.bool k) (isBoolOf k) j (by simpa using hlt) (by omega) ?_ ?_) ⟨e,fun y hy=>eq_bools k bs y hy _ _,⟨.int _,H,I.tok _,⟨_,rfl⟩,q⟩⟩
 ·have e1:(bs.map Value.bool).toArray[j]'(by simpa using hlt)=.bool k:=by
   simp only[List.getElem_toArray,List.getElem_map]
   rw[(List.getElem?_eq_some_iff.mp hj).2]
  rw[e1]
  show(k==k)=true
  simp
 ·intro m hm hlt'
  have hm':=hno m hlt'
  have e1:(bs.map Value.bool).toArray[m]'hm=.bool (!k):=by
   simp only[List.getElem_toArray,List.getElem_map]
   rw[(List.getElem?_eq_some_iff.mp hm').2]
  rw[e1]
  show((!k)==k)=false
  cases k<;>rfl
end
section
variable {X:Cx}
def rIndexS:V→List V→Hp→VK→Prop:=fun x vs H Q=>∃(l:Addr) (zs:List Str) (z:Str) (j:Nat),x=.ref l∧vs=[.str z]∧H l=some (.lst (zs.map V.str))∧zs[j]?=some z∧(∀m,m<j→∀y,zs[m]?=some y→y≠z)∧Q (.int (j:Int)) H
theorem mt_indexS:MtM X "list.index" rIndexS:=by
 intro pins s σ H x vs v us Q I rx rv h
 obtain⟨l,zs,z,j,rfl,rfl,hH,hj,hno,q⟩:=h
 cases rx
 obtain⟨u,rfl,ru⟩:=rv.one
 obtain⟨tu,rfl⟩:=(show ∃t,u=Value.str z t from ru)
 obtain⟨hz,its,n,r,hl,e⟩:=I.lstM hH
 have len:=r.length
 rw[List.length_map]at len hz
 have hlt:j<zs.length:=(List.getElem?_eq_some_iff.mp hj).1
 have h63:=line63
 have at_:∀m y,zs[m]?=some y→∃t,its[m]?=some (Value.str y t):=fun m y hm=>by
  obtain⟨w,e1,q1⟩:=r.get (i:=m) (x:=V.str y) (by rw[List.getElem?_map,hm];rfl)
  obtain⟨t,rfl⟩:=(show ∃t,w=Value.str y t from q1)
  exact⟨t,e1⟩
 refine call_meets PySem.F.slot_list_index ⟨_,e,rfl⟩ PySem.F.entry_list_index (PySem.F.args_list_index_2 _ _)
  (list_indexAt l _ n none #[] (.str z tu) (Value.isStrOf z) j (by simp;omega) (by omega) ?_ ?_) ⟨e,fun y hy=>?_,⟨.int _,H,I.tok _,⟨_,rfl⟩,q⟩⟩
 ·obtain⟨t,h1⟩:=at_ j z hj
  have e1:its.toArray[j]'(by simp;omega)=.str z t:=by
   rw[List.getElem_toArray]
   exact(List.getElem?_eq_some_iff.mp h1).2
  rw[e1]
  show(z==z)=true
  simp
 ·intro m hm hlt'
  have hm2:m<zs.length:=by omega
  obtain⟨t,h1⟩:=at_ m zs[m] (List.getElem?_eq_getElem hm2)
  have e1:its.toArray[m]'hm=.str zs[m] t:=by
   rw[List.getElem_toArray]
   exact(List.getElem?_eq_some_iff.mp h1).2
  rw[e1]
  have:=hno m hlt' zs[m] (List.getElem?_eq_getElem hm2)
  show(zs[m]==z)=false
  simpa using this
 ·have hy':y∈its:=by simpa using hy
  obtain⟨m,hm,rfl⟩:=List.getElem_of_mem hy'
  have hm2:m<zs.length:=by omega
  obtain⟨t,h1⟩:=at_ m zs[m] (List.getElem?_eq_getElem hm2)
  have e1:its[m]=.str zs[m] t:=(List.getElem?_eq_some_iff.mp h1).2
  rw[e1]
  exact EqAt.str_str zs[m] t z tu
end
end L2
namespace PySem
open PyProof.Rows
section
variable {prog:Program}{w:World}{A:Around}{s:Shared}{R:Result→Shared→Prop}
end
section
variable {prog:Program}{w:World}{A:Around}{E:Value→Shared→Prop}{s:Shared}
end
end PySem
namespace L2
open PySem PySem.Spec PyProof.Rows
section
variable {X:Cx}
end
end L2
namespace Fw
open PySem PySem.Spec PyProof.Rows L2
theorem comp_lst {K:PySem.W.Frag}{H:Hp}{a:Addr}{xs:List V}{tt:TT}{te:TE}{σ':L2.St}{Q:VK}(Pv:Nat→List V→Hp→Prop)(h0:Pv 0 [] H)(hl:∀i vs H,i≤xs.length→Pv i vs H→SqL K H a xs∧vs.length<sizeLine)
  (hs:∀i x vs H2,i<xs.length→xs[i]?=some x→Pv i vs H2→tt (some x::σ') H2 fun b H4=>if b=true then te (some x::σ') H4 fun v H5=>Nx xs.length i (Pv (i+1) (vs++[v]) H5) else Nx xs.length i (Pv (i+1) vs H4))
  (hd:∀vs H2,Pv xs.length vs H2→∀l,H2 l=none→Q (.ref l) (upd H2 l (.lst vs))):CompW (Itl K a) tt te σ' Q H:=by
 refine⟨fun i m vs H=>m=xs.length-i∧i≤xs.length∧Pv i vs H,⟨xs.length,by simp,Nat.zero_le _,h0⟩,?_⟩
 rintro i m vs H2 ⟨rfl,hi,p⟩
 obtain⟨q1,q2⟩:=hl i vs H2 hi p
 refine⟨q2,?_⟩
 by_cases hlt:i<xs.length
 ·refine .inr ⟨⟨xs,xs[i],q1,by simp[hlt]⟩,?_⟩
  rintro x H3 ⟨e,y⟩
  subst e
  exact hs i x vs _ hlt (y xs q1) p
 ·have e:i=xs.length:=by omega
  subst e
  exact .inl ⟨⟨xs,q1,Nat.le_refl _⟩,hd vs H2 p⟩
theorem psW {X:Cx}{b:Stmt}{t t':TS}(h:PS X b t)(k:∀D σ H,t' D σ H→t D σ H):PS X b t':=fun pins s σ H D I q=>h pins s σ H D I (k D σ H q)
theorem pssW {X:Cx}{b:List Stmt}{t t':TS}(h:PSs X b t)(k:∀D σ H,t' D σ H→t D σ H):PSs X b t':=fun pins s σ H D I q=>h pins s σ H D I (k D σ H q)
def nmS (x:Nat):Str:="x"++(toString (x:Int):Str)
def nmsV (own:List Nat):List V:=(own.map nmS).map V.str
theorem nmsV_len (own:List Nat):(nmsV own).length=own.length:=by unfold nmsV;rw[List.length_map,List.length_map]
theorem nm_inj:∀x,x<150→∀y,y<150→nmS x=nmS y→x=y:=by decide+kernel
def Nm14 (own:List Nat):Prop:=∀x∈own,x<150
theorem ix_nms:∀{own:List Nat} {x j:Nat},Nm14 own→ixOf x own=some j→(own.map nmS)[j]?=some (nmS x)∧∀m,m<j→∀y,(own.map nmS)[m]?=some y→y≠nmS x
 |[],x,j,_,h=>by cases h
 |y::ys,x,j,n,h=>by
  unfold ixOf at h
  by_cases c:x=y
  ·rw[if_pos c]at h
   cases h
   subst c
   exact⟨rfl,fun m hm=>absurd hm (Nat.not_lt_zero _)⟩
  ·rw[if_neg c]at h
   cases e:ixOf x ys with
   |none=>rw[e]at h;cases h
   |some k=>
    rw[e]at h
    cases h
    obtain⟨h1,h2⟩:=ix_nms (fun z hz=>n z (List.mem_cons_of_mem _ hz)) e
    refine⟨by simpa using h1,fun m hm z hz=>?_⟩
    cases m with
    |zero=>
     simp at hz
     subst hz
     intro e2
     have mx:x∈ys:=by
      rw[List.getElem?_map]at h1
      cases q:ys[k]? with
      |none=>rw[q]at h1;cases h1
      |some u=>
       rw[q]at h1
       have h3:nmS u=nmS x:=Option.some.inj h1
       have mu:u∈ys:=List.mem_of_getElem? q
       have lu:=n u (List.mem_cons_of_mem _ mu)
       have ly:=n y List.mem_cons_self
       exact absurd (nm_inj u lu y ly (h3.trans e2.symm)) (by
        intro e4
        subst e4
        have:ixOf x ys=some k:=e
        have gen:∀(zs:List Nat) (k:Nat),ixOf x zs=some k→zs[k]?=some x:=fun zs=>by
         induction zs with
         |nil=>intro k h;cases h
         |cons a as ih=>
          intro k h
          unfold ixOf at h
          by_cases c:x=a
          ·rw[if_pos c]at h;cases h;subst c;rfl
          ·rw[if_neg c]at h
           cases e:ixOf x as with
           |none=>rw[e]at h;cases h
           |some m=>rw[e]at h;cases h;simpa using ih m e
        have:=gen ys k e
        rw[q]at this
        exact c (Option.some.inj this).symm)
     exact c (nm_inj x (n x (List.mem_cons_of_mem _ mx)) y (n y List.mem_cons_self) e2.symm)
    |succ m=>exact h2 m (by have:m+1<k+1:=hm;omega) z (by simpa using hz)
theorem ixAll_at {own:List Nat}:∀{ns js:List Nat},ixAll own ns=some js→js.length=ns.length∧∀(i x:Nat),ns[i]?=some x→∃j,js[i]?=some j∧ixOf x own=some j
 |[],js,h=>by cases h;exact⟨rfl,fun i x e=>by simp at e⟩
 |y::ys,js,h=>by
  unfold ixAll at h
  split at h
  ·rename_i a as e1 e2
   cases h
   obtain⟨l,g⟩:=ixAll_at e2
   refine⟨by simp[l],fun i x e=>?_⟩
   cases i with
   |zero=>simp at e;subst e;exact⟨a,rfl,e1⟩
   |succ i=>
    obtain⟨j,h1,h2⟩:=g i x (by simpa using e)
    exact⟨j,by simpa using h1,h2⟩
  ·cases h
def AllL {α:Type}(R:V→α→Prop)(vs:List V)(rs:List α):Prop:=vs.length=rs.length∧∀(i:Nat) (r:α),rs[i]?=some r→∃v,vs[i]?=some v∧R v r
theorem AllL.nil {α:Type}{R:V→α→Prop}:AllL R [] []:=⟨rfl,fun i r h=>by simp at h⟩
theorem AllL.mono {α:Type}{R S:V→α→Prop}{vs:List V}{rs:List α}(a:AllL R vs rs)(k:∀v r,R v r→S v r):AllL S vs rs:=⟨a.1,fun i r h=>by
 obtain⟨v,h1,h2⟩:=a.2 i r h
 exact⟨v,h1,k _ _ h2⟩⟩
theorem AllL.snoc {α:Type}{R:V→α→Prop}{vs:List V}{rs:List α}{v:V}{r:α}(a:AllL R vs rs)(h:R v r):AllL R (vs++[v]) (rs++[r]):=by
 refine⟨by simp[a.1],fun i x hx=>?_⟩
 by_cases c:i<rs.length
 ·rw[List.getElem?_append_left c]at hx
  obtain⟨u,h1,h2⟩:=a.2 i x hx
  exact⟨u,by rw[List.getElem?_append_left (by rw[a.1];exact c)];exact h1,h2⟩
 ·have l:i<(rs++[r]).length:=(List.getElem?_eq_some_iff.mp hx).1
  rw[List.length_append]at l
  have e:i=rs.length:=by simp at l;omega
  subst e
  simp at hx
  subst hx
  exact⟨v,by rw[←a.1];simp,h⟩
def Tps (H H':Hp):Prop:=∀b ys,H b=some (.tup ys)→H' b=some (.tup ys)
mutual
inductive TmL (H:Hp):V→Tm→Prop where
 |n {r:Addr} {i:Int}:H r=some (.tup [.str "n", .int i])→TmL H (.ref r) (.n i)
 |v {r:Addr} {x:Nat}:H r=some (.tup [.str "v", .str (nmS x)])→TmL H (.ref r) (.v x)
 |g {r:Addr} {j:Nat}:H r=some (.tup [.str "g", .int (j:Int)])→TmL H (.ref r) (.g j)
 |lt {r:Addr} {x:Nat} {u v:V} {t b:Tm}:H r=some (.tup [.str "let", .str (nmS x),u,v])→TmL H u t→TmL H v b→TmL H (.ref r) (.lt x t b)
 |ift {r:Addr} {u v w:V} {c a b:Tm}:H r=some (.tup [.str "if",u,v,w])→TmL H u c→TmL H v a→TmL H w b→TmL H (.ref r) (.ift c a b)
 |fn {r:Addr} {x:Nat} {v:V} {b:Tm}:H r=some (.tup [.str "fun", .str (nmS x),v])→TmL H v b→TmL H (.ref r) (.fn x b)
 |op {r:Addr} {k:Nat} {u v:V} {a b:Tm}:H r=some (.tup [.str (wordOf k),u,v])→TmL H u a→TmL H v b→TmL H (.ref r) (.op k a b)
 |call {r:Addr} {u v:V} {a b:Tm}:H r=some (.tup [.str "call",u,v])→TmL H u a→TmL H v b→TmL H (.ref r) (.call a b)
 |ring {r t:Addr} {x:Nat} {ts:List V} {bs:List Tm} {v:V} {b:Tm}:H r=some (.tup [.str "ring", .ref t,v])→H t=some (.tup ts)→TmsL H x (x+bs.length) ts bs→TmL H v b→TmL H (.ref r) (.ring x bs b)
inductive TmsL (H:Hp):Nat→Nat→List V→List Tm→Prop where
 |nil {x y:Nat}:TmsL H x y [] []
 |cons {x y:Nat} {p:Addr} {v:V} {t:Tm} {vs:List V} {ts:List Tm}:H p=some (.tup [.str (nmS x), .str (nmS y),v])→TmL H v t→TmsL H (x+1) y vs ts→TmsL H x y (.ref p::vs) (t::ts)
end
mutual
theorem TmL.tps {H H':Hp}(e:Tps H H'):∀{v:V} {t:Tm},TmL H v t→TmL H' v t
 |_,_, .n h=>.n (e _ _ h)
 |_,_, .v h=>.v (e _ _ h)
 |_,_, .g h=>.g (e _ _ h)
 |_,_, .lt h a b=>.lt (e _ _ h) (a.tps e) (b.tps e)
 |_,_, .ift h a b c=>.ift (e _ _ h) (a.tps e) (b.tps e) (c.tps e)
 |_,_, .fn h a=>.fn (e _ _ h) (a.tps e)
 |_,_, .op h a b=>.op (e _ _ h) (a.tps e) (b.tps e)
 |_,_, .call h a b=>.call (e _ _ h) (a.tps e) (b.tps e)
 |_,_, .ring h h2 a b=>.ring (e _ _ h) (e _ _ h2) (a.tps e) (b.tps e)
theorem TmsL.tps {H H':Hp}(e:Tps H H'):∀{x y:Nat} {vs:List V} {ts:List Tm},TmsL H x y vs ts→TmsL H' x y vs ts
 |_,_,_,_, .nil=>.nil
 |_,_,_,_, .cons h a b=>.cons (e _ _ h) (a.tps e) (b.tps e)
end
theorem TmsL.len {H:Hp}:∀{x y:Nat} {vs:List V} {ts:List Tm},TmsL H x y vs ts→vs.length=ts.length
 |_,_,_,_, .nil=>rfl
 |_,_,_,_, .cons _ _ b=>congrArg (·+1) b.len
theorem TmsL.get {H:Hp}:∀{x y:Nat} {vs:List V} {ts:List Tm} {i:Nat} {t:Tm},TmsL H x y vs ts→ts[i]?=some t→∃(p:Addr) (v:V),vs[i]?=some (.ref p)∧H p=some (.tup [.str (nmS (x+i)), .str (nmS y),v])∧TmL H v t
 |_,_,_,_,_,_, .nil,h=>by simp at h
 |_,_,_,_,0,_, .cons h a b,e=>by simp at e;subst e;exact⟨_,_,rfl,h,a⟩
 |x,_,_,_,i+1,_, .cons h a b,e=>by
  obtain⟨p,v,h1,h2,h3⟩:=b.get (by simpa using e)
  exact⟨p,v,by simpa using h1,by rw[show x+(i+1)=x+1+i by omega];exact h2,h3⟩
theorem TmL.same {H H':Hp}(e:Same H H'){v:V}{t:Tm}(h:TmL H v t):TmL H' v t:=h.tps fun b ys q=>e b _ q
theorem RwL.tps {H H':Hp}{r:Addr}{row:Rw}(e:Tps H H')(h:RwL H r row):RwL H' r row:=by
 cases row with
 |close to js=>obtain⟨pt,h1,h2⟩:=h;exact⟨pt,e _ _ h1,e _ _ h2⟩
 |ring fs=>
  obtain⟨rt,ps,h1,h2,l,g⟩:=h
  refine⟨rt,ps,e _ _ h1,e _ _ h2,l,fun j p f ep ef=>?_⟩
  obtain⟨pt,g1,g2⟩:=g j p f ep ef
  exact⟨pt,e _ _ g1,e _ _ g2⟩
 |_=>exact e _ _ h
def PrL (H:Hp)(v:V)(k:Nat×List Nat):Prop:=∃p q:Addr,v=.ref p∧H p=some (.tup [.int (k.1:Int), .ref q])∧H q=some (.tup (k.2.map fun j:Nat=>V.int (j:Int)))
theorem PrL.tps {H H':Hp}(e:Tps H H'){v:V}{k:Nat×List Nat}(h:PrL H v k):PrL H' v k:=by
 obtain⟨p,q,h0,h1,h2⟩:=h
 exact⟨p,q,h0,e _ _ h1,e _ _ h2⟩
def LrL (lr ll:Addr)(H:Hp)(v:V):Lr→Prop
 |.row r=>∃a:Addr,v=.ref a∧RwL H a r
 |.late k js=>∃a p q:Addr,v=.ref a∧H a=some (.tup [.str "late", .ref p])∧H p=some (.tup [.int (k:Int), .ref q])∧H q=some (.tup (js.map fun j:Nat=>V.int (j:Int)))
 |.lateR ks=>∃(a l:Addr) (xs:List V),v=.ref a∧H a=some (.tup [.str "late", .ref l])∧H l=some (.lst xs)∧l≠lr∧l≠ll∧AllL (PrL H) xs ks
 |.hole=>v=.non
def LtL (lr ll:Addr)(H:Hp)(v:V)(p:List Nat×Tm):Prop:=∃(a ln:Addr) (u:V),v=.ref a∧H a=some (.tup [.ref ln,u])∧H ln=some (.lst (nmsV p.1))∧ln≠lr∧ln≠ll∧TmL H u p.2
def Kp (lr ll:Addr)(H H':Hp):Prop:=∀b o,b≠lr→b≠ll→H b=some o→H' b=some o
theorem Kp.refl {lr ll:Addr}{H:Hp}:Kp lr ll H H:=fun _ _ _ _ h=>h
theorem Kp.trans {lr ll:Addr}{H H1 H2:Hp}(a:Kp lr ll H H1)(b:Kp lr ll H1 H2):Kp lr ll H H2:=fun c o n m h=>b c o n m (a c o n m h)
theorem kp_same {lr ll:Addr}{H H':Hp}(s:Same H H'):Kp lr ll H H':=fun c o _ _ h=>s c o h
theorem kp_updR {lr ll:Addr}{H:Hp}{o:HO}:Kp lr ll H (upd H lr o):=fun c u n _ h=>by rw[upd_ne n];exact h
theorem kp_updL {lr ll:Addr}{H:Hp}{o:HO}:Kp lr ll H (upd H ll o):=fun c u _ n h=>by rw[upd_ne n];exact h
theorem LrL.tps {lr ll:Addr}{H H':Hp}(e:Tps H H')(k:Kp lr ll H H'){v:V}{r:Lr}(h:LrL lr ll H v r):LrL lr ll H' v r:=by
 cases r with
 |row r=>obtain⟨a,h1,h2⟩:=h;exact⟨a,h1,h2.tps e⟩
 |late k js=>obtain⟨a,p,q,h0,h1,h2,h3⟩:=h;exact⟨a,p,q,h0,e _ _ h1,e _ _ h2,e _ _ h3⟩
 |lateR ks=>obtain⟨a,l,xs,h0,h1,h2,n1,n2,h3⟩:=h;exact⟨a,l,xs,h0,e _ _ h1,k _ _ n1 n2 h2,n1,n2,h3.mono fun v r=>PrL.tps e⟩
 |hole=>exact h
def abI (ab:Bool):Int:=if ab then 1 else 0
structure WS (H:Hp)(wk lr ll:Addr)(ab:Bool)(rows:List Lr)(L:List (List Nat×Tm)):Prop where
 wk:∃kvs:List (Key×V),H wk=some (.dK kvs)∧valV kvs (Sum.inr "rows")=some (.ref lr)∧valV kvs (Sum.inr "late")=some (.ref ll)∧valV kvs (Sum.inr "about")=some (.int (abI ab))
 rw:∃rvs,H lr=some (.lst rvs)∧AllL (LrL lr ll H) rvs rows
 lt:∃lvs,H ll=some (.lst lvs)∧AllL (LtL lr ll H) lvs L
 ne:lr≠ll
section
variable {H H':Hp}{wk lr ll:Addr}{ab:Bool}{rows:List Lr}{L:List (List Nat×Tm)}
theorem WS.tps (w:WS H wk lr ll ab rows L)(k:Kp lr ll H H'):Tps H H':=fun b ys h=>by
 obtain⟨rvs,h1,_⟩:=w.rw
 obtain⟨lvs,h2,_⟩:=w.lt
 exact k b _ (ne_of h h1 (by intro z;cases z)) (ne_of h h2 (by intro z;cases z)) h
theorem WS.wkK (w:WS H wk lr ll ab rows L)(k:Kp lr ll H H'):∃kvs:List (Key×V),H' wk=some (.dK kvs)∧valV kvs (Sum.inr "rows")=some (.ref lr)∧valV kvs (Sum.inr "late")=some (.ref ll)∧valV kvs (Sum.inr "about")=some (.int (abI ab)):=by
 obtain⟨rvs,h1,_⟩:=w.rw
 obtain⟨lvs,h2,_⟩:=w.lt
 obtain⟨kvs,h,g⟩:=w.wk
 exact⟨kvs,k _ _ (ne_of h h1 (by intro z;cases z)) (ne_of h h2 (by intro z;cases z)) h,g⟩
theorem LtL.kp (w:WS H wk lr ll ab rows L)(k:Kp lr ll H H'){v:V}{p:List Nat×Tm}(h:LtL lr ll H v p):LtL lr ll H' v p:=by
 obtain⟨a,ln,u,h0,h1,h2,n1,n2,h3⟩:=h
 exact⟨a,ln,u,h0,w.tps k _ _ h1,k _ _ n1 n2 h2,n1,n2,h3.tps (w.tps k)⟩
theorem WS.same (w:WS H wk lr ll ab rows L)(s:Same H H'):WS H' wk lr ll ab rows L:=by
 have k:Kp lr ll H H':=kp_same s
 obtain⟨rvs,h1,a1⟩:=w.rw
 obtain⟨lvs,h2,a2⟩:=w.lt
 exact⟨w.wkK k,⟨rvs,s _ _ h1,a1.mono fun v r=>LrL.tps (w.tps k) k⟩,⟨lvs,s _ _ h2,a2.mono fun v r=>LtL.kp w k⟩,w.ne⟩
theorem WS.addR (w:WS H wk lr ll ab rows L){rvs:List V}(h:H lr=some (.lst rvs)){v:V}{r:Lr}(hv:LrL lr ll H v r):WS (upd H lr (.lst (rvs++[v]))) wk lr ll ab (rows++[r]) L:=by
 have k:Kp lr ll H (upd H lr (.lst (rvs++[v]))):=kp_updR
 obtain⟨rvs',h1,a1⟩:=w.rw
 obtain⟨lvs,h2,a2⟩:=w.lt
 rw[h]at h1
 cases h1
 exact⟨w.wkK k,⟨_,upd_same,(a1.snoc hv).mono fun v r=>LrL.tps (w.tps k) k⟩,⟨lvs,by rw[upd_ne (Ne.symm w.ne)];exact h2,a2.mono fun v r=>LtL.kp w k⟩,w.ne⟩
theorem WS.addL (w:WS H wk lr ll ab rows L){lvs:List V}(h:H ll=some (.lst lvs)){v:V}{p:List Nat×Tm}(hv:LtL lr ll H v p):WS (upd H ll (.lst (lvs++[v]))) wk lr ll ab rows (L++[p]):=by
 have k:Kp lr ll H (upd H ll (.lst (lvs++[v]))):=kp_updL
 obtain⟨rvs,h1,a1⟩:=w.rw
 obtain⟨lvs',h2,a2⟩:=w.lt
 rw[h]at h2
 cases h2
 exact⟨w.wkK k,⟨rvs,by rw[upd_ne w.ne];exact h1,a1.mono fun v r=>LrL.tps (w.tps k) k⟩,⟨_,upd_same,(a2.snoc hv).mono fun v r=>LtL.kp w k⟩,w.ne⟩
theorem AllL.set {α:Type}{R:V→α→Prop}{vs:List V}{rs:List α}{v:V}{r:α}(a:AllL R vs rs)(i:Nat)(h:R v r):AllL R (vs.set i v) (rs.set i r):=by
 refine⟨by rw[List.length_set,List.length_set];exact a.1,fun j x hx=>?_⟩
 by_cases c:i=j
 ·subst c
  have l:i<rs.length:=by
   have:=(List.getElem?_eq_some_iff.mp hx).1
   rwa [List.length_set]at this
  rw[List.getElem?_set_self l]at hx
  cases hx
  exact⟨v,by rw[List.getElem?_set_self (by rw[a.1];exact l)],h⟩
 ·rw[List.getElem?_set_ne c]at hx
  obtain⟨u,h1,h2⟩:=a.2 j x hx
  exact⟨u,by rw[List.getElem?_set_ne c];exact h1,h2⟩
theorem WS.setR (w:WS H wk lr ll ab rows L){rvs:List V}(h:H lr=some (.lst rvs)){v:V}{r:Lr}(i:Nat)(hv:LrL lr ll H v r):WS (upd H lr (.lst (rvs.set i v))) wk lr ll ab (rows.set i r) L:=by
 have k:Kp lr ll H (upd H lr (.lst (rvs.set i v))):=kp_updR
 obtain⟨rvs',h1,a1⟩:=w.rw
 obtain⟨lvs,h2,a2⟩:=w.lt
 rw[h]at h1
 cases h1
 exact⟨w.wkK k,⟨_,upd_same,(a1.set i hv).mono fun v r=>LrL.tps (w.tps k) k⟩,⟨lvs,by rw[upd_ne (Ne.symm w.ne)];exact h2,a2.mono fun v r=>LtL.kp w k⟩,w.ne⟩
end
theorem LtOk.in {p:Lt}(h:LtOk p):p.1≠[]∧Nm14 p.1∧p.1.length+6*dep p.2≤150∧dep p.2≤12:=by
 obtain⟨names,x,e,mem,gt,h40,h60,h12⟩:=h
 refine⟨by rw[e];simp,fun y hy=>?_,h60,h12⟩
 rw[e,List.mem_append,List.mem_singleton]at hy
 rcases hy with z|z
 ·have:=(mem y).mp z;omega
 ·omega
theorem ne_of_none' {H:Hp}{a b:Addr}{o:HO}(h:H a=none)(h':H b=some o):a≠b:=Ne.symm (ne_of_none h' h)
inductive CspHeld (vs:List V)(H:Hp)(Q:VK)(E_:XK):Prop where
 |mk (wk lo lr ll:Addr) (x:Nat) (v:V) (ab:Bool) (rows:List Lr) (L:List Lt) (own js:List Nat) (b:Tm):vs=[.ref wk, .ref lo, .str (nmS x),v]→WS H wk lr ll ab rows L→H lo=some (.lst (nmsV own))→Nm14 own→lo≠lr→lo≠ll→TmL H v b→ixAll own (namesOf ab own)=some js→own.length≤150→L.length≤50000→(∀(p q:Addr) H',Kp lr ll H H'→WS H' wk lr ll ab rows (L++[(namesOf ab own++[x],b)])→H' p=some (.tup [.int (L.length:Int), .ref q])→H' q=some (.tup (js.map fun j:Nat=>V.int (j:Int)))→Q (.ref p) H')→CspHeld vs H Q E_
def spHeld:Sp:=CspHeld
def tHeld:TS:=fun D σ H=>∃(wk lo lr ll ln:Addr) (x:Nat) (v:V) (ab:Bool) (rows:List Lr) (L:List Lt) (own js:List Nat) (b:Tm),σ=[some (.ref wk),some (.ref lo),some (.str (nmS x)),some v,some (.ref ln)]∧WS H wk lr ll ab rows L∧H lo=some (.lst (nmsV own))∧Nm14 own∧lo≠lr∧lo≠ll∧
 H ln=some (.lst (nmsV (namesOf ab own)))∧ln≠lr∧ln≠ll∧TmL H v b∧
 ixAll own (namesOf ab own)=some js∧own.length≤150∧L.length≤50000∧
 ∀(p q:Addr) H',Kp lr ll H H'→WS H' wk lr ll ab rows (L++[(namesOf ab own++[x],b)])→H' p=some (.tup [.int (L.length:Int), .ref q])→H' q=some (.tup (js.map fun j:Nat=>V.int (j:Int)))→D.rt (.ref p) H'
section
variable {P:Program}{w:World}{K:PySem.W.Frag}{mg:Str→Option Value}{base:Heap}{f:Addr}{fd:FuncData}
abbrev s_held:Stmt:=top 63
abbrev pHe:List Str:=["_law_work","_law_own_here","_law_x","_law_body"]
abbrev nHe:List Str:=["_law_work","_law_own_here","_law_x","_law_body","_law_names"]
theorem sc_held:FnScope nHe pHe (defScope s_held):=⟨rfl,rfl,rfl,by decide+kernel,rfl,by decide+kernel,by decide+kernel⟩
set_option maxHeartbeats 2000000 in
theorem ok_held (F:Fun K "_law_held" "_law_held" s_held f fd)(ml:mg "len"=none)(mL:mg "list"=none)(mt:mg "tuple"=none):FnOk P w K mg base CX0 1 f fd pHe spHeld:=by
 refine F.ok sc_held (fun vs H Q E h=>?_) (fun cdv A outer s H vs Q E hr h=>?_)
 ·obtain⟨wk,lo,lr,ll,x,v,ab,rows,L,own,js,b,rfl,_⟩:=h
  rfl
 obtain⟨wk,lo,lr,ll,x,v,ab,rows,L,own,js,b,rfl,ws,hlo,n14,n1,n2,tb,hjs,lo60,lL,q⟩:=h
 have hu:=hu_of hr
 have hz:=sizeLine_eq
 refine⟨_,pss_cons (ps_set (i:=4) sc_held.nd rfl (Or.inl rfl) (pe_callTy call_list_of rfl mL boot_list (pa_cons (pv 1) pa_nil)))
  (pss_cons (ps_if (pt_cmpR op_gt (pe_dget hu (pv 0) pe_str (fun _ _=>rfl)) pe_int (nomark _)) (pss_one (ps_expr (pe_bm0 PySem.F.plainAttrs_list PySem.F.slot_list_reverse PySem.F.type_list_reverse mt_reverse (pv 4)))) pss_nil)
  (pssW (t':=tHeld) (pss_cons (ps_expr (pe_bm PySem.F.plainAttrs_list PySem.F.slot_list_append PySem.F.type_list_append mt_append (pe_dget hu (pv 0) pe_str (fun _ _=>rfl)) (pa_cons (pe_tup (pa_cons (pe_op op_cat (pv 4) (pe_lst (pa_cons (pv 2) pa_nil))) (pa_cons (pv 3) pa_nil))) pa_nil)))
  (pss_one (ps_ret (pe_tup (pa_cons (pe_op op_sub (pe_callB (clen K) rfl ml PySem.boot_len (pa_cons (pe_dget hu (pv 0) pe_str (fun _ _=>rfl)) pa_nil)) pe_int) (pa_cons (pe_callTy call_tuple_of rfl mt boot_tuple (pa_cons
   (pe_lc (defScope s_held) nHe ["_law_own_here"] [1] (by decide+kernel) (piL K (pv 4)) (fun C s₀ H₀ ex=>pts_nil)
    (fun C s₀ H₀ ex=>show PE _ _ (tBM K "list" rIndexS _ _) from pe_bm PySem.F.plainAttrs_list PySem.F.slot_list_index PySem.F.type_list_index mt_indexS (pv 1) (pa_cons (pv 0) pa_nil))) pa_nil)) pa_nil)))))) ?qr)),?_⟩
 case qr=>
  rintro D σ H ⟨wk,lo,lr,ll,ln,x,v,ab,rows,L,own,js,b,rfl,ws,hlo,n14,n1,n2,hln,m1,m2,tb,hjs,lo60,lL,q⟩
  have hnl:=namesOf_len ab own
  obtain⟨kvs,hwk,g1,g2,g3⟩:=ws.wk
  obtain⟨lvs,hll,al⟩:=ws.lt
  refine(dg_at rfl hwk g2 ⟨.inl ⟨rfl,_,SqL.of hll⟩,_,rfl,_,rfl,small (by show 1≤1000000;decide),fun p1 hp1=>?_⟩)
  have s1:=same_new hp1 (.lst [.str (nmS x)])
  refine⟨ln,p1,_,_,rfl,rfl,s1 _ _ hln,upd_same,small (by rw[nmsV_len];show _+1≤1000000;omega),fun p2 hp2=>?_⟩
  have e2:nmsV (namesOf ab own)++[.str (nmS x)]=nmsV (namesOf ab own++[x]):=by unfold nmsV;rw[List.map_append,List.map_append];rfl
  rw[e2]
  have s2:=same_new hp2 (.lst (nmsV (namesOf ab own++[x])))
  refine⟨_,rfl,small (by show 2≤1000000;decide),fun p3 hp3=>?_⟩
  have s12:=s1.trans s2
  have hp20:H p2=none:=s1.free hp2
  have h2:(upd (upd H p1 (.lst [.str (nmS x)])) p2 (.lst (nmsV (namesOf ab own++[x])))) p2=some (.lst (nmsV (namesOf ab own++[x]))):=upd_same
  revert hp3 s12 h2
  generalize upd (upd H p1 (.lst [.str (nmS x)])) p2 (.lst (nmsV (namesOf ab own++[x])))=H2
  intro hp3 s12 h2
  have s3:=same_new hp3 (.tup [.ref p2,v])
  have h3:(upd H2 p3 (.tup [.ref p2,v])) p3=some (.tup [.ref p2,v]):=upd_same
  have s13:=s12.trans s3
  have h2':=s3 _ _ h2
  revert s3 h3 s13 h2'
  generalize upd H2 p3 (.tup [.ref p2,v])=H3
  intro s3 h3 s13 h2'
  refine⟨ll,_, .ref p3,rfl,rfl,s13 _ _ hll,small' (by rw[al.1];omega),?_⟩
  have np2:p2≠lr∧p2≠ll:=by
   obtain⟨rvs,hlr,_⟩:=ws.rw
   exact⟨ne_of_none' hp20 hlr,ne_of_none' hp20 hll⟩
  have w4:=(ws.same s13).addL (s13 _ _ hll) (v:=.ref p3) (p:=(namesOf ab own++[x],b)) ⟨p3,p2,v,rfl,h3,h2',np2.1,np2.2,tb.same s13⟩
  have k4:Kp lr ll H (upd H3 ll (.lst (lvs++[.ref p3]))):=(kp_same s13).trans kp_updL
  revert w4 k4
  generalize hl4:upd H3 ll (.lst (lvs++[.ref p3]))=H4
  intro w4 k4
  obtain⟨kv4,hwk4,_,g24,_⟩:=w4.wk
  obtain⟨lv4,hll4,al4⟩:=w4.lt
  have ll4:=al4.1
  rw[List.length_append]at ll4
  have hlo4:=k4 _ _ n1 n2 hlo
  have hln4:=k4 _ _ m1 m2 hln
  refine(dg_at rfl hwk4 g24 ⟨ll,_,rfl, .inl (SqL.of hll4),_,_,rfl,rfl,?_⟩)
  refine⟨_,rfl,ln,rfl,⟨_,SqL.of hln4⟩,comp_lst (xs:=nmsV (namesOf ab own)) (fun i vs H'=>H'=H4∧vs=(js.map fun j:Nat=>V.int (j:Int)).take i) ⟨rfl,rfl⟩ ?_ ?_ ?_⟩
  ·rintro i vs H' hi ⟨rfl,rfl⟩
   refine⟨SqL.of hln4,?_⟩
   have:=(ixAll_at hjs).1
   rw[List.length_take,List.length_map]
   omega
  ·rintro i y vs H' hi hy ⟨rfl,rfl⟩
   unfold nmsV at hy
   rw[List.getElem?_map,List.getElem?_map]at hy
   cases hni:(namesOf ab own)[i]? with
   |none=>rw[hni]at hy;cases hy
   |some z=>
    rw[hni]at hy
    cases hy
    obtain⟨jl,jat⟩:=ixAll_at hjs
    obtain⟨j,hj,hix⟩:=jat i z hni
    obtain⟨g5,g6⟩:=ix_nms n14 hix
    refine tt1 (iteT ⟨_,rfl, .inl ⟨rfl,_,SqL.of hlo4⟩,_,rfl,lo,own.map nmS,nmS z,j,rfl,rfl,hlo4,g5,g6,nx hi ⟨rfl,?_⟩⟩)
    rw[List.take_add_one,List.getElem?_map,hj]
    rfl
  ·rintro vs H' ⟨rfl,rfl⟩ l5 hl5
   have lj:(nmsV (namesOf ab own)).length=(js.map fun j:Nat=>V.int (j:Int)).length:=by rw[nmsV_len,List.length_map,(ixAll_at hjs).1]
   rw[lj,List.take_length]
   have s5:=same_new hl5 (.lst (js.map fun j:Nat=>V.int (j:Int)))
   refine⟨l5,_,rfl, .inl ⟨SqL.of upd_same,fun c6 hc6=>?_⟩⟩
   have s6:=same_new hc6 (.tup (js.map fun j:Nat=>V.int (j:Int)))
   refine⟨small (by show 2≤1000000;decide),fun p7 hp7=>?_⟩
   have s7:=same_new hp7 (.tup [.int ((lv4.length:Int)-1), .ref c6])
   have s57:=s5.trans (s6.trans s7)
   refine q p7 c6 _ (k4.trans (kp_same s57)) (w4.same s57) ?_ (s7 _ _ upd_same)
   rw[upd_same]
   have e8:(lv4.length:Int)-1=(L.length:Int):=by rw[ll4];simp
   dsimp only
   rw[e8]
 refine⟨_,rfl,lo,_,rfl, .inl (SqL.of hlo),fun ln hln=>?_⟩
 have s1:=same_new hln (.lst (nmsV own))
 have nln:ln≠lr∧ln≠ll:=by
  obtain⟨rvs,hlr,_⟩:=ws.rw
  obtain⟨lvs,hll,_⟩:=ws.lt
  exact⟨ne_of_none' hln hlr,ne_of_none' hln hll⟩
 obtain⟨kvs,hwk,g1,g2,g3⟩:=(ws.same s1).wk
 refine(dg_at rfl hwk g3 ⟨abI ab,0,rfl,rfl,_,rfl,?_⟩)
 cases ab with
 |true=>
  refine ite2 (fun _=>?_) (fun z=>absurd (by decide) z)
  refine⟨_,rfl, .inl ⟨rfl,_,SqL.of upd_same⟩,ln,_,rfl,rfl,upd_same,?_⟩
  have s2:Same H (upd (upd H ln (.lst (nmsV own))) ln (.lst (nmsV own).reverse)):=fun b o h=>by
   rw[upd_ne (ne_of_none h hln),upd_ne (ne_of_none h hln)];exact h
  refine⟨wk,lo,lr,ll,ln,x,v,true,rows,L,own,js,b,rfl,ws.same s2,s2 _ _ hlo,n14,n1,n2,?_,nln.1,nln.2,tb.same s2,hjs,lo60,lL,fun p q' H' k=>q p q' H' ((kp_same s2).trans k)⟩
  rw[upd_same]
  unfold nmsV namesOf
  simp
 |false=>
  refine ite2 (fun z=>absurd z (by decide)) (fun _=>?_)
  exact⟨wk,lo,lr,ll,ln,x,v,false,rows,L,own,js,b,rfl,ws.same s1,s1 _ _ hlo,n14,n1,n2,upd_same,nln.1,nln.2,tb.same s1,hjs,lo60,lL,fun p q' H' k=>q p q' H' ((kp_same s1).trans k)⟩
end
theorem comp_lt {ab:Bool}{x:Nat}{t b:Tm}{own:List Nat}{L L':List Lt}{r:List Lr}{p:Nat}(h:comp ab (.lt x t b) own L p=some (r,L')):∃r1 L1 r2,comp ab t own L p=some (r1,L1)∧comp ab b (own++[x]) L1 (p+r1.length+1)=some (r2,L')∧r=r1++[.row .keep]++r2++[.row (.drop 1)]:=by
 unfold comp at h
 split at h
 ·cases h
 ·rename_i r1 L1 e1
  split at h
  ·cases h
  ·rename_i r2 L2 e2
   cases h
   exact⟨r1,L1,r2,e1,e2,rfl⟩
theorem comp_ift {ab:Bool}{c a b:Tm}{own:List Nat}{L L':List Lt}{r:List Lr}{p:Nat}(h:comp ab (.ift c a b) own L p=some (r,L')):∃r1 L1 r2 L2 r3,comp ab c own L p=some (r1,L1)∧comp ab a own L1 (p+r1.length+1)=some (r2,L2)∧comp ab b own L2 (p+r1.length+1+r2.length+1)=some (r3,L')∧
  r=r1++[.row (.unl (p+r1.length+1+r2.length+1))]++r2++[.row (.jump (p+r1.length+1+r2.length+1+r3.length))]++r3:=by
 unfold comp at h
 split at h
 ·cases h
 ·rename_i r1 L1 e1
  split at h
  ·cases h
  ·rename_i r2 L2 e2
   split at h
   ·cases h
   ·rename_i r3 L3 e3
    cases h
    exact⟨r1,L1,r2,L2,r3,e1,e2,e3,rfl⟩
theorem comp_op {ab:Bool}{k:Nat}{a b:Tm}{own:List Nat}{L L':List Lt}{r:List Lr}{p:Nat}(h:comp ab (.op k a b) own L p=some (r,L')):∃r1 L1 r2,comp ab a own L p=some (r1,L1)∧comp ab b own L1 (p+r1.length)=some (r2,L')∧r=r1++r2++[.row (.reck k)]:=by
 unfold comp at h
 split at h
 ·cases h
 ·rename_i r1 L1 e1
  split at h
  ·cases h
  ·rename_i r2 L2 e2
   cases h
   exact⟨r1,L1,r2,e1,e2,rfl⟩
theorem comp_call {ab:Bool}{a b:Tm}{own:List Nat}{L L':List Lt}{r:List Lr}{p:Nat}(h:comp ab (.call a b) own L p=some (r,L')):∃r1 L1 r2,comp ab a own L p=some (r1,L1)∧comp ab b own L1 (p+r1.length)=some (r2,L')∧r=r1++r2++[.row .call]:=by
 unfold comp at h
 split at h
 ·cases h
 ·rename_i r1 L1 e1
  split at h
  ·cases h
  ·rename_i r2 L2 e2
   cases h
   exact⟨r1,L1,r2,e1,e2,rfl⟩
theorem comp_fn {ab:Bool}{x:Nat}{b:Tm}{own:List Nat}{L L':List Lt}{r:List Lr}{p:Nat}(h:comp ab (.fn x b) own L p=some (r,L')):∃js,ixAll own (namesOf ab own)=some js∧r=[.late L.length js]∧L'=L++[(namesOf ab own++[x],b)]:=by
 unfold comp at h
 split at h
 ·cases h
 ·rename_i js e
  cases h
  exact⟨js,e,rfl,rfl⟩
theorem comp_ring {ab:Bool}{x:Nat}{bs:List Tm}{b:Tm}{own:List Nat}{L L':List Lt}{r:List Lr}{p:Nat}(h:comp ab (.ring x bs b) own L p=some (r,L')):∃js r1,ixAll (own++nms x bs.length) (namesOf ab (own++nms x bs.length))=some js∧comp ab b (own++nms x bs.length) (L++bs.map fun t=>(namesOf ab (own++nms x bs.length)++[x+bs.length],t)) (p+1)=some (r1,L')∧
  r=[.lateR ((List.range bs.length).map fun i=>(L.length+i,js))]++r1++[.row (.drop bs.length)]:=by
 unfold comp at h
 cases e:ixAll (own++nms x bs.length) (namesOf ab (own++nms x bs.length)) with
 |none=>rw[e]at h;cases h
 |some js=>
  rw[e]at h
  dsimp only at h
  cases e2:comp ab b (own++nms x bs.length) (L++bs.map fun t=>(namesOf ab (own++nms x bs.length)++[x+bs.length],t)) (p+1) with
  |none=>rw[e2]at h;cases h
  |some q=>
   obtain⟨r1,L1⟩:=q
   rw[e2]at h
   cases h
   exact⟨js,r1,rfl,rfl,rfl⟩
structure In (n m:Nat)(own:List Nat)(t:Tm):Prop where
 gt:GT m t
 me:∀y,y∈own↔y<m
 l4:m+6*dep t≤150
 l6:own.length+6*dep t≤150
 dn:dep t≤n
theorem In.nm {n m:Nat}{own:List Nat}{t:Tm}(i:In n m own t):Nm14 own:=fun x hx=>by have:=(i.me x).mp hx;have:=i.l4;omega
theorem In.len {ab:Bool}{m:Nat}{own:List Nat}{t:Tm}{n:Nat}(i:In n m own t){L L':List Lt}{r:List Lr}{p:Nat}(h:comp ab t own L p=some (r,L')):L.length≤L'.length:=by
 obtain⟨N,e,_⟩:=comp_at (code:=[]) (bg:=[]) i.gt h
 rw[e,List.length_append];omega
theorem WS.row {H:Hp}{wk lr ll:Addr}{ab:Bool}{rows:List Lr}{L:List Lt}(w:WS H wk lr ll ab rows L){rvs:List V}(h:H lr=some (.lst rvs)){p:Addr}(hp:H p=none){o:HO}{r:Lr}(hv:LrL lr ll (upd H p o) (.ref p) r):
  WS (upd (upd H p o) lr (.lst (rvs++[.ref p]))) wk lr ll ab (rows++[r]) L∧Kp lr ll H (upd (upd H p o) lr (.lst (rvs++[.ref p]))) :=
 ⟨(w.same (same_new hp o)).addR (same_new hp o _ _ h) hv,(kp_same (same_new hp o)).trans kp_updR⟩
def isLt:Tm→Prop
 |.lt _ _ _=>True
 |_=>False
def isIf:Tm→Prop
 |.ift _ _ _=>True
 |_=>False
def isRing:Tm→Prop
 |.ring _ _ _=>True
 |_=>False
inductive CspRO (p:Tm→Prop)(n:Nat)(vs:List V)(H:Hp)(Q:VK)(E_:XK):Prop where
 |mk (wk lo lr ll:Addr) (v:V) (t:Tm) (ab:Bool) (rows:List Lr) (L:List Lt) (own:List Nat) (m:Nat) (r:List Lr) (L':List Lt):vs=[.ref wk, .ref lo,v]→p t→TmL H v t→In n m own t→WS H wk lr ll ab rows L→H lo=some (.lst (nmsV own))→lo≠lr→lo≠ll→comp ab t own L rows.length=some (r,L')→rows.length+r.length≤50000→L'.length≤50000→(∀H',Kp lr ll H H'→WS H' wk lr ll ab (rows++r) L'→Q .non H')→CspRO p n vs H Q E_
def spRO (p:Tm→Prop)(n:Nat):Sp:=CspRO p n
def spRon:Nat→Sp
 |0=>fun _ _ _ _=>False
 |n+1=>spRO (fun _=>True) n
theorem w_words:("v":Str)≠"n"∧("g":Str)≠"n"∧("g":Str)≠"v"∧("let":Str)≠"n"∧("let":Str)≠"v"∧("let":Str)≠"g"∧("fun":Str)≠"n"∧("fun":Str)≠"v"∧("fun":Str)≠"g"∧("fun":Str)≠"let"∧("fun":Str)≠"if"∧("if":Str)≠"n"∧("if":Str)≠"v"∧("if":Str)≠"g"∧("if":Str)≠"let":=by decide+kernel
theorem w_op:∀k,k≤3→wordOf k≠"n"∧wordOf k≠"v"∧wordOf k≠"g"∧wordOf k≠"let"∧wordOf k≠"if"∧wordOf k≠"fun":=by decide+kernel
theorem w_call:("call":Str)≠"n"∧("call":Str)≠"v"∧("call":Str)≠"g"∧("call":Str)≠"let"∧("call":Str)≠"if"∧("call":Str)≠"fun":=by decide+kernel
theorem ixN_nat {n j:Nat}(h:j<n):ixN n (j:Int)=some j:=by
 unfold ixN
 rw[if_pos (by omega),if_pos (by omega)]
 simp
section
variable {P:Program}{w:World}{K:PySem.W.Frag}{mg:Str→Option Value}{base:Heap}{f:Addr}{fd:FuncData}
abbrev pRo:List Str:=["_law_work","_law_own_here","_law_term"]
abbrev s_letr:Stmt:=top 65
theorem sc_letr:FnScope pRo pRo (defScope s_letr):=⟨rfl,rfl,rfl,by decide+kernel,rfl,by decide+kernel,by decide+kernel⟩
set_option maxHeartbeats 2000000 in
theorem ok_letr {n:Nat}(F:Fun K "_law_let_rows" "_law_let_rows" s_letr f fd)(h1:Has P w K mg base (2*n) "_law_rows" pRo (spRon n)):FnOk P w K mg base CX0 (2*n+1) f fd pRo (spRO isLt n):=by
 refine F.ok sc_letr (fun vs H Q E h=>?_) (fun cdv A outer s H vs Q E hr h=>?_)
 ·obtain⟨wk,lo,lr,ll,v,t,ab,rows,L,own,m,r,L',rfl,_⟩:=h
  rfl
 obtain⟨wk,lo,lr,ll,v,t,ab,rows,L,own,m,r,L',rfl,pt,tl,ii,ws,hlo,n1,n2,hc,lR,lL,q⟩:=h
 have hu:=hu_of hr
 refine⟨_,pss_cons (ps_expr (pcall h1 hr (by omega) rfl (pa_cons (pv 0) (pa_cons (pv 1) (pa_cons (pe_ix (ixT K) (pv 2) pe_int (fun _ _=>rfl)) pa_nil)))))
  (pss_cons (ps_expr (pe_bm PySem.F.plainAttrs_list PySem.F.slot_list_append PySem.F.type_list_append mt_append (pe_dget hu (pv 0) pe_str (fun _ _=>rfl)) (pa_cons (pe_tup (pa_cons pe_str pa_nil)) pa_nil)))
  (pss_cons (ps_expr (pcall h1 hr (by omega) rfl (pa_cons (pv 0) (pa_cons (pe_op op_cat (pv 1) (pe_lst (pa_cons (pe_ix (ixT K) (pv 2) pe_int (fun _ _=>rfl)) pa_nil))) (pa_cons (pe_ix (ixT K) (pv 2) pe_int (fun _ _=>rfl)) pa_nil)))))
  (pss_one (ps_expr (pe_bm PySem.F.plainAttrs_list PySem.F.slot_list_append PySem.F.type_list_append mt_append (pe_dget hu (pv 0) pe_str (fun _ _=>rfl)) (pa_cons (pe_tup (pa_cons pe_str (pa_cons pe_int pa_nil))) pa_nil)))))),?_⟩
 cases tl with
 |n h=>exact pt.elim
 |v h=>exact pt.elim
 |g h=>exact pt.elim
 |fn h a=>exact pt.elim
 |ift h a b c=>exact pt.elim
 |op h a b=>exact pt.elim
 |call h a b=>exact pt.elim
 |ring h h2 a b=>exact pt.elim
 |@lt a x u y ta tb ha t1 t2=>
  obtain⟨r1,L1,r2,c1,c2,rfl⟩:=comp_lt hc
  obtain⟨⟨b0,b1,b2⟩,me,l4,l6,dn⟩:=ii
  subst b0
  simp only[dep]at l4 l6 dn
  have dm1:=Nat.le_max_left (dep ta) (dep tb)
  have dm2:=Nat.le_max_right (dep ta) (dep tb)
  generalize max (dep ta) (dep tb)=Dm at l4 l6 dn dm1 dm2
  simp only[List.length_append,List.length_singleton]at lR
  obtain⟨j,rfl⟩:∃j,n=j+1:=⟨n-1,by omega⟩
  have i1:In j x own ta:=⟨b1,me,by omega,by omega,by omega⟩
  have i2:In j (x+1) (own++[x]) tb:=⟨b2,mem_snoc me,by omega,by rw[List.length_append];simp;omega,by omega⟩
  have lL1:=i2.len c2
  refine seq_cut fun nx hn=>?_
  refine⟨_,rfl,_,rfl,ix_t (a:=a) (j:=2) rfl ha rfl ⟨wk,lo,lr,ll,u,ta,ab,rows,L,own,x,r1,L1,rfl,trivial,t1,i1,ws,hlo,n1,n2,c1,by omega,by omega,fun H1 k1 w1=>?_⟩⟩
  have ha1:=ws.tps k1 _ _ ha
  have t21:=t2.tps (ws.tps k1)
  have hlo1:=k1 _ _ n1 n2 hlo
  obtain⟨kvs,hwk,g1,_⟩:=w1.wk
  obtain⟨rv1,hl1,al1⟩:=id w1.rw
  have e1:=al1.1
  rw[List.length_append]at e1
  refine hn _ _ (seq_cut fun nx hn=>?_)
  refine(dg_at rfl hwk g1 ⟨.inl ⟨rfl,_,SqL.of hl1⟩,small (by show 1≤1000000;decide),fun p1 hp1=>?_⟩)
  obtain⟨w2,k2⟩:=w1.row hl1 hp1 (o:=.tup [.str "keep"]) (r:=.row .keep) ⟨p1,rfl,upd_same⟩
  refine⟨lr,_, .ref p1,rfl,rfl,same_new hp1 _ _ _ hl1,small' (by omega),?_⟩
  revert w2 k2
  generalize upd (upd H1 p1 (.tup [.str "keep"])) lr (.lst (rv1++[.ref p1]))=H2
  intro w2 k2
  have ha2:=w1.tps k2 _ _ ha1
  have t22:=t21.tps (w1.tps k2)
  have hlo2:=k2 _ _ n1 n2 hlo1
  refine hn _ _ (seq_cut fun nx hn=>?_)
  refine⟨_,rfl,_,rfl,ix_t (a:=a) (j:=1) rfl ha2 rfl ⟨small (by show 1≤1000000;decide),fun p3 hp3=>?_⟩⟩
  have s3:=same_new hp3 (.lst [.str (nmS x)])
  refine⟨lo,p3,_,_,rfl,rfl,s3 _ _ hlo2,upd_same,small (by rw[nmsV_len];show _+1≤1000000;omega),fun p4 hp4=>?_⟩
  have e4:nmsV own++[.str (nmS x)]=nmsV (own++[x]):=by unfold nmsV;rw[List.map_append,List.map_append];rfl
  rw[e4]
  have s4:=same_new hp4 (.lst (nmsV (own++[x])))
  have s24:=s3.trans s4
  have h4:(upd (upd H2 p3 (.lst [.str (nmS x)])) p4 (.lst (nmsV (own++[x])))) p4=some (.lst (nmsV (own++[x]))):=upd_same
  have np4:p4≠lr∧p4≠ll:=by
   obtain⟨rvs,hlr,_⟩:=w2.rw
   obtain⟨lvs,hll,_⟩:=w2.lt
   exact⟨ne_of_none' hp4 (s3 _ _ hlr),ne_of_none' hp4 (s3 _ _ hll)⟩
  revert s24 h4
  generalize upd (upd H2 p3 (.lst [.str (nmS x)])) p4 (.lst (nmsV (own++[x])))=H4
  intro s24 h4
  refine(ix_t (a:=a) (j:=3) rfl (s24 _ _ ha2) rfl ⟨wk,p4,lr,ll,y,tb,ab,rows++r1++[.row .keep],L1,own++[x],x+1,r2,L',rfl,trivial,t22.same s24,i2,w2.same s24,h4,np4.1,np4.2,by simp only[List.length_append,List.length_singleton];exact c2,by simp only[List.length_append,List.length_singleton];omega,lL,fun H5 k5 w5=>?_⟩)
  obtain⟨kv5,hwk5,g5,_⟩:=w5.wk
  obtain⟨rv5,hl5,al5⟩:=id w5.rw
  have e5:=al5.1
  simp only[List.length_append,List.length_singleton]at e5
  refine hn _ _ ?_
  refine(dg_at rfl hwk5 g5 ⟨.inl ⟨rfl,_,SqL.of hl5⟩,small (by show 2≤1000000;decide),fun p6 hp6=>?_⟩)
  obtain⟨w6,k6⟩:=w5.row hl5 hp6 (o:=.tup [.str "drop", .int 1]) (r:=.row (.drop 1)) ⟨p6,rfl,upd_same⟩
  refine⟨lr,_, .ref p6,rfl,rfl,same_new hp6 _ _ _ hl5,small' (by omega),?_⟩
  refine q _ (k1.trans (k2.trans ((kp_same s24).trans (k5.trans k6)))) ?_
  have e6:rows++(r1++[.row .keep]++r2++[.row (.drop 1)])=rows++r1++[.row .keep]++r2++[.row (.drop 1)]:=by simp
  rw[e6]
  exact w6
abbrev s_testr:Stmt:=top 64
abbrev nTs:List Str:=["_law_work","_law_own_here","_law_term","_law_test","_law_over"]
theorem sc_testr:FnScope nTs pRo (defScope s_testr):=⟨rfl,rfl,rfl,by decide+kernel,rfl,by decide+kernel,by decide+kernel⟩
theorem set_midR (a:List Lr)(x y:Lr)(b:List Lr):(a++[x]++b).set a.length y=a++[y]++b:=by
 rw[List.append_assoc,List.set_append_right _ _ (Nat.le_refl _),Nat.sub_self];simp
set_option maxHeartbeats 4000000 in
theorem ok_testr {n:Nat}(F:Fun K "_law_test_rows" "_law_test_rows" s_testr f fd)(ml:mg "len"=none)(h1:Has P w K mg base (2*n) "_law_rows" pRo (spRon n)):FnOk P w K mg base CX0 (2*n+1) f fd pRo (spRO isIf n):=by
 refine F.ok sc_testr (fun vs H Q E h=>?_) (fun cdv A outer s H vs Q E hr h=>?_)
 ·obtain⟨wk,lo,lr,ll,v,t,ab,rows,L,own,m,r,L',rfl,_⟩:=h
  rfl
 obtain⟨wk,lo,lr,ll,v,t,ab,rows,L,own,m,r,L',rfl,pt,tl,ii,ws,hlo,n1,n2,hc,lR,lL,q⟩:=h
 have hu:=hu_of hr
 refine⟨_,pss_cons (ps_expr (pcall h1 hr (by omega) rfl (pa_cons (pv 0) (pa_cons (pv 1) (pa_cons (pe_ix (ixT K) (pv 2) pe_int (fun _ _=>rfl)) pa_nil)))))
  (pss_cons (ps_set (i:=3) sc_testr.nd rfl (Or.inl rfl) (pe_callB (clen K) rfl ml PySem.boot_len (pa_cons (pe_dget hu (pv 0) pe_str (fun _ _=>rfl)) pa_nil)))
  (pss_cons (ps_expr (pe_bm PySem.F.plainAttrs_list PySem.F.slot_list_append PySem.F.type_list_append mt_append (pe_dget hu (pv 0) pe_str (fun _ _=>rfl)) (pa_cons pe_non pa_nil)))
  (pss_cons (ps_expr (pcall h1 hr (by omega) rfl (pa_cons (pv 0) (pa_cons (pv 1) (pa_cons (pe_ix (ixT K) (pv 2) pe_int (fun _ _=>rfl)) pa_nil)))))
  (pss_cons (ps_set (i:=4) sc_testr.nd rfl (Or.inl rfl) (pe_callB (clen K) rfl ml PySem.boot_len (pa_cons (pe_dget hu (pv 0) pe_str (fun _ _=>rfl)) pa_nil)))
  (pss_cons (ps_expr (pe_bm PySem.F.plainAttrs_list PySem.F.slot_list_append PySem.F.type_list_append mt_append (pe_dget hu (pv 0) pe_str (fun _ _=>rfl)) (pa_cons pe_non pa_nil)))
  (pss_cons (ps_asg (pe_tup (pa_cons pe_str (pa_cons (pe_callB (clen K) rfl ml PySem.boot_len (pa_cons (pe_dget hu (pv 0) pe_str (fun _ _=>rfl)) pa_nil)) pa_nil))) (pg_sub (pe_dget hu (pv 0) pe_str (fun _ _=>rfl)) (pv 3) set_list))
  (pss_cons (ps_expr (pcall h1 hr (by omega) rfl (pa_cons (pv 0) (pa_cons (pv 1) (pa_cons (pe_ix (ixT K) (pv 2) pe_int (fun _ _=>rfl)) pa_nil)))))
  (pss_one (ps_asg (pe_tup (pa_cons pe_str (pa_cons (pe_callB (clen K) rfl ml PySem.boot_len (pa_cons (pe_dget hu (pv 0) pe_str (fun _ _=>rfl)) pa_nil)) pa_nil))) (pg_sub (pe_dget hu (pv 0) pe_str (fun _ _=>rfl)) (pv 4) set_list)))))))))),?_⟩
 cases tl with
 |n h=>exact pt.elim
 |v h=>exact pt.elim
 |g h=>exact pt.elim
 |fn h a=>exact pt.elim
 |lt h a b=>exact pt.elim
 |op h a b=>exact pt.elim
 |call h a b=>exact pt.elim
 |ring h h2 a b=>exact pt.elim
 |@ift a u y z tc ta tb ha t1 t2 t3=>
  obtain⟨r1,L1,r2,L2,r3,c1,c2,c3,rfl⟩:=comp_ift hc
  obtain⟨⟨b0,b1,b2⟩,me,l4,l6,dn⟩:=ii
  simp only[dep]at l4 l6 dn
  have dm1:=Nat.le_max_left (dep ta) (dep tb)
  have dm2:=Nat.le_max_right (dep ta) (dep tb)
  generalize max (dep ta) (dep tb)=Dm at l4 l6 dn dm1 dm2
  have dm3:=Nat.le_max_left (dep tc) Dm
  have dm4:=Nat.le_max_right (dep tc) Dm
  generalize max (dep tc) Dm=Dn at l4 l6 dn dm3 dm4
  simp only[List.length_append,List.length_singleton]at lR
  obtain⟨j,rfl⟩:∃j,n=j+1:=⟨n-1,by omega⟩
  have i1:In j m own tc:=⟨b0,me,by omega,by omega,by omega⟩
  have i2:In j m own ta:=⟨b1,me,by omega,by omega,by omega⟩
  have i3:In j m own tb:=⟨b2,me,by omega,by omega,by omega⟩
  have lL2:=i3.len c3
  have lL1:=i2.len c2
  refine seq_cut fun nx hn=>?_
  refine⟨_,rfl,_,rfl,ix_t (a:=a) (j:=1) rfl ha rfl ⟨wk,lo,lr,ll,u,tc,ab,rows,L,own,m,r1,L1,rfl,trivial,t1,i1,ws,hlo,n1,n2,c1,by omega,by omega,fun H1 k1 w1=>?_⟩⟩
  obtain⟨kv1,hk1,vk1,_⟩:=w1.wk
  obtain⟨rv1,hl1,al1⟩:=id w1.rw
  have e1:=al1.1
  rw[List.length_append]at e1
  refine hn _ _ (seq_cut fun nx hn=>?_)
  refine(dg_at rfl hk1 vk1 ⟨lr,_,rfl, .inl (SqL.of hl1),?_⟩)
  rw[e1]
  refine hn _ _ (seq_cut fun nx hn=>?_)
  refine(dg_at rfl hk1 vk1 ⟨.inl ⟨rfl,_,SqL.of hl1⟩,lr,_, .non,rfl,rfl,hl1,small' (by omega),?_⟩)
  have w2:=w1.addR hl1 (v:=.non) (r:=.hole) rfl
  have k2:Kp lr ll H1 (upd H1 lr (.lst (rv1++[.non]))):=kp_updR
  revert w2 k2
  generalize upd H1 lr (.lst (rv1++[.non]))=H2
  intro w2 k2
  have k02:=k1.trans k2
  refine hn _ _ (seq_cut fun nx hn=>?_)
  refine⟨_,rfl,_,rfl,ix_t (a:=a) (j:=2) rfl (ws.tps k02 _ _ ha) rfl ⟨wk,lo,lr,ll,y,ta,ab,rows++r1++[.hole],L1,own,m,r2,L2,rfl,trivial,t2.tps (ws.tps k02),i2,w2,k02 _ _ n1 n2 hlo,n1,n2,by simp only[List.length_append,List.length_singleton];exact c2,by simp only[List.length_append,List.length_singleton];omega,by omega,fun H3 k3 w3=>?_⟩⟩
  have k03:=k02.trans k3
  obtain⟨kv3,hk3,vk3,_⟩:=w3.wk
  obtain⟨rv3,hl3,al3⟩:=id w3.rw
  have e3:=al3.1
  simp only[List.length_append,List.length_singleton]at e3
  refine hn _ _ (seq_cut fun nx hn=>?_)
  refine(dg_at rfl hk3 vk3 ⟨lr,_,rfl, .inl (SqL.of hl3),?_⟩)
  rw[e3]
  refine hn _ _ (seq_cut fun nx hn=>?_)
  refine(dg_at rfl hk3 vk3 ⟨.inl ⟨rfl,_,SqL.of hl3⟩,lr,_, .non,rfl,rfl,hl3,small' (by omega),?_⟩)
  have w4:=w3.addR hl3 (v:=.non) (r:=.hole) rfl
  have k4:Kp lr ll H3 (upd H3 lr (.lst (rv3++[.non]))):=kp_updR
  revert w4 k4
  generalize upd H3 lr (.lst (rv3++[.non]))=H4
  intro w4 k4
  obtain⟨kv4,hk4,vk4,_⟩:=w4.wk
  obtain⟨rv4,hl4,al4⟩:=id w4.rw
  have e4:=al4.1
  simp only[List.length_append,List.length_singleton]at e4
  refine hn _ _ (seq_cut fun nx hn=>?_)
  refine(dg_at rfl hk4 vk4 ⟨lr,_,rfl, .inl (SqL.of hl4),small (by show 2≤1000000;decide),fun p5 hp5=>?_⟩)
  rw[e4]
  have s5:=same_new hp5 (.tup [.str "unless", .int ((rows.length+r1.length+1+r2.length+1:Nat):Int)])
  refine(dg_at rfl (s5 _ _ hk4) vk4 ⟨_,rfl,lr,_,_,rows.length+r1.length,rfl,rfl,s5 _ _ hl4,ixN_nat (by rw[e4];omega),?_⟩)
  have w5:=(w4.same s5).setR (s5 _ _ hl4) (v:=.ref p5) (r:=.row (.unl (rows.length+r1.length+1+r2.length+1))) (rows.length+r1.length) ⟨p5,rfl,upd_same⟩
  have q5:=set_midR (rows++r1) .hole (.row (.unl (rows.length+r1.length+1+r2.length+1))) (r2++[.hole])
  rw[List.length_append]at q5
  rw[show rows++r1++[Lr.hole]++r2++[Lr.hole]=rows++r1++[Lr.hole]++(r2++[Lr.hole]) by simp,q5]at w5
  have k5:Kp lr ll H4 (upd (upd H4 p5 (.tup [.str "unless", .int ((rows.length+r1.length+1+r2.length+1:Nat):Int)])) lr (.lst (rv4.set (rows.length+r1.length) (.ref p5)))):=(kp_same s5).trans kp_updR
  revert w5 k5
  generalize upd (upd H4 p5 (.tup [.str "unless", .int ((rows.length+r1.length+1+r2.length+1:Nat):Int)])) lr (.lst (rv4.set (rows.length+r1.length) (.ref p5)))=H5
  intro w5 k5
  have k05:=k03.trans (k4.trans k5)
  refine hn _ _ (seq_cut fun nx hn=>?_)
  refine⟨_,rfl,_,rfl,ix_t (a:=a) (j:=3) rfl (ws.tps k05 _ _ ha) rfl ⟨wk,lo,lr,ll,z,tb,ab,_,L2,own,m,r3,L',rfl,trivial,t3.tps (ws.tps k05),i3,w5,k05 _ _ n1 n2 hlo,n1,n2,by simp only[List.length_append,List.length_singleton,←Nat.add_assoc];exact c3,by simp only[List.length_append,List.length_singleton];omega,lL,fun H6 k6 w6=>?_⟩⟩
  obtain⟨kv6,hk6,vk6,_⟩:=w6.wk
  obtain⟨rv6,hl6,al6⟩:=id w6.rw
  have e6:=al6.1
  simp only[List.length_append,List.length_singleton,←Nat.add_assoc]at e6
  refine hn _ _ ?_
  refine(dg_at rfl hk6 vk6 ⟨lr,_,rfl, .inl (SqL.of hl6),small (by show 2≤1000000;decide),fun p7 hp7=>?_⟩)
  rw[e6]
  have s7:=same_new hp7 (.tup [.str "jump", .int ((rows.length+r1.length+1+r2.length+1+r3.length:Nat):Int)])
  refine(dg_at rfl (s7 _ _ hk6) vk6 ⟨_,rfl,lr,_,_,rows.length+r1.length+1+r2.length,rfl,rfl,s7 _ _ hl6,ixN_nat (by rw[e6];omega),?_⟩)
  have w7:=(w6.same s7).setR (s7 _ _ hl6) (v:=.ref p7) (r:=.row (.jump (rows.length+r1.length+1+r2.length+1+r3.length))) (rows.length+r1.length+1+r2.length) ⟨p7,rfl,upd_same⟩
  have q7:=set_midR (rows++r1++[.row (.unl (rows.length+r1.length+1+r2.length+1))]++r2) .hole (.row (.jump (rows.length+r1.length+1+r2.length+1+r3.length))) r3
  simp only[List.length_append,List.length_singleton]at q7
  have k7:Kp lr ll H6 (upd (upd H6 p7 (.tup [.str "jump", .int ((rows.length+r1.length+1+r2.length+1+r3.length:Nat):Int)])) lr (.lst (rv6.set (rows.length+r1.length+1+r2.length) (.ref p7)))):=(kp_same s7).trans kp_updR
  refine q _ (k05.trans (k6.trans k7)) ?_
  rw[show rows++r1++[.row (.unl (rows.length+r1.length+1+r2.length+1))]++(r2++[Lr.hole])++r3=rows++r1++[.row (.unl (rows.length+r1.length+1+r2.length+1))]++r2++[Lr.hole]++r3 by simp,q7]at w7
  have e8:rows++(r1++[.row (.unl (rows.length+r1.length+1+r2.length+1))]++r2++[.row (.jump (rows.length+r1.length+1+r2.length+1+r3.length))]++r3)=rows++r1++[.row (.unl (rows.length+r1.length+1+r2.length+1))]++r2++[.row (.jump (rows.length+r1.length+1+r2.length+1+r3.length))]++r3:=by simp
  rw[e8]
  exact w7
end
theorem w_op7:∀k,k≤3→wordOf k≠"ring":=by decide+kernel
theorem w_call7:("call":Str)≠"ring":=by decide+kernel
theorem w_ring:("ring":Str)≠"n"∧("ring":Str)≠"v"∧("ring":Str)≠"g"∧("ring":Str)≠"let"∧("ring":Str)≠"if"∧("ring":Str)≠"fun":=by decide+kernel
section
variable {P:Program}{w:World}{K:PySem.W.Frag}{mg:Str→Option Value}{base:Heap}{f:Addr}{fd:FuncData}
abbrev s_rows:Stmt:=top 67
theorem sc_rows:FnScope pRo pRo (defScope s_rows):=⟨rfl,rfl,rfl,by decide+kernel,rfl,by decide+kernel,by decide+kernel⟩
set_option maxHeartbeats 4000000 in
theorem ok_rows {n:Nat}(F:Fun K "_law_rows" "_law_rows" s_rows f fd)(h1:Has P w K mg base (2*n) "_law_rows" pRo (spRon n))(h2:Has P w K mg base (2*n+1) "_law_let_rows" pRo (spRO isLt n))(h4:Has P w K mg base (2*n+1) "_law_test_rows" pRo (spRO isIf n))(h3:Has P w K mg base 1 "_law_held" pHe spHeld)(h5:Has P w K mg base (2*n+1) "_law_ring_rows" pRo (spRO isRing n)):
  FnOk P w K mg base CX0 (2*n+2) f fd pRo (spRO (fun _=>True) n):=by
 refine F.ok sc_rows (fun vs H Q E h=>?_) (fun cdv A outer s H vs Q E hr h=>?_)
 ·obtain⟨wk,lo,lr,ll,v,t,ab,rows,L,own,m,r,L',rfl,_⟩:=h
  rfl
 obtain⟨wk,lo,lr,ll,v,t,ab,rows,L,own,m,r,L',rfl,pt,tl,ii,ws,hlo,n1,n2,hc,lR,lL,q⟩:=h
 have hu:=hu_of hr
 refine⟨_,pss_one (ps_if (pt_cmpR op_eq (pe_ix (ixT K) (pv 2) pe_int (fun _ _=>rfl)) pe_str (nomark _))
   (pss_one (ps_expr (pe_bm PySem.F.plainAttrs_list PySem.F.slot_list_append PySem.F.type_list_append mt_append (pe_dget hu (pv 0) pe_str (fun _ _=>rfl)) (pa_cons (pe_tup (pa_cons pe_str (pa_cons (pe_ix (ixT K) (pv 2) pe_int (fun _ _=>rfl)) pa_nil))) pa_nil))))
  (pss_one (ps_if (pt_cmpR op_eq (pe_ix (ixT K) (pv 2) pe_int (fun _ _=>rfl)) pe_str (nomark _))
   (pss_one (ps_expr (pe_bm PySem.F.plainAttrs_list PySem.F.slot_list_append PySem.F.type_list_append mt_append (pe_dget hu (pv 0) pe_str (fun _ _=>rfl)) (pa_cons (pe_tup (pa_cons pe_str (pa_cons (pe_bm PySem.F.plainAttrs_list PySem.F.slot_list_index PySem.F.type_list_index mt_indexS (pv 1) (pa_cons (pe_ix (ixT K) (pv 2) pe_int (fun _ _=>rfl)) pa_nil)) pa_nil))) pa_nil))))
  (pss_one (ps_if (pt_cmpR op_eq (pe_ix (ixT K) (pv 2) pe_int (fun _ _=>rfl)) pe_str (nomark _))
   (pss_one (ps_expr (pe_bm PySem.F.plainAttrs_list PySem.F.slot_list_append PySem.F.type_list_append mt_append (pe_dget hu (pv 0) pe_str (fun _ _=>rfl)) (pa_cons (pe_tup (pa_cons pe_str (pa_cons (pe_ix (ixT K) (pv 2) pe_int (fun _ _=>rfl)) pa_nil))) pa_nil))))
  (pss_one (ps_if (pt_cmpR op_eq (pe_ix (ixT K) (pv 2) pe_int (fun _ _=>rfl)) pe_str (nomark _))
   (pss_one (ps_expr (pcall h2 hr (by omega) rfl (pa_cons (pv 0) (pa_cons (pv 1) (pa_cons (pv 2) pa_nil))))))
  (pss_one (ps_if (pt_cmpR op_eq (pe_ix (ixT K) (pv 2) pe_int (fun _ _=>rfl)) pe_str (nomark _))
   (pss_one (ps_expr (pcall h4 hr (by omega) rfl (pa_cons (pv 0) (pa_cons (pv 1) (pa_cons (pv 2) pa_nil))))))
  (pss_one (ps_if (pt_cmpR op_eq (pe_ix (ixT K) (pv 2) pe_int (fun _ _=>rfl)) pe_str (nomark _))
   (pss_one (ps_expr (pe_bm PySem.F.plainAttrs_list PySem.F.slot_list_append PySem.F.type_list_append mt_append (pe_dget hu (pv 0) pe_str (fun _ _=>rfl)) (pa_cons (pe_tup (pa_cons pe_str (pa_cons (pcall h3 hr (by omega) rfl (pa_cons (pv 0) (pa_cons (pv 1) (pa_cons (pe_ix (ixT K) (pv 2) pe_int (fun _ _=>rfl)) (pa_cons (pe_ix (ixT K) (pv 2) pe_int (fun _ _=>rfl)) pa_nil))))) pa_nil))) pa_nil))))
  (pss_one (ps_if (pt_cmpR op_eq (pe_ix (ixT K) (pv 2) pe_int (fun _ _=>rfl)) pe_str (nomark _))
   (pss_one (ps_expr (pcall h5 hr (by omega) rfl (pa_cons (pv 0) (pa_cons (pv 1) (pa_cons (pv 2) pa_nil))))))
  (pss_cons (ps_expr (pcall h1 hr (by omega) rfl (pa_cons (pv 0) (pa_cons (pv 1) (pa_cons (pe_ix (ixT K) (pv 2) pe_int (fun _ _=>rfl)) pa_nil)))))
  (pss_cons (ps_expr (pcall h1 hr (by omega) rfl (pa_cons (pv 0) (pa_cons (pv 1) (pa_cons (pe_ix (ixT K) (pv 2) pe_int (fun _ _=>rfl)) pa_nil)))))
  (pss_one (ps_expr (pe_bm PySem.F.plainAttrs_list PySem.F.slot_list_append PySem.F.type_list_append mt_append (pe_dget hu (pv 0) pe_str (fun _ _=>rfl)) (pa_cons (pe_tup (pa_cons (pe_ix (ixT K) (pv 2) pe_int (fun _ _=>rfl)) pa_nil)) pa_nil))))))))))))))))))),?_⟩
 obtain⟨m1,m2,m3,m4,m5,m6,m7,m8,m9,m10,m11,m12,m13,m14,m15⟩:=w_words
 obtain⟨kvs,hwk,g1,_⟩:=ws.wk
 obtain⟨rvs,hlr,alr⟩:=id ws.rw
 have er:=alr.1
 cases tl with
 |@n a i ha=>
  cases hc
  refine tag_th rfl ha ?_
  refine(dg_at rfl hwk g1 ⟨.inl ⟨rfl,_,SqL.of hlr⟩,ix_t (a:=a) (j:=1) rfl ha rfl ⟨small (by show 2≤1000000;decide),fun p1 hp1=>?_⟩⟩)
  obtain⟨w2,k2⟩:=ws.row hlr hp1 (o:=.tup [.str "number", .int i]) (r:=.row (.num i)) ⟨p1,rfl,upd_same⟩
  exact⟨lr,_, .ref p1,rfl,rfl,same_new hp1 _ _ _ hlr,small' (by omega),q _ k2 w2⟩
 |@v a x ha=>
  unfold comp at hc
  cases hix:ixOf x own with
  |none=>rw[hix]at hc;cases hc
  |some j=>
   rw[hix]at hc
   cases hc
   obtain⟨g5,g6⟩:=ix_nms ii.nm hix
   refine tag_el rfl ha m1 ?_
   refine tag_th rfl ha ?_
   refine(dg_at rfl hwk g1 ⟨.inl ⟨rfl,_,SqL.of hlr⟩,_,rfl, .inl ⟨rfl,_,SqL.of hlo⟩,_,rfl,a,_,1,_,rfl,rfl,SqT.of ha,atI_nat (j:=1) rfl,
    lo,own.map nmS,nmS x,j,rfl,rfl,hlo,g5,g6,small (by show 2≤1000000;decide),fun p1 hp1=>?_⟩)
   obtain⟨w2,k2⟩:=ws.row hlr hp1 (o:=.tup [.str "local", .int (j:Int)]) (r:=.row (.loc j)) ⟨p1,rfl,upd_same⟩
   simp only[List.length_singleton]at lR
   exact⟨lr,_, .ref p1,rfl,rfl,same_new hp1 _ _ _ hlr,small' (by omega),q _ k2 w2⟩
 |@g a i ha=>
  cases hc
  refine tag_el rfl ha m2 ?_
  refine tag_el rfl ha m3 ?_
  refine tag_th rfl ha ?_
  refine(dg_at rfl hwk g1 ⟨.inl ⟨rfl,_,SqL.of hlr⟩,ix_t (a:=a) (j:=1) rfl ha rfl ⟨small (by show 2≤1000000;decide),fun p1 hp1=>?_⟩⟩)
  obtain⟨w2,k2⟩:=ws.row hlr hp1 (o:=.tup [.str "global", .int (i:Int)]) (r:=.row (.glob i)) ⟨p1,rfl,upd_same⟩
  exact⟨lr,_, .ref p1,rfl,rfl,same_new hp1 _ _ _ hlr,small' (by omega),q _ k2 w2⟩
 |@lt a x u y ta tb ha t1 t2=>
  refine tag_el rfl ha m4 ?_
  refine tag_el rfl ha m5 ?_
  refine tag_el rfl ha m6 ?_
  refine tag_th rfl ha ?_
  exact⟨_,rfl,_,rfl,_,rfl,wk,lo,lr,ll,_, .lt x ta tb,ab,rows,L,own,m,r,L',rfl,trivial, .lt ha t1 t2,ii,ws,hlo,n1,n2,hc,lR,lL,q⟩
 |@ift a u y z tc ta tb ha t1 t2 t3=>
  refine tag_el rfl ha m12 ?_
  refine tag_el rfl ha m13 ?_
  refine tag_el rfl ha m14 ?_
  refine tag_el rfl ha m15 ?_
  refine tag_th rfl ha ?_
  exact⟨_,rfl,_,rfl,_,rfl,wk,lo,lr,ll,_, .ift tc ta tb,ab,rows,L,own,m,r,L',rfl,trivial, .ift ha t1 t2 t3,ii,ws,hlo,n1,n2,hc,lR,lL,q⟩
 |@fn a x u b ha t1=>
  obtain⟨js,hjs,rfl,rfl⟩:=comp_fn hc
  have l6:=ii.l6
  simp only[List.length_append,List.length_singleton]at lR lL
  refine tag_el rfl ha m7 ?_
  refine tag_el rfl ha m8 ?_
  refine tag_el rfl ha m9 ?_
  refine tag_el rfl ha m10 ?_
  refine tag_el rfl ha m11 ?_
  refine tag_th rfl ha ?_
  refine(dg_at rfl hwk g1 ⟨.inl ⟨rfl,_,SqL.of hlr⟩,_,rfl,_,rfl,ix_t (a:=a) (j:=1) rfl ha rfl ⟨_,rfl,a,_,2,_,rfl,rfl,SqT.of ha,atI_nat (j:=2) rfl,
   wk,lo,lr,ll,x,u,ab,rows,L,own,js,b,rfl,ws,hlo,ii.nm,n1,n2,t1,hjs,by omega,by omega,fun p q' H1 k1 w1 hp hq=>⟨small (by show 2≤1000000;decide),fun p2 hp2=>?_⟩⟩⟩)
  obtain⟨rv1,hl1,al1⟩:=id w1.rw
  have e1:=al1.1
  have s2:=same_new hp2 (.tup [.str "late", .ref p])
  obtain⟨w2,k2⟩:=w1.row hl1 hp2 (o:=.tup [.str "late", .ref p]) (r:=.late L.length js) ⟨p2,p,q',rfl,upd_same,s2 _ _ hp,s2 _ _ hq⟩
  exact⟨lr,_, .ref p2,rfl,rfl,s2 _ _ hl1,small' (by omega),q _ (k1.trans k2) w2⟩
 |@ring a t x ts bs u b ha h2 t1 t2=>
  obtain⟨z1,z2,z3,z4,z5,z6⟩:=w_ring
  refine tag_el rfl ha z1 ?_
  refine tag_el rfl ha z2 ?_
  refine tag_el rfl ha z3 ?_
  refine tag_el rfl ha z4 ?_
  refine tag_el rfl ha z5 ?_
  refine tag_el rfl ha z6 ?_
  refine tag_th rfl ha ?_
  exact⟨_,rfl,_,rfl,_,rfl,wk,lo,lr,ll,_, .ring x bs b,ab,rows,L,own,m,r,L',rfl,trivial, .ring ha h2 t1 t2,ii,ws,hlo,n1,n2,hc,lR,lL,q⟩
 |@op a k u y ta tb ha t1 t2=>
  obtain⟨r1,L1,r2,c1,c2,rfl⟩:=comp_op hc
  obtain⟨⟨hk,b1,b2⟩,me,l4,l6,dn⟩:=ii
  obtain⟨m1,m2,m3,m4,m5,m6⟩:=w_op k hk
  have m7:=w_op7 k hk
  simp only[dep]at l4 l6 dn
  have dm1:=Nat.le_max_left (dep ta) (dep tb)
  have dm2:=Nat.le_max_right (dep ta) (dep tb)
  generalize max (dep ta) (dep tb)=Dm at l4 l6 dn dm1 dm2
  simp only[List.length_append,List.length_singleton]at lR
  obtain⟨j,rfl⟩:∃j,n=j+1:=⟨n-1,by omega⟩
  have i1:In j m own ta:=⟨b1,me,by omega,by omega,by omega⟩
  have i2:In j m own tb:=⟨b2,me,by omega,by omega,by omega⟩
  have lL1:=i2.len c2
  refine tag_el rfl ha m1 ?_
  refine tag_el rfl ha m2 ?_
  refine tag_el rfl ha m3 ?_
  refine tag_el rfl ha m4 ?_
  refine tag_el rfl ha m5 ?_
  refine tag_el rfl ha m6 ?_
  refine tag_el rfl ha m7 ?_
  refine⟨_,rfl,_,rfl,ix_t (a:=a) (j:=1) rfl ha rfl ⟨wk,lo,lr,ll,u,ta,ab,rows,L,own,m,r1,L1,rfl,trivial,t1,i1,ws,hlo,n1,n2,c1,by omega,by omega,fun H1 k1 w1=>?_⟩⟩
  have ha1:=ws.tps k1 _ _ ha
  refine⟨_,rfl,_,rfl,ix_t (a:=a) (j:=2) rfl ha1 rfl ⟨wk,lo,lr,ll,y,tb,ab,_,L1,own,m,r2,L',rfl,trivial,t2.tps (ws.tps k1),i2,w1,k1 _ _ n1 n2 hlo,n1,n2,by rw[List.length_append];exact c2,by rw[List.length_append];omega,lL,fun H2 k2 w2=>?_⟩⟩
  have ha2:=w1.tps k2 _ _ ha1
  obtain⟨kv2,hwk2,g2,_⟩:=w2.wk
  obtain⟨rv2,hl2,al2⟩:=id w2.rw
  have e2:=al2.1
  simp only[List.length_append]at e2
  refine(dg_at rfl hwk2 g2 ⟨.inl ⟨rfl,_,SqL.of hl2⟩,ix_t (a:=a) (j:=0) rfl ha2 rfl ⟨small (by show 1≤1000000;decide),fun p3 hp3=>?_⟩⟩)
  obtain⟨w3,k3⟩:=w2.row hl2 hp3 (o:=.tup [.str (wordOf k)]) (r:=.row (.reck k)) ⟨p3,rfl,upd_same⟩
  refine⟨lr,_, .ref p3,rfl,rfl,same_new hp3 _ _ _ hl2,small' (by omega),q _ (k1.trans (k2.trans k3)) ?_⟩
  have e6:rows++(r1++r2++[.row (.reck k)])=rows++r1++r2++[.row (.reck k)]:=by simp
  rw[e6]
  exact w3
 |@call a u y ta tb ha t1 t2=>
  obtain⟨r1,L1,r2,c1,c2,rfl⟩:=comp_call hc
  obtain⟨⟨b1,b2⟩,me,l4,l6,dn⟩:=ii
  obtain⟨m1,m2,m3,m4,m5,m6⟩:=w_call
  have m7:=w_call7
  simp only[dep]at l4 l6 dn
  have dm1:=Nat.le_max_left (dep ta) (dep tb)
  have dm2:=Nat.le_max_right (dep ta) (dep tb)
  generalize max (dep ta) (dep tb)=Dm at l4 l6 dn dm1 dm2
  simp only[List.length_append,List.length_singleton]at lR
  obtain⟨j,rfl⟩:∃j,n=j+1:=⟨n-1,by omega⟩
  have i1:In j m own ta:=⟨b1,me,by omega,by omega,by omega⟩
  have i2:In j m own tb:=⟨b2,me,by omega,by omega,by omega⟩
  have lL1:=i2.len c2
  refine tag_el rfl ha m1 ?_
  refine tag_el rfl ha m2 ?_
  refine tag_el rfl ha m3 ?_
  refine tag_el rfl ha m4 ?_
  refine tag_el rfl ha m5 ?_
  refine tag_el rfl ha m6 ?_
  refine tag_el rfl ha m7 ?_
  refine⟨_,rfl,_,rfl,ix_t (a:=a) (j:=1) rfl ha rfl ⟨wk,lo,lr,ll,u,ta,ab,rows,L,own,m,r1,L1,rfl,trivial,t1,i1,ws,hlo,n1,n2,c1,by omega,by omega,fun H1 k1 w1=>?_⟩⟩
  have ha1:=ws.tps k1 _ _ ha
  refine⟨_,rfl,_,rfl,ix_t (a:=a) (j:=2) rfl ha1 rfl ⟨wk,lo,lr,ll,y,tb,ab,_,L1,own,m,r2,L',rfl,trivial,t2.tps (ws.tps k1),i2,w1,k1 _ _ n1 n2 hlo,n1,n2,by rw[List.length_append];exact c2,by rw[List.length_append];omega,lL,fun H2 k2 w2=>?_⟩⟩
  have ha2:=w1.tps k2 _ _ ha1
  obtain⟨kv2,hwk2,g2,_⟩:=w2.wk
  obtain⟨rv2,hl2,al2⟩:=id w2.rw
  have e2:=al2.1
  simp only[List.length_append]at e2
  refine(dg_at rfl hwk2 g2 ⟨.inl ⟨rfl,_,SqL.of hl2⟩,ix_t (a:=a) (j:=0) rfl ha2 rfl ⟨small (by show 1≤1000000;decide),fun p3 hp3=>?_⟩⟩)
  obtain⟨w3,k3⟩:=w2.row hl2 hp3 (o:=.tup [.str "call"]) (r:=.row .call) ⟨p3,rfl,upd_same⟩
  refine⟨lr,_, .ref p3,rfl,rfl,same_new hp3 _ _ _ hl2,small' (by omega),q _ (k1.trans (k2.trans k3)) ?_⟩
  have e6:rows++(r1++r2++[.row .call])=rows++r1++r2++[.row .call]:=by simp
  rw[e6]
  exact w3
end
theorem comp_tupM {K:PySem.W.Frag}{H:Hp}{n:Nat}{a:Addr}{xs:List V}{g:TG}{tt:TT}{te:TE}{σ':L2.St}{Q:VK}(Pv:Nat→List V→Hp→Prop)(h0:Pv 0 [] H)(hl:∀i vs H,i≤xs.length→Pv i vs H→SqT K H a xs∧vs.length<sizeLine)
  (hs:∀i x vs H2 (τ:L2.St),τ.length=n→i<xs.length→xs[i]?=some x→Pv i vs H2→g x (τ++σ') H2 fun σ1 H3=>(∃τ':L2.St,σ1=τ'++σ'∧τ'.length=n)∧tt σ1 H3 fun b H4=>if b=true then te σ1 H4 fun v H5=>Nx xs.length i (Pv (i+1) (vs++[v]) H5) else Nx xs.length i (Pv (i+1) vs H4))
  (hd:∀vs H2,Pv xs.length vs H2→∀l,H2 l=none→Q (.ref l) (upd H2 l (.lst vs))):CompWM n (Itt K a) g tt te σ' Q H:=by
 refine⟨fun i m vs H=>m=xs.length-i∧i≤xs.length∧Pv i vs H,⟨xs.length,by simp,Nat.zero_le _,h0⟩,?_⟩
 rintro i m vs H2 ⟨rfl,hi,p⟩
 obtain⟨q1,q2⟩:=hl i vs H2 hi p
 refine⟨q2,?_⟩
 by_cases hlt:i<xs.length
 ·refine .inr ⟨⟨xs,xs[i],q1,by simp[hlt]⟩,?_⟩
  rintro τ x H3 lτ ⟨e,y⟩
  subst e
  exact hs i x vs _ τ lτ hlt (y xs q1) p
 ·have e:i=xs.length:=by omega
  subst e
  exact .inl ⟨⟨xs,q1,Nat.le_refl _⟩,hd vs H2 p⟩
theorem nms_at {x k i:Nat}(h:i<k):(nmsV (nms x k))[i]?=some (.str (nmS (x+i))):=by
 unfold nmsV nms
 simp[h]
section
variable {P:Program}{w:World}{K:PySem.W.Frag}{mg:Str→Option Value}{base:Heap}{f:Addr}{fd:FuncData}
abbrev s_ringr:Stmt:=top 66
abbrev nRr:List Str:=["_law_work","_law_own_here","_law_term","_law_inner"]
theorem sc_ringr:FnScope nRr pRo (defScope s_ringr):=⟨rfl,rfl,rfl,by decide+kernel,rfl,by decide+kernel,by decide+kernel⟩
theorem nd_rr:(["_law_name","_law_x","_law_body","_law_work","_law_inner"]:List Str).Nodup:=by decide+kernel
set_option maxHeartbeats 4000000 in
theorem ok_ringr {n:Nat}(F:Fun K "_law_ring_rows" "_law_ring_rows" s_ringr f fd)(ml:mg "len"=none)(h1:Has P w K mg base (2*n) "_law_rows" pRo (spRon n))(h3:Has P w K mg base 1 "_law_held" pHe spHeld):FnOk P w K mg base CX0 (2*n+1) f fd pRo (spRO isRing n):=by
 refine F.ok sc_ringr (fun vs H Q E h=>?_) (fun cdv A outer s H vs Q E hr h=>?_)
 ·obtain⟨wk,lo,lr,ll,v,t,ab,rows,L,own,m,r,L',rfl,_⟩:=h
  rfl
 obtain⟨wk,lo,lr,ll,v,t,ab,rows,L,own,m,r,L',rfl,pt,tl,ii,ws,hlo,n1,n2,hc,lR,lL,q⟩:=h
 have hu:=hu_of hr
 have hn:1≤n:=by cases t<;>first|exact pt.elim|(have:=ii.dn;simp only[dep]at this;omega)
 refine⟨_,pss_cons (ps_set (i:=3) sc_ringr.nd rfl (Or.inr rfl) (pe_op op_cat (pv 1) (pe_lc (te:=tOp (rIxT K) (tVar 0) (tC (.int 0))) (defScope s_ringr) nRr [] [] (by decide+kernel) (piT K (pe_ix (ixT K) (pv 2) pe_int (fun _ _=>rfl))) (fun C s₀ H₀ ex=>pts_nil)
   (fun C s₀ H₀ ex=>pe_ix (ixT K) (pv 0) pe_int (fun _ _=>rfl)))))
  (pss_cons (ps_expr (pe_bm PySem.F.plainAttrs_list PySem.F.slot_list_append PySem.F.type_list_append mt_append (pe_dget hu (pv 0) pe_str (fun _ _=>rfl)) (pa_cons (pe_tup (pa_cons pe_str (pa_cons
   (pe_lcM (g:=gTup K 3 (gCons (gName 0) (gCons (gName 1) (gCons (gName 2) gNil)))) (defScope s_ringr) nRr ["_law_name","_law_x","_law_body"] ["_law_work","_law_inner"] [0,3] (by decide+kernel) (piT K (pe_ix (ixT K) (pv 2) pe_int (fun _ _=>rfl)))
    (fun C s₀ H₀ ex=>pgT K (n:=3) rfl (pgs_cons (pg_name (i:=0) nd_rr rfl (Or.inl rfl) (Or.inr rfl)) (pgs_cons (pg_name (i:=1) nd_rr rfl (Or.inl rfl) (Or.inr rfl)) (pgs_cons (pg_name (i:=2) nd_rr rfl (Or.inl rfl) (Or.inr rfl)) pgs_nil))))
    (fun C s₀ H₀ ex=>pts_nil) (fun C s₀ H₀ ex=>pcall h3 hr (by omega) rfl (pa_cons (pv 3) (pa_cons (pv 4) (pa_cons (pv 1) (pa_cons (pv 2) pa_nil)))))) pa_nil))) pa_nil)))
  (pss_cons (ps_expr (pcall h1 hr (by omega) rfl (pa_cons (pv 0) (pa_cons (pv 3) (pa_cons (pe_ix (ixT K) (pv 2) pe_int (fun _ _=>rfl)) pa_nil)))))
  (pss_one (ps_expr (pe_bm PySem.F.plainAttrs_list PySem.F.slot_list_append PySem.F.type_list_append mt_append (pe_dget hu (pv 0) pe_str (fun _ _=>rfl)) (pa_cons (pe_tup (pa_cons pe_str (pa_cons (pe_callB (clen K) rfl ml PySem.boot_len (pa_cons (pe_ix (ixT K) (pv 2) pe_int (fun _ _=>rfl)) pa_nil)) pa_nil))) pa_nil)))))),?_⟩
 have hz:=sizeLine_eq
 cases tl with
 |n h=>exact pt.elim
 |v h=>exact pt.elim
 |g h=>exact pt.elim
 |lt h a b=>exact pt.elim
 |fn h a=>exact pt.elim
 |ift h a b c=>exact pt.elim
 |op h a b=>exact pt.elim
 |call h a b=>exact pt.elim
 |@ring a t x ts bs u b ha ht t1 t2=>
  obtain⟨js,r1,hjs,c1,rfl⟩:=comp_ring hc
  obtain⟨⟨b0,l5,gl,gb⟩,me,l4,l6,dn⟩:=ii
  subst b0
  simp only[dep]at l4 l6 dn
  have dm1:=Nat.le_max_left (depL bs) (dep b)
  have dm2:=Nat.le_max_right (depL bs) (dep b)
  generalize max (depL bs) (dep b)=Dm at l4 l6 dn dm1 dm2
  simp only[List.length_append,List.length_singleton]at lR
  have lts:=t1.len
  have lnn:(nmsV (nms x bs.length)).length=bs.length:=by rw[nmsV_len,nms_len]
  have linn:(own++nms x bs.length).length=own.length+bs.length:=by rw[List.length_append,nms_len]
  obtain⟨j,rfl⟩:∃j,n=j+1:=⟨n-1,by omega⟩
  have i2:In j (x+bs.length) (own++nms x bs.length) b:=⟨gb,mem_nms me,by omega,by rw[linn];omega,by omega⟩
  have lL1:=i2.len c1
  rw[List.length_append,List.length_map]at lL1
  refine⟨_,rfl,ix_t (a:=a) (j:=1) rfl ha rfl ⟨t,rfl,⟨_,SqT.of ht⟩,comp_tup (xs:=ts) (fun i vs H'=>H'=H∧vs=(nmsV (nms x bs.length)).take i) ⟨rfl,rfl⟩ ?_ ?_ ?_⟩⟩
  ·rintro i vs H' hi ⟨rfl,rfl⟩
   exact⟨SqT.of ht,by rw[List.length_take];omega⟩
  ·rintro i y vs H' hi hy ⟨rfl,rfl⟩
   have lib:i<bs.length:=by omega
   obtain⟨p,v,e1,e2,e3⟩:=t1.get (List.getElem?_eq_getElem lib)
   rw[e1]at hy
   cases hy
   refine tt1 (iteT (ix_t (a:=p) (j:=0) rfl e2 rfl (nx hi ⟨rfl,?_⟩)))
   rw[List.take_add_one,nms_at lib]
   rfl
  ·rintro vs H' ⟨rfl,rfl⟩ l1 hl1
   rw[show(nmsV (nms x bs.length)).take ts.length=nmsV (nms x bs.length) from List.take_of_length_le (by omega)]
   have s1:=same_new hl1 (.lst (nmsV (nms x bs.length)))
   refine⟨lo,l1,_,_,rfl,rfl,s1 _ _ hlo,upd_same,small (by rw[nmsV_len,lnn];omega),fun l2 hl2=>?_⟩
   have e4:nmsV own++nmsV (nms x bs.length)=nmsV (own++nms x bs.length):=by unfold nmsV;rw[List.map_append,List.map_append]
   rw[e4]
   have s2:=same_new hl2 (.lst (nmsV (own++nms x bs.length)))
   have s12:=s1.trans s2
   have h2:(upd (upd H' l1 (.lst (nmsV (nms x bs.length)))) l2 (.lst (nmsV (own++nms x bs.length)))) l2=some (.lst (nmsV (own++nms x bs.length))):=upd_same
   have nl2:l2≠lr∧l2≠ll:=by
    obtain⟨rvs,hlr,_⟩:=ws.rw
    obtain⟨lvs,hll,_⟩:=ws.lt
    exact⟨ne_of_none' hl2 (s1 _ _ hlr),ne_of_none' hl2 (s1 _ _ hll)⟩
   revert s12 h2
   generalize upd (upd H' l1 (.lst (nmsV (nms x bs.length)))) l2 (.lst (nmsV (own++nms x bs.length)))=H2
   intro s12 h2
   have w2:=ws.same s12
   obtain⟨kvs,hwk,g1,_⟩:=w2.wk
   obtain⟨rvs,hlr,alr⟩:=id w2.rw
   refine(dg_at rfl hwk g1 ⟨.inl ⟨rfl,_,SqL.of hlr⟩,ix_t (a:=a) (j:=1) rfl (s12 _ _ ha) rfl ⟨t,rfl,⟨_,SqT.of (s12 _ _ ht)⟩,?_⟩⟩)
   refine comp_tupM (n:=3) (xs:=ts) (fun i vs H3=>Kp lr ll H2 H3∧WS H3 wk lr ll ab rows (L++(bs.take i).map fun t=>(namesOf ab (own++nms x bs.length)++[x+bs.length],t))∧AllL (PrL H3) vs ((List.range i).map fun i=>(L.length+i,js))) ⟨Kp.refl,by simpa using w2,AllL.nil⟩ ?_ ?_ ?_
   ·rintro i vs H3 hi ⟨k3,w3,al⟩
    refine⟨SqT.of (w2.tps k3 _ _ (s12 _ _ ht)),?_⟩
    have:=al.1
    rw[List.length_map,List.length_range]at this
    omega
   ·rintro i y vs H3 τ lτ hi hy ⟨k3,w3,al⟩
    have lib:i<bs.length:=by omega
    obtain⟨p,v,e1,e2,e3⟩:=t1.get (List.getElem?_eq_getElem lib)
    rw[e1]at hy
    cases hy
    have tp3:Tps H' H3:=fun b ys h=>w2.tps k3 _ _ (s12 _ _ h)
    obtain⟨o1,o2,o3,rfl⟩:=len3 lτ
    refine⟨p,_,rfl,SqT.of (tp3 _ _ e2),rfl,_,_,rfl,_,_,rfl,_,[],rfl,rfl,⟨[some _,some _,some _],rfl,rfl⟩,?_⟩
    refine tt1 (iteT ⟨_,rfl,_,rfl,_,rfl,_,rfl,wk,l2,lr,ll,x+bs.length,v,ab,rows,_,own++nms x bs.length,js,bs[i],rfl,w3,k3 _ _ nl2.1 nl2.2 h2,i2.nm,nl2.1,nl2.2,e3.tps tp3,hjs,by rw[linn];omega,?_,fun p5 q5 H5 k5 w5 hp5 hq5=>nx hi ⟨k3.trans k5,?_,?_⟩⟩)
    ·rw[List.length_append,List.length_map,List.length_take];omega
    ·rw[List.append_assoc]at w5
     rw[List.take_add_one,List.getElem?_eq_getElem lib,List.map_append]
     exact w5
    ·have el:(L++(bs.take i).map fun t=>(namesOf ab (own++nms x bs.length)++[x+bs.length],t)).length=L.length+i:=by rw[List.length_append,List.length_map,List.length_take];omega
     rw[el]at hp5
     rw[List.range_succ,List.map_append]
     exact(al.mono fun v r=>PrL.tps (w3.tps k5)).snoc ⟨p5,q5,rfl,hp5,hq5⟩
   ·rintro vs H3 ⟨k3,w3,al⟩ l4 hl4
    rw[lts,List.take_length]at w3
    rw[lts]at al
    have s4:=same_new hl4 (.lst vs)
    have h4:(upd H3 l4 (.lst vs)) l4=some (.lst vs):=upd_same
    have nl4:l4≠lr∧l4≠ll:=by
     obtain⟨rvs,hlr,_⟩:=w3.rw
     obtain⟨lvs,hll,_⟩:=w3.lt
     exact⟨ne_of_none' hl4 hlr,ne_of_none' hl4 hll⟩
    revert s4 h4
    generalize upd H3 l4 (.lst vs)=H4
    intro s4 h4
    have w4:=w3.same s4
    obtain⟨rv4,hl4r,al4⟩:=id w4.rw
    have e4':=al4.1
    refine⟨small (by show 2≤1000000;decide),fun p5 hp5=>?_⟩
    have s5:=same_new hp5 (.tup [.str "late", .ref l4])
    obtain⟨w5,k5⟩:=w4.row hl4r hp5 (o:=.tup [.str "late", .ref l4]) (r:=.lateR ((List.range bs.length).map fun i=>(L.length+i,js))) ⟨p5,l4,vs,rfl,upd_same,s5 _ _ h4,nl4.1,nl4.2,al.mono fun v r h=>h.tps fun b ys q=>s5 _ _ (s4 _ _ q)⟩
    refine⟨lr,_, .ref p5,rfl,rfl,s5 _ _ hl4r,small' (by omega),?_⟩
    revert w5 k5
    generalize upd (upd H4 p5 (.tup [.str "late", .ref l4])) lr (.lst (rv4++[.ref p5]))=H6
    intro w5 k5
    have k06:Kp lr ll H' H6:=(kp_same s12).trans (k3.trans ((kp_same s4).trans k5))
    have k26:Kp lr ll H2 H6:=k3.trans ((kp_same s4).trans k5)
    have tp6:=ws.tps k06
    refine⟨_,rfl,_,rfl,ix_t (a:=a) (j:=2) rfl (tp6 _ _ ha) rfl ⟨wk,l2,lr,ll,u,b,ab,_,_,own++nms x bs.length,x+bs.length,r1,L',rfl,trivial,t2.tps tp6,i2,w5,k26 _ _ nl2.1 nl2.2 h2,nl2.1,nl2.2,by rw[List.length_append];exact c1,by rw[List.length_append];simp only[List.length_singleton];omega,lL,fun H7 k7 w7=>?_⟩⟩
    have k07:=k06.trans k7
    have tp7:=ws.tps k07
    obtain⟨kv7,hk7,vk7,_⟩:=w7.wk
    obtain⟨rv7,hl7,al7⟩:=id w7.rw
    have e7:=al7.1
    simp only[List.length_append,List.length_singleton]at e7
    refine(dg_at rfl hk7 vk7 ⟨.inl ⟨rfl,_,SqL.of hl7⟩,ix_t (a:=a) (j:=1) rfl (tp7 _ _ ha) rfl ⟨t,ts,rfl, .inr (SqT.of (tp7 _ _ ht)),small (by show 2≤1000000;decide),fun p8 hp8=>?_⟩⟩)
    rw[lts]
    obtain⟨w8,k8⟩:=w7.row hl7 hp8 (o:=.tup [.str "drop", .int (bs.length:Int)]) (r:=.row (.drop bs.length)) ⟨p8,rfl,upd_same⟩
    refine⟨lr,_, .ref p8,rfl,rfl,same_new hp8 _ _ _ hl7,small' (by omega),q _ (k07.trans k8) ?_⟩
    rw[show rows++([Lr.lateR ((List.range bs.length).map fun i=>(L.length+i,js))]++r1++[.row (.drop bs.length)])=rows++[Lr.lateR ((List.range bs.length).map fun i=>(L.length+i,js))]++r1++[.row (.drop bs.length)] by simp]
    exact w8
variable {fl fh ft fr:Addr}{fdl fdh fdt fdr:FuncData}
theorem rows_all (F:Fun K "_law_rows" "_law_rows" s_rows f fd)(bF:Binds K fd pRo [])(mF:mg "_law_rows"=some (.ref f))(Fl:Fun K "_law_let_rows" "_law_let_rows" s_letr fl fdl)(bl:Binds K fdl pRo [])(mL:mg "_law_let_rows"=some (.ref fl))
  (Ft:Fun K "_law_test_rows" "_law_test_rows" s_testr ft fdt) (bt:Binds K fdt pRo []) (mT:mg "_law_test_rows"=some (.ref ft)) (Fr:Fun K "_law_ring_rows" "_law_ring_rows" s_ringr fr fdr) (br:Binds K fdr pRo []) (mR:mg "_law_ring_rows"=some (.ref fr)) (ml:mg "len"=none) (h3:Has P w K mg base 1 "_law_held" pHe spHeld):∀n:Nat,Has P w K mg base (2*n) "_law_rows" pRo (spRon n)
 |0=>⟨f,fd,⟨fun vs H Q E h=>h.elim,fun A outer s H args us vs Q E _ _ _ _ h=>h.elim⟩,bF,F.kp,mF⟩
 |n+1=>by
  have ih:=rows_all F bF mF Fl bl mL Ft bt mT Fr br mR ml h3 n
  exact⟨f,fd,ok_rows F ih ⟨fl,fdl,ok_letr Fl ih,bl,Fl.kp,mL⟩ ⟨ft,fdt,ok_testr Ft ml ih,bt,Ft.kp,mT⟩ h3 ⟨fr,fdr,ok_ringr Fr ml ih h3,br,Fr.kp,mR⟩,bF,F.kp,mF⟩
end
def intsV (js:List Nat):List V:=js.map fun j:Nat=>V.int (j:Int)
inductive CspWR (vs:List V)(H:Hp)(Q:VK)(E_:XK):Prop where
 |mk (v:V) (lb lr ll:Addr) (r:Lr) (bg:List Nat) (x:Rw):vs=[v, .ref lb]→LrL lr ll H v r→H lb=some (.lst (intsV bg))→wholeR bg r=some x→(∀ks,r=.lateR ks→ks.length≤50000)→(∀(a:Addr) H',Same H H'→RwL H' a x→Q (.ref a) H')→CspWR vs H Q E_
def spWR:Sp:=CspWR
theorem rw_late (r:Rw):rwNm r≠"late":=by
 cases r with
 |reck k=>match k with
  |0=>decide+kernel
  |1=>decide+kernel
  |2=>decide+kernel
  |n+3=>show("less":Str)≠"late";decide+kernel
 |num i=>show("number":Str)≠"late";decide+kernel
 |loc i=>show("local":Str)≠"late";decide+kernel
 |glob i=>show("global":Str)≠"late";decide+kernel
 |keep=>show("keep":Str)≠"late";decide+kernel
 |drop n=>show("drop":Str)≠"late";decide+kernel
 |store=>show("store":Str)≠"late";decide+kernel
 |unl i=>show("unless":Str)≠"late";decide+kernel
 |jump i=>show("jump":Str)≠"late";decide+kernel
 |close i j=>show("close":Str)≠"late";decide+kernel
 |ring fs=>show("ring":Str)≠"late";decide+kernel
 |call=>show("call":Str)≠"late";decide+kernel
 |back=>show("back":Str)≠"late";decide+kernel
theorem comp_listM {K:PySem.W.Frag}{H:Hp}{n:Nat}{a:Addr}{xs:List V}{g:TG}{tt:TT}{te:TE}{σ':L2.St}{Q:VK}(Pv:Nat→List V→Hp→Prop)(h0:Pv 0 [] H)(hl:∀i vs H,i≤xs.length→Pv i vs H→SqL K H a xs∧vs.length<sizeLine)
  (hs:∀i x vs H2 (τ:L2.St),τ.length=n→i<xs.length→xs[i]?=some x→Pv i vs H2→g x (τ++σ') H2 fun σ1 H3=>(∃τ':L2.St,σ1=τ'++σ'∧τ'.length=n)∧tt σ1 H3 fun b H4=>if b=true then te σ1 H4 fun v H5=>Nx xs.length i (Pv (i+1) (vs++[v]) H5) else Nx xs.length i (Pv (i+1) vs H4))
  (hd:∀vs H2,Pv xs.length vs H2→∀l,H2 l=none→Q (.ref l) (upd H2 l (.lst vs))):CompWM n (Itl K a) g tt te σ' Q H:=by
 refine⟨fun i m vs H=>m=xs.length-i∧i≤xs.length∧Pv i vs H,⟨xs.length,by simp,Nat.zero_le _,h0⟩,?_⟩
 rintro i m vs H2 ⟨rfl,hi,p⟩
 obtain⟨q1,q2⟩:=hl i vs H2 hi p
 refine⟨q2,?_⟩
 by_cases hlt:i<xs.length
 ·refine .inr ⟨⟨xs,xs[i],q1,by simp[hlt]⟩,?_⟩
  rintro τ x H3 lτ ⟨e,y⟩
  subst e
  exact hs i x vs _ τ lτ hlt (y xs q1) p
 ·have e:i=xs.length:=by omega
  subst e
  exact .inl ⟨⟨xs,q1,Nat.le_refl _⟩,hd vs H2 p⟩
theorem kit_list (K:PySem.W.Frag):PySem.W.kitOne K (.type "list") (.type "tuple")=some false:=by first|rfl|kernel_rfl
theorem nd_op:(["_law_one","_law_places","_law_begins"]:List Str).Nodup:=by decide+kernel
theorem wholeL_get {bg:List Nat}:∀{ks fs:List (Nat×List Nat)},wholeL bg ks=some fs→fs.length=ks.length∧∀(j:Nat) k,ks[j]?=some k→∃b,bg[k.1]?=some b∧fs[j]?=some (b,k.2)
 |[],fs,h=>by cases h;exact⟨rfl,fun j k e=>by simp at e⟩
 |a::as,fs,h=>by
  unfold wholeL at h
  cases e1:bg[a.1]? with
  |none=>simp only[e1]at h;cases h
  |some b=>
   cases e2:wholeL bg as with
   |none=>simp only[e1,e2]at h;cases h
   |some fs'=>
    simp only[e1,e2]at h
    cases h
    obtain⟨l,g⟩:=wholeL_get e2
    refine⟨by simp[l],fun j k e=>?_⟩
    cases j with
    |zero=>simp at e;subst e;exact⟨b,e1,rfl⟩
    |succ j=>
     obtain⟨b',h1,h2⟩:=g j k (by simpa using e)
     exact⟨b',h1,by simpa using h2⟩
theorem kit_tuple (K:PySem.W.Frag):PySem.W.kitOne K (.type "tuple") (.type "tuple")=some true:=by first|rfl|kernel_rfl
section
variable {P:Program}{w:World}{K:PySem.W.Frag}{mg:Str→Option Value}{base:Heap}{f:Addr}{fd:FuncData}
abbrev s_wrow:Stmt:=top 68
abbrev pWr:List Str:=["_law_row","_law_begins"]
theorem sc_wrow:FnScope pWr pWr (defScope s_wrow):=⟨rfl,rfl,rfl,by decide+kernel,rfl,by decide+kernel,by decide+kernel⟩
theorem ok_wrow (F:Fun K "_law_whole_row" "_law_whole_row" s_wrow f fd)(mi:mg "isinstance"=none)(mt:mg "tuple"=none):FnOk P w K mg base CX0 1 f fd pWr spWR:=by
 refine F.ok sc_wrow (fun vs H Q E h=>?_) (fun cdv A outer s H vs Q E hr h=>?_)
 ·obtain⟨v,lb,lr,ll,r,bg,x,rfl,_⟩:=h
  rfl
 obtain⟨v,lb,lr,ll,r,bg,x,rfl,hl,hb,hw,lks,q⟩:=h
 refine⟨_,pss_cons (ps_if (pt_cmpR op_ne (pe_ix (ixT K) (pv 0) pe_int (fun _ _=>rfl)) pe_str (nomark _)) (pss_one (ps_ret (pv 0))) pss_nil)
  (pss_cons (ps_if (pt_val (pe_callB call_isi rfl mi boot_isinstance (pa_cons (pe_ix (ixT K) (pv 0) pe_int (fun _ _=>rfl)) (pa_cons (pe_bltn (v:=.ty "tuple") rfl mt boot_tuple rfl) pa_nil))))
   (pss_one (ps_ret (pe_tup (pa_cons pe_str (pa_cons (pe_ix (ixL K) (pv 1) (pe_ix (ixT K) (pe_ix (ixT K) (pv 0) pe_int (fun _ _=>rfl)) pe_int (fun _ _=>rfl)) (fun _ _=>rfl)) (pa_cons (pe_ix (ixT K) (pe_ix (ixT K) (pv 0) pe_int (fun _ _=>rfl)) pe_int (fun _ _=>rfl)) pa_nil)))))) pss_nil)
  (pss_one (ps_ret (pe_tup (pa_cons pe_str (pa_cons (pe_callTy call_tuple_of rfl mt boot_tuple (pa_cons
   (pe_lcM (te:=tTup (tCons (tOp (rIxL K) (tVar 2) (tVar 0)) (tCons (tVar 1) tNil))) (g:=gTup K 2 (gCons (gName 0) (gCons (gName 1) gNil))) (defScope s_wrow) pWr ["_law_one","_law_places"] ["_law_begins"] [1] (by decide+kernel) (piL K (pe_ix (ixT K) (pv 0) pe_int (fun _ _=>rfl)))
    (fun C s₀ H₀ ex=>pgT K (n:=2) rfl (pgs_cons (pg_name (i:=0) nd_op rfl (Or.inl rfl) (Or.inr rfl)) (pgs_cons (pg_name (i:=1) nd_op rfl (Or.inl rfl) (Or.inr rfl)) pgs_nil)))
    (fun C s₀ H₀ ex=>pts_nil) (fun C s₀ H₀ ex=>pe_tup (pa_cons (pe_ix (ixL K) (pv 2) (pv 0) (fun _ _=>rfl)) (pa_cons (pv 1) pa_nil)))) pa_nil)) pa_nil)))))),?_⟩
 have hz:=sizeLine_eq
 cases r with
 |row r=>
  obtain⟨a,rfl,ha⟩:=hl
  cases hw
  obtain⟨args,h1⟩:=rw_head ha
  refine(ix_t (a:=a) (j:=0) rfl h1 rfl ⟨rfl,_,rfl,ite2 (fun c=>?_) (fun c=>?_)⟩)
  ·exact⟨_,rfl,q a H (Same.refl _) ha⟩
  ·exact absurd (by rw[decide_eq_false (fun e=>rw_late x (V.str.inj e))];rfl) c
 |late k js=>
  obtain⟨a,p,q',rfl,h1,h2,h3⟩:=hl
  have hw:(bg[k]?).map (fun b=>Rw.close b js)=some x:=hw
  cases hk:bg[k]? with
  |none=>rw[hk]at hw;cases hw
  |some b=>
   rw[hk]at hw
   cases hw
   refine(ix_t (a:=a) (j:=0) rfl h1 rfl ⟨rfl,_,rfl,ite2 (fun c=>absurd c (by rw[decide_eq_true rfl];decide)) (fun c=>?_)⟩)
   refine(ix_t (a:=a) (j:=1) rfl h1 rfl ⟨_,_,_,_,rfl, .tup h2,kit_tuple K,_,rfl,iteT ?_⟩)
   refine⟨_,rfl,ix_t (a:=a) (j:=1) rfl h1 rfl ⟨p,_,0,_,rfl,rfl,SqT.of h2,atI_nat (j:=0) rfl,lb,_,k, .int (b:Int),rfl,rfl,SqL.of hb,atI_nat (j:=k) (by unfold intsV;rw[List.getElem?_map,hk];rfl),?_⟩⟩
   refine(ix_t (a:=a) (j:=1) rfl h1 rfl ⟨p,_,1,_,rfl,rfl,SqT.of h2,atI_nat (j:=1) rfl,small (by show 3≤1000000;decide),fun p4 hp4=>?_⟩)
   have s4:=same_new hp4 (.tup [.str "close", .int (b:Int), .ref q'])
   exact q p4 _ s4 ⟨q',upd_same,s4 _ _ h3⟩
 |lateR ks=>
  obtain⟨a,l,xs,rfl,h1,h2,n1,n2,al⟩:=hl
  have hw:(wholeL bg ks).map Rw.ring=some x:=hw
  cases hk:wholeL bg ks with
  |none=>rw[hk]at hw;cases hw
  |some fs=>
   rw[hk]at hw
   cases hw
   obtain⟨lf,gf⟩:=wholeL_get hk
   have lx:=al.1
   have lL:=lks ks rfl
   refine(ix_t (a:=a) (j:=0) rfl h1 rfl ⟨rfl,_,rfl,ite2 (fun c=>absurd c (by rw[decide_eq_true rfl];decide)) (fun c=>?_)⟩)
   refine(ix_t (a:=a) (j:=1) rfl h1 rfl ⟨_,_,_,_,rfl, .lst h2,kit_list K,_,rfl,ite2 (fun c=>absurd c (by decide)) (fun c=>?_)⟩)
   refine(ix_t (a:=a) (j:=1) rfl h1 rfl ⟨l,rfl,⟨_,SqL.of h2⟩,comp_listM (n:=2) (xs:=xs) (fun i vs H'=>Same H H'∧∃ps:List Addr,vs=ps.map V.ref∧ps.length=i∧∀(j:Nat) (p:Addr) (f:Nat×List Nat),ps[j]?=some p→fs[j]?=some f→∃pt,H' p=some (.tup [.int (f.1:Int), .ref pt])∧H' pt=some (.tup (f.2.map fun j:Nat=>V.int (j:Int)))) ⟨Same.refl _,[],rfl,rfl,fun j p f hp=>by simp at hp⟩ ?_ ?_ ?_⟩)
   ·rintro i vs H' hi ⟨s1,ps,rfl,lp,_⟩
    refine⟨SqL.of (s1 _ _ h2),?_⟩
    rw[List.length_map,lp]
    have:=lL
    omega
   ·rintro i y vs H' τ lτ hi hy ⟨s1,ps,rfl,lp,g⟩
    have lik:i<ks.length:=by omega
    obtain⟨v0,e1,p,q0,rfl,e2,e3⟩:=al.2 i _ (List.getElem?_eq_getElem lik)
    rw[e1]at hy
    cases hy
    obtain⟨b,hb1,hb2⟩:=gf i _ (List.getElem?_eq_getElem lik)
    obtain⟨o1,o2,rfl⟩:=len2 lτ
    refine⟨p,_,rfl,SqT.of (s1 _ _ e2),rfl,_,_,rfl,_,[],rfl,rfl,⟨[some _,some _],rfl,rfl⟩,?_⟩
    refine tt1 (iteT ⟨_,rfl,_,rfl,lb,_,ks[i].1, .int (b:Int),rfl,rfl,SqL.of (s1 _ _ hb),atI_nat (j:=ks[i].1) (by unfold intsV;rw[List.getElem?_map,hb1];rfl),_,rfl,small (by show 2≤1000000;decide),fun p5 hp5=>?_⟩)
    have s5:=same_new hp5 (.tup [.int (b:Int), .ref q0])
    refine nx hi ⟨s1.trans s5,ps++[p5],by simp,by simp[lp],fun j p' f' hj hf=>?_⟩
    by_cases lt:j<ps.length
    ·rw[List.getElem?_append_left lt]at hj
     obtain⟨pt,h5,h6⟩:=g j p' f' hj hf
     exact⟨pt,s5 _ _ h5,s5 _ _ h6⟩
    ·have ej:j=ps.length:=by
      have:=(List.getElem?_eq_some_iff.mp hj).1
      simp at this;omega
     subst ej
     simp at hj
     subst hj
     rw[lp,hb2]at hf
     cases hf
     exact⟨q0,upd_same,s5 _ _ (s1 _ _ e3)⟩
   ·rintro vs H' ⟨s1,ps,rfl,lp,g⟩ l5 hl5
    have s5:=same_new hl5 (.lst (ps.map V.ref))
    refine⟨l5,_,rfl, .inl ⟨SqL.of upd_same,fun c6 hc6=>?_⟩⟩
    have s6:=same_new hc6 (.tup (ps.map V.ref))
    refine⟨small (by show 2≤1000000;decide),fun p7 hp7=>?_⟩
    have s7:=same_new hp7 (.tup [.str "ring", .ref c6])
    have s57:=s5.trans (s6.trans s7)
    refine q p7 _ (s1.trans s57) ⟨c6,ps,upd_same,s7 _ _ upd_same,by omega,fun j p f hp hf=>?_⟩
    obtain⟨pt,h5,h6⟩:=g j p f hp hf
    exact⟨pt,s57 _ _ h5,s57 _ _ h6⟩
 |hole=>cases hw
end
def cL (lr ll:Addr)(ab:V):List (Key×V):=[(Sum.inr "rows", .ref lr),(Sum.inr "late", .ref ll),(Sum.inr "about",ab)]
theorem cl_keys:("late":Str)≠"rows"∧("about":Str)≠"rows"∧("about":Str)≠"late":=by decide+kernel
theorem ne4 {x y:Str}(h:x≠y):¬((Sum.inr x:Key)=Sum.inr y):=fun e=>h (Sum.inr.inj e)
theorem mergeC (a b c:V):mergeK [] ([(Sum.inr "rows",a),(Sum.inr "late",b),(Sum.inr "about",c)]:List (Key×V))=([(Sum.inr "rows",a),(Sum.inr "late",b),(Sum.inr "about",c)]:List (Key×V)):=by
 obtain⟨h1,h2,h3⟩:=cl_keys
 simp only[mergeK,putK,List.foldl_cons,List.foldl_nil,List.any_nil,List.any_cons,Bool.false_eq_true,if_false,List.nil_append,List.cons_append,decide_eq_false (ne4 h1),decide_eq_false (ne4 h2),decide_eq_false (ne4 h3),decide_eq_false (ne4 (Ne.symm h1)),decide_eq_false (ne4 (Ne.symm h2)),decide_eq_false (ne4 (Ne.symm h3)),Bool.or_false,Bool.false_or]
theorem cl_get1 (lr ll:Addr)(ab:V):valV (cL lr ll ab) (Sum.inr "rows")=some (.ref lr):=by simp[valV,cL,List.find?_cons]
theorem cl_get2 (lr ll:Addr)(ab:V):valV (cL lr ll ab) (Sum.inr "late")=some (.ref ll):=by
 obtain⟨h1,h2,h3⟩:=cl_keys
 simp[valV,cL,List.find?_cons,h1,h2,h3,Ne.symm h1,Ne.symm h2,Ne.symm h3]
theorem cl_get3 (lr ll:Addr)(ab:V):valV (cL lr ll ab) (Sum.inr "about")=some ab:=by
 obtain⟨h1,h2,h3⟩:=cl_keys
 simp[valV,cL,List.find?_cons,h1,h2,h3,Ne.symm h1,Ne.symm h2,Ne.symm h3]
section
variable {P:Program}{w:World}{K:PySem.W.Frag}{mg:Str→Option Value}{base:Heap}{f:Addr}{fd:FuncData}
abbrev s_code:Stmt:=top 69
abbrev nCo:List Str:=["_law_vals_here","_law_term","_law_about","_law_work","_law_one","_law_names","_law_body","_law_begins"]
theorem sc_code:FnScope nCo ["_law_vals_here","_law_term","_law_about"] (defScope s_code):=⟨rfl,rfl,rfl,by decide+kernel,rfl,by decide+kernel,by decide+kernel⟩
@[irreducible] def stW:Stmt:=(defBody s_code).getD 0 (.Pass ⟨0,0,0,0⟩)
def restC:List Stmt:=(defBody s_code).drop 1
theorem bodyC:defBody s_code=stW::restC:=by
 unfold stW
 rfl
def tW0:TS:=fun D σ H=>∃(lv:Addr) (v:V) (ab:Bool),σ=[some (.ref lv),some v,some (.int (abI ab)),none,none,none,none,none]∧
 ∀(wk lr ll:Addr) H3,Same H H3→WS H3 wk lr ll ab [] []→H lr=none→H ll=none→D.nx [some (.ref lv),some v,some (.int (abI ab)),some (.ref wk),none,none,none,none] H3
set_option maxHeartbeats 4000000 in
theorem ps_stW {cdv:Value}{A:Around}{outer:List Env}{s:Shared}{H:Hp}{E:XK}:PS (cxOf CX0 P w K mg base nCo "_law_code" (defScope s_code) f cdv A outer s H E).nox stW tW0:=by
 refine PSx.h ?_
 unfold stW
 refine x_weak (x_set (i:=3) (x:="_law_work") sc_code.nd rfl (Or.inl rfl) (x_disp (xp_cons (x_lst x_nil) (xp_cons (x_lst x_nil) (xp_cons (x_pv 2) xp_nil))) rfl rfl (by simp) (by decide)) swaps_dict (.inl rfl)) ?_
 rintro D σ H ⟨lv,v,ab,rfl,q⟩
 refine fun wk hwk=>?_
 refine⟨small (by show 0≤1000000;decide),fun lr hlr=>⟨small (by show 0≤1000000;decide),fun ll hll=>?_⟩⟩
 have s1:=same_new hwk (.dK [])
 have s2:=same_new hlr (.lst [])
 have nlr:lr≠wk:=fun e=>by rw[e,upd_same]at hlr;cases hlr
 have nll:ll≠wk:=fun e=>by rw[e,s2 _ _ upd_same]at hll;cases hll
 have nlll:ll≠lr:=fun e=>by rw[e,upd_same]at hll;cases hll
 have hlr0:H lr=none:=s1.free hlr
 have hll0:H ll=none:=(s1.trans s2).free hll
 refine⟨_,rfl,by rw[upd_ne (Ne.symm nll),upd_ne (Ne.symm nlr)];exact upd_same,cL lr ll (.int (abI ab)),rfl,(by show 3≤15;decide),?_⟩
 rw[show mergeK [] (cL lr ll (.int (abI ab)))=cL lr ll (.int (abI ab)) from mergeC _ _ _]
 have hw3:(upd (upd (upd (upd H wk (.dK [])) lr (.lst [])) ll (.lst [])) wk (.dK (cL lr ll (.int (abI ab))))) wk=some (.dK (cL lr ll (.int (abI ab)))):=upd_same
 have hl3:(upd (upd (upd (upd H wk (.dK [])) lr (.lst [])) ll (.lst [])) wk (.dK (cL lr ll (.int (abI ab))))) lr=some (.lst []):=by rw[upd_ne nlr,upd_ne (Ne.symm nlll)];exact upd_same
 have hk3:(upd (upd (upd (upd H wk (.dK [])) lr (.lst [])) ll (.lst [])) wk (.dK (cL lr ll (.int (abI ab))))) ll=some (.lst []):=by rw[upd_ne nll];exact upd_same
 have s3:Same H (upd (upd (upd (upd H wk (.dK [])) lr (.lst [])) ll (.lst [])) wk (.dK (cL lr ll (.int (abI ab))))):=fun b o h=>by
  rw[upd_ne (ne_of_none h hwk),upd_ne (ne_of_none h hll0),upd_ne (ne_of_none h hlr0),upd_ne (ne_of_none h hwk)];exact h
 revert hw3 hl3 hk3 s3
 generalize upd (upd (upd (upd H wk (.dK [])) lr (.lst [])) ll (.lst [])) wk (.dK (cL lr ll (.int (abI ab))))=H3
 intro hw3 hl3 hk3 s3
 exact q wk lr ll H3 s3 ⟨⟨_,hw3,cl_get1 _ _ _,cl_get2 _ _ _,cl_get3 _ _ _⟩,⟨[],hl3, .nil⟩,⟨[],hk3, .nil⟩,Ne.symm nlll⟩ hlr0 hll0
end
theorem comp_mono {ab:Bool}:∀{t:Tm} {own:List Nat} {L L':List Lt} {r:List Lr} {p:Nat},comp ab t own L p=some (r,L')→L.length≤L'.length
 |.n i,own,L,L',r,p,h=>by cases h;exact Nat.le_refl _
 |.g i,own,L,L',r,p,h=>by cases h;exact Nat.le_refl _
 |.v x,own,L,L',r,p,h=>by
  unfold comp at h
  cases e:ixOf x own with
  |none=>rw[e]at h;cases h
  |some j=>rw[e]at h;cases h;exact Nat.le_refl _
 |.lt x t b,own,L,L',r,p,h=>by
  obtain⟨r1,L1,r2,c1,c2,_⟩:=comp_lt h
  exact Nat.le_trans (comp_mono c1) (comp_mono c2)
 |.ift c a b,own,L,L',r,p,h=>by
  obtain⟨r1,L1,r2,L2,r3,c1,c2,c3,_⟩:=comp_ift h
  exact Nat.le_trans (comp_mono c1) (Nat.le_trans (comp_mono c2) (comp_mono c3))
 |.fn x b,own,L,L',r,p,h=>by
  obtain⟨js,_,_,rfl⟩:=comp_fn h
  simp
 |.op k a b,own,L,L',r,p,h=>by
  obtain⟨r1,L1,r2,c1,c2,_⟩:=comp_op h
  exact Nat.le_trans (comp_mono c1) (comp_mono c2)
 |.call a b,own,L,L',r,p,h=>by
  obtain⟨r1,L1,r2,c1,c2,_⟩:=comp_call h
  exact Nat.le_trans (comp_mono c1) (comp_mono c2)
 |.ring x bs b,own,L,L',r,p,h=>by
  obtain⟨js,r1,_,c1,_⟩:=comp_ring h
  have:=comp_mono c1
  rw[List.length_append]at this
  omega
theorem bodies_mono {ab:Bool}:∀{m:Nat} {rows rowsF:List Lr} {L LF:List Lt} {bg bgF:List Nat},bodies ab m rows L bg=some (rowsF,LF,bgF)→rows.length≤rowsF.length∧L.length≤LF.length∧bg.length≤bgF.length∧bgF.length≤bg.length+(LF.length-bg.length)
 |0,_,_,_,_,_,_,h=>by cases h
 |m+1,rows,rowsF,L,LF,bg,bgF,h=>by
  unfold bodies at h
  split at h
  ·cases h
   exact⟨Nat.le_refl _,Nat.le_refl _,Nat.le_refl _,by omega⟩
  ·rename_i nb hat
   have hlt:bg.length<L.length:=(List.getElem?_eq_some_iff.mp hat).1
   split at h
   ·cases h
   ·rename_i r L' e2
    obtain⟨h1,h2,h3,h4⟩:=bodies_mono h
    simp only[List.length_append,List.length_singleton]at h1 h3 h4
    have:=comp_mono e2
    exact⟨by omega,by omega,by omega,by omega⟩
theorem compAll_mono {ab:Bool}:∀{us:List Tm} {t:Tm} {rows rowsA:List Lr} {L LA:List Lt},compAll ab us t rows L=some (rowsA,LA)→rows.length≤rowsA.length∧L.length≤LA.length
 |[],t,rows,rowsA,L,LA,h=>by
  unfold compAll at h
  split at h
  ·cases h
  ·rename_i r L1 e
   cases h
   have:=comp_mono e
   exact⟨by simp only[List.length_append,List.length_singleton];omega,this⟩
 |u::us,t,rows,rowsA,L,LA,h=>by
  unfold compAll at h
  split at h
  ·cases h
  ·rename_i r L1 e
   have:=comp_mono e
   obtain⟨h1,h2⟩:=compAll_mono h
   simp only[List.length_append,List.length_singleton]at h1
   exact⟨by omega,by omega⟩
def rOk:Lr→Prop
 |.lateR ks=>1≤ks.length∧ks.length≤5
 |_=>True
theorem okR.rOk {n:Nat}:∀{x:Lr},okR n x→rOk x
 |.row _,_=>trivial
 |.late _ _,_=>trivial
 |.lateR _,h=>h.1
def OkB (rows:List Lr)(L:List Lt):Prop:=(∀nb∈L,LtOk nb)∧∀x∈rows,rOk x
theorem In.lts {ab:Bool}{n m:Nat}{own:List Nat}{t:Tm}(i:In n m own t)(hn:n≤13){L L':List Lt}{r rows:List Lr}{p:Nat}{w:Rw}(h:comp ab t own L p=some (r,L'))(ok:OkB rows L):OkB (rows++r++[.row w]) L':=by
 obtain⟨r2,L2,N,e,M⟩:=comp_all (ab:=ab) (L:=L) (p:=p) i.gt i.me i.l4 i.l6 (by have:=i.dn;omega)
 rw[h]at e
 cases e
 refine⟨fun nb hnb=>?_,fun x hx=>?_⟩
 ·rw[M.ex]at hnb
  rcases List.mem_append.mp hnb with z|z
  ·exact ok.1 nb z
  ·exact M.ok nb z
 ·simp only[List.mem_append,List.mem_singleton]at hx
  rcases hx with (z|z)|z
  ·exact ok.2 x z
  ·exact(M.rw x z).rOk
  ·subst z;trivial
theorem LtOk.isIn {p:Lt}(h:LtOk p):∃m,In 12 m p.1 p.2:=by
 obtain⟨names,x,e,mem,gt,h40,h60,h12⟩:=h
 exact⟨x+1,gt,by rw[e];exact mem_snoc mem,h40,h60,h12⟩
theorem Own.isIn {t:Tm}(h:Own t):In 12 0 [] t:=⟨h.1,fun y=>by simp,by have:=h.2;omega,by have:=h.2;simp;omega,h.2⟩
theorem whole_at {bg:List Nat}:∀{rows:List Lr} {code:List Rw},wholeAll bg rows=some code→code.length=rows.length∧∀(i:Nat) (r:Lr),rows[i]?=some r→∃x,code[i]?=some x∧wholeR bg r=some x
 |[],code,h=>by cases h;exact⟨rfl,fun i r e=>by simp at e⟩
 |y::ys,code,h=>by
  unfold wholeAll at h
  split at h
  ·rename_i a as e1 e2
   cases h
   obtain⟨l,g⟩:=whole_at e2
   refine⟨by simp[l],fun i x e=>?_⟩
   cases i with
   |zero=>simp at e;subst e;exact⟨a,rfl,e1⟩
   |succ i=>
    obtain⟨j,h1,h2⟩:=g i x (by simpa using e)
    exact⟨j,by simpa using h1,h2⟩
  ·cases h
theorem nmint_ne {H:Hp}{ln lb:Addr}{names bg:List Nat}(hln:H ln=some (.lst (nmsV names)))(hb:H lb=some (.lst (intsV bg)))(ep:names≠[]):ln≠lb:=fun e=>by
 rw[e,hb]at hln
 have e2:intsV bg=nmsV names:=by injection hln with e3;injection e3
 cases names with
 |nil=>exact ep rfl
 |cons x xs=>
  cases bg with
  |nil=>cases e2
  |cons y ys=>
   unfold intsV nmsV at e2
   simp at e2
theorem WS.setB {H:Hp}{wk lr ll:Addr}{ab:Bool}{rows:List Lr}{L:List Lt}(w:WS H wk lr ll ab rows L)(ok:OkB rows L){lb:Addr}{bg:List Nat}(hb:H lb=some (.lst (intsV bg)))(n1:lb≠lr)(n2:lb≠ll){zs:List V}:WS (upd H lb (.lst zs)) wk lr ll ab rows L:=by
 have tp:Tps H (upd H lb (.lst zs)):=fun b ys h=>by rw[upd_ne (ne_of h hb (by intro z;cases z))];exact h
 obtain⟨kvs,hk,g⟩:=w.wk
 obtain⟨rvs,h1,a1⟩:=w.rw
 obtain⟨lvs,h2,a2⟩:=w.lt
 refine⟨⟨kvs,by rw[upd_ne (ne_of hk hb (by intro z;cases z))];exact hk,g⟩,⟨rvs,by rw[upd_ne (Ne.symm n1)];exact h1,a1.1,fun i r hr=>?_⟩,⟨lvs,by rw[upd_ne (Ne.symm n2)];exact h2,a2.1,fun i p hp=>?_⟩,w.ne⟩
 ·obtain⟨v,hv,lv⟩:=a1.2 i r hr
  refine⟨v,hv,?_⟩
  cases r with
  |row r=>obtain⟨a,e1,e2⟩:=lv;exact⟨a,e1,e2.tps tp⟩
  |late k js=>obtain⟨a,p,q,e0,e1,e2,e3⟩:=lv;exact⟨a,p,q,e0,tp _ _ e1,tp _ _ e2,tp _ _ e3⟩
  |hole=>exact lv
  |lateR ks=>
   obtain⟨a,l,xs,e0,e1,e2,m1,m2,al⟩:=lv
   have hk:rOk (.lateR ks):=ok.2 _ (List.mem_of_getElem? hr)
   refine⟨a,l,xs,e0,tp _ _ e1,?_,m1,m2,al.mono fun v r=>PrL.tps tp⟩
   rw[upd_ne ?_]
   ·exact e2
   ·intro z
    rw[z,hb]at e2
    have e3:intsV bg=xs:=by injection e2 with e3;injection e3
    obtain⟨v0,e4,p0,q0,e5,_⟩:=al.2 0 _ (List.getElem?_eq_getElem (by have:=hk.1;omega))
    rw[←e3]at e4
    unfold intsV at e4
    rw[List.getElem?_map]at e4
    subst e5
    cases hg:bg[0]? with
    |none=>rw[hg]at e4;cases e4
    |some b0=>rw[hg]at e4;cases e4
 obtain⟨v,hv,a,ln,u,rfl,ha,hln,m1,m2,tu⟩:=a2.2 i p hp
 refine⟨_,hv,a,ln,u,rfl,tp _ _ ha,?_,m1,m2,tu.tps tp⟩
 rw[upd_ne (nmint_ne hln hb (ok.1 p (List.mem_of_getElem? hp)).in.1)]
 exact hln
section
variable {P:Program}{w:World}{K:PySem.W.Frag}{mg:Str→Option Value}{base:Heap}{f:Addr}{fd:FuncData}
inductive CspCode (vs:List V)(H:Hp)(Q:VK)(E_:XK):Prop where
 |mk (lv:Addr) (v:V) (ab:Bool) (uvs:List V) (us:List Tm) (t:Tm) (code:List Rw):vs=[.ref lv,v, .int (abI ab)]→H lv=some (.lst uvs)→AllL (TmL H) uvs us→(∀u∈us,Own u)→TmL H v t→Own t→CodeOf ab us t code→(∀(c:Addr) (rvs:List V) H',Same H H'→H c=none→H' c=some (.tup rvs)→CodeL H' rvs code→Q (.ref c) H')→CspCode vs H Q E_
def spCode:Sp:=CspCode
def Wc (H0:Hp)(lv wk lr ll lb:Addr)(v:V)(ab:Bool)(rowsF:List Lr)(LF:List Lt)(bgF:List Nat)(m:Nat)(σ:L2.St)(H:Hp):Prop:=∃(rows:List Lr) (L:List Lt) (bg:List Nat) (o4 o5 o6:Option V),σ=[some (.ref lv),some v,some (.int (abI ab)),some (.ref wk),o4,o5,o6,some (.ref lb)]∧
 WS H wk lr ll ab rows L∧H lb=some (.lst (intsV bg))∧OkB rows L∧bodies ab m rows L bg=some (rowsF,LF,bgF)∧Same H0 H
set_option maxHeartbeats 4000000 in
theorem ok_code (F:Fun K "_law_code" "_law_code" s_code f fd)(mt:mg "tuple"=none)(ml:mg "len"=none)(h1:Has P w K mg base 26 "_law_rows" pRo (spRO (fun _=>True) 12))(h2:Has P w K mg base 1 "_law_whole_row" pWr spWR):FnOk P w K mg base CX0 27 f fd ["_law_vals_here","_law_term","_law_about"] spCode:=by
 refine F.ok sc_code (fun vs H Q E h=>?_) (fun cdv A outer s H vs Q E hr h=>?_)
 ·obtain⟨lv,v,ab,uvs,us,t,code,rfl,_⟩:=h
  rfl
 obtain⟨lv,v,ab,uvs,us,t,code,rfl,hlv,au,hus,tl,ot,⟨mm,rowsA,LA,rowsF,LF,bgF,hc,hb,lF,lB,hw⟩,q⟩:=h
 have hu:=hu_of hr
 have hz:=sizeLine_eq
 rw[bodyC]
 refine'⟨_,pss_cons ps_stW (pss_cons ?s2 (pss_cons ?s3 (pss_cons ?s4 (pss_cons ?s5 (pss_cons ?s6 (pss_one ?s7)))))),?_⟩
 case s2=>exact ps_for PassesOwn.never rfl (piL K (pv 0)) (pg_name (i:=4) sc_code.nd rfl (Or.inl rfl)) (pss_cons (ps_expr (pcall h1 hr (by decide) rfl (pa_cons (pv 3) (pa_cons (pe_lst pa_nil) (pa_cons (pv 4) pa_nil)))))
   (pss_one (ps_expr (pe_bm PySem.F.plainAttrs_list PySem.F.slot_list_append PySem.F.type_list_append mt_append (pe_dget hu (pv 3) pe_str (fun _ _=>rfl)) (pa_cons (pe_tup (pa_cons pe_str pa_nil)) pa_nil)))))
 case s3=>exact ps_expr (pcall h1 hr (by decide) rfl (pa_cons (pv 3) (pa_cons (pe_lst pa_nil) (pa_cons (pv 1) pa_nil))))
 case s4=>exact ps_expr (pe_bm PySem.F.plainAttrs_list PySem.F.slot_list_append PySem.F.type_list_append mt_append (pe_dget hu (pv 3) pe_str (fun _ _=>rfl)) (pa_cons (pe_tup (pa_cons pe_str pa_nil)) pa_nil))
 case s5=>exact ps_set (i:=7) sc_code.nd rfl (Or.inr rfl) (pe_lst pa_nil)
 case s6=>
  refine' ps_while PassesOwn.never ?c ?b
  case c=>exact(pt_cmpR op_lt (pe_callB (clen K) rfl ml PySem.boot_len (pa_cons (pv 7) pa_nil)) (pe_callB (clen K) rfl ml PySem.boot_len (pa_cons (pe_dget hu (pv 3) pe_str (fun _ _=>rfl)) pa_nil)) (nomark _))
  case b=>exact(pss_cons (ps_asg (pe_ix (ixL K) (pe_dget hu (pv 3) pe_str (fun _ _=>rfl)) (pe_callB (clen K) rfl ml PySem.boot_len (pa_cons (pv 7) pa_nil)) (fun _ _=>rfl)) (pgT K rfl (pgs_cons (pg_name (i:=5) sc_code.nd rfl (Or.inl rfl)) (pgs_cons (pg_name (i:=6) sc_code.nd rfl (Or.inl rfl)) pgs_nil))))
   (pss_cons (ps_expr (pe_bm PySem.F.plainAttrs_list PySem.F.slot_list_append PySem.F.type_list_append mt_append (pv 7) (pa_cons (pe_callB (clen K) rfl ml PySem.boot_len (pa_cons (pe_dget hu (pv 3) pe_str (fun _ _=>rfl)) pa_nil)) pa_nil)))
   (pss_cons (ps_expr (pcall h1 hr (by decide) rfl (pa_cons (pv 3) (pa_cons (pv 5) (pa_cons (pv 6) pa_nil)))))
   (pss_one (ps_expr (pe_bm PySem.F.plainAttrs_list PySem.F.slot_list_append PySem.F.type_list_append mt_append (pe_dget hu (pv 3) pe_str (fun _ _=>rfl)) (pa_cons (pe_tup (pa_cons pe_str pa_nil)) pa_nil)))))))
 case s7=>exact ps_ret (pe_callTy call_tuple_of rfl mt boot_tuple (pa_cons
   (pe_lc (defScope s_code) nCo ["_law_begins"] [7] (by decide+kernel) (piL K (pe_dget hu (pv 3) pe_str (fun _ _=>rfl))) (fun C s₀ H₀ ex=>pts_nil)
    (fun C s₀ H₀ ex=>pcall h2 hr (by decide) rfl (pa_cons (pv 0) (pa_cons (pv 1) pa_nil)))) pa_nil))
 refine⟨lv,v,ab,rfl,fun wk lr ll H3 s3 w3 hlr0 hll0=>?_⟩
 obtain⟨rv3,hl3,_⟩:=w3.rw
 obtain⟨lv3,hk3,_⟩:=w3.lt
 have sm:∀{H1 H2:Hp},Same H H1→Kp lr ll H1 H2→Same H H2:=fun a k b o h=>k b o (ne_of_none h hlr0) (ne_of_none h hll0) (a b o h)
 obtain⟨mo1,mo2,mo3,mo4⟩:=bodies_mono hb
 refine⟨_,rfl,lv,rfl,⟨_,SqL.of (s3 _ _ hlv)⟩,?_⟩
 refine for_list (xs:=uvs) (fun i σ H'=>∃(o4:Option V) (rows:List Lr) (L:List Lt),σ=[some (.ref lv),some v,some (.int (abI ab)),some (.ref wk),o4,none,none,none]∧Same H H'∧WS H' wk lr ll ab rows L∧OkB rows L∧compAll ab (us.drop i) t rows L=some (rowsA,LA)) ⟨none,[],[],rfl,s3,w3,⟨fun nb h=>by simp at h,fun x h=>by simp at h⟩,hc⟩ ?_ ?_ ?_
 ·rintro i σ H' _ ⟨o4,rows,L,rfl,s4,_⟩
  exact SqL.of (s4 _ _ hlv)
 ·rintro i x σ H4 hx ⟨o4,rows,L,rfl,s4,w4,ok4,c4⟩
  have li:i<us.length:=by rw[←au.1];exact(List.getElem?_eq_some_iff.mp hx).1
  obtain⟨x',hx',tx⟩:=au.2 i us[i] (List.getElem?_eq_getElem li)
  rw[hx]at hx'
  cases hx'
  have oi:=hus us[i] (List.getElem_mem li)
  rw[List.drop_eq_getElem_cons li]at c4
  unfold compAll at c4
  cases ec:comp ab us[i] [] L rows.length with
  |none=>rw[ec]at c4;cases c4
  |some rl=>
   obtain⟨r1,L1⟩:=rl
   rw[ec]at c4
   dsimp only at c4
   obtain⟨p1,p2⟩:=compAll_mono c4
   simp only[List.length_append,List.length_singleton]at p1
   refine⟨_,rfl,small (by show 0≤1000000;decide),fun le hle=>?_⟩
   have s5:=same_new hle (.lst [])
   have nle:le≠lr∧le≠ll:=by
    obtain⟨rvs,hlr,_⟩:=w4.rw
    obtain⟨lvs,hll,_⟩:=w4.lt
    exact⟨ne_of_none' hle hlr,ne_of_none' hle hll⟩
   refine⟨_,rfl,wk,le,lr,ll,x,us[i],ab,rows,L,[],0,r1,L1,rfl,trivial,(tx.same s4).same s5,oi.isIn,w4.same s5,upd_same,nle.1,nle.2,ec,by omega,by omega,fun H6 k6 w6=>?_⟩
   obtain⟨kv6,hwk6,g6,_⟩:=w6.wk
   obtain⟨rv6,hl6,al6⟩:=id w6.rw
   have e6:=al6.1
   rw[List.length_append]at e6
   refine(dg_at rfl hwk6 g6 ⟨.inl ⟨rfl,_,SqL.of hl6⟩,small (by show 1≤1000000;decide),fun p7 hp7=>?_⟩)
   obtain⟨w7,k7⟩:=w6.row hl6 hp7 (o:=.tup [.str "store"]) (r:=.row .store) ⟨p7,rfl,upd_same⟩
   refine⟨lr,_, .ref p7,rfl,rfl,same_new hp7 _ _ _ hl6,small' (by omega),?_⟩
   exact⟨_,rows++r1++[.row .store],L1,rfl,sm (s4.trans s5) (k6.trans k7),w7,oi.isIn.lts (by omega) ec ok4,c4⟩
 rintro σ H4 ⟨o4,rows,L,rfl,s4,w4,ok4,c4⟩
 have lu:=au.1
 rw[lu,List.drop_length]at c4
 unfold compAll at c4
 cases ec:comp ab t [] L rows.length with
 |none=>rw[ec]at c4;cases c4
 |some rl=>
 obtain⟨r1,L1⟩:=rl
 rw[ec]at c4
 cases c4
 simp only[List.length_append,List.length_singleton]at mo1
 refine⟨_,rfl,small (by show 0≤1000000;decide),fun le hle=>?_⟩
 have s5:=same_new hle (.lst [])
 have nle:le≠lr∧le≠ll:=by
  obtain⟨rvs,hlr,_⟩:=w4.rw
  obtain⟨lvs,hll,_⟩:=w4.lt
  exact⟨ne_of_none' hle hlr,ne_of_none' hle hll⟩
 refine⟨_,rfl,wk,le,lr,ll,v,t,ab,rows,L,[],0,r1,LA,rfl,trivial,(tl.same s4).same s5,ot.isIn,w4.same s5,upd_same,nle.1,nle.2,ec,by omega,by omega,fun H6 k6 w6=>?_⟩
 have s36:Same H H6:=sm (s4.trans s5) k6
 obtain⟨kv6,hwk6,g6,_⟩:=w6.wk
 obtain⟨rv6,hl6,al6⟩:=id w6.rw
 have e6:=al6.1
 rw[List.length_append]at e6
 refine(dg_at rfl hwk6 g6 ⟨.inl ⟨rfl,_,SqL.of hl6⟩,small (by show 1≤1000000;decide),fun p7 hp7=>?_⟩)
 obtain⟨w7,k7⟩:=w6.row hl6 hp7 (o:=.tup [.str "back"]) (r:=.row .back) ⟨p7,rfl,upd_same⟩
 refine⟨lr,_, .ref p7,rfl,rfl,same_new hp7 _ _ _ hl6,small' (by omega),?_⟩
 revert w7 k7
 generalize upd (upd H6 p7 (.tup [.str "back"])) lr (.lst (rv6++[.ref p7]))=H7
 intro w7 k7
 have s37:=sm s36 k7
 refine⟨small (by show 0≤1000000;decide),fun lb hlb=>?_⟩
 have s8:=same_new hlb (.lst [])
 have nlb:lb≠lr∧lb≠ll:=by
  obtain⟨rvs,h1,_⟩:=w7.rw
  obtain⟨lvs,h2,_⟩:=w7.lt
  exact⟨ne_of_none' hlb h1,ne_of_none' hlb h2⟩
 have nlbH:∀b o,H b=some o→b≠lb:=fun b o h=>ne_of_none (s37 _ _ h) hlb
 refine⟨Wc H lv wk lr ll lb v ab rowsF LF bgF,⟨mm,_,LA,[],o4,none,none,rfl,w7.same s8,upd_same,ot.isIn.lts (by omega) ec ok4,hb,s37.trans s8⟩,?_⟩
 rintro m σ H9 ⟨rows,L9,bg,o4,o5,o6,rfl,w9,hlb9,ok9,hb9,s9⟩
 obtain⟨kv9,hwk9,g1,g2,_⟩:=w9.wk
 obtain⟨lv9,hll9,al9⟩:=id w9.lt
 have el9:=al9.1
 have eb:(intsV bg).length=bg.length:=by unfold intsV;rw[List.length_map]
 refine⟨_,rfl,lb,_,rfl, .inl (SqL.of hlb9),dg_at rfl hwk9 g2 ⟨ll,_,rfl, .inl (SqL.of hll9),_,_,rfl,rfl,_,rfl,?_⟩⟩
 cases m with
 |zero=>cases hb9
 |succ m=>
  unfold bodies at hb9
  cases hat:L9[bg.length]? with
  |none=>
   rw[hat]at hb9
   cases hb9
   rw[List.getElem?_eq_none_iff]at hat
   refine ite2 (fun c=>absurd (of_decide_eq_true c) (by rw[eb];omega)) (fun _=>?_)
   obtain⟨rv9,hl9,ar9⟩:=id w9.rw
   obtain⟨wl,wat⟩:=whole_at hw
   refine(dg_at rfl hwk9 g1 ⟨lr,rfl,⟨_,SqL.of hl9⟩,comp_lst (xs:=rv9) (fun i vs H'=>Same H9 H'∧CodeL H' vs (code.take i)) ⟨Same.refl _,rfl,fun i x h=>by simp at h⟩ ?_ ?_ ?_⟩)
   ·rintro i vs H' hi ⟨s10,cd⟩
    refine⟨SqL.of (s10 _ _ hl9),?_⟩
    have:=cd.1
    rw[List.length_take]at this
    have:=ar9.1
    omega
   ·rintro i x vs H' hi hx ⟨s10,cd⟩
    have hir:i<rowsF.length:=by rw[←ar9.1];exact hi
    obtain⟨x',hx',lx⟩:=ar9.2 i _ (List.getElem?_eq_getElem hir)
    rw[hx]at hx'
    cases hx'
    obtain⟨y,hy,wy⟩:=wat i _ (List.getElem?_eq_getElem hir)
    refine tt1 (iteT ⟨_,rfl,_,rfl,x,lb,lr,ll,rowsF[i],bgF,y,rfl,LrL.tps (Same.tups s10) (kp_same s10) lx,s10 _ _ hlb9,wy,fun ks eks=>by have:=ok9.2 _ (List.getElem_mem hir);rw[eks]at this;have:=this.2;omega,fun a H11 s11 ra=>nx hi ⟨s10.trans s11,?_⟩⟩)
    have ec:code.take (i+1)=code.take i++[y]:=by rw[List.take_add_one,hy];rfl
    rw[ec]
    have li:(code.take i).length=i:=by rw[List.length_take];omega
    refine⟨by rw[List.length_append,List.length_append,cd.1];rfl,fun k z hk=>?_⟩
    by_cases c:k<i
    ·rw[List.getElem?_append_left (by omega)]at hk
     obtain⟨a',h1,h2⟩:=cd.2 k z hk
     exact⟨a',by rw[List.getElem?_append_left (by rw[cd.1];omega)];exact h1,h2.same s11⟩
    ·rw[List.getElem?_append_right (by omega),li]at hk
     have:k=i:=by
      by_cases z0:k-i=0
      ·omega
      ·rw[List.getElem?_eq_none (by simp;omega)]at hk;cases hk
     subst this
     rw[Nat.sub_self]at hk
     cases hk
     exact⟨a,by rw[List.getElem?_append_right (by rw[cd.1];omega),cd.1,li,Nat.sub_self];rfl,ra⟩
   ·rintro vs H' ⟨s10,cd⟩ l11 hl11
    have s11:=same_new hl11 (.lst vs)
    refine⟨l11,vs,rfl, .inl ⟨SqL.of upd_same,fun c hc'=>?_⟩⟩
    have s12:=same_new hc' (.tup vs)
    have s02:=s10.trans (s11.trans s12)
    rw[ar9.1,←wl,List.take_length]at cd
    have s912:=s11.trans s12
    exact q c vs _ (s9.trans s02) ((s9.trans (s10.trans s11)).free hc') upd_same ⟨cd.1,fun i x h=>by
     obtain⟨a,h1,h2⟩:=cd.2 i x h
     exact⟨a,h1,h2.same s912⟩⟩
  |some nb=>
   obtain⟨names,body⟩:=nb
   rw[hat]at hb9
   dsimp only at hb9
   have hlt:bg.length<L9.length:=(List.getElem?_eq_some_iff.mp hat).1
   refine ite2 (fun _=>?_) (fun c=>absurd (decide_eq_true (by rw[eb,el9];omega)) c)
   cases hcb:comp ab body names L9 rows.length with
   |none=>rw[hcb]at hb9;cases hb9
   |some rl=>
    obtain⟨r9,L10⟩:=rl
    rw[hcb]at hb9
    dsimp only at hb9
    obtain⟨mo1,mo2,mo3,mo4⟩:=bodies_mono hb9
    have l910:=comp_mono hcb
    simp only[List.length_append,List.length_singleton]at mo1 mo3
    obtain⟨vp,hvp,p,ln,u,rfl,hp,hln,nl1,nl2,tb⟩:=al9.2 _ _ hat
    have kok:=ok9.1 _ (List.mem_of_getElem? hat)
    obtain⟨k0,k14,k60,kd⟩:=kok.in
    obtain⟨mi,ki⟩:=kok.isIn
    refine⟨_,fun _ _ h=>h,?_⟩
    refine(dg_at rfl hwk9 g2 ⟨_,rfl,lb,_,rfl, .inl (SqL.of hlb9),ll,_,_,_,rfl,rfl,SqL.of hll9,(by rw[eb];exact atI_nat hvp),?_⟩)
    refine⟨p,_,rfl,SqT.of hp,rfl, .ref ln,[u],rfl,u,[],rfl,rfl,?_⟩
    obtain⟨rv9,hl9,ar9⟩:=id w9.rw
    have er9:=ar9.1
    refine⟨_,rfl, .inl ⟨rfl,_,SqL.of hlb9⟩,dg_at rfl hwk9 g1 ⟨lr,_,rfl, .inl (SqL.of hl9),lb,_,_,rfl,rfl,hlb9,small' (by rw[eb];omega),?_⟩⟩
    have e10:intsV bg++[V.int (rv9.length:Int)]=intsV (bg++[rows.length]):=by unfold intsV;rw[List.map_append,er9];rfl
    rw[e10]
    have w10:=w9.setB ok9 hlb9 nlb.1 nlb.2 (zs:=intsV (bg++[rows.length]))
    have tp10:Tps H9 (upd H9 lb (.lst (intsV (bg++[rows.length])))):=fun b ys h=>by rw[upd_ne (ne_of h hlb9 (by intro z;cases z))];exact h
    have hln10:(upd H9 lb (.lst (intsV (bg++[rows.length])))) ln=some (.lst (nmsV names)):=by rw[upd_ne (nmint_ne hln hlb9 k0)];exact hln
    have s10:Same H (upd H9 lb (.lst (intsV (bg++[rows.length])))):=fun b o h=>by rw[upd_ne (nlbH b o h)];exact s9 b o h
    have hlb10:(upd H9 lb (.lst (intsV (bg++[rows.length])))) lb=some (.lst (intsV (bg++[rows.length]))):=upd_same
    revert w10 tp10 hln10 s10 hlb10
    generalize upd H9 lb (.lst (intsV (bg++[rows.length])))=H10
    intro w10 tp10 hln10 s10 hlb10
    refine⟨_,rfl,_,rfl,_,rfl,wk,ln,lr,ll,u,body,ab,rows,L9,names,mi,r9,L10,rfl,trivial,tb.tps tp10,ki,w10,hln10,nl1,nl2,hcb,by omega,by omega,fun H11 k11 w11=>?_⟩
    obtain⟨kv11,hwk11,g11,_⟩:=w11.wk
    obtain⟨rv11,hl11,al11⟩:=id w11.rw
    have e11:=al11.1
    rw[List.length_append]at e11
    refine(dg_at rfl hwk11 g11 ⟨.inl ⟨rfl,_,SqL.of hl11⟩,small (by show 1≤1000000;decide),fun p12 hp12=>?_⟩)
    obtain⟨w12,k12⟩:=w11.row hl11 hp12 (o:=.tup [.str "back"]) (r:=.row .back) ⟨p12,rfl,upd_same⟩
    refine⟨lr,_, .ref p12,rfl,rfl,same_new hp12 _ _ _ hl11,small' (by omega),?_⟩
    exact⟨m,by omega,_,L10,bg++[rows.length],o4,_,_,rfl,w12,k12 _ _ nlb.1 nlb.2 (k11 _ _ nlb.1 nlb.2 hlb10),ki.lts (by omega) hcb ok9,hb9,sm s10 (k11.trans k12)⟩
end
end Fw
namespace L2
open PySem PySem.Spec PyProof.Rows
theorem boot_dict':bootBuiltins "dict"=some (.type "dict"):=by decide+kernel
theorem call_dict_d {X:Cx}:CallR X (.type "dict") (fun xs H Q=>∃a kvs,xs=[V.ref a]∧H a=some (.dK kvs)∧∀p,H p=none→Q (.ref p) (upd H p (.dK kvs))):=by
 intro pins s σ H xs us Q I r h
 obtain⟨a,kvs,rfl,e,q⟩:=h
 obtain⟨u,rfl,rx⟩:=vals1 r
 cases rx
 exact d_copyOf I (.inl e) fun p s' hp I'=>⟨.ref p,_,I',rfl,q p hp⟩
end L2
namespace Fw
open PySem PySem.Spec PyProof.Rows L2
theorem fig60 (n:Int):(60<(((Str.ofString (toString (if n<0 then -n else n))).length:Nat):Int))↔¬In60 n:=by
 obtain⟨m,hm⟩:∃m:Nat,(if n<0 then -n else n)=(m:Int):=⟨n.natAbs,by split<;>omega⟩
 rw[hm,PySem.ofString_length,show toString ((m:Nat):Int)=Nat.repr m from rfl]
 have h:=Nat.length_repr_le_iff (n:=m) (k:=60) (by decide)
 have e:In60 n↔m<10^60:=by
  unfold In60 G60
  split at hm<;>omega
 rw[e,←h]
 omega
set_option exponentiation.threshold 500 in
theorem fig_small {n:Int}(h1: -(2^420)<n)(h2:n<2^420):(if n<0 then -n else n).natAbs.log2<1920:=by
 by_cases h0:(if n<0 then -n else n).natAbs=0
 ·rw[h0];decide
 ·exact Nat.lt_trans ((Nat.log2_lt h0 (k:=420)).mpr (by split<;>omega)) (by decide)
set_option exponentiation.threshold 500 in
theorem rk_small {k:Nat}{i j:Int}(hi:In60 i)(hj:In60 j): -(2^420)<rk k i j∧rk k i j<2^420:=by
 obtain⟨a,b⟩:=hi
 obtain⟨c,d⟩:=hj
 have hG:=G60_lt
 have hm: -(2^420:Int)<i*j∧i*j<2^420:=by
  have h1:(i*j).natAbs≤2^200*2^200:=by
   rw[Int.natAbs_mul]
   exact Nat.mul_le_mul (by omega) (by omega)
  have h2:(2:Nat)^200*2^200=2^400:=by decide
  have h3:(2:Nat)^400<2^420:=by decide
  omega
 unfold rk
 split
 ·omega
 ·omega
 ·exact hm
 ·split<;>omega
theorem in60 {i:Int}:In60b i=true↔In60 i:=by
 unfold In60b In60 G60
 rw[Bool.and_eq_true,decide_eq_true_iff,decide_eq_true_iff]
inductive CspSum (CT:Addr)(vs:List V)(H:Hp)(Q:VK)(E:XK):Prop where
 |mk (k:Nat) (i j:Int):vs=[.str (wordOf k), .int i, .int j]→k≤3→In60b i=true→In60b j=true→(In60b (rk k i j)=true→∀H',Same H H'→Q (.int (rk k i j)) H')→(¬In60b (rk k i j)=true→∀ea H',Same H H'→E (.ref CT) (some ea) H')→CspSum CT vs H Q E
def spSum (CT:Addr):Sp:=CspSum CT
def dueL (i j:Int):List (Key×V):=[(Sum.inr "plus", .int (i+j)),(Sum.inr "minus", .int (i-j)),(Sum.inr "times", .int (i*j)),(Sum.inr "less", .int (if(decide (i<j))=true then 1 else 0))]
theorem merge4 (a b c d:V):mergeK [] ([(Sum.inr "plus",a),(Sum.inr "minus",b),(Sum.inr "times",c),(Sum.inr "less",d)]:List (Key×V))=([(Sum.inr "plus",a),(Sum.inr "minus",b),(Sum.inr "times",c),(Sum.inr "less",d)]:List (Key×V)):=by
 obtain⟨h1,h2,h3,h4,h5,h6⟩:=rk_words
 simp only[mergeK,putK,List.foldl_cons,List.foldl_nil,List.any_nil,List.any_cons,Bool.false_eq_true,if_false,List.nil_append,List.cons_append,decide_eq_false (ne4 h1),decide_eq_false (ne4 h2),decide_eq_false (ne4 h3),decide_eq_false (ne4 h4),decide_eq_false (ne4 h5),decide_eq_false (ne4 h6),decide_eq_false (ne4 (Ne.symm h1)),decide_eq_false (ne4 (Ne.symm h2)),decide_eq_false (ne4 (Ne.symm h3)),decide_eq_false (ne4 (Ne.symm h4)),decide_eq_false (ne4 (Ne.symm h5)),decide_eq_false (ne4 (Ne.symm h6)),Bool.or_false,Bool.false_or]
theorem due_get (i j:Int):∀k,k≤3→valV (dueL i j) (Sum.inr (wordOf k))=some (.int (rk k i j))
 |0,_=>by simp[valV,dueL,wordOf,rk]
 |1,_=>by
  obtain⟨h1,h2,h3,h4,h5,h6⟩:=rk_words
  simp[valV,dueL,wordOf,rk,List.find?_cons,Ne.symm h1]
 |2,_=>by
  obtain⟨h1,h2,h3,h4,h5,h6⟩:=rk_words
  simp[valV,dueL,wordOf,rk,List.find?_cons,Ne.symm h2,Ne.symm h3]
 |3,_=>by
  obtain⟨h1,h2,h3,h4,h5,h6⟩:=rk_words
  simp[valV,dueL,wordOf,rk,List.find?_cons,Ne.symm h4,Ne.symm h5,Ne.symm h6]
 |n+4,h=>by omega
section
variable {P:Program}{w:World}{K:PySem.W.Frag}{mg:Str→Option Value}{base:Heap}{f:Addr}{fd:FuncData}{CT:Addr}
abbrev s_sum:Stmt:=top 60
theorem sc_sum:FnScope ["_law_word","_law_left","_law_right","_law_told_here"] ["_law_word","_law_left","_law_right"] (defScope s_sum):=⟨rfl,rfl,rfl,by decide+kernel,rfl,by decide+kernel,by decide+kernel⟩
set_option maxHeartbeats 1000000 in
theorem ok_sum {bm:List Value}{newId B initId:String}(F:Fun K "_law_summed" "_law_summed" s_sum f fd)(O:OwnCls "TooGreat" CT bm newId mg base)(FB:ExcBaseFacts B newId initId bm)(mI:mg "int"=none)(ma:mg "abs"=none)(ms:mg "str"=none)(ml:mg "len"=none):FnOk P w K mg base (CXF P w) 1 f fd ["_law_word","_law_left","_law_right"] (spSum CT):=by
 refine F.okX sc_sum (fun vs H Q E h=>?_) (fun cdv A outer s H vs Q E hr h=>?_)
 ·obtain⟨k,i,j,rfl,_⟩:=h
  rfl
 obtain⟨k,i,j,rfl,hk,hi,hj,q1,q2⟩:=h
 have hi:=in60.mp hi
 have hj:=in60.mp hj
 refine⟨_,pss_cons (ps_set (i:=3) sc_sum.nd rfl (Or.inl rfl) (pe_dget (hu_of hr) (pe_disp (pps_cons pe_str (pe_op op_add (pv 1) (pv 2)) (pps_cons pe_str (pe_op op_sub (pv 1) (pv 2)) (pps_cons pe_str (pe_op op_mulG (pv 1) (pv 2))
   (pps_cons pe_str (pe_callTy call_int1 rfl mI boot_int (pa_cons (pe_cmpR op_lt (pv 1) (pv 2) (nomark _)) pa_nil)) pps_nil)))) rfl rfl (by simp) (by decide)) (pv 0) (fun _ _=>rfl)))
  (pss_cons (ps_if (pt_cmpR op_gt (pe_callB call_len_str rfl ml PySem.boot_len (pa_cons (pe_callTy call_str_int rfl ms boot_str (pa_cons (pe_callB call_abs rfl ma boot_abs' (pa_cons (pv 3) pa_nil)) pa_nil)) pa_nil)) pe_int (nomark _)) (pss_one (ps_raise O FB rfl (pa_cons pe_str pa_nil))) pss_nil)
  (pss_one (ps_ret (pv 3)))),?_⟩
 refine fun p hp=>?_
 refine⟨_,rfl,_,rfl,_,_,rfl,rfl,_,rfl,_,rfl,_,_,rfl,rfl,_,rfl,_,rfl,_,_,rfl,rfl,mul_ok hi.1 hi.2 hj.1 hj.2,_,rfl,_,rfl,_,_,rfl,rfl, .inr ⟨_,rfl,upd_same,dueL i j,rfl,(by show 4≤15;decide),?_⟩⟩
 rw[show mergeK [] (dueL i j)=dueL i j from merge4 _ _ _ _,upd_upd]
 have e1:=same_new hp (.dK (dueL i j))
 refine⟨_,rfl,p, .int (rk k i j),rfl, .inl ⟨dueL i j,Sum.inr (wordOf k),(by first|exact upd_same|exact .inl upd_same),rfl,(due_get i j k hk).symm⟩,?_⟩
 have rs:=rk_small (k:=k) hi hj
 have fs:=fig_small rs.1 rs.2
 refine⟨_,rfl,_,rfl,_,rfl,fs,_,rfl,int_text_fits fs,_,_,rfl,rfl,_,rfl,ite2 (fun c=>?_) (fun c=>?_)⟩
 ·have c1:=(fig60 (rk k i j)).mp (of_decide_eq_true c)
  exact⟨small (by show 1≤1000000;decide),fun ea _=>q2 (fun z=>c1 (in60.mp z)) ea _ e1⟩
 ·have c1:In60 (rk k i j):=by
   by_cases z:In60 (rk k i j)
   ·exact z
   ·exact absurd (decide_eq_true ((fig60 (rk k i j)).mpr z)) c
  exact⟨_,rfl,q1 (in60.mpr c1) _ e1⟩
end
mutual
inductive VlL (N:Addr→Prop)(H:Hp):V→Vl→Prop where
 |num {i:Int}:In60b i=true→VlL N H (.int i) (.num i)
 |fn {r d:Addr} {x:Nat} {bv:V} {b:Tm} {env:List Vl} {kvs:List (Key×V)} {vs:List V}:H r=some (.tup [.str "fn", .str (nmS x),bv, .ref d])→TmL H bv b→H d=some (.dK kvs)→N d→kvs.length≤vs.length→(∀j,j<150→valV kvs (Sum.inr (nmS j))=vs[j]?)→VlLs N H vs env→
   x=env.length→GT (x+1) b→x+1+6*dep b≤149→VlL N H (.ref r) (.fn x b env)
 |rg {d r:Addr} {x i:Nat} {bs:List Tm} {env:List Vl} {rs:List Addr} {kvs:List (Key×V)} {vs:List V}:rs.length=bs.length→rs[i]?=some r→(∀(j:Nat) (r':Addr) (b:Tm),rs[j]?=some r'→bs[j]?=some b→∃bv,H r'=some (.tup [.str "fn", .str (nmS (x+bs.length)),bv, .ref d])∧TmL H bv b)→
   H d=some (.dK kvs)→N d→kvs.length≤(vs++rs.map V.ref).length→(∀j,j<150→valV kvs (Sum.inr (nmS j))=(vs++rs.map V.ref)[j]?)→VlLs N H vs env→x=env.length→(1≤bs.length∧bs.length≤5)→GTL (x+bs.length+1) bs→x+bs.length+1+6*depL bs≤149→VlL N H (.ref r) (.rg x bs env i)
inductive VlLs (N:Addr→Prop)(H:Hp):List V→List Vl→Prop where
 |nil:VlLs N H [] []
 |cons {v:V} {w:Vl} {vs:List V} {ws:List Vl}:VlL N H v w→VlLs N H vs ws→VlLs N H (v::vs) (w::ws)
end
section
variable {N N':Addr→Prop}{H H':Hp}
mutual
theorem VlL.mono (tp:Tps H H')(kd:∀b kvs,N b→H b=some (.dK kvs)→N' b∧H' b=some (.dK kvs)):∀{v:V} {w:Vl},VlL N H v w→VlL N' H' v w
 |_,_, .num h=>.num h
 |_,_, .fn h1 h2 h3 h4 h5 h6 h7 h8 h9 h10=>.fn (tp _ _ h1) (h2.tps tp) (kd _ _ h4 h3).2 (kd _ _ h4 h3).1 h5 h6 (VlLs.mono tp kd h7) h8 h9 h10
 |_,_, .rg h1 h2 h3 h4 h5 h6 h7 h8 h9 h10 h11 h12=>.rg h1 h2 (fun j r' b e1 e2=>by
   obtain⟨bv,g1,g2⟩:=h3 j r' b e1 e2
   exact⟨bv,tp _ _ g1,g2.tps tp⟩) (kd _ _ h5 h4).2 (kd _ _ h5 h4).1 h6 h7 (VlLs.mono tp kd h8) h9 h10 h11 h12
theorem VlLs.mono (tp:Tps H H')(kd:∀b kvs,N b→H b=some (.dK kvs)→N' b∧H' b=some (.dK kvs)):∀{v:List V} {w:List Vl},VlLs N H v w→VlLs N' H' v w
 |_,_, .nil=>.nil
 |_,_, .cons h1 h2=>.cons (VlL.mono tp kd h1) (VlLs.mono tp kd h2)
end
theorem VlLs.len:∀{vs:List V} {ws:List Vl},VlLs N H vs ws→vs.length=ws.length
 |_,_, .nil=>rfl
 |_,_, .cons _ q=>congrArg (·+1) q.len
theorem VlLs.get:∀{vs:List V} {ws:List Vl} {j:Nat} {w:Vl},VlLs N H vs ws→ws[j]?=some w→∃v,vs[j]?=some v∧VlL N H v w
 |_,_,_,_, .nil,h=>by simp at h
 |_,_,0,_, .cons r q,h=>by simp at h;subst h;exact⟨_,rfl,r⟩
 |_,_,j+1,_, .cons r q,h=>by
  simp at h
  obtain⟨v,e,w⟩:=VlLs.get q h
  exact⟨v,by simpa using e,w⟩
theorem VlLs.snoc {v:V}{w:Vl}:∀{vs:List V} {ws:List Vl},VlLs N H vs ws→VlL N H v w→VlLs N H (vs++[v]) (ws++[w])
 |_,_, .nil,h=>.cons h .nil
 |_,_, .cons r q,h=>.cons r (VlLs.snoc q h)
end
def EnvL (H:Hp)(N:Addr→Prop)(d:Addr)(env:List Vl):Prop:=∃(kvs:List (Key×V)) (vs:List V),H d=some (.dK kvs)∧N d∧kvs.length≤vs.length∧(∀j,j<150→valV kvs (Sum.inr (nmS j))=vs[j]?)∧VlLs N H vs env
def Kw (wd:Addr)(H H':Hp):Prop:=∀b o,b≠wd→H b=some o→H' b=some o
theorem Kw.refl {wd:Addr}{H:Hp}:Kw wd H H:=fun b o _ h=>h
theorem Kw.trans {wd:Addr}{H H1 H2:Hp}(a:Kw wd H H1)(b:Kw wd H1 H2):Kw wd H H2:=fun c o n h=>b c o n (a c o n h)
theorem kw_same {wd:Addr}{H H':Hp}(s:Same H H'):Kw wd H H':=fun c o _ h=>s c o h
theorem kw_upd {wd:Addr}{H:Hp}{o:HO}:Kw wd H (upd H wd o):=fun c u n h=>by rw[upd_ne n];exact h
def Al (N:Addr→Prop)(H H':Hp):Addr→Prop:=fun b=>N b∨(H b=none∧H' b≠none)
theorem Al.step {N N1:Addr→Prop}{H H1 H2:Hp}{wd:Addr}(sub:∀b,N1 b→Al N H H1 b)(k1:Kw wd H H1)(k2:Kw wd H1 H2)(n0:H wd≠none)(n1:H1 wd≠none):∀b,Al N1 H1 H2 b→Al N H H2 b:=fun b hb=>by
 rcases hb with z|⟨z1,z2⟩
 ·rcases sub b z with y|⟨y1,y2⟩
  ·exact .inl y
  ·refine .inr ⟨y1,?_⟩
   obtain⟨o,ho⟩:=Option.ne_none_iff_exists'.mp y2
   rw[k2 b o (fun e=>n0 (by rw[←e];exact y1)) ho]
   simp
 ·refine .inr ⟨?_,z2⟩
  cases hq:H b with
  |none=>rfl
  |some o=>rw[k1 b o (fun e=>n1 (by rw[←e];exact z1)) hq]at z1;cases z1
theorem Al.refl {N:Addr→Prop}{H:Hp}{b:Addr}(h:Al N H H b):N b:=by
 rcases h with z|⟨z1,z2⟩
 ·exact z
 ·exact absurd z1 z2
structure WdL (H:Hp)(N:Addr→Prop)(wd ls:Addr)(c d:Nat)(most:Int)(S:List Vl):Prop where
 dk:∃kvs:List (Key×V),H wd=some (.dK kvs)∧kvs.length≤10∧valV kvs (Sum.inr "calls")=some (.int (c:Int))∧valV kvs (Sum.inr "deep")=some (.int (d:Int))∧valV kvs (Sum.inr "most")=some (.int most)∧valV kvs (Sum.inr "shared")=some (.ref ls)
 sh:∃svs,H ls=some (.lst svs)∧VlLs N H svs S
 ne:ls≠wd
 nw:¬N wd
 ex:∀b,N b→H b≠none
section
variable {N N':Addr→Prop}{wd ls:Addr}{H H':Hp}{c d:Nat}{most:Int}{S:List Vl}
theorem WdL.there (w:WdL H N wd ls c d most S):H wd≠none:=by
 obtain⟨kvs,h1,_⟩:=w.dk
 rw[h1];simp
theorem WdL.tps (w:WdL H N wd ls c d most S)(k:Kw wd H H'):Tps H H':=fun b ys h=>by
 obtain⟨kvs,h1,_⟩:=w.dk
 exact k b _ (ne_of h h1 (by intro z;cases z)) h
theorem WdL.kd (w:WdL H N wd ls c d most S)(k:Kw wd H H'):∀b kvs,N b→H b=some (.dK kvs)→N b∧H' b=some (.dK kvs):=fun b kvs n e=>⟨n,k b _ (fun z=>w.nw (by rw[←z];exact n)) e⟩
theorem WdL.val (w:WdL H N wd ls c d most S)(k:Kw wd H H'){v:V}{x:Vl}(h:VlL N H v x):VlL N H' v x:=h.mono (w.tps k) (w.kd k)
theorem WdL.env (w:WdL H N wd ls c d most S)(k:Kw wd H H'){e:Addr}{env:List Vl}(h:EnvL H N e env):EnvL H' N e env:=by
 obtain⟨kvs,vs,h1,h2,h3,h4,h5⟩:=h
 exact⟨kvs,vs,(w.kd k e kvs h2 h1).2,h2,h3,h4,h5.mono (w.tps k) (w.kd k)⟩
theorem EnvL.wide {e:Addr}{env:List Vl}(h:EnvL H N e env)(sub:∀b,N b→N' b):EnvL H N' e env:=by
 obtain⟨kvs,vs,h1,h2,h3,h4,h5⟩:=h
 exact⟨kvs,vs,h1,sub _ h2,h3,h4,h5.mono (fun b ys h=>h) fun b kvs n q=>⟨sub b n,q⟩⟩
theorem VlL.wide {v:V}{x:Vl}(h:VlL N H v x)(sub:∀b,N b→N' b):VlL N' H v x:=h.mono (fun b ys h=>h) fun b kvs n q=>⟨sub b n,q⟩
theorem WdL.wide (w:WdL H N wd ls c d most S)(sub:∀b,N b→N' b)(nw:¬N' wd)(ex:∀b,N' b→H b≠none):WdL H N' wd ls c d most S:=by
 obtain⟨svs,h2,g2⟩:=w.sh
 exact⟨w.dk,⟨svs,h2,g2.mono (fun b ys h=>h) fun b kvs n q=>⟨sub b n,q⟩⟩,w.ne,nw,ex⟩
theorem WdL.same (w:WdL H N wd ls c d most S)(s:Same H H'):WdL H' N wd ls c d most S:=by
 obtain⟨kvs,h1,g⟩:=w.dk
 obtain⟨svs,h2,g2⟩:=w.sh
 refine⟨⟨kvs,s _ _ h1,g⟩,⟨svs,s _ _ h2,g2.mono (w.tps (kw_same s)) (w.kd (kw_same s))⟩,w.ne,w.nw,fun b n=>?_⟩
 obtain⟨o,ho⟩:=Option.ne_none_iff_exists'.mp (w.ex b n)
 rw[s b o ho]
 simp
theorem putK_len {kvs:List (Key×V)}{k:Key}{v:V}{y:V}(h:valV kvs k=some v):(putK kvs k y).length=kvs.length:=by
 unfold putK
 rw[valV_any,h]
 simp
theorem wd_keys:("deep":Str)≠"calls"∧("most":Str)≠"calls"∧("most":Str)≠"deep"∧("shared":Str)≠"calls"∧("shared":Str)≠"deep"∧("shared":Str)≠"most":=by decide+kernel
theorem ex_upd {o:HO}(h:∀b,N b→H b≠none):∀b,N b→(upd H wd o) b≠none:=fun b n=>by
 by_cases z:b=wd
 ·subst z;rw[upd_same];simp
 ·rw[upd_ne z];exact h b n
theorem WdL.putC (w:WdL H N wd ls c d most S){kvs:List (Key×V)}(h:H wd=some (.dK kvs))(c2:Nat):WdL (upd H wd (.dK (putK kvs (Sum.inr "calls") (.int (c2:Int))))) N wd ls c2 d most S:=by
 obtain⟨kvs',h1,l,g1,g2,g3,g4⟩:=w.dk
 rw[h]at h1
 cases h1
 obtain⟨svs,h2,r2⟩:=w.sh
 obtain⟨n1,n2,n3,n4,n5,n6⟩:=wd_keys
 refine⟨⟨_,upd_same,by rw[putK_len g1];exact l,by rw[valV_put,if_pos rfl],by rw[valV_put,if_neg (ne4 n1)];exact g2,by rw[valV_put,if_neg (ne4 n2)];exact g3,by rw[valV_put,if_neg (ne4 n4)];exact g4⟩,⟨svs,by rw[upd_ne w.ne];exact h2,r2.mono (w.tps kw_upd) (w.kd kw_upd)⟩,w.ne,w.nw,ex_upd w.ex⟩
theorem WdL.putD (w:WdL H N wd ls c d most S){kvs:List (Key×V)}(h:H wd=some (.dK kvs))(d2:Nat):WdL (upd H wd (.dK (putK kvs (Sum.inr "deep") (.int (d2:Int))))) N wd ls c d2 most S:=by
 obtain⟨kvs',h1,l,g1,g2,g3,g4⟩:=w.dk
 rw[h]at h1
 cases h1
 obtain⟨svs,h2,r2⟩:=w.sh
 obtain⟨n1,n2,n3,n4,n5,n6⟩:=wd_keys
 refine⟨⟨_,upd_same,by rw[putK_len g2];exact l,by rw[valV_put,if_neg (ne4 (Ne.symm n1))];exact g1,by rw[valV_put,if_pos rfl],by rw[valV_put,if_neg (ne4 n3)];exact g3,by rw[valV_put,if_neg (ne4 n5)];exact g4⟩,⟨svs,by rw[upd_ne w.ne];exact h2,r2.mono (w.tps kw_upd) (w.kd kw_upd)⟩,w.ne,w.nw,ex_upd w.ex⟩
theorem EnvL.more {e:Addr}{env:List Vl}{kvs:List (Key×V)}{vs:List V}(h1:kvs.length≤vs.length)(h2:∀j,j<150→valV kvs (Sum.inr (nmS j))=vs[j]?)(h3:VlLs N H' vs env){v:V}{x:Vl}(hv:VlL N H' v x)(l:env.length<150)(ne:N e)(he:H' e=some (.dK (putK kvs (Sum.inr (nmS env.length)) v))):EnvL H' N e (env++[x]):=by
 have lv:=h3.len
 have hn:valV kvs (Sum.inr (nmS env.length))=none:=by rw[h2 _ l,List.getElem?_eq_none (by omega)]
 refine⟨_,vs++[v],he,ne,by rw[putK_new _ hn,List.length_append,List.length_append];simpa using h1,fun j hj=>?_,h3.snoc hv⟩
 rw[valV_put]
 by_cases c:j=env.length
 ·subst c
  rw[if_pos rfl,←lv]
  simp
 ·rw[if_neg (fun z=>c (nm_inj j hj env.length l (Sum.inr.inj z))),h2 j hj]
  by_cases c2:j<vs.length
  ·rw[List.getElem?_append_left c2]
  ·rw[List.getElem?_eq_none (by omega),List.getElem?_eq_none (by rw[List.length_append];simp;omega)]
theorem WdL.al {H0:Hp}{N0:Addr→Prop}(w:WdL H N wd ls c d most S)(sub:∀b,N b→Al N0 H0 H b)(h0:H0 wd≠none)(n0:¬N0 wd)(ex0:∀b,N0 b→H0 b≠none)(k:Kw wd H0 H):WdL H (Al N0 H0 H) wd ls c d most S:=by
 refine w.wide sub (fun z=>?_) (fun b hb=>?_)
 ·rcases z with y|⟨y,_⟩
  ·exact n0 y
  ·exact h0 y
 ·rcases hb with y|⟨_,y⟩
  ·obtain⟨o,ho⟩:=Option.ne_none_iff_exists'.mp (ex0 b y)
   rw[k b o (fun z=>n0 (by rw[←z];exact y)) ho]
   simp
  ·exact y
end
theorem VlLs.app {N:Addr→Prop}{H:Hp}:∀{vs vs':List V} {ws ws':List Vl},VlLs N H vs ws→VlLs N H vs' ws'→VlLs N H (vs++vs') (ws++ws')
 |_,_,_,_, .nil,h=>h
 |_,_,_,_, .cons r q,h=>.cons r (VlLs.app q h)
theorem VlLs.of {N:Addr→Prop}{H:Hp}:∀{vs:List V} {ws:List Vl},vs.length=ws.length→(∀(j:Nat) v w,vs[j]?=some v→ws[j]?=some w→VlL N H v w)→VlLs N H vs ws
 |[],[],_,_=>.nil
 |[],_::_,h,_=>by simp at h
 |_::_,[],h,_=>by simp at h
 |v::vs,w::ws,h,g=>.cons (g 0 v w rfl rfl) (VlLs.of (by simpa using h) fun j v' w' e1 e2=>g (j+1) v' w' (by simpa using e1) (by simpa using e2))
theorem VlL.call {N:Addr→Prop}{H:Hp}{u:V}{w:Vl}{b:Tm}{env:List Vl}(h:VlL N H u w)(c:callV w=some (b,env)):∃(r d:Addr) (bv:V),u=.ref r∧H r=some (.tup [.str "fn", .str (nmS env.length),bv, .ref d])∧TmL H bv b∧EnvL H N d env∧GT (env.length+1) b∧env.length+1+6*dep b≤149:=by
 cases h with
 |num hi=>cases c
 |fn h1 h2 h3 h4 h5 h6 h7 h8 h9 h10=>cases c;subst h8;exact⟨_,_,_,rfl,h1,h2,⟨_,_,h3,h4,h5,h6,h7⟩,h9,h10⟩
 |@rg d r x i bs env0 rs kvs vs h1 h2 h3 h4 h5 h6 h7 h8 h9 h10 h11 h12=>
  unfold callV at c
  cases eb:bs[i]? with
  |none=>simp only[eb]at c;cases c
  |some b0=>
   simp only[eb]at c
   cases c
   obtain⟨bv,g1,g2⟩:=h3 i r b h2 eb
   have el:(env0++rgv x bs env0).length=x+bs.length:=by rw[List.length_append,rgv_len,h9]
   have db:=depL_at eb
   refine⟨r,d,bv,rfl,by rw[el];exact g1,g2,⟨kvs,vs++rs.map V.ref,h4,h5,h6,h7,h8.app (VlLs.of (by rw[List.length_map,rgv_len,h1]) fun j v w e1 e2=>?_)⟩,by rw[el];exact GTL_mem h11 (List.mem_of_getElem? eb),by rw[el];omega⟩
   rw[List.getElem?_map]at e1
   cases er:rs[j]? with
   |none=>rw[er]at e1;cases e1
   |some r'=>
    rw[er]at e1
    cases e1
    have lj:j<bs.length:=by have:=(List.getElem?_eq_some_iff.mp er).1;omega
    rw[rgv_at lj]at e2
    cases e2
    exact .rg h1 er h3 h4 h5 h6 h7 h8 h9 h10 h11 h12
def outC (CT CTl CTd:Addr):Rs→Option Addr
 |.val _=>none
 |.long=>some CTl
 |.deep=>some CTd
 |.great=>some CT
inductive CspWk (CT CTl CTd:Addr)(m e:Nat)(vs:List V)(H:Hp)(Q:VK)(E:XK):Prop where
 |mk (v:V) (od wd ls:Addr) (N:Addr→Prop) (t:Tm) (env:List Vl) (c d:Nat) (most:Int) (S:List Vl) (r:Rs) (c':Nat):vs=[v, .ref od, .ref wd]→TmL H v t→EnvL H N od env→WdL H N wd ls c d most S→GT env.length t→env.length+6*dep t≤149→10≤d+e→ev most S m d t env c=some (r,c')→(∀w,r=.val w→∀u H',VlL (Al N H H') H' u w→WdL H' (Al N H H') wd ls c' d most S→Kw wd H H'→Q u H')→(∀C,outC CT CTl CTd r=some C→∀ea H',Kw wd H H'→E (.ref C) (some ea) H')→CspWk CT CTl CTd m e vs H Q E
def spWk (CT CTl CTd:Addr)(m e:Nat):Sp:=CspWk CT CTl CTd m e
def spWkN (CT CTl CTd:Addr):Nat→Nat→Sp
 |0,_=>fun _ _ _ _=>False
 |m+1,e=>spWk CT CTl CTd (m+1) e
def spWkC (CT CTl CTd:Addr)(m:Nat):Nat→Sp
 |0=>fun _ _ _ _=>False
 |e+1=>spWkN CT CTl CTd m e
inductive CspEnt (CT CTl CTd:Addr)(m e:Nat)(vs:List V)(H:Hp)(Q:VK)(E:XK):Prop where
 |mk (u v:V) (wd ls:Addr) (N:Addr→Prop) (x:Vl) (b:Tm) (env:List Vl) (w:Vl) (c d:Nat) (most:Int) (S:List Vl) (r:Rs) (c':Nat):vs=[u,v, .ref wd]→VlL N H u x→callV x=some (b,env)→VlL N H v w→WdL H N wd ls c d most S→10≤d+e→(if most<(c:Int)+1 then some (Rs.long,c) else if 10<d+1 then some (.deep,c) else ev most S m (d+1) b (env++[w]) (c+1))=some (r,c')→(∀w,r=.val w→∀u H',VlL (Al N H H') H' u w→WdL H' (Al N H H') wd ls c' d most S→Kw wd H H'→Q u H')→(∀C,outC CT CTl CTd r=some C→∀ea H',Kw wd H H'→E (.ref C) (some ea) H')→CspEnt CT CTl CTd m e vs H Q E
def spEnt (CT CTl CTd:Addr)(m e:Nat):Sp:=CspEnt CT CTl CTd m e
section
variable {P:Program}{w:World}{K:PySem.W.Frag}{mg:Str→Option Value}{base:Heap}{f:Addr}{fd:FuncData}{CT CTl CTd:Addr}
abbrev s_ent:Stmt:=top 59
abbrev pEn:List Str:=["_law_function","_law_value","_law_world"]
abbrev nEn:List Str:=["_law_function","_law_value","_law_world","_law_own_here","_law_told_here"]
theorem sc_ent:FnScope nEn pEn (defScope s_ent):=⟨rfl,rfl,rfl,by decide+kernel,rfl,by decide+kernel,by decide+kernel⟩
abbrev pWk:List Str:=["_law_term","_law_own_here","_law_world"]
set_option maxHeartbeats 4000000 in
theorem ok_ent {m e k:Nat}{fW:Addr}{gW:FuncData}{bm bm':List Value}{newId B initId newId' B' initId':String}(F:Fun K "_law_entered" "_law_entered" s_ent f fd)(mD:mg "dict"=none)(O:OwnCls "TooLong" CTl bm newId mg base)(FB:ExcBaseFacts B newId initId bm)(O':OwnCls "TooDeep" CTd bm' newId' mg base)(FB':ExcBaseFacts B' newId' initId' bm')
  (G:FnOk P w K mg base (CXF P w) k fW gW pWk (spWkC CT CTl CTd m e)) (mW:mg "_law_worked"=some (.ref fW)) (kW:PySem.W.keepIn K (.ref fW)=true) (bW:Binds K gW pWk []):FnOk P w K mg base (CXF P w) (k+1) f fd pEn (spEnt CT CTl CTd m e):=by
 refine F.okX sc_ent (fun vs H Q E h=>?_) (fun cdv A outer s H vs Q E hr h=>?_)
 ·obtain⟨u,v,wd,ls,N,x,b,env,w,c,d,most,S,r,c',rfl,_⟩:=h
  rfl
 obtain⟨u,v,wd,ls,N,x,b,env,w,c,d,most,S,r,c',rfl,hu1,hcv,hv1,wl,hde,he,q1,q2⟩:=h
 have hu:=hu_of hr
 refine⟨_,pss_cons (ps_if (pt_cmpR op_ge (pe_dget hu (pv 2) pe_str (fun _ _=>rfl)) (pe_dget hu (pv 2) pe_str (fun _ _=>rfl)) (nomark _)) (pss_one (ps_raise O FB rfl (pa_cons pe_str pa_nil))) pss_nil)
  (pss_cons (ps_if (pt_cmpR op_ge (pe_dget hu (pv 2) pe_str (fun _ _=>rfl)) pe_int (nomark _)) (pss_one (ps_raise O' FB' rfl (pa_cons pe_str pa_nil))) pss_nil)
  (pss_cons (ps_dput hu (pv 2) pe_str (pe_op op_add (pe_dget hu (pv 2) pe_str (fun _ _=>rfl)) pe_int) rfl)
  (pss_cons (ps_dput hu (pv 2) pe_str (pe_op op_add (pe_dget hu (pv 2) pe_str (fun _ _=>rfl)) pe_int) rfl)
  (pss_cons (ps_set (i:=3) sc_ent.nd rfl (Or.inl rfl) (pe_callTy call_dict_d rfl mD boot_dict' (pa_cons (pe_ix (ixT K) (pv 0) pe_int (fun _ _=>rfl)) pa_nil)))
  (pss_cons (ps_dput hu (pv 3) (pe_ix (ixT K) (pv 0) pe_int (fun _ _=>rfl)) (pv 1) rfl)
  (pss_cons (ps_set (i:=4) sc_ent.nd rfl (Or.inl rfl) (pe_call G hr rfl mW kW bW .nil passes_up (pa_cons (pe_ix (ixT K) (pv 0) pe_int (fun _ _=>rfl)) (pa_cons (pv 3) (pa_cons (pv 2) pa_nil)))))
  (pss_cons (ps_dput hu (pv 2) pe_str (pe_op op_sub (pe_dget hu (pv 2) pe_str (fun _ _=>rfl)) pe_int) rfl)
  (pss_one (ps_ret (pv 4)))))))))),?_⟩
 obtain⟨kvs,hwd,lk,g1,g2,g3,g4⟩:=wl.dk
 refine(dg_at rfl hwd g1 (dg_at rfl hwd g3 ⟨_,_,rfl,rfl,_,rfl,ite2 (fun z=>?_) (fun z=>?_)⟩))
 ·have z1:most≤(c:Int):=of_decide_eq_true z
  rw[if_pos (by omega)]at he
  cases he
  exact⟨small (by show 1≤1000000;decide),fun ea _=>q2 CTl rfl ea _ (fun b o _ h=>h)⟩
 have z1:¬most≤(c:Int):=fun y=>z (decide_eq_true y)
 rw[if_neg (by omega)]at he
 refine(dg_at rfl hwd g2 ⟨_,_,rfl,rfl,_,rfl,ite2 (fun y=>?_) (fun y=>?_)⟩)
 ·have y1:(10:Int)≤(d:Int):=of_decide_eq_true y
  rw[if_pos (by omega)]at he
  cases he
  exact⟨small (by show 1≤1000000;decide),fun ea _=>q2 CTd rfl ea _ (fun b o _ h=>h)⟩
 have y1:¬(10:Int)≤(d:Int):=fun q=>y (decide_eq_true q)
 rw[if_neg (by omega)]at he
 refine(dg_at rfl hwd g1 ⟨_,_,rfl,rfl,_,rfl,wd,_,rfl,DPut.k (k:=Sum.inr "calls") hwd (small' (by omega)),?_⟩)
 dsimp only
 rw[show(c:Int)+1=((c+1:Nat):Int) from rfl]
 have w2:=wl.putC hwd (c+1)
 have k2:Kw wd H (upd H wd (.dK (putK kvs (Sum.inr "calls") (.int ((c+1:Nat):Int))))):=kw_upd
 revert w2 k2
 generalize upd H wd (.dK (putK kvs (Sum.inr "calls") (.int ((c+1:Nat):Int))))=H2
 intro w2 k2
 obtain⟨kv2,hwd2,lk2,_,g22,_,_⟩:=w2.dk
 refine(dg_at rfl hwd2 g22 ⟨_,_,rfl,rfl,_,rfl,wd,_,rfl,DPut.k (k:=Sum.inr "deep") hwd2 (small' (by omega)),?_⟩)
 dsimp only
 rw[show(d:Int)+1=((d+1:Nat):Int) from rfl]
 have w3:=w2.putD hwd2 (d+1)
 have k3:Kw wd H2 (upd H2 wd (.dK (putK kv2 (Sum.inr "deep") (.int ((d+1:Nat):Int))))):=kw_upd
 revert w3 k3
 generalize upd H2 wd (.dK (putK kv2 (Sum.inr "deep") (.int ((d+1:Nat):Int))))=H3
 intro w3 k3
 have k03:=k2.trans k3
 have hv3:=wl.val k03 hv1
 obtain⟨rr,dd,bv,rfl,f1,f2,⟨fkv,fvs,f3,f4,f5,f6,f7⟩,f9,f10⟩:=(wl.val k03 hu1).call hcv
 have f8:env.length=env.length:=rfl
 obtain⟨e',rfl⟩:∃e',e=e'+1:=⟨e-1,by omega⟩
 ·
  refine(ix_t (a:=rr) (j:=3) rfl f1 rfl ⟨dd,fkv,rfl,f3,fun d4 hd4=>?_⟩)
  have s4:=same_new hd4 (.dK fkv)
  refine⟨_,rfl,_,rfl,ix_t (a:=rr) (j:=1) rfl (s4 _ _ f1) rfl ⟨d4,_,rfl,DPut.k (k:=Sum.inr (nmS env.length)) upd_same (small' (by have:=f7.len;omega)),?_⟩⟩
  have n4:d4≠wd:=by
   obtain⟨kv3,hwd3,_⟩:=w3.dk
   exact ne_of_none' hd4 hwd3
  have s5:Same H3 (upd (upd H3 d4 (.dK fkv)) d4 (.dK (putK fkv (Sum.inr (nmS env.length)) v))):=fun b o h=>by
   rw[upd_ne (ne_of_none h hd4),upd_ne (ne_of_none h hd4)];exact h
  have h5:(upd (upd H3 d4 (.dK fkv)) d4 (.dK (putK fkv (Sum.inr (nmS env.length)) v))) d4=some (.dK (putK fkv (Sum.inr (nmS env.length)) v)):=upd_same
  revert s5 h5
  generalize upd (upd H3 d4 (.dK fkv)) d4 (.dK (putK fkv (Sum.inr (nmS env.length)) v))=H5
  intro s5 h5
  have k05:=k03.trans (kw_same s5)
  have sub5:∀b,(N b∨b=d4)→Al N H H5 b:=fun b hb=>by
   rcases hb with z|z
   ·exact .inl z
   ·subst z
    refine .inr ⟨?_,by rw[h5];simp⟩
    cases hq:H b with
    |none=>rfl
    |some o=>rw[k03 b o n4 hq]at hd4;cases hd4
  have w5:WdL H5 (fun b=>N b∨b=d4) wd ls (c+1) (d+1) most S:=(w3.same s5).wide (fun b hb=>.inl hb) (fun z=>z.elim w3.nw (fun e=>n4 e.symm)) (fun b hb=>by
   rcases hb with z|z
   ·exact(w3.same s5).ex b z
   ·subst z;rw[h5];simp)
  have f75:VlLs (fun b=>N b∨b=d4) H5 fvs env:=f7.mono (w3.tps (kw_same s5)) fun b kvs n e=>⟨.inl n,s5 b _ e⟩
  have ev5:EnvL H5 (fun b=>N b∨b=d4) d4 (env++[w]):=EnvL.more f5 f6 f75 ((w3.val (kw_same s5) hv3).wide fun b hb=>.inl hb) (by omega) (.inr rfl) (h5)
  have hm:∃j,m=j+1:=by
   cases m with
   |zero=>cases he
   |succ j=>exact⟨j,rfl⟩
  obtain⟨j,rfl⟩:=hm
  refine(ix_t (a:=rr) (j:=2) rfl (s5 _ _ f1) rfl ⟨_,rfl,_,rfl,bv,d4,wd,ls,(fun b=>N b∨b=d4),b,env++[w],c+1,d+1,most,S,r,c',rfl,f2.same s5,ev5,w5,by rw[List.length_append];exact f9,by rw[List.length_append];simp;omega,by omega,he,fun w' hw' u' H6 hu6 w6 k6=>?_,fun C hC ea H6 k6=>q2 C hC ea H6 (k05.trans k6)⟩)
  obtain⟨kv6,hwd6,lk6,_,g26,_,_⟩:=w6.dk
  refine(dg_at rfl hwd6 g26 ⟨_,_,rfl,rfl,_,rfl,wd,_,rfl,DPut.k (k:=Sum.inr "deep") hwd6 (small' (by omega)),?_⟩)
  dsimp only
  rw[show((d+1:Nat):Int)-1=((d:Nat):Int) by omega]
  have w7:=w6.putD hwd6 d
  have k7:Kw wd H6 (upd H6 wd (.dK (putK kv6 (Sum.inr "deep") (.int (d:Int))))):=kw_upd
  have u7:=w6.val k7 hu6
  revert w7 k7 u7
  generalize upd H6 wd (.dK (putK kv6 (Sum.inr "deep") (.int (d:Int))))=H7
  intro w7 k7 u7
  have st:∀b,Al (fun b=>N b∨b=d4) H5 H6 b→Al N H H7 b:=fun b hb=>by
   have:=Al.step (N:=N) (H:=H) (H1:=H5) (H2:=H6) sub5 k05 k6 wl.there w5.there b hb
   rcases this with z|⟨z1,z2⟩
   ·exact .inl z
   ·refine .inr ⟨z1,?_⟩
    obtain⟨o,ho⟩:=Option.ne_none_iff_exists'.mp z2
    rw[k7 b o (fun e=>wl.there (by rw[←e];exact z1)) ho]
    simp
  have k07:=k05.trans (k6.trans k7)
  exact⟨_,rfl,q1 w' hw' u' _ (u7.wide st) (w7.al st wl.there wl.nw wl.ex k07) k07⟩
end
theorem v_words:("fun":Str)≠"n"∧("fun":Str)≠"v"∧("fun":Str)≠"g"∧("let":Str)≠"fun"∧("if":Str)≠"fun"∧("call":Str)≠"fun"∧("call":Str)≠"let"∧("call":Str)≠"if":=by decide+kernel
theorem v_op:∀k,k≤3→wordOf k≠"fun"∧wordOf k≠"call"∧wordOf k≠"ring":=by decide+kernel
theorem r_words:("ring":Str)≠"n"∧("ring":Str)≠"v"∧("ring":Str)≠"g"∧("ring":Str)≠"fun"∧("ring":Str)≠"let"∧("if":Str)≠"ring"∧("call":Str)≠"ring":=by decide+kernel
theorem envk_more {kvs:List (Key×V)}{vs:List V}{v:V}(h1:kvs.length≤vs.length)(h2:∀j,j<150→valV kvs (Sum.inr (nmS j))=vs[j]?)(l:vs.length<150):(putK kvs (Sum.inr (nmS vs.length)) v).length≤(vs++[v]).length∧∀j,j<150→valV (putK kvs (Sum.inr (nmS vs.length)) v) (Sum.inr (nmS j))=(vs++[v])[j]?:=by
 have hn:valV kvs (Sum.inr (nmS vs.length))=none:=by rw[h2 _ l,List.getElem?_eq_none (by omega)]
 refine⟨by rw[putK_new _ hn,List.length_append,List.length_append];simpa using h1,fun j hj=>?_⟩
 rw[valV_put]
 by_cases c:j=vs.length
 ·subst c
  rw[if_pos rfl]
  simp
 ·rw[if_neg (fun z=>c (nm_inj j hj vs.length l (Sum.inr.inj z))),h2 j hj]
  by_cases c2:j<vs.length
  ·rw[List.getElem?_append_left c2]
  ·rw[List.getElem?_eq_none (by omega),List.getElem?_eq_none (by rw[List.length_append];simp;omega)]
section
variable {P:Program}{w:World}{K:PySem.W.Frag}{mg:Str→Option Value}{base:Heap}{f:Addr}{fd:FuncData}{CT CTl CTd:Addr}
abbrev s_work:Stmt:=top 61
abbrev nWk:List Str:=["_law_term","_law_own_here","_law_world","_law_inner","_law_name","_law_x","_law_body","_law_value","_law_left","_law_right"]
theorem sc_work:FnScope nWk pWk (defScope s_work):=⟨rfl,rfl,rfl,by decide+kernel,rfl,by decide+kernel,by decide+kernel⟩
set_option maxHeartbeats 8000000 in
theorem ok_work {m ec:Nat}{fS fE:Addr}{gS gE:FuncData}(F:Fun K "_law_worked" "_law_worked" s_work f fd)(bF:Binds K fd pWk [])(mF:mg "_law_worked"=some (.ref f))(mD:mg "dict"=none)(mI:mg "int"=none)
  (GS:FnOk P w K mg base (CXF P w) 1 fS gS ["_law_word","_law_left","_law_right"] (spSum CT)) (mS:mg "_law_summed"=some (.ref fS)) (kS:PySem.W.keepIn K (.ref fS)=true) (bS:Binds K gS ["_law_word","_law_left","_law_right"] [])
  (GE:FnOk P w K mg base (CXF P w) (m+ec+1) fE gE pEn (spEnt CT CTl CTd m ec)) (mE:mg "_law_entered"=some (.ref fE)) (kE:PySem.W.keepIn K (.ref fE)=true) (bE:Binds K gE pEn [])
  (G:FnOk P w K mg base (CXF P w) (m+ec+1) f fd pWk (spWkN CT CTl CTd m ec)):FnOk P w K mg base (CXF P w) (m+ec+2) f fd pWk (spWk CT CTl CTd (m+1) ec):=by
 refine F.okX sc_work (fun vs H Q E h=>?_) (fun cdv A outer s H vs Q E hr h=>?_)
 ·obtain⟨v,od,wd,ls,N,t,env,c,d,most,S,r,c',rfl,_⟩:=h
  rfl
 obtain⟨v,od,wd,ls,N,t,env,c,d,most,S,r,c',rfl,tl,en,wl,gt,l39,hde,he,q1,q2⟩:=h
 have hu:=hu_of hr
 have hr1:Room 1 _:=hr.mono (by omega)
 have hrm:Room (m+ec+1) _:=hr.mono (by omega)
 refine⟨_,pss_cons (ps_if (pt_cmpR op_eq (pe_ix (ixT K) (pv 0) pe_int (fun _ _=>rfl)) pe_str (nomark _)) (pss_one (ps_ret (pe_ix (ixT K) (pv 0) pe_int (fun _ _=>rfl)))) pss_nil)
  (pss_cons (ps_if (pt_cmpR op_eq (pe_ix (ixT K) (pv 0) pe_int (fun _ _=>rfl)) pe_str (nomark _)) (pss_one (ps_ret (pe_dget hu (pv 1) (pe_ix (ixT K) (pv 0) pe_int (fun _ _=>rfl)) (fun _ _=>rfl)))) pss_nil)
  (pss_cons (ps_if (pt_cmpR op_eq (pe_ix (ixT K) (pv 0) pe_int (fun _ _=>rfl)) pe_str (nomark _)) (pss_one (ps_ret (pe_ix (ixL K) (pe_dget hu (pv 2) pe_str (fun _ _=>rfl)) (pe_ix (ixT K) (pv 0) pe_int (fun _ _=>rfl)) (fun _ _=>rfl)))) pss_nil)
  (pss_cons (ps_if (pt_cmpR op_eq (pe_ix (ixT K) (pv 0) pe_int (fun _ _=>rfl)) pe_str (nomark _)) (pss_one (ps_ret (pe_tup (pa_cons pe_str (pa_cons (pe_ix (ixT K) (pv 0) pe_int (fun _ _=>rfl)) (pa_cons (pe_ix (ixT K) (pv 0) pe_int (fun _ _=>rfl)) (pa_cons (pv 1) pa_nil))))))) pss_nil)
  (pss_cons (ps_if (pt_cmpR op_eq (pe_ix (ixT K) (pv 0) pe_int (fun _ _=>rfl)) pe_str (nomark _))
   (pss_cons (ps_set (i:=3) sc_work.nd rfl (Or.inl rfl) (pe_callTy call_dict_d rfl mD boot_dict' (pa_cons (pv 1) pa_nil)))
   (pss_cons (ps_dput hu (pv 3) (pe_ix (ixT K) (pv 0) pe_int (fun _ _=>rfl)) (pe_call G hrm rfl mF F.kp bF .nil passes_up (pa_cons (pe_ix (ixT K) (pv 0) pe_int (fun _ _=>rfl)) (pa_cons (pv 1) (pa_cons (pv 2) pa_nil)))) rfl)
   (pss_one (ps_ret (pe_call G hrm rfl mF F.kp bF .nil passes_up (pa_cons (pe_ix (ixT K) (pv 0) pe_int (fun _ _=>rfl)) (pa_cons (pv 3) (pa_cons (pv 2) pa_nil)))))))) pss_nil)
  (pss_cons (ps_if (pt_cmpR op_eq (pe_ix (ixT K) (pv 0) pe_int (fun _ _=>rfl)) pe_str (nomark _))
   (pss_cons (ps_set (i:=3) sc_work.nd rfl (Or.inl rfl) (pe_callTy call_dict_d rfl mD boot_dict' (pa_cons (pv 1) pa_nil)))
   (pss_cons (ps_for PassesOwn.leaving rfl (piT K (pe_ix (ixT K) (pv 0) pe_int (fun _ _=>rfl))) (pgT K rfl (pgs_cons (pg_name (i:=4) sc_work.nd rfl (Or.inl rfl)) (pgs_cons (pg_name (i:=5) sc_work.nd rfl (Or.inl rfl)) (pgs_cons (pg_name (i:=6) sc_work.nd rfl (Or.inl rfl)) pgs_nil))))
    (pss_one (ps_dput hu (pv 3) (pv 4) (pe_tup (pa_cons pe_str (pa_cons (pv 5) (pa_cons (pv 6) (pa_cons (pv 3) pa_nil))))) rfl)))
   (pss_one (ps_ret (pe_call G hrm rfl mF F.kp bF .nil passes_up (pa_cons (pe_ix (ixT K) (pv 0) pe_int (fun _ _=>rfl)) (pa_cons (pv 3) (pa_cons (pv 2) pa_nil)))))))) pss_nil)
  (pss_cons (ps_if (pt_cmpR op_eq (pe_ix (ixT K) (pv 0) pe_int (fun _ _=>rfl)) pe_str (nomark _))
   (pss_cons (ps_set (i:=7) sc_work.nd rfl (Or.inl rfl) (pe_call G hrm rfl mF F.kp bF .nil passes_up (pa_cons (pe_ix (ixT K) (pv 0) pe_int (fun _ _=>rfl)) (pa_cons (pv 1) (pa_cons (pv 2) pa_nil)))))
   (pss_one (ps_ret (pe_call G hrm rfl mF F.kp bF .nil passes_up (pa_cons (pe_ix (ixT K) (pv 0) (pe_op op_add pe_int (pe_callTy call_int1 rfl mI boot_int (pa_cons (pe_cmpR op_eq (pv 7) pe_int (nomark _)) pa_nil))) (fun _ _=>rfl)) (pa_cons (pv 1) (pa_cons (pv 2) pa_nil))))))) pss_nil)
  (pss_cons (ps_set (i:=8) sc_work.nd rfl (Or.inl rfl) (pe_call G hrm rfl mF F.kp bF .nil passes_up (pa_cons (pe_ix (ixT K) (pv 0) pe_int (fun _ _=>rfl)) (pa_cons (pv 1) (pa_cons (pv 2) pa_nil)))))
  (pss_cons (ps_set (i:=9) sc_work.nd rfl (Or.inl rfl) (pe_call G hrm rfl mF F.kp bF .nil passes_up (pa_cons (pe_ix (ixT K) (pv 0) pe_int (fun _ _=>rfl)) (pa_cons (pv 1) (pa_cons (pv 2) pa_nil)))))
  (pss_cons (ps_if (pt_cmpR op_eq (pe_ix (ixT K) (pv 0) pe_int (fun _ _=>rfl)) pe_str (nomark _)) (pss_one (ps_ret (pe_call GE hr rfl mE kE bE .nil passes_up (pa_cons (pv 8) (pa_cons (pv 9) (pa_cons (pv 2) pa_nil)))))) pss_nil)
  (pss_one (ps_ret (pe_call GS hr1 rfl mS kS bS .nil passes_up (pa_cons (pe_ix (ixT K) (pv 0) pe_int (fun _ _=>rfl)) (pa_cons (pv 8) (pa_cons (pv 9) pa_nil))))))))))))))),?_⟩
 obtain⟨m1,m2,m3,m4,m5,m6,m7,m8,m9,m10,m11,m12,m13,m14,m15⟩:=w_words
 obtain⟨v1,v2,v3,v4,v5,v6,v7,v8⟩:=v_words
 obtain⟨r1w,r2w,r3w,r4w,r5w,r6w,r7w⟩:=r_words
 have raw:∀{t':Tm} {v':V} {env':List Vl} {e:Addr} {N1:Addr→Prop} {H1:Hp} {c1:Nat} {r1:Rs} {c2:Nat} {Q':VK},TmL H1 v' t'→EnvL H1 N1 e env'→WdL H1 N1 wd ls c1 d most S→GT env'.length t'→env'.length+6*dep t'≤149→ev most S m d t' env' c1=some (r1,c2)→
   (∀w,r1=.val w→∀u H',VlL (Al N1 H1 H') H' u w→WdL H' (Al N1 H1 H') wd ls c2 d most S→Kw wd H1 H'→Q' u H')→(∀C,outC CT CTl CTd r1=some C→∀ea H',Kw wd H1 H'→E (.ref C) (some ea) H')→spWkN CT CTl CTd m ec [v', .ref e, .ref wd] H1 Q' E:=by
  intro t' v' env' e N1 H1 c1 r1 c2 Q' a1 a2 a3 a5 a6 a7 a8 a9
  cases m with
  |zero=>cases a7
  |succ j=>exact⟨v',e,wd,ls,N1,t',env',c1,d,most,S,r1,c2,rfl,a1,a2,a3,a5,a6,hde,a7,a8,a9⟩
 have sub:∀{t':Tm} {v':V} {env':List Vl} {e:Addr} {N1:Addr→Prop} {H1:Hp} {c1:Nat} {r1:Rs} {c2:Nat} {Q':VK},TmL H1 v' t'→EnvL H1 N1 e env'→WdL H1 N1 wd ls c1 d most S→Kw wd H H1→(∀b,N1 b→Al N H H1 b)→GT env'.length t'→env'.length+6*dep t'≤149→ev most S m d t' env' c1=some (r1,c2)→
   (∀w,r1=.val w→∀u H',VlL (Al N H H') H' u w→WdL H' (Al N H H') wd ls c2 d most S→Kw wd H H'→Q' u H')→(∀C,outC CT CTl CTd r1=some C→∀ea H',Kw wd H H'→E (.ref C) (some ea) H')→spWkN CT CTl CTd m ec [v', .ref e, .ref wd] H1 Q' E:=by
  intro t' v' env' e N1 H1 c1 r1 c2 Q' a1 a2 a3 a4 a4' a5 a6 a7 a8 a9
  refine raw a1 a2 a3 a5 a6 a7 (fun w hw u H' vu wu ku=>?_) (fun C hC ea H' ku=>a9 C hC ea H' (a4.trans ku))
  have k0:=a4.trans ku
  have st:=Al.step (N:=N) (H:=H) (H1:=H1) (H2:=H') a4' a4 ku wl.there a3.there
  exact a8 w hw u H' (vu.wide st) (wu.al st wl.there wl.nw wl.ex k0) k0
 have alN:∀{H1:Hp} b,N b→Al N H H1 b:=fun b hb=>.inl hb
 have n0:∀b,Al N H H b→N b:=fun b hb=>hb.refl
 have toQ:∀w,r=.val w→∀u H',VlL (Al N H H') H' u w→WdL H' (Al N H H') wd ls c' d most S→Kw wd H H'→Q u H':=q1
 cases tl with
 |@n a i ha=>
  cases he
  refine tag_yes rfl ha fun nx=>?_
  exact(ix_t (a:=a) (j:=1) rfl ha rfl (q1 _ rfl _ _ (.num gt) (wl.wide alN (fun z=>wl.nw z.refl) (fun b hb=>wl.ex b hb.refl)) Kw.refl))
 |@v a x ha=>
  unfold ev at he
  have hx:x<env.length:=gt
  rw[List.getElem?_eq_getElem hx]at he
  cases he
  obtain⟨kvs,vs,hod,nod,lk,vk,vls⟩:=en
  obtain⟨u,hu1,vu⟩:=vls.get (List.getElem?_eq_getElem hx)
  have hv:valV kvs (Sum.inr (nmS x))=some u:=by rw[vk x (by omega)];exact hu1
  refine tag_no rfl ha m1 ?_
  refine tag_yes rfl ha fun nx=>?_
  exact⟨_,rfl,ix_t (a:=a) (j:=1) rfl ha rfl ⟨od,_,rfl, .inl ⟨kvs,Sum.inr (nmS x),(by first|exact hod|exact .inl hod),rfl,hv.symm⟩,q1 _ rfl _ _ (vu.wide alN) (wl.wide alN (fun z=>wl.nw z.refl) (fun b hb=>wl.ex b hb.refl)) Kw.refl⟩⟩
 |@g a j ha=>
  unfold ev at he
  cases hs:S[j]? with
  |none=>rw[hs]at he;cases he
  |some sv=>
   rw[hs]at he
   cases he
   obtain⟨kvs,hwd,lk,g1,g2,g3,g4⟩:=wl.dk
   obtain⟨svs,hls,vls⟩:=wl.sh
   obtain⟨u,hu1,vu⟩:=vls.get hs
   refine tag_no rfl ha m2 ?_
   refine tag_no rfl ha m3 ?_
   refine tag_yes rfl ha fun nx=>?_
   exact(dg_at rfl hwd g4 (ix_t (a:=a) (j:=1) rfl ha rfl ⟨ls,_,(j:Int),_,rfl,rfl,SqL.of hls,atI_nat (j:=j) hu1,q1 _ rfl _ _ (vu.wide alN) (wl.wide alN (fun z=>wl.nw z.refl) (fun b hb=>wl.ex b hb.refl)) Kw.refl⟩))
 |@fn a x bv b ha t1=>
  cases he
  obtain⟨hx,gb⟩:=gt
  simp only[dep]at l39
  obtain⟨kvs,vs,hod,nod,lk,vk,vls⟩:=en
  refine tag_no rfl ha v1 ?_
  refine tag_no rfl ha v2 ?_
  refine tag_no rfl ha v3 ?_
  refine tag_yes rfl ha fun nx=>?_
  refine(ix_t (a:=a) (j:=1) rfl ha rfl (ix_t (a:=a) (j:=2) rfl ha rfl ⟨_,rfl,small (by show 4≤1000000;decide),fun p hp=>?_⟩))
  have s2:=same_new hp (.tup [.str "fn", .str (nmS x),bv, .ref od])
  have w2:=(wl.same s2).al (H0:=H) (N0:=N) alN wl.there wl.nw wl.ex (kw_same s2)
  exact q1 _ rfl _ _ (.fn upd_same (t1.same s2) (s2 _ _ hod) (alN _ nod) lk vk (vls.mono (wl.tps (kw_same s2)) fun b kvs n e=>⟨alN b n,s2 b _ e⟩) hx (by rw[hx];exact gb) (by omega)) w2 (kw_same s2)
 |@lt a x u y ta tb ha t1 t2=>
  obtain⟨hx,g1,g2⟩:=gt
  simp only[dep]at l39
  have dm1:=Nat.le_max_left (dep ta) (dep tb)
  have dm2:=Nat.le_max_right (dep ta) (dep tb)
  generalize max (dep ta) (dep tb)=Dm at l39 dm1 dm2
  unfold ev at he
  cases e1:ev most S m d ta env c with
  |none=>rw[e1]at he;cases he
  |some rc=>
   obtain⟨r1,c1⟩:=rc
   rw[e1]at he
   refine tag_no rfl ha m4 ?_
   refine tag_no rfl ha m5 ?_
   refine tag_no rfl ha m6 ?_
   refine tag_no rfl ha v4 ?_
   refine tag_yes rfl ha fun nx=>?_
   obtain⟨kvs,vs,hod,nod,lk,vk,vls⟩:=id en
   refine⟨_,rfl,od,kvs,rfl,hod,fun dd hdd=>?_⟩
   have s2:=same_new hdd (.dK kvs)
   have hdd2:(upd H dd (.dK kvs)) dd=some (.dK kvs):=upd_same
   have ndd:dd≠wd:=by
    obtain⟨kv,hwd,_⟩:=wl.dk
    exact ne_of_none' hdd hwd
   revert s2 hdd2
   generalize upd H dd (.dK kvs)=H2
   intro s2 hdd2
   have k2:Kw wd H H2:=kw_same s2
   have w2:=wl.same s2
   refine(ix_t (a:=a) (j:=2) rfl (s2 _ _ ha) rfl ⟨_,rfl,_,rfl,raw (t1.same s2) (wl.env k2 en) w2 g1 (by omega) e1 (fun w hw u' H3 vu w3 k3=>?_) (fun C hC ea H3 k3=>q2 C (by cases r1 with|val v=>cases hC|_=>cases he;exact hC) ea H3 (k2.trans k3))⟩)
   subst hw
   dsimp only at he
   have k03:=k2.trans k3
   have ha3:=wl.tps k03 _ _ ha
   have hdd3:=k3 _ _ ndd hdd2
   refine⟨_,rfl,ix_t (a:=a) (j:=1) rfl ha3 rfl ⟨dd,_,rfl,DPut.k (k:=Sum.inr (nmS x)) hdd3 (small' (by have:=vls.len;omega)),?_⟩⟩
   have nd:¬Al N H2 H3 dd:=fun z=>by
    rcases z with z|⟨z,_⟩
    ·exact wl.ex dd z hdd
    ·rw[hdd2]at z;cases z
   have hdd4:(upd H3 dd (.dK (putK kvs (Sum.inr (nmS x)) u'))) dd=some (.dK (putK kvs (Sum.inr (nmS x)) u')):=upd_same
   have ke4:∀b o,b≠dd→H3 b=some o→(upd H3 dd (.dK (putK kvs (Sum.inr (nmS x)) u'))) b=some o:=fun b o n h=>by rw[upd_ne n];exact h
   revert hdd4 ke4
   generalize upd H3 dd (.dK (putK kvs (Sum.inr (nmS x)) u'))=H4
   intro hdd4 ke4
   have tp4:Tps H3 H4:=fun b ys h=>ke4 b _ (ne_of h hdd3 (by intro z;cases z)) h
   have kd4:∀b kvs',Al N H2 H3 b→H3 b=some (.dK kvs')→(Al N H2 H3 b∨b=dd)∧H4 b=some (.dK kvs'):=fun b kvs' n e=>⟨.inl n,ke4 b _ (fun z=>nd (by rw[←z];exact n)) e⟩
   have k04:Kw wd H H4:=fun b o n h=>ke4 b o (ne_of_none h hdd) (k03 b o n h)
   have vls4:VlLs (fun b=>Al N H2 H3 b∨b=dd) H4 vs env:=((vls.mono (wl.tps k2) (wl.kd k2)).mono (w2.tps k3) fun b kvs' n e=>⟨.inl n,(w2.kd k3 b kvs' n e).2⟩).mono tp4 kd4
   have w4:WdL H4 (fun b=>Al N H2 H3 b∨b=dd) wd ls c1 d most S:=by
    obtain⟨kv,hwd,gg⟩:=w3.dk
    obtain⟨svs,hls,sv⟩:=w3.sh
    refine⟨⟨kv,ke4 _ _ (Ne.symm ndd) hwd,gg⟩,⟨svs,ke4 _ _ (ne_of hls hdd3 (by intro z;cases z)) hls,sv.mono tp4 kd4⟩,w3.ne,fun z=>z.elim w3.nw (fun e=>ndd e.symm),fun b hb=>?_⟩
    rcases hb with z|z
    ·obtain⟨o,ho⟩:=Option.ne_none_iff_exists'.mp (w3.ex b z)
     rw[ke4 b o (fun e=>nd (by rw[←e];exact z)) ho]
     simp
    ·subst z;rw[hdd4];simp
   have en4:EnvL H4 (fun b=>Al N H2 H3 b∨b=dd) dd (env++[w]):=EnvL.more lk vk vls4 (vu.mono tp4 kd4) (by omega) (.inr rfl) (by rw[←hx];exact hdd4)
   have sub4:∀b,(Al N H2 H3 b∨b=dd)→Al N H H4 b:=fun b hb=>by
    rcases hb with (z|⟨z1,z2⟩)|z
    ·exact .inl z
    ·refine .inr ⟨?_,?_⟩
     ·cases hq:H b with
      |none=>rfl
      |some o=>rw[s2 b o hq]at z1;cases z1
     ·obtain⟨o,ho⟩:=Option.ne_none_iff_exists'.mp z2
      rw[ke4 b o (fun e=>by rw[e,hdd2]at z1;cases z1) ho]
      simp
    ·subst z;exact .inr ⟨hdd,by rw[hdd4];simp⟩
   refine(ix_t (a:=a) (j:=3) rfl (tp4 _ _ ha3) rfl ⟨_,rfl,_,rfl,sub ((t2.tps (wl.tps k03)).tps tp4) en4 w4 k04 sub4 (by rw[List.length_append];exact g2) (by rw[List.length_append];simp;omega) he q1 q2⟩)
 |@ift a u y zv tc ta tb ha t1 t2 t3=>
  obtain⟨g0,g1,g2⟩:=gt
  simp only[dep]at l39
  have dm1:=Nat.le_max_left (dep ta) (dep tb)
  have dm2:=Nat.le_max_right (dep ta) (dep tb)
  generalize max (dep ta) (dep tb)=Dm at l39 dm1 dm2
  have dm3:=Nat.le_max_left (dep tc) Dm
  have dm4:=Nat.le_max_right (dep tc) Dm
  generalize max (dep tc) Dm=Dn at l39 dm3 dm4
  unfold ev at he
  cases e1:ev most S m d tc env c with
  |none=>rw[e1]at he;cases he
  |some rc=>
   obtain⟨r1,c1⟩:=rc
   rw[e1]at he
   refine tag_no rfl ha m12 ?_
   refine tag_no rfl ha m13 ?_
   refine tag_no rfl ha m14 ?_
   refine tag_no rfl ha v5 ?_
   refine tag_no rfl ha m15 ?_
   refine tag_no rfl ha r6w ?_
   refine tag_yes rfl ha fun nx=>?_
   refine(ix_t (a:=a) (j:=1) rfl ha rfl ⟨_,rfl,_,rfl,sub t1 en wl Kw.refl alN g0 (by omega) e1 (fun w hw u' H3 vu w3 k3=>?_) (fun C hC ea H3 k3=>q2 C (by cases r1 with|val v=>cases hC|_=>cases he;exact hC) ea H3 k3)⟩)
   subst hw
   have ha3:=wl.tps k3 _ _ ha
   have en3:EnvL H3 (Al N H H3) od env:=(wl.env k3 en).wide alN
   cases vu with
   |@num i hi=>
    dsimp only at he
    by_cases c0:i=0
    ·rw[if_pos c0]at he
     have e0:(decide (V.int i=V.int 0))=true:=decide_eq_true (by rw[c0])
     refine⟨_,rfl,_,rfl,rfl, .inr ⟨_,rfl,_,_,rfl,rfl,a,_,3,zv,rfl,?_,SqT.of ha3,atI_nat (j:=3) rfl,_,rfl,_,rfl,sub (t3.tps (wl.tps k3)) en3 w3 k3 (fun b hb=>hb) g2 (by omega) he q1 q2⟩⟩
     rw[e0];rfl
    ·rw[if_neg c0]at he
     have e0:(decide (V.int i=V.int 0))=false:=decide_eq_false (fun z=>c0 (V.int.inj z))
     refine⟨_,rfl,_,rfl,rfl, .inr ⟨_,rfl,_,_,rfl,rfl,a,_,2,y,rfl,?_,SqT.of ha3,atI_nat (j:=2) rfl,_,rfl,_,rfl,sub (t2.tps (wl.tps k3)) en3 w3 k3 (fun b hb=>hb) g1 (by omega) he q1 q2⟩⟩
     rw[e0];rfl
   |fn=>cases he
   |rg=>cases he
 |@op a k u y ta tb ha t1 t2=>
  obtain⟨hk,g1,g2⟩:=gt
  obtain⟨o1,o2,o3,o4,o5,o6⟩:=w_op k hk
  obtain⟨o7,o8,o9⟩:=v_op k hk
  simp only[dep]at l39
  have dm1:=Nat.le_max_left (dep ta) (dep tb)
  have dm2:=Nat.le_max_right (dep ta) (dep tb)
  generalize max (dep ta) (dep tb)=Dm at l39 dm1 dm2
  unfold ev at he
  cases e1:ev most S m d ta env c with
  |none=>rw[e1]at he;cases he
  |some rc=>
   obtain⟨r1,c1⟩:=rc
   rw[e1]at he
   refine tag_no rfl ha o1 ?_
   refine tag_no rfl ha o2 ?_
   refine tag_no rfl ha o3 ?_
   refine tag_no rfl ha o7 ?_
   refine tag_no rfl ha o4 ?_
   refine tag_no rfl ha o9 ?_
   refine tag_no rfl ha o5 ?_
   refine(ix_t (a:=a) (j:=1) rfl ha rfl ⟨_,rfl,_,rfl,sub t1 en wl Kw.refl alN g1 (by omega) e1 (fun w hw u' H3 vu w3 k3=>?_) (fun C hC ea H3 k3=>q2 C (by cases r1 with|val v=>cases hC|_=>cases he;exact hC) ea H3 k3)⟩)
   subst hw
   dsimp only at he
   have ha3:=wl.tps k3 _ _ ha
   have en3:EnvL H3 (Al N H H3) od env:=(wl.env k3 en).wide alN
   cases e2:ev most S m d tb env c1 with
   |none=>rw[e2]at he;cases he
   |some rc2=>
    obtain⟨r2,c2⟩:=rc2
    rw[e2]at he
    refine(ix_t (a:=a) (j:=2) rfl ha3 rfl ⟨_,rfl,_,rfl,sub (t2.tps (wl.tps k3)) en3 w3 k3 (fun b hb=>hb) g2 (by omega) e2 (fun w' hw' u2 H4 vu2 w4 k4=>?_) (fun C hC ea H4 k4=>q2 C (by cases r2 with|val v=>cases hC|_=>cases he;exact hC) ea H4 k4)⟩)
    subst hw'
    have ha4:=wl.tps k4 _ _ ha
    refine tag_no rfl ha4 o8 ?_
    cases vu with
    |@num i hi=>cases vu2 with
     |@num j hj=>
      dsimp only at he
      refine(ix_t (a:=a) (j:=0) rfl ha4 rfl ⟨_,rfl,_,rfl,k,i,j,rfl,hk,hi,hj,fun z H5 s5=>?_,fun z ea H5 s5=>?_⟩)
      ·rw[if_pos z]at he
       cases he
       have k5:=k4.trans (kw_same s5)
       refine q1 _ rfl _ _ (.num z) ((w4.same s5).al (H0:=H) (N0:=N) (fun b hb=>?_) wl.there wl.nw wl.ex k5) k5
       rcases hb with y|⟨y1,y2⟩
       ·exact .inl y
       ·refine .inr ⟨y1,?_⟩
        obtain⟨o,ho⟩:=Option.ne_none_iff_exists'.mp y2
        rw[s5 b o ho]
        simp
      ·rw[if_neg z]at he
       cases he
       exact q2 CT rfl ea H5 (k4.trans (kw_same s5))
     |fn=>cases he
     |rg=>cases he
    |fn=>cases vu2<;>cases he
    |rg=>cases vu2<;>cases he
 |@call a u y ta tb ha t1 t2=>
  obtain⟨g1,g2⟩:=gt
  obtain⟨o1,o2,o3,o4,o5,o6⟩:=w_call
  simp only[dep]at l39
  have dm1:=Nat.le_max_left (dep ta) (dep tb)
  have dm2:=Nat.le_max_right (dep ta) (dep tb)
  generalize max (dep ta) (dep tb)=Dm at l39 dm1 dm2
  unfold ev at he
  cases e1:ev most S m d ta env c with
  |none=>rw[e1]at he;cases he
  |some rc=>
   obtain⟨r1,c1⟩:=rc
   rw[e1]at he
   refine tag_no rfl ha o1 ?_
   refine tag_no rfl ha o2 ?_
   refine tag_no rfl ha o3 ?_
   refine tag_no rfl ha v6 ?_
   refine tag_no rfl ha o4 ?_
   refine tag_no rfl ha r7w ?_
   refine tag_no rfl ha o5 ?_
   refine(ix_t (a:=a) (j:=1) rfl ha rfl ⟨_,rfl,_,rfl,sub t1 en wl Kw.refl alN g1 (by omega) e1 (fun w hw u' H3 vu w3 k3=>?_) (fun C hC ea H3 k3=>q2 C (by cases r1 with|val v=>cases hC|_=>cases he;exact hC) ea H3 k3)⟩)
   subst hw
   dsimp only at he
   have ha3:=wl.tps k3 _ _ ha
   have en3:EnvL H3 (Al N H H3) od env:=(wl.env k3 en).wide alN
   cases e2:ev most S m d tb env c1 with
   |none=>rw[e2]at he;cases he
   |some rc2=>
    obtain⟨r2,c2⟩:=rc2
    rw[e2]at he
    refine(ix_t (a:=a) (j:=2) rfl ha3 rfl ⟨_,rfl,_,rfl,raw (t2.tps (wl.tps k3)) en3 w3 g2 (by omega) e2 (fun w' hw' u2 H4 vu2 w4 k4=>?_) (fun C hC ea H4 k4=>q2 C (by cases r2 with|val v=>cases hC|_=>cases he;exact hC) ea H4 (k3.trans k4))⟩)
    subst hw'
    have k04:=k3.trans k4
    have ha4:=wl.tps k04 _ _ ha
    refine tag_yes rfl ha4 fun nx=>?_
    cases hcv:callV w with
    |none=>rw[hcv]at he;cases he
    |some be=>
     obtain⟨body,env'⟩:=be
     rw[hcv]at he
     dsimp only at he
     have vu4:VlL (Al (Al N H H3) H3 H4) H4 u' w:=(w3.val k4 vu).wide fun b hb=>.inl hb
     have st:=Al.step (N:=N) (H:=H) (H1:=H3) (H2:=H4) (N1:=Al N H H3) (fun b hb=>hb) k3 k4 wl.there w3.there
     refine⟨_,rfl,_,rfl,_,rfl,u',u2,wd,ls,_,w,body,env',w',c2,d,most,S,r,c',rfl,vu4,hcv,vu2,w4,hde,he,fun w5 hw5 u5 H5 vu5 wl5 k5=>?_,fun C hC ea H5 k5=>q2 C hC ea H5 (k04.trans k5)⟩
     have st5:=Al.step (N:=N) (H:=H) (H1:=H4) (H2:=H5) st k04 k5 wl.there w4.there
     exact q1 w5 hw5 u5 H5 (vu5.wide st5) (wl5.al st5 wl.there wl.nw wl.ex (k04.trans k5)) (k04.trans k5)
 |@ring a t x ts bs u b ha ht t1 t2=>
  obtain⟨hx,hb5,gl,gb⟩:=gt
  simp only[dep]at l39
  have dm1:=Nat.le_max_left (depL bs) (dep b)
  have dm2:=Nat.le_max_right (depL bs) (dep b)
  generalize max (depL bs) (dep b)=Dm at l39 dm1 dm2
  unfold ev at he
  refine tag_no rfl ha r1w ?_
  refine tag_no rfl ha r2w ?_
  refine tag_no rfl ha r3w ?_
  refine tag_no rfl ha r4w ?_
  refine tag_no rfl ha r5w ?_
  refine tag_yes rfl ha fun nx=>?_
  obtain⟨kvs,vs,hod,nod,lk,vk,vls⟩:=id en
  have lvs:=vls.len
  have lts:=t1.len
  refine⟨_,rfl,od,kvs,rfl,hod,fun dd hdd=>?_⟩
  have s2:=same_new hdd (.dK kvs)
  have hdd2:(upd H dd (.dK kvs)) dd=some (.dK kvs):=upd_same
  have ndd:dd≠wd:=by
   obtain⟨kv,hwd,_⟩:=wl.dk
   exact ne_of_none' hdd hwd
  revert s2 hdd2
  generalize upd H dd (.dK kvs)=H2
  intro s2 hdd2
  have k2:Kw wd H H2:=kw_same s2
  have w2:=wl.same s2
  refine(ix_t (a:=a) (j:=1) rfl (s2 _ _ ha) rfl ⟨t,rfl,⟨_,SqT.of (s2 _ _ ht)⟩,?_⟩)
  refine for_tup (xs:=ts) (fun i σ H'=>∃(o4 o5 o6:Option V) (rs:List Addr) (kv:List (Key×V)),σ=[some (.ref a),some (.ref od),some (.ref wd),some (.ref dd),o4,o5,o6,none,none,none]∧rs.length=i∧H' dd=some (.dK kv)∧kv.length≤(vs++rs.map V.ref).length∧
   (∀j,j<150→valV kv (Sum.inr (nmS j))=(vs++rs.map V.ref)[j]?)∧(∀b o,H b=some o→H' b=some o)∧∀(j:Nat) (r':Addr) (b:Tm),rs[j]?=some r'→bs[j]?=some b→∃bv,H' r'=some (.tup [.str "fn", .str (nmS (x+bs.length)),bv, .ref dd])∧TmL H bv b) ⟨none,none,none,[],kvs,rfl,rfl,hdd2,by simpa using lk,by simpa using vk,s2,fun j r' b e=>by simp at e⟩ ?_ ?_ ?_
  ·rintro i σ H' hi ⟨o4,o5,o6,rs,kv,rfl,_,_,_,_,ke,_⟩
   exact SqT.of (ke _ _ ht)
  ·rintro i y σ H' hy ⟨o4,o5,o6,rs,kv,rfl,rfl,hk1,hk2,hk3,ke,g⟩
   have lib:rs.length<bs.length:=by have:=(List.getElem?_eq_some_iff.mp hy).1;omega
   obtain⟨p,bv,e1,e2,e3⟩:=t1.get (List.getElem?_eq_getElem lib)
   rw[e1]at hy
   cases hy
   have lvr:(vs++rs.map V.ref).length=x+rs.length:=by rw[List.length_append,List.length_map,lvs,hx]
   refine⟨p,_,rfl,SqT.of (ke _ _ e2),rfl,_,_,rfl,_,_,rfl,_,_,rfl,rfl,?_⟩
   refine⟨_,rfl,_,rfl,_,rfl,small (by show 4≤1000000;decide),fun q hq=>?_⟩
   have s3:=same_new hq (.tup [.str "fn", .str (nmS (x+bs.length)),bv, .ref dd])
   have hq3:(upd H' q (.tup [.str "fn", .str (nmS (x+bs.length)),bv, .ref dd])) q=some (.tup [.str "fn", .str (nmS (x+bs.length)),bv, .ref dd]):=upd_same
   revert s3 hq3
   generalize upd H' q (.tup [.str "fn", .str (nmS (x+bs.length)),bv, .ref dd])=H3
   intro s3 hq3
   refine⟨_,rfl,_,rfl,dd,_,rfl,DPut.k (k:=Sum.inr (nmS (x+rs.length))) (s3 _ _ hk1) (small' (by omega)),?_⟩
   obtain⟨m1',m2'⟩:=envk_more (v:=V.ref q) hk2 hk3 (by rw[lvr];omega)
   rw[lvr]at m1' m2'
   have nqd:q≠dd:=ne_of_none' hq hk1
   refine⟨_,_,_,rs++[q],_,rfl,by simp,upd_same,by rw[List.map_append,←List.append_assoc];exact m1',by rw[List.map_append,←List.append_assoc];exact m2',fun b o h=>by rw[upd_ne (ne_of_none h hdd)];exact s3 _ _ (ke _ _ h),fun j r' b' hj hb'=>?_⟩
   by_cases lj:j<rs.length
   ·rw[List.getElem?_append_left lj]at hj
    obtain⟨bv',f1,f2⟩:=g j r' b' hj hb'
    exact⟨bv',by rw[upd_ne (ne_of f1 hk1 (by intro z;cases z))];exact s3 _ _ f1,f2⟩
   ·have ej:j=rs.length:=by
     have:=(List.getElem?_eq_some_iff.mp hj).1
     simp at this;omega
    subst ej
    simp at hj
    subst hj
    rw[List.getElem?_eq_getElem lib]at hb'
    cases hb'
    exact⟨bv,by rw[upd_ne nqd];exact hq3,e3⟩
  ·rintro σ H5 ⟨o4,o5,o6,rs,kv,rfl,lrs,hk1,hk2,hk3,ke,g⟩
   rw[lts]at lrs
   have tp5:Tps H H5:=fun b ys h=>ke b _ h
   have k05:Kw wd H H5:=fun b o _ h=>ke b o h
   have kd5:∀b kvs',N b→H b=some (.dK kvs')→(N b∨b=dd)∧H5 b=some (.dK kvs'):=fun b kvs' n e=>⟨.inl n,ke b _ e⟩
   have vls5:VlLs (fun b=>N b∨b=dd) H5 vs env:=vls.mono tp5 kd5
   have w5:WdL H5 (fun b=>N b∨b=dd) wd ls c d most S:=(wl.same ke).wide (fun b hb=>.inl hb) (fun z=>z.elim wl.nw (fun e=>ndd e.symm)) (fun b hb=>by
    rcases hb with z|z
    ·exact(wl.same ke).ex b z
    ·subst z;rw[hk1];simp)
   have en5:EnvL H5 (fun b=>N b∨b=dd) dd (env++rgv x bs env):=by
    refine⟨kv,vs++rs.map V.ref,hk1, .inr rfl,hk2,hk3,vls5.app (VlLs.of (by rw[List.length_map,rgv_len,lrs]) fun j v' w' e1 e2=>?_)⟩
    rw[List.getElem?_map]at e1
    cases er:rs[j]? with
    |none=>rw[er]at e1;cases e1
    |some r'=>
     rw[er]at e1
     cases e1
     have lj:j<bs.length:=by have:=(List.getElem?_eq_some_iff.mp er).1;omega
     rw[rgv_at lj]at e2
     cases e2
     exact .rg lrs er (fun j r' b e1 e2=>by
      obtain⟨bv,f1,f2⟩:=g j r' b e1 e2
      exact⟨bv,f1,f2.tps tp5⟩) hk1 (.inr rfl) hk2 hk3 vls5 hx hb5 (by rw[hx];exact gl) (by omega)
   have sub5:∀b,(N b∨b=dd)→Al N H H5 b:=fun b hb=>by
    rcases hb with z|z
    ·exact .inl z
    ·subst z;exact .inr ⟨hdd,by rw[hk1];simp⟩
   have el:(env++rgv x bs env).length=env.length+bs.length:=by rw[List.length_append,rgv_len]
   refine(ix_t (a:=a) (j:=2) rfl (ke _ _ ha) rfl ⟨_,rfl,_,rfl,sub (t2.tps tp5) en5 w5 k05 sub5 (by rw[el];exact gb) (by rw[el];omega) he q1 q2⟩)
variable {fS fE:Addr}{gS gE:FuncData}
theorem work_all {bm bm':List Value}{newId B initId newId' B' initId':String}(F:Fun K "_law_worked" "_law_worked" s_work f fd)(bF:Binds K fd pWk [])(mF:mg "_law_worked"=some (.ref f))(mD:mg "dict"=none)(mI:mg "int"=none)
  (GS:FnOk P w K mg base (CXF P w) 1 fS gS ["_law_word","_law_left","_law_right"] (spSum CT)) (mS:mg "_law_summed"=some (.ref fS)) (kS:PySem.W.keepIn K (.ref fS)=true) (bS:Binds K gS ["_law_word","_law_left","_law_right"] [])
  (FE:Fun K "_law_entered" "_law_entered" s_ent fE gE) (mE:mg "_law_entered"=some (.ref fE)) (bE:Binds K gE pEn []) (O:OwnCls "TooLong" CTl bm newId mg base) (FB:ExcBaseFacts B newId initId bm) (O':OwnCls "TooDeep" CTd bm' newId' mg base) (FB':ExcBaseFacts B' newId' initId' bm'):
  ∀m e:Nat,FnOk P w K mg base (CXF P w) (m+e+1) f fd pWk (spWkN CT CTl CTd m e)
 |0,e=>⟨fun vs H Q E h=>h.elim,fun A outer s H args us vs Q E _ _ _ _ h=>h.elim⟩
 |m+1,e=>by
  have ih:=work_all F bF mF mD mI GS mS kS bS FE mE bE O FB O' FB' m e
  have ic:FnOk P w K mg base (CXF P w) (m+e) f fd pWk (spWkC CT CTl CTd m e):=by
   cases e with
   |zero=>exact⟨fun vs H Q E h=>h.elim,fun A outer s H args us vs Q E _ _ _ _ h=>h.elim⟩
   |succ e'=>exact work_all F bF mF mD mI GS mS kS bS FE mE bE O FB O' FB' m e'
  have:=ok_work F bF mF mD mI GS mS kS bS (ok_ent FE mD O FB O' FB' ic mF F.kp bF) mE FE.kp bE ih
  rw[show m+1+e+1=m+e+2 by omega]
  exact this
end
def StOk (H:Hp)(st:Addr):Prop:=∃a b:Int,H st=some (.lst [.int a, .int b])
def Grow (st:Addr)(H H':Hp):Prop:=(∀b o,b≠st→H b=some o→H' b=some o)∧StOk H' st
theorem Grow.refl {st:Addr}{H:Hp}(h:StOk H st):Grow st H H:=⟨fun _ _ _ e=>e,h⟩
theorem Grow.trans {st:Addr}{H H1 H2:Hp}(a:Grow st H H1)(b:Grow st H1 H2):Grow st H H2:=⟨fun c o hc e=>b.1 c o hc (a.1 c o hc e),b.2⟩
theorem Grow.ok {st:Addr}{H H':Hp}(a:Grow st H H'):StOk H' st:=a.2
theorem StOk.same {st:Addr}{H H':Hp}(h:StOk H st)(e:Same H H'):StOk H' st:=by
 obtain⟨a,b,h3⟩:=h
 exact⟨a,b,e _ _ h3⟩
theorem grow_same {st:Addr}{H H':Hp}(h:StOk H st)(e:Same H H'):Grow st H H':=⟨fun b o _ q=>e b o q,h.same e⟩
theorem grow_set {st:Addr}{H:Hp}{a b:Int}:Grow st H (upd H st (.lst [.int a, .int b])):=⟨fun c o hb e=>by rw[upd_ne hb];exact e,a,b,upd_same⟩
inductive CspNext (vs:List V)(H:Hp)(Q:VK)(E_:XK):Prop where
 |mk (st:Addr) (m:Int):vs=[.ref st, .int m]→StOk H st→0<m→m<1000000→(∀(d:Int) H',0≤d→d<m→Grow st H H'→Q (.int d) H')→CspNext vs H Q E_
def spNext:Sp:=CspNext
inductive CspCell (K:PySem.W.Frag)(vs:List V)(H:Hp)(Q:VK)(E_:XK):Prop where
 |mk (sc:Addr) (ns:List Int) (k:Nat):vs=[.ref sc, .int (k:Int)]→SqL K H sc (ns.map V.int)→(∀i:Int,Q (.int i) H)→CspCell K vs H Q E_
def spCell (K:PySem.W.Frag):Sp:=CspCell K
section
variable {P:Program}{w:World}{K:PySem.W.Frag}{mg:Str→Option Value}{base:Heap}{f:Addr}{fd:FuncData}
abbrev s_cell:Stmt:=top 48
abbrev s_next:Stmt:=top 50
theorem sc_cell:FnScope ["_law_script","_law_k"] ["_law_script","_law_k"] (defScope s_cell):=⟨rfl,rfl,rfl,by decide+kernel,rfl,by decide+kernel,by decide+kernel⟩
theorem sc_next:FnScope ["_law_state","_law_many","_law_digit"] ["_law_state","_law_many"] (defScope s_next):=⟨rfl,rfl,rfl,by decide+kernel,rfl,by decide+kernel,by decide+kernel⟩
theorem ok_cell (F:Fun K "_law_cell_at" "_law_cell_at" s_cell f fd)(ml:mg "len"=none):FnOk P w K mg base CX0 1 f fd ["_law_script","_law_k"] (spCell K):=by
 refine F.ok sc_cell (fun vs H Q E h=>?_) (fun cdv A outer s H vs Q E hr h=>?_)
 ·obtain⟨sc,ns,k,rfl,_⟩:=h
  rfl
 obtain⟨sc,ns,k,rfl,hs,q⟩:=h
 refine⟨_,pss_cons (ps_if (pt_cmpR op_lt (pv 1) (pe_callB (clen K) rfl ml PySem.boot_len (pa_cons (pv 0) pa_nil)) (nomark _)) (pss_one (ps_ret (pe_op op_mod (pe_ix (ixL K) (pv 0) (pv 1) (fun _ _=>rfl)) (pe_op op_pow pe_int pe_int)))) pss_nil) (pss_one (ps_ret pe_int)),?_⟩
 refine⟨_,rfl,_,rfl,sc,_,rfl, .inl hs,_,_,rfl,rfl,_,rfl,ite2 (fun c=>?_) (fun c=>q 0)⟩
 have c1:(k:Int)<((ns.map V.int).length:Nat):=of_decide_eq_true c
 rw[List.length_map]at c1
 have hk:k<ns.length:=by omega
 exact⟨_,rfl,_,rfl,sc,_,k, .int ns[k],rfl,rfl,hs,atI_nat (j:=k) (by rw[List.getElem?_map,List.getElem?_eq_getElem hk];rfl),10,60,rfl,rfl,⟨by decide,by decide,by decide⟩,_,_,rfl,rfl,(by show(0:Int)<10^60;decide),q _⟩
theorem ok_next (F:Fun K "_law_next" "_law_next" s_next f fd):FnOk P w K mg base CX0 1 f fd ["_law_state","_law_many"] spNext:=by
 refine F.ok sc_next (fun vs H Q E h=>?_) (fun cdv A outer s H vs Q E hr h=>?_)
 ·obtain⟨st,m,rfl,_⟩:=h
  rfl
 obtain⟨st,m,rfl,hs,m0,m1,q⟩:=h
 obtain⟨a,b,hst⟩:=id hs
 refine⟨_,pss_cons (ps_if (pt_cmpR op_gt (pe_ix (ixL K) (pv 0) pe_int (fun _ _=>rfl)) pe_int (nomark _))
   (pss_cons (ps_set (i:=2) sc_next.nd rfl (Or.inl rfl) (pe_op op_mod (pe_ix (ixL K) (pv 0) pe_int (fun _ _=>rfl)) (pv 1)))
   (pss_cons (ps_asg (pe_op op_fdiv (pe_ix (ixL K) (pv 0) pe_int (fun _ _=>rfl)) (pv 1)) (pg_sub (pv 0) pe_int set_list))
   (pss_one (ps_ret (pv 2))))) pss_nil)
  (pss_cons (ps_asg (pe_op op_mod (pe_op op_add (pe_op op_mul (pe_ix (ixL K) (pv 0) pe_int (fun _ _=>rfl)) pe_int) pe_int) pe_int) (pg_sub (pv 0) pe_int set_list))
  (pss_one (ps_ret (pe_op op_mod (pe_op op_fdiv (pe_ix (ixL K) (pv 0) pe_int (fun _ _=>rfl)) pe_int) (pv 1))))),?_⟩
 refine⟨_,rfl,st,_,0, .int a,rfl,rfl,SqL.of hst,atI_nat (j:=0) rfl,_,_,rfl,rfl,_,rfl,ite2 (fun c=>?_) (fun c=>?_)⟩
 ·refine⟨_,rfl,st,_,0, .int a,rfl,rfl,SqL.of hst,atI_nat (j:=0) rfl,_,rfl,a,m,rfl,rfl,m0,?_⟩
  refine⟨_,rfl,st,_,0, .int a,rfl,rfl,SqL.of hst,atI_nat (j:=0) rfl,_,rfl,a,m,rfl,rfl,⟨m0,by omega⟩,?_⟩
  refine⟨_,rfl,st,_,0,0,rfl,rfl,hst,rfl,?_⟩
  exact⟨_,rfl,q _ _ (Int.emod_nonneg _ (by omega)) (Int.emod_lt_of_pos _ m0) (grow_set (a:=a / m) (b:=b))⟩
 ·refine⟨_,rfl,st,_,1, .int b,rfl,rfl,SqL.of hst,atI_nat (j:=1) rfl,_,_,rfl,rfl, .inr ⟨by decide,by decide⟩,_,_,rfl,rfl,_,_,rfl,rfl,(by show(0:Int)<2305843009213693951;decide),?_⟩
  refine⟨_,rfl,st,_,1,1,rfl,rfl,hst,rfl,?_⟩
  refine⟨_,rfl,st,_,1,_,rfl,rfl,SqL.of upd_same,atI_nat (j:=1) rfl,_,_,rfl,rfl,⟨by decide,by decide⟩,_,rfl,_,m,rfl,rfl,m0,?_⟩
  exact q _ _ (Int.emod_nonneg _ (by omega)) (Int.emod_lt_of_pos _ m0) (grow_set (a:=a) (b:=_))
end
inductive CspDrawn (K:PySem.W.Frag)(vs:List V)(H:Hp)(Q:VK)(E_:XK):Prop where
 |mk (sc:Addr) (ns:List Int) (k s:Nat):vs=[.ref sc, .int (k:Int), .int (s:Int)]→SqL K H sc (ns.map V.int)→k≤1000→s≤1000→(∀(st:Addr) H',H st=none→StOk H' st→Same H H'→Q (.ref st) H')→CspDrawn K vs H Q E_
def spDrawn (K:PySem.W.Frag):Sp:=CspDrawn K
section
variable {P:Program}{w:World}{K:PySem.W.Frag}{mg:Str→Option Value}{base:Heap}{f:Addr}{fd:FuncData}
abbrev s_drawn:Stmt:=top 49
theorem sc_drawn:FnScope ["_law_script","_law_k","_law_salt","_law_cell","_law_mixed"] ["_law_script","_law_k","_law_salt"] (defScope s_drawn):=⟨rfl,rfl,rfl,by decide+kernel,rfl,by decide+kernel,by decide+kernel⟩
theorem ok_drawn (F:Fun K "_law_drawn" "_law_drawn" s_drawn f fd)(mI:mg "int"=none)(h1:Has P w K mg base 1 "_law_cell_at" ["_law_script","_law_k"] (spCell K)):FnOk P w K mg base CX0 2 f fd ["_law_script","_law_k","_law_salt"] (spDrawn K):=by
 refine F.ok sc_drawn (fun vs H Q E h=>?_) (fun cdv A outer s H vs Q E hr h=>?_)
 ·obtain⟨sc,ns,k,s',rfl,_⟩:=h
  rfl
 obtain⟨sc,ns,k,s',rfl,hs,k1,s1,q⟩:=h
 refine⟨_,pss_cons (ps_set (i:=3) sc_drawn.nd rfl (Or.inl rfl) (pcall h1 hr (by decide) rfl (pa_cons (pv 0) (pa_cons (pv 1) pa_nil))))
  (pss_cons (ps_set (i:=4) sc_drawn.nd rfl (Or.inl rfl) (pe_op op_mod (pe_op op_add (pe_op op_add (pe_op op_mul (pv 3) pe_int) (pe_op op_mul pe_int (pe_op op_add (pv 1) (pv 2)))) pe_int) pe_int))
  (pss_cons (ps_if (pt_cmpR op_eq (pe_op op_mod (pcall h1 hr (by decide) rfl (pa_cons (pv 0) (pa_cons pe_int pa_nil))) pe_int) pe_int (nomark _))
   (pss_one (ps_ret (pe_lst (pa_cons (pe_op op_fdiv (pv 3) (pe_op op_add pe_int (pe_callTy call_int1 rfl mI boot_int (pa_cons (pe_cmpR op_eq (pv 1) pe_int (nomark _)) pa_nil)))) (pa_cons (pv 4) pa_nil))))) pss_nil)
  (pss_one (ps_ret (pe_lst (pa_cons pe_int (pa_cons (pv 4) pa_nil))))))),?_⟩
 refine⟨_,rfl,_,rfl,sc,ns,k,rfl,hs,fun c=>?_⟩
 refine⟨_,rfl,_,_,rfl,rfl, .inr ⟨by decide,by decide⟩,_,rfl,_,rfl,_,_,rfl,rfl,_,_,rfl,rfl, .inl ⟨by decide,by decide⟩,_,_,rfl,rfl,_,_,rfl,rfl,_,_,rfl,rfl,(by show(0:Int)<2305843009213693951;decide),?_⟩
 refine⟨_,rfl,sc,ns,0,rfl,hs,fun c0=>⟨_,_,rfl,rfl,(by show(0:Int)<2;decide),rfl,_,rfl,ite2 (fun z=>?_) (fun z=>?_)⟩⟩
 ·refine⟨_,rfl,_,rfl,rfl, .inr ⟨_,rfl,_,_,rfl,rfl,_,_,rfl,rfl,?_,_,rfl,small (by show 2≤1000000;decide),fun st hst=>q st _ hst ⟨_,_,upd_same⟩ (same_new hst _)⟩⟩
  split<;>exact⟨by decide,by decide⟩
 ·exact⟨_,rfl,small (by show 2≤1000000;decide),fun st hst=>q st _ hst ⟨_,_,upd_same⟩ (same_new hst _)⟩
end
structure ClsG (mg:Str→Option Value)(CS CT CL CD A1 A2 A3 A4:Addr):Prop where
 iS:mg "Stuck"=some (.ref CS)
 iT:mg "TooGreat"=some (.ref CT)
 iL:mg "TooLong"=some (.ref CL)
 iD:mg "TooDeep"=some (.ref CD)
 i1:mg "NoText"=some (.ref A1)
 i2:mg "NoKind"=some (.ref A2)
 i3:mg "NoFace"=some (.ref A3)
 i4:mg "NoTie"=some (.ref A4)
 iV:mg "ValueError"=none
 iI:mg "isinstance"=none
structure ClsK (K:PySem.W.Frag)(C CS CT CL CD A1 A2 A3 A4:Addr)(bT bL bD:Bool):Prop where
 s:ExcCls K C
 kS:PySem.W.kitOne K (.ref C) (.ref CS)=some false
 kT:PySem.W.kitOne K (.ref C) (.ref CT)=some bT
 kL:PySem.W.kitOne K (.ref C) (.ref CL)=some bL
 kD:PySem.W.kitOne K (.ref C) (.ref CD)=some bD
 kV:PySem.W.kitOne K (.ref C) (.type "ValueError")=some true
 kN:PySem.W.kitAny K (.ref C) ([A1,A2,A3,A4].map Value.ref)=some false
inductive CspClass (CT CL CD:Addr)(vs:List V)(H:Hp)(Q:VK)(E_:XK):Prop where
 |mk (ea:Addr) (ob:Obj) (C:Addr) (nm:Str):vs=[.ref ea]→H ea=some (objO ea ob)→ob.cls=.ref C→((C=CT∧nm="TooGreat")∨(C=CL∧nm="TooLong")∨(C=CD∧nm="TooDeep"))→(∀H',Same H H'→Q (.str nm) H')→CspClass CT CL CD vs H Q E_
def spClass (CT CL CD:Addr):Sp:=CspClass CT CL CD
section
variable {P:Program}{w:World}{K:PySem.W.Frag}{mg:Str→Option Value}{base:Heap}{f:Addr}{fd:FuncData}{CT CS CL CD A1 A2 A3 A4:Addr}
abbrev s_class:Stmt:=top 58
theorem sc_class:FnScope ["_law_e","_law_words","_law_marks"] ["_law_e"] (defScope s_class):=⟨rfl,rfl,rfl,by decide+kernel,rfl,by decide+kernel,by decide+kernel⟩
theorem boot_VE:bootBuiltins "ValueError"=some (.type "ValueError"):=by decide+kernel
set_option maxHeartbeats 3000000 in
theorem ok_class (F:Fun K "_law_class" "_law_class" s_class f fd)(G:ClsG mg CS CT CL CD A1 A2 A3 A4)(ZT:ClsK K CT CS CT CL CD A1 A2 A3 A4 true false false)(ZL:ClsK K CL CS CT CL CD A1 A2 A3 A4 false true false)(ZD:ClsK K CD CS CT CL CD A1 A2 A3 A4 false false true):
  FnOkM P w K mg base 1 f fd ["_law_e"] (spClass CT CL CD):=by
 refine F.okM sc_class (fun vs H Q E h=>?_) (fun cdv A outer s H vs Q E hr h=>?_)
 ·obtain⟨ea,ob,C,nm,rfl,_⟩:=h
  rfl
 obtain⟨ea,ob,C,nm,rfl,he,hc,cs,q⟩:=h
 refine⟨_,pss_cons (ps_set (i:=1) sc_class.nd rfl (Or.inl rfl) (pe_lst (pa_cons pe_str pa_nil)))
  (pss_cons (ps_set (i:=2) sc_class.nd rfl (Or.inl rfl) (pe_lst (pa_cons (pe_callB call_isiE rfl G.iI boot_isinstance (pa_cons (pv 0) (pa_cons (pe_glob (v:=.ref CS) rfl G.iS rfl) pa_nil)))
   (pa_cons (pe_callB call_isiE rfl G.iI boot_isinstance (pa_cons (pv 0) (pa_cons (pe_glob (v:=.ref CT) rfl G.iT rfl) pa_nil)))
   (pa_cons (pe_callB call_isiE rfl G.iI boot_isinstance (pa_cons (pv 0) (pa_cons (pe_glob (v:=.ref CL) rfl G.iL rfl) pa_nil)))
   (pa_cons (pe_callB call_isiE rfl G.iI boot_isinstance (pa_cons (pv 0) (pa_cons (pe_glob (v:=.ref CD) rfl G.iD rfl) pa_nil))) pa_nil))))))
  (pss_cons (ps_if (PW.pt (pw_and (pt_cmpR op_eq (pe_bm PySem.F.plainAttrs_list PySem.F.slot_list_count PySem.F.type_list_count mt_countB (pv 2) (pa_cons pe_bl pa_nil)) pe_int (nomark _))
    (pw_and (pt_val (pe_callB call_isiT rfl G.iI boot_isinstance (pa_cons (pv 0) (pa_cons (pe_bltn (v:=.ty "ValueError") rfl G.iV boot_VE rfl) pa_nil))))
    (pw_and1 (pt_not (pt_val (pe_callB call_isiN rfl G.iI boot_isinstance (pa_cons (pv 0) (pa_cons (pe_tup (pa_cons (pe_glob (v:=.ref A1) rfl G.i1 rfl) (pa_cons (pe_glob (v:=.ref A2) rfl G.i2 rfl) (pa_cons (pe_glob (v:=.ref A3) rfl G.i3 rfl) (pa_cons (pe_glob (v:=.ref A4) rfl G.i4 rfl) pa_nil))))) pa_nil)))))))))
   (pss_one (ps_set (i:=1) sc_class.nd rfl (Or.inl rfl) (pe_lst (pa_cons (pe_ix (ixL K) (pe_lst (pa_cons pe_str (pa_cons pe_str (pa_cons pe_str (pa_cons pe_str pa_nil))))) (pe_bm PySem.F.plainAttrs_list PySem.F.slot_list_index PySem.F.type_list_index mt_indexB (pv 2) (pa_cons pe_bl pa_nil)) (fun _ _=>rfl)) pa_nil)))) pss_nil)
  (pss_one (ps_ret (pe_ix (ixL K) (pv 1) pe_int (fun _ _=>rfl)))))),?_⟩
 obtain⟨bT,bL,bD,n,Z,hcnt,hix,hlt,hnm⟩:∃(bT bL bD:Bool) (n:Nat),ClsK K C CS CT CL CD A1 A2 A3 A4 bT bL bD∧V.int (([false,bT,bL,bD]:List Bool).count true:Int)=V.int 1∧([false,bT,bL,bD]:List Bool)[n]?=some true∧(∀m,m<n→([false,bT,bL,bD]:List Bool)[m]?=some (!true))∧([V.str "Stuck",V.str "TooGreat",V.str "TooLong",V.str "TooDeep"]:List V)[n]?=some (.str nm):=by
  rcases cs with ⟨rfl,rfl⟩|⟨rfl,rfl⟩|⟨rfl,rfl⟩
  ·exact⟨true,false,false,1,ZT,rfl,rfl,(fun m hm=>match m,hm with|0,_=>rfl),rfl⟩
  ·exact⟨false,true,false,2,ZL,rfl,rfl,(fun m hm=>match m,hm with|0,_=>rfl|1,_=>rfl),rfl⟩
  ·exact⟨false,false,true,3,ZD,rfl,rfl,(fun m hm=>match m,hm with|0,_=>rfl|1,_=>rfl|2,_=>rfl),rfl⟩
 refine⟨small (by show 1≤1000000;decide),fun l1 h1=>?_⟩
 have e1:=same_new h1 (.lst [.str "no"])
 have c1:(upd H l1 (.lst [.str "no"])) l1=some (.lst [.str "no"]):=upd_same
 revert e1 c1
 generalize upd H l1 (.lst [.str "no"])=H1
 intro e1 c1
 have he1:=e1 _ _ he
 refine⟨_,rfl,ea,ob,C,CS,_,rfl,he1,hc,Z.s,Z.kS,_,rfl,ea,ob,C,CT,_,rfl,he1,hc,Z.s,Z.kT,_,rfl,ea,ob,C,CL,_,rfl,he1,hc,Z.s,Z.kL,_,rfl,ea,ob,C,CD,_,rfl,he1,hc,Z.s,Z.kD,small (by show 4≤1000000;decide),fun l2 h2=>?_⟩
 have e2:=same_new h2 (.lst [.bl false, .bl bT, .bl bL, .bl bD])
 have c2:(upd H1 l2 (.lst [.bl false, .bl bT, .bl bL, .bl bD])) l2=some (.lst ([false,bT,bL,bD].map V.bl)):=upd_same
 revert e2 c2
 generalize upd H1 l2 (.lst [.bl false, .bl bT, .bl bL, .bl bD])=H2
 intro e2 c2
 have he2:=e2 _ _ he1
 refine⟨_,rfl, .inl ⟨rfl,_,SqL.of c2⟩,l2,[false,bT,bL,bD],true,rfl,rfl,c2,rfl,_,rfl,ite2 (fun _=>⟨_,rfl,ea,ob,C,_,_,rfl,he2,hc,Z.s,Z.kV,true,rfl,iteT ⟨_,rfl,small (by show 4≤1000000;decide),fun tp htp=>?_⟩⟩) (fun z=>absurd (decide_eq_true hcnt) z)⟩
 have e3:=same_new htp (.tup [.ref A1, .ref A2, .ref A3, .ref A4])
 have c3:(upd H2 tp (.tup [.ref A1, .ref A2, .ref A3, .ref A4])) tp=some (.tup ([A1,A2,A3,A4].map V.ref)):=upd_same
 revert e3 c3
 generalize upd H2 tp (.tup [.ref A1, .ref A2, .ref A3, .ref A4])=H3
 intro e3 c3
 refine⟨ea,ob,C,tp,[A1,A2,A3,A4],_,rfl,e3 _ _ he2,hc,Z.s,c3,Z.kN,false,rfl,iteT ⟨small (by show 4≤1000000;decide),fun l3 h3=>?_⟩⟩
 have e4:=same_new h3 (.lst [.str "Stuck", .str "TooGreat", .str "TooLong", .str "TooDeep"])
 have c4:(upd H3 l3 (.lst [.str "Stuck", .str "TooGreat", .str "TooLong", .str "TooDeep"])) l3=some (.lst [.str "Stuck", .str "TooGreat", .str "TooLong", .str "TooDeep"]):=upd_same
 revert e4 c4
 generalize upd H3 l3 (.lst [.str "Stuck", .str "TooGreat", .str "TooLong", .str "TooDeep"])=H4
 intro e4 c4
 have c24:=e4 _ _ (e3 _ _ c2)
 refine⟨_,rfl, .inl ⟨rfl,_,SqL.of c24⟩,l2,[false,bT,bL,bD],true,n,rfl,rfl,c24,hix,hlt,l3,_,(n:Int), .str nm,rfl,rfl,SqL.of c4,atI_nat (j:=n) hnm,small (by show 1≤1000000;decide),fun l5 h5=>?_⟩
 have e5:=same_new h5 (.lst [.str nm])
 refine⟨_,rfl,l5,_,0, .str nm,rfl,rfl,SqL.of upd_same,atI_nat (j:=0) rfl,q _ ?_⟩
 exact Same.trans e1 (Same.trans e2 (Same.trans e3 (Same.trans e4 e5)))
end
def tChk:TS:=fun D σ H=>∃i:Int,σ[2]?=some (some (V.int i))∧D.nx σ H
def outV:Out→V
 |.num n=>.int n
 |.great=>.str "TooGreat"
 |.long=>.str "TooLong"
 |.deep=>.str "TooDeep"
inductive CspToldR (vs:List V)(H:Hp)(Q:VK)(E_:XK):Prop where
 |mk (c:Addr) (mv:V) (most:Int) (rvs:List V) (rows:List Rw) (out:Out) (n:Nat):vs=[.ref c,mv]→mv=.int most→H c=some (.tup rvs)→CodeL H rvs rows→runA most rows n A0=some out→(∀H',Same H H'→Q (outV out) H')→CspToldR vs H Q E_
def spToldR:Sp:=CspToldR
section
variable {P:Program}{w:World}{K:PySem.W.Frag}{mg:Str→Option Value}{base:Heap}{f:Addr}{fd:FuncData}{CT CX CS CL CD A1 A2 A3 A4:Addr}
abbrev s_told:Stmt:=top 70
abbrev nTold:List Str:=["_law_code_here","_law_most","_law_told_here","_law_e"]
theorem sc_told:FnScope nTold ["_law_code_here","_law_most"] (defScope s_told):=⟨rfl,rfl,rfl,by decide+kernel,rfl,by decide+kernel,by decide+kernel⟩
theorem delS {H H':Hp}{ea:Addr}{oe:Obj}(n:H ea=none)(s:Same (upd H ea (objO ea oe)) H'):Same H (del H' ea):=fun b o h=>by
 have nb:b≠ea:=fun z=>by rw[z,n]at h;cases h
 rw[del_ne nb]
 exact s b o (by rw[upd_ne nb];exact h)
def flown (CT CL CD:Addr)(Cv:Value)(out:Out):Prop:=(Cv=.ref CT∧out=.great)∨(Cv=.ref CL∧out=.long)∨(Cv=.ref CD∧out=.deep)
set_option maxHeartbeats 1000000 in
theorem ok_told {fD fC:Addr}{gD gC:FuncData}(F:Fun K "_law_told" "_law_told" s_told f fd)(mi:mg "isinstance"=none)(mI:mg "int"=none)(mB:mg "bool"=none)(mF:mg "FaceError"=some (.ref CX))(hcat:CatchOk base CT CX)(hcatL:CatchOk base CL CX)(hcatD:CatchOk base CD CX)
  (GD:FnOk P w K mg base (CXF P w) 5 fD gD ["code","most"] (spDone CT CL CD)) (mD:mg "done"=some (.ref fD)) (kD:PySem.W.keepIn K (.ref fD)=true) (bD:Binds K gD ["code","most"] [])
  (GC:FnOkM P w K mg base 1 fC gC ["_law_e"] (spClass CT CL CD)) (mC:mg "_law_class"=some (.ref fC)) (kC:PySem.W.keepIn K (.ref fC)=true) (bC:Binds K gC ["_law_e"] []):
  FnOk P w K mg base CX0 6 f fd ["_law_code_here","_law_most"] spToldR:=by
 refine F.ok sc_told (fun vs H Q E h=>?_) (fun cdv A outer s H vs Q E hr h=>?_)
 ·obtain⟨c,mv,most,rvs,rows,out,n,rfl,_⟩:=h
  rfl
 obtain⟨c,mv,most,rvs,rows,out,n,rfl,hmv,hc,cd,ex,q⟩:=h
 refine⟨_,pss_cons (ps_tryL (X:=(cxOf CX0 P w K mg base nTold "_law_told" (defScope s_told) f cdv A outer s H E).nox) (i:=3) (D:=CX) (EX:=fun σ Cv _ H'=>flown CT CL CD Cv out∧σ=[some (.ref c),some mv,none,none]∧Same H H')
   (ts:=fun ea C D σ H1=>∀oe:Obj,oe.cls=.ref C→tAsg (tCallE ea oe (spClass CT CL CD) (tCons (tVar 3) tNil)) (gName 2) D σ H1) rfl rfl rfl sc_told.nd rfl rfl rfl mF
   (fun σ C ea H' hE=>by
    obtain⟨z,_⟩:=hE
    rcases z with ⟨z,_⟩|⟨z,_⟩|⟨z,_⟩<;>cases z<;>assumption)
   (fun pins=>pss_cons (ps_set (i:=2) sc_told.nd rfl (Or.inl rfl) (pe_callTL (X:=(cxOf CX0 P w K mg base nTold "_law_told" (defScope s_told) f cdv A outer s H E).nox) rfl rfl rfl GD bD kD mD hr rfl (pa_cons (pv 0) (pa_cons (pv 1) pa_nil))))
    (pssW (t':=tChk) (pss_one (ps_if (PW.pt (pw_or (pt_not (pt_val (pe_callB call_isi rfl mi boot_isinstance (pa_cons (pv 2) (pa_cons (pe_bltn (v:=.ty "int") rfl mI boot_int rfl) pa_nil))))) (pw_or1 (pt_val (pe_callB call_isi rfl mi boot_isinstance (pa_cons (pv 2) (pa_cons (pe_bltn (v:=.ty "bool") rfl mB boot_bool' rfl) pa_nil)))))))
     (pss_one ps_never) pss_nil)) (fun D σ H1 ⟨i,hσ,qi⟩=>⟨_,hσ,_,_,_,_,rfl, .int i,kit_int K,true,rfl,iteF ⟨_,hσ,_,_,_,_,rfl, .int i,kit_bool K,false,rfl,iteF qi⟩⟩)))
   (fun ea C oe pins hp hoc nb=>pssW (pss_one (ps_set (i:=2) sc_told.nd rfl (Or.inl rfl) (pe_callX (ea:=ea) (oe:=oe) GC bC kC mC (Room.marked (hr.mono (by decide))) rfl (List.mem_append_right _ hp) nb (pa_cons (pv 3) pa_nil)))) fun D σ H1 hh=>hh oe hoc))
  (pss_one (ps_ret (pv 2))),?_⟩
 subst hmv
 refine⟨?_,?_⟩
 ·refine⟨_,rfl,_,rfl,c,most,rvs,rows,out,n,rfl,hc,cd,ex,fun i hn H' s'=>⟨i,rfl,_,rfl,?_⟩,fun hn ea H' s'=>⟨.inr (.inl ⟨rfl,hn⟩),rfl,s'⟩,fun hn ea H' s'=>⟨.inr (.inr ⟨rfl,hn⟩),rfl,s'⟩,fun hn ea H' s'=>⟨.inl ⟨rfl,hn⟩,rfl,s'⟩⟩
  subst hn
  exact q H' s'
 ·rintro σ' C ea H' ⟨hC,rfl,s'⟩ nea oe hoc
  rcases hC with ⟨z,rfl⟩|⟨z,rfl⟩|⟨z,rfl⟩
  ·cases z
   exact⟨_,rfl,fun n1=>⟨ea,oe,_,_,rfl,upd_same,hoc, .inl ⟨rfl,rfl⟩,fun H2 s2=>⟨s2 _ _ upd_same,_,rfl,q _ (Same.trans s' (delS nea s2))⟩⟩⟩
  ·cases z
   exact⟨_,rfl,fun n1=>⟨ea,oe,_,_,rfl,upd_same,hoc, .inr (.inl ⟨rfl,rfl⟩),fun H2 s2=>⟨s2 _ _ upd_same,_,rfl,q _ (Same.trans s' (delS nea s2))⟩⟩⟩
  ·cases z
   exact⟨_,rfl,fun n1=>⟨ea,oe,_,_,rfl,upd_same,hoc, .inr (.inr ⟨rfl,rfl⟩),fun H2 s2=>⟨s2 _ _ upd_same,_,rfl,q _ (Same.trans s' (delS nea s2))⟩⟩⟩
end
def wL (m:Int)(ls:Addr):List (Key×V):=[(Sum.inr "calls", .int 0),(Sum.inr "deep", .int 0),(Sum.inr "most", .int m),(Sum.inr "shared", .ref ls)]
theorem mergeW (a b c d:V):mergeK [] ([(Sum.inr "calls",a),(Sum.inr "deep",b),(Sum.inr "most",c),(Sum.inr "shared",d)]:List (Key×V))=([(Sum.inr "calls",a),(Sum.inr "deep",b),(Sum.inr "most",c),(Sum.inr "shared",d)]:List (Key×V)):=by
 obtain⟨h1,h2,h3,h4,h5,h6⟩:=wd_keys
 simp only[mergeK,putK,List.foldl_cons,List.foldl_nil,List.any_nil,List.any_cons,Bool.false_eq_true,if_false,List.nil_append,List.cons_append,decide_eq_false (ne4 h1),decide_eq_false (ne4 h2),decide_eq_false (ne4 h3),decide_eq_false (ne4 h4),decide_eq_false (ne4 h5),decide_eq_false (ne4 h6),decide_eq_false (ne4 (Ne.symm h1)),decide_eq_false (ne4 (Ne.symm h2)),decide_eq_false (ne4 (Ne.symm h3)),decide_eq_false (ne4 (Ne.symm h4)),decide_eq_false (ne4 (Ne.symm h5)),decide_eq_false (ne4 (Ne.symm h6)),Bool.or_false,Bool.false_or]
theorem wl_gets (m:Int)(ls:Addr):valV (wL m ls) (Sum.inr "calls")=some (.int 0)∧valV (wL m ls) (Sum.inr "deep")=some (.int 0)∧valV (wL m ls) (Sum.inr "most")=some (.int m)∧valV (wL m ls) (Sum.inr "shared")=some (.ref ls):=by
 obtain⟨h1,h2,h3,h4,h5,h6⟩:=wd_keys
 refine⟨?_,?_,?_,?_⟩<;>simp[valV,wL,List.find?_cons,h1,h2,h3,h4,h5,h6,Ne.symm h1,Ne.symm h2,Ne.symm h3,Ne.symm h4,Ne.symm h5,Ne.symm h6]
inductive CspDue (vs:List V)(H:Hp)(Q:VK)(E_:XK):Prop where
 |mk (lv:Addr) (v:V) (most:Int) (uvs:List V) (us:List Tm) (t:Tm) (r:Rs) (c':Nat):vs=[.ref lv,v, .int most]→H lv=some (.lst uvs)→AllL (TmL H) uvs us→(∀u∈us,Own u)→us.length≤20→TmL H v t→Own t→evAll most 143 us t [] 0=some (r,c')→(∀w,r=.val w→∃i,w=.num i)→(∀H',Same H H'→Q (outV (outR r)) H')→CspDue vs H Q E_
def spDue:Sp:=CspDue
def exDue (CT CTl CTd lv:Addr)(v:V)(most:Int)(H:Hp)(r:Rs):L2.St→XK:=fun σ Cv _ H'=>(∃C,Cv=.ref C∧outC CT CTl CTd r=some C)∧(∃(wd:Addr) (o4:Option V),σ=[some (.ref lv),some v,some (.int most),some (.ref wd),o4,none,none])∧Same H H'
theorem WdL.share {N:Addr→Prop}{wd ls:Addr}{H:Hp}{c d:Nat}{most:Int}{S:List Vl}(w:WdL H N wd ls c d most S){svs:List V}(h:H ls=some (.lst svs)){u:V}{x:Vl}(hv:VlL N H u x):WdL (upd H ls (.lst (svs++[u]))) N wd ls c d most (S++[x]):=by
 obtain⟨kvs,h1,g⟩:=w.dk
 obtain⟨svs',h2,r2⟩:=w.sh
 rw[h]at h2
 cases h2
 have tp:Tps H (upd H ls (.lst (svs++[u]))):=fun b ys e=>by rw[upd_ne (ne_of e h (by intro z;cases z))];exact e
 have kd:∀b kvs',N b→H b=some (.dK kvs')→N b∧(upd H ls (.lst (svs++[u]))) b=some (.dK kvs'):=fun b kvs' n e=>⟨n,by rw[upd_ne (ne_of e h (by intro z;cases z))];exact e⟩
 exact⟨⟨kvs,by rw[upd_ne (Ne.symm w.ne)];exact h1,g⟩,⟨_,upd_same,(r2.snoc hv).mono tp kd⟩,w.ne,w.nw,ex_upd w.ex⟩
theorem env_nil {H:Hp}{N:Addr→Prop}{d:Addr}(h:H d=some (.dK []))(n:N d):EnvL H N d []:=⟨[],[],h,n,Nat.le_refl _,fun j _=>by simp[valV], .nil⟩
section
variable {P:Program}{w:World}{K:PySem.W.Frag}{mg:Str→Option Value}{base:Heap}{f:Addr}{fd:FuncData}{CT CTl CTd CX:Addr}
abbrev s_due:Stmt:=top 62
abbrev nDue:List Str:=["_law_vals_here","_law_term","_law_most","_law_world","_law_one","_law_told_here","_law_e"]
theorem sc_due:FnScope nDue ["_law_vals_here","_law_term","_law_most"] (defScope s_due):=⟨rfl,rfl,rfl,by decide+kernel,rfl,by decide+kernel,by decide+kernel⟩
@[irreducible] def stD0:Stmt:=(defBody s_due).getD 0 (.Pass ⟨0,0,0,0⟩)
def restD:List Stmt:=(defBody s_due).drop 1
theorem bodyD:defBody s_due=stD0::restD:=by
 unfold stD0
 rfl
theorem hlocD:Loc (defScope s_due) "_law_world":=Or.inl rfl
def tD0:TS:=fun D σ H=>∃(lv:Addr) (v:V) (most:Int),σ=[some (.ref lv),some v,some (.int most),none,none,none,none]∧
 ∀(wd ls:Addr) H3,Same H H3→WdL H3 (fun _=>False) wd ls 0 0 most []→H wd=none→H ls=none→D.nx [some (.ref lv),some v,some (.int most),some (.ref wd),none,none,none] H3
abbrev DX (P:Program)(w:World)(K:PySem.W.Frag)(mg:Str→Option Value)(base:Heap)(f:Addr)(cdv:Value)(A:Around)(outer:List Env)(s:Shared)(H:Hp)(E:XK):Cx:=(cxOf CX0 P w K mg base nDue "_law_due" (defScope s_due) f cdv A outer s H E).nox
theorem ps_stD0 {cdv:Value}{A:Around}{outer:List Env}{s:Shared}{H:Hp}{E:XK}:PSx (DX P w K mg base f cdv A outer s H E) stD0 tD0:=by
 unfold stD0
 refine x_weak (x_set (i:=3) (x:="_law_world") sc_due.nd rfl hlocD (x_disp (xp_cons x_ci (xp_cons x_ci (xp_cons (x_pv 2) (xp_cons (x_lst x_nil) xp_nil)))) rfl rfl (by simp) (by decide)) swaps_dict (.inl rfl)) ?_
 rintro D σ H ⟨lv,v,most,rfl,q⟩
 refine fun wd hwd=>?_
 refine⟨_,rfl,small (by show 0≤1000000;decide),fun lsh hlsh=>?_⟩
 have nls:lsh≠wd:=fun e=>by rw[e,upd_same]at hlsh;cases hlsh
 have hlsh0:H lsh=none:=(same_new hwd (.dK [])).free hlsh
 refine⟨by rw[upd_ne (Ne.symm nls)];exact upd_same,wL most lsh,rfl,(by show 4≤15;decide),?_⟩
 rw[show mergeK [] (wL most lsh)=wL most lsh from mergeW _ _ _ _]
 have hw1:(upd (upd (upd H wd (.dK [])) lsh (.lst [])) wd (.dK (wL most lsh))) wd=some (.dK (wL most lsh)):=upd_same
 have hl1:(upd (upd (upd H wd (.dK [])) lsh (.lst [])) wd (.dK (wL most lsh))) lsh=some (.lst []):=by rw[upd_ne nls];exact upd_same
 have s1:Same H (upd (upd (upd H wd (.dK [])) lsh (.lst [])) wd (.dK (wL most lsh))):=fun b o h=>by
  rw[upd_ne (ne_of_none h hwd),upd_ne (ne_of_none h hlsh0),upd_ne (ne_of_none h hwd)];exact h
 obtain⟨g1,g2,g3,g4⟩:=wl_gets most lsh
 exact q wd lsh _ s1 ⟨⟨_,hw1,(by show 4≤10;decide),g1,g2,g3,g4⟩,⟨[],hl1, .nil⟩,nls,fun z=>z,fun b z=>z.elim⟩ hwd hlsh0
@[irreducible] def stDT:Stmt:=(defBody s_due).getD 1 (.Pass ⟨0,0,0,0⟩)
def tryB:List Stmt:=match(defBody s_due).getD 1 (.Pass ⟨0,0,0,0⟩) with|.Try b _ _ _ _=>b|_=>[]
def DI (H:Hp)(lv:Addr)(v:V)(most:Int)(us:List Tm)(t:Tm)(r:Rs)(c':Nat)(i:Nat)(σ:L2.St)(H':Hp):Prop:=∃(wd ls:Addr) (N:Addr→Prop) (o4:Option V) (S:List Vl) (c:Nat),σ=[some (.ref lv),some v,some (.int most),some (.ref wd),o4,none,none]∧Same H H'∧H wd=none∧H ls=none∧WdL H' N wd ls c 0 most S∧S.length=i∧evAll most 143 (us.drop i) t S c=some (r,c')
def tLoop (H:Hp)(lv:Addr)(v:V)(most:Int)(us:List Tm)(t:Tm)(r:Rs)(c':Nat):TS:=fun D σ H1=>DI H lv v most us t r c' 0 σ H1∧∀σ' H2,DI H lv v most us t r c' us.length σ' H2→D.nx σ' H2
def tLast (H:Hp)(lv:Addr)(v:V)(most:Int)(us:List Tm)(t:Tm)(r:Rs)(c':Nat):TS:=fun D σ H1=>DI H lv v most us t r c' us.length σ H1∧∀(wd:Addr) (o4:Option V) (i:Int) H2,r=.val (.num i)→Same H H2→D.nx [some (.ref lv),some v,some (.int most),some (.ref wd),o4,some (.int i),none] H2
section
variable {cdv:Value}{A:Around}{outer:List Env}{s:Shared}{H H0:Hp}{E:XK}{lv fW:Addr}{gW:FuncData}{v:V}{most:Int}{uvs:List V}{us:List Tm}{t:Tm}{r:Rs}{c':Nat}
set_option maxHeartbeats 2000000 in
theorem ps_loop (pins:List (Addr×Obj))(hr:Room 154 (A.deeper (envOfC "_law_due" (defScope s_due) s.heap.objs.size f cdv)))
  (GW:FnOk P w K mg base (CXF P w) 154 fW gW pWk (spWk CT CTl CTd 143 10)) (mW:mg "_law_worked"=some (.ref fW)) (kW:PySem.W.keepIn K (.ref fW)=true) (bW:Binds K gW pWk [])
  (hlv:H lv=some (.lst uvs)) (au:AllL (TmL H) uvs us) (hus:∀u∈us,Own u) (l20:us.length≤20):
  PS (cxTry (DX P w K mg base f cdv A outer s H0 E) pins (LT (DX P w K mg base f cdv A outer s H0 E) pins (exDue CT CTl CTd lv v most H r))) (tryB.getD 0 (.Pass ⟨0,0,0,0⟩)) (tLoop H lv v most us t r c'):=by
 have hu:=hu_of hr
 refine psW (ps_forT rfl (piL K (pv 0)) (pg_name (i:=4) sc_due.nd rfl (Or.inl rfl)) (pss_one (ps_expr (pe_bm PySem.F.plainAttrs_list PySem.F.slot_list_append PySem.F.type_list_append mt_append (pe_dget hu (pv 3) pe_str (fun _ _=>rfl)) (pa_cons (pe_callTL (X:=DX P w K mg base f cdv A outer s H0 E) rfl rfl rfl GW bW kW mW hr rfl (pa_cons (pv 4) (pa_cons pe_dnewK (pa_cons (pv 3) pa_nil)))) pa_nil))))) ?_
 rintro D σ H1 ⟨hd0,hnx⟩
 have lus:=au.1
 rw[←lus]at hnx
 have hσ:σ[0]?=some (some (.ref lv))∧Same H H1:=by
  obtain⟨wd,ls,N,o4,S,c,rfl,s1,_⟩:=hd0
  exact⟨rfl,s1⟩
 refine⟨_,hσ.1,lv,rfl,⟨_,SqL.of (hσ.2 _ _ hlv)⟩,?_⟩
 refine for_list (xs:=uvs) (DI H lv v most us t r c') hd0 ?_ ?_ hnx
 ·rintro i σ H' _ ⟨wd,ls,N,o4,S,c,rfl,s1,_⟩
  exact SqL.of (s1 _ _ hlv)
 ·rintro i x σ H2 hx ⟨wd,ls,N,o4,S,c,rfl,s2,hwd0,hls0,wl,lS,he⟩
  have li:i<us.length:=by rw[←lus];exact(List.getElem?_eq_some_iff.mp hx).1
  obtain⟨x',hx',tx⟩:=au.2 i us[i] (List.getElem?_eq_getElem li)
  rw[hx]at hx'
  cases hx'
  have oi:=hus us[i] (List.getElem_mem li)
  rw[List.drop_eq_getElem_cons li]at he
  unfold evAll at he
  obtain⟨kvs,hwd,lk,g1,g2,g3,g4⟩:=wl.dk
  obtain⟨svs,hls,vs⟩:=wl.sh
  cases e1:ev most S 143 0 us[i] [] c with
  |none=>rw[e1]at he;cases he
  |some rc=>
   obtain⟨r1,c1⟩:=rc
   rw[e1]at he
   refine(dg_at rfl hwd g4 ⟨.inl ⟨rfl,_,SqL.of hls⟩,_,rfl,fun dd hdd=>?_⟩)
   have s3:=same_new hdd (.dK [])
   have hdd3:(upd H2 dd (.dK [])) dd=some (.dK []):=upd_same
   have ndd:dd≠wd:=ne_of_none' hdd hwd
   have w3:WdL (upd H2 dd (.dK [])) (fun b=>N b∨b=dd) wd ls c 0 most S:=(wl.same s3).wide (fun b hb=>.inl hb) (fun z=>z.elim wl.nw (fun e=>ndd e.symm)) (fun b hb=>by
    rcases hb with z|z
    ·exact(wl.same s3).ex b z
    ·subst z;rw[upd_same];simp)
   refine⟨_,rfl,x,dd,wd,ls,_,us[i],[],c,0,most,S,r1,c1,rfl,(tx.same s2).same s3,env_nil hdd3 (.inr rfl),w3,oi.1,by have:=oi.2;simp;omega,by decide,e1,fun w hw u H4 vu w4 k4=>?_,fun C hC ea H4 k4=>?_⟩
   ·subst hw
    dsimp only at he
    obtain⟨svs4,hls4,vs4⟩:=w4.sh
    have l4:=vs4.len
    refine⟨ls,svs4,u,rfl,rfl,hls4,small' (by omega),?_⟩
    have w5:=w4.share hls4 vu
    refine⟨wd,ls,_,_,S++[w],c1,rfl,fun b o h=>?_,hwd0,hls0,w5,by rw[List.length_append,lS];rfl,he⟩
    rw[upd_ne (ne_of_none h hls0)]
    exact k4 b o (ne_of_none h hwd0) (s3 b o (s2 b o h))
   ·have er:r=r1:=by cases r1 with|val v=>cases hC|_=>cases he;rfl
    subst er
    exact⟨⟨C,rfl,hC⟩,⟨wd,_,rfl⟩,fun b o h=>k4 b o (ne_of_none h hwd0) (s3 b o (s2 b o h))⟩
set_option maxHeartbeats 2000000 in
theorem ps_last (pins:List (Addr×Obj))(hr:Room 154 (A.deeper (envOfC "_law_due" (defScope s_due) s.heap.objs.size f cdv)))
  (GW:FnOk P w K mg base (CXF P w) 154 fW gW pWk (spWk CT CTl CTd 143 10)) (mW:mg "_law_worked"=some (.ref fW)) (kW:PySem.W.keepIn K (.ref fW)=true) (bW:Binds K gW pWk [])
  (tl:TmL H v t) (ot:Own t) (hv:∀w,r=.val w→∃i,w=.num i):
  PS (cxTry (DX P w K mg base f cdv A outer s H0 E) pins (LT (DX P w K mg base f cdv A outer s H0 E) pins (exDue CT CTl CTd lv v most H r))) (tryB.getD 1 (.Pass ⟨0,0,0,0⟩)) (tLast H lv v most us t r c'):=by
 refine psW (ps_set (i:=5) sc_due.nd rfl (Or.inl rfl) (pe_callTL rfl rfl rfl GW bW kW mW hr rfl (pa_cons (pv 1) (pa_cons pe_dnewK (pa_cons (pv 3) pa_nil))))) ?_
 rintro D σ H2 ⟨⟨wd,ls,N,o4,S,c,rfl,s2,hwd0,hls0,wl,lS,he⟩,hnx⟩
 rw[List.drop_length]at he
 unfold evAll at he
 obtain⟨kvs,hwd,_⟩:=wl.dk
 refine⟨_,rfl,fun dd hdd=>?_⟩
 have s3:=same_new hdd (.dK [])
 have hdd3:(upd H2 dd (.dK [])) dd=some (.dK []):=upd_same
 have ndd:dd≠wd:=ne_of_none' hdd hwd
 have w3:WdL (upd H2 dd (.dK [])) (fun b=>N b∨b=dd) wd ls c 0 most S:=(wl.same s3).wide (fun b hb=>.inl hb) (fun z=>z.elim wl.nw (fun e=>ndd e.symm)) (fun b hb=>by
  rcases hb with z|z
  ·exact(wl.same s3).ex b z
  ·subst z;rw[upd_same];simp)
 refine⟨_,rfl,v,dd,wd,ls,_,t,[],c,0,most,S,r,c',rfl,(tl.same s2).same s3,env_nil hdd3 (.inr rfl),w3,ot.1,by have:=ot.2;simp;omega,by decide,he,fun w hw u H4 vu w4 k4=>?_,fun C hC ea H4 k4=>?_⟩
 ·obtain⟨i,rfl⟩:=hv w hw
  cases vu
  exact hnx wd _ i H4 hw fun b o h=>k4 b o (ne_of_none h hwd0) (s3 b o (s2 b o h))
 ·exact⟨⟨C,rfl,hC⟩,⟨wd,_,rfl⟩,fun b o h=>k4 b o (ne_of_none h hwd0) (s3 b o (s2 b o h))⟩
end
set_option maxHeartbeats 4000000 in
theorem ok_due {fW fC:Addr}{gW gC:FuncData}(F:Fun K "_law_due" "_law_due" s_due f fd)(mF:mg "FaceError"=some (.ref CX))(hcat:CatchOk base CT CX)(hcatL:CatchOk base CTl CX)(hcatD:CatchOk base CTd CX)
  (GW:FnOk P w K mg base (CXF P w) 154 fW gW pWk (spWk CT CTl CTd 143 10)) (mW:mg "_law_worked"=some (.ref fW)) (kW:PySem.W.keepIn K (.ref fW)=true) (bW:Binds K gW pWk [])
  (GC:FnOkM P w K mg base 1 fC gC ["_law_e"] (spClass CT CTl CTd)) (mC:mg "_law_class"=some (.ref fC)) (kC:PySem.W.keepIn K (.ref fC)=true) (bC:Binds K gC ["_law_e"] []):
  FnOk P w K mg base CX0 155 f fd ["_law_vals_here","_law_term","_law_most"] spDue:=by
 refine F.ok sc_due (fun vs H Q E h=>?_) (fun cdv A outer s H vs Q E hr h=>?_)
 ·obtain⟨lv,v,most,uvs,us,t,r,c',rfl,_⟩:=h
  rfl
 obtain⟨lv,v,most,uvs,us,t,r,c',rfl,hlv,au,hus,l20,tl,ot,he,hv,q⟩:=h
 rw[bodyD]
 refine⟨_,pss_cons ps_stD0.h
  (pss_cons (ps_tryL (X:=(cxOf CX0 P w K mg base nDue "_law_due" (defScope s_due) f cdv A outer s H E).nox) (i:=6) (D:=CX) (EX:=exDue CT CTl CTd lv v most H r)
   (ts:=fun ea C D σ H1=>∀oe:Obj,oe.cls=.ref C→tAsg (tCallE ea oe (spClass CT CTl CTd) (tCons (tVar 6) tNil)) (gName 5) D σ H1) rfl rfl rfl sc_due.nd rfl rfl rfl mF
   (fun σ C ea H' hE=>by
    obtain⟨⟨C',z,hC⟩,_⟩:=hE
    cases z
    cases r with
    |val v=>cases hC
    |long=>cases hC;exact hcatL
    |deep=>cases hC;exact hcatD
    |great=>cases hC;exact hcat)
   (fun pins=>pss_cons (ps_loop (t:=t) (c':=c') pins hr GW mW kW bW hlv au hus l20) (pss_one (ps_last (us:=us) (c':=c') pins hr GW mW kW bW tl ot hv)))
   (fun ea C oe pins hp hoc nb=>pssW (pss_one (ps_set (i:=5) sc_due.nd rfl (Or.inl rfl) (pe_callX (ea:=ea) (oe:=oe) GC bC kC mC (Room.marked (hr.mono (by decide))) rfl (List.mem_append_right _ hp) nb (pa_cons (pv 6) pa_nil)))) fun D σ H1 hh=>hh oe hoc))
  (pss_one (ps_ret (pv 5)))),?_⟩
 refine⟨lv,v,most,rfl,fun wd ls H1 s1 w1 hwd hls=>?_⟩
 refine⟨⟨⟨wd,ls,_,none,[],0,rfl,s1,hwd,hls,w1,rfl,he⟩,fun σ' H2 di=>?_⟩,?_⟩
 ·refine⟨di,fun wd' o4 i H3 hr3 s3=>⟨_,rfl,?_⟩⟩
  have:=q H3 s3
  rw[hr3]at this
  exact this
 ·rintro σ' C ea H' ⟨⟨C',hC,ho⟩,⟨wd',o4,rfl⟩,s'⟩ nea oe hoc
  cases hC
  refine⟨_,rfl,fun n1=>?_⟩
  have fin:∀(nm:Str),V.str nm=outV (outR r)→∀H2,Same (upd H' ea (objO ea oe)) H2→Q (.str nm) (del H2 ea):=fun nm e H2 s2=>by
   rw[e]
   exact q _ (Same.trans s' (delS nea s2))
  cases r with
  |val v=>cases ho
  |long=>cases ho;exact⟨ea,oe,_,_,rfl,upd_same,hoc, .inr (.inl ⟨rfl,rfl⟩),fun H2 s2=>⟨s2 _ _ upd_same,_,rfl,fin _ rfl H2 s2⟩⟩
  |deep=>cases ho;exact⟨ea,oe,_,_,rfl,upd_same,hoc, .inr (.inr ⟨rfl,rfl⟩),fun H2 s2=>⟨s2 _ _ upd_same,_,rfl,fin _ rfl H2 s2⟩⟩
  |great=>cases ho;exact⟨ea,oe,_,_,rfl,upd_same,hoc, .inl ⟨rfl,rfl⟩,fun H2 s2=>⟨s2 _ _ upd_same,_,rfl,fin _ rfl H2 s2⟩⟩
end
inductive KdL (H:Hp):V→Kd→Prop where
 |n:KdL H (.str "n") .n
 |f {p:Addr} {a r:V} {ka kr:Kd}:H p=some (.tup [.str "f",a,r])→KdL H a ka→KdL H r kr→KdL H (.ref p) (.f ka kr)
theorem KdL.tps {H H':Hp}(e:Tps H H'):∀{v:V} {k:Kd},KdL H v k→KdL H' v k
 |_,_, .n=>.n
 |_,_, .f h a r=>.f (e _ _ h) (a.tps e) (r.tps e)
theorem KdL.same {H H':Hp}(e:Same H H'){v:V}{k:Kd}(h:KdL H v k):KdL H' v k:=h.tps fun b ys q=>e b _ q
def hk:Kd→Nat
 |.n=>0
 |.f a r=>max (hk a) (hk r)+1
theorem units_in1 (A:Around):A.in1.units=A.units+1:=rfl
theorem rc_kd {P:Program}{w:World}{H:Hp}{s:Shared}(ok:HOk P w H s.heap){A:Around}{p q:Addr}{a1 r1 a2 r2:V}{ka1 kr1 ka2 kr2:Kd}(hp:H p=some (.tup [.str "f",a1,r1]))(hq:H q=some (.tup [.str "f",a2,r2]))(hu:A.units<cLine)
  (ea:∀u v,RelV a1 u→RelV a2 v→SeqAt.EqAt A.in1 s u v (decide (ka1=ka2))) (er:∀u v,RelV r1 u→RelV r2 v→SeqAt.EqAt A.in1 s u v (decide (kr1=kr2))):SeqAt.RcAt A s (.ref p) (.ref q) (decide (Kd.f ka1 kr1=Kd.f ka2 kr2)):=by
 obtain⟨z1,its1,v1,p1⟩:=ok p _ hp
 obtain⟨z2,its2,v2,p2⟩:=ok q _ hq
 cases v1 with
 |@cons _ u11 _ _ x11 v1=>cases v1 with
  |@cons _ u12 _ _ x12 v1=>cases v1 with
   |@cons _ u13 _ _ x13 v1=>
    cases v1
    cases v2 with
    |@cons _ u21 _ _ x21 v2=>cases v2 with
     |@cons _ u22 _ _ x22 v2=>cases v2 with
      |@cons _ u23 _ _ x23 v2=>
       cases v2
       obtain⟨t1,rfl⟩:=x11
       obtain⟨t2,rfl⟩:=x21
       have q':=SeqAt.RcAt.tuples (A:=A) (s:=s) (e:=fun j=>if j=0 then true else if j=1 then decide (ka1=ka2) else decide (kr1=kr2)) (show s.heap.IsTuple p _ from p1) (show s.heap.IsTuple q _ from p2) hu fun j h1 h2=>?_
       ·have e:decide (Kd.f ka1 kr1=Kd.f ka2 kr2)=(decide (ka1=ka2)&&decide (kr1=kr2)):=by
         rw[Bool.eq_iff_iff,Bool.and_eq_true,decide_eq_true_iff,decide_eq_true_iff,decide_eq_true_iff]
         simp
        rw[e]
        have e2:((List.range (min (3:Nat) 3)).all (fun j=>if j=0 then true else if j=1 then decide (ka1=ka2) else decide (kr1=kr2))&&((3:Nat)==3))=(decide (ka1=ka2)&&decide (kr1=kr2)):=by
         simp[List.range,List.range.loop]
        rw[←e2]
        exact q'
       ·match j,h1,h2 with
        |0,_,_=>exact(by simpa using SeqAt.EqAt.str_str (A:=A.in1) (s:=s) "f" t1 "f" t2)
        |1,_,_=>exact ea _ _ x12 x22
        |2,_,_=>exact er _ _ x13 x23
theorem kd_inj {H:Hp}:∀{k k':Kd} {z:V},KdL H z k→KdL H z k'→k=k':=by
 intro k
 induction k with
 |n=>intro k' z x y;cases x;cases y;rfl
 |f a b iha ihb=>
  intro k' z x y
  cases x with
  |f g1 g2 g3=>cases y with
   |f g4 g5 g6=>
    rw[g1]at g4
    cases g4
    rw[iha g2 g5,ihb g3 g6]
theorem eq_kd {P:Program}{w:World}{H:Hp}{s:Shared}(ok:HOk P w H s.heap):∀{k1 k2:Kd} {x y:V},KdL H x k1→KdL H y k2→∀{A:Around} (u v:Value),RelV x u→RelV y v→A.units+hk k1+1<cLine→SeqAt.EqAt A s u v (decide (k1=k2)):=by
 intro k1
 induction k1 with
 |n=>
  intro k2 x y h1 h2 A u v ru rv hu
  cases h1
  obtain⟨t1,rfl⟩:=ru
  cases h2 with
  |n=>
   obtain⟨t2,rfl⟩:=rv
   exact(by simpa using SeqAt.EqAt.str_str (A:=A) (s:=s) "n" t1 "n" t2)
  |@f p _ _ _ _ h _ _=>
   cases rv
   obtain⟨z2,its2,v2,p2⟩:=ok p _ h
   rw[decide_eq_false (by intro z;cases z)]
   exact SeqAt.EqAt.str_tuple (A:=A) (s:=s) "n" t1 (show s.heap.IsTuple p its2.toArray from p2) (by omega)
 |f ka1 kr1 iha ihb=>
  intro k2 x y h1 h2 A u v ru rv hu
  cases h1 with
  |@f p _ _ _ _ h1 a1 r1=>
   cases ru
   cases h2 with
   |n=>
    obtain⟨t1,rfl⟩:=rv
    obtain⟨z2,its2,v2,p2⟩:=ok p _ h1
    rw[decide_eq_false (by intro z;cases z)]
    exact SeqAt.EqAt.tuple_str (A:=A) (s:=s) "n" t1 (show s.heap.IsTuple p its2.toArray from p2) (by omega)
   |@f q _ _ _ _ h2 a2 r2=>
    cases rv
    simp only[hk]at hu
    by_cases e:p=q
    ·subst e
     rw[h1]at h2
     cases h2
     rw[kd_inj a1 a2,kd_inj r1 r2,decide_eq_true rfl]
     exact SeqAt.EqAt.same _
    ·have i1:=units_in1 A
     exact SeqAt.EqAt.of_refs e (rc_kd ok h1 h2 (by omega) (fun u v ru rv=>iha a1 a2 u v ru rv (by omega)) (fun u v ru rv=>ihb r1 r2 u v ru rv (by omega)))
theorem op_eqK {X:Cx}(hu:X.A.units+64<cLine):OpR X (compareOp .Eq) (fun x y H Q=>∃k1 k2,KdL H x k1∧KdL H y k2∧hk k1≤60∧Q (.bl (decide (k1=k2))) H):=by
 intro pins s σ H x y v u Q I rx ry h
 obtain⟨k1,k2,r1,r2,h60,q⟩:=h
 cases r1 with
 |n=>cases r2 with
  |n=>exact op_eq pins s σ H _ _ v u Q I rx ry ⟨rfl,by rw[decide_eq_true rfl];rw[decide_eq_true rfl]at q;exact q⟩
  |@f p a r ka kr h a1 r1=>
   obtain⟨t1,rfl⟩:=rx
   cases ry
   obtain⟨z2,its2,v2,p2⟩:=I.hok p _ h
   rw[decide_eq_false (by intro z;cases z)]at q
   exact SeqAt.RcAt.str_tuple (A:=X.A) (s:=s) "n" t1 (show s.heap.IsTuple p its2.toArray from p2) (by omega) X.prog X.w _ _ ⟨.bl false,H,I,rfl,q⟩
 |@f p a r ka kr h a1 r1=>cases r2 with
  |n=>
   obtain⟨t1,rfl⟩:=ry
   cases rx
   obtain⟨z2,its2,v2,p2⟩:=I.hok p _ h
   rw[decide_eq_false (by intro z;cases z)]at q
   exact SeqAt.RcAt.tuple_str (A:=X.A) (s:=s) "n" t1 (show s.heap.IsTuple p its2.toArray from p2) (by omega) X.prog X.w _ _ ⟨.bl false,H,I,rfl,q⟩
  |@f p2 a2 r2 ka2 kr2 h2 a21 r21=>
   cases rx
   cases ry
   simp only[hk]at h60
   have i1:=units_in1 X.A
   have rc:=rc_kd (A:=X.A) I.hok h h2 (by omega) (fun u v ru rv=>eq_kd I.hok a1 a21 u v ru rv (by omega)) (fun u v ru rv=>eq_kd I.hok r1 r21 u v ru rv (by omega))
   exact rc X.prog X.w _ _ ⟨.bl _,H,I,rfl,q⟩
theorem op_neK {X:Cx}(hu:X.A.units+64<cLine):OpR X (compareOp .NotEq) (fun x y H Q=>∃k,KdL H x k∧y=.str "n"∧Q (.bl (decide (k≠.n))) H):=by
 intro pins s σ H x y v u Q I rx ry h
 obtain⟨k,r1,rfl,q⟩:=h
 cases r1 with
 |n=>exact op_ne pins s σ H _ _ v u Q I rx ry ⟨rfl,by rw[decide_eq_true rfl];simpa using q⟩
 |@f p a r ka kr h a1 r1=>
  obtain⟨t1,rfl⟩:=ry
  cases rx
  obtain⟨z2,its2,v2,p2⟩:=I.hok p _ h
  exact SeqAt.RcNeAt.tuple_str (A:=X.A) (s:=s) "n" t1 (show s.heap.IsTuple p its2.toArray from p2) (by omega) X.prog X.w _ _ ⟨.bl true,H,I,rfl,by simpa using q⟩
end Fw
namespace L2
open PySem PySem.Spec PyProof.Rows
theorem ps_lcM {X:Cx}{elt iter tg:Expr}{y:Str}{py pos pos0:Pos}{ifs:List Expr}{scope:Scope}{wi:TI}{g gy:TG}{tt:TT}{te:TE}(osc:Scope)(N:List Str)(M frees:List Str)(idx:List Nat)
  (hk:compOkM osc N frees idx scope=true) (hi:PI X tg iter wi) (hgy:PG X (.Name y py) gy) (hg:∀C s₀ H₀ ex,PG (cxComp X (M++frees) scope C s₀ H₀ ex) tg g)
  (ht:∀C s₀ H₀ ex,PTs (cxComp X (M++frees) scope C s₀ H₀ ex) ifs tt) (he:∀C s₀ H₀ ex,PE (cxComp X (M++frees) scope C s₀ H₀ ex) elt te)
  (hsw:swapsWith (.ListComp elt [⟨tg,iter,ifs,0⟩] scope pos) (some (.Name y py)) pos0.line X.env=pure true)
  (ho:X.env.scope=osc:=by rfl) (hN:X.N=N:=by rfl) (hc:X.calm=true:=by rfl) (hs:∀v,foldedSetIterable iter X.env v=pure v:=by intro _;rfl):
  PS X (.Assign [.Name y py] (.ListComp elt [⟨tg,iter,ifs,0⟩] scope pos) pos0) (tAsg (tCompM M.length idx wi g tt te) gy):=by
 obtain⟨S,fl⟩:=compOkM_scope (X:=X) hk ho hN
 exact ps_lcompM hc S fl hi hgy hg ht he hsw hs
theorem op_neE {X:Cx}(hu:X.A.units<cLine):OpR X (compareOp .NotEq) (fun x y H Q=>∃(a b:Addr) (xs:List V),x=.ref a∧y=.ref b∧H a=some (.lst xs)∧H b=some (.lst [])∧Q (.bl (decide (xs≠[]))) H):=by
 intro pins s σ H x y v u Q I rx ry h
 obtain⟨a,b,xs,rfl,rfl,ha,hb,q⟩:=h
 cases rx
 cases ry
 obtain⟨its,r,pl,hz⟩:=I.list (SqL.of (K:=X.K) ha)
 obtain⟨its2,r2,pl2,hz2⟩:=I.list (SqL.of (K:=X.K) hb)
 have l1:=r.length
 have l2:=r2.length
 cases xs with
 |nil=>
  have e1:its=[]:=List.length_eq_zero_iff.mp l1.symm
  have e2:its2=[]:=List.length_eq_zero_iff.mp l2.symm
  subst e1
  subst e2
  have q':=SeqAt.RcNeAt.lists (A:=X.A) (s:=s) (e:=fun _=>true) pl.isList pl2.isList rfl hu (fun j h1 h2=>by simp at h1) X.prog X.w
  exact q' _ _ ⟨.bl false,H,I,rfl,by simpa using q⟩
 |cons x xs=>
  exact SeqAt.RcNeAt.lists_lengths (A:=X.A) (s:=s) pl.isList pl2.isList (by simp at l1 l2 ⊢;omega) hu X.prog X.w _ _ ⟨.bl true,H,I,rfl,by simpa using q⟩
end L2
namespace Fw
open PySem PySem.Spec PyProof.Rows L2
theorem comp_enumM {H:Hp}{n:Nat}{a:Addr}{xs:List V}{g:TG}{tt:TT}{te:TE}{σ':L2.St}{Q:VK}(Pv:Nat→List V→Hp→Prop)(h0:Pv 0 [] H)(hl:∀i vs H,i≤xs.length→Pv i vs H→H a=some (.lst xs)∧vs.length<sizeLine)
  (hs:∀i x (tp:Addr) vs H2 (τ:L2.St),τ.length=n→i<xs.length→xs[i]?=some x→H2 tp=none→Pv i vs H2→g (.ref tp) (τ++σ') (upd H2 tp (.tup [.int (i:Int),x])) fun σ1 H3=>(∃τ':L2.St,σ1=τ'++σ'∧τ'.length=n)∧tt σ1 H3 fun b H4=>if b=true then te σ1 H4 fun v H5=>Nx xs.length i (Pv (i+1) (vs++[v]) H5) else Nx xs.length i (Pv (i+1) vs H4))
  (hd:∀vs H2,Pv xs.length vs H2→∀l,H2 l=none→Q (.ref l) (upd H2 l (.lst vs))):CompWM n (Iel a) g tt te σ' Q H:=by
 refine⟨fun i m vs H=>m=xs.length-i∧i≤xs.length∧Pv i vs H,⟨xs.length,by simp,Nat.zero_le _,h0⟩,?_⟩
 rintro i m vs H2 ⟨rfl,hi,p⟩
 obtain⟨q1,q2⟩:=hl i vs H2 hi p
 refine⟨q2,?_⟩
 by_cases hlt:i<xs.length
 ·refine .inr ⟨⟨xs,xs[i],q1,by simp[hlt]⟩,?_⟩
  rintro τ x H3 lτ ⟨tp,ys,y,e1,hx,hT,rfl,rfl⟩
  rw[q1]at e1
  cases e1
  exact hs i y tp vs _ τ lτ hlt hx hT p
 ·have e:i=xs.length:=by omega
  subst e
  exact .inl ⟨⟨xs,q1,rfl⟩,hd vs H2 p⟩
theorem grow_tps {st:Addr}{H H':Hp}(ok:StOk H st)(g:Grow st H H'):Tps H H':=fun b ys h=>by
 obtain⟨x,y,hs⟩:=ok
 exact g.1 b _ (ne_of h hs (by intro z;cases z)) h
def rsk:Kd→Nat
 |.n=>0
 |.f _ r=>rsk r+1
def OwL (H:Hp)(lo:Addr)(G:List Kd):Prop:=∃ovs:List V,H lo=some (.lst ovs)∧ovs.length=G.length∧∀(i:Nat) k,G[i]?=some k→∃(p:Addr) (kv:V),ovs[i]?=some (.ref p)∧H p=some (.tup [.str (nmS i),kv])∧KdL H kv k
def ShL (H:Hp)(ls:Addr)(SK:List Kd):Prop:=∃svs:List V,H ls=some (.lst svs)∧AllL (KdL H) svs SK
structure Cn (H:Hp)(st lo ls:Addr)(G SK:List Kd):Prop where
 ok:StOk H st
 ow:OwL H lo G
 sh:ShL H ls SK
 no:lo≠st
 ns:ls≠st
 hg:∀k∈G,hk k≤30
 hs:∀k∈SK,hk k≤30
 lg:G.length≤30
 ll:SK.length≤20
theorem Cn.grow {H H':Hp}{st lo ls:Addr}{G SK:List Kd}(c:Cn H st lo ls G SK)(g:Grow st H H'):Cn H' st lo ls G SK:=by
 have tp:=grow_tps c.ok g
 obtain⟨ovs,h1,l1,a1⟩:=c.ow
 obtain⟨svs,h2,a2⟩:=c.sh
 refine⟨g.ok,⟨ovs,g.1 _ _ c.no h1,l1,fun i k hk=>?_⟩,⟨svs,g.1 _ _ c.ns h2,a2.mono fun v k=>KdL.tps tp⟩,c.no,c.ns,c.hg,c.hs,c.lg,c.ll⟩
 obtain⟨p,kv,x1,x2,x3⟩:=a1 i k hk
 exact⟨p,kv,x1,tp _ _ x2,x3.tps tp⟩
theorem Cn.more {H:Hp}{st lo ls lo2 p:Addr}{G SK:List Kd}{kv:V}{k:Kd}{ovs:List V}(c:Cn H st lo ls G SK)(ho:H lo=some (.lst ovs))(h2:H lo2=some (.lst (ovs++[.ref p])))(n2:lo2≠st)(hp:H p=some (.tup [.str (nmS G.length),kv]))(hk1:KdL H kv k)(h30:hk k≤30)(lg:G.length+1≤30):Cn H st lo2 ls (G++[k]) SK:=by
 obtain⟨ovs',h1,l1,a1⟩:=c.ow
 rw[ho]at h1
 cases h1
 refine⟨c.ok,⟨_,h2,by rw[List.length_append,List.length_append,l1];rfl,fun i k' hi=>?_⟩,c.sh,n2,c.ns,fun k' hk'=>?_,c.hs,by rw[List.length_append];exact lg,c.ll⟩
 ·by_cases z:i<G.length
  ·rw[List.getElem?_append_left z]at hi
   obtain⟨p',kv',x1,x2,x3⟩:=a1 i k' hi
   exact⟨p',kv',by rw[List.getElem?_append_left (by omega)];exact x1,x2,x3⟩
  ·have li:=(List.getElem?_eq_some_iff.mp hi).1
   rw[List.length_append]at li
   have ei:i=G.length:=by simp at li;omega
   subst ei
   simp at hi
   subst hi
   exact⟨p,kv,by rw[←l1];simp,hp,hk1⟩
 ·rcases List.mem_append.mp hk' with z|z
  ·exact c.hg k' z
  ·rw[List.mem_singleton]at z;subst z;exact h30
def spNumb:Sp:=fun vs H Q _=>∃st:Addr,vs=[.ref st]∧StOk H st∧∀(i:Int) H',In60b i=true→Grow st H H'→Q (.int i) H'
def spKind:Sp:=fun vs H Q _=>∃st:Addr,vs=[.ref st]∧StOk H st∧∀(v:V) (k:Kd) H',KdL H' v k→rsk k≤2→hk k≤2→Grow st H H'→Q v H'
section
variable {P:Program}{w:World}{K:PySem.W.Frag}{mg:Str→Option Value}{base:Heap}{f:Addr}{fd:FuncData}
abbrev s_numb:Stmt:=top 51
theorem sc_numb:FnScope ["_law_state","_law_number_here"] ["_law_state"] (defScope s_numb):=⟨rfl,rfl,rfl,by decide+kernel,rfl,by decide+kernel,by decide+kernel⟩
theorem ok_numb (F:Fun K "_law_number" "_law_number" s_numb f fd)(h1:Has P w K mg base 1 "_law_next" ["_law_state","_law_many"] spNext):FnOk P w K mg base CX0 2 f fd ["_law_state"] spNumb:=by
 refine F.ok sc_numb (fun vs H Q E h=>?_) (fun cdv A outer s H vs Q E hr h=>?_)
 ·obtain⟨st,rfl,_⟩:=h
  rfl
 obtain⟨st,rfl,ok,q⟩:=h
 refine⟨_,pss_cons (ps_set (i:=1) sc_numb.nd rfl (Or.inl rfl) (pe_op op_sub (pcall h1 hr (by decide) rfl (pa_cons (pv 0) (pa_cons pe_int pa_nil))) pe_int))
  (pss_cons (ps_if (pt_cmpR op_eq (pcall h1 hr (by decide) rfl (pa_cons (pv 0) (pa_cons pe_int pa_nil))) pe_int (nomark _))
   (pss_one (ps_ret (pe_op op_add (pe_op op_mulG (pv 1) (pe_op op_pow pe_int pe_int)) (pcall h1 hr (by decide) rfl (pa_cons (pv 0) (pa_cons pe_int pa_nil)))))) pss_nil)
  (pss_one (ps_ret (pv 1)))),?_⟩
 have eg:G60=10^60:=rfl
 have e28:(10:Int)^(28:Int).toNat=10000000000000000000000000000:=by decide
 refine⟨_,rfl,st,12,rfl,ok,by decide,by decide,fun d H1 d0 d1 g1=>⟨_,_,rfl,rfl,?_⟩⟩
 refine⟨_,rfl,st,12,rfl,g1.ok,by decide,by decide,fun e H2 e0 e1 g2=>⟨rfl,_,rfl,ite2 (fun c=>?_) (fun c=>?_)⟩⟩
 ·refine⟨_,rfl,10,28,rfl,rfl,⟨by decide,by decide,by decide⟩,_,_,rfl,rfl,?_,_,rfl,st,7,rfl,g2.ok,by decide,by decide,fun a H3 a0 a1 g3=>⟨_,_,rfl,rfl,?_⟩⟩
  ·rw[e28]
   exact mul_ok (by rw[eg];omega) (by rw[eg];omega) (by rw[eg];omega) (by rw[eg];omega)
  ·rw[e28]
   exact q _ H3 (in60.mpr ⟨by rw[eg];omega,by rw[eg];omega⟩) (g1.trans (g2.trans g3))
 ·exact⟨_,rfl,q _ H2 (in60.mpr ⟨by rw[eg];omega,by rw[eg];omega⟩) (g1.trans g2)⟩
abbrev s_kind:Stmt:=top 52
abbrev nKi:List Str:=["_law_state","_law_some"]
theorem sc_kind:FnScope nKi ["_law_state"] (defScope s_kind):=⟨rfl,rfl,rfl,by decide+kernel,rfl,by decide+kernel,by decide+kernel⟩
@[irreducible] def stK1:Stmt:=(defBody s_kind).getD 1 (.Pass ⟨0,0,0,0⟩)
@[irreducible] def stK0:Stmt:=(defBody s_kind).getD 0 (.Pass ⟨0,0,0,0⟩)
def restK:List Stmt:=(defBody s_kind).drop 2
theorem bodyK:defBody s_kind=stK0::stK1::restK:=by
 unfold stK0 stK1
 rfl
theorem hlocK:Loc (defScope s_kind) "_law_some":=Or.inl rfl
def tK1:TS:=fun D σ H=>∃(st l0:Addr),σ=[some (.ref st),some (.ref l0)]∧H l0=some (.lst [.str "n"])∧
 ∀(l1 p1 p2 p3:Addr) H',Same H H'→H l1=none→H' l1=some (.lst [.str "n", .ref p1, .ref p3])→H' p1=some (.tup [.str "f", .str "n", .str "n"])→H' p2=some (.tup [.str "f", .str "n", .str "n"])→H' p3=some (.tup [.str "f", .str "n", .ref p2])→D.nx [some (.ref st),some (.ref l1)] H'
theorem ps_stK0 {cdv:Value}{A:Around}{outer:List Env}{s:Shared}{H:Hp}{E:XK}:PSx (cxOf CX0 P w K mg base nKi "_law_kind" (defScope s_kind) f cdv A outer s H E).nox stK0 (tAsg (tLst (tCons (tC (.str "n")) tNil)) (gName 1)):=by
 unfold stK0
 exact x_set (i:=1) (x:="_law_some") sc_kind.nd rfl hlocK (x_lst (x_str x_nil)) swaps_lst (.inl rfl)
theorem ps_stK1 {cdv:Value}{A:Around}{outer:List Env}{s:Shared}{H:Hp}{E:XK}:PSx (cxOf CX0 P w K mg base nKi "_law_kind" (defScope s_kind) f cdv A outer s H E).nox stK1 tK1:=by
 unfold stK1
 refine x_weak (x_set (i:=1) (x:="_law_some") sc_kind.nd rfl hlocK (x_op op_cat (x_pv 1) (x_lst (x_t (x_tup (x_str (x_str (x_str x_nil)))) (x_t (x_tup (x_str (x_str (x_t (x_tup (x_str (x_str (x_str x_nil)))) x_nil)))) x_nil)))) swaps_bin (.inl rfl)) ?_
 rintro D σ H ⟨st,l0,rfl,hl0,nxt⟩
 refine⟨_,rfl,small (by show 3≤1000000;decide),fun p1 hp1=>?_⟩
 have a1:=same_new hp1 (.tup [.str "f", .str "n", .str "n"])
 have b1:(upd H p1 (.tup [.str "f", .str "n", .str "n"])) p1=some (.tup [.str "f", .str "n", .str "n"]):=upd_same
 revert a1 b1
 generalize upd H p1 (.tup [.str "f", .str "n", .str "n"])=H1
 intro a1 b1
 refine⟨small (by show 3≤1000000;decide),fun p2 hp2=>?_⟩
 have a2:=same_new hp2 (.tup [.str "f", .str "n", .str "n"])
 have b2:(upd H1 p2 (.tup [.str "f", .str "n", .str "n"])) p2=some (.tup [.str "f", .str "n", .str "n"]):=upd_same
 revert a2 b2
 generalize upd H1 p2 (.tup [.str "f", .str "n", .str "n"])=H2
 intro a2 b2
 refine⟨small (by show 3≤1000000;decide),fun p3 hp3=>?_⟩
 have a3:=same_new hp3 (.tup [.str "f", .str "n", .ref p2])
 have b3:(upd H2 p3 (.tup [.str "f", .str "n", .ref p2])) p3=some (.tup [.str "f", .str "n", .ref p2]):=upd_same
 revert a3 b3
 generalize upd H2 p3 (.tup [.str "f", .str "n", .ref p2])=H3
 intro a3 b3
 refine⟨small (by show 2≤1000000;decide),fun l4 hl4=>?_⟩
 have a4:=same_new hl4 (.lst [.ref p1, .ref p3])
 have b4:(upd H3 l4 (.lst [.ref p1, .ref p3])) l4=some (.lst [.ref p1, .ref p3]):=upd_same
 revert a4 b4
 generalize upd H3 l4 (.lst [.ref p1, .ref p3])=H4
 intro a4 b4
 have s04:=a1.trans (a2.trans (a3.trans a4))
 refine⟨l0,l4,_,_,rfl,rfl,s04 _ _ hl0,b4,small (by show 1+2≤1000000;decide),fun l5 hl5=>?_⟩
 have a5:=same_new hl5 (.lst ([.str "n"]++[.ref p1, .ref p3]))
 exact nxt l5 p1 p2 p3 _ (s04.trans a5) (s04.free hl5) upd_same (a5 _ _ (a4 _ _ (a3 _ _ (a2 _ _ b1)))) (a5 _ _ (a4 _ _ (a3 _ _ b2))) (a5 _ _ (a4 _ _ b3))
theorem ok_kind (F:Fun K "_law_kind" "_law_kind" s_kind f fd)(ml:mg "len"=none)(h1:Has P w K mg base 1 "_law_next" ["_law_state","_law_many"] spNext):FnOk P w K mg base CX0 2 f fd ["_law_state"] spKind:=by
 refine F.ok sc_kind (fun vs H Q E h=>?_) (fun cdv A outer s H vs Q E hr h=>?_)
 ·obtain⟨st,rfl,_⟩:=h
  rfl
 obtain⟨st,rfl,ok,q⟩:=h
 rw[bodyK]
 refine⟨_,pss_cons ps_stK0.h (pss_cons ps_stK1.h (pss_one (ps_ret (pe_ix (ixL K) (pv 1) (pcall h1 hr (by decide) rfl (pa_cons (pv 0) (pa_cons (pe_callB (clen K) rfl ml PySem.boot_len (pa_cons (pv 1) pa_nil)) pa_nil))) (fun _ _=>rfl))))),?_⟩
 refine⟨small (by show 1≤1000000;decide),fun l0 hl0=>?_⟩
 have s0:=same_new hl0 (.lst [.str "n"])
 refine⟨st,l0,rfl,upd_same,fun l1 p1 p2 p3 H1 s1 hl1 e1 e2 e3 e4=>?_⟩
 have s01:=s0.trans s1
 have ok1:=ok.same s01
 have n1:l1≠st:=by
  obtain⟨x,y,hx⟩:=ok
  exact ne_of_none' hl1 (s0 _ _ hx)
 refine⟨_,rfl,_,rfl,_,rfl,l1,_,rfl, .inl (SqL.of e1),st,_,rfl,ok1,by show(0:Int)<3;decide,by show(3:Int)<1000000;decide,fun d H2 d0 d1 g2=>?_⟩
 have d1:d<3:=d1
 have tp:=grow_tps ok1 g2
 have g02:=(grow_same ok s01).trans g2
 obtain⟨dn,rfl⟩:∃n:Nat,d=(n:Int):=⟨d.toNat,(Int.toNat_of_nonneg d0).symm⟩
 have:dn=0∨dn=1∨dn=2:=by omega
 rcases this with rfl|rfl|rfl
 ·exact⟨l1,_,_,_,rfl,rfl,SqL.of (g2.1 _ _ n1 e1),atI_nat (j:=0) rfl,q _ .n _ .n (by decide) (by decide) g02⟩
 ·exact⟨l1,_,_,_,rfl,rfl,SqL.of (g2.1 _ _ n1 e1),atI_nat (j:=1) rfl,q _ (.f .n .n) _ (.f (tp _ _ e2) .n .n) (by decide) (by decide) g02⟩
 ·exact⟨l1,_,_,_,rfl,rfl,SqL.of (g2.1 _ _ n1 e1),atI_nat (j:=2) rfl,q _ (.f .n (.f .n .n)) _ (.f (tp _ _ e4) .n (.f (tp _ _ e3) .n .n)) (by decide) (by decide) g02⟩
end
theorem nd_no:((["_law_name","_law_other"]:List Str)++(["_law_kind_here"]:List Str)).Nodup:=by decide+kernel
theorem nd_ko:((["_law_k","_law_other"]:List Str)++(["_law_kind_here"]:List Str)).Nodup:=by decide+kernel
theorem len40:∀i:Nat,i≤40→(Str.ofString (toString ((i:Nat):Int))).length≤5:=by decide+kernel
theorem log_small {i:Int}(h1:0≤i)(h2:i≤1000):i.natAbs.log2<1920:=by
 by_cases z:i.natAbs=0
 ·rw[z];decide
 ·exact(Nat.log2_lt z).mpr (Nat.lt_of_le_of_lt (show i.natAbs≤1000 by omega) (by decide+kernel))
def Lf (H:Hp)(SK G:List Kd)(k:Kd)(v:V):Prop:=∃t,TmL H v t∧WT SK G t k∧dep t=0∧sz t=1
theorem Lf.same {H H':Hp}{SK G:List Kd}{k:Kd}{v:V}(h:Lf H SK G k v)(s:Same H H'):Lf H' SK G k v:=by
 obtain⟨t,h1,h2⟩:=h
 exact⟨t,h1.same s,h2⟩
theorem Lf.tps {H H':Hp}{SK G:List Kd}{k:Kd}{v:V}(h:Lf H SK G k v)(s:Tps H H'):Lf H' SK G k v:=by
 obtain⟨t,h1,h2⟩:=h
 exact⟨t,h1.tps s,h2⟩
inductive CspLeaf (n:Nat)(vs:List V)(H:Hp)(Q:VK)(E_:XK):Prop where
 |mk (st lo ls:Addr) (kv:V) (G SK:List Kd) (k:Kd):vs=[.ref st, .ref lo, .ref ls,kv]→Cn H st lo ls G SK→KdL H kv k→rsk k≤n→hk k≤30→G.length+rsk k≤30→(∀v t H',TmL H' v t→WT SK G t k→dep t≤rsk k→sz t≤rsk k+1→Grow st H H'→Q v H')→CspLeaf n vs H Q E_
def spLeaf (n:Nat):Sp:=CspLeaf n
def spLeafN:Nat→Sp
 |0=>fun _ _ _ _=>False
 |n+1=>spLeaf n
def tLfR (n:Nat):TS:=fun D σ H=>∃(st lo ls:Addr) (kv:V) (o4 o5:Option V) (G SK:List Kd) (k:Kd),σ=[some (.ref st),some (.ref lo),some (.ref ls),some kv,o4,o5]∧Cn H st lo ls G SK∧KdL H kv k∧rsk k≤n∧hk k≤30∧G.length+rsk k≤30∧
 ∀v t H',TmL H' v t→WT SK G t k→dep t≤rsk k→sz t≤rsk k+1→Grow st H H'→D.rt v H'
section
variable {P:Program}{w:World}{K:PySem.W.Frag}{mg:Str→Option Value}{base:Heap}{f:Addr}{fd:FuncData}
abbrev s_leaf:Stmt:=top 53
abbrev pLf:List Str:=["_law_state","_law_own_here","_law_shared","_law_kind_here"]
abbrev nLf:List Str:=["_law_state","_law_own_here","_law_shared","_law_kind_here","_law_some","_law_name"]
theorem sc_leaf:FnScope nLf pLf (defScope s_leaf):=⟨rfl,rfl,rfl,by decide+kernel,rfl,by decide+kernel,by decide+kernel⟩
set_option maxHeartbeats 4000000 in
theorem ok_leaf {n:Nat}(F:Fun K "_law_leaf" "_law_leaf" s_leaf f fd)(ml:mg "len"=none)(mE:mg "enumerate"=none)(ms:mg "str"=none)(h1:Has P w K mg base 1 "_law_next" ["_law_state","_law_many"] spNext)(h2:Has P w K mg base 2 "_law_number" ["_law_state"] spNumb)
  (h3:Has P w K mg base (2+n) "_law_leaf" pLf (spLeafN n)):FnOk P w K mg base CX0 (3+n) f fd pLf (spLeaf n):=by
 rw[show 3+n=(2+n)+1 by omega]
 refine F.ok sc_leaf (fun vs H Q E h=>?_) (fun cdv A outer s H vs Q E hr h=>?_)
 ·obtain⟨st,lo,ls,kv,G,SK,k,rfl,_⟩:=h
  rfl
 obtain⟨st,lo,ls,kv,G,SK,k,rfl,cn,hkv,hrs,h30,lG,q⟩:=h
 obtain⟨ovs,hlo,lov,aov⟩:=cn.ow
 obtain⟨svs,hls,asv⟩:=cn.sh
 have hu:=hr.units0
 have hu64:=hr.units
 have hz:=sizeLine_eq
 have lg:=cn.lg
 have lls:=cn.ll
 refine⟨_,pss_cons (ps_lcM (g:=gTup K 2 (gCons (gName 0) (gCons (gName 1) gNil))) (defScope s_leaf) nLf ["_law_name","_law_other"] ["_law_kind_here"] [3] (by decide+kernel) (piL K (pv 1)) (pg_name (i:=4) sc_leaf.nd rfl (Or.inl rfl))
   (fun C s₀ H₀ ex=>pgT K (n:=2) rfl (pgs_cons (pg_name (i:=0) nd_no rfl (Or.inl rfl) (Or.inr rfl)) (pgs_cons (pg_name (i:=1) nd_no rfl (Or.inl rfl) (Or.inr rfl)) pgs_nil)))
   (fun C s₀ H₀ ex=>pts_one (pt_cmpR (op_eqK hu64) (pv 1) (pv 2) (nomark _))) (fun C s₀ H₀ ex=>pe_tup (pa_cons pe_str (pa_cons (pv 0) pa_nil))) (by with_unfolding_all rfl))
  (pss_cons (ps_set (i:=4) sc_leaf.nd rfl (Or.inl rfl) (pe_op op_cat (pv 4) (pe_lcM (g:=gTup K 2 (gCons (gName 0) (gCons (gName 1) gNil))) (defScope s_leaf) nLf ["_law_k","_law_other"] ["_law_kind_here"] [3] (by decide+kernel) (pi_enumL rfl mE (pv 2))
   (fun C s₀ H₀ ex=>pgT K (n:=2) rfl (pgs_cons (pg_name (i:=0) nd_ko rfl (Or.inl rfl) (Or.inr rfl)) (pgs_cons (pg_name (i:=1) nd_ko rfl (Or.inl rfl) (Or.inr rfl)) pgs_nil)))
   (fun C s₀ H₀ ex=>pts_one (pt_cmpR (op_eqK hu64) (pv 1) (pv 2) (nomark _))) (fun C s₀ H₀ ex=>pe_tup (pa_cons pe_str (pa_cons (pv 0) pa_nil))))))
  (pss_cons (ps_if (PW.pt (pw_and (pt_cmpR (op_neE hu) (pv 4) (pe_lst pa_nil) (nomark _)) (pw_and1 (pt_cmpR op_gt (pcall h1 hr (by omega) rfl (pa_cons (pv 0) (pa_cons pe_int pa_nil))) pe_int (nomark _)))))
   (pss_one (ps_ret (pe_ix (ixL K) (pv 4) (pcall h1 hr (by omega) rfl (pa_cons (pv 0) (pa_cons (pe_callB (clen K) rfl ml PySem.boot_len (pa_cons (pv 4) pa_nil)) pa_nil))) (fun _ _=>rfl)))) pss_nil)
  (pssW (t':=tLfR n) (pss_cons (ps_if (pt_cmpR (op_neK hu64) (pv 3) pe_str (nomark _))
   (pss_cons (ps_set (i:=5) sc_leaf.nd rfl (Or.inl rfl) (pe_op op_add_str pe_str (pe_callTy call_str_int rfl ms boot_str (pa_cons (pe_callB (clen K) rfl ml PySem.boot_len (pa_cons (pv 1) pa_nil)) pa_nil))))
   (pss_one (ps_ret (pe_tup (pa_cons pe_str (pa_cons (pv 5) (pa_cons (pcall h3 hr (by omega) rfl (pa_cons (pv 0) (pa_cons (pe_op op_cat (pv 1) (pe_lst (pa_cons (pe_tup (pa_cons (pv 5) (pa_cons (pe_ix (ixT K) (pv 3) pe_int (fun _ _=>rfl)) pa_nil))) pa_nil))) (pa_cons (pv 2) (pa_cons (pe_ix (ixT K) (pv 3) pe_int (fun _ _=>rfl)) pa_nil))))) pa_nil))))))) pss_nil)
  (pss_one (ps_ret (pe_tup (pa_cons pe_str (pa_cons (pcall h2 hr (by omega) rfl (pa_cons (pv 0) pa_nil)) pa_nil)))))) ?qr))),?_⟩
 case qr=>
  rintro D σ H6 ⟨st,lo,ls,kv,o4,o5,G,SK,k,rfl,cn6,kv6,hrs,h30,lG,q⟩
  refine⟨_,rfl,k,kv6,rfl,_,rfl,ite2 (fun c=>?_) (fun c=>?_)⟩
  ·cases kv6 with
   |n=>exact absurd c (by decide)
   |@f p a r ka kr hp6 ka6 kr6=>
    simp only[rsk,hk]at hrs h30 lG
    obtain⟨ov6,hlo6,lov6,_⟩:=cn6.ow
    obtain⟨j,rfl⟩:∃j,n=j+1:=⟨n-1,by omega⟩
    refine⟨_,rfl,lo,_,rfl, .inl (SqL.of hlo6),?_⟩
    rw[lov6]
    have lx:=len40 G.length (by omega)
    refine⟨_,rfl,log_small (by omega) (by omega),"x",_,rfl,rfl,(by rw[show("x":Str).length=1 from by decide+kernel];omega),?_⟩
    rw[show("x"++(toString ((G.length:Nat):Int):Str):Str)=nmS G.length from rfl]
    refine⟨_,rfl,_,rfl,_,rfl,_,rfl,ix_t (a:=p) (j:=1) rfl hp6 rfl ⟨small (by show 2≤1000000;decide),fun p7 hp7=>?_⟩⟩
    have a7:=same_new hp7 (.tup [.str (nmS G.length),a])
    have b7:(upd H6 p7 (.tup [.str (nmS G.length),a])) p7=some (.tup [.str (nmS G.length),a]):=upd_same
    revert a7 b7
    generalize upd H6 p7 (.tup [.str (nmS G.length),a])=H7
    intro a7 b7
    refine⟨small (by show 1≤1000000;decide),fun l8 hl8=>?_⟩
    have a8:=same_new hl8 (.lst [.ref p7])
    have b8:(upd H7 l8 (.lst [.ref p7])) l8=some (.lst [.ref p7]):=upd_same
    revert a8 b8
    generalize upd H7 l8 (.lst [.ref p7])=H8
    intro a8 b8
    have s68:=a7.trans a8
    refine⟨lo,l8,_,_,rfl,rfl,s68 _ _ hlo6,b8,small (by show ov6.length+1≤1000000;omega),fun l9 hl9=>?_⟩
    have a9:=same_new hl9 (.lst (ov6++[.ref p7]))
    have b9:(upd H8 l9 (.lst (ov6++[.ref p7]))) l9=some (.lst (ov6++[.ref p7])):=upd_same
    have n9:l9≠st:=by
     obtain⟨x,y,hx⟩:=cn6.ok
     exact ne_of_none' hl9 (s68 _ _ hx)
    revert a9 b9
    generalize upd H8 l9 (.lst (ov6++[.ref p7]))=H9
    intro a9 b9
    have s69:=s68.trans a9
    have g9:=grow_same cn6.ok s69
    have cn9:Cn H9 st l9 ls (G++[ka]) SK:=(cn6.grow g9).more (s69 _ _ hlo6) b9 n9 (a9 _ _ (a8 _ _ b7)) (ka6.same s69) (by omega) (by omega)
    refine⟨_,rfl,ix_t (a:=p) (j:=2) rfl (s69 _ _ hp6) rfl ⟨st,l9,ls,r,G++[ka],SK,kr,rfl,cn9,kr6.same s69,by omega,by omega,by rw[List.length_append];simp;omega,fun v t H10 tl wt dt zt g10=>?_⟩⟩
    refine⟨small (by show 3≤1000000;decide),fun p11 hp11=>?_⟩
    have a11:=same_new hp11 (.tup [.str "fun", .str (nmS G.length),v])
    exact q _ (.fn G.length t) _ (.fn upd_same (tl.same a11)) ⟨rfl,ka,kr,rfl,wt⟩ (by simp only[dep,rsk];omega) (by simp only[sz,rsk];omega) (g9.trans (g10.trans (grow_same g10.ok a11)))
  ·have ck:k=.n:=by
    by_cases z:k=.n
    ·exact z
    ·exact absurd (decide_eq_true z) c
   subst ck
   refine⟨_,rfl,st,rfl,cn6.ok,fun i H8 hi g8=>⟨small (by show 2≤1000000;decide),fun pp hpp=>?_⟩⟩
   exact q _ (.n i) _ (.n upd_same) ⟨rfl,hi⟩ (Nat.zero_le _) (by simp[sz,rsk]) (g8.trans (grow_same g8.ok (same_new hpp _)))
 refine⟨_,rfl,lo,rfl,⟨_,SqL.of hlo⟩,comp_listM (n:=2) (xs:=ovs) (fun i vs H'=>Same H H'∧vs.length≤i∧∀v∈vs,Lf H' SK G k v) ⟨Same.refl _,Nat.le_refl _,fun v hv=>by simp at hv⟩ ?_ ?_ ?_⟩
 ·rintro i vs H' hi ⟨s1,l1,_⟩
  exact⟨SqL.of (s1 _ _ hlo),small' (by omega)⟩
 ·rintro i x vs H' τ lτ hi hx ⟨s1,l1,r1⟩
  have hiG:i<G.length:=by omega
  obtain⟨p,kv2,x1,x2,x3⟩:=aov i G[i] (List.getElem?_eq_getElem hiG)
  rw[hx]at x1
  cases x1
  have hg:=cn.hg G[i] (List.getElem_mem hiG)
  obtain⟨t1,t2,rfl⟩:=len2 lτ
  refine⟨p,_,rfl,SqT.of (s1 _ _ x2),rfl,_,_,rfl,_,[],rfl,rfl,⟨[some _,some _],rfl,rfl⟩,?_⟩
  refine⟨_,rfl,_,rfl,G[i],k,x3.same s1,hkv.same s1,by omega,_,rfl,ite2 (fun c=>?_) (fun c=>nx hi ⟨s1,by omega,r1⟩)⟩
  have ck:G[i]=k:=of_decide_eq_true c
  refine⟨_,rfl,small (by show 2≤1000000;decide),fun pp hpp=>?_⟩
  have s2:=same_new hpp (.tup [.str "v", .str (nmS i)])
  refine nx hi ⟨s1.trans s2,by rw[List.length_append];simp;omega,fun v hv=>?_⟩
  rcases List.mem_append.mp hv with z|z
  ·exact(r1 v z).same s2
  ·rw[List.mem_singleton]at z
   subst z
   exact⟨.v i, .v upd_same,by show G[i]?=some k;rw[List.getElem?_eq_getElem hiG,ck],rfl,rfl⟩
 rintro vs1 H1 ⟨s1,l1,r1⟩ l1a hl1
 have s2:=same_new hl1 (.lst vs1)
 have hl12:(upd H1 l1a (.lst vs1)) l1a=some (.lst vs1):=upd_same
 have r2:∀v∈vs1,Lf (upd H1 l1a (.lst vs1)) SK G k v:=fun v hv=>(r1 v hv).same s2
 revert s2 hl12 r2
 generalize upd H1 l1a (.lst vs1)=H2
 intro s2 hl12 r2
 have s02:=s1.trans s2
 have hls2:=s02 _ _ hls
 show tSeq _ _ _ [some (.ref st),some (.ref lo),some (.ref ls),some kv,some (.ref l1a),none] H2
 refine⟨_,rfl,_,rfl,ls,_,rfl,hls2,comp_enumM (n:=2) (xs:=svs) (fun i vs H'=>Same H2 H'∧vs.length≤i∧∀v∈vs,Lf H' SK G k v) ⟨Same.refl _,Nat.le_refl _,fun v hv=>by simp at hv⟩ ?_ ?_ ?_⟩
 ·rintro i vs H' hi ⟨s3,l3,r3⟩
  have:=asv.1
  exact⟨s3 _ _ hls2,small' (by omega)⟩
 ·rintro i x tp vs H' τ lτ hi hx htp ⟨s3,l3,r3⟩
  have hiS:i<SK.length:=by have:=asv.1;omega
  obtain⟨x',hx',kx⟩:=asv.2 i SK[i] (List.getElem?_eq_getElem hiS)
  rw[hx]at hx'
  cases hx'
  have hg:=cn.hs SK[i] (List.getElem_mem hiS)
  have s4:=same_new htp (.tup [.int (i:Int),x])
  have s04:=s02.trans (s3.trans s4)
  obtain⟨t1,t2,rfl⟩:=len2 lτ
  refine⟨tp,_,rfl,SqT.of upd_same,rfl,_,_,rfl,_,[],rfl,rfl,⟨[some _,some _],rfl,rfl⟩,?_⟩
  refine⟨_,rfl,_,rfl,SK[i],k,kx.same s04,hkv.same s04,by omega,_,rfl,ite2 (fun c=>?_) (fun c=>nx hi ⟨s3.trans s4,by omega,fun v hv=>(r3 v hv).same s4⟩)⟩
  have ck:SK[i]=k:=of_decide_eq_true c
  refine⟨_,rfl,small (by show 2≤1000000;decide),fun pp hpp=>?_⟩
  have s5:=same_new hpp (.tup [.str "g", .int (i:Int)])
  refine nx hi ⟨s3.trans (s4.trans s5),by rw[List.length_append];simp;omega,fun v hv=>?_⟩
  rcases List.mem_append.mp hv with z|z
  ·exact((r3 v z).same s4).same s5
  ·rw[List.mem_singleton]at z
   subst z
   exact⟨.g i, .g upd_same,by show SK[i]?=some k;rw[List.getElem?_eq_getElem hiS,ck],rfl,rfl⟩
 rintro vs3 H3 ⟨s3,l3,r3⟩ l3a hl3
 have lsv:=asv.1
 have s4:=same_new hl3 (.lst vs3)
 refine⟨l1a,l3a,vs1,vs3,rfl,rfl,s4 _ _ (s3 _ _ hl12),upd_same,small (by omega),fun l5 hl5=>?_⟩
 have s5:=same_new hl5 (.lst (vs1++vs3))
 have s25:=s3.trans (s4.trans s5)
 have r5:∀v∈vs1++vs3,Lf (upd (upd H3 l3a (.lst vs3)) l5 (.lst (vs1++vs3))) SK G k v:=fun v hv=>by
  rcases List.mem_append.mp hv with z|z
  ·exact(r2 v z).same s25
  ·exact((r3 v z).same s4).same s5
 have hl55:(upd (upd H3 l3a (.lst vs3)) l5 (.lst (vs1++vs3))) l5=some (.lst (vs1++vs3)):=upd_same
 have s05:=s02.trans s25
 have n5:l5≠st:=by
  obtain⟨x,y,hx⟩:=cn.ok
  exact ne_of_none' hl5 ((s02.trans (s3.trans s4)) _ _ hx)
 revert r5 hl55 s05
 generalize upd (upd H3 l3a (.lst vs3)) l5 (.lst (vs1++vs3))=H5
 intro r5 hl55 s05
 have g5:=grow_same cn.ok s05
 have L5:(vs1++vs3).length≤50:=by rw[List.length_append];omega
 have fin:∀H6,Grow st H H6→∀(o5:Option V),tLfR n {nx:=fun x H'=>Q V.non H',rt:=Q} [some (.ref st),some (.ref lo),some (.ref ls),some kv,some (.ref l5),o5] H6:=fun H6 g6 o5=>
  ⟨st,lo,ls,kv,_,_,G,SK,k,rfl,cn.grow g6,hkv.tps (grow_tps cn.ok g6),hrs,h30,lG,fun v t H' a b c d e=>q v t H' a b c d (g6.trans e)⟩
 refine⟨_,rfl,small (by show 0≤1000000;decide),fun le hle=>?_⟩
 have s6:=same_new hle (.lst [])
 have g6:=g5.trans (grow_same g5.ok s6)
 refine⟨l5,le,_,rfl,rfl,s6 _ _ hl55,upd_same,_,rfl,ite2 (fun c=>?_) (fun c=>?_)⟩
 ·refine⟨_,rfl,st,4,rfl,g6.ok,by decide,by decide,fun d H7 d0 d1 g7=>⟨_,_,rfl,rfl,_,rfl,ite2 (fun c2=>?_) (fun c2=>?_)⟩⟩
  ·have hl7:=g7.1 _ _ n5 (s6 _ _ hl55)
   have ne:vs1++vs3≠[]:=of_decide_eq_true c
   have len1:1≤(vs1++vs3).length:=List.length_pos_iff.mpr ne
   refine⟨_,rfl,_,rfl,_,rfl,l5,_,rfl, .inl (SqL.of hl7),st,_,rfl,g7.ok,by omega,by omega,fun e H8 e0 e1 g8=>?_⟩
   obtain⟨e,rfl⟩:∃e':Nat,e=(e':Int):=⟨e.toNat,by omega⟩
   have el:e<(vs1++vs3).length:=by omega
   obtain⟨t,ht,wt,dt,zt⟩:=(((r5 _ (List.getElem_mem el)).same s6).tps (grow_tps g6.ok g7)).tps (grow_tps g7.ok g8)
   exact⟨l5,_,_,_,rfl,rfl,SqL.of (g8.1 _ _ n5 hl7),atI_nat (j:=e) (List.getElem?_eq_getElem el),q _ t _ ht wt (by omega) (by omega) (g6.trans (g7.trans g8))⟩
  ·exact fin H7 (g6.trans g7) _
 ·exact fin _ g6 _
theorem leaf_all (F:Fun K "_law_leaf" "_law_leaf" s_leaf f fd)(bF:Binds K fd pLf [])(mF:mg "_law_leaf"=some (.ref f))(ml:mg "len"=none)(mE:mg "enumerate"=none)(ms:mg "str"=none)(h1:Has P w K mg base 1 "_law_next" ["_law_state","_law_many"] spNext)(h2:Has P w K mg base 2 "_law_number" ["_law_state"] spNumb):
  ∀n:Nat,Has P w K mg base (2+n) "_law_leaf" pLf (spLeafN n)
 |0=>⟨f,fd,⟨fun vs H Q E h=>h.elim,fun A outer s H args us vs Q E _ _ _ _ h=>h.elim⟩,bF,F.kp,mF⟩
 |n+1=>⟨f,fd,by have:=ok_leaf F ml mE ms h1 h2 (leaf_all F bF mF ml mE ms h1 h2 n);rwa [show 3+n=2+(n+1) by omega]at this,bF,F.kp,mF⟩
end
def sg:Nat→Nat
 |0=>7
 |n+1=>3*sg n+82
theorem sg_pos:∀n,1≤sg n
 |0=>by decide
 |n+1=>by unfold sg;omega
inductive CspGr (D:Nat)(vs:List V)(H:Hp)(Q:VK)(E_:XK):Prop where
 |mk (st lo ls:Addr) (kv:V) (G SK:List Kd) (k:Kd):vs=[.ref st, .ref lo, .ref ls,kv, .int (D:Int)]→Cn H st lo ls G SK→KdL H kv k→max 2 (rsk k)+D≤6→max 2 (hk k)+D≤25→G.length+6*D+6≤30→(∀v t H',TmL H' v t→WT SK G t k→dep t≤max (rsk k+2*D) (3*D+2)→sz t≤sg D→Grow st H H'→Q v H')→CspGr D vs H Q E_
def spGr (D:Nat):Sp:=CspGr D
def spGrN:Nat→Sp
 |0=>fun _ _ _ _=>False
 |n+1=>spGr n
theorem grow_new {H:Hp}{st b:Addr}{o:HO}(h:StOk H st)(hb:H b=none):Grow st H (upd H b o):=grow_same h (same_new hb o)
theorem StOk.fresh {H:Hp}{st b:Addr}(h:StOk H st)(hb:H b=none):b≠st:=by
 obtain⟨a,c,h⟩:=h
 exact ne_of_none' hb h
theorem x_len:("x":Str).length=1:=by decide+kernel
section
variable {P:Program}{w:World}{K:PySem.W.Frag}{mg:Str→Option Value}{base:Heap}{f:Addr}{fd:FuncData}
abbrev pGr:List Str:=["_law_state","_law_own_here","_law_shared","_law_kind_here","_law_depth"]
abbrev s_own:Stmt:=top 54
abbrev nOw:List Str:=["_law_state","_law_own_here","_law_shared","_law_kind_here","_law_depth","_law_name","_law_word","_law_left"]
theorem sc_own:FnScope nOw pGr (defScope s_own):=⟨rfl,rfl,rfl,by decide+kernel,rfl,by decide+kernel,by decide+kernel⟩
set_option maxHeartbeats 2000000 in
theorem ok_own {n:Nat}(F:Fun K "_law_own" "_law_own" s_own f fd)(ml:mg "len"=none)(ms:mg "str"=none)(h1:Has P w K mg base 1 "_law_next" ["_law_state","_law_many"] spNext)(h2:Has P w K mg base (12+2*n) "_law_grown" pGr (spGr n)):
  FnOk P w K mg base CX0 (12+2*n+1) f fd pGr (spGr (n+1)):=by
 refine F.ok sc_own (fun vs H Q E h=>?_) (fun cdv A outer s H vs Q E hr h=>?_)
 ·obtain⟨st,lo,ls,kv,G,SK,k,rfl,_⟩:=h
  rfl
 obtain⟨st,lo,ls,kv,G,SK,k,rfl,cn,hkv,hrs,h25,lG,q⟩:=h
 have hu64:=hr.units
 have hz:=sizeLine_eq
 have sp:=sg_pos n
 have es:sg (n+1)=3*sg n+82:=rfl
 have ed:((n+1:Nat):Int)-1=(n:Int):=by omega
 refine⟨_,pss_cons (ps_if (pt_cmpR (op_neK hu64) (pv 3) pe_str (nomark _))
   (pss_cons (ps_set (i:=5) sc_own.nd rfl (Or.inl rfl) (pe_op op_add_str pe_str (pe_callTy call_str_int rfl ms boot_str (pa_cons (pe_callB (clen K) rfl ml PySem.boot_len (pa_cons (pv 1) pa_nil)) pa_nil))))
   (pss_one (ps_ret (pe_tup (pa_cons pe_str (pa_cons (pv 5) (pa_cons (pcall h2 hr (by omega) rfl (pa_cons (pv 0) (pa_cons (pe_op op_cat (pv 1) (pe_lst (pa_cons (pe_tup (pa_cons (pv 5) (pa_cons (pe_ix (ixT K) (pv 3) pe_int (fun _ _=>rfl)) pa_nil))) pa_nil))) (pa_cons (pv 2) (pa_cons (pe_ix (ixT K) (pv 3) pe_int (fun _ _=>rfl)) (pa_cons (pe_op op_sub (pv 4) pe_int) pa_nil)))))) pa_nil))))))) pss_nil)
  (pss_cons (ps_set (i:=6) sc_own.nd rfl (Or.inl rfl) (pe_ix (ixL K) (pe_lst (pa_cons pe_str (pa_cons pe_str (pa_cons pe_str (pa_cons pe_str pa_nil))))) (pcall h1 hr (by omega) rfl (pa_cons (pv 0) (pa_cons pe_int pa_nil))) (fun _ _=>rfl)))
  (pss_cons (ps_set (i:=7) sc_own.nd rfl (Or.inl rfl) (pcall h2 hr (by omega) rfl (pa_cons (pv 0) (pa_cons (pv 1) (pa_cons (pv 2) (pa_cons pe_str (pa_cons (pe_op op_sub (pv 4) pe_int) pa_nil)))))))
  (pss_one (ps_ret (pe_tup (pa_cons (pv 6) (pa_cons (pv 7) (pa_cons (pcall h2 hr (by omega) rfl (pa_cons (pv 0) (pa_cons (pv 1) (pa_cons (pv 2) (pa_cons pe_str (pa_cons (pe_op op_sub (pv 4) pe_int) pa_nil)))))) pa_nil)))))))),?_⟩
 refine⟨_,rfl,k,hkv,rfl,_,rfl,ite2 (fun c=>?_) (fun c=>?_)⟩
 ·cases hkv with
  |n=>exact absurd c (by decide)
  |@f p a r ka kr hp6 ka6 kr6=>
   simp only[rsk,hk]at hrs h25 lG
   obtain⟨ov6,hlo6,lov6,_⟩:=cn.ow
   refine⟨_,rfl,lo,_,rfl, .inl (SqL.of hlo6),?_⟩
   rw[lov6]
   have lx:=len40 G.length (by omega)
   refine⟨_,rfl,log_small (by omega) (by omega),"x",_,rfl,rfl,(by rw[x_len];omega),?_⟩
   rw[show("x"++(toString ((G.length:Nat):Int):Str):Str)=nmS G.length from rfl]
   refine⟨_,rfl,_,rfl,_,rfl,_,rfl,ix_t (a:=p) (j:=1) rfl hp6 rfl ⟨small (by show 2≤1000000;decide),fun p7 hp7=>?_⟩⟩
   have a7:=same_new hp7 (.tup [.str (nmS G.length),a])
   have b7:(upd H p7 (.tup [.str (nmS G.length),a])) p7=some (.tup [.str (nmS G.length),a]):=upd_same
   revert a7 b7
   generalize upd H p7 (.tup [.str (nmS G.length),a])=H7
   intro a7 b7
   refine⟨small (by show 1≤1000000;decide),fun l8 hl8=>?_⟩
   have a8:=same_new hl8 (.lst [.ref p7])
   have b8:(upd H7 l8 (.lst [.ref p7])) l8=some (.lst [.ref p7]):=upd_same
   revert a8 b8
   generalize upd H7 l8 (.lst [.ref p7])=H8
   intro a8 b8
   have s68:=a7.trans a8
   refine⟨lo,l8,_,_,rfl,rfl,s68 _ _ hlo6,b8,small (by show ov6.length+1≤1000000;omega),fun l9 hl9=>?_⟩
   have a9:=same_new hl9 (.lst (ov6++[.ref p7]))
   have b9:(upd H8 l9 (.lst (ov6++[.ref p7]))) l9=some (.lst (ov6++[.ref p7])):=upd_same
   have n9:l9≠st:=(cn.ok.same s68).fresh hl9
   revert a9 b9
   generalize upd H8 l9 (.lst (ov6++[.ref p7]))=H9
   intro a9 b9
   have s69:=s68.trans a9
   have g9:=grow_same cn.ok s69
   have cn9:Cn H9 st l9 ls (G++[ka]) SK:=(cn.grow g9).more (s69 _ _ hlo6) b9 n9 (a9 _ _ (a8 _ _ b7)) (ka6.same s69) (by omega) (by omega)
   refine⟨_,rfl,ix_t (a:=p) (j:=2) rfl (s69 _ _ hp6) rfl ⟨_,rfl,_,_,rfl,rfl,?_⟩⟩
   refine⟨st,l9,ls,r,G++[ka],SK,kr,(by rw[←ed];rfl),cn9,kr6.same s69,by omega,by omega,by rw[List.length_append];simp;omega,fun v t H10 tl wt dt zt g10=>?_⟩
   refine⟨small (by show 3≤1000000;decide),fun p11 hp11=>?_⟩
   have a11:=same_new hp11 (.tup [.str "fun", .str (nmS G.length),v])
   exact q _ (.fn G.length t) _ (.fn upd_same (tl.same a11)) ⟨rfl,ka,kr,rfl,wt⟩ (by simp only[dep,rsk];omega) (by simp only[sz];omega) (g9.trans (g10.trans (grow_same g10.ok a11)))
 ·have ck:k=.n:=by
   by_cases z:k=.n
   ·exact z
   ·exact absurd (decide_eq_true z) c
  subst ck
  refine⟨small (by show 4≤1000000;decide),fun p hp=>?_⟩
  have g3:=grow_new (o:=.lst [.str "plus", .str "minus", .str "times", .str "less"]) cn.ok hp
  have np:=cn.ok.fresh hp
  refine⟨_,rfl,st,4,rfl,g3.ok,by decide,by decide,fun e H4 e0 e2 g4=>?_⟩
  have hp4:=g4.1 _ _ np upd_same
  have g:=g3.trans g4
  have wd:∃k:Nat,k≤3∧atI [V.str "plus",V.str "minus",V.str "times",V.str "less"] e=some (.str (wordOf k)):=by
   have hh:e=0∨e=1∨e=2∨e=3:=by omega
   rcases hh with rfl|rfl|rfl|rfl
   ·exact⟨0,by decide,atI_nat (j:=0) rfl⟩
   ·exact⟨1,by decide,atI_nat (j:=1) rfl⟩
   ·exact⟨2,by decide,atI_nat (j:=2) rfl⟩
   ·exact⟨3,by decide,atI_nat (j:=3) rfl⟩
  obtain⟨k,hk,hw⟩:=wd
  refine⟨p,_,e,_,rfl,rfl,SqL.of hp4,hw,?_⟩
  refine⟨_,rfl,_,rfl,_,rfl,_,rfl,_,_,rfl,rfl,?_⟩
  refine⟨st,lo,ls,_,G,SK, .n,(by rw[←ed];rfl),cn.grow g, .n,by simp only[rsk]at hrs ⊢;omega,by simp only[Fw.hk]at h25 ⊢;omega,by omega,fun v1 t1 H5 r1 w1 d1 z1 g5=>?_⟩
  have g05:=g.trans g5
  refine⟨_,rfl,_,rfl,_,rfl,_,rfl,_,rfl,_,rfl,_,_,rfl,rfl,?_⟩
  refine⟨st,lo,ls,_,G,SK, .n,(by rw[←ed];rfl),cn.grow g05, .n,by simp only[rsk]at hrs ⊢;omega,by simp only[Fw.hk]at h25 ⊢;omega,by omega,fun v2 t2 H6 r2 w2 d2 z2 g6=>⟨small (by show 3≤1000000;decide),fun pp hpp=>?_⟩⟩
  have s7:=same_new hpp (.tup [.str (wordOf k),v1,v2])
  exact q _ (.op k t1 t2) _ (.op upd_same ((r1.tps (grow_tps g5.ok g6)).same s7) (r2.same s7)) ⟨rfl,hk,w1,w2⟩ (by simp only[dep,rsk,mx1]at d1 d2 ⊢;exact⟨by omega,by omega⟩) (by simp only[sz];omega) (g05.trans (g6.trans (grow_same g6.ok s7)))
end
theorem TmsL.snoc {H:Hp}{p:Addr}{v:V}{t:Tm}:∀{vs:List V} {ts:List Tm} {x y:Nat},TmsL H x y vs ts→H p=some (.tup [.str (nmS (x+vs.length)), .str (nmS y),v])→TmL H v t→TmsL H x y (vs++[.ref p]) (ts++[t])
 |_,_,x,y, .nil,hp,ht=>.cons (by simpa using hp) ht .nil
 |_,_,x,y, .cons h1 h2 h3,hp,ht=>.cons h1 h2 (TmsL.snoc h3 (by rw[show x+1+_=x+(_+1) from Nat.add_right_comm x 1 _];simpa using hp) ht)
theorem szL_snoc {t:Tm}:∀{ts:List Tm},szL (ts++[t])=szL ts+sz t+1
 |[]=>by simp[szL]
 |u::us=>by
  have:=szL_snoc (t:=t) (ts:=us)
  simp only[List.cons_append,szL]
  omega
theorem depL_le {n:Nat}:∀{ts:List Tm},(∀t∈ts,dep t≤n)→depL ts≤n
 |[],_=>by simp[depL]
 |u::us,h=>by
  have h1:=h u List.mem_cons_self
  have h2:=depL_le fun t ht=>h t (List.mem_cons_of_mem _ ht)
  unfold depL
  omega
theorem WTL_of {S Γ:List Kd}:∀{ts:List Tm},(∀t∈ts,WT S Γ t .n)→WTL S Γ ts
 |[],_=>trivial
 |u::us,h=>⟨h u List.mem_cons_self,WTL_of fun t ht=>h t (List.mem_cons_of_mem _ ht)⟩
def rb (M:Nat):Nat→Nat
 |0=>0
 |1=>M
 |i+2=>2*M+i*19
theorem rb_lt {M i:Nat}(h:i<2):rb M (i+1)=rb M i+M:=by
 have:i=0∨i=1:=by omega
 rcases this with rfl|rfl
 ·simp[rb]
 ·simp[rb];omega
theorem rb_ge {M i:Nat}(h:2≤i):rb M (i+1)=rb M i+19:=by
 obtain⟨j,rfl⟩:∃j,i=j+2:=⟨i-2,by omega⟩
 show 2*M+(j+1)*19=2*M+j*19+19
 omega
theorem rb_end {M m:Nat}(h:m≤5):rb M m≤2*M+57:=by
 have:m=0∨m=1∨m=2∨m=3∨m=4∨m=5:=by omega
 rcases this with rfl|rfl|rfl|rfl|rfl|rfl<;>simp[rb]<;>omega
theorem sg_mono:∀n,7≤sg n
 |0=>by decide
 |n+1=>by have:=sg_mono n;unfold sg;omega
theorem Cn.ring {H:Hp}{st lo ls li:Addr}{G SK:List Kd}{m:Nat}{ovs ps:List V}(c:Cn H st lo ls G SK)(ho:H lo=some (.lst ovs))(h2:H li=some (.lst (ovs++ps)))(n2:li≠st)(lp:ps.length=m)
  (hp:∀i,i<m→∃(p:Addr) (kv:V),ps[i]?=some (.ref p)∧H p=some (.tup [.str (nmS (G.length+i)),kv])∧KdL H kv fnn) (lg:G.length+m≤30):Cn H st li ls (G++List.replicate m fnn) SK:=by
 obtain⟨ovs',h1,l1,a1⟩:=c.ow
 rw[ho]at h1
 cases h1
 refine⟨c.ok,⟨_,h2,by rw[List.length_append,List.length_append,l1,lp,List.length_replicate],fun i k' hi=>?_⟩,c.sh,n2,c.ns,fun k' hk'=>?_,c.hs,by rw[List.length_append,List.length_replicate];exact lg,c.ll⟩
 ·by_cases z:i<G.length
  ·rw[List.getElem?_append_left z]at hi
   obtain⟨p',kv',x1,x2,x3⟩:=a1 i k' hi
   exact⟨p',kv',by rw[List.getElem?_append_left (by omega)];exact x1,x2,x3⟩
  ·have li:=(List.getElem?_eq_some_iff.mp hi).1
   rw[List.length_append,List.length_replicate]at li
   obtain⟨j,rfl⟩:∃j,i=G.length+j:=⟨i-G.length,by omega⟩
   rw[List.getElem?_append_right (by omega),Nat.add_sub_cancel_left,List.getElem?_replicate,if_pos (by omega)]at hi
   cases hi
   obtain⟨p,kv,e1,e2,e3⟩:=hp j (by omega)
   exact⟨p,kv,by rw[List.getElem?_append_right (by omega),l1,Nat.add_sub_cancel_left];exact e1,e2,e3⟩
 ·rcases List.mem_append.mp hk' with z|z
  ·exact c.hg k' z
  ·rw[List.eq_of_mem_replicate z];decide
theorem ring_at {G:List Kd}{m i:Nat}(h:i<m):(G++List.replicate m fnn)[G.length+i]?=some fnn:=by
 rw[List.getElem?_append_right (by omega),Nat.add_sub_cancel_left,List.getElem?_replicate,if_pos h]
theorem Grow.put {st lf:Addr}{H H':Hp}{o:HO}(g:Grow st H H')(h:H lf=none)(n:lf≠st):Grow st H (upd H' lf o):=by
 obtain⟨a,b,e⟩:=g.ok
 exact⟨fun c u hc e=>by rw[upd_ne (ne_of_none e h)];exact g.1 c u hc e,a,b,by rw[upd_ne (Ne.symm n)];exact e⟩
section
variable {P:Program}{w:World}{K:PySem.W.Frag}{mg:Str→Option Value}{base:Heap}{f:Addr}{fd:FuncData}
def spGrU (n:Nat):Sp:=fun vs H Q E=>∃D,D<n∧spGr D vs H Q E
abbrev s_ring:Stmt:=top 55
abbrev nRg:List Str:=["_law_state","_law_own_here","_law_shared","_law_kind_here","_law_depth","_law_many","_law_inner","_law_x","_law_functions","_law_k","_law_far","_law_term","_law_again"]
theorem sc_ring:FnScope nRg pGr (defScope s_ring):=⟨rfl,rfl,rfl,by decide+kernel,rfl,by decide+kernel,by decide+kernel⟩
@[irreducible] def stR1:Stmt:=(defBody s_ring).getD 1 (.Pass ⟨0,0,0,0⟩)
@[irreducible] def stR4:Stmt:=(defBody s_ring).getD 4 (.Pass ⟨0,0,0,0⟩)
def stR0:Stmt:=(defBody s_ring).getD 0 (.Pass ⟨0,0,0,0⟩)
def stR2:Stmt:=(defBody s_ring).getD 2 (.Pass ⟨0,0,0,0⟩)
def stR3:Stmt:=(defBody s_ring).getD 3 (.Pass ⟨0,0,0,0⟩)
def stR5:Stmt:=(defBody s_ring).getD 5 (.Pass ⟨0,0,0,0⟩)
theorem bodyR:defBody s_ring=[stR0,stR1,stR2,stR3,stR4,stR5]:=by
 unfold stR1 stR4
 rfl
theorem hlocR6:Loc (defScope s_ring) "_law_inner":=Or.inl rfl
theorem hlocR11:Loc (defScope s_ring) "_law_term":=Or.inl rfl
theorem hlocR12:Loc (defScope s_ring) "_law_again":=Or.inl rfl
abbrev RX (P:Program)(w:World)(K:PySem.W.Frag)(mg:Str→Option Value)(base:Heap)(f:Addr)(cdv:Value)(A:Around)(outer:List Env)(s:Shared)(H:Hp)(E:XK):Cx:=(cxOf CX0 P w K mg base nRg "_law_ring" (defScope s_ring) f cdv A outer s H E).nox
def teR (K:PySem.W.Frag):TE:=tTup (tCons (tOp (fun x y H Q=>∃i j,x=.str i∧y=.str j∧i.length+j.length≤sizeLine∧Q (.str (i++j)) H) (tC (.str "x"))
 (tCB (fun xs H Q=>∃i,xs=[.int i]∧i.natAbs.log2<1920∧Q (.str (toString i)) H) (tCons (tOp (rI0 fun i j=>.int (i+j)) (tCB (fun xs H Q=>∃p ys,xs=[.ref p]∧(SqL K H p ys∨SqT K H p ys)∧Q (.int ys.length) H) (tCons (tVar 1) tNil)) (tVar 0)) tNil)))
 (tCons (tTup (tCons (tC (.str "f")) (tCons (tC (.str "n")) (tCons (tC (.str "n")) tNil)))) tNil))
def tR1:TS:=fun D σ H=>∃(st lo ls:Addr) (kv d:V) (G SK:List Kd) (m:Nat),σ=[some (.ref st),some (.ref lo),some (.ref ls),some kv,some d,some (.int (m:Int)),none,none,none,none,none,none,none]∧m≤5∧Cn H st lo ls G SK∧G.length+m≤30∧
 ∀(li:Addr) H',Same H H'→Cn H' st li ls (G++List.replicate m fnn) SK→D.nx [some (.ref st),some (.ref lo),some (.ref ls),some kv,some d,some (.int (m:Int)),some (.ref li),none,none,none,none,none,none] H'
set_option maxHeartbeats 2000000 in
theorem ps_stR1 {cdv:Value}{A:Around}{outer:List Env}{s:Shared}{H:Hp}{E:XK}(ml:mg "len"=none)(ms:mg "str"=none)(mr:mg "range"=none):PSx (RX P w K mg base f cdv A outer s H E) stR1 tR1:=by
 unfold stR1
 refine x_weak (x_set (i:=6) (x:="_law_inner") sc_ring.nd rfl hlocR6 (x_op op_cat (x_pv 1) ⟨pe_lc (te:=teR K) (defScope s_ring) nRg ["_law_own_here"] [1] (by decide+kernel) (pi_range1 rfl mr (pa_cons (pv 5) pa_nil)) (fun C s₀ H₀ ex=>pts_nil)
  (fun C s₀ H₀ ex=>PEx.h (x_tup (x_b ⟨pe_op op_add_str pe_str (pe_callTy call_str_int rfl ms boot_str (pa_cons (pe_op op_add (pe_callB (clen K) rfl ml PySem.boot_len (pa_cons (pv 1) pa_nil)) (pv 0)) pa_nil))⟩ (x_t (x_tup (x_str (x_str (x_str x_nil)))) x_nil))))⟩) swaps_bin (.inl rfl)) ?_
 rintro D σ H ⟨st,lo,ls,kv,d,G,SK,m,rfl,m5,cn,lg,nxt⟩
 have hz:=sizeLine_eq
 obtain⟨ovs,hlo,lov,_⟩:=cn.ow
 refine⟨_,rfl,_,rfl,(m:Int),rfl,by omega,by omega,?_⟩
 rw[Int.toNat_natCast]
 refine comp_range (n:=m) (fun i vs H'=>Same H H'∧vs.length=i∧∀j,j<i→∃(p:Addr) (kv:V),vs[j]?=some (.ref p)∧H' p=some (.tup [.str (nmS (G.length+j)),kv])∧KdL H' kv fnn) ⟨Same.refl _,rfl,fun j hj=>absurd hj (Nat.not_lt_zero _)⟩ ?_ ?_ ?_
 ·rintro i vs H' hi ⟨s1,l1,_⟩
  exact small' (by omega)
 ·rintro i vs H' hi ⟨s1,l1,g⟩
  refine tt1 (iteT ⟨_,rfl,lo,_,rfl, .inl (SqL.of (s1 _ _ hlo)),_,rfl,_,_,rfl,rfl,_,rfl,?_⟩)
  rw[lov,Int.zero_add,show((G.length:Nat):Int)+(i:Int)=((G.length+i:Nat):Int) by omega]
  have lx:=len40 (G.length+i) (by omega)
  refine⟨log_small (by omega) (by omega),"x",_,rfl,rfl,(by rw[x_len];omega),?_⟩
  rw[show("x"++(toString ((G.length+i:Nat):Int):Str):Str)=nmS (G.length+i) from rfl]
  refine⟨small (by show 3≤1000000;decide),fun p1 hp1=>?_⟩
  have a1:=same_new hp1 (.tup [.str "f", .str "n", .str "n"])
  have b1:(upd H' p1 (.tup [.str "f", .str "n", .str "n"])) p1=some (.tup [.str "f", .str "n", .str "n"]):=upd_same
  revert a1 b1
  generalize upd H' p1 (.tup [.str "f", .str "n", .str "n"])=H1
  intro a1 b1
  refine⟨small (by show 2≤1000000;decide),fun p2 hp2=>?_⟩
  have a2:=same_new hp2 (.tup [.str (nmS (G.length+i)), .ref p1])
  refine nx hi ⟨s1.trans (a1.trans a2),by rw[List.length_append,l1];rfl,fun j hj=>?_⟩
  by_cases z:j<i
  ·obtain⟨p,kv',e1,e2,e3⟩:=g j z
   exact⟨p,kv',by rw[List.getElem?_append_left (by omega)];exact e1,a2 _ _ (a1 _ _ e2),(e3.same a1).same a2⟩
  ·have ej:j=i:=by omega
   subst ej
   exact⟨p2, .ref p1,by rw[←l1];simp,upd_same, .f (a2 _ _ b1) .n .n⟩
 ·rintro vs H1 ⟨s1,l1,g⟩ l2 hl2
  have s2:=same_new hl2 (.lst vs)
  have b2:(upd H1 l2 (.lst vs)) l2=some (.lst vs):=upd_same
  revert s2 b2
  generalize upd H1 l2 (.lst vs)=H2
  intro s2 b2
  have s02:=s1.trans s2
  refine⟨lo,l2,_,_,rfl,rfl,s02 _ _ hlo,b2,small (by omega),fun l3 hl3=>?_⟩
  have s3:=same_new hl3 (.lst (ovs++vs))
  have s03:=s02.trans s3
  have n3:l3≠st:=(cn.ok.same s02).fresh hl3
  refine nxt l3 _ s03 ((cn.grow (grow_same cn.ok s03)).ring (s03 _ _ hlo) upd_same n3 l1 (fun i hi=>?_) lg)
  obtain⟨p,kv',e1,e2,e3⟩:=g i hi
  exact⟨p,kv',e1,s3 _ _ (s2 _ _ e2),(e3.same s2).same s3⟩
end
section
variable {P:Program}{w:World}{K:PySem.W.Frag}{mg:Str→Option Value}{base:Heap}{f:Addr}{fd:FuncData}
def tB3:TS:=fun D σ H=>∃(st lo ls li lf:Addr) (kv d tv:V) (o10 o12:Option V) (G SK:List Kd) (m i:Nat) (ovs fvs:List V),σ=[some (.ref st),some (.ref lo),some (.ref ls),some kv,some d,some (.int (m:Int)),some (.ref li),some (.str (nmS (G.length+m))),some (.ref lf),some (.int (i:Int)),o10,some tv,o12]∧H lo=some (.lst ovs)∧ovs.length=G.length∧Cn H st li ls (G++List.replicate m fnn) SK∧i<m∧H lf=some (.lst fvs)∧fvs.length≤10∧
 ∀p,H p=none→D.nx σ (upd (upd H p (.tup [.str (nmS (G.length+i)), .str (nmS (G.length+m)),tv])) lf (.lst (fvs++[.ref p])))
def tRT (n:Nat)(Hb:Hp)(st lo ls li lf:Addr)(kv:V)(G SK:List Kd)(m:Nat)(i:Nat)(σ:L2.St)(H':Hp):Prop:=∃(o9 o10 o11 o12:Option V) (fvs:List V) (bs:List Tm),σ=[some (.ref st),some (.ref lo),some (.ref ls),some kv,some (.int ((n+1:Nat):Int)),some (.int (m:Int)),some (.ref li),some (.str (nmS (G.length+m))),some (.ref lf),o9,o10,o11,o12]∧Grow st Hb H'∧H' lf=some (.lst fvs)∧TmsL H' G.length (G.length+m) fvs bs∧bs.length=i∧(∀b∈bs,WT SK (G++List.replicate m fnn++[.n]) b .n∧dep b≤3*n+4)∧szL bs≤rb (sg n+12) i
def tR4 (n:Nat):TS:=fun D σ H=>∃(Hb:Hp) (st lo ls li lf:Addr) (kv:V) (G SK:List Kd) (m:Nat) (ovs:List V),tRT n Hb st lo ls li lf kv G SK m 0 σ H∧(1≤m∧m≤5)∧Hb lo=some (.lst ovs)∧ovs.length=G.length∧lo≠st∧Cn Hb st li ls (G++List.replicate m fnn) SK∧Hb lf=none∧lf≠st∧G.length+6*n+12≤30∧n≤3∧∀σ' H',tRT n Hb st lo ls li lf kv G SK m m σ' H'→D.nx σ' H'
def tIf:TS:=fun D σ H=>∃(Hb:Hp) (st lo ls li lf:Addr) (kv d tv:V) (o10 o12:Option V) (G SK:List Kd) (m i:Nat) (ovs fvs:List V) (t:Tm),σ=[some (.ref st),some (.ref lo),some (.ref ls),some kv,some d,some (.int (m:Int)),some (.ref li),some (.str (nmS (G.length+m))),some (.ref lf),some (.int (i:Int)),o10,some tv,o12]∧Hb lo=some (.lst ovs)∧ovs.length=G.length∧lo≠st∧Cn Hb st li ls (G++List.replicate m fnn) SK∧Grow st Hb H∧(1≤m∧m≤5)∧TmL H tv t∧WT SK (G++List.replicate m fnn++[.n]) t .n∧
 ∀tv' o12' t' H',Grow st H H'→TmL H' tv' t'→WT SK (G++List.replicate m fnn++[.n]) t' .n→dep t'≤max (dep t) 2+2→sz t'≤sz t+11→D.nx [some (.ref st),some (.ref lo),some (.ref ls),some kv,some d,some (.int (m:Int)),some (.ref li),some (.str (nmS (G.length+m))),some (.ref lf),some (.int (i:Int)),o10,some tv',o12'] H'
def forB:Stmt→List Stmt
 |.For _ _ b _ _=>b
 |_=>[]
@[irreducible] def stRI:Stmt:=(forB ((defBody s_ring).getD 4 (.Pass ⟨0,0,0,0⟩))).getD 2 (.Pass ⟨0,0,0,0⟩)
@[irreducible] def stRA:Stmt:=(forB ((defBody s_ring).getD 4 (.Pass ⟨0,0,0,0⟩))).getD 3 (.Pass ⟨0,0,0,0⟩)
def stRf:Stmt:=(forB ((defBody s_ring).getD 4 (.Pass ⟨0,0,0,0⟩))).getD 0 (.Pass ⟨0,0,0,0⟩)
def stRt:Stmt:=(forB ((defBody s_ring).getD 4 (.Pass ⟨0,0,0,0⟩))).getD 1 (.Pass ⟨0,0,0,0⟩)
theorem bodyF:forB ((defBody s_ring).getD 4 (.Pass ⟨0,0,0,0⟩))=[stRf,stRt,stRI,stRA]:=by
 unfold stRI stRA
 rfl
section
variable {cdv:Value}{A:Around}{outer:List Env}{s:Shared}{H:Hp}{E:XK}{n:Nat}
set_option maxHeartbeats 2000000 in
theorem ps_stRA (ml:mg "len"=none):PSx (RX P w K mg base f cdv A outer s H E) stRA tB3:=by
 unfold stRA
 refine x_weak ⟨ps_expr (pe_bm PySem.F.plainAttrs_list PySem.F.slot_list_append PySem.F.type_list_append mt_append (pv 8) (pa_cons (pe_tup (pa_cons (pe_ix (ixT K) (pe_ix (ixL K) (pv 6) (pe_op op_add (pe_callB (clen K) rfl ml PySem.boot_len (pa_cons (pv 1) pa_nil)) (pv 9)) (fun _ _=>rfl)) pe_int (fun _ _=>rfl)) (pa_cons (pv 7) (pa_cons (pv 11) pa_nil)))) pa_nil))⟩ ?_
 rintro D σ H ⟨st,lo,ls,li,lf,kv,d,tv,o10,o12,G,SK,m,i,ovs,fvs,rfl,hlo,lov,cn,hi,hlf,l10,nxt⟩
 obtain⟨iv,hli,liv,ai⟩:=cn.ow
 obtain⟨p,kv',e1,e2,e3⟩:=ai _ _ (ring_at (G:=G) hi)
 refine⟨_,rfl, .inl ⟨rfl,_,SqL.of hlf⟩,_,rfl,_,rfl,lo,_,rfl, .inl (SqL.of hlo),_,rfl,_,_,rfl,rfl,?_⟩
 dsimp only
 rw[lov,show((G.length:Nat):Int)+(i:Int)=((G.length+i:Nat):Int) by omega]
 refine⟨li,_,_,_,rfl,rfl,SqL.of hli,atI_nat (j:=G.length+i) e1,p,_,0,_,rfl,rfl,SqT.of e2,atI_nat (j:=0) rfl,_,rfl,_,rfl,small (by show 3≤1000000;decide),fun q hq=>?_⟩
 have s1:=same_new hq (.tup [.str (nmS (G.length+i)), .str (nmS (G.length+m)),tv])
 exact⟨lf,_,_,rfl,rfl,s1 _ _ hlf,small' (by omega),nxt q hq⟩
set_option maxHeartbeats 4000000 in
theorem ps_stRI (hr:Room n (A.deeper (envOfC "_law_ring" (defScope s_ring) s.heap.objs.size f cdv)))(hn:2≤n)(ml:mg "len"=none)(h1:Has P w K mg base 1 "_law_next" ["_law_state","_law_many"] spNext)(h2:Has P w K mg base 2 "_law_number" ["_law_state"] spNumb):PSx (RX P w K mg base f cdv A outer s H E) stRI tIf:=by
 unfold stRI
 refine x_weak ⟨ps_if (pt_cmpR op_gt (pcall h1 hr (by omega) rfl (pa_cons (pv 0) (pa_cons pe_int pa_nil))) pe_int (nomark _))
  (pss_cons (PSx.h (x_set (i:=12) (x:="_law_again") sc_ring.nd rfl hlocR12 (x_tup (x_str (x_t (x_tup (x_str (x_s ⟨pe_ix (ixT K) (pe_ix (ixL K) (pv 6) (pe_op op_add (pe_callB (clen K) rfl ml PySem.boot_len (pa_cons (pv 1) pa_nil)) (pcall h1 hr (by omega) rfl (pa_cons (pv 0) (pa_cons (pv 5) pa_nil)))) (fun _ _=>rfl)) pe_int (fun _ _=>rfl)⟩ x_nil)))
   (x_t (x_tup (x_str (x_t (x_tup (x_str (x_n (x_pv 7) x_nil))) (x_t (x_tup (x_str (x_int x_nil))) x_nil)))) x_nil)))) swaps_tup (.inl rfl)))
  (pss_one (PSx.h (x_set (i:=11) (x:="_law_term") sc_ring.nd rfl hlocR11 (x_tup (x_str (x_t (x_tup (x_str (x_t (x_tup (x_str (x_int x_nil))) (x_t (x_tup (x_str (x_n (x_pv 7) x_nil))) x_nil))))
   (x_t (x_tup (x_str (x_n (x_pv 11) (x_n (x_pv 12) x_nil)))) (x_t (x_tup (x_str (x_c ⟨pcall h2 hr (by omega) rfl (pa_cons (pv 0) pa_nil)⟩ x_nil))) x_nil))))) swaps_tup (.inl rfl))))) pss_nil⟩ ?_
 rintro D σ H ⟨Hb,st,lo,ls,li,lf,kv,d,tv,o10,o12,G,SK,m,i,ovs,fvs,t,rfl,hlo,lov,nlo,cnb,gb,hm,tl,wt,nxt⟩
 refine⟨_,rfl,st,3,rfl,gb.ok,by decide,by decide,fun e H1 e0 e1 g1=>⟨_,_,rfl,rfl,_,rfl,ite2 (fun c=>?_) (fun c=>?_)⟩⟩
 ·have gb1:=gb.trans g1
  have hlo1:=gb1.1 _ _ nlo hlo
  refine⟨_,rfl,_,rfl,lo,_,rfl, .inl (SqL.of hlo1),_,rfl,_,rfl,st,(m:Int),rfl,gb1.ok,by omega,by omega,fun u H2 u0 u1 g2=>⟨_,_,rfl,rfl,?_⟩⟩
  obtain⟨u,rfl⟩:∃u':Nat,u=(u':Int):=⟨u.toNat,by omega⟩
  have hu:u<m:=by omega
  have gb2:=gb1.trans g2
  have cn2:=cnb.grow gb2
  obtain⟨iv,hli,liv,ai⟩:=cn2.ow
  obtain⟨p,kv',e1',e2',e3'⟩:=ai _ _ (ring_at (G:=G) hu)
  dsimp only
  rw[lov,show((G.length:Nat):Int)+(u:Int)=((G.length+u:Nat):Int) by omega]
  refine⟨li,_,_,_,rfl,rfl,SqL.of hli,atI_nat (j:=G.length+u) e1',p,_,0,_,rfl,rfl,SqT.of e2',atI_nat (j:=0) rfl,small (by show 2≤1000000;decide),fun p1 hp1=>?_⟩
  have a1:=same_new hp1 (.tup [.str "v", .str (nmS (G.length+u))])
  have b1:(upd H2 p1 (.tup [.str "v", .str (nmS (G.length+u))])) p1=some (.tup [.str "v", .str (nmS (G.length+u))]):=upd_same
  revert a1 b1
  generalize upd H2 p1 (.tup [.str "v", .str (nmS (G.length+u))])=H3
  intro a1 b1
  refine⟨_,rfl,small (by show 2≤1000000;decide),fun p2 hp2=>?_⟩
  have a2:=same_new hp2 (.tup [.str "v", .str (nmS (G.length+m))])
  have b2:(upd H3 p2 (.tup [.str "v", .str (nmS (G.length+m))])) p2=some (.tup [.str "v", .str (nmS (G.length+m))]):=upd_same
  revert a2 b2
  generalize upd H3 p2 (.tup [.str "v", .str (nmS (G.length+m))])=H4
  intro a2 b2
  refine⟨small (by show 2≤1000000;decide),fun p3 hp3=>?_⟩
  have a3:=same_new hp3 (.tup [.str "n", .int 1])
  have b3:(upd H4 p3 (.tup [.str "n", .int 1])) p3=some (.tup [.str "n", .int 1]):=upd_same
  revert a3 b3
  generalize upd H4 p3 (.tup [.str "n", .int 1])=H5
  intro a3 b3
  refine⟨small (by show 3≤1000000;decide),fun p4 hp4=>?_⟩
  have a4:=same_new hp4 (.tup [.str "minus", .ref p2, .ref p3])
  have b4:(upd H5 p4 (.tup [.str "minus", .ref p2, .ref p3])) p4=some (.tup [.str "minus", .ref p2, .ref p3]):=upd_same
  revert a4 b4
  generalize upd H5 p4 (.tup [.str "minus", .ref p2, .ref p3])=H6
  intro a4 b4
  refine⟨small (by show 3≤1000000;decide),fun p5 hp5=>?_⟩
  have a5:=same_new hp5 (.tup [.str "call", .ref p1, .ref p4])
  have b5:(upd H6 p5 (.tup [.str "call", .ref p1, .ref p4])) p5=some (.tup [.str "call", .ref p1, .ref p4]):=upd_same
  revert a5 b5
  generalize upd H6 p5 (.tup [.str "call", .ref p1, .ref p4])=H7
  intro a5 b5
  have s27:=a1.trans (a2.trans (a3.trans (a4.trans a5)))
  have again:TmL H7 (.ref p5) (.call (.v (G.length+u)) (.op 1 (.v (G.length+m)) (.n 1))):=.call b5 (.v (a5 _ _ (a4 _ _ (a3 _ _ (a2 _ _ b1))))) (.op (a5 _ _ b4) (.v (a5 _ _ (a4 _ _ (a3 _ _ b2)))) (.n (a5 _ _ (a4 _ _ b3))))
  have g7:=grow_same g2.ok s27
  have gb7:=gb2.trans g7
  have tl7:TmL H7 tv t:=(tl.tps (grow_tps gb.ok (g1.trans g2))).same s27
  show tAsg _ _ _ [some (.ref st),some (.ref lo),some (.ref ls),some kv,some d,some (.int (m:Int)),some (.ref li),some (.str (nmS (G.length+m))),some (.ref lf),some (.int (i:Int)),o10,some tv,some (.ref p5)] H7
  refine⟨small (by show 2≤1000000;decide),fun q1 hq1=>?_⟩
  have c1:=same_new hq1 (.tup [.str "n", .int 0])
  have d1:(upd H7 q1 (.tup [.str "n", .int 0])) q1=some (.tup [.str "n", .int 0]):=upd_same
  revert c1 d1
  generalize upd H7 q1 (.tup [.str "n", .int 0])=H8
  intro c1 d1
  refine⟨_,rfl,small (by show 2≤1000000;decide),fun q2 hq2=>?_⟩
  have c2:=same_new hq2 (.tup [.str "v", .str (nmS (G.length+m))])
  have d2:(upd H8 q2 (.tup [.str "v", .str (nmS (G.length+m))])) q2=some (.tup [.str "v", .str (nmS (G.length+m))]):=upd_same
  revert c2 d2
  generalize upd H8 q2 (.tup [.str "v", .str (nmS (G.length+m))])=H9
  intro c2 d2
  refine⟨small (by show 3≤1000000;decide),fun q3 hq3=>?_⟩
  have c3:=same_new hq3 (.tup [.str "less", .ref q1, .ref q2])
  have d3:(upd H9 q3 (.tup [.str "less", .ref q1, .ref q2])) q3=some (.tup [.str "less", .ref q1, .ref q2]):=upd_same
  revert c3 d3
  generalize upd H9 q3 (.tup [.str "less", .ref q1, .ref q2])=H10
  intro c3 d3
  refine⟨_,rfl,_,rfl,small (by show 3≤1000000;decide),fun q4 hq4=>?_⟩
  have c4:=same_new hq4 (.tup [.str "plus",tv, .ref p5])
  have d4:(upd H10 q4 (.tup [.str "plus",tv, .ref p5])) q4=some (.tup [.str "plus",tv, .ref p5]):=upd_same
  revert c4 d4
  generalize upd H10 q4 (.tup [.str "plus",tv, .ref p5])=H11
  intro c4 d4
  have s711:=c1.trans (c2.trans (c3.trans c4))
  have g11:=gb7.trans (grow_same gb7.ok s711)
  refine⟨_,rfl,st,rfl,g11.ok,fun k H12 hk g12=>⟨small (by show 2≤1000000;decide),fun q5 hq5=>?_⟩⟩
  have tp12:=grow_tps g11.ok g12
  have c5:=same_new hq5 (.tup [.str "n", .int k])
  have d5:(upd H12 q5 (.tup [.str "n", .int k])) q5=some (.tup [.str "n", .int k]):=upd_same
  have ok12:=g12.ok
  revert c5 d5
  generalize upd H12 q5 (.tup [.str "n", .int k])=H13
  intro c5 d5
  refine⟨small (by show 4≤1000000;decide),fun q6 hq6=>?_⟩
  have c6:=same_new hq6 (.tup [.str "if", .ref q3, .ref q4, .ref q5])
  have t11:∀{b:Addr} {ys:List V},H11 b=some (.tup ys)→(upd H13 q6 (.tup [.str "if", .ref q3, .ref q4, .ref q5])) b=some (.tup ys):=fun h=>c6 _ _ (c5 _ _ (tp12 _ _ h))
  have tp11:Tps H11 (upd H13 q6 (.tup [.str "if", .ref q3, .ref q4, .ref q5])):=fun b ys h=>t11 h
  have lG:(G++List.replicate m fnn).length=G.length+m:=by rw[List.length_append,List.length_replicate]
  have wx:WT SK (G++List.replicate m fnn++[.n]) (.v (G.length+m)) .n:=by
   show(G++List.replicate m fnn++[Kd.n])[G.length+m]?=some .n
   rw[←lG]
   simp
  have wu:WT SK (G++List.replicate m fnn++[.n]) (.v (G.length+u)) fnn:=by
   show(G++List.replicate m fnn++[Kd.n])[G.length+u]?=some fnn
   rw[List.getElem?_append_left (by rw[lG];omega)]
   exact ring_at hu
  have tl11:TmL H11 tv t:=tl7.same s711
  have ag11:TmL H11 (.ref p5) (.call (.v (G.length+u)) (.op 1 (.v (G.length+m)) (.n 1))):=again.same s711
  refine nxt _ _ (.ift (.op 3 (.n 0) (.v (G.length+m))) (.op 0 t (.call (.v (G.length+u)) (.op 1 (.v (G.length+m)) (.n 1)))) (.n k)) _ ((g1.trans g2).trans (g7.trans ((grow_same g7.ok s711).trans (g12.trans (grow_same ok12 (c5.trans c6)))))) ?_ ?_ ?_ ?_
  ·exact .ift upd_same (.op (t11 (c4 _ _ d3)) (.n (t11 (c4 _ _ (c3 _ _ (c2 _ _ d1))))) (.v (t11 (c4 _ _ (c3 _ _ d2))))) (.op (t11 d4) (tl11.tps tp11) (ag11.tps tp11)) (.n (c6 _ _ d5))
  ·exact⟨⟨rfl,by decide,⟨rfl,by decide+kernel⟩,wx⟩,⟨rfl,by decide,wt,⟨.n,wu,rfl,by decide,wx,rfl,by decide+kernel⟩⟩,rfl,hk⟩
  ·simp only[dep,Nat.max_self,Nat.zero_max,Nat.max_zero,Nat.zero_add];omega
  ·simp only[sz];omega
 ·exact nxt tv o12 t H1 g1 (tl.tps (grow_tps gb.ok g1)) wt (by omega) (by omega)
end
end
section
variable {P:Program}{w:World}{K:PySem.W.Frag}{mg:Str→Option Value}{base:Heap}{f:Addr}{fd:FuncData}
theorem TmsL.len' {H:Hp}:∀{x y:Nat} {vs:List V} {ts:List Tm},TmsL H x y vs ts→vs.length=ts.length
 |_,_,_,_, .nil=>rfl
 |_,_,_,_, .cons _ _ h=>congrArg (·+1) h.len'
theorem mem_snocT {P:Tm→Prop}{bs:List Tm}{b:Tm}(h:∀x∈bs,P x)(hb:P b):∀x∈bs++[b],P x:=fun x hx=>by
 rcases List.mem_append.mp hx with z|z
 ·exact h x z
 ·rw[List.mem_singleton]at z;subst z;exact hb
section
variable {cdv:Value}{A:Around}{outer:List Env}{s:Shared}{H:Hp}{E:XK}{n:Nat}
set_option maxHeartbeats 4000000 in
theorem ps_stR4 (hr:Room (12+2*n) (A.deeper (envOfC "_law_ring" (defScope s_ring) s.heap.objs.size f cdv)))(ml:mg "len"=none)(mI:mg "int"=none)(mr:mg "range"=none)(h1:Has P w K mg base 1 "_law_next" ["_law_state","_law_many"] spNext)(h2:Has P w K mg base 2 "_law_number" ["_law_state"] spNumb)
  (hU:Has P w K mg base (12+2*n) "_law_grown" pGr (spGrU (n+1))):PSx (RX P w K mg base f cdv A outer s H E) stR4 (tR4 n):=by
 have hB:=bodyF
 unfold stR4
 show PSx _ (.For _ _ (forB ((defBody s_ring).getD 4 (.Pass ⟨0,0,0,0⟩))) [] _) _
 rw[hB]
 refine x_weak (x_for PassesOwn.never rfl (pi_range1 rfl mr (pa_cons (pv 5) pa_nil)) (pg_name (i:=9) sc_ring.nd rfl (Or.inl rfl))
  (x_cons ⟨ps_set (i:=10) sc_ring.nd rfl (Or.inl rfl) (pe_ix (ixL K) (pe_lst (pa_cons pe_int (pa_cons (pe_op op_sub (pv 4) pe_int) pa_nil))) (pe_callTy call_int1 rfl mI boot_int (pa_cons (pe_cmpR op_lt (pv 9) pe_int (nomark _)) pa_nil)) (fun _ _=>rfl))⟩
  (x_cons ⟨ps_set (i:=11) sc_ring.nd rfl (Or.inl rfl) (pcall hU hr (by omega) rfl (pa_cons (pv 0) (pa_cons (pe_op op_cat (pv 6) (pe_lst (pa_cons (pe_tup (pa_cons (pv 7) (pa_cons pe_str pa_nil))) pa_nil))) (pa_cons (pv 2) (pa_cons pe_str (pa_cons (pv 10) pa_nil))))))⟩
  (x_cons (ps_stRI hr (by omega) ml h1 h2) (x_one (ps_stRA ml)))))) ?_
 rintro D σ H ⟨Hb,st,lo,ls,li,lf,kv,G,SK,m,ovs,hT0,hm,hlo,lov,nlo,cnb,hlf,nlf,lg,n3,nxt⟩
 have hz:=sizeLine_eq
 have hσ:σ[5]?=some (some (.int (m:Int))):=by
  obtain⟨o9,o10,o11,o12,fvs,bs,rfl,_⟩:=hT0
  rfl
 refine⟨_,hσ,(m:Int),rfl,by omega,by omega,?_⟩
 rw[Int.toNat_natCast]
 have lG:(G++List.replicate m fnn).length=G.length+m:=by rw[List.length_append,List.length_replicate]
 have es:=sg_mono n
 refine for_range (n:=m) (tRT n Hb st lo ls li lf kv G SK m) hT0 ?_ nxt
 rintro i σ H1 hi ⟨o9,o10,o11,o12,fvs,bs,rfl,g1,hl1,tms,lbs,hbs,zbs⟩
 have lfv:=tms.len'
 rw[Int.zero_add]
 show tSeq _ _ _ [some (.ref st),some (.ref lo),some (.ref ls),some kv,some (.int ((n+1:Nat):Int)),some (.int (m:Int)),some (.ref li),some (.str (nmS (G.length+m))),some (.ref lf),some (.int (i:Int)),o10,o11,o12] H1
 refine⟨_,rfl,_,_,rfl,rfl,small (by show 2≤1000000;decide),fun l2 hl2=>?_⟩
 have a2:=same_new hl2 (.lst [.int 0, .int (((n+1:Nat):Int)-1)])
 have b2:(upd H1 l2 (.lst [.int 0, .int (((n+1:Nat):Int)-1)])) l2=some (.lst [.int 0, .int (((n+1:Nat):Int)-1)]):=upd_same
 revert a2 b2
 generalize upd H1 l2 (.lst [.int 0, .int (((n+1:Nat):Int)-1)])=H2
 intro a2 b2
 have g2:=g1.trans (grow_same g1.ok a2)
 have key:∃D:Nat,atI [V.int 0,V.int (((n+1:Nat):Int)-1)] (if(decide ((i:Int)<2))=true then 1 else 0)=some (.int (D:Int))∧D≤n∧(2≤i→D=0):=by
  by_cases z:(i:Int)<2
  ·rw[decide_eq_true z]
   exact⟨n,by rw[show(((n+1:Nat):Int)-1)=(n:Int) by omega];exact atI_nat (j:=1) rfl,Nat.le_refl _,fun h=>by omega⟩
  ·rw[decide_eq_false z]
   exact⟨0,atI_nat (j:=0) rfl,Nat.zero_le _,fun _=>rfl⟩
 obtain⟨D',hD,dn,d0⟩:=key
 refine⟨_,rfl,_,_,rfl,rfl, .inr ⟨_,rfl,l2,_,_,_,rfl,rfl,SqL.of b2,hD,?_⟩⟩
 have cn2:=cnb.grow g2
 obtain⟨iv,hli,liv,_⟩:=cn2.ow
 refine⟨_,rfl,_,rfl,_,rfl,small (by show 2≤1000000;decide),fun p3 hp3=>?_⟩
 have a3:=same_new hp3 (.tup [.str (nmS (G.length+m)), .str "n"])
 have b3:(upd H2 p3 (.tup [.str (nmS (G.length+m)), .str "n"])) p3=some (.tup [.str (nmS (G.length+m)), .str "n"]):=upd_same
 revert a3 b3
 generalize upd H2 p3 (.tup [.str (nmS (G.length+m)), .str "n"])=H3
 intro a3 b3
 refine⟨small (by show 1≤1000000;decide),fun l4 hl4=>?_⟩
 have a4:=same_new hl4 (.lst [.ref p3])
 have b4:(upd H3 l4 (.lst [.ref p3])) l4=some (.lst [.ref p3]):=upd_same
 revert a4 b4
 generalize upd H3 l4 (.lst [.ref p3])=H4
 intro a4 b4
 have s24:=a3.trans a4
 refine⟨li,l4,_,_,rfl,rfl,s24 _ _ hli,b4,small (by show iv.length+1≤1000000;rw[lG]at liv;omega),fun l5 hl5=>?_⟩
 have a5:=same_new hl5 (.lst (iv++[.ref p3]))
 have b5:(upd H4 l5 (.lst (iv++[.ref p3]))) l5=some (.lst (iv++[.ref p3])):=upd_same
 have n5:l5≠st:=(cn2.ok.same s24).fresh hl5
 revert a5 b5
 generalize upd H4 l5 (.lst (iv++[.ref p3]))=H5
 intro a5 b5
 have s25:=s24.trans a5
 have g25:=grow_same cn2.ok s25
 have g5:=g2.trans g25
 have cn5:Cn H5 st l5 ls (G++List.replicate m fnn++[.n]) SK:=(cn2.grow g25).more (s25 _ _ hli) b5 n5 (by rw[lG];exact a5 _ _ (a4 _ _ b3)) .n (by decide) (by rw[lG];omega)
 refine⟨_,rfl,_,rfl,D',by omega,st,l5,ls,_,_,SK, .n,rfl,cn5, .n,by simp only[rsk];omega,by simp only[hk];omega,by rw[List.length_append,lG];simp;omega,fun tv t H6 tl wt dt zt g6=>?_⟩
 have g06:=g5.trans g6
 have hl6:H6 lf=some (.lst fvs):=g6.1 _ _ nlf (s25 _ _ (a2 _ _ hl1))
 have tp16:Tps H1 H6:=fun b ys h=>grow_tps g5.ok g6 _ _ (s25 _ _ (a2 _ _ h))
 simp only[rsk]at dt
 refine⟨Hb,st,lo,ls,li,lf,kv,_,tv,_,_,G,SK,m,i,ovs,fvs,t,rfl,hlo,lov,nlo,cnb,g06,hm,tl,wt,fun tv' o12' t' H7 g7 tl' wt' dt' zt'=>?_⟩
 have g07:=g06.trans g7
 have hl7:=g7.1 _ _ nlf hl6
 refine⟨st,lo,ls,li,lf,kv,_,tv',_,_,G,SK,m,i,ovs,fvs,rfl,g07.1 _ _ nlo hlo,lov,cnb.grow g07,hi,hl7,by omega,fun p hp=>?_⟩
 have a8:=same_new hp (.tup [.str (nmS (G.length+i)), .str (nmS (G.length+m)),tv'])
 have b8:(upd H7 p (.tup [.str (nmS (G.length+i)), .str (nmS (G.length+m)),tv'])) p=some (.tup [.str (nmS (G.length+i)), .str (nmS (G.length+m)),tv']):=upd_same
 revert a8 b8
 generalize upd H7 p (.tup [.str (nmS (G.length+i)), .str (nmS (G.length+m)),tv'])=H8
 intro a8 b8
 have g08:=g07.trans (grow_same g07.ok a8)
 have tp8:Tps H8 (upd H8 lf (.lst (fvs++[.ref p]))):=fun b ys h=>by rw[upd_ne (ne_of h (a8 _ _ hl7) (by intro z;cases z))];exact h
 have tp17:Tps H1 H8:=fun b ys h=>a8 _ _ (grow_tps g06.ok g7 _ _ (tp16 _ _ h))
 refine⟨_,_,_,_,fvs++[.ref p],bs++[t'],rfl,g08.put hlf nlf,upd_same,((tms.tps tp17).tps tp8).snoc (by rw[show fvs.length=i by omega];exact tp8 _ _ b8) ((tl'.same a8).tps tp8),by rw[List.length_append,lbs];rfl,mem_snocT hbs ⟨wt',by omega⟩,?_⟩
 rw[szL_snoc]
 by_cases z:i<2
 ·rw[rb_lt z]
  have:sg D'≤sg n:=by
   have mono:∀a b,a≤b→sg a≤sg b:=fun a b h=>by
    induction h with
    |refl=>exact Nat.le_refl _
    |@step b _ ih=>rw[show sg (b+1)=3*sg b+82 from rfl];omega
   exact mono _ _ dn
  omega
 ·rw[rb_ge (by omega)]
  have:=d0 (by omega)
  subst this
  have:sg 0=7:=rfl
  omega
end
set_option maxHeartbeats 4000000 in
theorem ok_ring {n:Nat}(F:Fun K "_law_ring" "_law_ring" s_ring f fd)(ml:mg "len"=none)(ms:mg "str"=none)(mI:mg "int"=none)(mr:mg "range"=none)(mt:mg "tuple"=none)(h1:Has P w K mg base 1 "_law_next" ["_law_state","_law_many"] spNext)(h2:Has P w K mg base 2 "_law_number" ["_law_state"] spNumb)
  (hU:Has P w K mg base (12+2*n) "_law_grown" pGr (spGrU (n+1))) (n3:n≤3):FnOk P w K mg base CX0 (12+2*n+1) f fd pGr (spGr (n+1)):=by
 refine F.ok sc_ring (fun vs H Q E h=>?_) (fun cdv A outer s H vs Q E hr h=>?_)
 ·obtain⟨st,lo,ls,kv,G,SK,k,rfl,_⟩:=h
  rfl
 obtain⟨st,lo,ls,kv,G,SK,k,rfl,cn,hkv,hrs,h25,lG,q⟩:=h
 have hz:=sizeLine_eq
 have sp:=sg_mono n
 have es:sg (n+1)=3*sg n+82:=rfl
 have ed:((n+1:Nat):Int)-1=(n:Int):=by omega
 rw[bodyR]
 refine⟨_,pss_cons (ps_set (i:=5) sc_ring.nd rfl (Or.inl rfl) (pe_op op_add pe_int (pcall h1 hr (by omega) rfl (pa_cons (pv 0) (pa_cons pe_int pa_nil)))))
  (pss_cons (ps_stR1 ml ms mr).h
  (pss_cons (ps_set (i:=7) sc_ring.nd rfl (Or.inl rfl) (pe_op op_add_str pe_str (pe_callTy call_str_int rfl ms boot_str (pa_cons (pe_callB (clen K) rfl ml PySem.boot_len (pa_cons (pv 6) pa_nil)) pa_nil))))
  (pss_cons (ps_set (i:=8) sc_ring.nd rfl (Or.inl rfl) (pe_lst pa_nil))
  (pss_cons (ps_stR4 hr ml mI mr h1 h2 hU).h
  (pss_one (ps_ret (pe_tup (pa_cons pe_str (pa_cons (pe_callTy call_tuple_of rfl mt boot_tuple (pa_cons (pv 8) pa_nil)) (pa_cons (pcall hU hr (by omega) rfl (pa_cons (pv 0) (pa_cons (pv 6) (pa_cons (pv 2) (pa_cons (pv 3) (pa_cons (pe_op op_sub (pv 4) pe_int) pa_nil)))))) pa_nil)))))))))),?_⟩
 refine⟨_,rfl,st,5,rfl,cn.ok,by decide,by decide,fun d H1 d0 d1 g1=>⟨_,_,rfl,rfl,?_⟩⟩
 obtain⟨m,hm⟩:∃m:Nat,1+d=(m:Int):=⟨(1+d).toNat,by omega⟩
 have m1:1≤m:=by omega
 have m5:m≤5:=by omega
 dsimp only
 rw[hm]
 have cn1:=cn.grow g1
 refine⟨st,lo,ls,kv,_,G,SK,m,rfl,m5,cn1,by omega,fun li H2 s2 cn2=>?_⟩
 have lGm:(G++List.replicate m fnn).length=G.length+m:=by rw[List.length_append,List.length_replicate]
 obtain⟨iv,hli,liv,_⟩:=cn2.ow
 rw[lGm]at liv
 have g2:=g1.trans (grow_same g1.ok s2)
 refine⟨_,rfl,li,_,rfl, .inl (SqL.of hli),?_⟩
 rw[liv]
 have lx:=len40 (G.length+m) (by omega)
 refine⟨_,rfl,log_small (by omega) (by omega),"x",_,rfl,rfl,(by rw[x_len];omega),?_⟩
 rw[show("x"++(toString ((G.length+m:Nat):Int):Str):Str)=nmS (G.length+m) from rfl]
 refine⟨small (by show 0≤1000000;decide),fun lf hlf=>?_⟩
 have s3:=same_new hlf (.lst [])
 have b3:(upd H2 lf (.lst [])) lf=some (.lst []):=upd_same
 have nlf:=g2.ok.fresh hlf
 revert s3 b3
 generalize upd H2 lf (.lst [])=H3
 intro s3 b3
 obtain⟨ovs,hlo,lov,_⟩:=(cn.grow g2).ow
 refine⟨H2,st,lo,ls,li,lf,kv,G,SK,m,ovs,⟨none,none,none,none,[],[],rfl,grow_same g2.ok s3,b3, .nil,rfl,fun b hb=>by simp at hb,Nat.le_refl _⟩,⟨m1,m5⟩,hlo,lov,cn.no,cn2,hlf,nlf,by omega,n3,fun σ' H4 hT=>?_⟩
 obtain⟨o9,o10,o11,o12,fvs,bs,rfl,g4,hl4,tms,lbs,hbs,zbs⟩:=hT
 refine⟨_,rfl,lf,fvs,rfl, .inl ⟨SqL.of hl4,fun tp htp=>?_⟩⟩
 have s5:=same_new htp (.tup fvs)
 have b5:(upd H4 tp (.tup fvs)) tp=some (.tup fvs):=upd_same
 revert s5 b5
 generalize upd H4 tp (.tup fvs)=H5
 intro s5 b5
 have g25:=g4.trans (grow_same g4.ok s5)
 have g5:=g2.trans g25
 refine⟨_,rfl,_,rfl,_,rfl,_,rfl,_,rfl,_,_,rfl,rfl,?_⟩
 refine⟨n,by omega,st,li,ls,kv,_,SK,k,(by rw[←ed];rfl),cn2.grow g25,hkv.tps (grow_tps cn.ok g5),by omega,by omega,by rw[lGm];omega,fun v t H6 tl wt dt zt g6=>?_⟩
 refine⟨small (by show 3≤1000000;decide),fun pp hpp=>?_⟩
 have s7:=same_new hpp (.tup [.str "ring", .ref tp,v])
 have tp46:Tps H4 H6:=fun b ys h=>grow_tps g5.ok g6 _ _ (s5 _ _ h)
 have tp47:Tps H4 (upd H6 pp (.tup [.str "ring", .ref tp,v])):=fun b ys h=>s7 _ _ (tp46 _ _ h)
 have dL:depL bs≤3*n+4:=depL_le fun b hb=>(hbs b hb).2
 have re:=rb_end (M:=sg n+12) m5
 subst lbs
 refine q _ (.ring G.length bs t) _ (.ring upd_same (s7 _ _ (grow_tps g5.ok g6 _ _ b5)) (tms.tps tp47) (tl.same s7)) ⟨rfl,⟨m1,m5⟩,WTL_of fun b hb=>(hbs b hb).1,wt⟩ (by simp only[dep,mx1];exact⟨by omega,by omega⟩) (by simp only[sz];omega) (g5.trans (g6.trans (grow_same g6.ok s7)))
end
section
variable {P:Program}{w:World}{K:PySem.W.Frag}{mg:Str→Option Value}{base:Heap}{f:Addr}{fd:FuncData}
abbrev s_grown:Stmt:=top 56
abbrev nGr:List Str:=["_law_state","_law_own_here","_law_shared","_law_kind_here","_law_depth","_law_way","_law_name","_law_other","_law_term","_law_some"]
theorem sc_grown:FnScope nGr pGr (defScope s_grown):=⟨rfl,rfl,rfl,by decide+kernel,rfl,by decide+kernel,by decide+kernel⟩
@[irreducible] def stG0:Stmt:=(defBody s_grown).getD 0 (.Pass ⟨0,0,0,0⟩)
def restG:List Stmt:=(defBody s_grown).drop 1
theorem bodyG:defBody s_grown=stG0::restG:=by
 unfold stG0
 rfl
theorem hlocG:Loc (defScope s_grown) "_law_way":=Or.inl rfl
def tG0:TS:=fun D σ H=>∃(st:Addr) (v1 v2 v3 v4:V),σ=[some (.ref st),some v1,some v2,some v3,some v4,none,none,none,none,none]∧StOk H st∧∀(z:Str) H',Grow st H H'→D.nx [some (.ref st),some v1,some v2,some v3,some v4,some (.str z),none,none,none,none] H'
theorem ps_stG0 {cdv:Value}{A:Around}{outer:List Env}{s:Shared}{H:Hp}{E:XK}{n:Nat}(hr:Room n (A.deeper (envOfC "_law_grown" (defScope s_grown) s.heap.objs.size f cdv)))(hn:1≤n)(h1:Has P w K mg base 1 "_law_next" ["_law_state","_law_many"] spNext):
  PSx (cxOf CX0 P w K mg base nGr "_law_grown" (defScope s_grown) f cdv A outer s H E).nox stG0 tG0:=by
 unfold stG0
 refine x_weak (x_set (i:=5) (x:="_law_way") sc_grown.nd rfl hlocG (x_ix (ixL K) (x_lst (x_str (x_str (x_str (x_str (x_str (x_str (x_str x_nil)))))))) ⟨pcall h1 hr hn rfl (pa_cons (pv 0) (pa_cons pe_int pa_nil))⟩ (fun _ _=>rfl)) swaps_sub (.inl rfl)) ?_
 rintro D σ H ⟨st,v1,v2,v3,v4,rfl,ok,nxt⟩
 refine⟨small (by show 7≤1000000;decide),fun p hp=>?_⟩
 have g3:=grow_new (o:=.lst [.str "own", .str "let", .str "if", .str "call", .str "call", .str "ring", .str "ring"]) ok hp
 have np:=ok.fresh hp
 refine⟨_,rfl,st,7,rfl,g3.ok,by decide,by decide,fun e H4 e0 e2 g4=>?_⟩
 have hp4:=g4.1 _ _ np upd_same
 have wd:∃z:Str,atI [V.str "own",V.str "let",V.str "if",V.str "call",V.str "call",V.str "ring",V.str "ring"] e=some (.str z):=by
  have hh:e=0∨e=1∨e=2∨e=3∨e=4∨e=5∨e=6:=by omega
  rcases hh with rfl|rfl|rfl|rfl|rfl|rfl|rfl
  ·exact⟨_,atI_nat (j:=0) rfl⟩
  ·exact⟨_,atI_nat (j:=1) rfl⟩
  ·exact⟨_,atI_nat (j:=2) rfl⟩
  ·exact⟨_,atI_nat (j:=3) rfl⟩
  ·exact⟨_,atI_nat (j:=4) rfl⟩
  ·exact⟨_,atI_nat (j:=5) rfl⟩
  ·exact⟨_,atI_nat (j:=6) rfl⟩
 obtain⟨z,hw⟩:=wd
 exact⟨p,_,e,_,rfl,rfl,SqL.of hp4,hw,nxt z H4 (g3.trans g4)⟩
set_option maxHeartbeats 4000000 in
theorem ok_grown {n:Nat}(F:Fun K "_law_grown" "_law_grown" s_grown f fd)(ml:mg "len"=none)(ms:mg "str"=none)(mr:mg "range"=none)(h1:Has P w K mg base 1 "_law_next" ["_law_state","_law_many"] spNext)(h5:Has P w K mg base 2 "_law_kind" ["_law_state"] spKind)(h2:Has P w K mg base (10+2*n) "_law_grown" pGr (spGrN n))
  (h3:Has P w K mg base 9 "_law_leaf" pLf (spLeaf 6)) (h4:n≠0→Has P w K mg base (10+2*n+1) "_law_own" pGr (spGr n)) (h6:n≠0→Has P w K mg base (10+2*n+1) "_law_ring" pGr (spGr n)):FnOk P w K mg base CX0 (10+2*n+2) f fd pGr (spGr n):=by
 refine F.ok sc_grown (fun vs H Q E h=>?_) (fun cdv A outer s H vs Q E hr h=>?_)
 ·obtain⟨st,lo,ls,kv,G,SK,k,rfl,_⟩:=h
  rfl
 obtain⟨st,lo,ls,kv,G,SK,k,rfl,cn,hkv,hrs,h25,lG,q⟩:=h
 have hz:=sizeLine_eq
 rw[bodyG]
 by_cases n0:n=0
 ·subst n0
  refine⟨_,pss_cons (ps_stG0 hr (by omega) h1).h
   (pss_cons (ps_if (pt_cmpR op_eq (pv 4) pe_int (nomark _)) (pss_one (ps_ret (pcall h3 hr (by omega) rfl (pa_cons (pv 0) (pa_cons (pv 1) (pa_cons (pv 2) (pa_cons (pv 3) pa_nil))))))) pss_nil)
   (pss_cons ps_never (pss_cons ps_never (pss_cons ps_never (pss_cons ps_never (pss_one ps_never)))))),?_⟩
  refine⟨st,_,_,_,_,rfl,cn.ok,fun z H1 g1=>?_⟩
  refine⟨_,rfl,rfl,_,rfl,ite2 (fun c=>?_) (fun c=>absurd (decide_eq_true rfl) c)⟩
  exact⟨_,rfl,_,rfl,_,rfl,_,rfl,st,lo,ls,kv,G,SK,k,rfl,cn.grow g1,hkv.tps (grow_tps cn.ok g1),by omega,by omega,by omega,fun v t H2 tl wt dt zt g2=>q v t H2 tl wt (by omega) (by have:sg 0=7:=rfl;omega) (g1.trans g2)⟩
 obtain⟨j,rfl⟩:∃j,n=j+1:=⟨n-1,by omega⟩
 have h4:=h4 n0
 have h6:=h6 n0
 have sp:=sg_pos j
 have es:sg (j+1)=3*sg j+82:=rfl
 have ed:((j+1:Nat):Int)-1=(j:Int):=by omega
 refine⟨_,pss_cons (ps_stG0 hr (by omega) h1).h
  (pss_cons (ps_if (pt_cmpR op_eq (pv 4) pe_int (nomark _)) (pss_one ps_never) pss_nil)
  (pss_cons (ps_if (pt_cmpR op_eq (pv 5) pe_str (nomark _))
   (pss_cons (ps_set (i:=6) sc_grown.nd rfl (Or.inl rfl) (pe_op op_add_str pe_str (pe_callTy call_str_int rfl ms boot_str (pa_cons (pe_callB (clen K) rfl ml PySem.boot_len (pa_cons (pv 1) pa_nil)) pa_nil))))
   (pss_cons (ps_set (i:=7) sc_grown.nd rfl (Or.inl rfl) (pcall h5 hr (by omega) rfl (pa_cons (pv 0) pa_nil)))
   (pss_cons (ps_set (i:=8) sc_grown.nd rfl (Or.inl rfl) (pcall h2 hr (by omega) rfl (pa_cons (pv 0) (pa_cons (pv 1) (pa_cons (pv 2) (pa_cons (pv 7) (pa_cons (pe_op op_sub (pv 4) pe_int) pa_nil)))))))
   (pss_one (ps_ret (pe_tup (pa_cons pe_str (pa_cons (pv 6) (pa_cons (pv 8) (pa_cons (pcall h2 hr (by omega) rfl (pa_cons (pv 0) (pa_cons (pe_op op_cat (pv 1) (pe_lst (pa_cons (pe_tup (pa_cons (pv 6) (pa_cons (pv 7) pa_nil))) pa_nil))) (pa_cons (pv 2) (pa_cons (pv 3) (pa_cons (pe_op op_sub (pv 4) pe_int) pa_nil)))))) pa_nil)))))))))) pss_nil)
  (pss_cons (ps_if (pt_cmpR op_eq (pv 5) pe_str (nomark _))
   (pss_cons (ps_set (i:=8) sc_grown.nd rfl (Or.inl rfl) (pcall h2 hr (by omega) rfl (pa_cons (pv 0) (pa_cons (pv 1) (pa_cons (pv 2) (pa_cons pe_str (pa_cons (pe_op op_sub (pv 4) pe_int) pa_nil)))))))
   (pss_cons (ps_lc (defScope s_grown) nGr ["_law_state","_law_own_here","_law_shared","_law_kind_here","_law_depth"] [0,1,2,3,4] (by decide+kernel) (pi_range1 rfl mr (pa_cons pe_int pa_nil)) (pg_name (i:=9) sc_grown.nd rfl (Or.inl rfl)) (fun C s₀ H₀ ex=>pts_nil)
    (fun C s₀ H₀ ex=>pcall h2 hr (by omega) rfl (pa_cons (pv 1) (pa_cons (pv 2) (pa_cons (pv 3) (pa_cons (pv 4) (pa_cons (pe_op op_sub (pv 5) pe_int) pa_nil)))))) (by with_unfolding_all rfl))
   (pss_one (ps_ret (pe_tup (pa_cons pe_str (pa_cons (pv 8) (pa_cons (pe_ix (ixL K) (pv 9) pe_int (fun _ _=>rfl)) (pa_cons (pe_ix (ixL K) (pv 9) pe_int (fun _ _=>rfl)) pa_nil))))))))) pss_nil)
  (pss_cons (ps_if (pt_cmpR op_eq (pv 5) pe_str (nomark _))
   (pss_cons (ps_set (i:=7) sc_grown.nd rfl (Or.inl rfl) (pcall h5 hr (by omega) rfl (pa_cons (pv 0) pa_nil)))
   (pss_cons (ps_set (i:=8) sc_grown.nd rfl (Or.inl rfl) (pcall h2 hr (by omega) rfl (pa_cons (pv 0) (pa_cons (pv 1) (pa_cons (pv 2) (pa_cons (pe_tup (pa_cons pe_str (pa_cons (pv 7) (pa_cons (pv 3) pa_nil)))) (pa_cons (pe_op op_sub (pv 4) pe_int) pa_nil)))))))
   (pss_one (ps_ret (pe_tup (pa_cons pe_str (pa_cons (pv 8) (pa_cons (pcall h2 hr (by omega) rfl (pa_cons (pv 0) (pa_cons (pv 1) (pa_cons (pv 2) (pa_cons (pv 7) (pa_cons (pe_op op_sub (pv 4) pe_int) pa_nil)))))) pa_nil)))))))) pss_nil)
  (pss_cons (ps_if (pt_cmpR op_eq (pv 5) pe_str (nomark _)) (pss_one (ps_ret (pcall h6 hr (by omega) rfl (pa_cons (pv 0) (pa_cons (pv 1) (pa_cons (pv 2) (pa_cons (pv 3) (pa_cons (pv 4) pa_nil)))))))) pss_nil)
  (pss_one (ps_ret (pcall h4 hr (by omega) rfl (pa_cons (pv 0) (pa_cons (pv 1) (pa_cons (pv 2) (pa_cons (pv 3) (pa_cons (pv 4) pa_nil))))))))))))),?_⟩
 refine⟨st,_,_,_,_,rfl,cn.ok,fun z H1 g1=>?_⟩
 have cn1:=cn.grow g1
 have kv1:=hkv.tps (grow_tps cn.ok g1)
 refine⟨_,rfl,rfl,_,rfl,ite2 (fun c=>?_) (fun _=>?_)⟩
 ·exact absurd (of_decide_eq_true c) (by intro e;injection e with e;omega)
 refine⟨_,rfl,rfl,_,rfl,ite2 (fun c2=>?_) (fun c2=>?_)⟩
 ·obtain⟨ov1,hlo1,lov1,_⟩:=cn1.ow
  refine⟨_,rfl,lo,_,rfl, .inl (SqL.of hlo1),?_⟩
  rw[lov1]
  have lx:=len40 G.length (by omega)
  refine⟨_,rfl,log_small (by omega) (by omega),"x",_,rfl,rfl,(by rw[x_len];omega),?_⟩
  rw[show("x"++(toString ((G.length:Nat):Int):Str):Str)=nmS G.length from rfl]
  refine⟨_,rfl,st,rfl,cn1.ok,fun ov k2 H2 kd2 r2 hk2 g2=>?_⟩
  have g02:=g1.trans g2
  refine⟨_,rfl,_,rfl,_,rfl,_,rfl,_,rfl,_,_,rfl,rfl,?_⟩
  refine⟨st,lo,ls,ov,G,SK,k2,(by rw[←ed];rfl),cn.grow g02,kd2,by omega,by omega,by omega,fun v1 t1 H5 r1 w1 d1 z1 g5=>?_⟩
  have g05:=g02.trans g5
  have cn5:=cn.grow g05
  have kd5:=kd2.tps (grow_tps g02.ok g5)
  obtain⟨ov5,hlo5,lov5,_⟩:=cn5.ow
  refine⟨_,rfl,_,rfl,_,rfl,_,rfl,_,rfl,_,rfl,small (by show 2≤1000000;decide),fun p7 hp7=>?_⟩
  have a7:=same_new hp7 (.tup [.str (nmS G.length),ov])
  have b7:(upd H5 p7 (.tup [.str (nmS G.length),ov])) p7=some (.tup [.str (nmS G.length),ov]):=upd_same
  revert a7 b7
  generalize upd H5 p7 (.tup [.str (nmS G.length),ov])=H7
  intro a7 b7
  refine⟨small (by show 1≤1000000;decide),fun l8 hl8=>?_⟩
  have a8:=same_new hl8 (.lst [.ref p7])
  have b8:(upd H7 l8 (.lst [.ref p7])) l8=some (.lst [.ref p7]):=upd_same
  revert a8 b8
  generalize upd H7 l8 (.lst [.ref p7])=H8
  intro a8 b8
  have s68:=a7.trans a8
  refine⟨lo,l8,_,_,rfl,rfl,s68 _ _ hlo5,b8,small (by show ov5.length+1≤1000000;omega),fun l9 hl9=>?_⟩
  have a9:=same_new hl9 (.lst (ov5++[.ref p7]))
  have b9:(upd H8 l9 (.lst (ov5++[.ref p7]))) l9=some (.lst (ov5++[.ref p7])):=upd_same
  have n9:l9≠st:=(cn5.ok.same s68).fresh hl9
  revert a9 b9
  generalize upd H8 l9 (.lst (ov5++[.ref p7]))=H9
  intro a9 b9
  have s69:=s68.trans a9
  have g9:=grow_same cn5.ok s69
  have cn9:Cn H9 st l9 ls (G++[k2]) SK:=(cn5.grow g9).more (s69 _ _ hlo5) b9 n9 (a9 _ _ (a8 _ _ b7)) (kd5.same s69) (by omega) (by omega)
  refine⟨_,rfl,_,rfl,_,rfl,_,_,rfl,rfl,?_⟩
  refine⟨st,l9,ls,kv,G++[k2],SK,k,(by rw[←ed];rfl),cn9,(hkv.tps (grow_tps cn.ok g05)).same s69,by omega,by omega,by rw[List.length_append];simp;omega,fun v2 t2 H10 tl wt dt zt g10=>?_⟩
  refine⟨small (by show 4≤1000000;decide),fun p11 hp11=>?_⟩
  have a11:=same_new hp11 (.tup [.str "let", .str (nmS G.length),v1,v2])
  exact q _ (.lt G.length t1 t2) _ (.lt upd_same (((r1.same s69).tps (grow_tps g9.ok g10)).same a11) (tl.same a11)) ⟨rfl,k2,w1,wt⟩ (by simp only[dep,mx1];exact⟨by omega,by omega⟩) (by simp only[sz];omega) (g05.trans (g9.trans (g10.trans (grow_same g10.ok a11))))
 refine⟨_,rfl,rfl,_,rfl,ite2 (fun c3=>?_) (fun c3=>?_)⟩
 ·refine⟨_,rfl,_,rfl,_,rfl,_,rfl,_,_,rfl,rfl,?_⟩
  refine⟨st,lo,ls,_,G,SK, .n,(by rw[←ed];rfl),cn1, .n,by simp only[rsk]at hrs ⊢;omega,by simp only[hk]at h25 ⊢;omega,by omega,fun v1 t1 H5 r1 w1 d1 z1 g5=>?_⟩
  have g05:=g1.trans g5
  refine⟨2,rfl,by decide,by decide,?_⟩
  refine comp_range (n:=2) (fun i vs H'=>Grow st H5 H'∧∃ts:List Tm,AllL (TmL H') vs ts∧ts.length=i∧∀t∈ts,WT SK G t k∧dep t≤max (rsk k+2*j) (3*j+2)∧sz t≤sg j) ⟨Grow.refl g5.ok,[], .nil,rfl,fun t h=>by cases h⟩ ?_ ?_ ?_
  ·rintro i vs H' hi ⟨_,ts,rts,lts,_⟩
   have:=rts.1
   exact small' (by omega)
  ·rintro i vs H' hi ⟨gi,ts,rts,lts,hts⟩
   have g0i:=g05.trans gi
   refine tt1 (iteT ⟨_,rfl,_,rfl,_,rfl,_,rfl,_,rfl,_,_,rfl,rfl,?_⟩)
   refine⟨st,lo,ls,kv,G,SK,k,(by rw[←ed];rfl),cn.grow g0i,hkv.tps (grow_tps cn.ok g0i),by omega,by omega,by omega,fun v2 t2 H9 r2 w2 d2 z2 g9=>nx hi ⟨gi.trans g9,ts++[t2],(rts.mono fun v t=>TmL.tps (grow_tps gi.ok g9)).snoc r2,by rw[List.length_append,lts];rfl,fun t ht=>?_⟩⟩
   rcases List.mem_append.mp ht with h|h
   ·exact hts t h
   ·rw[List.mem_singleton.mp h];exact⟨w2,d2,z2⟩
  rintro vs H6 ⟨g6,ts,rts,lts,hts⟩ l hl
  match ts,lts,rts,hts with
  |[ta,tb],_,rts,hts=>
   obtain⟨va,hva,ra⟩:=rts.2 0 ta rfl
   obtain⟨vb,hvb,rb⟩:=rts.2 1 tb rfl
   have s7:=same_new hl (.lst vs)
   obtain⟨wa,da,za⟩:=hts ta (by simp)
   obtain⟨wb,db,zb⟩:=hts tb (by simp)
   show tSeq _ _ _ [some (.ref st),some (.ref lo),some (.ref ls),some kv,some (.int ((j+1:Nat):Int)),_,_,_,some v1,some (.ref l)] _
   refine⟨_,rfl,_,rfl,l,_,0,va,rfl,rfl,SqL.of upd_same,atI_nat (j:=0) hva,_,rfl,l,_,1,vb,rfl,rfl,SqL.of upd_same,atI_nat (j:=1) hvb,small (by show 4≤1000000;decide),fun pp hpp=>?_⟩
   have s8:=same_new hpp (.tup [.str "if",v1,va,vb])
   have s78:=s7.trans s8
   exact q _ (.ift t1 ta tb) _ (.ift upd_same ((r1.tps (grow_tps g5.ok g6)).same s78) (ra.same s78) (rb.same s78)) ⟨w1,wa,wb⟩ (by simp only[rsk]at d1;simp only[dep,mx1];exact⟨by omega,by omega,by omega⟩) (by simp only[sz];omega) (g05.trans (g6.trans (grow_same g6.ok s78)))
 refine⟨_,rfl,rfl,_,rfl,ite2 (fun c4=>?_) (fun c4=>?_)⟩
 ·refine⟨_,rfl,st,rfl,cn1.ok,fun ov k2 H2 kd2 r2 hk2 g2=>?_⟩
  have g02:=g1.trans g2
  have kv2:=hkv.tps (grow_tps cn.ok g02)
  refine⟨_,rfl,_,rfl,_,rfl,_,rfl,_,rfl,small (by show 3≤1000000;decide),fun p7 hp7=>?_⟩
  have a7:=same_new hp7 (.tup [.str "f",ov,kv])
  have b7:(upd H2 p7 (.tup [.str "f",ov,kv])) p7=some (.tup [.str "f",ov,kv]):=upd_same
  revert a7 b7
  generalize upd H2 p7 (.tup [.str "f",ov,kv])=H7
  intro a7 b7
  have g7:=g02.trans (grow_same g02.ok a7)
  refine⟨_,rfl,_,_,rfl,rfl,?_⟩
  refine⟨st,lo,ls, .ref p7,G,SK, .f k2 k,(by rw[←ed];rfl),cn.grow g7, .f b7 (kd2.same a7) (kv2.same a7),by simp only[rsk];omega,by simp only[hk];omega,by omega,fun v1 t1 H8 r1 w1 d1 z1 g8=>?_⟩
  have g08:=g7.trans g8
  refine⟨_,rfl,_,rfl,_,rfl,_,rfl,_,rfl,_,rfl,_,_,rfl,rfl,?_⟩
  refine⟨st,lo,ls,ov,G,SK,k2,(by rw[←ed];rfl),cn.grow g08,(kd2.same a7).tps (grow_tps g7.ok g8),by omega,by omega,by omega,fun v2 t2 H9 r2' w2 d2 z2 g9=>⟨small (by show 3≤1000000;decide),fun pp hpp=>?_⟩⟩
  have s10:=same_new hpp (.tup [.str "call",v1,v2])
  exact q _ (.call t1 t2) _ (.call upd_same ((r1.tps (grow_tps g8.ok g9)).same s10) (r2'.same s10)) ⟨k2,w1,w2⟩ (by simp only[rsk]at d1;simp only[dep,mx1];exact⟨by omega,by omega⟩) (by simp only[sz];omega) (g08.trans (g9.trans (grow_same g9.ok s10)))
 refine⟨_,rfl,rfl,_,rfl,ite2 (fun c5=>?_) (fun c5=>?_)⟩
 ·exact⟨_,rfl,_,rfl,_,rfl,_,rfl,_,rfl,st,lo,ls,kv,G,SK,k,rfl,cn1,kv1,hrs,h25,lG,fun v t H5 r5 w5 d5 z5 g5=>q v t H5 r5 w5 d5 z5 (g1.trans g5)⟩
 ·exact⟨_,rfl,_,rfl,_,rfl,_,rfl,_,rfl,st,lo,ls,kv,G,SK,k,rfl,cn1,kv1,hrs,h25,lG,fun v t H5 r5 w5 d5 z5 g5=>q v t H5 r5 w5 d5 z5 (g1.trans g5)⟩
theorem Has.weak {k:Nat}{x:Str}{ps:List Str}{sp sp':Sp}(h:Has P w K mg base k x ps sp)(q:∀vs H Q E,sp' vs H Q E→sp vs H Q E):Has P w K mg base k x ps sp':=by
 obtain⟨f',fd',a,b,c,d⟩:=h
 exact⟨f',fd',⟨fun vs H Q E h=>a.len vs H Q E (q vs H Q E h),fun A outer s H args us vs Q E x1 x2 x3 x4 h=>a.run A outer s H args us vs Q E x1 x2 x3 x4 (q vs H Q E h)⟩,b,c,d⟩
variable {fo fr:Addr}{fdo fdr:FuncData}
theorem grown_all (F:Fun K "_law_grown" "_law_grown" s_grown f fd)(bF:Binds K fd pGr [])(mF:mg "_law_grown"=some (.ref f))(Fo:Fun K "_law_own" "_law_own" s_own fo fdo)(bO:Binds K fdo pGr [])(mO:mg "_law_own"=some (.ref fo))(Fr:Fun K "_law_ring" "_law_ring" s_ring fr fdr)(bR:Binds K fdr pGr [])(mR:mg "_law_ring"=some (.ref fr))
  (ml:mg "len"=none) (ms:mg "str"=none) (mr:mg "range"=none) (mI:mg "int"=none) (mt:mg "tuple"=none) (h1:Has P w K mg base 1 "_law_next" ["_law_state","_law_many"] spNext) (h5:Has P w K mg base 2 "_law_kind" ["_law_state"] spKind) (h2:Has P w K mg base 2 "_law_number" ["_law_state"] spNumb) (h3:Has P w K mg base 9 "_law_leaf" pLf (spLeaf 6)):
  ∀n:Nat,n≤4→FnOk P w K mg base CX0 (10+2*n) f fd pGr (spGrU n)
 |0,_=>⟨fun vs H Q E h=>by obtain⟨D,hD,_⟩:=h;omega,fun A outer s H args us vs Q E _ _ _ _ h=>by obtain⟨D,hD,_⟩:=h;omega⟩
 |n+1,n4=>by
  have ih:=grown_all F bF mF Fo bO mO Fr bR mR ml ms mr mI mt h1 h5 h2 h3 n (by omega)
  have hU:Has P w K mg base (10+2*n) "_law_grown" pGr (spGrU n):=⟨f,fd,ih,bF,F.kp,mF⟩
  have g:=ok_grown (n:=n) F ml ms mr h1 h5 (hU.weak fun vs H Q E h=>by
   cases n with
   |zero=>exact h.elim
   |succ j=>exact⟨j,by omega,h⟩) h3 (fun hn=>by
    obtain⟨j,rfl⟩:∃j,n=j+1:=⟨n-1,by omega⟩
    have hj:Has P w K mg base (12+2*j) "_law_grown" pGr (spGr j):=by
     rw[show 12+2*j=10+2*(j+1) by omega]
     exact hU.weak fun vs H Q E h=>⟨j,by omega,h⟩
    exact⟨fo,fdo,by have:=ok_own Fo ml ms h1 (n:=j) hj;rwa [show 12+2*j+1=10+2*(j+1)+1 by omega]at this,bO,Fo.kp,mO⟩) (fun hn=>by
    obtain⟨j,rfl⟩:∃j,n=j+1:=⟨n-1,by omega⟩
    have hj:Has P w K mg base (12+2*j) "_law_grown" pGr (spGrU (j+1)):=by
     rw[show 12+2*j=10+2*(j+1) by omega]
     exact hU
    exact⟨fr,fdr,by have:=ok_ring Fr ml ms mI mr mt h1 h2 (n:=j) hj (by omega);rwa [show 12+2*j+1=10+2*(j+1)+1 by omega]at this,bR,Fr.kp,mR⟩)
  rw[show 10+2*(n+1)=10+2*n+2 by omega]
  refine⟨fun vs H Q E h=>?_,fun A outer s H args us vs Q E x1 x2 x3 x4 h=>?_⟩
  ·obtain⟨D,hD,h⟩:=h
   by_cases z:D=n
   ·subst z;exact g.len vs H Q E h
   ·exact ih.len vs H Q E ⟨D,by omega,h⟩
  ·obtain⟨D,hD,h⟩:=h
   by_cases z:D=n
   ·subst z;exact g.run A outer s H args us vs Q E x1 x2 x3 x4 h
   ·exact ih.run A outer s H args us vs Q E (by first|exact x1.mono (by omega)|exact x1) (by first|exact x2.mono (by omega)|exact x2) (by first|exact x3.mono (by omega)|exact x3) (by first|exact x4.mono (by omega)|exact x4) ⟨D,by omega,h⟩
end
structure WTV (us:List Tm)(SK:List Kd):Prop where
 ln:us.length=SK.length
 at_:∀(i:Nat) u,us[i]?=some u→∃k,SK[i]?=some k∧WT (SK.take i) [] u k∧dep u≤12∧sz u≤1255
 hk2:∀k∈SK,hk k≤30
theorem WTV.nil:WTV [] []:=⟨rfl,fun i u h=>by simp at h,fun k h=>by simp at h⟩
theorem WTV.snoc {us:List Tm}{SK:List Kd}{u:Tm}{k:Kd}(h:WTV us SK)(w:WT SK [] u k)(d:dep u≤12)(z:sz u≤1255)(hk1:hk k≤30):WTV (us++[u]) (SK++[k]):=by
 refine⟨by rw[List.length_append,List.length_append,h.ln];rfl,fun i x hx=>?_,fun k' hk'=>?_⟩
 ·by_cases c:i<us.length
  ·rw[List.getElem?_append_left c]at hx
   obtain⟨k',h1,h2,h3⟩:=h.at_ i x hx
   refine⟨k',by rw[List.getElem?_append_left (by rw[←h.ln];exact c)];exact h1,?_,h3⟩
   rw[List.take_append_of_le_length (by rw[←h.ln];omega)]
   exact h2
  ·have l:=(List.getElem?_eq_some_iff.mp hx).1
   rw[List.length_append]at l
   have e:i=us.length:=by simp at l;omega
   subst e
   simp at hx
   subst hx
   refine⟨k,by rw[h.ln];simp,?_,d,z⟩
   rw[h.ln,List.take_left]
   exact w
 ·rcases List.mem_append.mp hk' with y|y
  ·exact h.hk2 k' y
  ·rw[List.mem_singleton]at y;subst y;exact hk1
theorem WTV.wtp {us:List Tm}{SK:List Kd}{t:Tm}(h:WTV us SK)(w:WT SK [] t .n)(d:dep t≤12):∀(n i:Nat),us.length≤n+i→i≤us.length→WTP (SK.take i) (us.drop i) t
 |0,i,h1,h2=>by
  have e:i=us.length:=by omega
  subst e
  rw[List.drop_length,h.ln,List.take_length]
  exact⟨w,d⟩
 |n+1,i,h1,h2=>by
  by_cases c:i<us.length
  ·rw[List.drop_eq_getElem_cons c]
   obtain⟨k,g1,g2,g3,_⟩:=h.at_ i us[i] (List.getElem?_eq_getElem c)
   refine⟨k,g2,g3,?_⟩
   have e:SK.take i++[k]=SK.take (i+1):=by rw[List.take_add_one,g1];rfl
   rw[e]
   exact h.wtp w d n (i+1) (by omega) (by omega)
  ·have e:i=us.length:=by omega
   subst e
   rw[List.drop_length,h.ln,List.take_length]
   exact⟨w,d⟩
theorem sum_le {us:List Tm}(h:∀u∈us,sz u≤1255):(us.map fun u=>2*sz u+1).sum≤us.length*2511:=by
 induction us with
 |nil=>simp
 |cons u us ih=>
  have h1:=h u List.mem_cons_self
  have h2:=ih fun x hx=>h x (List.mem_cons_of_mem _ hx)
  rw[List.map_cons,List.sum_cons,List.length_cons,Nat.add_mul]
  omega
theorem WTV.szp {us:List Tm}{SK:List Kd}{t:Tm}(h:WTV us SK)(l:us.length≤9)(z:sz t≤1255):szP us t≤50000:=by
 have h1:∀u∈us,sz u≤1255:=fun u hu=>by
  obtain⟨i,hi,rfl⟩:=List.getElem_of_mem hu
  obtain⟨k,_,_,_,q⟩:=h.at_ i _ (List.getElem?_eq_getElem hi)
  exact q
 have h2:=sum_le h1
 have h3:us.length*2511≤9*2511:=Nat.mul_le_mul_right _ l
 unfold szP
 omega
def spVals:Sp:=fun vs H Q _=>∃(st:Addr),vs=[.ref st, .int 3]∧StOk H st∧∀(pp lv:Addr) (v:V) (uvs:List V) (us:List Tm) (t:Tm) H',H' pp=some (.tup [.ref lv,v])→H' lv=some (.lst uvs)→lv≠st→AllL (TmL H') uvs us→WTP [] us t→us.length≤9→szP us t≤50000→TmL H' v t→Grow st H H'→Q (.ref pp) H'
section
variable {P:Program}{w:World}{K:PySem.W.Frag}{mg:Str→Option Value}{base:Heap}{f:Addr}{fd:FuncData}
abbrev s_vals:Stmt:=top 57
abbrev nVa:List Str:=["_law_state","_law_depth","_law_shared","_law_vals_here","_law_k","_law_kind_here"]
theorem sc_vals:FnScope nVa ["_law_state","_law_depth"] (defScope s_vals):=⟨rfl,rfl,rfl,by decide+kernel,rfl,by decide+kernel,by decide+kernel⟩
set_option maxHeartbeats 2000000 in
theorem ok_vals (F:Fun K "_law_vals" "_law_vals" s_vals f fd)(mr:mg "range"=none)(mI:mg "int"=none)(h1:Has P w K mg base 1 "_law_next" ["_law_state","_law_many"] spNext)(h5:Has P w K mg base 2 "_law_kind" ["_law_state"] spKind)(h2:Has P w K mg base 18 "_law_grown" pGr (spGr 3)):
  FnOk P w K mg base CX0 19 f fd ["_law_state","_law_depth"] spVals:=by
 refine F.ok sc_vals (fun vs H Q E h=>?_) (fun cdv A outer s H vs Q E hr h=>?_)
 ·obtain⟨st,rfl,_⟩:=h
  rfl
 obtain⟨st,rfl,ok,q⟩:=h
 refine⟨_,pss_cons (ps_set (i:=2) sc_vals.nd rfl (Or.inl rfl) (pe_lst pa_nil))
  (pss_cons (ps_set (i:=3) sc_vals.nd rfl (Or.inl rfl) (pe_lst pa_nil))
  (pss_cons (ps_for PassesOwn.never rfl (pi_range1 rfl mr (pa_cons (pe_ix (ixL K) (pe_lst (pa_cons (pcall h1 hr (by decide) rfl (pa_cons (pv 0) (pa_cons pe_int pa_nil))) (pa_cons (pe_op op_add pe_int (pcall h1 hr (by decide) rfl (pa_cons (pv 0) (pa_cons pe_int pa_nil)))) pa_nil)))
    (pe_callTy call_int1 rfl mI boot_int (pa_cons (pe_cmpR op_eq (pcall h1 hr (by decide) rfl (pa_cons (pv 0) (pa_cons pe_int pa_nil))) pe_int (nomark _)) pa_nil)) (fun _ _=>rfl)) pa_nil)) (pg_name (i:=4) sc_vals.nd rfl (Or.inl rfl))
   (pss_cons (ps_set (i:=5) sc_vals.nd rfl (Or.inl rfl) (pcall h5 hr (by decide) rfl (pa_cons (pv 0) pa_nil)))
   (pss_cons (ps_expr (pe_bm PySem.F.plainAttrs_list PySem.F.slot_list_append PySem.F.type_list_append mt_append (pv 3) (pa_cons (pcall h2 hr (by decide) rfl (pa_cons (pv 0) (pa_cons (pe_lst pa_nil) (pa_cons (pv 2) (pa_cons (pv 5) (pa_cons (pv 1) pa_nil)))))) pa_nil)))
   (pss_one (ps_expr (pe_bm PySem.F.plainAttrs_list PySem.F.slot_list_append PySem.F.type_list_append mt_append (pv 2) (pa_cons (pv 5) pa_nil)))))))
  (pss_one (ps_ret (pe_tup (pa_cons (pv 3) (pa_cons (pcall h2 hr (by decide) rfl (pa_cons (pv 0) (pa_cons (pe_lst pa_nil) (pa_cons (pv 2) (pa_cons pe_str (pa_cons (pv 1) pa_nil)))))) pa_nil))))))),?_⟩
 have sg4:sg 3=1255:=rfl
 refine⟨small (by show 0≤1000000;decide),fun lsh hlsh=>?_⟩
 refine⟨small (by show 0≤1000000;decide),fun lv hlv=>?_⟩
 have s1:=same_new hlsh (.lst [])
 have s2:=same_new hlv (.lst [])
 have s12:=s1.trans s2
 have hlv0:H lv=none:=s1.free hlv
 have nsh:=ok.fresh hlsh
 have nlv:=ok.fresh hlv0
 have nvs:lv≠lsh:=fun e=>by rw[e,upd_same]at hlv;cases hlv
 have g2:=grow_same ok s12
 refine⟨_,rfl,st,3,rfl,g2.ok,by decide,by decide,fun a H3 a0 a1 g3=>⟨_,rfl,st,3,rfl,g3.ok,by decide,by decide,fun b H4 b0 b1 g4=>⟨_,_,rfl,rfl,small (by show 2≤1000000;decide),fun li hli=>?_⟩⟩⟩
 have g5:=grow_new (o:=.lst [.int a, .int (7+b)]) g4.ok hli
 have nli:=g4.ok.fresh hli
 refine⟨_,rfl,st,9,rfl,g5.ok,by decide,by decide,fun c H6 c0 c1 g6=>⟨rfl, .inr ⟨_,rfl,?_⟩⟩⟩
 have hli6:=g6.1 _ _ nli upd_same
 have key:∀(x:Bool),∃m:Nat,atI [V.int a,V.int (7+b)] (if x=true then 1 else 0)=some (.int (m:Int))∧m≤9:=fun x=>by
  cases x
  ·exact⟨a.toNat,by rw[show((a.toNat:Nat):Int)=a by omega];exact atI_nat (j:=0) rfl,by omega⟩
  ·exact⟨(7+b).toNat,by rw[show(((7+b).toNat:Nat):Int)=7+b by omega];exact atI_nat (j:=1) rfl,by omega⟩
 obtain⟨m,hm,m9⟩:=key (decide (V.int c=V.int 8))
 refine⟨li,_,_,_,rfl,rfl,SqL.of hli6,hm,_,rfl,by omega,by omega,?_⟩
 rw[show(m:Int).toNat=m by omega]
 have g26:=g2.trans (g3.trans (g4.trans (g5.trans g6)))
 have g36:=g3.trans (g4.trans (g5.trans g6))
 have hsh6:H6 lsh=some (.lst []):=g36.1 _ _ nsh (s2 _ _ upd_same)
 have hlv6:H6 lv=some (.lst []):=g36.1 _ _ nlv upd_same
 refine for_range (n:=m) (fun i σ H'=>∃(o4 o5:Option V) (uvs:List V) (us:List Tm) (svs:List V) (SK:List Kd),σ=[some (.ref st),some (.int 3),some (.ref lsh),some (.ref lv),o4,o5]∧Grow st H H'∧H' lsh=some (.lst svs)∧AllL (KdL H') svs SK∧H' lv=some (.lst uvs)∧AllL (TmL H') uvs us∧us.length=i∧WTV us SK)
  ⟨none,none,[],[],[],[],rfl,g26,hsh6, .nil,hlv6, .nil,rfl,WTV.nil⟩ ?_ ?_
 ·rintro i σ H7 hi ⟨o4,o5,uvs,us,svs,SK,rfl,g7,hsh7,ak7,hv7,au7,lus,wv⟩
  refine⟨_,rfl,st,rfl,g7.ok,fun kv k H8 kd8 r8 hk8 g8=>?_⟩
  have g08:=g7.trans g8
  have hsh8:=g8.1 _ _ nsh hsh7
  have hv8:=g8.1 _ _ nlv hv7
  have tp8:=grow_tps g7.ok g8
  have lsk:=wv.ln
  refine⟨_,rfl, .inl ⟨rfl,_,SqL.of hv8⟩,_,rfl,small (by show 0≤1000000;decide),fun le hle=>?_⟩
  have s9:=same_new hle (.lst [])
  have g9:=grow_same g08.ok s9
  have cn9:Cn (upd H8 le (.lst [])) st le lsh [] SK:=⟨g9.ok,⟨[],upd_same,rfl,fun i k h=>by simp at h⟩,⟨svs,s9 _ _ hsh8,(ak7.mono fun v k=>KdL.tps tp8).mono fun v k=>KdL.same s9⟩,g08.ok.fresh hle,nsh,fun k h=>by simp at h,wv.hk2,by decide,by omega⟩
  refine⟨_,rfl,_,rfl,_,rfl,st,le,lsh,kv,[],SK,k,rfl,cn9,kd8.same s9,by omega,by omega,by decide,fun v t H10 tl10 w10 d10 z10 g10=>?_⟩
  have g810:=g9.trans g10
  have g710:=g8.trans g810
  have hv10:=g10.1 _ _ nlv (s9 _ _ hv8)
  have hsh10:=g10.1 _ _ nsh (s9 _ _ hsh8)
  have lu:=au7.1
  have lk:=ak7.1
  refine⟨lv,uvs,v,rfl,rfl,hv10,small' (by omega),?_⟩
  have hsh11:(upd H10 lv (.lst (uvs++[v]))) lsh=some (.lst svs):=by rw[upd_ne (Ne.symm nvs)];exact hsh10
  refine⟨_,rfl, .inl ⟨rfl,_,SqL.of hsh11⟩,_,rfl,lsh,_,kv,rfl,rfl,hsh11,small' (by omega),?_⟩
  have tu:Tps H10 (upd (upd H10 lv (.lst (uvs++[v]))) lsh (.lst (svs++[kv]))):=fun b xs h=>by
   rw[upd_ne (ne_of h hsh10 (by intro z;cases z)),upd_ne (ne_of h hv10 (by intro z;cases z))];exact h
  have okN:StOk (upd (upd H10 lv (.lst (uvs++[v]))) lsh (.lst (svs++[kv]))) st:=by
   obtain⟨x,y,hxy⟩:=g10.ok
   exact⟨x,y,by rw[upd_ne (Ne.symm nsh),upd_ne (Ne.symm nlv)];exact hxy⟩
  have tp10:=grow_tps g7.ok g710
  refine⟨_,_,uvs++[v],us++[t],svs++[kv],SK++[k],rfl,⟨fun b o nb h=>?_,okN⟩,upd_same,?_,by rw[upd_ne nvs];exact upd_same,?_,by rw[List.length_append,lus];rfl,wv.snoc w10 (by omega) (by omega) (by omega)⟩
  ·rw[upd_ne (ne_of_none h hlsh),upd_ne (ne_of_none h hlv0)]
   exact(g7.trans g710).1 b o nb h
  ·exact((ak7.mono fun v k=>KdL.tps tp10).snoc ((kd8.same s9).tps (grow_tps g9.ok g10))).mono fun v k=>KdL.tps tu
  ·exact((au7.mono fun v t=>TmL.tps tp10).snoc tl10).mono fun v t=>TmL.tps tu
 ·rintro σ H7 ⟨o4,o5,uvs,us,svs,SK,rfl,g7,hsh7,ak7,hv7,au7,lus,wv⟩
  refine⟨_,rfl,_,rfl,small (by show 0≤1000000;decide),fun le hle=>?_⟩
  have s8:=same_new hle (.lst [])
  have g8:=grow_same g7.ok s8
  have lsk:=wv.ln
  have cn8:Cn (upd H7 le (.lst [])) st le lsh [] SK:=⟨g8.ok,⟨[],upd_same,rfl,fun i k h=>by simp at h⟩,⟨svs,s8 _ _ hsh7,ak7.mono fun v k=>KdL.same s8⟩,g7.ok.fresh hle,nsh,fun k h=>by simp at h,wv.hk2,by decide,by omega⟩
  refine⟨_,rfl,_,rfl,st,le,lsh,_,[],SK, .n,rfl,cn8, .n,by decide,by decide,by decide,fun v t H9 r9 w9 d9 z9 g9=>⟨small (by show 2≤1000000;decide),fun pp hpp=>?_⟩⟩
  have s10:=same_new hpp (.tup [.ref lv,v])
  have g79:=g8.trans g9
  have hv10:=s10 _ _ (g79.1 _ _ nlv hv7)
  simp only[rsk]at d9
  have wtp:=wv.wtp w9 (by omega) us.length 0 (by omega) (by omega)
  exact q pp lv v uvs us t _ upd_same hv10 nlv ((au7.mono fun v t=>TmL.tps (grow_tps g7.ok g79)).mono fun v t=>TmL.same s10) wtp (by omega) (wv.szp (by omega) (by omega)) (r9.same s10) (g7.trans (g79.trans (grow_same g79.ok s10)))
end
end Fw
namespace L2
open PySem PySem.Spec PyProof.Rows
theorem op_neI {X:Cx}(hu:X.A.units<cLine):OpR X (compareOp .NotEq) (fun x y H Q=>∃(a b:Addr) (xs:List V),x=.ref a∧y=.ref b∧H a=some (.tup xs)∧H b=some (.tup xs)∧(∀v∈xs,∃r:Addr,v=.ref r)∧Q (.bl false) H):=by
 intro pins s σ H x y v u Q I rx ry h
 obtain⟨a,b,xs,rfl,rfl,ha,hb,hr,q⟩:=h
 cases rx
 cases ry
 obtain⟨z1,its1,v1,p1⟩:=I.hok a _ ha
 obtain⟨z2,its2,v2,p2⟩:=I.hok b _ hb
 have l1:=v1.length
 have l2:=v2.length
 have q':=SeqAt.RcNeAt.tuples (A:=X.A) (s:=s) (e:=fun _=>true) (show s.heap.IsTuple a its1.toArray from p1) (show s.heap.IsTuple b its2.toArray from p2) hu fun j h1 h2=>?_
 ·have e1:its1.toArray.size=its2.toArray.size:=by simp;omega
  rw[e1]at q'
  have e2:(List.range (min its2.toArray.size its2.toArray.size)).all (fun _=>true)=true:=by simp
  rw[e2,beq_self_eq_true]at q'
  exact q' X.prog X.w _ _ ⟨.bl false,H,I,rfl,q⟩
 ·have h1':j<its1.length:=by simpa using h1
  have h2':j<its2.length:=by simpa using h2
  obtain⟨x',hx'⟩:∃x',xs[j]?=some x':=⟨xs[j]'(by omega),List.getElem?_eq_getElem _⟩
  obtain⟨u1,hu1,ru1⟩:=v1.get hx'
  obtain⟨u2,hu2,ru2⟩:=v2.get hx'
  obtain⟨r,rfl⟩:=hr x' (List.mem_of_getElem? hx')
  cases ru1
  cases ru2
  have e1:its1.toArray[j]=.ref r:=by
   have:=(List.getElem?_eq_some_iff.mp hu1).2
   simpa using this
  have e2:its2.toArray[j]=.ref r:=by
   have:=(List.getElem?_eq_some_iff.mp hu2).2
   simpa using this
  rw[e1,e2]
  exact SeqAt.EqAt.same _
end L2
namespace Fw
open PySem PySem.Spec PyProof.Rows L2
theorem boot_min':bootBuiltins "min"=some (.builtin "min"):=by decide+kernel
theorem boot_max':bootBuiltins "max"=some (.builtin "max"):=by decide+kernel
theorem scal_out (o:Out):scal (outV o) (outV o)=true:=by cases o<;>rfl
theorem CodeL.tps {H H':Hp}{rvs:List V}{rows:List Rw}(c:CodeL H rvs rows)(e:Tps H H'):CodeL H' rvs rows:=⟨c.1,fun i x h=>by
 obtain⟨a,h1,h2⟩:=c.2 i x h
 exact⟨a,h1,h2.tps e⟩⟩
theorem code_refs {H:Hp}{rvs:List V}{rows:List Rw}(c:CodeL H rvs rows):∀v∈rvs,∃r:Addr,v=.ref r:=fun v hv=>by
 obtain⟨i,hi,rfl⟩:=List.getElem_of_mem hv
 have hi2:i<rows.length:=by rw[←c.1];exact hi
 obtain⟨r,h1,_⟩:=c.2 i _ (List.getElem?_eq_getElem hi2)
 rw[List.getElem?_eq_getElem hi]at h1
 exact⟨r,Option.some.inj h1⟩
inductive CspLaw (K:PySem.W.Frag)(vs:List V)(H:Hp)(Q:VK)(E_:XK):Prop where
 |mk (a:Addr) (ns:List Int):vs=[.ref a]→SqL K H a (ns.map V.int)→ns.length≤63→(∀H',Q (.bl true) H')→CspLaw K vs H Q E_
def spLaw (K:PySem.W.Frag):Sp:=CspLaw K
section
variable {P:Program}{w:World}{K:PySem.W.Frag}{mg:Str→Option Value}{base:Heap}{f:Addr}{fd:FuncData}
abbrev s_law:Stmt:=top 71
abbrev nLaw:List Str:=["_law_script","_law_k","_law_state","_law_vals_here","_law_term","_law_code_here","_law_most","_law_told_here","_law_copy"]
theorem sc_law:FnScope nLaw ["_law_script"] (defScope s_law):=⟨rfl,rfl,rfl,by decide+kernel,rfl,by decide+kernel,by decide+kernel⟩
@[irreducible] def stL0:Stmt:=(defBody s_law).getD 0 (.Pass ⟨0,0,0,0⟩)
def restL:List Stmt:=(defBody s_law).drop 1
theorem bodyL:defBody s_law=stL0::restL:=by
 unfold stL0
 rfl
theorem hlocM:Loc (defScope s_law) "_law_most":=Or.inl rfl
def tTurn (K:PySem.W.Frag):TS:=fun D σ H=>∃(sc:Addr) (ns:List Int) (k:Nat) (o2 o3 o4 o5 o6 o7 o8:Option V),σ=[some (.ref sc),some (.int (k:Int)),o2,o3,o4,o5,o6,o7,o8]∧k≤1000∧SqL K H sc (ns.map V.int)∧∀(q2 q3 q4 q5 q6 q7 q8:Option V) H',Same H H'→D.nx [some (.ref sc),some (.int (k:Int)),q2,q3,q4,q5,q6,q7,q8] H'
theorem mosts {e:Int}(h0:0≤e)(h1:e<8):∃m:Int,atI [V.int 300,V.int 300,V.int 300,V.int 300,V.int 1,V.int 4,V.int 6,V.int 9] e=some (.int m):=by
 obtain⟨n,rfl⟩:∃n:Nat,e=(n:Int):=⟨e.toNat,(Int.toNat_of_nonneg h0).symm⟩
 have:n=0∨n=1∨n=2∨n=3∨n=4∨n=5∨n=6∨n=7:=by omega
 rcases this with rfl|rfl|rfl|rfl|rfl|rfl|rfl|rfl
 ·exact⟨_,atI_nat (j:=0) rfl⟩
 ·exact⟨_,atI_nat (j:=1) rfl⟩
 ·exact⟨_,atI_nat (j:=2) rfl⟩
 ·exact⟨_,atI_nat (j:=3) rfl⟩
 ·exact⟨_,atI_nat (j:=4) rfl⟩
 ·exact⟨_,atI_nat (j:=5) rfl⟩
 ·exact⟨_,atI_nat (j:=6) rfl⟩
 ·exact⟨_,atI_nat (j:=7) rfl⟩
def tL0 (K:PySem.W.Frag):TS:=fun D σ H=>∃(sc:Addr) (ns:List Int),σ=[some (.ref sc),none,none,none,none,none,none,none,none]∧SqL K H sc (ns.map V.int)∧ns.length≤63∧∀σ' H',D.nx σ' H'
set_option maxHeartbeats 4000000 in
theorem ps_stL0 {cdv:Value}{A:Around}{outer:List Env}{s:Shared}{H0:Hp}{E:XK}(hr:Room 155 (A.deeper (envOfC "law" (defScope s_law) s.heap.objs.size f cdv)))(mr:mg "range"=none)(ml:mg "len"=none)(mm:mg "min"=none)(mM:mg "max"=none)(mt:mg "tuple"=none)(mL:mg "list"=none)
  (h1:Has P w K mg base 2 "_law_drawn" ["_law_script","_law_k","_law_salt"] (spDrawn K)) (h2:Has P w K mg base 19 "_law_vals" ["_law_state","_law_depth"] spVals) (h3:Has P w K mg base 1 "_law_next" ["_law_state","_law_many"] spNext)
  (h4:Has P w K mg base 27 "_law_code" ["_law_vals_here","_law_term","_law_about"] spCode) (h5:Has P w K mg base 155 "_law_due" ["_law_vals_here","_law_term","_law_most"] spDue) (h6:Has P w K mg base 6 "_law_told" ["_law_code_here","_law_most"] spToldR):
  PSx (cxOf CX0 P w K mg base nLaw "law" (defScope s_law) f cdv A outer s H0 E).nox stL0 (tL0 K):=by
 unfold stL0
 have hu:=hr.units0
 refine x_weak (x_for PassesOwn.never rfl (pi_range1 rfl mr (pa_cons (pe_callB (call_min2 rfl) rfl mm boot_min' (pa_cons (pe_callB (call_max2 rfl) rfl mM boot_max' (pa_cons pe_int (pa_cons (pe_callB (clen K) rfl ml PySem.boot_len (pa_cons (pv 0) pa_nil)) pa_nil))) (pa_cons pe_int pa_nil))) pa_nil)) (pg_name (i:=1) sc_law.nd rfl (Or.inl rfl))
   (x_weaks (t':=tTurn K)
   (x_cons ⟨ps_set (i:=2) sc_law.nd rfl (Or.inl rfl) (pcall h1 hr (by decide) rfl (pa_cons (pv 0) (pa_cons (pv 1) (pa_cons pe_int pa_nil))))⟩
   (x_cons ⟨ps_asg (pcall h2 hr (by decide) rfl (pa_cons (pv 2) (pa_cons pe_int pa_nil))) (pgT K rfl (pgs_cons (pg_name (i:=3) sc_law.nd rfl (Or.inl rfl)) (pgs_cons (pg_name (i:=4) sc_law.nd rfl (Or.inl rfl)) pgs_nil)))⟩
   (x_cons ⟨ps_set (i:=5) sc_law.nd rfl (Or.inl rfl) (pcall h4 hr (by decide) rfl (pa_cons (pv 3) (pa_cons (pv 4) (pa_cons (pcall h3 hr (by decide) rfl (pa_cons (pv 2) (pa_cons pe_int pa_nil))) pa_nil))))⟩
   (x_cons (x_set (i:=6) (x:="_law_most") sc_law.nd rfl hlocM (x_ix (ixL K) (x_lst (x_int (x_int (x_int (x_int (x_int (x_int (x_int (x_int x_nil))))))))) ⟨pcall h3 hr (by decide) rfl (pa_cons (pv 2) (pa_cons pe_int pa_nil))⟩ (fun _ _=>rfl)) swaps_sub (.inl rfl))
   (x_cons ⟨ps_set (i:=7) sc_law.nd rfl (Or.inl rfl) (pcall h5 hr (by decide) rfl (pa_cons (pv 3) (pa_cons (pv 4) (pa_cons (pv 6) pa_nil))))⟩
   (x_cons ⟨ps_set (i:=8) sc_law.nd rfl (Or.inl rfl) (pe_callTy call_tuple_of rfl mt boot_tuple (pa_cons (pe_callTy call_list_of rfl mL boot_list (pa_cons (pv 5) pa_nil)) pa_nil))⟩
   (x_one ⟨ps_if (PW.pt (pw_or (pt_cmpR op_ne (pcall h6 hr (by decide) rfl (pa_cons (pv 5) (pa_cons (pv 6) pa_nil))) (pv 7) (nomark _))
     (pw_or (pt_cmpR (op_neI hu) (pv 5) (pv 8) (nomark _)) (pw_or1 (PW.pt (pw_and (pt_cmpR op_eq (pe_op op_mod (pv 1) pe_int) pe_int (nomark _)) (pw_and1 (pt_cmpR op_ne (pcall h6 hr (by decide) rfl (pa_cons (pv 5) (pa_cons (pv 6) pa_nil))) (pv 7) (nomark _)))))))))
    (pss_one (ps_ret pe_bl)) pss_nil⟩))))))) ?qr)) ?_
 case qr=>
  rintro D σ H ⟨sc,ns,k,o2,o3,o4,o5,o6,o7,o8,rfl,hk,hs,nxt⟩
  refine⟨_,rfl,_,rfl,sc,ns,k,3,rfl,hs,hk,by decide,fun st H1 hst ok1 s1=>?_⟩
  refine⟨_,rfl,st,rfl,ok1,fun pp lv v uvs us t H2 hpp hlv nlv au wtp l9 hsz tl g2=>?_⟩
  refine⟨pp,_,rfl,SqT.of hpp,rfl, .ref lv,[v],rfl,v,[],rfl,rfl,?_⟩
  refine⟨_,rfl,_,rfl,_,rfl,st,2,rfl,g2.ok,by decide,by decide,fun d4 H3 a0 a1 g3=>?_⟩
  have g13:=g2.trans g3
  have s3:Same H H3:=fun b o h=>g13.1 b o (ne_of_none h hst) (s1 b o h)
  have hlv3:=g3.1 _ _ nlv hlv
  have tp3:=grow_tps g2.ok g3
  have au3:=au.mono fun v t=>TmL.tps tp3
  have tl3:=tl.tps tp3
  obtain⟨ou,ot⟩:=wtp.own
  obtain⟨ab,eab⟩:∃ab,d4=abI ab:=by
   have:d4=0∨d4=1:=by omega
   rcases this with z|z
   ·exact⟨false,z⟩
   ·exact⟨true,z⟩
  subst eab
  obtain⟨code,hcode,hat⟩:=code_ok ab ou ot hsz
  refine⟨lv,v,ab,uvs,us,t,code,rfl,hlv3,au3,ou,tl3,ot,hcode,fun c rvs H4 s4 hc0 hc cd=>?_⟩
  have ok4:=g3.ok.same s4
  refine⟨small (by show 8≤1000000;decide),fun l5 hl5=>?_⟩
  have s5:=same_new hl5 (.lst [.int 300, .int 300, .int 300, .int 300, .int 1, .int 4, .int 6, .int 9])
  have b5:(upd H4 l5 (.lst [.int 300, .int 300, .int 300, .int 300, .int 1, .int 4, .int 6, .int 9])) l5=some (.lst [.int 300, .int 300, .int 300, .int 300, .int 1, .int 4, .int 6, .int 9]):=upd_same
  have n5:l5≠st:=ok4.fresh hl5
  revert s5 b5
  generalize upd H4 l5 (.lst [.int 300, .int 300, .int 300, .int 300, .int 1, .int 4, .int 6, .int 9])=H5
  intro s5 b5
  refine⟨_,rfl,st,8,rfl,ok4.same s5,by decide,by decide,fun d6 H6 b0 b1 g6=>?_⟩
  obtain⟨most,hmost⟩:=mosts b0 b1
  refine⟨l5,_,d6,_,rfl,rfl,SqL.of (g6.1 _ _ n5 b5),hmost,?_⟩
  have g36:Grow st H3 H6:=(grow_same g3.ok (s4.trans s5)).trans g6
  have tp36:=grow_tps g3.ok g36
  have g46:Grow st H4 H6:=(grow_same ok4 s5).trans g6
  have tp46:=grow_tps ok4 g46
  have hlv6:=g36.1 _ _ nlv hlv3
  have au6:=au3.mono fun v t=>TmL.tps tp36
  have tl6:=tl3.tps tp36
  have hc6:=tp46 _ _ hc
  have cd6:=cd.tps tp46
  have s06:Same H H6:=fun b o h=>g36.1 b o (ne_of_none h hst) (s3 b o h)
  obtain⟨r,c',n,he,hv,run⟩:=whole_run (most:=most) wtp (by omega) hat
  refine⟨_,rfl,_,rfl,_,rfl,lv,v,most,uvs,us,t,r,c',rfl,hlv6,au6,ou,by omega,tl6,ot,he,hv,fun H7 s7=>?_⟩
  have hc7:=s7 _ _ hc6
  refine⟨_,rfl,c,rvs,rfl, .inr (SqT.of hc7),fun l8 hl8=>?_⟩
  have s8:=same_new hl8 (.lst rvs)
  refine⟨l8,rvs,rfl, .inl ⟨SqL.of upd_same,fun c9 hc9=>?_⟩⟩
  have s9:=same_new hc9 (.tup rvs)
  have s79:=s8.trans s9
  have hc9':(upd (upd H7 l8 (.lst rvs)) c9 (.tup rvs)) c9=some (.tup rvs):=upd_same
  revert s79 hc9'
  generalize upd (upd H7 l8 (.lst rvs)) c9 (.tup rvs)=H9
  intro s79 hc9'
  have s69:=s7.trans s79
  have hcc:=s69 _ _ hc6
  have cd9:=cd6.tps (Same.tups s69)
  have s09:=s06.trans s69
  refine⟨_,rfl,_,rfl,c,_,most,rvs,code,outR r,n,rfl,rfl,hcc,cd9,run,fun H10 s10=>?_⟩
  refine⟨_,rfl,scal_out _,_,rfl,?_⟩
  rw[decide_eq_true (p:=outV (outR r)=outV (outR r)) rfl]
  refine iteF ?_
  refine⟨_,rfl,_,rfl,c,c9,rvs,rfl,rfl,s10 _ _ hcc,s10 _ _ hc9',code_refs cd9,_,rfl,iteF ?_⟩
  refine⟨_,rfl,(k:Int),4,rfl,rfl,(by show(0:Int)<4;decide),rfl,_,rfl,ite2 (fun c1=>?_) (fun c1=>?_)⟩
  ·refine⟨_,rfl,_,rfl,c,_,most,rvs,code,outR r,n,rfl,rfl,s10 _ _ hcc,cd9.tps (Same.tups s10),run,fun H11 s11=>?_⟩
   refine⟨_,rfl,scal_out _,_,rfl,?_⟩
   rw[decide_eq_true (p:=outV (outR r)=outV (outR r)) rfl]
   exact iteF ((nxt _ _ _ _ _ _ _ H11 (s09.trans (s10.trans s11))))
  ·exact iteF (nxt _ _ _ _ _ _ _ H10 (s09.trans s10))
 rintro D σ H ⟨sc,ns,rfl,hs,h63,q⟩
 refine⟨_,rfl,sc,_,rfl, .inl hs,_,_,rfl,_,_,rfl,_,rfl,?_⟩
 have hn:∃n:Nat,n≤63∧(if(63:Int)<(if((ns.map V.int).length:Int)>1 then((ns.map V.int).length:Int) else 1) then(63:Int) else(if((ns.map V.int).length:Int)>1 then((ns.map V.int).length:Int) else 1))=(n:Int):=by
  rw[List.length_map]
  refine⟨_,?_,(Int.toNat_of_nonneg ?_).symm⟩<;>(split<;>split)<;>omega
 obtain⟨n,hn,e⟩:=hn
 rw[e]
 refine⟨by omega,by omega,?_⟩
 rw[Int.toNat_natCast]
 refine for_range (n:=n) (fun i σ H'=>∃(o1 o2 o3 o4 o5 o6 o7 o8:Option V),σ=[some (.ref sc),o1,o2,o3,o4,o5,o6,o7,o8]∧Same H H') ⟨none,none,none,none,none,none,none,none,rfl,Same.refl _⟩ ?_ ?_
 ·rintro i σ H' hi ⟨o1,o2,o3,o4,o5,o6,o7,o8,rfl,s1⟩
  refine⟨sc,ns,i,o2,o3,o4,o5,o6,o7,o8,?_,by omega,s1.seq hs,fun q2 q3 q4 q5 q6 q7 q8 H2 s2=>⟨_,_,_,_,_,_,_,_,rfl,s1.trans s2⟩⟩
  rw[Int.zero_add]
  rfl
 ·rintro σ H' ⟨o1,o2,o3,o4,o5,o6,o7,o8,rfl,s1⟩
  exact q _ _
theorem ok_law (F:Fun K "law" "law" s_law f fd)(mr:mg "range"=none)(ml:mg "len"=none)(mm:mg "min"=none)(mM:mg "max"=none)(mt:mg "tuple"=none)(mL:mg "list"=none)
  (h1:Has P w K mg base 2 "_law_drawn" ["_law_script","_law_k","_law_salt"] (spDrawn K)) (h2:Has P w K mg base 19 "_law_vals" ["_law_state","_law_depth"] spVals) (h3:Has P w K mg base 1 "_law_next" ["_law_state","_law_many"] spNext)
  (h4:Has P w K mg base 27 "_law_code" ["_law_vals_here","_law_term","_law_about"] spCode) (h5:Has P w K mg base 155 "_law_due" ["_law_vals_here","_law_term","_law_most"] spDue) (h6:Has P w K mg base 6 "_law_told" ["_law_code_here","_law_most"] spToldR):FnOk P w K mg base CX0 156 f fd ["_law_script"] (spLaw K):=by
 refine F.ok sc_law (fun vs H Q E h=>?_) (fun cdv A outer s H vs Q E hr h=>?_)
 ·obtain⟨sc,ns,rfl,_⟩:=h
  rfl
 obtain⟨sc,ns,rfl,hs,h63,q⟩:=h
 rw[bodyL]
 refine⟨_,pss_cons (ps_stL0 hr mr ml mm mM mt mL h1 h2 h3 h4 h5 h6).h (pss_one (ps_ret pe_bl)),?_⟩
 exact⟨sc,ns,rfl,hs,h63,fun σ' H'=>q _⟩
end
def DefIs (K:PySem.W.Frag)(x:Str)(st:Stmt):Prop:=∃f fd,PySem.W.nsIn K mainGlobals x=some (some (.ref f))∧Fun K x x st f fd
theorem def_mk {K:PySem.W.Frag}{x:Str}{st:Stmt}{f:Addr}{oc:Value}{od an:Option Addr}{osl:Array (Option Value)}{kV doc pm cdv ct:Value}(a:PySem.W.nsIn K mainGlobals x=some (some (.ref f)))
  (l:K.lookup f=some ⟨oc,od, .func (PySem.W.fnOf x x (defArgs st) (defBody st) (defScope st) .none kV doc pm an cdv ct),osl⟩) (c:PySem.W.codeIn K cdv x=true) (k:PySem.W.keepIn K (.ref f)=true):DefIs K x st:=⟨f,_,a,fun_mk l c k⟩
theorem val_int {K:PySem.W.Frag}{x:Str}{i j:Int}{t:Tok}(a:PySem.W.nsIn K mainGlobals x=some (some (.int i t)))(e:i=j):∃t,PySem.W.nsIn K mainGlobals x=some (some (.int j t)):=⟨t,by rw[←e];exact a⟩
theorem law_binds {K:PySem.W.Frag}{x:Str}{st:Stmt}{f:Addr}{fd:FuncData}{p:Str}(F:Fun K x x st f fd)(h:∀(kV doc pm:Value) (an:Option Addr) (cdv ct:Value) (s:Shared) (v:Value),BindsTo s (PySem.W.fnOf x x (defArgs st) (defBody st) (defScope st) .none kV doc pm an cdv ct) ⟨[v],[]⟩ [(p,v)]):
  ∀(s:Shared) (v:Value),BindsTo s fd ⟨[v],[]⟩ [(p,v)]:=by
 obtain⟨oc,od,kV,doc,pm,an,cdv,ct,osl,rfl,lk,hcd⟩:=F.ex
 exact h kV doc pm an cdv ct
def MethIs (K:PySem.W.Frag)(C:Addr)(x q:Str)(st:Stmt):Prop:=∃f fd,Meth K C x f∧Fun K x q st f fd
theorem meth_mk {K:PySem.W.Frag}{C:Addr}{x q:Str}{st:Stmt}{f:Addr}{oc:Value}{od an:Option Addr}{osl:Array (Option Value)}{kV doc pm cdv ct:Value}(a:PySem.W.findIn K (.ref C) x=some (some (.ref f)))(i:PySem.W.isFn K (.ref f)=true)
  (l:K.lookup f=some ⟨oc,od, .func (PySem.W.fnOf x q (defArgs st) (defBody st) (defScope st) .none kV doc pm an cdv ct),osl⟩) (c:PySem.W.codeIn K cdv q=true) (k:PySem.W.keepIn K (.ref f)=true):MethIs K C x q st:=⟨f,_,⟨a,i,k⟩,fun_mk l c k⟩
theorem cls_mk {K:PySem.W.Frag}{C:Addr}(pg:PySem.W.plainGet K C Str.empty=true)(hd:PySem.W.hasDictIn K C=true)(po:PySem.W.plainOver K C=true)(sa:PySem.W.findIn K (.ref C) "__setattr__"=some (some (.builtin "object.__setattr__"))):Cls K C:=⟨pg,hd,po,sa⟩
theorem noat_mk {K:PySem.W.Frag}{C:Addr}{x:Str}(n:PySem.W.findIn K (.ref C) x=some none):NoAttr K C x:=n
structure RkIs (K:PySem.W.Frag)(w:World)(dr y0 y1 y2 y3:Addr):Prop where
 nm:PySem.W.nsIn K mainGlobals "RECKONINGS"=some (some (.ref dr))
 n0:PySem.W.nsIn K mainGlobals "sum_of"=some (some (.ref y0))
 n1:PySem.W.nsIn K mainGlobals "difference_of"=some (some (.ref y1))
 n2:PySem.W.nsIn K mainGlobals "product_of"=some (some (.ref y2))
 n3:PySem.W.nsIn K mainGlobals "is_less"=some (some (.ref y3))
 dict:StrDict K w dr [("plus", .ref y0),("minus", .ref y1),("times", .ref y2),("less", .ref y3)]
theorem rkis_mk {K:PySem.W.Frag}{w:World}{dr y0 y1 y2 y3:Addr}{oc:Value}{od:Option Addr}{es:Array DictEntry}{n:Nat}{sl:Array (Option Value)}(nm:PySem.W.nsIn K mainGlobals "RECKONINGS"=some (some (.ref dr)))
  (n0:PySem.W.nsIn K mainGlobals "sum_of"=some (some (.ref y0)))
  (n1:PySem.W.nsIn K mainGlobals "difference_of"=some (some (.ref y1)))
  (n2:PySem.W.nsIn K mainGlobals "product_of"=some (some (.ref y2)))
  (n3:PySem.W.nsIn K mainGlobals "is_less"=some (some (.ref y3)))
  (l:K.lookup dr=some ⟨oc,od, .dict es n,sl⟩) (hs:(dr==sysModules)=false) (hx:Obj.ExactDict ⟨oc,od, .dict es n,sl⟩) (hp:Paired (EntryIs w) [("plus", .ref y0),("minus", .ref y1),("times", .ref y2),("less", .ref y3)] es.toList):
  ∃dr y0 y1 y2 y3,RkIs K w dr y0 y1 y2 y3:=⟨dr,y0,y1,y2,y3,nm,n0,n1,n2,n3,hs,_,es,n,l,hx,rfl,hp⟩
structure RwIs (K:PySem.W.Frag)(w:World)(dr x0 x1 x2 x3 x4 x5 x6 x10 x11 x12 x13 x14 x15 x16 x17 x18:Addr):Prop where
 nm:PySem.W.nsIn K mainGlobals "ROWS"=some (some (.ref dr))
 n0:PySem.W.nsIn K mainGlobals "do_number"=some (some (.ref x0))
 n1:PySem.W.nsIn K mainGlobals "do_local"=some (some (.ref x1))
 n2:PySem.W.nsIn K mainGlobals "do_global"=some (some (.ref x2))
 n3:PySem.W.nsIn K mainGlobals "do_keep"=some (some (.ref x3))
 n4:PySem.W.nsIn K mainGlobals "do_drop"=some (some (.ref x4))
 n5:PySem.W.nsIn K mainGlobals "do_store"=some (some (.ref x5))
 n6:PySem.W.nsIn K mainGlobals "do_reckon"=some (some (.ref x6))
 n7:PySem.W.nsIn K mainGlobals "do_unless"=some (some (.ref x10))
 n8:PySem.W.nsIn K mainGlobals "do_jump"=some (some (.ref x11))
 n9:PySem.W.nsIn K mainGlobals "do_close"=some (some (.ref x12))
 n10:PySem.W.nsIn K mainGlobals "do_ring"=some (some (.ref x13))
 n11:PySem.W.nsIn K mainGlobals "do_call"=some (some (.ref x14))
 n12:PySem.W.nsIn K mainGlobals "do_back"=some (some (.ref x15))
 dict:StrDict K w dr [("number", .ref x0),("local", .ref x1),("global", .ref x2),("keep", .ref x3),("drop", .ref x4),("store", .ref x5),("plus", .ref x6),("minus", .ref x6),("times", .ref x6),("less", .ref x6),("unless", .ref x10),("jump", .ref x11),("close", .ref x12),("ring", .ref x13),("call", .ref x14),("back", .ref x15),("block", .ref x16),("field", .ref x17),("case", .ref x18)]
theorem rwis_mk {K:PySem.W.Frag}{w:World}{dr x0 x1 x2 x3 x4 x5 x6 x10 x11 x12 x13 x14 x15 x16 x17 x18:Addr}{oc:Value}{od:Option Addr}{es:Array DictEntry}{n:Nat}{sl:Array (Option Value)}(nm:PySem.W.nsIn K mainGlobals "ROWS"=some (some (.ref dr)))
  (n0:PySem.W.nsIn K mainGlobals "do_number"=some (some (.ref x0)))
  (n1:PySem.W.nsIn K mainGlobals "do_local"=some (some (.ref x1)))
  (n2:PySem.W.nsIn K mainGlobals "do_global"=some (some (.ref x2)))
  (n3:PySem.W.nsIn K mainGlobals "do_keep"=some (some (.ref x3)))
  (n4:PySem.W.nsIn K mainGlobals "do_drop"=some (some (.ref x4)))
  (n5:PySem.W.nsIn K mainGlobals "do_store"=some (some (.ref x5)))
  (n6:PySem.W.nsIn K mainGlobals "do_reckon"=some (some (.ref x6)))
  (n7:PySem.W.nsIn K mainGlobals "do_unless"=some (some (.ref x10)))
  (n8:PySem.W.nsIn K mainGlobals "do_jump"=some (some (.ref x11)))
  (n9:PySem.W.nsIn K mainGlobals "do_close"=some (some (.ref x12)))
  (n10:PySem.W.nsIn K mainGlobals "do_ring"=some (some (.ref x13)))
  (n11:PySem.W.nsIn K mainGlobals "do_call"=some (some (.ref x14)))
  (n12:PySem.W.nsIn K mainGlobals "do_back"=some (some (.ref x15)))
  (l:K.lookup dr=some ⟨oc,od, .dict es n,sl⟩) (hs:(dr==sysModules)=false) (hx:Obj.ExactDict ⟨oc,od, .dict es n,sl⟩) (hp:Paired (EntryIs w) [("number", .ref x0),("local", .ref x1),("global", .ref x2),("keep", .ref x3),("drop", .ref x4),("store", .ref x5),("plus", .ref x6),("minus", .ref x6),("times", .ref x6),("less", .ref x6),("unless", .ref x10),("jump", .ref x11),("close", .ref x12),("ring", .ref x13),("call", .ref x14),("back", .ref x15),("block", .ref x16),("field", .ref x17),("case", .ref x18)] es.toList):
  ∃dr x0 x1 x2 x3 x4 x5 x6 x10 x11 x12 x13 x14 x15 x16 x17 x18,RwIs K w dr x0 x1 x2 x3 x4 x5 x6 x10 x11 x12 x13 x14 x15 x16 x17 x18:=⟨dr,x0,x1,x2,x3,x4,x5,x6,x10,x11,x12,x13,x14,x15,x16,x17,x18,nm,n0,n1,n2,n3,n4,n5,n6,n7,n8,n9,n10,n11,n12,hs,_,es,n,l,hx,rfl,hp⟩
abbrev bmV:List Value:=[.type "ValueError", .type "Exception", .type "BaseException", .type "object"]
def ExcIs (K:PySem.W.Frag)(x:Str)(CT CX:Addr):Prop:=∀(base:Heap) (mg:Str→Option Value),K.In base→mg x=some (.ref CT)→OwnCls x CT bmV "ValueError.__new__" mg base∧CatchOk base CT CX
theorem excis_mk {K:PySem.W.Frag}{x:Str}{CT CX N N':Addr}{nm q nm' q':Str}{bs bm bs' bm':List Value}{hd hd':Bool}{sn sn':List Str}{sub sub':List Value}{ab ab':Bool}{col col':Option Bool}{dd dd':Option Addr}{k0 k1 k2 k3 k5 j0 j1 j2 j3 j5:Option Value}{nid:String}
  (l1:K.lookup CT=some ⟨.type "type",dd, .cls ⟨nm,bs, .ref CT::bm,N,q,hd,sn,sub,ab,col,false⟩,#[k0,k1,k2,k3,some (.builtin "ValueError.__new__"),k5]⟩) (n1:PySem.W.nsOkIn K N=true) (n2:PySem.W.nsIn K N "__init__"=some none) (t1:PySem.W.tailIn K bmV bm=true)
  (l2:K.lookup CX=some ⟨.type "type",dd', .cls ⟨nm',bs', .ref CX::bm',N',q',hd',sn',sub',ab',col',false⟩,#[j0,j1,j2,j3,some (.builtin nid),j5]⟩) (b1:bm'.contains (.type "BaseException")=true) (b2:(Value.ref CT::bm).contains (.ref CX)=true):ExcIs K x CT CX:=fun base mg X m=>
 ⟨⟨m,bm,N,nm,q,bs,hd,sn,sub,ab,col,dd,k0,k1,k2,k3,k5,_,X _ _ l1, .of_isNs (PySem.W.isNs_of_in X n1),PySem.W.nsMap_none_of_in X n1 n2,PySem.W.tail_of_in X t1⟩,
  nm,q,nm',q',N,N',bs,bm,bs',bm',hd,hd',sn,sn',sub,sub',ab,ab',col,col',dd,dd',k0,k1,k2,k3,k5,j0,j1,j2,j3,j5,_,nid,X _ _ l1,X _ _ l2,b1,b2⟩
theorem exc_mk {K:PySem.W.Frag}{C:Addr}{c0:Value}{d0:Option Addr}{cd:ClassData}{sl:Array (Option Value)}(g0:PySem.W.findIn K (.ref C) "__getattribute__"=some (some (.builtin "BaseException.__getattribute__")))(g1:PySem.W.findIn K (.ref C) "__getattr__"=some none)(gb:PySem.W.mroIn K C (.type "BaseException")=some true)(g2:PySem.W.findIn K (.ref C) "__class__"=some (some (.builtin "object.__class__")))(g3:PySem.W.specialIn K (.builtin "object.__class__") "__get__"=some (some (.builtin "getset_descriptor.__get__")))
  (g4:PySem.W.takesIn K (.builtin "object.__class__")=some true) (g5:PySem.W.mroIn K C (.type "object")=some true) (lk:K.lookup C=some ⟨c0,d0, .cls cd,sl⟩):ExcCls K C:=⟨g0,g1,gb,g2,g3,g4,g5,_,_,_,_,lk⟩
theorem isc_mk {K:PySem.W.Frag}{C:Addr}(i1:PySem.W.findIn K (.ref C) "__class__"=some (some (.builtin "object.__class__")))(i2:PySem.W.specialIn K (.builtin "object.__class__") "__get__"=some (some (.builtin "getset_descriptor.__get__")))(i3:PySem.W.takesIn K (.builtin "object.__class__")=some true)(i4:PySem.W.mroIn K C (.type "object")=some true)(i5:PySem.W.kitOne K (.ref C) (.ref C)=some true):IsC K C:=⟨i1,i2,i3,i4,i5⟩
def DefIsD (K:PySem.W.Frag)(x:Str)(st:Stmt):Prop:=∃f fd T tk,PySem.W.nsIn K mainGlobals x=some (some (.ref f))∧FunD K x x st f fd T #[.int 300 tk]
theorem def_mkD {K:PySem.W.Frag}{x:Str}{st:Stmt}{f T:Addr}{oc oc':Value}{od an od':Option Addr}{osl osl':Array (Option Value)}{kV doc pm cdv ct:Value}{tk:Tok}{n:Nat}(a:PySem.W.nsIn K mainGlobals x=some (some (.ref f)))
  (l:K.lookup f=some ⟨oc,od, .func (PySem.W.fnOf x x (defArgs st) (defBody st) (defScope st) (.ref T) kV doc pm an cdv ct),osl⟩) (c:PySem.W.codeIn K cdv x=true) (k:PySem.W.keepIn K (.ref f)=true) (t:K.lookup T=some ⟨oc',od', .seq #[.int 300 tk] n,osl'⟩):DefIsD K x st:=⟨f,_,T,tk,a,⟨⟨oc,od,kV,doc,pm,an,cdv,ct,osl,rfl,l,c⟩,k,⟨oc',od',n,osl',t⟩⟩⟩
theorem ref_inj {K:PySem.W.Frag}{x:Str}{a b:Addr}(h:PySem.W.nsIn K mainGlobals x=some (some (.ref a)))(q:PySem.W.nsIn K mainGlobals x=some (some (.ref b))):a=b:=by
 rw[h]at q;injection q with z;injection z with z;injection z
theorem used_all {C:Nat→Prop}(h0:C 0)(h1:C 1)(h2:C 2)(h3:C 3)(h4:C 4)(h5:C 5)(h6:C 6)(h7:C 7)(h8:C 8)(h9:C 9)(h10:C 10)(h11:C 11)(h12:C 12)(h13:C 13)(h14:C 14)(h15:C 15):∀n,usedRow n→C n
 |0,_=>h0
 |1,_=>h1
 |2,_=>h2
 |3,_=>h3
 |4,_=>h4
 |5,_=>h5
 |6,_=>h6
 |7,_=>h7
 |8,_=>h8
 |9,_=>h9
 |10,_=>h10
 |11,_=>h11
 |12,_=>h12
 |13,_=>h13
 |14,_=>h14
 |15,_=>h15
 |n+16,h=>absurd h (by unfold usedRow;omega)
@[elab_as_elim] theorem us1 {C:List Value→Prop} (us:List Value) (h:us.length=1) (k:∀a0,C [a0]):C us:=by
 match us,h with
 |[a0],_=>exact k a0
@[elab_as_elim] theorem us2 {C:List Value→Prop} (us:List Value) (h:us.length=2) (k:∀a0 a1,C [a0,a1]):C us:=by
 match us,h with
 |[a0,a1],_=>exact k a0 a1
@[elab_as_elim] theorem us3 {C:List Value→Prop} (us:List Value) (h:us.length=3) (k:∀a0 a1 a2,C [a0,a1,a2]):C us:=by
 match us,h with
 |[a0,a1,a2],_=>exact k a0 a1 a2
@[elab_as_elim] theorem us4 {C:List Value→Prop} (us:List Value) (h:us.length=4) (k:∀a0 a1 a2 a3,C [a0,a1,a2,a3]):C us:=by
 match us,h with
 |[a0,a1,a2,a3],_=>exact k a0 a1 a2 a3
@[elab_as_elim] theorem us5 {C:List Value→Prop} (us:List Value) (h:us.length=5) (k:∀a0 a1 a2 a3 a4,C [a0,a1,a2,a3,a4]):C us:=by
 match us,h with
 |[a0,a1,a2,a3,a4],_=>exact k a0 a1 a2 a3 a4
def AllOk (l:PySem.W.OpenLaw)(w:World)(K:PySem.W.Frag)(mg:Str→Option Value)(fa:Addr):Prop:=∃fd:FuncData,(∀(s:Shared) (v:Value),BindsTo s fd ⟨[v],[]⟩ [("_law_script",v)])∧∀base:Heap,K.In base→base.Ns mainGlobals mg→FnOk l.prog w K mg base CX0 156 fa fd ["_law_script"] (spLaw K)
set_option maxHeartbeats 2000000 in
theorem all_mk {l:PySem.W.OpenLaw}{w:World}{K:PySem.W.Frag}{h:Heap}{mg:Str→Option Value}{fa M F C B CT CX CS CL CD A1 A2 A3 A4:Addr}(X:K.In h)(G:h.Ns mainGlobals mg)(hfa:mg "law"=some (.ref fa))
  (z_len:PySem.W.nsIn K mainGlobals "len"=some none)
  (z_isinstance:PySem.W.nsIn K mainGlobals "isinstance"=some none)
  (z_tuple:PySem.W.nsIn K mainGlobals "tuple"=some none)
  (z_list:PySem.W.nsIn K mainGlobals "list"=some none)
  (z_reversed:PySem.W.nsIn K mainGlobals "reversed"=some none)
  (z_range:PySem.W.nsIn K mainGlobals "range"=some none)
  (z_int:PySem.W.nsIn K mainGlobals "int"=some none)
  (z_bool:PySem.W.nsIn K mainGlobals "bool"=some none)
  (z_abs:PySem.W.nsIn K mainGlobals "abs"=some none)
  (z_min:PySem.W.nsIn K mainGlobals "min"=some none)
  (z_max:PySem.W.nsIn K mainGlobals "max"=some none)
  (z_ValueError:PySem.W.nsIn K mainGlobals "ValueError"=some none)
  (z_str:PySem.W.nsIn K mainGlobals "str"=some none)
  (z_dict:PySem.W.nsIn K mainGlobals "dict"=some none)
  (z_enumerate:PySem.W.nsIn K mainGlobals "enumerate"=some none)
  (z_zip:PySem.W.nsIn K mainGlobals "zip"=some none)
  (aM:PySem.W.nsIn K mainGlobals "Machine"=some (some (.ref M))) (cM:Cls K M) (mkM:PySem.W.makesIn K M=true) (kcM:PySem.W.keepIn K (.ref M)=true) (nM0:NoAttr K M "calls") (nM1:NoAttr K M "pile") (nM2:NoAttr K M "frame") (nM3:NoAttr K M "outer_frames") (nM4:NoAttr K M "stored") (nM5:NoAttr K M "ahead")
  (mM0:MethIs K M "__init__" "Machine.__init__" s_mach)
  (aF:PySem.W.nsIn K mainGlobals "Frame"=some (some (.ref F))) (cF:Cls K F) (mkF:PySem.W.makesIn K F=true) (kcF:PySem.W.keepIn K (.ref F)=true) (nF0:NoAttr K F "own") (nF1:NoAttr K F "behind")
  (mF0:MethIs K F "__init__" "Frame.__init__" s_frame)
  (aC:PySem.W.nsIn K mainGlobals "Calls"=some (some (.ref C))) (cC:Cls K C) (mkC:PySem.W.makesIn K C=true) (kcC:PySem.W.keepIn K (.ref C)=true) (nC0:NoAttr K C "most") (nC1:NoAttr K C "begun") (nC2:NoAttr K C "under_way")
  (mC0:MethIs K C "__init__" "Calls.__init__" s_calls)
  (mC1:MethIs K C "begin" "Calls.begin" s_begin)
  (mC2:MethIs K C "come_back" "Calls.come_back" s_comeb)
  (aB:PySem.W.nsIn K mainGlobals "Closed"=some (some (.ref B))) (cB:Cls K B) (mkB:PySem.W.makesIn K B=true) (kcB:PySem.W.keepIn K (.ref B)=true) (nB0:NoAttr K B "to") (nB1:NoAttr K B "kept")
  (mB0:MethIs K B "__init__" "Closed.__init__" s_closed)
  (aS:PySem.W.nsIn K mainGlobals "Stuck"=some (some (.ref CS)))
  (aT:PySem.W.nsIn K mainGlobals "TooGreat"=some (some (.ref CT)))
  (aL:PySem.W.nsIn K mainGlobals "TooLong"=some (some (.ref CL)))
  (aD:PySem.W.nsIn K mainGlobals "TooDeep"=some (some (.ref CD)))
  (a1:PySem.W.nsIn K mainGlobals "NoText"=some (some (.ref A1)))
  (a2:PySem.W.nsIn K mainGlobals "NoKind"=some (some (.ref A2)))
  (a3:PySem.W.nsIn K mainGlobals "NoFace"=some (some (.ref A3)))
  (a4:PySem.W.nsIn K mainGlobals "NoTie"=some (some (.ref A4)))
  (aX:PySem.W.nsIn K mainGlobals "FaceError"=some (some (.ref CX)))
  (kST:PySem.W.kitOne K (.ref CT) (.ref CS)=some false)
  (kTT:PySem.W.kitOne K (.ref CT) (.ref CT)=some true)
  (kLT:PySem.W.kitOne K (.ref CT) (.ref CL)=some false)
  (kDT:PySem.W.kitOne K (.ref CT) (.ref CD)=some false)
  (kVT:PySem.W.kitOne K (.ref CT) (.type "ValueError")=some true)
  (kNT:PySem.W.kitAny K (.ref CT) ([A1,A2,A3,A4].map Value.ref)=some false)
  (xcT:ExcCls K CT)
  (xiT:ExcIs K "TooGreat" CT CX)
  (kSL:PySem.W.kitOne K (.ref CL) (.ref CS)=some false)
  (kTL:PySem.W.kitOne K (.ref CL) (.ref CT)=some false)
  (kLL:PySem.W.kitOne K (.ref CL) (.ref CL)=some true)
  (kDL:PySem.W.kitOne K (.ref CL) (.ref CD)=some false)
  (kVL:PySem.W.kitOne K (.ref CL) (.type "ValueError")=some true)
  (kNL:PySem.W.kitAny K (.ref CL) ([A1,A2,A3,A4].map Value.ref)=some false)
  (xcL:ExcCls K CL)
  (xiL:ExcIs K "TooLong" CL CX)
  (kSD:PySem.W.kitOne K (.ref CD) (.ref CS)=some false)
  (kTD:PySem.W.kitOne K (.ref CD) (.ref CT)=some false)
  (kLD:PySem.W.kitOne K (.ref CD) (.ref CL)=some false)
  (kDD:PySem.W.kitOne K (.ref CD) (.ref CD)=some true)
  (kVD:PySem.W.kitOne K (.ref CD) (.type "ValueError")=some true)
  (kND:PySem.W.kitAny K (.ref CD) ([A1,A2,A3,A4].map Value.ref)=some false)
  (xcD:ExcCls K CD)
  (xiD:ExcIs K "TooDeep" CD CX)
  (vM:∃t,PySem.W.nsIn K mainGlobals "MOST_UNDER_WAY"=some (some (.int 10 t)))
  (ic:IsC K B)
  (hRk:∃dr y0 y1 y2 y3,RkIs K w dr y0 y1 y2 y3)
  (hRw:∃dr x0 x1 x2 x3 x4 x5 x6 x10 x11 x12 x13 x14 x15 x16 x17 x18,RwIs K w dr x0 x1 x2 x3 x4 x5 x6 x10 x11 x12 x13 x14 x15 x16 x17 x18)
  (d11:DefIs K "is_whole" s_whole)
  (d14:DefIs K "sum_of" (s_rk 0))
  (d15:DefIs K "difference_of" (s_rk 1))
  (d16:DefIs K "product_of" (s_rk 2))
  (d17:DefIs K "is_less" (s_rk 3))
  (d19:DefIs K "number_of" s_num)
  (d20:DefIs K "reckoned" s_reck)
  (d21:DefIs K "taken_off" s_taken)
  (d28:DefIs K "do_number" (s_do 0))
  (d29:DefIs K "do_local" (s_do 1))
  (d30:DefIs K "do_global" (s_do 2))
  (d31:DefIs K "do_keep" (s_do 3))
  (d32:DefIs K "do_drop" (s_do 4))
  (d33:DefIs K "do_store" (s_do 5))
  (d34:DefIs K "do_reckon" s_doreck)
  (d35:DefIs K "do_unless" (s_do 7))
  (d36:DefIs K "do_jump" (s_do 8))
  (d37:DefIs K "locals_at" s_locals)
  (d38:DefIs K "do_close" s_doclose)
  (d39:DefIs K "do_ring" s_doring)
  (d40:DefIs K "do_call" s_docall)
  (d41:DefIs K "do_back" s_doback)
  (d46:DefIsD K "done" s_done)
  (d48:DefIs K "_law_cell_at" s_cell)
  (d49:DefIs K "_law_drawn" s_drawn)
  (d50:DefIs K "_law_next" s_next)
  (d51:DefIs K "_law_number" s_numb)
  (d52:DefIs K "_law_kind" s_kind)
  (d53:DefIs K "_law_leaf" s_leaf)
  (d54:DefIs K "_law_own" s_own)
  (d55:DefIs K "_law_ring" s_ring)
  (d56:DefIs K "_law_grown" s_grown)
  (d57:DefIs K "_law_vals" s_vals)
  (d58:DefIs K "_law_class" s_class)
  (d59:DefIs K "_law_entered" s_ent)
  (d60:DefIs K "_law_summed" s_sum)
  (d61:DefIs K "_law_worked" s_work)
  (d62:DefIs K "_law_due" s_due)
  (d63:DefIs K "_law_held" s_held)
  (d64:DefIs K "_law_test_rows" s_testr)
  (d65:DefIs K "_law_let_rows" s_letr)
  (d66:DefIs K "_law_ring_rows" s_ringr)
  (d67:DefIs K "_law_rows" s_rows)
  (d68:DefIs K "_law_whole_row" s_wrow)
  (d69:DefIs K "_law_code" s_code)
  (d70:DefIs K "_law_told" s_told)
  (d71:DefIs K "law" s_law):
  AllOk l w K mg fa:=by
 obtain⟨f11,g11,a11,F11⟩:=d11
 obtain⟨f14,g14,a14,F14⟩:=d14
 obtain⟨f15,g15,a15,F15⟩:=d15
 obtain⟨f16,g16,a16,F16⟩:=d16
 obtain⟨f17,g17,a17,F17⟩:=d17
 obtain⟨f19,g19,a19,F19⟩:=d19
 obtain⟨f20,g20,a20,F20⟩:=d20
 obtain⟨f21,g21,a21,F21⟩:=d21
 obtain⟨f28,g28,a28,F28⟩:=d28
 obtain⟨f29,g29,a29,F29⟩:=d29
 obtain⟨f30,g30,a30,F30⟩:=d30
 obtain⟨f31,g31,a31,F31⟩:=d31
 obtain⟨f32,g32,a32,F32⟩:=d32
 obtain⟨f33,g33,a33,F33⟩:=d33
 obtain⟨f34,g34,a34,F34⟩:=d34
 obtain⟨f35,g35,a35,F35⟩:=d35
 obtain⟨f36,g36,a36,F36⟩:=d36
 obtain⟨f37,g37,a37,F37⟩:=d37
 obtain⟨f38,g38,a38,F38⟩:=d38
 obtain⟨f39,g39,a39,F39⟩:=d39
 obtain⟨f40,g40,a40,F40⟩:=d40
 obtain⟨f41,g41,a41,F41⟩:=d41
 obtain⟨f46,g46,T46,its46,a46,F46⟩:=d46
 obtain⟨f48,g48,a48,F48⟩:=d48
 obtain⟨f49,g49,a49,F49⟩:=d49
 obtain⟨f50,g50,a50,F50⟩:=d50
 obtain⟨f51,g51,a51,F51⟩:=d51
 obtain⟨f52,g52,a52,F52⟩:=d52
 obtain⟨f53,g53,a53,F53⟩:=d53
 obtain⟨f54,g54,a54,F54⟩:=d54
 obtain⟨f55,g55,a55,F55⟩:=d55
 obtain⟨f56,g56,a56,F56⟩:=d56
 obtain⟨f57,g57,a57,F57⟩:=d57
 obtain⟨f58,g58,a58,F58⟩:=d58
 obtain⟨f59,g59,a59,F59⟩:=d59
 obtain⟨f60,g60,a60,F60⟩:=d60
 obtain⟨f61,g61,a61,F61⟩:=d61
 obtain⟨f62,g62,a62,F62⟩:=d62
 obtain⟨f63,g63,a63,F63⟩:=d63
 obtain⟨f64,g64,a64,F64⟩:=d64
 obtain⟨f65,g65,a65,F65⟩:=d65
 obtain⟨f66,g66,a66,F66⟩:=d66
 obtain⟨f67,g67,a67,F67⟩:=d67
 obtain⟨f68,g68,a68,F68⟩:=d68
 obtain⟨f69,g69,a69,F69⟩:=d69
 obtain⟨f70,g70,a70,F70⟩:=d70
 obtain⟨f71,g71,a71,F71⟩:=d71
 have e:=hfa.symm.trans (PySem.W.mg_of X G a71)
 cases e
 refine⟨g71,law_binds F71 fun _ _ _ _ _ _ _ _=>.of_eq rfl,fun base XB GB=>?_⟩
 have m_len:=PySem.W.mg_none_of X G z_len
 have m_isinstance:=PySem.W.mg_none_of X G z_isinstance
 have m_tuple:=PySem.W.mg_none_of X G z_tuple
 have m_list:=PySem.W.mg_none_of X G z_list
 have m_reversed:=PySem.W.mg_none_of X G z_reversed
 have m_range:=PySem.W.mg_none_of X G z_range
 have m_int:=PySem.W.mg_none_of X G z_int
 have m_bool:=PySem.W.mg_none_of X G z_bool
 have m_abs:=PySem.W.mg_none_of X G z_abs
 have m_min:=PySem.W.mg_none_of X G z_min
 have m_max:=PySem.W.mg_none_of X G z_max
 have m_ValueError:=PySem.W.mg_none_of X G z_ValueError
 have m_str:=PySem.W.mg_none_of X G z_str
 have m_dict:=PySem.W.mg_none_of X G z_dict
 have m_enumerate:=PySem.W.mg_none_of X G z_enumerate
 have m_zip:=PySem.W.mg_none_of X G z_zip
 have mgM:=PySem.W.mg_of X G aM
 obtain⟨fM0,gM0,MM0,FM0⟩:=mM0
 have bM0:=FM0.binds (ps:=["self","most"]) fun _ _ _ _ _ _ us hl=>us2 us hl fun _ _=>rfl
 have mgF:=PySem.W.mg_of X G aF
 obtain⟨fF0,gF0,MF0,FF0⟩:=mF0
 have bF0:=FF0.binds (ps:=["self","own","behind"]) fun _ _ _ _ _ _ us hl=>us3 us hl fun _ _ _=>rfl
 have mgC:=PySem.W.mg_of X G aC
 obtain⟨fC0,gC0,MC0,FC0⟩:=mC0
 have bC0:=FC0.binds (ps:=["self","most"]) fun _ _ _ _ _ _ us hl=>us2 us hl fun _ _=>rfl
 obtain⟨fC1,gC1,MC1,FC1⟩:=mC1
 have bC1:=FC1.binds (ps:=["self"]) fun _ _ _ _ _ _ us hl=>us1 us hl fun _=>rfl
 obtain⟨fC2,gC2,MC2,FC2⟩:=mC2
 have bC2:=FC2.binds (ps:=["self"]) fun _ _ _ _ _ _ us hl=>us1 us hl fun _=>rfl
 have mgB:=PySem.W.mg_of X G aB
 obtain⟨fB0,gB0,MB0,FB0⟩:=mB0
 have bB0:=FB0.binds (ps:=["self","to","kept"]) fun _ _ _ _ _ _ us hl=>us3 us hl fun _ _ _=>rfl
 have b11:=F11.binds (ps:=["thing"]) fun _ _ _ _ _ _ us hl=>us1 us hl fun _=>rfl
 have b14:=F14.binds (ps:=["one","other"]) fun _ _ _ _ _ _ us hl=>us2 us hl fun _ _=>rfl
 have b15:=F15.binds (ps:=["one","other"]) fun _ _ _ _ _ _ us hl=>us2 us hl fun _ _=>rfl
 have b16:=F16.binds (ps:=["one","other"]) fun _ _ _ _ _ _ us hl=>us2 us hl fun _ _=>rfl
 have b17:=F17.binds (ps:=["one","other"]) fun _ _ _ _ _ _ us hl=>us2 us hl fun _ _=>rfl
 have b19:=F19.binds (ps:=["value"]) fun _ _ _ _ _ _ us hl=>us1 us hl fun _=>rfl
 have b20:=F20.binds (ps:=["word","one","other"]) fun _ _ _ _ _ _ us hl=>us3 us hl fun _ _ _=>rfl
 have b21:=F21.binds (ps:=["pile","count"]) fun _ _ _ _ _ _ us hl=>us2 us hl fun _ _=>rfl
 have b28:=F28.binds (ps:=["machine","row"]) fun _ _ _ _ _ _ us hl=>us2 us hl fun _ _=>rfl
 have b29:=F29.binds (ps:=["machine","row"]) fun _ _ _ _ _ _ us hl=>us2 us hl fun _ _=>rfl
 have b30:=F30.binds (ps:=["machine","row"]) fun _ _ _ _ _ _ us hl=>us2 us hl fun _ _=>rfl
 have b31:=F31.binds (ps:=["machine","row"]) fun _ _ _ _ _ _ us hl=>us2 us hl fun _ _=>rfl
 have b32:=F32.binds (ps:=["machine","row"]) fun _ _ _ _ _ _ us hl=>us2 us hl fun _ _=>rfl
 have b33:=F33.binds (ps:=["machine","row"]) fun _ _ _ _ _ _ us hl=>us2 us hl fun _ _=>rfl
 have b34:=F34.binds (ps:=["machine","row"]) fun _ _ _ _ _ _ us hl=>us2 us hl fun _ _=>rfl
 have b35:=F35.binds (ps:=["machine","row"]) fun _ _ _ _ _ _ us hl=>us2 us hl fun _ _=>rfl
 have b36:=F36.binds (ps:=["machine","row"]) fun _ _ _ _ _ _ us hl=>us2 us hl fun _ _=>rfl
 have b37:=F37.binds (ps:=["machine","places"]) fun _ _ _ _ _ _ us hl=>us2 us hl fun _ _=>rfl
 have b38:=F38.binds (ps:=["machine","row"]) fun _ _ _ _ _ _ us hl=>us2 us hl fun _ _=>rfl
 have b39:=F39.binds (ps:=["machine","row"]) fun _ _ _ _ _ _ us hl=>us2 us hl fun _ _=>rfl
 have b40:=F40.binds (ps:=["machine","row"]) fun _ _ _ _ _ _ us hl=>us2 us hl fun _ _=>rfl
 have b41:=F41.binds (ps:=["machine","row"]) fun _ _ _ _ _ _ us hl=>us2 us hl fun _ _=>rfl
 have b46:=F46.binds (ps:=["code","most"]) fun _ _ _ _ _ _ us hl=>match us,hl with|[_,_],_=>⟨_,rfl,rfl⟩
 have b48:=F48.binds (ps:=["_law_script","_law_k"]) fun _ _ _ _ _ _ us hl=>us2 us hl fun _ _=>rfl
 have b49:=F49.binds (ps:=["_law_script","_law_k","_law_salt"]) fun _ _ _ _ _ _ us hl=>us3 us hl fun _ _ _=>rfl
 have b50:=F50.binds (ps:=["_law_state","_law_many"]) fun _ _ _ _ _ _ us hl=>us2 us hl fun _ _=>rfl
 have b51:=F51.binds (ps:=["_law_state"]) fun _ _ _ _ _ _ us hl=>us1 us hl fun _=>rfl
 have b52:=F52.binds (ps:=["_law_state"]) fun _ _ _ _ _ _ us hl=>us1 us hl fun _=>rfl
 have b53:=F53.binds (ps:=["_law_state","_law_own_here","_law_shared","_law_kind_here"]) fun _ _ _ _ _ _ us hl=>us4 us hl fun _ _ _ _=>rfl
 have b54:=F54.binds (ps:=["_law_state","_law_own_here","_law_shared","_law_kind_here","_law_depth"]) fun _ _ _ _ _ _ us hl=>us5 us hl fun _ _ _ _ _=>rfl
 have b55:=F55.binds (ps:=["_law_state","_law_own_here","_law_shared","_law_kind_here","_law_depth"]) fun _ _ _ _ _ _ us hl=>us5 us hl fun _ _ _ _ _=>rfl
 have b56:=F56.binds (ps:=["_law_state","_law_own_here","_law_shared","_law_kind_here","_law_depth"]) fun _ _ _ _ _ _ us hl=>us5 us hl fun _ _ _ _ _=>rfl
 have b57:=F57.binds (ps:=["_law_state","_law_depth"]) fun _ _ _ _ _ _ us hl=>us2 us hl fun _ _=>rfl
 have b58:=F58.binds (ps:=["_law_e"]) fun _ _ _ _ _ _ us hl=>us1 us hl fun _=>rfl
 have b59:=F59.binds (ps:=["_law_function","_law_value","_law_world"]) fun _ _ _ _ _ _ us hl=>us3 us hl fun _ _ _=>rfl
 have b60:=F60.binds (ps:=["_law_word","_law_left","_law_right"]) fun _ _ _ _ _ _ us hl=>us3 us hl fun _ _ _=>rfl
 have b61:=F61.binds (ps:=["_law_term","_law_own_here","_law_world"]) fun _ _ _ _ _ _ us hl=>us3 us hl fun _ _ _=>rfl
 have b62:=F62.binds (ps:=["_law_vals_here","_law_term","_law_most"]) fun _ _ _ _ _ _ us hl=>us3 us hl fun _ _ _=>rfl
 have b63:=F63.binds (ps:=["_law_work","_law_own_here","_law_x","_law_body"]) fun _ _ _ _ _ _ us hl=>us4 us hl fun _ _ _ _=>rfl
 have b64:=F64.binds (ps:=["_law_work","_law_own_here","_law_term"]) fun _ _ _ _ _ _ us hl=>us3 us hl fun _ _ _=>rfl
 have b65:=F65.binds (ps:=["_law_work","_law_own_here","_law_term"]) fun _ _ _ _ _ _ us hl=>us3 us hl fun _ _ _=>rfl
 have b66:=F66.binds (ps:=["_law_work","_law_own_here","_law_term"]) fun _ _ _ _ _ _ us hl=>us3 us hl fun _ _ _=>rfl
 have b67:=F67.binds (ps:=["_law_work","_law_own_here","_law_term"]) fun _ _ _ _ _ _ us hl=>us3 us hl fun _ _ _=>rfl
 have b68:=F68.binds (ps:=["_law_row","_law_begins"]) fun _ _ _ _ _ _ us hl=>us2 us hl fun _ _=>rfl
 have b69:=F69.binds (ps:=["_law_vals_here","_law_term","_law_about"]) fun _ _ _ _ _ _ us hl=>us3 us hl fun _ _ _=>rfl
 have b70:=F70.binds (ps:=["_law_code_here","_law_most"]) fun _ _ _ _ _ _ us hl=>us2 us hl fun _ _=>rfl
 obtain⟨dk,y0,y1,y2,y3,R⟩:=hRk
 obtain⟨dw,x0,x1,x2,x3,x4,x5,x6,x10,x11,x12,x13,x14,x15,x16,x17,x18,W⟩:=hRw
 obtain rfl:=ref_inj a14 R.n0
 obtain rfl:=ref_inj a15 R.n1
 obtain rfl:=ref_inj a16 R.n2
 obtain rfl:=ref_inj a17 R.n3
 obtain rfl:=ref_inj a28 W.n0
 obtain rfl:=ref_inj a29 W.n1
 obtain rfl:=ref_inj a30 W.n2
 obtain rfl:=ref_inj a31 W.n3
 obtain rfl:=ref_inj a32 W.n4
 obtain rfl:=ref_inj a33 W.n5
 obtain rfl:=ref_inj a34 W.n6
 obtain rfl:=ref_inj a35 W.n7
 obtain rfl:=ref_inj a36 W.n8
 obtain rfl:=ref_inj a38 W.n9
 obtain rfl:=ref_inj a39 W.n10
 obtain rfl:=ref_inj a40 W.n11
 obtain rfl:=ref_inj a41 W.n12
 have mT:=(PySem.W.mg_of X G aT)
 have mL:=(PySem.W.mg_of X G aL)
 have mD:=(PySem.W.mg_of X G aD)
 have mX:=(PySem.W.mg_of X G aX)
 obtain⟨OT,COT⟩:=xiT base mg XB mT
 obtain⟨OL,COL⟩:=xiL base mg XB mL
 obtain⟨OD,COD⟩:=xiD base mg XB mD
 obtain⟨tkM,vM⟩:=vM
 have Tx:TxM K M F C B:=⟨cM,nM0,nM1,nM2,nM3,nM4,nM5,cF,nF0,nF1,cC,nC0,nC1,nC2,cB,nB0,nB1⟩
 have ZG:ClsG mg CS CT CL CD A1 A2 A3 A4:=⟨(PySem.W.mg_of X G aS),mT,mL,mD,(PySem.W.mg_of X G a1),(PySem.W.mg_of X G a2),(PySem.W.mg_of X G a3),(PySem.W.mg_of X G a4),m_ValueError,m_isinstance⟩
 have H11:Has l.prog w K mg base 1 "is_whole" ["thing"] spWhole:=⟨f11,g11,ok_whole F11 m_isinstance m_int m_bool,b11,F11.kp,PySem.W.mg_of X G a11⟩
 have H19:Has l.prog w K mg base 2 "number_of" ["value"] spNum:=⟨f19,g19,ok_num F19 H11,b19,F19.kp,PySem.W.mg_of X G a19⟩
 have G20:=ok_reck (P:=l.prog) (w:=w) (mg:=mg) (base:=base) (fr:=(fun n=>([f14,f15,f16,f17]:List Addr).getD n 0)) F20 OT PySem.F.excBase_ValueError m_abs (PySem.W.mg_of X G R.nm) R.dict (fun n hn=>by
  have hh:n=0∨n=1∨n=2∨n=3:=by omega
  rcases hh with rfl|rfl|rfl|rfl
  ·exact⟨_,ok_rk0 F14,F14.kp,b14⟩
  ·exact⟨_,ok_rk1 F15,F15.kp,b15⟩
  ·exact⟨_,ok_rk2 F16,F16.kp,b16⟩
  ·exact⟨_,ok_rk3 F17,F17.kp,b17⟩) H19
 have H21:Has l.prog w K mg base 1 "taken_off" ["pile","count"] spTaken:=⟨f21,g21,ok_taken F21 m_tuple m_reversed m_range,b21,F21.kp,PySem.W.mg_of X G a21⟩
 have GC:=ok_calls (P:=l.prog) (w:=w) (mg:=mg) (base:=base) FC0 Tx
 have GB:=ok_begin (P:=l.prog) (w:=w) (mg:=mg) (base:=base) FC1 Tx OL PySem.F.excBase_ValueError OD PySem.F.excBase_ValueError (PySem.W.mg_of X G vM)
 have GK:=ok_comeb (P:=l.prog) (w:=w) (mg:=mg) (base:=base) FC2 Tx
 have GF:=ok_frame (P:=l.prog) (w:=w) (mg:=mg) (base:=base) FF0 Tx
 have GL:=ok_closed (P:=l.prog) (w:=w) (mg:=mg) (base:=base) FB0 Tx
 have GM:=ok_mach (P:=l.prog) (w:=w) (mg:=mg) (base:=base) FM0 Tx ⟨mkC,MC0.at_,MC0.fn,kcC⟩ GC bC0 mgC ⟨mkF,MF0.at_,MF0.fn,kcF⟩ GF bF0 mgF
 have G34:=ok_doreck (P:=l.prog) (w:=w) (mg:=mg) (base:=base) F34 Tx H21 G20 (PySem.W.mg_of X G a20) F20.kp b20
 have H37:Has l.prog w K mg base 1 "locals_at" ["machine","places"] (spLocals M F C):=⟨f37,g37,ok_locals F37 Tx,b37,F37.kp,PySem.W.mg_of X G a37⟩
 have G38:=ok_doclose (P:=l.prog) (w:=w) (mg:=mg) (base:=base) F38 Tx ⟨mkB,MB0.at_,MB0.fn,kcB⟩ GL bB0 mgB H37
 have G39:=ok_doring (P:=l.prog) (w:=w) (mg:=mg) (base:=base) F39 Tx ⟨mkB,MB0.at_,MB0.fn,kcB⟩ GL bB0 mgB H37 m_zip
 have G40:=ok_docall (P:=l.prog) (w:=w) (mg:=mg) (base:=base) F40 Tx ic m_isinstance H21 mgB MC1 GB bC1 ⟨mkF,MF0.at_,MF0.fn,kcF⟩ GF bF0 mgF
 have G41:=ok_doback (P:=l.prog) (w:=w) (mg:=mg) (base:=base) F41 Tx m_len MC2 GK bC2
 have G46:=ok_done (P:=l.prog) (w:=w) (mg:=mg) (base:=base) (CT:=CT) (CTl:=CL) (CTd:=CD) (fr:=(fun n=>([f28,f29,f30,f31,f32,f33,f34,f34,f34,f34,f35,f36,f38,f39,f40,f41,x16,x17,x18]:List Addr).getD n 0)) F46 Tx ⟨mkM,MM0.at_,MM0.fn,kcM⟩ GM bM0 mgM (PySem.W.mg_of X G W.nm) W.dict (used_all ⟨1,_,by decide,(ok_do0 F28 Tx),F28.kp,b28⟩ ⟨1,_,by decide,(ok_do1 F29 Tx),F29.kp,b29⟩ ⟨1,_,by decide,(ok_do2 F30 Tx),F30.kp,b30⟩ ⟨1,_,by decide,(ok_do3 F31 Tx),F31.kp,b31⟩ ⟨1,_,by decide,(ok_do4 F32 Tx m_range),F32.kp,b32⟩ ⟨1,_,by decide,(ok_do5 F33 Tx),F33.kp,b33⟩ ⟨4,_,by decide,G34,F34.kp,b34⟩ ⟨4,_,by decide,G34,F34.kp,b34⟩ ⟨4,_,by decide,G34,F34.kp,b34⟩ ⟨4,_,by decide,G34,F34.kp,b34⟩ ⟨3,_,by decide,(ok_do7 F35 Tx H19),F35.kp,b35⟩ ⟨1,_,by decide,(ok_do8 F36 Tx),F36.kp,b36⟩ ⟨3,_,by decide,G38,F38.kp,b38⟩ ⟨3,_,by decide,G39,F39.kp,b39⟩ ⟨3,_,by decide,G40,F40.kp,b40⟩ ⟨2,_,by decide,G41,F41.kp,b41⟩) H19
 have G58:=ok_class (P:=l.prog) (w:=w) (mg:=mg) (base:=base) F58 ZG ⟨xcT,kST,kTT,kLT,kDT,kVT,kNT⟩ ⟨xcL,kSL,kTL,kLL,kDL,kVL,kNL⟩ ⟨xcD,kSD,kTD,kLD,kDD,kVD,kND⟩
 have H48:Has l.prog w K mg base 1 "_law_cell_at" ["_law_script","_law_k"] (spCell K):=⟨f48,g48,ok_cell F48 m_len,b48,F48.kp,PySem.W.mg_of X G a48⟩
 have H49:Has l.prog w K mg base 2 "_law_drawn" ["_law_script","_law_k","_law_salt"] (spDrawn K):=⟨f49,g49,ok_drawn F49 m_int H48,b49,F49.kp,PySem.W.mg_of X G a49⟩
 have H50:Has l.prog w K mg base 1 "_law_next" ["_law_state","_law_many"] spNext:=⟨f50,g50,ok_next F50,b50,F50.kp,PySem.W.mg_of X G a50⟩
 have H51:Has l.prog w K mg base 2 "_law_number" ["_law_state"] spNumb:=⟨f51,g51,ok_numb F51 H50,b51,F51.kp,PySem.W.mg_of X G a51⟩
 have H52:Has l.prog w K mg base 2 "_law_kind" ["_law_state"] spKind:=⟨f52,g52,ok_kind F52 m_len H50,b52,F52.kp,PySem.W.mg_of X G a52⟩
 have H53:=leaf_all (P:=l.prog) (w:=w) (mg:=mg) (base:=base) F53 b53 (PySem.W.mg_of X G a53) m_len m_enumerate m_str H50 H51 7
 have G56:=grown_all (P:=l.prog) (w:=w) (mg:=mg) (base:=base) F56 b56 (PySem.W.mg_of X G a56) F54 b54 (PySem.W.mg_of X G a54) F55 b55 (PySem.W.mg_of X G a55) m_len m_str m_range m_int m_tuple H50 H52 H51 H53 4 (by decide)
 have H56:Has l.prog w K mg base 18 "_law_grown" pGr (spGr 3):=Has.weak (⟨f56,g56,G56,b56,F56.kp,(PySem.W.mg_of X G a56)⟩:Has l.prog w K mg base 18 "_law_grown" pGr (spGrU 4)) fun vs H Q E h=>⟨3,by decide,h⟩
 have H57:Has l.prog w K mg base 19 "_law_vals" ["_law_state","_law_depth"] spVals:=⟨f57,g57,ok_vals F57 m_range m_int H50 H52 H56,b57,F57.kp,PySem.W.mg_of X G a57⟩
 have G60:=ok_sum (P:=l.prog) (w:=w) (mg:=mg) (base:=base) F60 OT PySem.F.excBase_ValueError m_int m_abs m_str m_len
 have G61:=work_all (P:=l.prog) (w:=w) (mg:=mg) (base:=base) F61 b61 (PySem.W.mg_of X G a61) m_dict m_int G60 (PySem.W.mg_of X G a60) F60.kp b60 F59 (PySem.W.mg_of X G a59) b59 OL PySem.F.excBase_ValueError OD PySem.F.excBase_ValueError 143 10
 have H62:Has l.prog w K mg base 155 "_law_due" ["_law_vals_here","_law_term","_law_most"] spDue:=⟨f62,g62,ok_due F62 mX COT COL COD G61 (PySem.W.mg_of X G a61) F61.kp b61 G58 (PySem.W.mg_of X G a58) F58.kp b58,b62,F62.kp,PySem.W.mg_of X G a62⟩
 have H63:Has l.prog w K mg base 1 "_law_held" ["_law_work","_law_own_here","_law_x","_law_body"] spHeld:=⟨f63,g63,ok_held F63 m_len m_list m_tuple,b63,F63.kp,PySem.W.mg_of X G a63⟩
 have H67:=rows_all (P:=l.prog) (w:=w) (mg:=mg) (base:=base) F67 b67 (PySem.W.mg_of X G a67) F65 b65 (PySem.W.mg_of X G a65) F64 b64 (PySem.W.mg_of X G a64) F66 b66 (PySem.W.mg_of X G a66) m_len H63 13
 have H68:Has l.prog w K mg base 1 "_law_whole_row" ["_law_row","_law_begins"] spWR:=⟨f68,g68,ok_wrow F68 m_isinstance m_tuple,b68,F68.kp,PySem.W.mg_of X G a68⟩
 have H69:Has l.prog w K mg base 27 "_law_code" ["_law_vals_here","_law_term","_law_about"] spCode:=⟨f69,g69,ok_code F69 m_tuple m_len H67 H68,b69,F69.kp,PySem.W.mg_of X G a69⟩
 have H70:Has l.prog w K mg base 6 "_law_told" ["_law_code_here","_law_most"] spToldR:=⟨f70,g70,ok_told F70 m_isinstance m_int m_bool mX COT COL COD G46 (PySem.W.mg_of X G a46) F46.kp b46 G58 (PySem.W.mg_of X G a58) F58.kp b58,b70,F70.kp,PySem.W.mg_of X G a70⟩
 exact ok_law F71 m_range m_len m_min m_max m_tuple m_list H49 H57 H50 H69 H62 H70
theorem walk {l:PySem.W.OpenLaw}{q:Program}{loose:List Str}{XP:(Str→Option Value)→Heap→Prop}{YP:World→Heap→Prop}{d:DefRec}{K:Params→PySem.W.Frag}(hn:l.most=some 63)(hdf:d.params.defaults=[])
  (hY:∀(w:World) (h:Heap),YP w h→(K w.params).In h)
  (F:∀(w:World) (mg:Str→Option Value) (fa:Addr) (h:Heap),(K w.params).In h→h.Ns mainGlobals mg→mg d.name=some (.ref fa)→
   ∃fd:FuncData,(∀(s:Shared) (u:Value),BindsTo s fd ⟨[u],[]⟩ [("_law_script",u)])∧∀base:Heap,(K w.params).In base→base.Ns mainGlobals mg→FnOk l.prog w (K w.params) mg base CX0 156 fa fd ["_law_script"] (spLaw (K w.params))):
  PySem.W.WalkO q loose XP YP l.row.toRowW d [] (fun f vs=>PySem.call f vs) :=
 L2.walk_of (n:=63) (k:=156) (x:="_law_script") (CX:=fun _=>CX0) (sp:=fun w=>spLaw (K w.params)) hn (by decide) hdf ⟨rfl,by decide,by decide⟩ hY F (fun _ _ a ns hl _ hS=>⟨a,ns,rfl,hS,hl,fun _=>rfl⟩) fun _ _ _ _ _ z=>z
end Fw
open PySem PySem.W PyProof.Rows
namespace PySem.W.Fast
def tw4699853307826289218:=()
def tw17493772007485031443:=()
def tw17762025018731574942:=()
def tw1061978704923085044:=()
def tw6666092787503750614:=()
def tw3397018665087115172:=()
def tw10622651801901209440:=()
def tw12676211840646481774:=()
def tw5905120112737635016:=()
def tw2288683494254228375:=()
def tw13853481352921247035:=()
def tw15504524227652465202:=()
def tw8843296731532514617:=()
def tw15397238581908597940:=()
def tw14286136181830014952:=()
def tw15450355156674705342:=()
def tw7516712314590157482:=()
def tw15193921760832690281:=()
def tw2641777097877541384:=()
def tw1782337168164235045:=()
def tw3161945657358107178:=()
def tw4961282119524823157:=()
def tw8860595314346082539:=()
def tw10699686982828408005:=()
def tw15950857050569307441:=()
def tw1370024299152411179:=()
def tw3954876845714636607:=()
def tw2026159410041302137:=()
def tw10084140353592032727:=()
def tw13475722498273807622:=()
def tw7628299310959444255:=()
def tw6755995390924361025:=()
def tw8652326492059271921:=()
def tw18111818972320303808:=()
def tw1282197816620355211:=()
def tw2662256189922735763:=()
def tw17702467206433241216:=()
def tw1300243000707462539:=()
def tw17723131985005496011:=()
def tw13429742398128546332:=()
def tw2747559875163544652:=()
def tw16170424368268874105:=()
def tw3047897850629264363:=()
def tw17973163581010526477:=()
def tw18225551040379431038:=()
def tw3748129461053859880:=()
def tw9901979752224172842:=()
def tw16986422792182056493:=()
def tw1041091199707256490:=()
def tw8201799067101002246:=()
def tw18397087653962552409:=()
def tw10946986855077483834:=()
def tw15608223196751353616:=()
def tw4905543275384445808:=()
def tw2995902589870001553:=()
def tw628500816426593622:=()
def tw2595937503714923693:=()
def tw11172898102061936741:=()
def tw6020372540712320923:=()
def tw8456851899179875141:=()
def tw10098720542153361267:=()
def tw7630682023852273100:=()
def tw5739778791764618104:=()
def tw5621888632552409087:=()
def tw14528096005080563013:=()
def tw16557974058795113422:=()
def tw11024889662085217499:=()
def tw14028376141365905394:=()
def tw5868141030016340696:=()
def tw17735941549430372433:=()
def tw5970168654215904634:=()
def tw10928479783713896344:=()
def tw2610460754842371664:=()
def tw10522291925332723024:=()
def tw3896483440243908935:=()
def tw3791467683038981975:=()
def tw5648866837730899818:=()
def tw17159449931113323467:=()
def tw16289265245705941793:=()
def tw16378814920417881728:=()
def tw3494657788847243033:=()
def tw2714670939509656710:=()
def tw10152284946141064035:=()
def tw15024468332560990239:=()
def tw9872823908838110161:=()
def tw14069528848021738865:=()
def tw9312042359162430521:=()
def tw8552498257192479017:=()
def tw11197985374364404081:=()
def tw17377266028045699446:=()
def tw14221677977026624641:=()
def tw16592097142720640140:=()
def tw8452471851435030532:=()
def tw11270654193041194207:=()
def tw10019864977497555023:=()
def tw4683918118659493452:=()
def tw9946453485399632466:=()
def tw12830362501063585636:=()
def tw18326780070377311936:=()
def tw5621212453559761150:=()
def tw6592025164787815814:=()
def tw4219410947049709734:=()
def tw15606642548144874629:=()
def tw5133425337922205200:=()
def tw4089494197271798160:=()
def tw738498621299026784:=()
def tw9095698007027009546:=()
def tw17865951941347571476:=()
def tw15933818772207000848:=()
def tw10095550086716602764:=()
def tw12799649406352491265:=()
def tw17158131309028043841:=()
def tw16859137232993540854:=()
def tw7741941286821672827:=()
def tw9265022117523754894:=()
def tw1252751454475350931:=()
def tw13216665239687052145:=()
def tw15917025459797916401:=()
def tw2896424789235566735:=()
def tw16455355945312220131:=()
def tw9768309649751547935:=()
def tw1562366503449103814:=()
def tw5343499221721556517:=()
def tw6664580114869119958:=()
def tw18007821593212277760:=()
def tw17982442041631881493:=()
def tw14349764321289506046:=()
def tw15407251104366080148:=()
def tw6745237294841915022:=()
def tw233502952616663919:=()
def tw9026408970758832449:=()
def tw12836620944650272142:=()
def tw2386958035667136458:=()
def tw7875323454507096243:=()
def tw11464324973368183120:=()
def tw14477525070312314974:=()
def tw18325327800165183316:=()
def tw17298964782544638403:=()
def tw3167190827938403456:=()
def tw10178827529854142147:=()
def tw14665815997179479543:=()
def tw7417924853686379583:=()
def tw2925270405445270900:=()
def tw6570966712528064932:=()
def tw2547468917526762802:=()
def tw1107298632631202057:=()
def tw11103830579140012807:=()
def tw6014078715400657654:=()
def tw9477486919931925560:=()
def tw7300427976698598098:=()
def tw7478354106628139023:=()
def tw13578915193041512991:=()
def tw614141154298264923:=()
def tw6411113763763803137:=()
def tw5105967799536341610:=()
def tw3794825122755216281:=()
def tw15992879971346245249:=()
def tw9270094265533278095:=()
def tw3173782659479311885:=()
def tw13065752092690334767:=()
def tw3371066398252595293:=()
def tw13377968103902130675:=()
def tw624655554309565232:=()
def tw16399717645630186978:=()
def tw1997511598834546462:=()
def tw15964738511130233710:=()
def tw5585685323573804028:=()
def tw11341323133562047099:=()
def tw5149701845926963138:=()
def tw6640827130384334854:=()
def tw9137053344677524574:=()
def tw7984686470159277095:=()
def tw2744743862080568878:=()
def tw16317929224257245022:=()
def tw2714126472162922741:=()
def tw7065590808874522994:=()
def tw13226345050372289523:=()
def tw1337040311935547670:=()
def tw15743712882297922427:=()
end PySem.W.Fast
set_option maxRecDepth 100000 in
set_option maxHeartbeats 0 in
theorem PySem.Challenge.cw_facework_k66_rings_holds : PySem.Challenge.rw_facework_k66_rings.Holds := by
 w_on;o_law;k_head;(case hw=>w_witness2)
 k_fill
 refine Fw.walk (l:=PySem.Challenge.rw_facework_k66_rings) rfl rfl (fun w h Y=>PySem.W.kIn_of Y) ?F
 case F=>
  intro w mg fa h KX G hmg
  refine' Fw.all_mk KX G hmg ?z_len ?z_isinstance ?z_tuple ?z_list ?z_reversed ?z_range ?z_int ?z_bool ?z_abs ?z_min ?z_max ?z_ValueError ?z_str ?z_dict ?z_enumerate ?z_zip ?aM ?cM ?mkM ?kcM ?nM0 ?nM1 ?nM2 ?nM3 ?nM4 ?nM5 ?mM0 ?aF ?cF ?mkF ?kcF ?nF0 ?nF1 ?mF0 ?aC ?cC ?mkC ?kcC ?nC0 ?nC1 ?nC2 ?mC0 ?mC1 ?mC2 ?aB ?cB ?mkB ?kcB ?nB0 ?nB1 ?mB0 ?aS ?aT ?aL ?aD ?a1 ?a2 ?a3 ?a4 ?aX ?kST ?kTT ?kLT ?kDT ?kVT ?kNT ?xcT ?xiT ?kSL ?kTL ?kLL ?kDL ?kVL ?kNL ?xcL ?xiL ?kSD ?kTD ?kLD ?kDD ?kVD ?kND ?xcD ?xiD ?vM ?ic ?hRk ?hRw ?d11 ?d14 ?d15 ?d16 ?d17 ?d19 ?d20 ?d21 ?d28 ?d29 ?d30 ?d31 ?d32 ?d33 ?d34 ?d35 ?d36 ?d37 ?d38 ?d39 ?d40 ?d41 ?d46 ?d48 ?d49 ?d50 ?d51 ?d52 ?d53 ?d54 ?d55 ?d56 ?d57 ?d58 ?d59 ?d60 ?d61 ?d62 ?d63 ?d64 ?d65 ?d66 ?d67 ?d68 ?d69 ?d70 ?d71
  (case z_len|z_isinstance|z_tuple|z_list|z_reversed|z_range|z_int|z_bool|z_abs|z_min|z_max|z_ValueError|z_str|z_dict|z_enumerate|z_zip|aM|mkM|kcM|aF|mkF|kcF|aC|mkC|kcC|aB|mkB|kcB|aS|aT|aL|aD|a1|a2|a3|a4|aX=>k_is)
  (case cM|cF|cC|cB=>refine' Fw.cls_mk ?pg ?hd ?po ?sa;(case pg=>k_is);(case hd=>k_is);(case po=>k_is);(case sa=>k_is))
  (case nM0|nM1|nM2|nM3|nM4|nM5|nF0|nF1|nC0|nC1|nC2|nB0|nB1=>refine' Fw.noat_mk ?n;(case n=>k_is))
  (case mM0|mF0|mC0|mC1|mC2|mB0=>refine' Fw.meth_mk ?a ?i ?l ?c ?k;(case a=>k_is);(case i=>k_is);(case l=>k_is);(case c=>k_is);(case k=>k_is))
  (case kST|kTT|kLT|kDT|kVT|kNT|kSL|kTL|kLL|kDL|kVL|kNL|kSD|kTD|kLD|kDD|kVD|kND=>kernel_rfl)
  (case xcT|xcL|xcD=>refine' Fw.exc_mk ?xc0 ?xc1 ?xcb ?xc2 ?xc3 ?xc4 ?xc5 ?xcl;(case xc0=>k_is);(case xc1=>k_is);(case xcb=>k_is);(case xc2=>k_is);(case xc3=>k_is);(case xc4=>k_is);(case xc5=>k_is);(case xcl=>k_is))
  (case xiT|xiL|xiD=>refine' Fw.excis_mk ?l1 ?n1 ?n2 ?t1 ?l2 ?b1 ?b2;(case l1=>k_is);(case n1=>kernel_rfl);(case n2=>k_is);(case t1=>kernel_rfl);(case l2=>k_is);(case b1=>decide+kernel);(case b2=>decide+kernel))
  (case vM=>refine' Fw.val_int ?a ?e;(case a=>k_is);(case e=>decide+kernel))
  (case ic=>refine' Fw.isc_mk ?i1 ?i2 ?i3 ?i4 ?i5;(case i1=>k_is);(case i2=>k_is);(case i3=>k_is);(case i4=>k_is);(case i5=>kernel_rfl))
  (case hRk=>refine' Fw.rkis_mk ?a ?a0 ?a1 ?a2 ?a3 ?dl ?ds ?dx ?dp;(case a=>k_is);(case a0=>k_is);(case a1=>k_is);(case a2=>k_is);(case a3=>k_is);(case dl=>k_is);(case ds=>decide+kernel);(case dx=>exact⟨rfl,rfl,rfl⟩);(case dp=>exact .cons ⟨rfl,⟨_,rfl⟩,rfl⟩ (.cons ⟨rfl,⟨_,rfl⟩,rfl⟩ (.cons ⟨rfl,⟨_,rfl⟩,rfl⟩ (.cons ⟨rfl,⟨_,rfl⟩,rfl⟩ .nil)))))
  (case hRw=>refine' Fw.rwis_mk ?a ?a0 ?a1 ?a2 ?a3 ?a4 ?a5 ?a6 ?a7 ?a8 ?a9 ?a10 ?a11 ?a12 ?dl ?ds ?dx ?dp;(case a=>k_is);(case a0=>k_is);(case a1=>k_is);(case a2=>k_is);(case a3=>k_is);(case a4=>k_is);(case a5=>k_is);(case a6=>k_is);(case a7=>k_is);(case a8=>k_is);(case a9=>k_is);(case a10=>k_is);(case a11=>k_is);(case a12=>k_is);(case dl=>k_is);(case ds=>decide+kernel);(case dx=>exact⟨rfl,rfl,rfl⟩);(case dp=>exact .cons ⟨rfl,⟨_,rfl⟩,rfl⟩ (.cons ⟨rfl,⟨_,rfl⟩,rfl⟩ (.cons ⟨rfl,⟨_,rfl⟩,rfl⟩ (.cons ⟨rfl,⟨_,rfl⟩,rfl⟩ (.cons ⟨rfl,⟨_,rfl⟩,rfl⟩ (.cons ⟨rfl,⟨_,rfl⟩,rfl⟩ (.cons ⟨rfl,⟨_,rfl⟩,rfl⟩ (.cons ⟨rfl,⟨_,rfl⟩,rfl⟩ (.cons ⟨rfl,⟨_,rfl⟩,rfl⟩ (.cons ⟨rfl,⟨_,rfl⟩,rfl⟩ (.cons ⟨rfl,⟨_,rfl⟩,rfl⟩ (.cons ⟨rfl,⟨_,rfl⟩,rfl⟩ (.cons ⟨rfl,⟨_,rfl⟩,rfl⟩ (.cons ⟨rfl,⟨_,rfl⟩,rfl⟩ (.cons ⟨rfl,⟨_,rfl⟩,rfl⟩ (.cons ⟨rfl,⟨_,rfl⟩,rfl⟩ (.cons ⟨rfl,⟨_,rfl⟩,rfl⟩ (.cons ⟨rfl,⟨_,rfl⟩,rfl⟩ (.cons ⟨rfl,⟨_,rfl⟩,rfl⟩ .nil))))))))))))))))))))
  (case d11|d14|d15|d16|d17|d19|d20|d21|d28|d29|d30|d31|d32|d33|d34|d35|d36|d37|d38|d39|d40|d41|d48|d49|d50|d51|d52|d53|d54|d55|d56|d57|d58|d59|d60|d61|d62|d63|d64|d65|d66|d67|d68|d69|d70|d71=>refine' Fw.def_mk ?a ?l ?c ?k;(case a=>k_is);(case l=>k_is);(case c=>k_is);(case k=>k_is))
  (case d46=>refine' Fw.def_mkD ?a ?l ?c ?k ?t;(case a=>k_is);(case l=>k_is);(case c=>k_is);(case k=>k_is);(case t=>k_is))
#print axioms PySem.Challenge.cw_facework_k66_rings_holds
