import PyProof.Rows.All
import Wide.All
import OpenK.AllK
import Wide.FinOn
import Lean
import PyProof.EqAt
import PyProof.EqKinds
import PyProof.TupleCall
import PyProof.StationsW
import OpenK.KOwn
import PyProof.ExcBaseAll.ValueError
import PyProof.NsDelKeeps
import PyProof.RulesAs
import KE.KLam
import KE.KNest
import KE.KIsAll
import PyProof.ExcArgs
import PyProof.StrCalls6
import KE.KStrOpen
import PyProof.Rows.StrJoin2
import PyProof.Rows.FStr
import KE.KIntText
import PyProof.CompUse
import KE.KRevIter
import PyProof.CollectWalk
import PyProof.TupleOfSeq
import PyProof.ZipIter
import PySem.Challenge.RW_facework_k06_programs_refused
set_option Elab.async false
set_option linter.all false
set_option maxRecDepth 100000
def ail:=@PySem.W.mg_of
def ain:=@Bool.and_eq_true
def aio:=@Nat.le_refl
def aip:=@Bool.false_ne_true
def aiq:=@PySem.Heap.get?_push_of_some
def air:=@List.mem_cons_of_mem
def ais:=@List.size_toArray
def ait:=@List.mem_append_right
def aiu:=@PySem.Heap.lt_size
def aiv:=@Nat.le_trans
def aiw:=@Nat.lt_of_lt_of_le
def aix:=@List.length_map
def aiy:=@Bool.or_eq_false_iff
def aiz:=@List.not_mem_nil
def aiA:=@PySem.F.plainAttrs_list
def aiB:=@List.mem_cons
def aiC:=@PySem.Heap.get?_push_size
def aiD:=@List.append_assoc
def aiE:=@List.getElem?_eq_getElem
def aiF:=@List.length_cons
def aiG:=@List.length_append
def aiH:=@List.lookup_cons
def aiI:=@Nat.lt_irrefl
def aiJ:=@PySem.F.plainAttrs_str
def aiK:=@PySem.F.slot_list_append
def aiL:=@PySem.F.type_list_append
def aiM:=@Bool.or_eq_true
def aiN:=@Bool.not_eq_true'
def aiO:=@PySem.W.mg_none_of
def aiP:=@Nat.zero_le
def aiQ:=@List.replicate_succ
def aiR:=@List.map_cons
def aiS:=@List.mem_of_getElem?
def aiT:=@Nat.mul_le_mul_right
def aiU:=@PySem.W.kia_one
def aiV:=@List.map_append
def aiW:=@List.length_take
def aiX:=@List.mem_cons_self
def aiY:=@List.mem_append_left
def aiZ:=@List.length_nil
def ai0:=@List.cons_append
def ai1:=@Bool.eq_iff_iff
def ai2:=@List.append_nil
def ai3:=@Bool.true_and
def ai4:=@List.take_of_length_le
def ai5:=@List.length_drop
def ai6:=@List.getElem?_map
def ai7:=@Nat.ne_of_lt
def ai8:=@PySem.Heap.get?_update_other
def ai9:=@PySem.F.excBase_ValueError
def ai':=@List.flatten_cons
def aja:=@Bool.and_false
def ajb:=@Nat.le_add_right
def ajc:=@List.length_replicate
def ajd:=@List.take_append_drop
def aje:=@List.nil_append
def ajf:=@List.all_cons
def ajg:=@List.dropLast_concat
def ajh:=@List.filterMap_cons
def aji:=@List.flatMap_append
def ajj:=@PySem.W.callWith_K
def ajk:=@Bool.not_eq_false'
def ajl:=@List.flatMap_cons
def ajm:=@PySem.Heap.get?_update_self
def ajn:=@PySem.Heap.size_push
def ajo:=@PySem.F.slot_str_join
def ajp:=@PySem.F.type_str_join
def ajq:=@List.all_eq_true
def ajr:=@List.take_length
def ajs:=@List.getElem_mem
def ajt:=@List.getElem?_append_right
def aju:=@Array.length_toList
def ajv:=@List.length_reverse
def ajw:=@List.mem_map_of_mem
def ajx:=@Nat.le_antisymm
def ajy:=@PySem.F.args_tuple_add_2
def ajz:=@Int.emod_lt_of_pos
def ajA:=@Option.toList_some
def ajB:=@PySem.F.entry_tuple_add
def ajC:=@List.take_add_one
def ajD:=@PySem.W.cellsFrom_some
def ajE:=@PySem.F.slot_tuple_add
def ajF:=@List.drop_eq_nil_of_le
def ajG:=@PySem.F.slot_str_split
def ajH:=@PySem.F.type_str_split
def ajI:=@Bool.beq_eq_decide_eq
def ajJ:=@PySem.F.slot_list_pop
def ajK:=@PySem.F.type_list_pop
def ajL:=@List.eraseIdxIfInBounds_toArray
def ajM:=@Array.getElem?_setIfInBounds_ne
def ajN:=@Nat.le_of_lt
def ajO:=@List.getElem?_set_ne
def ajP:=@Nat.ne_of_gt
def ajQ:=@Nat.le_of_eq
def ajR:=@List.of_mem_zip
def ajS:=@List.length_set
def ajT:=@Int.emod_nonneg
def ajU:=@PySem.W.looks_findIn
def ajV:=@List.nodup_cons
def ajW:=@PySem.W.hideAll_get
def ajX:=@List.takeWhile_cons
def ajY:=@Bool.false_and
def ajZ:=@List.nodup_nil
def aj0:=@List.take_succ
def aj1:=@Bool.false_eq_true
def aj2:=@PySem.F.slot_str_startswith
def aj3:=@PySem.F.type_str_startswith
def aj4:=@Int.toNat_natCast
def aj5:=@Nat.le_succ_of_le
def aj6:=@List.getElem?_append_left
def aj7:=@List.drop_eq_getElem_cons
def aj8:=@Nat.succ_pos
def aj9:=@PySem.F.slot_list_extend
def aj':=@PySem.F.type_list_extend
def akb:=@List.append_inj'
def akc:=@List.getElem?_replicate
def akd:=@Nat.add_sub_cancel_left
def ake:=@Int.eq_ofNat_of_zero_le
def akf:=@List.forIn_cons
def akg:=@List.any_cons
def akh:=@List.sum_cons
namespace L2
open PySem PySem.Spec PyProof.Rows
abbrev Key:=Sum Int Str
def abo:Key->Value->Bool
 |.inl k,v=>Value.isInt k v
 |.inr x,v=>Value.isStrOf x v
def afV (w:World):Key->Int
 |.inl k=>hashInt k
 |.inr x=>hashStr w x
theorem fX:∀{k:Key} {v:Value},abo k v=true->(∃i t,k=Sum.inl i/\v=Value.int i t)\/(∃x t,k=Sum.inr x/\v=Value.str x t)
 |.inl i,v,h=>by
  obtain⟨t,e⟩:=Value.isInt_shape (k:=i) (v:=v) h;exact .inl ⟨i,t,rfl,e⟩
 |.inr x,v,h=>by
  obtain⟨t,e⟩:=Value.isStrOf_shape (x:=x) (v:=v) h;exact .inr ⟨x,t,rfl,e⟩
theorem ab9 (a b:Int):decide ((Sum.inl a:Key)=Sum.inl b)=(a==b):=by
 by_cases e:a=b
 ·subst e;simp
 ·have h:¬(Sum.inl a:Key)=Sum.inl b:=λq=>e (Sum.inl.inj q)
  rw[decide_eq_false h];exact(beq_eq_false_iff_ne.mpr e).symm
theorem acd (a b:Str):decide ((Sum.inr a:Key)=Sum.inr b)=decide (a=b):=by
 by_cases e:a=b
 ·subst e;simp
 ·have h:¬(Sum.inr a:Key)=Sum.inr b:=λq=>e (Sum.inr.inj q)
  rw[decide_eq_false h,decide_eq_false e]
theorem ace (a:Int)(b:Str):decide ((Sum.inl a:Key)=Sum.inr b)=false:=decide_eq_false (λq=>nomatch q)
theorem acf (a:Str)(b:Int):decide ((Sum.inr a:Key)=Sum.inl b)=false:=decide_eq_false (λq=>nomatch q)
def Pr (prog:Program)(w:World):PySem.KeyKind prog w Key where
 is:=abo
 hash:=afV w
 inj:=λv a b ha hb=>by
  rcases fX ha with ⟨i,t,rfl,rfl⟩|⟨x,t,rfl,rfl⟩
  ·rcases fX hb with ⟨j,u,rfl,e⟩|⟨y,u,rfl,e⟩
   ·injection e with e1 _;rw[e1]
   ·exact nomatch e
  ·rcases fX hb with ⟨j,u,rfl,e⟩|⟨y,u,rfl,e⟩
   ·exact nomatch e
   ·injection e with e1 _;rw[e1]
 byValue:=λk v h=>by
  rcases fX h with ⟨i,t,rfl,rfl⟩|⟨x,t,rfl,rfl⟩<;>rfl
 pyHash:=λhv h=>by
  rcases fX hv with ⟨i,t,rfl,rfl⟩|⟨x,t,rfl,rfl⟩
  ·exact wpAny_pyHash_int h
  ·exact wpAny_pyHash_str h
 eqBool:=λhu hv h=>by
  rcases fX hu with ⟨i,t,rfl,rfl⟩|⟨x,t,rfl,rfl⟩
  ·rcases fX hv with ⟨j,u,rfl,rfl⟩|⟨y,u,rfl,rfl⟩
   ·rw[ab9]at h;exact wpAny_eqBool_int h
   ·rw[ace]at h;exact SeqAt.EqAt.int_str i t y u _ _ _ _ h
  ·rcases fX hv with ⟨j,u,rfl,rfl⟩|⟨y,u,rfl,rfl⟩
   ·rw[acf]at h;exact SeqAt.EqAt.str_int x t j u _ _ _ _ h
   ·rw[acd]at h;exact wpAny_eqBool_str h
 «strs»:=λk x t v h=>by
  rcases fX h with ⟨i,u,rfl,e⟩|⟨y,u,rfl,e⟩
  ·exact nomatch e
  ·injection e with e1 _
   subst e1;cases v<;>rfl
inductive V where
 |non|bl (b:Bool)|int (i:Int)|str (x:Str)|Va (b:Array UInt8)|flt (b:UInt64)|ref (a:Addr)|ty (n:String)
 deriving DecidableEq
def RelV:V->Value->Prop
 |.non,u=>u=Value.none
 |.bl b,u=>u=Value.bool b
 |.int i,u=>∃t,u=Value.int i t
 |.str x,u=>∃t,u=Value.str x t
 |.Va b,u=>∃t,u=Value.bytes b t
 |.flt b,u=>∃t,u=Value.float b t
 |.ref a,u=>u=Value.ref a
 |.ty n,u=>u=Value.type n
abbrev Vals:List V->List Value->Prop:=Paired RelV
theorem Vals.length {xs:List V}{us:List Value}(r:Vals xs us):xs.length=us.length:=Paired.length r
theorem Vals.get {xs:List V}{us:List Value}{i:Nat}{x:V}(h:Vals xs us)(e:xs[i]?=some x):∃u,us[i]?=some u/\RelV x u:=by
 induction h generalizing i with
 |nil=>simp at e
 |cons r _ ih=>cases i with
  |zero=>cases e;exact⟨_,rfl,r⟩
  |succ i=>exact(ih (i:=i) e:)
theorem Vals.set {x:V}{u:Value}(r:RelV x u){xs:List V}{us:List Value}(i:Nat)(h:Vals xs us):Vals (xs.set i x) (us.set i u):=by
 induction h generalizing i with
 |nil=>exact .nil
 |cons q t ih=>cases i with
  |zero=>exact .cons r t
  |succ i=>exact .cons q (ih i)
theorem Vals.append {xs ys:List V}{us ws:List Value}(h:Vals xs us)(s:Vals ys ws):Vals (xs++ys) (us++ws):=by
 induction h with
 |nil=>exact s
 |cons r _ ih=>exact .cons r ih
theorem Vals.take {xs:List V}{us:List Value}(n:Nat)(h:Vals xs us):Vals (xs.take n) (us.take n):=by
 induction h generalizing n with
 |nil=>cases n<;>exact .nil
 |cons r _ ih=>cases n with
  |zero=>exact .nil
  |succ n=>exact .cons r (ih n)
theorem Vals.drop {xs:List V}{us:List Value}(n:Nat)(h:Vals xs us):Vals (xs.drop n) (us.drop n):=by
 induction h generalizing n with
 |nil=>cases n<;>exact .nil
 |cons r t ih=>cases n with
  |zero=>exact .cons r t
  |succ n=>exact ih n
def wV:Option V->Option Value->Prop
 |some v,some u=>RelV v u
 |none,none=>True
 |_,_=>False
def KV {κ:Type}:List (κ×V)->List (κ×Value)->Prop:=Paired λ(p:κ×V) (q:κ×Value)=>p.1=q.1/\RelV p.2 q.2
def kV:Key->V
 |.inl i=>.int i
 |.inr x=>.str x
inductive HO where
 |lst (xs:List V)
 |tup (xs:List V)
 |dK (m7:List (Key×V))|dT (m7:List (List Key×V))
 |set (S:Int->Bool) (n:Nat)
 |ins (C dx:Addr) (fs:List (Str×V))
 |own (x:Addr)
 |xd (fs:List (Str×V))
 |met (f x:Addr)
 |rng (lo hi:Int)
 |Mf (o:Obj) (u:HO)
 |tbl (ps:Array Value)
 |ext (φ:Heap->Prop)
abbrev Hp:=Addr->Option HO
def upd (H:Hp)(a:Addr)(o:HO):Hp:=λb=>if b=a then some o else H b
theorem bf {H:Hp}{a:Addr}{o:HO}:upd H a o a=some o:=by unfold upd;rw[if_pos rfl]
theorem bI {H:Hp}{a b:Addr}{o:HO}(h:b≠a):upd H a o b=H b:=by unfold upd;rw[if_neg h]
theorem uJ {H:Hp}{a b:Addr}{o u:HO}(h:H a=some o)(h':H b=some u)(d:o≠u):a≠b:=by
 intro e;subst e;rw[h]at h';exact d (Option.some.inj h')
theorem cY {H:Hp}{a b:Addr}{o:HO}(h:H a=some o)(h':H b=none):a≠b:=by
 intro e;subst e;rw[h]at h';cases h'
section
variable (P:Program)(w:World)
def iM (H:Hp)(h:Heap)(a:Addr):HO->Prop
 |.lst xs=>xs.length<=sizeLine/\∃(aU:List Value) (n:Nat),Vals xs aU/\h.get? a=some {cls:=.type "list",data:=.seq aU.toArray n}
 |.tup xs=>xs.length<=sizeLine/\∃aU:List Value,Vals xs aU/\IsTup h a aU.toArray
 |.dK m7=>m7.length<=sizeLine/\(a==sysModules)=false/\∃vs,KV m7 vs/\h.DictOf (Pr P w) a vs
 |.dT m7=>m7.length<=sizeLine/\(a==sysModules)=false/\∃xs:List (List Key×Addr×Value),
   Paired (λ(p:List Key×V) (q:List Key×Addr×Value)=>p.1=q.1/\H q.2.1=some (.tup (p.1.map kV))/\RelV p.2 q.2.2) m7 xs/\
   ∃o es ep,h.get? a=some o/\o.ExactDict/\o.data=.dict es ep/\es.toList=xs.map (entryOfKey (tupleKind (Pr P w)))/\(xs.map (·.1)).Nodup
 |.set S n=>h.SetOf (intKind P w) a S n
 |.ins C dx fs=>H dx=some (.own a)/\fs.length<=1000/\dx≠a/\h.get? a=some (PySem.W.instObj C dx)/\
   ∃mA,h.Ns1 dx mA/\(∀f,wV (fs.lookup f) (mA f))/\PySem.Within mA (fs.map (·.1))
 |.own _=>∃o,h.get? a=some o
 |.xd fs=>∃mA,h.Ns1 a mA/\∀f,wV (fs.lookup f) (mA f)
 |.rng lo hi=>∃t u v,h.get? a=some {cls:=.type "range",data:=.fields #[.int lo t, .int hi u, .int 1 v]}
 |.Mf o u=>h.get? a=some o/\iM H h a u
 |.tbl ps=>h.get? a=some {cls:=.none,data:=.fields ps}
 |.met f x=>h.get? a=some (PySem.W.methodObj (.ref f) (.ref x))
 |.ext φ=>φ h/\(∃o,h.get? a=some o)/\∀h1 h2:Heap,φ h1->(∀o,h1.get? a=some o->h2.get? a=some o)->φ h2
def tZ (H:Hp)(h:Heap):Prop:=∀a o,H a=some o->iM P w H h a o
end
section
variable {P:Program}{w:World}{H H':Hp}{h h':Heap}{a:Addr}{o:HO}
theorem iM.lt (x:iM P w H h a o):a<h.objs.size:=by
 cases o with
 |lst xs=>obtain⟨_,_,_,_,e⟩:=x;exact aiu e
 |tup xs=>obtain⟨_,_,_,p⟩:=x;exact p.lt
 |dK m7=>obtain⟨_,_,_,_,o,_,_,e,_⟩:=x;exact aiu e
 |dT m7=>obtain⟨_,_,_,_,o,_,_,e,_⟩:=x;exact aiu e
 |set S n=>obtain⟨o,_,_,_,e,_⟩:=x;exact aiu e
 |ins C dx fs=>obtain⟨_,_,_,e,_⟩:=x;exact aiu e
 |own y=>obtain⟨_,e⟩:=x;exact aiu e
 |xd fs=>obtain⟨_,⟨_,_,_,e,_⟩,_⟩:=x;exact aiu e
 |rng lo hi=>obtain⟨_,_,_,e⟩:=x;exact aiu e
 |Mf ob u=>obtain⟨e,_⟩:=x;exact aiu e
 |tbl ps=>exact aiu (show h.get? a=some _ from x)
 |met f y=>exact aiu (show h.get? a=some _ from x)
 |ext φ=>obtain⟨_,⟨_,e⟩,_⟩:=x;exact aiu e
theorem Paired.afW {α β:Type}{F G:α->β->Prop}{l₁:List α}{l₂:List β}(h:Paired F l₁ l₂)(f:∀a b,F a b->G a b):Paired G l₁ l₂:=by
 induction h with
 |nil=>exact .nil
 |cons r _ ih=>exact .cons (f _ _ r) ih
theorem iM.stay (x:iM P w H h a o)(k:∀b u,(b=a\/H b=some (.own a))->h.get? b=some u->h'.get? b=some u)
  (ho:∀b,H b=some (.own a)->H' b=some (.own a)) (ht:∀b xs,H b=some (.tup xs)->H' b=some (.tup xs)):iM P w H' h' a o:=by
 induction o with
 |lst xs=>obtain⟨z,aU,n,r,e⟩:=x;exact⟨z,aU,n,r,k _ _ (.inl rfl) e⟩
 |tup xs=>obtain⟨z,aU,r,ob,e,c⟩:=x;exact⟨z,aU,r,ob,k _ _ (.inl rfl) e,c⟩
 |dK m7=>obtain⟨z,y,vs,r,ob,es,ep,e,c⟩:=x;exact⟨z,y,vs,r,ob,es,ep,k _ _ (.inl rfl) e,c⟩
 |dT m7=>
  obtain⟨z,y,xs,r,ob,es,ep,e,c⟩:=x;exact⟨z,y,xs,Paired.afW r λp q z=>⟨z.1,ht _ _ z.2.1,z.2.2⟩,ob,es,ep,k _ _ (.inl rfl) e,c⟩
 |set S n=>obtain⟨ob,es,ep,t,e,c⟩:=x;exact⟨ob,es,ep,t,k _ _ (.inl rfl) e,c⟩
 |ins C dx fs=>
  obtain⟨d,z,ne,e,mA,⟨od,es,ep,e2,c⟩,r⟩:=x;exact⟨ho _ d,z,ne,k _ _ (.inl rfl) e,mA,⟨od,es,ep,k _ _ (.inr d) e2,c⟩,r⟩
 |own y=>obtain⟨ob,e⟩:=x;exact⟨ob,k _ _ (.inl rfl) e⟩
 |xd fs=>obtain⟨mA,⟨od,es,ep,e,c⟩,r⟩:=x;exact⟨mA,⟨od,es,ep,k _ _ (.inl rfl) e,c⟩,r⟩
 |rng lo hi=>obtain⟨t,u,v,e⟩:=x;exact⟨t,u,v,k _ _ (.inl rfl) e⟩
 |Mf ob u ih=>obtain⟨e,q⟩:=x;exact⟨k _ _ (.inl rfl) e,ih q⟩
 |tbl ps=>
  have e:h.get? a=some {cls:=.none,data:=.fields ps}:=x;show h'.get? a=some {cls:=.none,data:=.fields ps};exact k a _ (.inl rfl) e
 |met f y=>
  have e:h.get? a=some (PySem.W.methodObj (.ref f) (.ref y)):=x;show h'.get? a=some (PySem.W.methodObj (.ref f) (.ref y));exact k a _ (.inl rfl) e
 |ext φ=>obtain⟨p,⟨o,e⟩,st⟩:=x;exact⟨st _ _ p λo q=>k _ _ (.inl rfl) q,⟨o,k _ _ (.inl rfl) e⟩,st⟩
theorem tZ.lt (x:tZ P w H h)(e:H a=some o):a<h.objs.size:=(x a o e).lt
theorem tZ.fresh (x:tZ P w H h)(e:h.objs.size<=a):H a=none:=by
 cases q:H a with
 |none=>rfl
 |some u=>exact absurd (aiw (x.lt q) e) (aiI _)
theorem tZ.kept (x:tZ P w H h)(k:∀b u,h.get? b=some u->h'.get? b=some u):tZ P w H h':=λa o e=>
 (x a o e).stay (λb u _ q=>k b u q) (λ_ q=>q) λ_ _ q=>q
theorem tZ.laid (x:tZ P w H h)(k:∀b u,h.get? b=some u->h'.get? b=some u)(hp:h.objs.size<=a)(new:iM P w (upd H a o) h' a o):tZ P w (upd H a o) h':=λb u e=>by
 have hn:=x.fresh hp;by_cases hb:b=a
 ·subst hb;rw[bf]at e;cases e;exact new
 ·rw[bI hb]at e
  exact(x b u e).stay (λc v _ q=>k c v q) (λc q=>by rw[bI (cY q hn)];exact q) λc xs q=>by rw[bI (cY q hn)];exact q
end
def Rd (H:Hp)(a:Addr)(u:HO):Prop:=H a=some u\/∃o,H a=some (.Mf o u)
theorem Rd.ok {P:Program}{w:World}{H:Hp}{h:Heap}{a:Addr}{u:HO}(r:Rd H a u)(x:tZ P w H h):iM P w H h a u:=by
 rcases r with r|⟨o,r⟩
 ·exact x a u r
 ·obtain⟨_,q⟩:=x a _ r
  exact q
def Mut:Option HO->Prop
 |some (.lst _)=>True
 |some (.dK _)=>True
 |some (.dT _)=>True
 |some (.set _ _)=>True
 |some (.ins _ _ _)=>True
 |some (.ext _)=>True
 |_=>False
section
variable {P:Program}{w:World}{H:Hp}{h h':Heap}{x e:Addr}{o':HO}
theorem tZ.write (ok:tZ P w H h)(mu:Mut (H x))(he:e=x\/H e=some (.own x))(k:∀b u,b≠e->h.get? b=some u->h'.get? b=some u)(heo:∃u,h'.get? e=some u)
  (new:iM P w (upd H x o') h' x o'):tZ P w (upd H x o') h':=λb u q=>by
 have aek:∀c y,H c=some (.own y)->c≠x:=λc y r z=>by subst z;rw[r]at mu;exact mu
 have afX:∀c xs,H c=some (.tup xs)->c≠x:=λc xs r z=>by subst z;rw[r]at mu;exact mu
 by_cases hb:b=x
 ·subst hb;rw[bf]at q;cases q;exact new
 ·rw[bI hb]at q
  by_cases hbe:b=e
  ·have q':H b=some (.own x):=by
    rcases he with z|z
    ·exact absurd (hbe.trans z) hb
    ·rw[hbe];exact z
   rw[q]at q';cases q';obtain⟨v,hv⟩:=heo;exact⟨v,by rw[hbe];exact hv⟩
  ·refine(ok b u q).stay (λc v hc r=>k c v ?_ r) (λc r=>by rw[bI (aek c b r)];exact r) λc xs r=>by rw[bI (afX c xs r)];exact r
   rcases hc with rfl|hc
   ·exact hbe
   ·rintro rfl
    rcases he with z|z
    ·exact aek c b hc z
    ·rw[hc]at z;cases z;exact hb rfl
end
structure Un (fs ex:List Addr)(H H':Hp)(h h':Heap):Prop where
 keep:∀b o,h.get? b=some o->H b=none->b∉fs->b∉ex->h'.get? b=some o
 slot:∀b o,h.get? b=some o->H b=none->b∈fs->b∉ex->∃sl,h'.get? b=some {o with slots:=sl}
 free:∀b o,h.get? b=some o->H b=none->b∉ex->H' b=none
 there:∀b o,h.get? b=some o->b∉ex->∃o',h'.get? b=some o'
 tups:∀b xs,H b=some (.tup xs)->H' b=some (.tup xs)
 wW:∀b o u,H b=some (.Mf o u)->H' b=some (.Mf o u)
 zj:∀b ps,H b=some (.tbl ps)->∃more,H' b=some (.tbl (ps++more))
section
variable {fs fs' ex ex':List Addr}{H H1 H2:Hp}{h h1 h2 h':Heap}{a x e:Addr}{o:HO}
theorem Un.any (u:Un fs ex H H1 h h1){b:Addr}{ob:Obj}(q:h.get? b=some ob)(n:H b=none)(hx:b∉ex):∃sl,h1.get? b=some {ob with slots:=sl}:=by
 by_cases hb:b∈fs
 ·exact u.slot b ob q n hb hx
 ·exact⟨ob.slots,u.keep b ob q n hb hx⟩
theorem Un.kept (k:∀b u,h.get? b=some u->h'.get? b=some u):Un fs ex H H h h' :=
 ⟨λb ob q _ _ _=>k b ob q,λb ob q _ _ _=>⟨ob.slots,k b ob q⟩,λ_ _ _ n _=>n,λb ob q _=>⟨ob,k b ob q⟩,λ_ _ q=>q,λ_ _ _ q=>q,λ_ ps q=>⟨#[],by rw[q];simp⟩⟩
theorem Un.refl:Un fs ex H H h h:=Un.kept λ_ _ q=>q
theorem Un.laid (k:∀b u,h.get? b=some u->h'.get? b=some u)(hp:h.objs.size<=a)(hn:H a=none):Un fs ex H (upd H a o) h h' where
 keep:=λb u q _ _ _=>k b u q
 slot:=λb u q _ _ _=>⟨u.slots,k b u q⟩
 free:=λb u q n _=>by rw[bI (ai7 (aiw (aiu q) hp))];exact n
 there:=λb u q _=>⟨u,k b u q⟩
 tups:=λb xs q=>by rw[bI (cY q hn)];exact q
 wW:=λb u xs q=>by rw[bI (cY q hn)];exact q
 zj:=λb ps q=>⟨#[],by rw[bI (cY q hn),q];simp⟩
theorem Un.write (mu:Mut (H x))(he:e=x\/H e=some (.own x))(k:∀b u,b≠e->h.get? b=some u->h'.get? b=some u)(heo:∃u,h'.get? e=some u):Un fs ex H (upd H x o) h h':=by
 have hx:∀b,H b=none->b≠x:=λb n z=>by subst z;rw[n]at mu;exact mu
 have hb:∀b,H b=none->b≠e:=λb n z=>by
  subst z;rcases he with r|r
  ·exact hx b n r
  ·rw[n]at r;cases r
 have hm:∀b u,H b=some u->¬Mut (some u)->b≠x:=λb u q nm z=>by subst z;rw[q]at mu;exact nm mu
 refine⟨λb u q n _ _=>k b u (hb b n) q,λb u q n _ _=>⟨u.slots,k b u (hb b n) q⟩,λb u q n _=>by rw[bI (hx b n)];exact n,λb u q _=>?_,
  λb xs q=>by rw[bI (hm b _ q λz=>z)];exact q,λb u xs q=>by rw[bI (hm b _ q λz=>z)];exact q,λb ps q=>⟨#[],by rw[bI (hm b _ q λz=>z),q];simp⟩⟩
 by_cases hbe:b=e
 ·subst hbe;exact heo
 ·exact⟨u,k b u hbe q⟩
end
def trk (h:Heap)(H:Hp):List Addr:=(List.range h.objs.size).filter λa=>(H a).isSome
def GK (h:Heap)(H:Hp):Heap:=PySem.W.hideAll h (trk h H)
theorem Ru (h:Heap)(H:Hp):(GK h H).objs.size=h.objs.size:=PySem.W.hideAll_size _ _
theorem Vb {h:Heap}{H:Hp}{b:Addr}{o:Obj}(e:h.get? b=some o)(n:H b=none):(GK h H).get? b=some o :=
 ajW _ e λhm=>by
  have q:(H b).isSome=true:=(List.mem_filter.mp hm).2;rw[n]at q;simp at q
theorem Zw {h:Heap}{H:Hp}{b:Addr}{o:Obj}(e:(GK h H).get? b=some o):h.get? b=some o/\H b=none:=by
 have e':h.get? b=some o:=PySem.W.of_hideAll (trk h H) e;refine⟨e',?_⟩;cases q:H b with
 |none=>rfl
 |some x=>
  have hm:b∈trk h H:=List.mem_filter.mpr ⟨List.mem_range.mpr (aiu e'),by simp[q]⟩;have z:(GK h H).get? b=none:=PySem.W.hideAll_none (trk h H) hm;rw[z]at e;cases e
def Zx (g h:Heap)(L:Addr):List (Addr×Obj):=(List.range h.objs.size).filterMap λa=>if a=L\/(g.get? a).isSome=true then none else(h.get? a).map λo=>(a,o)
def rest (g h:Heap)(L d:Addr):List (Addr×Obj):=(Zx g h L).filter λp=>decide (p.1≠d)
structure Mod (K:PySem.W.Frag)(mg:Str->Option Value)(aN:Heap):Prop where
 Vc:K.In aN
 glob:aN.Ns mainGlobals mg
 blt:∃mb,aN.Ns builtinsNs mb/\∀x:Str,x≠"__name__"->mb x=bootBuiltins x
 nolimit:aN.NoLimit
structure Cx where
 prog:Program
 w:World
 K:PySem.W.Frag
 mg:Str->Option Value
 base:Heap
 A:Around
 N:List Str
 s₀:Shared
 H₀:Hp
 env:Env
 outer:List Env
 stack:List Env
 ex:List Addr
 fn:Str->Bool
 calm:Bool
 pn:List (Addr×Obj)
 xe:Value->Shared->Prop
def frs (l:List Env):List Addr:=l.filterMap (·.frame)
abbrev Cx.fs (X:Cx):List Addr:=frs X.outer
def Pu (sc:Scope)(x:Str):Prop:=sc.names.lookup x=some .local\/sc.names.lookup x=some .cell\/sc.names.lookup x=some .free
def Loc (sc:Scope)(x:Str):Prop:=sc.names.lookup x=some .local\/sc.names.lookup x=some .cell
def Look (env:Env)(h:Heap)(m:Str->Option Value)(x:Str)(u:Value):Prop :=
 (env.kindOf x=some .local/\m x=some u)\/((env.kindOf x=some .cell\/env.kindOf x=some .free)/\∃c,env.cells.lookup x=some c/\h.IsCell c (some u))
structure Cx.Ok (X:Cx):Prop where
 mod:Mod X.K X.mg X.base
 kind:X.env.scope.kind=.function
 glob:X.env.globals=mainGlobals
 blt:X.env.builtins=builtinsNs
 above:X.s₀.heap.objs.size<=X.env.locals
 inj:∀x y c,X.env.cells.lookup x=some c->X.env.cells.lookup y=some c->x=y
 has:∀x,(X.env.kindOf x=some .cell\/X.env.kindOf x=some .free)->∃c,X.env.cells.lookup x=some c
 cab:∀x c,X.fn x=true->X.env.cells.lookup x=some c->X.s₀.heap.objs.size<=c
 hd:X.calm=true->X.A.handled=none
 frames:X.A.frames=some X.stack
 stk:X.stack=X.outer\/(X.stack=X.env::X.outer/\X.env.frame=some X.env.locals)
 exf:∀b∈X.ex,b≠X.env.locals/\∀x c,X.env.cells.lookup x=some c->c≠b
 bs:∀b o,X.base.get? b=some o->X.s₀.heap.get? b=some o/\X.H₀ b=none
 Rv:X.base.objs.size<=X.s₀.heap.objs.size
 Dw:∀b o,X.base.get? b=some o->b∉X.ex
 GQ:∀b∈X.ex,b∉X.fs
 su:X.s₀.heap.FunFrames X.base X.outer
 UG:∀b∈X.fs,X.H₀ b=none
structure Inv (X:Cx)(aZ:List (Addr×Obj))(U:List (Option V))(H:Hp)(s:Shared):Prop where
 ok:X.Ok
 os:s.os=X.s₀.os
 bare:AllBare s.gens
 base:Un X.fs X.ex X.H₀ H X.s₀.heap s.heap
 loc:∃m,s.heap.Ns X.env.locals m/\∀(i:Nat) (x:Str) (v:V),X.N[i]?=some x->U[i]?=some (some v)->Pu X.env.scope x->∃u,RelV v u/\Look X.env s.heap m x u
 cell:∀x c,X.env.cells.lookup x=some c->∃v,s.heap.IsCell c v
 free:H X.env.locals=none
 kh:∀x c,X.env.cells.lookup x=some c->H c=none
 pin:∀p∈X.pn++aZ,s.heap.get? p.1=some p.2/\H p.1=none/\p.1≠X.env.locals/\p.1∉X.fs/\∀v,p.2.data≠.cell v
 hok:tZ X.prog X.w H s.heap
 len:U.length=X.N.length
section
variable {X:Cx}{aZ:List (Addr×Obj)}{U:List (Option V)}{H H':Hp}{s:Shared}{h':Heap}
theorem Cx.Ok.afY (ok:X.Ok){b:Addr}{o:Obj}(e:X.base.get? b=some o):b∉X.fs:=λhb=>by
 have:=(ok.su.mem hb).1;rw[e]at this;cases this
theorem Inv.bs (I:Inv X aZ U H s):∀b o,X.base.get? b=some o->s.heap.get? b=some o/\H b=none:=λb o e=>
 ⟨I.base.keep b o (I.ok.bs b o e).1 (I.ok.bs b o e).2 (I.ok.afY e) (I.ok.Dw b o e),I.base.free b o (I.ok.bs b o e).1 (I.ok.bs b o e).2 (I.ok.Dw b o e)⟩
theorem Inv.bk (I:Inv X aZ U H s):∀b o,X.base.get? b=some o->s.heap.get? b=some o:=λb o e=>(I.bs b o e).1
theorem Inv.mod (I:Inv X aZ U H s):Mod X.K X.mg X.base:=I.ok.mod
theorem Inv.wR (I:Inv X aZ U H s):X.K.In s.heap:=I.ok.mod.Vc.keeps I.bk
theorem Inv.lt (I:Inv X aZ U H s):X.env.locals<s.heap.objs.size:=let ⟨_,hn,_⟩:=I.loc;hn.lt
theorem Inv.sz (I:Inv X aZ U H s):X.s₀.heap.objs.size<=s.heap.objs.size:=aiv I.ok.above (ajN I.lt)
theorem Inv.acg (I:Inv X aZ U H s){a:Addr}(h:s.heap.objs.size<=a):a∉X.fs:=λhb=>by
 obtain⟨_,o,ho,_⟩:=I.ok.su.mem hb;exact absurd (aiw (aiu ho) (aiv I.sz h)) (aiI _)
theorem Inv.Zy (I:Inv X aZ U H s):∀x c,X.env.cells.lookup x=some c->c≠X.env.locals:=λx c e z=>by
 obtain⟨v,o,ho,hd⟩:=I.cell x c e;obtain⟨m,⟨o',es,ep,ho',hd',_⟩,_⟩:=I.loc;rw[z,ho']at ho;cases ho;rw[hd']at hd;cases hd
theorem Inv.su (I:Inv X aZ U H s):s.heap.FunFrames X.base X.outer:=by
 have all:∀(l:List Env),(∀b∈frs l,b∈X.fs)->X.s₀.heap.FunFrames X.base l->s.heap.FunFrames X.base l:=by
  intro l
  induction l with
  |nil=>intro _ _;trivial
  |cons env r ih=>
   intro hs hl;obtain⟨hk,⟨L,o,hf,hn,ho,hd⟩,hr⟩:=hl;have hL:L∈X.fs:=hs L (by unfold frs;rw[ajh,hf];exact aiX);obtain⟨sl,e⟩:=I.base.slot L o ho (I.ok.UG L hL) hL λz=>I.ok.GQ L z hL;exact⟨hk,⟨L,_,hf,hn,e,hd⟩,ih (λb hb=>hs b (by unfold frs;rw[ajh,hf];exact air _ hb)) hr⟩
 exact all X.outer (λ_ hb=>hb) I.ok.su
theorem Inv.stack (I:Inv X aZ U H s):s.heap.FunFrames X.base X.stack:=by
 rcases I.ok.stk with e|⟨e,hf⟩
 ·rw[e];exact I.su
 ·rw[e]
  obtain⟨m,hn,_⟩:=I.loc;refine .cons (by rw[I.ok.kind];decide) hf hn ?_ I.su;exact Heap.get?_none_of_le (aiv I.ok.Rv I.ok.above)
theorem Inv.nR (I:Inv X aZ U H s):∀b∈frs X.stack,b∈X.env.locals::X.fs:=λb hb=>by
 rcases I.ok.stk with e|⟨e,hf⟩
 ·rw[e]at hb;exact air _ hb
 ·rw[e]at hb
  unfold frs at hb;rw[ajh,hf]at hb;exact hb
theorem Inv.vH (I:Inv X aZ U H s):∀b∈frs X.stack,H b=none:=λb hb=>by
 rcases aiB.mp (I.nR b hb) with e|hb
 ·rw[e];exact I.free
 ·obtain⟨_,o,ho,_⟩:=I.ok.su.mem hb
  exact I.base.free b o ho (I.ok.UG b hb) λz=>I.ok.GQ b z hb
theorem Inv.step {g':Array GenState}{t':Nat}{d':Drawn}{ch:List Addr}(I:Inv X aZ U H s)
  (hch:∀b∈ch,(b∈X.ex\/X.s₀.heap.objs.size<=b)/\b≠X.env.locals/\(∀x c,X.env.cells.lookup x=some c->c≠b)/\∀p∈X.pn++aZ,p.1≠b)
  (keep:∀b o,b≠X.env.locals->b∉X.fs->b∉ch->s.heap.get? b=some o->H b=none->h'.get? b=some o)
  (slot:∀b o,b≠X.env.locals->b∈X.fs->b∉ch->s.heap.get? b=some o->H b=none->∃sl,h'.get? b=some {o with slots:=sl}) (free:∀b o,b∉ch->s.heap.get? b=some o->H b=none->H' b=none)
  (there:∀b o,b∉ch->s.heap.get? b=some o->∃o',h'.get? b=some o')
  (tups:∀b xs,H b=some (.tup xs)->H' b=some (.tup xs)) (wW:∀b o u,H b=some (.Mf o u)->H' b=some (.Mf o u)) (zj:∀b ps,H b=some (.tbl ps)->∃more,H' b=some (.tbl (ps++more)))
  (ns:∀m,s.heap.Ns X.env.locals m->h'.Ns X.env.locals m) (hok:tZ X.prog X.w H' h') (hg:AllBare g'):
  Inv X aZ U H' {s with heap:=h',gens:=g',drawn:=d',toks:=t'}:=by
 have neL:∀b o,X.s₀.heap.get? b=some o->b≠X.env.locals:=λb o e=>ai7 (aiw (aiu e) I.ok.above);have neC:∀b o,X.s₀.heap.get? b=some o->b∉X.ex->b∉ch:=λb o e hx hb=>by
  rcases(hch b hb).1 with z|z
  ·exact hx z
  ·exact absurd (aiw (aiu e) z) (aiI _)
 have cellK:∀x c,X.env.cells.lookup x=some c->∀v,s.heap.IsCell c v->h'.IsCell c v:=λx c e v ⟨o,ho,hd⟩=>by
  have nch:c∉ch:=λz=>(hch c z).2.2.1 x c e rfl;by_cases hc:c∈X.fs
  ·obtain⟨sl,q⟩:=slot c o (I.Zy x c e) hc nch ho (I.kh x c e)
   exact⟨_,q,hd⟩
  ·exact⟨o,keep c o (I.Zy x c e) hc nch ho (I.kh x c e),hd⟩
 refine⟨I.ok,I.os,hg,⟨λb o e n hb hx=>?_,λb o e n hb hx=>?_,λb o e n hx=>?_,λb o e hx=>?_,λb xs e=>tups b xs (I.base.tups b xs e),λb o xs e=>wW b o xs (I.base.wW b o xs e),λb ps e=>?_⟩,?_,λx c e=>?_,?_,λx c e=>?_,λp hp=>?_,hok,I.len⟩
 ·exact keep b o (neL b o e) hb (neC b o e hx) (I.base.keep b o e n hb hx) (I.base.free b o e n hx)
 ·obtain⟨sl,e1⟩:=I.base.slot b o e n hb hx
  obtain⟨sl',e2⟩:=slot b _ (neL b o e) hb (neC b o e hx) e1 (I.base.free b o e n hx);exact⟨sl',e2⟩
 ·obtain⟨o',e1⟩:=I.base.there b o e hx
  exact free b o' (neC b o e hx) e1 (I.base.free b o e n hx)
 ·obtain⟨o',e1⟩:=I.base.there b o e hx
  exact there b o' (neC b o e hx) e1
 ·obtain⟨m1,e1⟩:=I.base.zj b ps e
  obtain⟨m2,e2⟩:=zj b _ e1;exact⟨m1++m2,by rw[e2,Array.append_assoc]⟩
 ·obtain⟨m,hn,hl⟩:=I.loc
  refine⟨m,ns m hn,λi x v e1 e2 e3=>?_⟩;obtain⟨u,r,l⟩:=hl i x v e1 e2 e3;refine⟨u,r,?_⟩;rcases l with l|⟨k,c,e,z⟩
  ·exact .inl l
  ·exact .inr ⟨k,c,e,cellK x c e _ z⟩
 ·obtain⟨v,z⟩:=I.cell x c e
  exact⟨v,cellK x c e v z⟩
 ·obtain⟨m,⟨o,_,_,ho,_⟩,_⟩:=I.loc
  exact free _ o (λz=>(hch _ z).2.1 rfl) ho I.free
 ·obtain⟨v,o,ho,hd⟩:=I.cell x c e
  exact free c o (λz=>(hch c z).2.2.1 x c e rfl) ho (I.kh x c e)
 ·obtain⟨e,n,ne,nf,d⟩:=I.pin p hp
  have nch:p.1∉ch:=λz=>(hch p.1 z).2.2.2 p hp rfl;exact⟨keep p.1 p.2 ne nf nch e n,free p.1 p.2 nch e n,ne,nf,d⟩
theorem Inv.un {t':Nat}(I:Inv X aZ U H s)(u:Un X.fs [] H H' s.heap h')(hok:tZ X.prog X.w H' h'):Inv X aZ U H' {s with heap:=h',toks:=t'}:=by
 obtain⟨m,⟨o,es,ep,ho,r⟩,_⟩:=id I.loc;obtain⟨sl,hL⟩:=u.any ho I.free (by simp);exact I.step (g':=s.gens) (d':=s.drawn) (ch:=[]) (λ_ z=>nomatch z) (λb o _ hb _ e n=>u.keep b o e n hb (by simp)) (λb o _ hb _ e n=>u.slot b o e n hb (by simp)) (λb o _ e n=>u.free b o e n (by simp)) (λb o _ e=>u.there b o e (by simp)) u.tups u.wW u.zj (λm' hm=>by
  obtain⟨o',es',ep',ho',r'⟩:=hm;rw[ho]at ho';cases ho';exact⟨_,es',ep',hL,r'⟩) hok I.bare
theorem Inv.call {g':Array GenState}{t':Nat}{d':Drawn}{ch:List Addr}(I:Inv X aZ U H s)(u:Un (frs X.stack) ch H H' s.heap h')(hok:tZ X.prog X.w H' h')(hg:AllBare g')
  (hch:∀b∈ch,(b∈X.ex\/X.s₀.heap.objs.size<=b)/\b≠X.env.locals/\(∀x c,X.env.cells.lookup x=some c->c≠b)/\∀p∈X.pn++aZ,p.1≠b):
  Inv X aZ U H' {s with heap:=h',gens:=g',drawn:=d',toks:=t'}:=by
 obtain⟨m,⟨o,es,ep,ho,r⟩,_⟩:=id I.loc;obtain⟨sl,hL⟩:=u.any ho I.free λz=>(hch _ z).2.1 rfl;exact I.step (ch:=ch) hch (λb o hL hb hc e n=>u.keep b o e n (λz=>(aiB.mp (I.nR b z)).elim hL hb) hc) (λb o _ _ hc e n=>u.any e n hc) (λb o hc e n=>u.free b o e n hc) (λb o hc e=>u.there b o e hc) u.tups u.wW u.zj (λm' hm=>by
  obtain⟨o',es',ep',ho',r'⟩:=hm;rw[ho]at ho';cases ho';exact⟨_,es',ep',hL,r'⟩) hok hg
theorem Inv.turned {t':Nat}{it:Addr}(I:Inv X aZ U H s)(k:∀b o,b≠it->s.heap.get? b=some o->h'.get? b=some o)(hn:H it=none)(hL:it≠X.env.locals)
  (h1:it∈X.ex\/X.s₀.heap.objs.size<=it) (h2:∀x c,X.env.cells.lookup x=some c->c≠it) (h3:∀p∈X.pn++aZ,p.1≠it):Inv X aZ U H {s with heap:=h',toks:=t'}:=by
 have nit:∀b u,H b=some u->b≠it:=λb u e z=>by rw[z,hn]at e;cases e
 refine I.step (g':=s.gens) (d':=s.drawn) (ch:=[it]) (λb hb=>?_) (λb o _ _ hc e _=>k b o (λz=>hc (by simp[z])) e) (λb o _ _ hc e _=>⟨o.slots,k b o (λz=>hc (by simp[z])) e⟩) (λ_ _ _ _ n=>n)
  (λb o hc e=>⟨o,k b o (λz=>hc (by simp[z])) e⟩) (λ_ _ e=>e) (λ_ _ _ e=>e) (λb ps e=>⟨#[],by rw[e];simp⟩) (λm hm=>?_) (λb u e=>?_) I.bare
 ·have e:b=it:=by simpa using hb
  subst e;exact⟨h1,hL,h2,h3⟩
 ·obtain⟨o,es,ep,ho,r⟩:=hm
  exact⟨o,es,ep,k _ o (Ne.symm hL) ho,r⟩
 ·refine(I.hok b u e).stay (λc v hc q=>k c v ?_ q) (λ_ q=>q) λ_ _ q=>q
  rcases hc with z|z
  ·rw[z];exact nit b u e
  ·exact nit c _ z
theorem Inv.tok (I:Inv X aZ U H s)(t:Nat):Inv X aZ U H {s with toks:=t}:=I.un (h':=s.heap) (t':=t) Un.refl I.hok
theorem Inv.kept {t':Nat}(I:Inv X aZ U H s)(k:∀b u,s.heap.get? b=some u->h'.get? b=some u):Inv X aZ U H {s with heap:=h',toks:=t'}:=I.un (Un.kept k) (I.hok.kept k)
theorem Inv.laid {a:Addr}{o:HO}{t':Nat}(I:Inv X aZ U H s)(k:∀b u,s.heap.get? b=some u->h'.get? b=some u)(hp:s.heap.objs.size<=a)(new:iM X.prog X.w (upd H a o) h' a o):
  Inv X aZ U (upd H a o) {s with heap:=h',toks:=t'}:=I.un (Un.laid k hp (I.hok.fresh hp)) (I.hok.laid k hp new)
theorem Inv.write {x e:Addr}{o:HO}{t':Nat}(I:Inv X aZ U H s)(mu:Mut (H x))(he:e=x\/H e=some (.own x))(k:∀b u,b≠e->s.heap.get? b=some u->h'.get? b=some u)(heo:∃u,h'.get? e=some u)
  (new:iM X.prog X.w (upd H x o) h' x o):Inv X aZ U (upd H x o) {s with heap:=h',toks:=t'}:=I.un (Un.write mu he k heo) (I.hok.write mu he k heo new)
theorem Inv.zL {abp:List (Addr×Obj)}(I:Inv X aZ U H s)(h:∀p∈abp,s.heap.get? p.1=some p.2/\H p.1=none/\p.1≠X.env.locals/\p.1∉X.fs/\∀v,p.2.data≠.cell v):Inv X abp U H s :=
 ⟨I.ok,I.os,I.bare,I.base,I.loc,I.cell,I.free,I.kh,λp hp=>(List.mem_append.mp hp).elim (λz=>I.pin p (aiY _ z)) (h p),I.hok,I.len⟩
theorem JC {N:List Str}(hN:N.Nodup){i j:Nat}{x:Str}(a:N[i]?=some x)(b:N[j]?=some x):i=j:=by
 obtain⟨h1,e1⟩:=List.getElem?_eq_some_iff.mp a;obtain⟨h2,e2⟩:=List.getElem?_eq_some_iff.mp b;exact(List.getElem_inj hN).mp (e1.trans e2.symm)
theorem Rw {M:Model}{A:Around}{E:Value->Shared->Prop}{i:Nat}{x:Str}{v:V}{u:Value}{Q:Unit->Shared->Prop}(I:Inv X aZ U H s)(hN:X.N.Nodup)(hi:X.N[i]?=some x)(hx:Loc X.env.scope x)(r:RelV v u)
  (h:∀s',Inv X aZ (U.set i (some v)) H s'->(∃a,Heap.SameBut a s.heap s'.heap/\(a=X.env.locals\/X.env.cells.lookup x=some a))->Q () s') (hf:X.fn x=true\/X.env.scope.names.lookup x=some .local:=by first|exact .inl rfl|exact .inr rfl|assumption):wpAny M A (storeName X.env x u) Q E s:=by
 obtain⟨m,hn,hl⟩:=id I.loc;have hcls:(X.env.scope.kind==.class||(X.env.scope.kind==.module&&X.env.locals !=X.env.globals))=false:=by rw[I.ok.kind];rfl
 have ael:i<U.length:=by rw[I.len];exact(List.getElem?_eq_some_iff.mp hi).1
 have Zy:=I.Zy;have tracked:∀{a:Addr} {h':Heap},(∃o,s.heap.get? a=some o/\H a=none)->Heap.SameBut a s.heap h'->tZ X.prog X.w H h':=λ{a h'} ha hs b ob e=>by
  obtain⟨_,_,hfree⟩:=ha;refine(I.hok b ob e).stay (λc w' hc q=>(hs.2 c ?_).trans q) (λ_ q=>q) λ_ _ q=>q;rintro rfl;rcases hc with rfl|hc
  ·rw[hfree]at e;cases e
  ·rw[hfree]at hc;cases hc
 rcases hx with hk|hk
 ·refine wpAny_storeName_local hk hn (λh' hn' hs=>?_) hcls
  obtain⟨oL,_,_,hoL,_⟩:=id hn;refine h _ ⟨I.ok,I.os,I.bare,⟨λb o e n hb hx=>?_,λb o e n hb hx=>?_,I.base.free,λb o e hx=>?_,I.base.tups,I.base.wW,I.base.zj⟩,⟨_,hn',λj y v' e1 e2 e3=>?_⟩,λy c e=>?_,I.free,I.kh,λp hp=>?_,tracked ⟨oL,hoL,I.free⟩ hs,by simpa using I.len⟩ ⟨_,hs, .inl rfl⟩
  ·exact(hs.2 b (ai7 (aiw (aiu e) I.ok.above))).trans (I.base.keep b o e n hb hx)
  ·obtain⟨sl,e1⟩:=I.base.slot b o e n hb hx
   exact⟨sl,(hs.2 b (ai7 (aiw (aiu e) I.ok.above))).trans e1⟩
  ·obtain⟨o',e1⟩:=I.base.there b o e hx
   exact⟨o',(hs.2 b (ai7 (aiw (aiu e) I.ok.above))).trans e1⟩
  ·by_cases hj:j=i
   ·subst hj
    rw[hi]at e1;cases e1;rw[List.getElem?_set_self ael]at e2;cases e2;exact⟨u,r, .inl ⟨hk,by simp⟩⟩
   ·rw[ajO (Ne.symm hj)]at e2
    obtain⟨u',r',q⟩:=hl j y v' e1 e2 e3;refine⟨u',r',?_⟩;rcases q with ⟨k,e⟩|⟨k,c,e,z⟩
    ·refine .inl ⟨k,?_⟩
     have:y≠x:=λe=>hj (JC hN e1 (e ▸ hi));simp[this,e]
    ·exact .inr ⟨k,c,e,z.sameBut hs (Zy y c e)⟩
  ·obtain⟨w',z⟩:=I.cell y c e
   exact⟨w',z.sameBut hs (Zy y c e)⟩
  ·obtain⟨e,n,ne,nf,d⟩:=I.pin p hp
   exact⟨(hs.2 p.1 ne).trans e,n,ne,nf,d⟩
 ·have hfn:X.fn x=true:=by
   rcases hf with z|z
   ·exact z
   ·rw[z]at hk;cases hk
  obtain⟨c,hc⟩:=I.ok.has x (.inl hk);obtain⟨w',z⟩:=I.cell x c hc;refine wpAny_storeName_cell I.ok.kind hk hc z (λh' hc' hs=>?_);obtain⟨oc,hoc,afZ⟩:=id z;refine h {s with heap:=h'} ⟨I.ok,I.os,I.bare,⟨λb o e n hb hx=>?_,λb o e n hb hx=>?_,I.base.free,λb o e hx=>?_,I.base.tups,I.base.wW,I.base.zj⟩,⟨m,hn.sameBut hs (Ne.symm (Zy x c hc)),λj y v' e1 e2 e3=>?_⟩,λy c' e=>?_,I.free,I.kh,λp hp=>?_,tracked ⟨oc,hoc,I.kh x c hc⟩ hs,by simpa using I.len⟩ ⟨c,hs, .inr hc⟩
  ·exact(hs.2 b (ai7 (aiw (aiu e) (I.ok.cab x c hfn hc)))).trans (I.base.keep b o e n hb hx)
  ·obtain⟨sl,e1⟩:=I.base.slot b o e n hb hx
   exact⟨sl,(hs.2 b (ai7 (aiw (aiu e) (I.ok.cab x c hfn hc)))).trans e1⟩
  ·obtain⟨o',e1⟩:=I.base.there b o e hx
   exact⟨o',(hs.2 b (ai7 (aiw (aiu e) (I.ok.cab x c hfn hc)))).trans e1⟩
  ·by_cases hj:j=i
   ·subst hj
    rw[hi]at e1;cases e1;rw[List.getElem?_set_self ael]at e2;cases e2;exact⟨u,r, .inr ⟨.inl hk,c,hc,hc'⟩⟩
   ·rw[ajO (Ne.symm hj)]at e2
    obtain⟨u',r',q⟩:=hl j y v' e1 e2 e3;refine⟨u',r',?_⟩;rcases q with q|⟨k,c',e,z'⟩
    ·exact .inl q
    ·refine .inr ⟨k,c',e,z'.sameBut hs ?_⟩
     rintro rfl;exact hj (JC hN e1 (I.ok.inj _ _ _ e hc ▸ hi))
  ·by_cases hcc:c'=c
   ·subst hcc;exact⟨_,hc'⟩
   ·obtain⟨w2,z2⟩:=I.cell y c' e
    exact⟨w2,z2.sameBut hs hcc⟩
  ·obtain⟨e,n,ne,nf,d⟩:=I.pin p hp
   refine⟨(hs.2 p.1 ?_).trans e,n,ne,nf,d⟩;intro q;rw[q,hoc]at e;have q':oc=p.2:=Option.some.inj e;exact d w' (by rw[<-q'];exact afZ)
theorem sy {M:Model}{A:Around}{E:Value->Shared->Prop}{i:Nat}{x:Str}{v:V}{u:Value}{Q:Unit->Shared->Prop}(I:Inv X aZ U H s)(hN:X.N.Nodup)(hi:X.N[i]?=some x)(hx:Loc X.env.scope x)(r:RelV v u)
  (h:∀s',Inv X aZ (U.set i (some v)) H s'->Q () s') (hf:X.fn x=true\/X.env.scope.names.lookup x=some .local:=by first|exact .inl rfl|exact .inr rfl|assumption):wpAny M A (storeName X.env x u) Q E s :=
 Rw I hN hi hx r (λs' I' _=>h s' I') hf
theorem Inv.call' {s':Shared}{ch:List Addr}(I:Inv X aZ U H s)(ho:s'.os=s.os)(u:Un (frs X.stack) ch H H' s.heap s'.heap)(hok:tZ X.prog X.w H' s'.heap)(hg:AllBare s'.gens)
  (hch:∀b∈ch,(b∈X.ex\/X.s₀.heap.objs.size<=b)/\b≠X.env.locals/\(∀x c,X.env.cells.lookup x=some c->c≠b)/\∀p∈X.pn++aZ,p.1≠b):Inv X aZ U H' s':=by
 obtain⟨h',g',d',t',o'⟩:=s';have e:o'=s.os:=ho;subst e;exact I.call (g':=g') (t':=t') (d':=d') u hok hg hch
end
abbrev XK:=Value->Option Addr->Hp->Prop
abbrev St:=List (Option V)
abbrev VK:=V->Hp->Prop
abbrev TE:=St->Hp->VK->Prop
abbrev TT:=St->Hp->(Bool->Hp->Prop)->Prop
abbrev TA:=St->Hp->(List V->Hp->Prop)->Prop
structure Ends where
 nx:St->Hp->Prop
 rt:VK
 bk:St->Hp->Prop:=λ_ _=>False
 ct:St->Hp->Prop:=λ_ _=>False
abbrev TS:=Ends->St->Hp->Prop
def Ends.of (Q:VK):Ends:={nx:=λ_ H'=>Q .non H',rt:=Q}
def Ends.lp (D:Ends)(n:St->Hp->Prop):Ends:={D with nx:=n,ct:=n,bk:=D.nx}
def EP (X:Cx)(aZ:List (Addr×Obj))(U:St)(Q:VK)(u:Value)(s':Shared):Prop:=∃v H',Inv X aZ U H' s'/\RelV v u/\Q v H'
def TP (X:Cx)(aZ:List (Addr×Obj))(U:St)(Q:Bool->Hp->Prop)(b:Bool)(s':Shared):Prop:=∃H',Inv X aZ U H' s'/\Q b H'
def AP (X:Cx)(aZ:List (Addr×Obj))(U:St)(Q:List V->Hp->Prop)(us:List Value)(s':Shared):Prop:=∃vs H',Inv X aZ U H' s'/\Vals vs us/\Q vs H'
def SP (X:Cx)(aZ:List (Addr×Obj))(D:Ends)(f:Flow)(s':Shared):Prop :=
 match f with
 |.next=>∃U' H',Inv X aZ U' H' s'/\D.nx U' H'
 |.brk=>∃U' H',Inv X aZ U' H' s'/\D.bk U' H'
 |.cont=>∃U' H',Inv X aZ U' H' s'/\D.ct U' H'
 |.ret u=>∃v U' H',Inv X aZ U' H' s'/\RelV v u/\D.rt v H'
def PE (X:Cx)(e:Expr)(t:TE):Prop :=
 ∀(aZ:List (Addr×Obj)) (s:Shared) (U:St) (H:Hp) (Q:VK),Inv X aZ U H s->t U H Q->wpAny (model X.prog X.w) X.A (eval e X.env) (EP X aZ U Q) X.xe s
def PT (X:Cx)(e:Expr)(t:TT):Prop :=
 ∀(aZ:List (Addr×Obj)) (s:Shared) (U:St) (H:Hp) (Q:Bool->Hp->Prop),Inv X aZ U H s->t U H Q->wpAny (model X.prog X.w) X.A (isTrue e X.env (eval e X.env)) (TP X aZ U Q) X.xe s
def PW (X:Cx)(e:Expr)(t:TT):Prop :=
 ∀(whole:Sem Value) (aZ:List (Addr×Obj)) (s:Shared) (U:St) (H:Hp) (Q:Bool->Hp->Prop),Inv X aZ U H s->t U H Q->wpAny (model X.prog X.w) X.A (isTrue e X.env whole) (TP X aZ U Q) X.xe s
theorem PW.pt {X:Cx}{e:Expr}{t:TT}(h:PW X e t):PT X e t:=h _
def PA (X:Cx)(es:List Expr)(t:TA):Prop :=
 ∀(pos:Pos) (aZ:List (Addr×Obj)) (s:Shared) (U:St) (H:Hp) (Q:List V->Hp->Prop),Inv X aZ U H s->t U H Q->wpAny (model X.prog X.w) X.A (spliced (backTo pos (starEach es X.env))) (AP X aZ U Q) X.xe s
def PS (X:Cx)(st:Stmt)(t:TS):Prop :=
 ∀(aZ:List (Addr×Obj)) (s:Shared) (U:St) (H:Hp) (D:Ends),Inv X aZ U H s->t D U H->wpAny (model X.prog X.w) X.A (exec st X.env) (SP X aZ D) X.xe s
def yL (X:Cx)(st:List Stmt)(t:TS):Prop :=
 ∀(aZ:List (Addr×Obj)) (s:Shared) (U:St) (H:Hp) (D:Ends),Inv X aZ U H s->t D U H->wpAny (model X.prog X.w) X.A (execs st X.env) (SP X aZ D) X.xe s
theorem eU {α:Type}{t:Sem α}{Q Q':α->Shared->Prop}{M:Model}{A:Around}{E:Value->Shared->Prop}{s:Shared}(h:wpAny M A t Q E s)(hQ:∀a s,Q a s->Q' a s):wpAny M A t Q' E s:=wpAny_mono h hQ λ_ _ x=>x
section
variable {X:Cx}
inductive abq (i:Nat)(U:St)(H:Hp)(Q:VK):Prop where
 |mk (v):(U[i]?=some (some v))->(Q v H)->abq i U H Q
def jE (i:Nat):TE:=abq i
def tC (v:V):TE:=λ_ H Q=>Q v H
theorem GR {i:Nat}{x:Str}{pos:Pos}(hN:X.N[i]?=some x)(hv:Pu X.env.scope x)(hd:(x==("__debug__":Str))=false:=by decide)(Du:(x==("__classdict__":Str))=false:=by decide):PE X (.Name x pos) (jE i):=by
 intro aZ s U H Q I h;obtain⟨v,e,h⟩:=h;obtain⟨m,hn,hl⟩:=I.loc;obtain⟨u,r,l⟩:=hl i x v hN e hv;have fin:EP X aZ U Q u s:=⟨v,H,I,r,h⟩;rcases l with ⟨hk,hm⟩|⟨hk,c,hc,hcell⟩
 ·exact wpAny_Name (wpAny_loadName_local I.ok.kind hk hn hm fin) hd
 ·rcases hk with hk|hk
  ·exact wpAny_Name (wpAny_loadName_cell I.ok.kind hk hc hcell fin) hd
  ·exact wpAny_Name (wpAny_loadName_free I.ok.kind hk hc hcell fin Du) hd
theorem aY {i j pos}:PE X (.Constant (.int i) j pos) (tC (.int i)):=λ_ _ _ H _ I h=>wpAny_Constant_int ⟨.int i,H,I.tok _,⟨_,rfl⟩,h⟩
theorem lG {b j pos}:PE X (.Constant (.bool b) j pos) (tC (.bl b)):=λ_ _ _ H _ I h=>Constant_bool ⟨.bl b,H,I,rfl,h⟩
theorem jQ {j pos}:PE X (.Constant .none j pos) (tC .non):=λ_ _ _ H _ I h=>Constant_none ⟨.non,H,I,rfl,h⟩
theorem bQ {x j pos}:PE X (.Constant (.str x) j pos) (tC (.str x)):=λ_ _ _ H _ I h=>Calls.Constant_str ⟨.str x,H,I.tok _,⟨_,rfl⟩,h⟩
def Gl (X:Cx)(x:Str):Prop:=X.env.kindOf x=some .globalImplicit
theorem qC {E:Value->Shared->Prop}{aZ:List (Addr×Obj)}{s:Shared}{U:St}{H:Hp}{x:Str}{u:Value}{pos:Pos}{Q:Value->Shared->Prop}(I:Inv X aZ U H s)(hg:Gl X x)(hm:X.mg x=some u)(h:Q u s)
  (hd:(x==("__debug__":Str))=false:=by decide):wpAny (model X.prog X.w) X.A (eval (.Name x pos) X.env) Q E s :=
 Calls.Name_function_global I.ok.kind hg (Calls.loadGlobal_global (by rw[I.ok.glob];exact I.mod.glob.keeps I.bk) hm h) hd
theorem wX {E:Value->Shared->Prop}{aZ:List (Addr×Obj)}{s:Shared}{U:St}{H:Hp}{x:Str}{u:Value}{pos:Pos}{Q:Value->Shared->Prop}(I:Inv X aZ U H s)(hg:Gl X x)(hm:X.mg x=none)(hv:bootBuiltins x=some u)(h:Q u s)
  (hn:x≠"__name__":=by decide) (hd:(x==("__debug__":Str))=false:=by decide):wpAny (model X.prog X.w) X.A (eval (.Name x pos) X.env) Q E s:=by
 obtain⟨mb,h1,h2⟩:=I.mod.blt;exact Calls.Name_function_global I.ok.kind hg (Calls.loadGlobal_builtin (by rw[I.ok.glob];exact I.mod.glob.keeps I.bk) hm (by rw[I.ok.blt];exact h1.keeps I.bk) ((h2 x hn).trans hv) h) hd
theorem bZ {x:Str}{v:V}{u:Value}{pos:Pos}(hg:Gl X x)(hm:X.mg x=some u)(r:RelV v u)(hd:(x==("__debug__":Str))=false:=by decide):PE X (.Name x pos) (tC v) :=
 λ_ _ _ H _ I h=>qC I hg hm ⟨v,H,I,r,h⟩ hd
theorem eZ {x:Str}{v:V}{u:Value}{pos:Pos}(hg:Gl X x)(hm:X.mg x=none)(hv:bootBuiltins x=some u)(r:RelV v u)(hn:x≠"__name__":=by decide)(hd:(x==("__debug__":Str))=false:=by decide):PE X (.Name x pos) (tC v) :=
 λ_ _ _ H _ I h=>wX I hg hm hv ⟨v,H,I,r,h⟩ hn hd
variable {a b:Expr}{ta tb:TE}{pos:Pos}
def tB (t:TE):TT:=λU H Q=>t U H λx H1=>∃c,x=.bl c/\Q c H1
theorem cT {e:Expr}{t:TE}(h:PE X e t)(he:∀whole,isTrue e X.env whole=(do let v <-whole;standAt e.pos;holding [v] (truthy v)):=by intro _;rfl):PT X e (tB t):=by
 intro aZ s U H Q I hw;refine isTrue_plain (eU (h aZ s U H _ I hw) λv s1 ⟨x,H1,I1,r1,q1⟩=>?_) (he _);obtain⟨d,rfl,q⟩:=q1;cases r1;exact wpAny_truthy_bool ⟨H1,I1,q⟩
variable {tA tB':TT}{rest:List Expr}
def aem (t u:TT):TT:=λU H Q=>t U H λc H1=>if c=true then u U H1 Q else Q false H1
def tOr (t u:TT):TT:=λU H Q=>t U H λc H1=>if c=true then Q true H1 else u U H1 Q
def aen (t:TT):TT:=λU H Q=>t U H λc H1=>Q (!c) H1
theorem qD (ha:PT X a tA):PW X (.BoolOp .And [a] pos) tA:=by
 intro wh aZ s U H Q I h;refine isTrue_and (eU (ha aZ s U H Q I h) λc s1 e=>?_);cases c with
 |true=>exact isTrue_and_nil e
 |false=>exact e
theorem jm (ha:PT X a tA):PW X (.BoolOp .Or [a] pos) tA:=by
 intro wh aZ s U H Q I h;refine isTrue_or (eU (ha aZ s U H Q I h) λc s1 e=>?_);cases c with
 |false=>exact isTrue_or_nil e
 |true=>exact e
theorem uQ (ha:PT X a tA)(hb:PW X (.BoolOp .And (b::rest) pos) tB'):PW X (.BoolOp .And (a::b::rest) pos) (aem tA tB'):=by
 intro wh aZ s U H Q I h;refine isTrue_and (eU (ha aZ s U H _ I h) λc s1 ⟨H1,I1,q1⟩=>?_);cases c with
 |true=>exact hb wh aZ s1 U H1 Q I1 q1
 |false=>exact⟨H1,I1,q1⟩
theorem kj (ha:PT X a tA)(hb:PW X (.BoolOp .Or (b::rest) pos) tB'):PW X (.BoolOp .Or (a::b::rest) pos) (tOr tA tB'):=by
 intro wh aZ s U H Q I h;refine isTrue_or (eU (ha aZ s U H _ I h) λc s1 ⟨H1,I1,q1⟩=>?_);cases c with
 |true=>exact⟨H1,I1,q1⟩
 |false=>exact hb wh aZ s1 U H1 Q I1 q1
theorem dZ (ha:PT X a tA):PT X (.UnaryOp .Not a pos) (aen tA):=by
 intro aZ s U H Q I h;exact isTrue_not (ha aZ s U H (λc H1=>Q (!c) H1) I h)
def abr (ta tb:TE):TE:=λU H Q=>ta U H λx H1=>∃c,x=.bl c/\if c=true then tb U H1 Q else Q (.bl false) H1
def aeo (ta tb:TE):TE:=λU H Q=>ta U H λx H1=>∃c,x=.bl c/\if c=true then Q (.bl true) H1 else tb U H1 Q
def abt (ta:TE):TE:=λU H Q=>ta U H λx H1=>∃c,x=.bl c/\Q (.bl (!c)) H1
theorem dG {op}{t:TE}(h:PE X a t):PE X (.BoolOp op [a] pos) t:=λaZ s U H Q I hw=>BoolOp_one (h aZ s U H Q I hw)
theorem cQ (ha:PE X a ta)(hb:PE X (.BoolOp .And (b::rest) pos) tb):PE X (.BoolOp .And (a::b::rest) pos) (abr ta tb):=by
 intro aZ s U H Q I h;refine BoolOp_and (eU (ha aZ s U H _ I h) λv s1 ⟨x,H1,I1,r1,q1⟩=>?_);obtain⟨c,rfl,q1⟩:=q1;cases r1;refine wpAny_truthy_bool ?_;cases c with
 |true=>exact hb aZ s1 U H1 Q I1 q1
 |false=>exact⟨.bl false,H1,I1,rfl,q1⟩
theorem rO (ha:PE X a ta)(hb:PE X (.BoolOp .Or (b::rest) pos) tb):PE X (.BoolOp .Or (a::b::rest) pos) (aeo ta tb):=by
 intro aZ s U H Q I h;refine BoolOp_or (eU (ha aZ s U H _ I h) λv s1 ⟨x,H1,I1,r1,q1⟩=>?_);obtain⟨c,rfl,q1⟩:=q1;cases r1;refine wpAny_truthy_bool ?_;cases c with
 |false=>exact hb aZ s1 U H1 Q I1 q1
 |true=>exact⟨.bl true,H1,I1,rfl,q1⟩
theorem Mg (ha:PE X a ta):PE X (.UnaryOp .Not a pos) (abt ta):=by
 intro aZ s U H Q I h;refine UnaryOp_ (eU (ha aZ s U H _ I h) λv s1 ⟨x,H1,I1,r1,q1⟩=>?_);obtain⟨c,rfl,q1⟩:=q1;cases r1;exact not_of (wpAny_truthy_bool ⟨.bl (!c),H1,I1,rfl,q1⟩)
def tIf (t:TT)(ta tb:TE):TE:=λU H Q=>t U H λc H1=>if c=true then ta U H1 Q else tb U H1 Q
theorem kE {c:Expr}(hc:PT X c tA)(ha:PE X a ta)(hb:PE X b tb):PE X (.IfExp c a b pos) (tIf tA ta tb):=by
 intro aZ s U H Q I h;refine wpAny_IfExp (eU (hc aZ s U H _ I h) λd s1 ⟨H1,I1,q1⟩=>?_);cases d with
 |true=>exact ha aZ s1 U H1 Q I1 q1
 |false=>exact hb aZ s1 U H1 Q I1 q1
end
def dX (K:PySem.W.Frag)(H:Hp)(a:Addr)(xs:List V):Prop :=
 Rd H a (.lst xs)\/
  ∃(o:Obj) (aU:Array Value) (n:Nat),K.lookup a=some o/\o.cls=.type "list"/\o.dict=none/\o.data=.seq aU n/\aU.size<=sizeLine/\Vals xs aU.toList
def dY (K:PySem.W.Frag)(H:Hp)(a:Addr)(xs:List V):Prop :=
 Rd H a (.tup xs)\/
  ∃(o:Obj) (aU:Array Value) (n:Nat),K.lookup a=some o/\o.cls=.type "tuple"/\o.data=.seq aU n/\aU.size<=sizeLine/\Vals xs aU.toList
def Vd:Value->Option V
 |.none=>some .non
 |.bool b=>some (.bl b)
 |.int i _=>some (.int i)
 |.str x _=>some (.str x)
 |.bytes b _=>some (.Va b)
 |.float b _=>some (.flt b)
 |.ref a=>some (.ref a)
 |.type n=>some (.ty n)
 |_=>none
theorem RelV.abs {x:V}{u:Value}(r:RelV x u):Vd u=some x:=by
 cases x with
 |non=>cases r;rfl
 |bl _=>cases r;rfl
 |int _=>obtain⟨t,rfl⟩:=r;rfl
 |str _=>obtain⟨t,rfl⟩:=r;rfl
 |Va _=>obtain⟨t,rfl⟩:=r;rfl
 |flt _=>obtain⟨t,rfl⟩:=r;rfl
 |ref _=>cases r;rfl
 |ty _=>cases r;rfl
theorem RelV.inj {x y:V}{u:Value}(r:RelV x u)(q:RelV y u):x=y:=Option.some.inj (r.abs.symm.trans q.abs)
theorem Vals.inj {xs ys:List V}{us:List Value}(h:Vals xs us)(k:Vals ys us):xs=ys:=by
 induction h generalizing ys with
 |nil=>cases k;rfl
 |cons r _ ih=>cases k with
  |cons q t=>rw[r.inj q,ih t]
section
variable {X:Cx}{aZ:List (Addr×Obj)}{U:St}{H:Hp}{s:Shared}{a:Addr}{xs ys:List V}
theorem dX.of {K:PySem.W.Frag}(h:H a=some (.lst xs)):dX K H a xs:=.inl (.inl h)
theorem dY.of {K:PySem.W.Frag}(h:H a=some (.tup xs)):dY K H a xs:=.inl (.inl h)
theorem Inv.list (I:Inv X aZ U H s)(h:dX X.K H a xs):∃aU:List Value,Vals xs aU/\PlainL s.heap a aU.toArray/\xs.length<=sizeLine:=by
 rcases h with h|⟨o,aU,n,hk,hc,hd,hs,hz,r⟩
 ·obtain⟨z,aU,n,r,e⟩:=h.ok I.hok
  exact⟨aU,r,⟨_,n,e,rfl,rfl,rfl⟩,z⟩
 ·refine⟨aU.toList,r,⟨o,n,I.wR a o hk,hc,hd,by simpa using hs⟩,?_⟩
  have e:=r.length;simp only[aju]at e;omega
theorem Inv.tuple (I:Inv X aZ U H s)(h:dY X.K H a xs):∃aU:List Value,Vals xs aU/\IsTup s.heap a aU.toArray/\xs.length<=sizeLine:=by
 rcases h with h|⟨o,aU,n,hk,hc,hs,hz,r⟩
 ·obtain⟨z,aU,r,p⟩:=h.ok I.hok
  exact⟨aU,r,p,z⟩
 ·refine⟨aU.toList,r,⟨o,I.wR a o hk,hc,n,by simpa using hs⟩,?_⟩
  have e:=r.length;simp only[aju]at e;omega
theorem Inv.Ve (I:Inv X aZ U H s)(h:dX X.K H a xs)(h':dX X.K H a ys):xs=ys:=by
 obtain⟨aU,r,⟨o,n,e,_,_,d⟩,_⟩:=I.list h;obtain⟨its',r',⟨o',n',e',_,_,d'⟩,_⟩:=I.list h';rw[e]at e';cases e';rw[d]at d';injection d' with d1 _;have:aU=its':=by simpa using congrArg Array.toList d1
 subst this;exact r.inj r'
theorem Inv.Rx (I:Inv X aZ U H s)(h:dY X.K H a xs)(h':dY X.K H a ys):xs=ys:=by
 obtain⟨aU,r,⟨o,e,_,n,d⟩,_⟩:=I.tuple h;obtain⟨its',r',⟨o',e',_,n',d'⟩,_⟩:=I.tuple h';rw[e]at e';cases e';rw[d]at d';injection d' with d1 _;have:aU=its':=by simpa using congrArg Array.toList d1
 subst this;exact r.inj r'
end
abbrev Cx.wish (X:Cx)(E:Value->Shared->Prop):Cx:={X with xe:=E}
abbrev Cx.Vf (X:Cx):Cx:=X.wish λ_ _=>False
theorem Cx.Ok.wish {X:Cx}(ok:X.Ok)(E:Value->Shared->Prop):(X.wish E).Ok :=
 ⟨ok.mod,ok.kind,ok.glob,ok.blt,ok.above,ok.inj,ok.has,ok.cab,ok.hd,ok.frames,ok.stk,ok.exf,ok.bs,ok.Rv,ok.Dw,ok.GQ,ok.su,ok.UG⟩
theorem Cx.Ok.qF {X:Cx}{E:Value->Shared->Prop}(ok:(X.wish E).Ok):X.Ok :=
 ⟨ok.mod,ok.kind,ok.glob,ok.blt,ok.above,ok.inj,ok.has,ok.cab,ok.hd,ok.frames,ok.stk,ok.exf,ok.bs,ok.Rv,ok.Dw,ok.GQ,ok.su,ok.UG⟩
section
variable {X:Cx}{aZ:List (Addr×Obj)}{U:St}{H:Hp}{s:Shared}{E:Value->Shared->Prop}
theorem Inv.wish (I:Inv X aZ U H s)(E:Value->Shared->Prop):Inv (X.wish E) aZ U H s:=⟨I.ok.wish E,I.os,I.bare,I.base,I.loc,I.cell,I.free,I.kh,I.pin,I.hok,I.len⟩
theorem Inv.qF (I:Inv (X.wish E) aZ U H s):Inv X aZ U H s:=⟨I.ok.qF,I.os,I.bare,I.base,I.loc,I.cell,I.free,I.kh,I.pin,I.hok,I.len⟩
theorem SP.qF {D:Ends}{f:Flow}{s':Shared}(h:SP (X.wish E) aZ D f s'):SP X aZ D f s':=by
 cases f with
 |next=>obtain⟨U',H',I,q⟩:=h;exact⟨U',H',I.qF,q⟩
 |brk=>obtain⟨U',H',I,q⟩:=h;exact⟨U',H',I.qF,q⟩
 |cont=>obtain⟨U',H',I,q⟩:=h;exact⟨U',H',I.qF,q⟩
 |ret u=>obtain⟨v,U',H',I,r,q⟩:=h;exact⟨v,U',H',I.qF,r,q⟩
theorem yL.Vf {st:List Stmt}{t:TS}(h:yL X.Vf st t):yL X st t:=λaZ s U H D I hw=>
 wpAny_mono (h aZ s U H D (I.wish _) hw) (λ_ _ q=>q.qF) λ_ _ z=>False.elim z
end
section
variable {X:Cx}{st:Stmt}{rest:List Stmt}{t u:TS}{e:Expr}{te:TE}{pos:Pos}
def Px:TS:=λD U H=>D.nx U H
def Ends.to (D:Ends)(n:St->Hp->Prop):Ends:={D with nx:=n}
def JD (t u:TS):TS:=λD U H=>t (D.to (u D)) U H
theorem bK:yL X [] Px:=λ_ _ U H _ I h=>wpAny_execs_nil ⟨U,H,I,h⟩
theorem bx (h1:PS X st t)(h2:yL X rest u):yL X (st::rest) (JD t u):=by
 intro aZ s U H D I h;refine wpAny_execs_cons (eU (h1 aZ s U H {D with nx:=u D} I h) λf s1 q=>?_);cases f with
 |next=>
  obtain⟨U',H',I',q⟩:=q;exact h2 aZ s1 U' H' D I' q
 |ret v=>exact q
 |brk=>exact q
 |cont=>exact q
theorem bh (h1:PS X st t):yL X [st] t:=by
 intro aZ s U H D I h;refine wpAny_execs_cons (eU (h1 aZ s U H D I h) λf s1 q=>?_);cases f with
 |next=>exact wpAny_execs_nil q
 |ret v=>exact q
 |brk=>exact q
 |cont=>exact q
theorem Inv.quiet {aZ:List (Addr×Obj)}{U:St}{H:Hp}{s:Shared}(I:Inv X aZ U H s):interactive X.env=false:=by simp[interactive,I.ok.kind]
def aep (te:TE):TS:=λD U H=>te U H λ_ H1=>D.nx U H1
theorem fj (he:PE X e te)(hs:swapsWith e none pos.line X.env=pure false:=by rfl):PS X (.Expr e pos) (aep te):=by
 intro aZ s U H D I h;exact wpAny_Expr_any (eU (he aZ s U H _ I h) λv s1 ⟨x,H1,I1,r1,q1⟩=>⟨U,H1,I1,q1⟩) I.quiet hs
def Mh (te:TE):TS:=λD U H=>te U H D.rt
theorem bD (he:PE X e te):PS X (.Return (some e) pos) (Mh te):=by
 intro aZ s U H D I h;exact wpAny_Return_some (eU (he aZ s U H _ I h) λv s1 ⟨x,H1,I1,r1,q1⟩=>⟨x,U,H1,I1,r1,q1⟩)
def Mi (c:TT)(t u:TS):TS:=λD U H=>c U H λb H1=>if b=true then t D U H1 else u D U H1
theorem cF {c:Expr}{a b:List Stmt}{tc:TT}(hc:PT X c tc)(ha:yL X a t)(hb:yL X b u):PS X (.If c a b pos) (Mi tc t u):=by
 intro aZ s U H D I h;refine wpAny_If (eU (hc aZ s U H _ I h) λd s1 ⟨H1,I1,q1⟩=>?_);cases d with
 |true=>exact ha aZ s1 U H1 D I1 q1
 |false=>exact hb aZ s1 U H1 D I1 q1
def ach:TS:=λ_ _ _=>False
theorem Ry {sts:List Stmt}:yL X sts ach:=λ_ _ _ _ _ _ h=>h.elim
end
abbrev TG:=V->St->Hp->(St->Hp->Prop)->Prop
abbrev Zj:=List V->St->Hp->(St->Hp->Prop)->Prop
def PG (X:Cx)(target:Expr)(t:TG):Prop :=
 ∀(aZ:List (Addr×Obj)) (s:Shared) (U:St) (H:Hp) (v:V) (u:Value) (Q:St->Hp->Prop),Inv X aZ U H s->RelV v u->t v U H Q->
  wpAny (model X.prog X.w) X.A (assign target X.env u) (λ_ s'=>∃U' H',Inv X aZ U' H' s'/\Q U' H') X.xe s
def PGs (X:Cx)(ts:List Expr)(t:Zj):Prop :=
 ∀(aZ:List (Addr×Obj)) (s:Shared) (U:St) (H:Hp) (vs:List V) (us:List Value) (Q:St->Hp->Prop),Inv X aZ U H s->Vals vs us->t vs U H Q->
  wpAny (model X.prog X.w) X.A (assignInOrder ((assignEach ts X.env).map (·.2)) us) (λ_ s'=>∃U' H',Inv X aZ U' H' s'/\Q U' H') X.xe s
abbrev Vg:=V->V->V->Hp->(Hp->Prop)->Prop
def aci (X:Cx)(t:Vg):Prop :=
 ∀(aZ:List (Addr×Obj)) (s:Shared) (U:St) (H:Hp) (o i v:V) (ov iv u:Value) (Q:Hp->Prop),Inv X aZ U H s->RelV o ov->RelV i iv->RelV v u->t o i v H Q->
  wpAny (model X.prog X.w) X.A (setItem ov iv u) (λ_ s'=>∃H',Inv X aZ U H' s'/\Q H') X.xe s
abbrev TIp:=V->V->Hp->VK->Prop
def PIp (X:Cx)(op:Operator)(t:TIp):Prop :=
 ∀(aZ:List (Addr×Obj)) (s:Shared) (U:St) (H:Hp) (x y:V) (v u:Value) (Q:VK),Inv X aZ U H s->RelV x v->RelV y u->t x y H Q->
  wpAny (model X.prog X.w) X.A (inplaceOp op v u) (EP X aZ U Q) X.xe s
section
variable {X:Cx}{pos:Pos}
def oW (i:Nat):TG:=λv U H Q=>Q (U.set i (some v)) H
theorem eO {i:Nat}{x:Str}(hN:X.N.Nodup)(hi:X.N[i]?=some x)(hx:Loc X.env.scope x)(hf:X.fn x=true\/X.env.scope.names.lookup x=some .local:=by first|exact .inl rfl|exact .inr rfl|assumption):PG X (.Name x pos) (oW i):=by
 intro aZ s U H v u Q I r h;exact wpAny_assign_Name (sy I hN hi hx r (λs' I'=>⟨_,H,I',h⟩) hf)
inductive abu (vs:List V)(U:St)(H:Hp)(Q:St->Hp->Prop):Prop where
 |mk:(vs=[])->(Q U H)->abu vs U H Q
def aer:Zj:=abu
inductive Vh (t:TG)(u:Zj)(vs:List V)(U:St)(H:Hp)(Q:St->Hp->Prop):Prop where
 |mk (v) (r):(vs=v::r)->(t v U H λU' H'=>u r U' H' Q)->Vh t u vs U H Q
def Vi (t:TG)(u:Zj):Zj:=Vh t u
theorem ZC:PGs X [] aer:=by
 intro aZ s U H vs us Q I r h;obtain⟨e,h⟩:=h;subst e;cases r;exact assignInOrder_nil ⟨U,H,I,h⟩
theorem JF {e:Expr}{es:List Expr}{t:TG}{u:Zj}(h1:PG X e t)(h2:PGs X es u)
  (hs:(assignEach (e::es) X.env).map (·.2)=assign e X.env::(assignEach es X.env).map (·.2):=by rfl):PGs X (e::es) (Vi t u):=by
 intro aZ s U H vs us Q I r h;obtain⟨v,vr,e1,h⟩:=h;subst e1;cases r with
 |cons r rr=>
  rw[hs];refine assignInOrder_cons (eU (h1 aZ s U H _ _ _ I r h) λ_ s1 ⟨U1,H1,I1,q1⟩=>?_);exact h2 aZ s1 U1 H1 _ _ Q I1 rr q1
inductive abv (K:PySem.W.Frag)(n:Nat)(t:Zj)(v:V)(U:St)(H:Hp)(Q:St->Hp->Prop):Prop where
 |mk (a) (xs):(v=.ref a)->(dY K H a xs)->(xs.length=n)->(t xs U H Q)->abv K n t v U H Q
def acj (K:PySem.W.Frag)(n:Nat)(t:Zj):TG:=abv K n t
theorem acn {es:List Expr}{k:Nat}{t:Zj}{n:Nat}(hc:X.calm=true)(h:PGs X es t)
  (hn:(assignEach es X.env).length=n:=by rfl) (Eo:(assignEach es X.env).findIdx? (·.1)=none:=by rfl):PG X (.Tuple es k pos) (acj X.K n t):=by
 intro aZ s U H v u Q I r hw;obtain⟨a,xs,e1,hq,hl,hw⟩:=hw;subst e1;cases r;obtain⟨aU,rv,ht,hz⟩:=I.tuple hq;refine assign_Tuple_tuple (I.ok.hd hc) ht (by simp[hn,<-hl,rv.length]) Eo λh' hx=>?_;have I1:Inv X aZ U H {s with heap:=h'}:=I.kept (t':=s.toks) λb o e=>hx b o (ai7 (aiu e)) e;exact h aZ _ U H xs _ Q I1 (by simpa using rv) hw
def af0 (to ti:TE)(t:Vg):TG:=λv U H Q=>to U H λo H1=>ti U H1 λi H2=>t o i v H2 λH3=>Q U H3
theorem Vj {o i:Expr}{to ti:TE}{t:Vg}(ho:PE X o to)(hi:PE X i ti)(hs:aci X t)
  (ha:∀v,assign (.Subscript o i pos) X.env v=(do
   let ov <-holding [v] (eval o X.env)
   let iv <-holding [v,ov] (eval i X.env)
   standAt pos
   holding [v,ov,iv] (setItem ov iv v)
   release [v,ov,iv] []):=by intro _;rfl):PG X (.Subscript o i pos) (af0 to ti t):=by
 intro aZ s U H v u Q I r h;rw[ha];refine wpAny_bind (wpAny_holding (eU (ho aZ s U H _ I h) λov s1 ⟨x,H1,I1,r1,q1⟩=>?_));refine wpAny_bind (wpAny_holding (eU (hi aZ s1 U H1 _ I1 q1) λiv s2 ⟨y,H2,I2,r2,q2⟩=>?_));refine wpAny_bind (wpAny_standAt (wpAny_bind (wpAny_holding (eU (hs aZ s2 U H2 x y v ov iv u _ I2 r1 r2 r q2) λ_ s3 ⟨H3,I3,q3⟩=>?_))));exact wpAny_release ⟨U,H3,I3,q3⟩
def JG (te:TE)(g:TG):TS:=λD U H=>te U H λx H1=>g x U H1 D.nx
theorem Vk {tg e:Expr}{te:TE}{g:TG}(he:PE X e te)(hg:PG X tg g)(hs:swapsWithSole [tg] e pos.line X.env=pure false:=by rfl)(hw:swappedStores [tg] e X.env=pure none:=by rfl)
  (h1:(assignEach [tg] X.env).map (·.2)=[assign tg X.env]:=by rfl):PS X (.Assign [tg] e pos) (JG te g):=by
 intro aZ s U H D I h;refine wpAny_Assign_stores (eU (he aZ s U H _ I h) λv s1 ⟨x,H1,I1,r1,q1⟩=>?_) hs hw;rw[h1];exact eU (hg aZ s1 U H1 x v _ I1 r1 q1) λ_ s2 q=>q
theorem cZ {i:Nat}{x:Str}{e:Expr}{te:TE}{uR:Pos}(hN:X.N.Nodup)(hi:X.N[i]?=some x)(hx:Loc X.env.scope x)(he:PE X e te)(hs:swapsWith e (some (.Name x uR)) pos.line X.env=pure false:=by rfl)(hf:X.fn x=true\/X.env.scope.names.lookup x=some .local:=by first|exact .inl rfl|exact .inr rfl|assumption):
  PS X (.Assign [.Name x uR] e pos) (JG te (oW i)):=by
 intro aZ s U H D I h;refine wpAny_Assign_Name (eU (he aZ s U H _ I h) λv s1 ⟨y,H1,I1,r1,q1⟩=>?_) hs;exact sy I1 hN hi hx r1 (λs2 I2=>⟨_,H1,I2,q1⟩) hf
inductive aes (i:Nat)(j:Nat)(D:Ends)(U:St)(vs:List V)(H1:Hp):Prop where
 |mk (v) (w):(vs=[v,w])->(D.nx ((U.set i (some v)).set j (some w)) H1)->aes i j D U vs H1
def af2 (i:Nat)(te:TE)(ti:TIp):TS:=λD U H=>∃x,U[i]?=some (some x)/\te U H λy H1=>ti x y H1 λz H2=>D.nx (U.set i (some z)) H2
theorem Mj {i:Nat}{x:Str}{e:Expr}{te:TE}{op:Operator}{ti:TIp}{uR:Pos}(hN:X.N.Nodup)(hi:X.N[i]?=some x)(hx:Loc X.env.scope x)(he:PE X e te)(ho:PIp X op ti)(hf:X.fn x=true\/X.env.scope.names.lookup x=some .local:=by first|exact .inl rfl|exact .inr rfl|assumption):
  PS X (.AugAssign (.Name x uR) op e pos) (af2 i te ti):=by
 intro aZ s U H D I h;obtain⟨v,e1,h⟩:=h;obtain⟨m,hn,hl⟩:=I.loc;have vis:Pu X.env.scope x:=by rcases hx with k|k;exact .inl k;exact .inr (.inl k)
 obtain⟨u,r,l⟩:=hl i x v hi e1 vis;refine wpAny_AugAssign_Name ?_;have go:wpAny (model X.prog X.w) X.A (eval e X.env) (λw s₂=>wpAny (model X.prog X.w) X.A (inplaceOp op u w) (λr s₃=>wpAny (model X.prog X.w) X.A (storeName X.env x r) (λ_=>SP X aZ D .next) X.xe s₃) X.xe s₂) X.xe s:=by
  refine eU (he aZ s U H _ I h) λw s1 ⟨y,H1,I1,r1,q1⟩=>?_;refine eU (ho aZ s1 U H1 v y u w _ I1 r r1 q1) λz s2 ⟨zv,H2,I2,r2,q2⟩=>?_;exact sy I2 hN hi hx r2 (λs3 I3=>⟨_,H2,I3,q2⟩) hf
 rcases l with ⟨hk,hm⟩|⟨hk,c,hc,hcell⟩
 ·exact wpAny_loadName_local I.ok.kind hk hn hm go
 ·rcases hk with hk|hk
  ·exact wpAny_loadName_cell I.ok.kind hk hc hcell go
  ·rcases hx with k|k
   ·have:X.env.scope.names.lookup x=some .free:=hk
    rw[k]at this;cases this
   ·have:X.env.scope.names.lookup x=some .free:=hk
    rw[k]at this;cases this
def aeu (to ti te:TE)(ZD:V->V->Hp->VK->Prop)(tip:TIp)(ZF:Vg):TS:=λD U H=>to U H λo H1=>ti U H1 λi H2=>ZD o i H2 λx H3=>te U H3 λy H4=>tip x y H4 λz H5=>ZF o i z H5 λH6=>D.nx U H6
def aev (X:Cx)(t:V->V->Hp->VK->Prop):Prop :=
 ∀(aZ:List (Addr×Obj)) (s:Shared) (U:St) (H:Hp) (o i:V) (ov iv:Value) (Q:VK),Inv X aZ U H s->RelV o ov->RelV i iv->t o i H Q->
  wpAny (model X.prog X.w) X.A (getItem ov iv) (EP X aZ U Q) X.xe s
theorem ZG {o i e:Expr}{to ti te:TE}{ZD:V->V->Hp->VK->Prop}{tip:TIp}{ZF:Vg}{op:Operator}{tpos:Pos}(ho:PE X o to)(hi:PE X i ti)(hg:aev X ZD)(he:PE X e te)(hp:PIp X op tip)(hs:aci X ZF)
  (ha:∀ov iv new,augStore i ov iv new=(do holding [new,ov,iv] (setItem ov iv new);release [new,ov,iv] [];pure .next):=by intros;rfl):PS X (.AugAssign (.Subscript o i tpos) op e pos) (aeu to ti te ZD tip ZF):=by
 intro aZ s U H D I h;refine wpAny_AugAssign_SubscriptAny (eU (ho aZ s U H _ I h) λov s1 ⟨x1,H1,I1,r1,q1⟩=>?_) ha;refine eU (hi aZ s1 U H1 _ I1 q1) λiv s2 ⟨x2,H2,I2,r2,q2⟩=>?_;refine eU (hg aZ s2 U H2 x1 x2 ov iv _ I2 r1 r2 q2) λold s3 ⟨x3,H3,I3,r3,q3⟩=>?_;refine eU (he aZ s3 U H3 _ I3 q3) λv s4 ⟨x4,H4,I4,r4,q4⟩=>?_;refine eU (hp aZ s4 U H4 x3 x4 old v _ I4 r3 r4 q4) λnew s5 ⟨x5,H5,I5,r5,q5⟩=>?_;exact eU (hs aZ s5 U H5 x1 x2 x5 ov iv new _ I5 r1 r2 r5 q5) λ_ s6 ⟨H6,I6,q6⟩=>⟨U,H6,I6,q6⟩
def ipI (f:Int->Int->Int):TIp:=λx y H Q=>∃i j,x=.int i/\y=.int j/\Q (.int (f i j)) H
theorem aco:PIp X .Sub (ipI λi j=>i-j):=by
 intro aZ s U H x y v u Q I r1 r2 h;obtain⟨i,j,e1,e2,q⟩:=h;subst e1;subst e2;obtain⟨t,rfl⟩:=r1;obtain⟨t',rfl⟩:=r2;exact isub_int ⟨.int _,H,I.tok _,⟨_,rfl⟩,q⟩
end
section
variable {X:Cx}{pos:Pos}
def acp (c:TT)(tb:TS):TS:=λD U H=>∃W:Nat->St->Hp->Prop,(∃m,W m U H)/\∀m U H,W m U H->
 c U H λb H1=>if b=true then ∃N:St->Hp->Prop,(∀U' H',N U' H'->∃m',m'<m/\W m' U' H')/\tb (D.lp N) U H1 else D.nx U H1
theorem JH {c:Expr}{body:List Stmt}{tc:TT}{tb:TS}(hp:PassesOwn (model X.prog X.w) X.A X.env X.xe)(hc:PT X c tc)(hb:yL X body tb):PS X (.While c body [] pos) (acp tc tb):=by
 intro aZ s U H D I h;obtain⟨W,⟨m0,w0⟩,turn⟩:=h;refine wpAny_While (codeAny_whileLoop (λn s'=>∃U' H',Inv X aZ U' H' s'/\W n U' H') ?_ m0 ⟨U,H,I,w0⟩);rintro n s1 ⟨U1,H1,I1,w1⟩;refine wpAny_passesOwn hp (eU (hc aZ s1 U1 H1 _ I1 (turn n U1 H1 w1)) λb s2 ⟨H2,I2,q2⟩=>?_);cases b with
 |true=>
  obtain⟨N,hN,q2⟩:=q2;rw[if_pos rfl];refine wpAny_passesOwn hp (eU (hb aZ s2 U1 H2 _ I2 q2) λf s3 q3=>?_);cases f with
  |next=>
   obtain⟨U3,H3,I3,n3⟩:=q3;obtain⟨m',hm,w3⟩:=hN U3 H3 n3;exact⟨m',hm,U3,H3,I3,w3⟩
  |cont=>
   obtain⟨U3,H3,I3,n3⟩:=q3;obtain⟨m',hm,w3⟩:=hN U3 H3 n3;exact⟨m',hm,U3,H3,I3,w3⟩
  |brk=>exact q3
  |ret v=>exact q3
 |false=>
  rw[if_neg aip];exact wpAny_execs_nil ⟨U1,H2,I2,q2⟩
end
structure It where
 go:Nat->Hp->Prop
 yld:Nat->Hp->V->Hp->Prop
 stop:Nat->Hp->Prop
def Ae (X:Cx)(aZ:List (Addr×Obj))(H:Hp)(b:Addr):Prop :=
 H b=none/\b≠X.env.locals/\b∉X.fs/\(b∈X.ex\/X.s₀.heap.objs.size<=b)/\(∀x c,X.env.cells.lookup x=some c->c≠b)/\∀p∈X.pn++aZ,p.1≠b
theorem Inv.Dy {X:Cx}{aZ:List (Addr×Obj)}{U:St}{H H':Hp}{s:Shared}{b:Addr}(I:Inv X aZ U H s)(hb:s.heap.objs.size<=b)(hn:H' b=none):Ae X aZ H' b:=by
 refine⟨hn,ajP (aiw I.lt hb),I.acg hb, .inr (aiv I.sz hb),λx c e z=>?_,λp hp z=>?_⟩
 ·obtain⟨v,q⟩:=I.cell x c e
  exact absurd (aiw q.lt (by rw[z];exact hb)) (aiI _)
 ·exact absurd (aiw (aiu (I.pin p hp).1) (by rw[z];exact hb)) (aiI _)
abbrev Calm:Cx->Prop:=λX=>X.calm=true
structure abw (qt:Cx->Prop)(P:Program)(w:World)(K:PySem.W.Frag)(tg:Expr)(J:It)(fp:List Addr)(it:Addr)(tn:Nat->Heap->Prop):Prop where
 mem:it∈fp
 obj:∀i h,tn i h->∀b∈fp,∃o,h.get? b=some o/\∀v,o.data≠.cell v
 keep:∀i h h',tn i h->(∀b∈fp,∀o,h.get? b=some o->h'.get? b=some o)->tn i h'
 item:∀(X:Cx),X.prog=P->X.w=w->X.K=K->qt X->∀(i:Nat) (aZ:List (Addr×Obj)) (s:Shared) (U:St) (H:Hp) (E:Value->Shared->Prop),Inv X aZ U H s->(∀b∈fp,Ae X aZ H b)->tn i s.heap->J.go i H->
  wpAny (model P w) X.A (pyNext (.ref it)) (λr s1=>∃u,r=some u/\
   wpAny (model P w) X.A (letOwnedTupleGo tg (.ref it) u) (λ_ s2=>∃x H',Inv X aZ U H' s2/\RelV x u/\J.yld i H x H'/\tn (i+1) s2.heap/\∀b∈fp,H' b=none) E s1) E s
 done:∀(X:Cx),X.prog=P->X.w=w->X.K=K->qt X->∀(i:Nat) (aZ:List (Addr×Obj)) (s:Shared) (U:St) (H:Hp) (E:Value->Shared->Prop),Inv X aZ U H s->(∀b∈fp,Ae X aZ H b)->tn i s.heap->J.stop i H->
  wpAny (model P w) X.A (pyNext (.ref it)) (λr s1=>r=none/\Inv X aZ U H s1) E s
 self:∀(A:Around) (i:Nat) (s:Shared) (Q:Value->Shared->Prop) (E:Value->Shared->Prop),tn i s.heap->Q (.ref it) s->wpAny (model P w) A (pyIter (.ref it)) Q E s
abbrev Turn:=abw Calm
abbrev TI:=St->Hp->(It->Hp->Prop)->Prop
def aew (qt:Cx->Prop)(X:Cx)(aZ:List (Addr×Obj))(U:St)(tg:Expr)(R:It->Hp->Prop)(itv:Value)(s2:Shared):Prop :=
 ∃(it:Addr) (fp:List Addr) (tn:Nat->Heap->Prop) (J:It) (H':Hp),itv=.ref it/\Inv X aZ U H' s2/\abw qt X.prog X.w X.K tg J fp it tn/\tn 0 s2.heap/\(∀b∈fp,Ae X aZ H' b)/\R J H'
abbrev PIE:=aew Calm
def PIQ (qt:Cx->Prop)(X:Cx)(tg eX:Expr)(wi:TI):Prop :=
 ∀(aZ:List (Addr×Obj)) (s:Shared) (U:St) (H:Hp) (R:It->Hp->Prop),Inv X aZ U H s->wi U H R->
  wpAny (model X.prog X.w) X.A (eval eX X.env) (λv s1=>wpAny (model X.prog X.w) X.A (pyIter v) (aew qt X aZ U tg R) X.xe s1) X.xe s
abbrev PI:=PIQ Calm
theorem Vm {M:Model}{A:Around}{E:Value->Shared->Prop}{s:Shared}{tg:Expr}{it:Addr}{u:Value}{o:Obj}{n:String}{vs:Array Value}{Q:Unit->Shared->Prop}(ho:s.heap.get? it=some o)(hc:o.cls=.type n)(hd:o.data=.fields vs)
  (hn:["enumerate","zip","dict_itemiterator","dict_reverseitemiterator","odict_iterator","itertools.zip_longest","itertools.pairwise"].contains n=false) (hQ:Q () s):wpAny M A (letOwnedTupleGo tg (.ref it) u) Q E s:=by
 unfold letOwnedTupleGo;cases tg<;>first
  |exact wpAny_pure hQ
  |(cases u<;>first
    |exact wpAny_pure hQ
    |(refine wpAny_bind (wpAny_load ho ?_)
      rw[hc,hd];show wpAny M A (if(["enumerate","zip","dict_itemiterator","dict_reverseitemiterator","odict_iterator","itertools.zip_longest","itertools.pairwise"].contains n&&vs[0]?==some (rawInt _))=true then _ else _) Q E s;rw[if_neg (by intro h;rw[hn,ajY]at h;cases h)];exact wpAny_pure hQ))
def Itl (K:PySem.W.Frag)(a:Addr):It :=
 ⟨λi H=>∃xs x,dX K H a xs/\xs[i]?=some x,λi H x H'=>H'=H/\∀xs,dX K H a xs->xs[i]?=some x,λi H=>∃xs,dX K H a xs/\xs.length<=i⟩
def Itt (K:PySem.W.Frag)(a:Addr):It :=
 ⟨λi H=>∃xs x,dY K H a xs/\xs[i]?=some x,λi H x H'=>H'=H/\∀xs,dY K H a xs->xs[i]?=some x,λi H=>∃xs,dY K H a xs/\xs.length<=i⟩
def Itr (lo:Int)(n:Nat):It:=⟨λi _=>i<n,λi H x H'=>H'=H/\x=.int (lo+i),λi _=>n<=i⟩
theorem Ep {P:Program}{w:World}{K:PySem.W.Frag}{tg:Expr}(a it:Addr):Turn P w K tg (Itl K a) [it] it (λi h=>h.IsListIter it a i) where
 mem:=by simp
 obj:=λi h st b hb=>by
  have e:b=it:=by simpa using hb
  subst e;obtain⟨o,e,c,d⟩:=st;exact⟨o,e,λv z=>by rw[d]at z;cases z⟩
 keep:=λi h h' st k=>st.at λo e=>k it (by simp) o e
 item:=by
  intro X hP hw hK hc i aZ s U H E I hf st hg;subst hP hw hK;obtain⟨xs,x,hq,hx⟩:=hg;obtain⟨aU,rv,p,hz⟩:=I.list hq;obtain⟨u,hu,ru⟩:=rv.get hx;obtain⟨f0,f1,f2,f3,f4,f5⟩:=hf it (by simp);refine wpAny_pyNext_list_item st p.isList (x:=u) (by simpa using hu) λh' st' sb=>?_;have I1:Inv X aZ U H {s with heap:=h'}:=I.turned (t':=s.toks) (λb o hb e=>(sb.2 b hb).trans e) f0 f1 f3 f4 f5;obtain⟨o,e,c,d⟩:=id st';exact⟨u,rfl,Vm (s:={s with heap:=h'}) e c d (by decide) ⟨x,H,I1,ru,⟨rfl,λys hy=>by rw[I.Ve hy hq];exact hx⟩,st',λb hb=>(hf b hb).1⟩⟩
 done:=by
  intro X hP hw hK hc i aZ s U H E I hf st hg;subst hP hw hK;obtain⟨xs,hq,hx⟩:=hg;obtain⟨aU,rv,p,hz⟩:=I.list hq;obtain⟨f0,f1,f2,f3,f4,f5⟩:=hf it (by simp);have hl:=rv.length;exact wpAny_pyNext_list_end (I.ok.hd hc) st p.isList (by simp;exact aiv (ajQ hl.symm) hx) λh' eb=>⟨rfl,I.turned (t':=s.toks) (λb o hb e=>eb b o hb e) f0 f1 f3 f4 f5⟩
 self:=λ_ _ _ _ _ st h=>wpAny_pyIter_listiter st h
theorem Ml {P:Program}{w:World}{K:PySem.W.Frag}{tg:Expr}(a it:Addr):Turn P w K tg (Itt K a) [it] it (λi h=>h.IsTupleIter it a i) where
 mem:=by simp
 obj:=λi h st b hb=>by
  have e:b=it:=by simpa using hb
  subst e;obtain⟨o,e,c,d⟩:=st;exact⟨o,e,λv z=>by rw[d]at z;cases z⟩
 keep:=λi h h' st k=>st.at λo e=>k it (by simp) o e
 item:=by
  intro X hP hw hK hc i aZ s U H E I hf st hg;subst hP hw hK;obtain⟨xs,x,hq,hx⟩:=hg;obtain⟨aU,rv,p,hz⟩:=I.tuple hq;obtain⟨u,hu,ru⟩:=rv.get hx;obtain⟨f0,f1,f2,f3,f4,f5⟩:=hf it (by simp);refine wpAny_pyNext_tuple_item st (show s.heap.IsTuple a aU.toArray from p) (x:=u) (by simpa using hu) λh' st' sb=>?_;have I1:Inv X aZ U H {s with heap:=h'}:=I.turned (t':=s.toks) (λb o hb e=>(sb.2 b hb).trans e) f0 f1 f3 f4 f5;obtain⟨o,e,c,d⟩:=id st';exact⟨u,rfl,Vm (s:={s with heap:=h'}) e c d (by decide) ⟨x,H,I1,ru,⟨rfl,λys hy=>by rw[I.Rx hy hq];exact hx⟩,st',λb hb=>(hf b hb).1⟩⟩
 done:=by
  intro X hP hw hK hc i aZ s U H E I hf st hg;subst hP hw hK;obtain⟨xs,hq,hx⟩:=hg;obtain⟨aU,rv,p,hz⟩:=I.tuple hq;obtain⟨f0,f1,f2,f3,f4,f5⟩:=hf it (by simp);have hl:=rv.length;exact wpAny_pyNext_tuple_end (I.ok.hd hc) st (show s.heap.IsTuple a aU.toArray from p) (by simp;exact aiv (ajQ hl.symm) hx) λh' eb=>⟨rfl,I.turned (t':=s.toks) (λb o hb e=>eb b o hb e) f0 f1 f3 f4 f5⟩
 self:=λ_ _ _ _ _ st h=>wpAny_pyIter_tupleiter st h
theorem Mp {P:Program}{w:World}{K:PySem.W.Frag}{tg:Expr}(it:Addr)(lo:Int)(n:Nat):Turn P w K tg (Itr lo n) [it] it (λi h=>IsRangeIter h it (lo+(i:Nat)*1) ((n:Int)-(i:Nat)) 1) where
 mem:=by simp
 obj:=λi h st b hb=>by
  have e:b=it:=by simpa using hb
  subst e;exact⟨_,st,λv z=>by
   have z':Data.fields _=Data.cell v:=z;cases z'⟩
 keep:=λi h h' st k=>k it (by simp) _ st
 item:=by
  intro X hP hw hK hc i aZ s U H E I hf st hg;subst hP hw hK;obtain⟨f0,f1,f2,f3,f4,f5⟩:=hf it (by simp);have W:=Walks.range (prog:=X.prog) (w:=X.w) (I.ok.hd hc) it lo 1 n;refine W.item i s _ _ hg st λv h' tk hv st' kk=>?_;obtain⟨t,rfl⟩:=hv;have I1:Inv X aZ U H {s with heap:=h',toks:=tk}:=I.turned (λb o hb e=>kk b o (by simpa using hb) e) f0 f1 f3 f4 f5;refine⟨_,rfl,Vm (s:={s with heap:=h',toks:=tk}) (n:="range_iterator") st' rfl rfl (by decide) ⟨.int (lo+i),H,I1,⟨t,?_⟩,⟨rfl,rfl⟩,st',λb hb=>(hf b hb).1⟩⟩;rw[Int.mul_one]
 done:=by
  intro X hP hw hK hc i aZ s U H E I hf st hg;subst hP hw hK;obtain⟨f0,f1,f2,f3,f4,f5⟩:=hf it (by simp);exact wpAny_pyNext_range_end (I.ok.hd hc) st (by have:n<=i:=hg;omega) λh' eb=>⟨rfl,I.turned (t':=s.toks) (λb o hb e=>eb b o hb e) f0 f1 f3 f4 f5⟩
 self:=λ_ _ _ _ _ st h=>wpAny_pyIter_rangeiter st h
section
variable {X:Cx}{tg:Expr}
inductive Vn (K:PySem.W.Frag)(R:It->Hp->Prop)(x:V)(H1:Hp):Prop where
 |mk (a):(x=.ref a)->((∃xs,dX K H1 a xs))->(R (Itl K a) H1)->Vn K R x H1
def Vo (K:PySem.W.Frag)(tl:TE):TI:=λU H R=>tl U H (Vn K R)
inductive abx (K:PySem.W.Frag)(R:It->Hp->Prop)(x:V)(H1:Hp):Prop where
 |mk (a):(x=.ref a)->((∃xs,dY K H1 a xs))->(R (Itt K a) H1)->abx K R x H1
def aex (K:PySem.W.Frag)(tl:TE):TI:=λU H R=>tl U H (abx K R)
theorem GX {l:Expr}{tl:TE}(hl:PE X l tl):PI X tg l (Vo X.K tl):=by
 intro aZ s U H R I h;refine eU (hl aZ s U H _ I h) λv s1 ⟨x,H1,I1,r1,q1⟩=>?_;obtain⟨a,e,⟨xs,hq⟩,q⟩:=q1;subst e;cases r1;obtain⟨aU,rv,p,hz⟩:=I1.list hq;refine wpAny_pyIter_list p.isList ?_;refine⟨s1.heap.objs.size,[s1.heap.objs.size],_,_,H1,rfl,I1.kept (t':=s1.toks) λb o e=>aiq _ e,Ep a _,⟨_,aiC _ rfl,rfl,rfl⟩,λb hb=>?_,q⟩;have e:b=s1.heap.objs.size:=by simpa using hb
 subst e;exact I1.Dy (aio _) (I1.hok.fresh (aio _))
theorem Af {l:Expr}{tl:TE}(hl:PE X l tl):PI X tg l (aex X.K tl):=by
 intro aZ s U H R I h;refine eU (hl aZ s U H _ I h) λv s1 ⟨x,H1,I1,r1,q1⟩=>?_;obtain⟨a,e,⟨xs,hq⟩,q⟩:=q1;subst e;cases r1;obtain⟨aU,rv,p,hz⟩:=I1.tuple hq;refine wpAny_pyIter_tuple (show s1.heap.IsTuple a aU.toArray from p) ?_;refine⟨s1.heap.objs.size,[s1.heap.objs.size],_,_,H1,rfl,I1.kept (t':=s1.toks) λb o e=>aiq _ e,Ml a _,⟨_,aiC _ rfl,rfl,rfl⟩,λb hb=>?_,q⟩;have e:b=s1.heap.objs.size:=by simpa using hb
 subst e;exact I1.Dy (aio _) (I1.hok.fresh (aio _))
theorem Vp {aZ:List (Addr×Obj)}{U:St}{H:Hp}{s:Shared}{R:It->Hp->Prop}{E:Value->Shared->Prop}{lo hi:Int}{t u v:Tok}{tk:Nat}(I:Inv X aZ U H s)(h1: -(2^62)<=lo)(h2:lo<2^62)(h3: -(2^62)<=hi)(h4:hi<2^62)
  (q:R (Itr lo (hi-lo).toNat) H):wpAny (model X.prog X.w) X.A (pyIter (.ref s.heap.objs.size)) (PIE X aZ U tg R) E {s with heap:=s.heap.push {cls:=.type "range",data:=.fields #[.int lo t, .int hi u, .int 1 v]},toks:=tk}:=by
 refine wpAny_pyIter_range (IsRange.new ..) (small_one h1 h2 h3 h4) ?_;have I1:Inv X aZ U H {s with heap:=s.heap.push {cls:=.type "range",data:=.fields #[.int lo t, .int hi u, .int 1 v]},toks:=tk}:=I.kept λb o e=>aiq _ e;refine⟨(s.heap.push {cls:=.type "range",data:=.fields #[.int lo t, .int hi u, .int 1 v]}).objs.size,[(s.heap.push {cls:=.type "range",data:=.fields #[.int lo t, .int hi u, .int 1 v]}).objs.size],_,_,H,rfl,
  I1.kept (t':=tk) λb o e=>aiq _ e,Mp _ lo (hi-lo).toNat,?_,λb hb=>?_,q⟩
 ·have e1:lo+((0:Nat):Int)*1=lo:=by simp
  have e2:(((hi-lo).toNat:Nat):Int)-((0:Nat):Int)=Builtin.Range.rangeSize lo hi 1:=by rw[rangeSize_one];split<;>omega
  show IsRangeIter _ _ (lo+((0:Nat):Int)*1) ((((hi-lo).toNat:Nat):Int)-((0:Nat):Int)) 1;rw[e1,e2];exact aiC _ rfl
 ·have e:b=(s.heap.push {cls:=.type "range",data:=.fields #[.int lo t, .int hi u, .int 1 v]}).objs.size:=by simpa using hb
  subst e;exact I1.Dy (aio _) (I1.hok.fresh (aio _))
inductive Vq (R:It->Hp->Prop)(vs:List V)(H1:Hp):Prop where
 |mk (j:Int):(vs=[.int j])->(-(2^62)<=j)->(j<2^62)->(R (Itr 0 j.toNat) H1)->Vq R vs H1
def aey (ta:TA):TI:=λU H R=>ta U H (Vq R)
theorem dw {a:Expr}{ta:TA}{p pos:Pos}(hg:Gl X "range")(hm:X.mg "range"=none)(ha:PA X [a] ta)(hs:starEach [a] X.env=[(false,eval a X.env)]:=by rfl):PI X tg (.Call (.Name "range" p) [a] [] pos) (aey ta):=by
 intro aZ s U H R I h;refine Call_ (wX I hg hm boot_range (PyProof.Rows.callWith_type1 (eU (ha pos aZ s U H _ I h) λus s1 ⟨vs,H1,I1,r1,q1⟩=>?_) hs rfl));obtain⟨j,e,q1,q2,q⟩:=q1;subst e;cases r1 with
 |cons r rr=>
  cases rr;obtain⟨t,rfl⟩:=r;exact call_range_1 (Vp I1 (by omega) (by omega) q1 q2 (by simpa using q))
def aez (wi:TI)(g:TG)(tb:TS):TS:=λD U H=>wi U H λJ H1=>∃W:Nat->Nat->St->Hp->Prop,(∃m,W 0 m U H1)/\∀i m U H,W i m U H->
 (J.stop i H/\D.nx U H)\/(J.go i H/\∃N:St->Hp->Prop,(∀U' H',N U' H'->∃m',m'<m/\W (i+1) m' U' H')/\∀x H',J.yld i H x H'->g x U H' λU2 H2=>tb (D.lp N) U2 H2)
def wY (fp:List Addr)(h:Heap):List (Addr×Obj):=fp.filterMap λb=>(h.get? b).map λo=>(b,o)
theorem lJ {fp:List Addr}{h:Heap}{b:Addr}{o:Obj}(hb:b∈fp)(e:h.get? b=some o):(b,o)∈wY fp h:=List.mem_filterMap.mpr ⟨b,hb,by rw[e];rfl⟩
theorem Rz {fp:List Addr}{h:Heap}{p:Addr×Obj}(hp:p∈wY fp h):p.1∈fp/\h.get? p.1=some p.2:=by
 obtain⟨b,hb,e⟩:=List.mem_filterMap.mp hp;cases q:h.get? b with
 |none=>rw[q]at e;cases e
 |some o=>
  rw[q]at e;have e':(b,o)=p:=Option.some.inj e;subst e';exact⟨hb,q⟩
theorem Inv.pinned {aZ:List (Addr×Obj)}{U:St}{H:Hp}{s:Shared}{fp:List Addr}(I:Inv X aZ U H s)(hf:∀b∈fp,Ae X aZ H b)(ho:∀b∈fp,∃o,s.heap.get? b=some o/\∀v,o.data≠.cell v):Inv X (aZ++wY fp s.heap) U H s :=
 I.zL λp hp=>(List.mem_append.mp hp).elim (λz=>I.pin p (ait _ z)) λz=>by
  obtain⟨hb,e⟩:=Rz z;obtain⟨f0,f1,f2,_⟩:=hf p.1 hb;obtain⟨o,e',d⟩:=ho p.1 hb;rw[e]at e';cases e';exact⟨e,f0,f1,f2,d⟩
theorem Inv.jo {aZ pl:List (Addr×Obj)}{U:St}{H:Hp}{s:Shared}(I:Inv X (aZ++pl) U H s):Inv X aZ U H s:=I.zL λp hp=>I.pin p (ait _ (aiY _ hp))
theorem jR {eX:Expr}{body:List Stmt}{wi:TI}{g:TG}{tb:TS}{pos:Pos}(hp:PassesOwn (model X.prog X.w) X.A X.env X.xe)(hc:X.calm=true)(hi:PI X tg eX wi)(hg:PG X tg g)(hb:yL X body tb)
  (hs:∀x,foldedSetIterable eX X.env x=pure x:=by intro _;rfl):PS X (.For tg eX body [] pos) (aez wi g tb):=by
 intro aZ s U H D I h;refine wpAny_For (eU (hi aZ s U H _ I h) λv s1 h1=>eU h1 λitv s2 h2=>?_) hs;obtain⟨it,fp,tn,J,H2,e,I2,T,st2,f2,W,⟨m0,w0⟩,turn⟩:=h2;subst e;have stat:∀{H':Hp},(∀b∈fp,H' b=none)->∀b∈fp,Ae X aZ H' b:=λhn b hb=>⟨hn b hb,(f2 b hb).2⟩;refine codeAny_forLoop_any (λn s'=>∃i U' H',Inv X aZ U' H' s'/\tn i s'.heap/\(∀b∈fp,H' b=none)/\W i n U' H') ?_ m0 ⟨0,U,H2,I2,st2,λb hb=>(f2 b hb).1,w0⟩;rintro n s3 ⟨i,U3,H3,I3,st3,fr3,w3⟩;rcases turn i n U3 H3 w3 with ⟨stop,qn⟩|⟨go,N,hN,step⟩
 ·refine wpAny_passesOwn hp (eU (T.done X rfl rfl rfl hc i aZ s3 U3 H3 X.xe I3 (stat fr3) st3 stop) λr s4 ⟨hr,I4⟩=>?_)
  subst hr;exact wpAny_execs_nil ⟨U3,H3,I4,qn⟩
 ·refine wpAny_passesOwn hp (eU (T.item X rfl rfl rfl hc i aZ s3 U3 H3 X.xe I3 (stat fr3) st3 go) λr s4 ⟨u,hr,h4⟩=>?_)
  subst hr;refine wpAny_passesOwn hp (eU h4 λ_ s5 ⟨x,H5,I5,r5,y5,Vr,fr5⟩=>?_);have I5':=I5.pinned (stat fr5) (T.obj _ _ Vr);refine wpAny_passesOwn hp (eU (hg _ s5 U3 H5 x u _ I5' r5 (step x H5 y5)) λ_ s6 ⟨U6,H6,I6,q6⟩=>?_);refine wpAny_passesOwn hp (eU (hb _ s6 U6 H6 _ I6 q6) λf s7 q7=>?_);have again:∀{U7:St} {H7:Hp},Inv X (aZ++wY fp s5.heap) U7 H7 s7->N U7 H7->∃m,m<n/\∃i U' H',Inv X aZ U' H' s7/\tn i s7.heap/\(∀b∈fp,H' b=none)/\W i m U' H':=λ{U7 H7} I7 n7=>by
   obtain⟨m',hm,w7⟩:=hN U7 H7 n7;refine⟨m',hm,i+1,U7,H7,I7.jo,T.keep _ _ _ Vr λb hb o e=>(I7.pin (b,o) (ait _ (ait _ (lJ hb e)))).1,λb hb=>?_,w7⟩;obtain⟨o,e,d⟩:=T.obj _ _ Vr b hb;exact(I7.pin (b,o) (ait _ (ait _ (lJ hb e)))).2.1
  cases f with
  |next=>obtain⟨U7,H7,I7,n7⟩:=q7;exact again I7 n7
  |cont=>obtain⟨U7,H7,I7,n7⟩:=q7;exact again I7 n7
  |brk=>obtain⟨U7,H7,I7,q7⟩:=q7;exact⟨U7,H7,I7.jo,q7⟩
  |ret v=>obtain⟨x7,U7,H7,I7,r7,q7⟩:=q7;exact⟨x7,U7,H7,I7.jo,r7,q7⟩
end
theorem Ag {K:PySem.W.Frag}{a:Addr}{xs:List V}{g:TG}{tb:TS}{D:Ends}{U:St}{H:Hp}(Pv:Nat->St->Hp->Prop)(h0:Pv 0 U H)(hl:∀i U H,i<=xs.length->Pv i U H->dX K H a xs)
  (hs:∀i x U H,xs[i]?=some x->Pv i U H->g x U H λU2 H2=>tb (D.lp (Pv (i+1))) U2 H2) (hd:∀U H,Pv xs.length U H->D.nx U H):
  ∃W:Nat->Nat->St->Hp->Prop,(∃m,W 0 m U H)/\∀i m U H,W i m U H->
   ((Itl K a).stop i H/\D.nx U H)\/((Itl K a).go i H/\∃N:St->Hp->Prop,(∀U' H',N U' H'->∃m',m'<m/\W (i+1) m' U' H')/\∀x H',(Itl K a).yld i H x H'->g x U H' λU2 H2=>tb (D.lp N) U2 H2):=by
 refine⟨λi m U H=>m=xs.length-i/\i<=xs.length/\Pv i U H,⟨xs.length,by simp,aiP _,h0⟩,?_⟩;rintro i m U H ⟨rfl,hi,p⟩;have q:=hl i U H hi p;by_cases vI:i<xs.length
 ·refine .inr ⟨⟨xs,xs[i],q,by simp[vI]⟩,Pv (i+1),λU' H' p'=>⟨xs.length-(i+1),by omega,rfl,vI,p'⟩,λx H' y=>?_⟩
  obtain⟨e,y⟩:=y;subst e;exact hs i x U _ (y xs q) p
 ·have e:i=xs.length:=by exact ajx hi (Nat.not_lt.mp vI)
  subst e;exact .inl ⟨⟨xs,q,aio _⟩,hd U H p⟩
theorem ZJ {K:PySem.W.Frag}{a:Addr}{xs:List V}{g:TG}{tb:TS}{D:Ends}{U:St}{H:Hp}(Pv:Nat->St->Hp->Prop)(h0:Pv 0 U H)(hl:∀i U H,i<=xs.length->Pv i U H->dY K H a xs)
  (hs:∀i x U H,xs[i]?=some x->Pv i U H->g x U H λU2 H2=>tb (D.lp (Pv (i+1))) U2 H2) (hd:∀U H,Pv xs.length U H->D.nx U H):
  ∃W:Nat->Nat->St->Hp->Prop,(∃m,W 0 m U H)/\∀i m U H,W i m U H->
   ((Itt K a).stop i H/\D.nx U H)\/((Itt K a).go i H/\∃N:St->Hp->Prop,(∀U' H',N U' H'->∃m',m'<m/\W (i+1) m' U' H')/\∀x H',(Itt K a).yld i H x H'->g x U H' λU2 H2=>tb (D.lp N) U2 H2):=by
 refine⟨λi m U H=>m=xs.length-i/\i<=xs.length/\Pv i U H,⟨xs.length,by simp,aiP _,h0⟩,?_⟩;rintro i m U H ⟨rfl,hi,p⟩;have q:=hl i U H hi p;by_cases vI:i<xs.length
 ·refine .inr ⟨⟨xs,xs[i],q,by simp[vI]⟩,Pv (i+1),λU' H' p'=>⟨xs.length-(i+1),by omega,rfl,vI,p'⟩,λx H' y=>?_⟩
  obtain⟨e,y⟩:=y;subst e;exact hs i x U _ (y xs q) p
 ·have e:i=xs.length:=by exact ajx hi (Nat.not_lt.mp vI)
  subst e;exact .inl ⟨⟨xs,q,aio _⟩,hd U H p⟩
theorem fW {lo:Int}{n:Nat}{g:TG}{tb:TS}{D:Ends}{U:St}{H:Hp}(Pv:Nat->St->Hp->Prop)(h0:Pv 0 U H)
  (hs:∀i U H,i<n->Pv i U H->g (.int (lo+i)) U H λU2 H2=>tb (D.lp (Pv (i+1))) U2 H2) (hd:∀U H,Pv n U H->D.nx U H):
  ∃W:Nat->Nat->St->Hp->Prop,(∃m,W 0 m U H)/\∀i m U H,W i m U H->
   ((Itr lo n).stop i H/\D.nx U H)\/((Itr lo n).go i H/\∃N:St->Hp->Prop,(∀U' H',N U' H'->∃m',m'<m/\W (i+1) m' U' H')/\∀x H',(Itr lo n).yld i H x H'->g x U H' λU2 H2=>tb (D.lp N) U2 H2):=by
 refine⟨λi m U H=>m=n-i/\i<=n/\Pv i U H,⟨n,by simp,aiP _,h0⟩,?_⟩;rintro i m U H ⟨rfl,hi,p⟩;by_cases vI:i<n
 ·refine .inr ⟨vI,Pv (i+1),λU' H' p'=>⟨n-(i+1),by omega,rfl,vI,p'⟩,λx H' y=>?_⟩
  obtain⟨e,y⟩:=y;subst e y;exact hs i U _ vI p
 ·have e:i=n:=by exact ajx hi (Nat.not_lt.mp vI)
  subst e;exact .inl ⟨aio _,hd U H p⟩
abbrev R2:=V->V->Hp->VK->Prop
def m8 (X:Cx)(f:Value->Value->Sem Value)(r:R2):Prop :=
 ∀(aZ:List (Addr×Obj)) (s:Shared) (U:St) (H:Hp) (x y:V) (v u:Value) (Q:VK),Inv X aZ U H s->RelV x v->RelV y u->r x y H Q->
  wpAny (model X.prog X.w) X.A (f v u) (EP X aZ U Q) X.xe s
def UnR (X:Cx)(f:Value->Sem Value)(r:V->Hp->VK->Prop):Prop :=
 ∀(aZ:List (Addr×Obj)) (s:Shared) (U:St) (H:Hp) (x:V) (v:Value) (Q:VK),Inv X aZ U H s->RelV x v->r x H Q->
  wpAny (model X.prog X.w) X.A (f v) (EP X aZ U Q) X.xe s
def jJ (X:Cx)(f:Value)(r:List V->Hp->VK->Prop):Prop :=
 ∀(aZ:List (Addr×Obj)) (s:Shared) (U:St) (H:Hp) (xs:List V) (us:List Value) (Q:VK),Inv X aZ U H s->Vals xs us->r xs H Q->
  wpAny (model X.prog X.w) X.A (call f us) (EP X aZ U Q) X.xe s
def vG (r:R2)(ta tb:TE):TE:=λU H Q=>ta U H λx H1=>tb U H1 λy H2=>r x y H2 Q
def tUn (r:V->Hp->VK->Prop)(ta:TE):TE:=λU H Q=>ta U H λx H1=>r x H1 Q
inductive rI_ (C:Int->Int->Prop)(g:Int->Int->V)(x:V)(y:V)(H:Hp)(Q:VK):Prop where
 |mk (i) (j):(x=.int i)->(y=.int j)->(C i j)->(Q (g i j) H)->rI_ C g x y H Q
def rI (C:Int->Int->Prop)(g:Int->Int->V):R2:=rI_ C g
inductive aeA (g:Int->Int->V)(x:V)(y:V)(H:Hp)(Q:VK):Prop where
 |mk (i) (j):(x=.int i)->(y=.int j)->(Q (g i j) H)->aeA g x y H Q
def UJ (g:Int->Int->V):R2:=aeA g
def rU (g:Int->V):V->Hp->VK->Prop:=λx H Q=>∃i,x=.int i/\Q (g i) H
section
variable {X:Cx}{a b c:Expr}{ta tb tc:TE}{pos:Pos}
theorem acq (ha:PE X a ta)(hb:PE X b tb){aZ:List (Addr×Obj)}{s:Shared}{U:St}{H:Hp}{R:V->V->Hp->Prop}(I:Inv X aZ U H s)
  (h:ta U H λx H1=>tb U H1 λy H2=>R x y H2) {Q:Value->Shared->Prop} {f:Value->Value->Sem Value}
  (hf:∀v u s2 x y H2,Inv X aZ U H2 s2->RelV x v->RelV y u->R x y H2->wpAny (model X.prog X.w) X.A (f v u) Q X.xe s2):
  wpAny (model X.prog X.w) X.A (eval a X.env) (λv fU=>wpAny (model X.prog X.w) X.A (eval b X.env) (λu s₂=>wpAny (model X.prog X.w) X.A (f v u) Q X.xe s₂) X.xe fU) X.xe s:=by
 refine eU (ha aZ s U H _ I h) λv s1 ⟨x,H1,I1,r1,q1⟩=>?_;refine eU (hb aZ s1 U H1 _ I1 q1) λu s2 ⟨y,H2,I2,r2,q2⟩=>?_;exact hf v u s2 x y H2 I2 r1 r2 q2
theorem bY {op:Operator}{r:R2}(ho:m8 X (binaryOp op) r)(ha:PE X a ta)(hb:PE X b tb):PE X (.BinOp a op b pos) (vG r ta tb):=by
 intro aZ s U H Q I h;exact wpAny_BinOp (acq ha hb I h λv u s2 x y H2 I2 rx ry q=>ho aZ s2 U H2 x y v u Q I2 rx ry q)
theorem pN {op:UnaryOp}{r:V->Hp->VK->Prop}(ho:UnR X (unaryOp op) r)(ha:PE X a ta):PE X (.UnaryOp op a pos) (tUn r ta):=by
 intro aZ s U H Q I h;exact UnaryOp_ (eU (ha aZ s U H _ I h) λv s1 ⟨x,H1,I1,r1,q1⟩=>ho aZ s1 U H1 x v Q I1 r1 q1)
theorem opI {f:Value->Value->Sem Value}{C:Int->Int->Prop}{g:Int->Int->Int}
  (rule:∀(i j:Int) (t u:Tok) (s:Shared) (Q:Value->Shared->Prop) (E:Value->Shared->Prop),C i j->Q (.int (g i j) s.toks) {s with toks:=s.toks+1}->wpAny (model X.prog X.w) X.A (f (.int i t) (.int j u)) Q E s):
  m8 X f (rI C λi j=>.int (g i j)):=by
 intro aZ s U H x y v u Q I rx ry h;obtain⟨i,j,rfl,rfl,hc,q⟩:=h;obtain⟨t,rfl⟩:=rx;obtain⟨t',rfl⟩:=ry;exact rule i j t t' s _ _ hc ⟨.int (g i j),H,I.tok _,⟨_,rfl⟩,q⟩
theorem aeB {f:Value->Value->Sem Value}{g:Int->Int->Int}
  (rule:∀(i j:Int) (t u:Tok) (s:Shared) (Q:Value->Shared->Prop) (E:Value->Shared->Prop),Q (.int (g i j) s.toks) {s with toks:=s.toks+1}->wpAny (model X.prog X.w) X.A (f (.int i t) (.int j u)) Q E s):
  m8 X f (UJ λi j=>.int (g i j)):=by
 intro aZ s U H x y v u Q I rx ry h;obtain⟨i,j,rfl,rfl,q⟩:=h;obtain⟨t,rfl⟩:=rx;obtain⟨t',rfl⟩:=ry;exact rule i j t t' s _ _ ⟨.int (g i j),H,I.tok _,⟨_,rfl⟩,q⟩
theorem ZK {f:Value->Value->Sem Value}{g:Int->Int->Bool}
  (rule:∀(i j:Int) (t u:Tok) (s:Shared) (Q:Value->Shared->Prop) (E:Value->Shared->Prop),Q (.bool (g i j)) s->wpAny (model X.prog X.w) X.A (f (.int i t) (.int j u)) Q E s):
  m8 X f (UJ λi j=>.bl (g i j)):=by
 intro aZ s U H x y v u Q I rx ry h;obtain⟨i,j,rfl,rfl,q⟩:=h;obtain⟨t,rfl⟩:=rx;obtain⟨t',rfl⟩:=ry;exact rule i j t t' s _ _ ⟨.bl (g i j),H,I,rfl,q⟩
def af3 (i j:Int):Prop:=0<j/\j<1073741824
def af4 (i j:Int):Prop:=0<=j/\j<=1000000/\i.natAbs<2^64
def acr (i j:Int):Prop:=(-(2^64)<i/\i<2^64)\/(-(2^64)<j/\j<2^64)
theorem acr.ok {i j:Int}(h:acr i j):IntMulOk i j:=by
 rcases h with ⟨h1,h2⟩|⟨h1,h2⟩
 ·exact .of_left (intBits_le_64 h1 h2)
 ·exact .of_right (intBits_le_64 h1 h2)
theorem gQ:m8 X (binaryOp .Add) (UJ λi j=>.int (i+j)):=aeB λ_ _ _ _ _ _ _ q=>add_int q
theorem pA:m8 X (binaryOp .Sub) (UJ λi j=>.int (i-j)):=aeB λ_ _ _ _ _ _ _ q=>sub_int q
theorem Mq:m8 X (binaryOp .Mult) (rI acr λi j=>.int (i*j)):=opI λ_ _ _ _ _ _ _ hc q=>mul_int q hc.ok
theorem GZ:m8 X (binaryOp .FloorDiv) (rI af3 λi j=>.int (i / j)):=opI λi j _ _ _ _ _ hc q=>by
 have h1:(0:Int)<j:=hc.1;have h2:j<1073741824:=hc.2;exact floordiv_int (by omega) (by rw[Int.fdiv_eq_ediv_of_nonneg i (by omega)];exact q) (.inl (PyProof.noPylong_small (by omega)))
theorem sE:m8 X (binaryOp .Mod) (rI (λ_ j=>0<j) λi j=>.int (i%j)):=opI λi j _ _ _ _ _ hc q=>by
 have h1:(0:Int)<j:=hc;exact mod_int' (by omega) (by rw[Int.fmod_eq_emod_of_nonneg i (by omega)];exact q)
theorem G5:m8 X (binaryOp .Pow) (rI af4 λi j=>.int (i^j.toNat)):=opI λ_ _ _ _ _ _ _ hc q=>pow_int_small hc.1 hc.2.1 hc.2.2 q
theorem unI {f:Value->Sem Value}{g:Int->Int}
  (rule:∀(i:Int) (t:Tok) (s:Shared) (Q:Value->Shared->Prop) (E:Value->Shared->Prop),Q (.int (g i) s.toks) {s with toks:=s.toks+1}->wpAny (model X.prog X.w) X.A (f (.int i t)) Q E s):
  UnR X f (rU λi=>.int (g i)):=by
 intro aZ s U H x v Q I rx h;obtain⟨i,rfl,q⟩:=h;obtain⟨t,rfl⟩:=rx;exact rule i t s _ _ ⟨.int (g i),H,I.tok _,⟨_,rfl⟩,q⟩
theorem lK:UnR X (unaryOp .USub) (rU λi=>.int (-i)):=unI λ_ _ _ _ _ q=>neg_int q
end
def aeC:V->V->Bool
 |.non, .non=>true|.non, .int _=>true|.int _, .non=>true|.non, .bl _=>true|.bl _, .non=>true|.non, .str _=>true|.str _, .non=>true
 |.int _, .int _=>true|.bl _, .bl _=>true|.str _, .str _=>true|.Va _, .Va _=>true
 |.int _, .str _=>true|.str _, .int _=>true|.bl _, .str _=>true|.str _, .bl _=>true
 |_,_=>false
inductive aeD (x:V)(y:V)(H:Hp)(Q:VK):Prop where
 |mk:(aeC x y=true)->(Q (.bl (decide (x=y))) H)->aeD x y H Q
def rEq:R2:=aeD
inductive aeE (x:V)(y:V)(H:Hp)(Q:VK):Prop where
 |mk:(aeC x y=true)->(Q (.bl (!decide (x=y))) H)->aeE x y H Q
def rNe:R2:=aeE
theorem zM {i j:Int}:decide (V.int i=V.int j)=(i==j):=by
 rw[ai1];simp
theorem Vs {i j:Bool}:decide (V.bl i=V.bl j)=(i==j):=by
 rw[ai1];simp
theorem G7 {i j:Str}:decide (V.str i=V.str j)=(i==j):=by
 rw[ai1];simp
theorem PB {i j:Array UInt8}:decide (V.Va i=V.Va j)=(i.toList==j.toList):=by
 rw[ai1];cases i;cases j;simp
section
variable {X:Cx}{a b c:Expr}{ta tb tc:TE}{pos:Pos}
theorem dH {aZ:List (Addr×Obj)}{U:St}{H:Hp}{s:Shared}{Q:VK}{k k':Bool}(I:Inv X aZ U H s)(q:Q (.bl k) H)(e:k=k'):EP X aZ U Q (.bool k') s:=by
 subst e;exact⟨.bl k,H,I,rfl,q⟩
theorem cN:m8 X (compareOp .Eq) rEq:=by
 intro aZ s U H x y v u Q I rx ry h;obtain⟨hs,q⟩:=h;cases x with
 |non=>
  cases rx;cases y with
  |non=>cases ry;exact PySem.EqNone.eq_none_none (dH I q (by simp))
  |bl j=>cases ry;exact PySem.EqNone.eq_none_bool (dH I q (by simp))
  |int j=>obtain⟨t',rfl⟩:=ry;exact PySem.EqNone.eq_none_int (dH I q (by simp))
  |str j=>obtain⟨t',rfl⟩:=ry;exact PySem.EqNone.eq_none_str (dH I q (by simp))
  |_=>exact absurd (show false=true from hs) aip
 |bl i=>
  cases rx;cases y with
  |non=>cases ry;exact PySem.EqNone.eq_bool_none (dH I q (by simp))
  |bl j=>cases ry;exact eq_bool (dH I q Vs)
  |str j=>obtain⟨t',rfl⟩:=ry;exact PySem.EqMixed.eq_bool_str (dH I q (by simp))
  |_=>exact absurd (show false=true from hs) aip
 |int i=>
  obtain⟨t,rfl⟩:=rx;cases y with
  |non=>cases ry;exact PySem.EqNone.eq_int_none (dH I q (by simp))
  |int j=>obtain⟨t',rfl⟩:=ry;exact eq_int (dH I q zM)
  |str j=>obtain⟨t',rfl⟩:=ry;exact PySem.EqMixed.eq_int_str (dH I q (by simp))
  |_=>exact absurd (show false=true from hs) aip
 |str i=>
  obtain⟨t,rfl⟩:=rx;cases y with
  |non=>cases ry;exact PySem.EqNone.eq_str_none (dH I q (by simp))
  |bl j=>cases ry;exact PySem.EqMixed.eq_str_bool (dH I q (by simp))
  |int j=>obtain⟨t',rfl⟩:=ry;exact PySem.EqMixed.eq_str_int (dH I q (by simp))
  |str j=>obtain⟨t',rfl⟩:=ry;exact eq_str (dH I q G7)
  |_=>exact absurd (show false=true from hs) aip
 |Va i=>
  obtain⟨t,rfl⟩:=rx;cases y with
  |Va j=>obtain⟨t',rfl⟩:=ry;exact PySem.W.eq_bytes (dH I q PB)
  |_=>exact absurd (show false=true from hs) aip
 |_=>cases y<;>exact absurd (show false=true from hs) aip
theorem PJ:m8 X (compareOp .NotEq) rNe:=by
 intro aZ s U H x y v u Q I rx ry h;obtain⟨hs,q⟩:=h;cases x with
 |non=>
  cases rx;cases y with
  |non=>cases ry;exact PySem.EqNone.ne_none_none (dH I q (by simp))
  |bl j=>cases ry;exact PySem.EqNone.ne_none_bool (dH I q (by simp))
  |int j=>obtain⟨t',rfl⟩:=ry;exact PySem.EqNone.ne_none_int (dH I q (by simp))
  |str j=>obtain⟨t',rfl⟩:=ry;exact PySem.EqNone.ne_none_str (dH I q (by simp))
  |_=>exact absurd (show false=true from hs) aip
 |bl i=>
  cases rx;cases y with
  |non=>cases ry;exact PySem.EqNone.ne_bool_none (dH I q (by simp))
  |bl j=>cases ry;exact ne_bool (dH I q (congrArg not Vs))
  |str j=>obtain⟨t',rfl⟩:=ry;exact PySem.EqMixed.ne_bool_str (dH I q (by simp))
  |_=>exact absurd (show false=true from hs) aip
 |int i=>
  obtain⟨t,rfl⟩:=rx;cases y with
  |non=>cases ry;exact PySem.EqNone.ne_int_none (dH I q (by simp))
  |int j=>obtain⟨t',rfl⟩:=ry;exact ne_int (dH I q (congrArg not zM))
  |str j=>obtain⟨t',rfl⟩:=ry;exact PySem.EqMixed.ne_int_str (dH I q (by simp))
  |_=>exact absurd (show false=true from hs) aip
 |str i=>
  obtain⟨t,rfl⟩:=rx;cases y with
  |non=>cases ry;exact PySem.EqNone.ne_str_none (dH I q (by simp))
  |bl j=>cases ry;exact PySem.EqMixed.ne_str_bool (dH I q (by simp))
  |int j=>obtain⟨t',rfl⟩:=ry;exact PySem.EqMixed.ne_str_int (dH I q (by simp))
  |str j=>obtain⟨t',rfl⟩:=ry;exact ne_str (dH I q (congrArg not G7))
  |_=>exact absurd (show false=true from hs) aip
 |Va i=>
  obtain⟨t,rfl⟩:=rx;cases y with
  |Va j=>obtain⟨t',rfl⟩:=ry;exact PySem.W.ne_bytes (dH I q (congrArg not PB))
  |_=>exact absurd (show false=true from hs) aip
 |_=>cases y<;>exact absurd (show false=true from hs) aip
theorem yM:m8 X (compareOp .Lt) (UJ λi j=>.bl (decide (i<j))):=ZK λ_ _ _ _ _ _ _ q=>lt_int q
theorem mY:m8 X (compareOp .LtE) (UJ λi j=>.bl (decide (i<=j))):=ZK λ_ _ _ _ _ _ _ q=>le_int q
theorem rP:m8 X (compareOp .Gt) (UJ λi j=>.bl (decide (j<i))):=ZK λ_ _ _ _ _ _ _ q=>gt_int q
theorem aeF:m8 X (compareOp .GtE) (UJ λi j=>.bl (decide (j<=i))):=ZK λ_ _ _ _ _ _ _ q=>ge_int q
theorem RB:m8 X (compareOp .In) (λx y H Q=>∃i j,x=.str i/\y=.str j/\Q (.bl (!(Builtin.Str.occurrences j i 0 j.length 1).isEmpty)) H):=by
 intro aZ s U H x y v u Q I rx ry h;obtain⟨i,j,rfl,rfl,q⟩:=h;obtain⟨t,rfl⟩:=rx;obtain⟨t',rfl⟩:=ry;exact in_str (dH I q rfl)
theorem acs:m8 X (compareOp .Is) (λx y H Q=>y=.non/\Q (.bl (decide (x=.non))) H):=by
 intro aZ s U H x y v u Q I rx ry h;obtain⟨rfl,q⟩:=h;cases ry;refine is_none_gen (dH I q ?_);cases x<;>first
  |(cases rx;rfl)
  |(obtain⟨t,rfl⟩:=rx;rfl)
theorem m8.or {f:Value->Value->Sem Value}{r r':R2}(h:m8 X f r)(h':m8 X f r'):m8 X f (λx y H Q=>r x y H Q\/r' x y H Q):=by
 intro aZ s U H x y v u Q I rx ry q;rcases q with q|q
 ·exact h aZ s U H x y v u Q I rx ry q
 ·exact h' aZ s U H x y v u Q I rx ry q
theorem bM (b:Expr){op:CmpOp}(h:op≠.In:=by decide)(h2:op≠.NotIn:=by decide):behindInMarks op b=false:=by
 have e1:(op==CmpOp.In)=false:=by cases op<;>first|rfl|exact absurd rfl h
 have e2:(op==CmpOp.NotIn)=false:=by cases op<;>first|rfl|exact absurd rfl h2
 cases b<;>simp[behindInMarks,e1,e2]
theorem dR {op:CmpOp}{r:R2}(ho:m8 X (compareOp op) r)(ha:PE X a ta)(hb:PE X b tb)(hm:behindInMarks op b=false:=by exact bM _):PE X (.Compare a [op] [b] pos) (vG r ta tb):=by
 intro aZ s U H Q I h;exact wpAny_Compare1 (acq ha hb I h λv u s2 x y H2 I2 rx ry q=>ho aZ s2 U H2 x y v u Q I2 rx ry q) hm
inductive Vt (Q:Bool->Hp->Prop)(x:V)(H':Hp):Prop where
 |mk (k):(x=.bl k)->(Q k H')->Vt Q x H'
def Er (t:TE):TT:=λU H Q=>t U H (Vt Q)
theorem bL {op:CmpOp}{r:R2}(ho:m8 X (compareOp op) r)(ha:PE X a ta)(hb:PE X b tb)(hm:behindInMarks op b=false:=by exact bM _):PT X (.Compare a [op] [b] pos) (Er (vG r ta tb)):=by
 intro aZ s U H Q I h;refine wpAny_isTrue_Compare1 (eU (ha aZ s U H _ I h) λv s1 ⟨x,H1,I1,r1,q1⟩=>eU (hb aZ s1 U H1 _ I1 q1) λu s2 ⟨y,H2,I2,r2,q2⟩=>
  eU (ho aZ s2 U H2 x y v u _ I2 r1 r2 q2) λc s3 ⟨z,H3,I3,r3,k,e,q3⟩=>?_) hm
 subst e;cases r3;exact wpAny_truthy_bool ⟨H3,I3,q3⟩
def Mr (r r':R2)(ta tb tc:TE):TE:=λU H Q=>ta U H λx H1=>tb U H1 λy H2=>r x y H2 λz H3=>∃k,z=.bl k/\
 (if k=true then tc U H3 λw' H4=>r' y w' H4 Q else Q (.bl false) H3)
theorem Ah {op op':CmpOp}{r r':R2}(ho:m8 X (compareOp op) r)(ho':m8 X (compareOp op') r')(ha:PE X a ta)(hb:PE X b tb)(hc:PE X c tc)
  (hm:lastMarks [op,op'] [b,c]=false:=by with_unfolding_all rfl):PE X (.Compare a [op,op'] [b,c] pos) (Mr r r' ta tb tc):=by
 intro aZ s U H Q I h;refine Compare_chain (eU (ha aZ s U H _ I h) λv s1 ⟨x,H1,I1,r1,q1⟩=>chain_link (eU (hb aZ s1 U H1 _ I1 q1) λu s2 ⟨y,H2,I2,r2,q2⟩=>
  eU (ho aZ s2 U H2 x y v u _ I2 r1 r2 q2) λd s3 ⟨z,H3,I3,r3,k,e,q3⟩=>?_)) hm
 subst e;cases r3;refine wpAny_truthy_bool ?_;cases k with
 |false=>exact ite_ff ⟨.bl false,H3,I3,rfl,q3⟩
 |true=>exact ite_tt (chain_last (eU (hc aZ s3 U H3 _ I3 q3) λw' s4 ⟨z',H4,I4,r4,q4⟩=>ho' aZ s4 U H4 y z' u w' Q I4 r2 r4 q4))
theorem sG {op op':CmpOp}{r r':R2}(ho:m8 X (compareOp op) r)(ho':m8 X (compareOp op') r')(ha:PE X a ta)(hb:PE X b tb)(hc:PE X c tc)
  (hm:lastMarks [op,op'] [b,c]=false:=by with_unfolding_all rfl):PT X (.Compare a [op,op'] [b,c] pos) (Er (Mr r r' ta tb tc)):=by
 intro aZ s U H Q I h;refine isTrue_chain (eU (ha aZ s U H _ I h) λv s1 ⟨x,H1,I1,r1,q1⟩=>test_link (eU (hb aZ s1 U H1 _ I1 q1) λu s2 ⟨y,H2,I2,r2,q2⟩=>
  eU (ho aZ s2 U H2 x y v u _ I2 r1 r2 q2) λd s3 ⟨z,H3,I3,r3,k,e,q3⟩=>?_)) hm
 subst e;cases r3;refine wpAny_truthy_bool ?_;cases k with
 |false=>
  obtain⟨k',e',q'⟩:=q3;cases e';exact ite_ff ⟨H3,I3,q'⟩
 |true=>
  refine ite_tt (test_last (eU (hc aZ s3 U H3 _ I3 q3) λw' s4 ⟨z',H4,I4,r4,q4⟩=>eU (ho' aZ s4 U H4 y z' u w' _ I4 r2 r4 q4) λd' s5 ⟨z2,H5,I5,r5,k2,e2,q5⟩=>?_));subst e2;cases r5;exact wpAny_truthy_bool ⟨H5,I5,q5⟩
theorem sH:(sizeLine:Nat)<2^63:=by rw[sizeLine_eq];decide
inductive vJ (x:V)(y:V)(H:Hp)(Q:VK):Prop where
 |mk (i) (j):(x=.str i)->(y=.str j)->(i.length+j.length<=sizeLine)->(Q (.str (i++j)) H)->vJ x y H Q
theorem jq:m8 X (binaryOp .Add) vJ:=by
 intro aZ s U H x y v u Q I rx ry h;obtain⟨i,j,rfl,rfl,hz,q⟩:=h;obtain⟨t,rfl⟩:=rx;obtain⟨t',rfl⟩:=ry;exact add_str (λt' tk=>⟨.str (i++j),H,I.tok _,⟨_,rfl⟩,q⟩) hz
theorem sI:m8 X (inplaceOp .Add) (λx y H Q=>∃i j,x=.str i/\y=.str j/\i.length+j.length<=sizeLine/\Q (.str (i++j)) H):=by
 intro aZ s U H x y v u Q I rx ry h;obtain⟨i,j,rfl,rfl,hz,q⟩:=h;obtain⟨t,rfl⟩:=rx;obtain⟨t',rfl⟩:=ry;exact iadd_str (λt' tk=>⟨.str (i++j),H,I.tok _,⟨_,rfl⟩,q⟩) hz
theorem vals1 {x:V}{us:List Value}(r:Vals [x] us):∃u,us=[u]/\RelV x u:=by
 cases r with
 |cons r1 r2=>cases r2;exact⟨_,rfl,r1⟩
theorem vals2 {x y:V}{us:List Value}(r:Vals [x,y] us):∃u w',us=[u,w']/\RelV x u/\RelV y w':=by
 cases r with
 |cons r1 r2=>
  cases r2 with
  |cons r3 r4=>cases r4;exact⟨_,_,rfl,r1,r3⟩
theorem Vu:jJ X (.builtin "abs") (λxs H Q=>∃i,xs=[.int i]/\Q (.int (if i<0 then -i else i)) H):=by
 intro aZ s U H xs us Q I r h;obtain⟨i,rfl,q⟩:=h;obtain⟨u,rfl,t,rfl⟩:=vals1 r;exact call_abs_int λu tk=>⟨.int (if i<0 then -i else i),H,I.tok _,⟨_,rfl⟩,q⟩
theorem pO:jJ X (.type "int") (λxs H Q=>(∃i,xs=[.int i]/\Q (.int i) H)\/∃k,xs=[.bl k]/\Q (.int (if k then 1 else 0)) H):=by
 intro aZ s U H xs us Q I r h;rcases h with ⟨i,rfl,q⟩|⟨k,rfl,q⟩
 ·obtain⟨u,rfl,t,rfl⟩:=vals1 r
  exact call_int_int ⟨.int i,H,I,⟨_,rfl⟩,q⟩
 ·obtain⟨u,rfl,r1⟩:=vals1 r
  cases r1;exact call_int_bool ⟨.int (if k then 1 else 0),H,I.tok _,⟨_,rfl⟩,q⟩
inductive sJ (xs:List V)(H:Hp)(Q:VK):Prop where
 |mk (i):(xs=[.int i])->(i.natAbs.log2<1920)->(Q (.str (toString i)) H)->sJ xs H Q
theorem G8:jJ X (.type "str") sJ:=by
 intro aZ s U H xs us Q I r h;obtain⟨i,rfl,hz,q⟩:=h;obtain⟨u,rfl,t,rfl⟩:=vals1 r;exact PySem.P.str_of_int hz ⟨.str _,H,I.tok _,⟨_,rfl⟩,q⟩
end
structure acu (h:Heap)(x dx C:Addr)(mA:Str->Option Value):Prop where
 obj:h.get? x=some (PySem.W.instObj C dx)
 ns:h.Ns1 dx mA
 ne:dx≠x
theorem RD {h:Heap}{dx:Addr}{mA:Str->Option Value}(n:h.Ns1 dx mA):∃od,h.get? dx=some od/\∀name,PySem.W.lookIn name od=some (mA name):=by
 obtain⟨o,es,ep,ho,hd,hk,_,hm⟩:=n;refine⟨o,ho,λname=>?_⟩;have e:=hm name;unfold nsFind findBy at e;rw[<-Array.find?_toList]at e;unfold PySem.W.lookIn;rw[hd];dsimp only;split
 ·rename_i y q
  rw[q]at e;exact congrArg some e
 ·rename_i q
  rw[q]at e;have a:es.toList.any (·.refKey)=false:=by
   rw[List.any_eq_false];intro y hy;obtain⟨z,t,hkey⟩:=hk y (Array.mem_toList_iff.mp hy);simp[DictEntry.refKey,hkey]
  have a':¬es.toList.any (·.refKey)=true:=by rw[a];exact aip
  rw[if_neg a'];exact congrArg some e
theorem acu.look {h:Heap}{x dx C:Addr}{mA:Str->Option Value}(I:acu h x dx C mA):∃od,PySem.W.InstAt h x (PySem.W.instObj C dx) C (some od)/\∀name,PySem.W.lookIn name od=some (mA name) :=
 let ⟨od,ho,hl⟩:=RD I.ns
 ⟨od,⟨I.obj,rfl,rfl,ho⟩,hl⟩
section
variable {prog:Program}{w:World}{A:Around}{E:Value->Shared->Prop}{s:Shared}{K:PySem.W.Frag}{x dx C f:Addr}{mA:Str->Option Value}{name:Str}{v:Value}
end
def aeG (f:Str)(v:V):List (Str×V)->List (Str×V)
 |[]=>[(f,v)]
 |(g,x)::r=>if g=f then(g,v)::r else(g,x)::aeG f v r
theorem wV.some_of {v:V}{o:Option Value}(r:wV (some v) o):∃u,o=some u/\RelV v u:=by
 cases o with
 |none=>exact(show False from r).elim
 |some u=>exact⟨u,rfl,r⟩
theorem wV.none_of {o:Option Value}(r:wV none o):o=none:=by
 cases o with
 |none=>rfl
 |some u=>exact(show False from r).elim
section
variable {P:Program}{w:World}{H H':Hp}{h h':Heap}{a C dx:Addr}{fs fs':List (Str×V)}
theorem ZL (hok:tZ P w H h)(e:H a=some (.ins C dx fs)):∃mA,acu h a dx C mA/\(∀f,wV (fs.lookup f) (mA f))/\PySem.Within mA (fs.map (·.1))/\fs.length<=1000/\H dx=some (.own a):=by
 obtain⟨d,z,ne,ob,mA,n,r,q⟩:=(show iM P w H h a (.ins C dx fs) from hok a _ e);exact⟨mA,⟨ob,n,ne⟩,r,q,z,d⟩
end
structure Cls (K:PySem.W.Frag)(C:Addr):Prop where
 pg:PySem.W.plainGet K C Str.empty=true
 hd:PySem.W.hasDictIn K C=true
 po:PySem.W.plainOver K C=true
 sa:PySem.W.findIn K (.ref C) "__setattr__"=some (some (.builtin "object.__setattr__"))
theorem Cls.get {K:PySem.W.Frag}{C:Addr}(c:Cls K C)(f:Str):PySem.W.plainGet K C f=true:=c.pg
def Vv (K:PySem.W.Frag)(C:Addr)(f:Str):Prop:=PySem.W.findIn K (.ref C) f=some none
section
variable {X:Cx}{aZ:List (Addr×Obj)}{U:St}{H:Hp}{s:Shared}{a C dx:Addr}{fs:List (Str×V)}{f:Str}{v:V}{A:Around}{E:Value->Shared->Prop}
end
inductive aeH (K:PySem.W.Frag)(f:Str)(Q:VK)(x:V)(H1:Hp):Prop where
 |mk (a) (C) (dx) (fs) (v):(x=.ref a)->(H1 a=some (.ins C dx fs))->(Cls K C)->(Vv K C f)->(fs.lookup f=some v)->(Q v H1)->aeH K f Q x H1
inductive aeI (K:PySem.W.Frag)(f:Str)(D:Ends)(U:St)(y:V)(x:V)(H2:Hp):Prop where
 |mk (a) (C) (dx) (fs):(x=.ref a)->(H2 a=some (.ins C dx fs))->(Cls K C)->(Vv K C f)->(fs.length<1000)->(D.nx U (upd H2 a (.ins C dx (aeG f y fs))))->aeI K f D U y x H2
section
variable {X:Cx}{o e value:Expr}{f:Str}{pos uR tpos:Pos}{ta tv:TE}
end
section
variable {X:Cx}{aZ:List (Addr×Obj)}{U:St}{H:Hp}{s:Shared}{A:Around}{E:Value->Shared->Prop}{Q:Value->Shared->Prop}{c:Value}{b:Bool}
inductive uT (K:PySem.W.Frag)(H:Hp):V->Value->Prop where
 |non:uT K H .non (.type "NoneType")
 |bl (x:Bool):uT K H (.bl x) (.type "bool")
 |int (i:Int):uT K H (.int i) (.type "int")
 |str (x:Str):uT K H (.str x) (.type "str")
 |flt (x:UInt64):uT K H (.flt x) (.type "float")
 |lst {a:Addr} {xs:List V} (e:H a=some (.lst xs)):uT K H (.ref a) (.type "list")
 |Mf {a:Addr} {o:Obj} {xs:List V} (e:H a=some (.Mf o (.lst xs))):uT K H (.ref a) (.type "list")
 |tup {a:Addr} {xs:List V} (e:H a=some (.tup xs)):uT K H (.ref a) (.type "tuple")
 |dK {a:Addr} {m7:List (Key×V)} (e:H a=some (.dK m7)):uT K H (.ref a) (.type "dict")
 |dT {a:Addr} {m7:List (List Key×V)} (e:H a=some (.dT m7)):uT K H (.ref a) (.type "dict")
 |ins {a C dx:Addr} {fs:List (Str×V)} (e:H a=some (.ins C dx fs)) (cl:Cls K C) (ha:PySem.W.findIn K (.ref C) "__class__"=some (some (.builtin "object.__class__")))
   (hn:PySem.W.specialIn K (.builtin "object.__class__") "__get__"=some (some (.builtin "getset_descriptor.__get__"))) (htk:PySem.W.takesIn K (.builtin "object.__class__")=some true)
   (hm:PySem.W.mroIn K C (.type "object")=some true):uT K H (.ref a) (.ref C)
theorem RG {x:V}{u t:Value}(I:Inv X aZ U H s)(rx:RelV x u)(ty:uT X.K H x t)(e:PySem.W.kitOne X.K t c=some b)(h:∀tk,Q (.bool b) {s with toks:=tk}):
  wpAny (model X.prog X.w) A (call (.builtin "isinstance") [u,c]) Q E s:=by
 cases ty with
 |non=>cases(show u=Value.none from rx);exact aiU PySem.W.kitx_none I.wR True.intro e (λz=>nomatch z) h
 |bl y=>cases(show u=Value.bool y from rx);exact aiU PySem.W.kitx_bool I.wR True.intro e (λz=>nomatch z) h
 |int i=>obtain⟨t,q⟩:=(show ∃t,u=Value.int i t from rx);cases q;exact aiU PySem.W.kitx_int I.wR True.intro e (λz=>nomatch z) h
 |str y=>obtain⟨t,q⟩:=(show ∃t,u=Value.str y t from rx);cases q;exact aiU PySem.W.kitx_str I.wR True.intro e (λz=>nomatch z) h
 |flt y=>obtain⟨t,q⟩:=(show ∃t,u=Value.float y t from rx);cases q;exact aiU PySem.W.kitx_float I.wR True.intro e (λz=>nomatch z) h
 |@lst a xs ea=>
  cases(show u=Value.ref a from rx);obtain⟨_,_,n,_,h1⟩:=(show iM X.prog X.w H s.heap a (.lst xs) from I.hok a _ ea);exact aiU PySem.W.kitx_list I.wR ⟨_,h1,rfl⟩ e (λz=>nomatch z) h
 |@Mf a ob xs ea=>
  cases(show u=Value.ref a from rx);obtain⟨_,_,_,n,_,h1⟩:=(show iM X.prog X.w H s.heap a (.Mf ob (.lst xs)) from I.hok a _ ea);exact aiU PySem.W.kitx_list I.wR ⟨_,h1,rfl⟩ e (λz=>nomatch z) h
 |@tup a xs ea=>
  cases(show u=Value.ref a from rx);obtain⟨_,_,_,p⟩:=(show iM X.prog X.w H s.heap a (.tup xs) from I.hok a _ ea);obtain⟨o,h1,h2,_⟩:=p;exact aiU PySem.W.kitx_tuple I.wR ⟨o,h1,h2⟩ e (λz=>nomatch z) h
 |@dK a m7 ea=>
  cases(show u=Value.ref a from rx);obtain⟨_,_,vs,_,p⟩:=(show iM X.prog X.w H s.heap a (.dK m7) from I.hok a _ ea);obtain⟨o,es,ep,h1,h2,_⟩:=p;exact aiU PySem.W.kitx_dict I.wR ⟨o,h1,h2.1⟩ e (λz=>nomatch z) h
 |@dT a m7 ea=>
  cases(show u=Value.ref a from rx);obtain⟨_,_,xs,_,o,es,ep,h1,h2,_⟩:=(show iM X.prog X.w H s.heap a (.dT m7) from I.hok a _ ea);exact aiU PySem.W.kitx_dict I.wR ⟨o,h1,h2.1⟩ e (λz=>nomatch z) h
 |@ins a C dx fs ea cl ha hn htk hm=>
  cases(show u=Value.ref a from rx);obtain⟨mA,O,_⟩:=ZL I.hok ea;obtain⟨od,J,_⟩:=O.look;exact aiU (PySem.W.kitx_own (cl.get _) cl.hd ha hn htk hm) I.wR J e (λz=>nomatch z) h
end
structure jL (k:Nat)(A:Around):Prop where
 hd:A.handled=none
 dp:A.depth+3*k+5<recursionLimit
 un:A.units+16*k+200<cLine
theorem jL.mono {j k:Nat}{A:Around}(r:jL k A)(h:j<=k):jL j A:=⟨r.hd,by have:=r.dp;omega,by have:=r.un;omega⟩
theorem jL.deeper {k:Nat}{A:Around}(r:jL (k+1) A)(env:Env):jL k (A.deeper env) :=
 ⟨r.hd,by have:=r.dp;show A.depth+1+3*k+5<_;omega,by have:=r.un;show A.units+3+16*k+200<_;omega⟩
theorem jL.depth {k:Nat}{A:Around}(r:jL k A):A.depth<recursionLimit:=by have:=r.dp;omega
theorem jL.uU {k:Nat}{A:Around}(r:jL k A):A.units<cLine:=by have:=r.un;omega
def kI:TA:=λ_ H Q=>Q [] H
def cV (ta:TE)(tr:TA):TA:=λU H Q=>ta U H λx H1=>tr U H1 λxs H2=>Q (x::xs) H2
section
variable {X:Cx}{e:Expr}{es:List Expr}{te:TE}{t:TA}{pos:Pos}
theorem aX:PA X [] kI:=λ_ _ _ _ H Q I h=>Calls.spliced_nil ⟨[],H,I, .nil,h⟩
theorem aW (ha:PE X e te)(hr:PA X es t)(hs:starEach (e::es) X.env=(false,eval e X.env)::starEach es X.env:=by rfl):PA X (e::es) (cV te t):=by
 intro pos aZ s U H Q I h;rw[hs];show wpAny _ _ (spliced ((false,eval e X.env)::backTo pos (starEach es X.env))) _ _ s;refine Calls.spliced_cons (eU (ha aZ s U H _ I h) λu s1 ⟨x,H1,I1,r1,q1⟩=>?_);exact eU (hr pos aZ s1 U H1 _ I1 q1) λus s2 ⟨xs,H2,I2,r2,q2⟩=>⟨x::xs,H2,I2, .cons r1 r2,q2⟩
inductive aby (Q:VK)(xs:List V)(H1:Hp):Prop where
 |mk:(xs.length<=sizeLine)->(∀p,H1 p=none->Q (.ref p) (upd H1 p (.tup xs)))->aby Q xs H1
def aeJ (t:TA):TE:=λU H Q=>t U H (aby Q)
inductive abz (Q:VK)(xs:List V)(H1:Hp):Prop where
 |mk:(xs.length<=sizeLine)->(∀p,H1 p=none->Q (.ref p) (upd H1 p (.lst xs)))->abz Q xs H1
def Vw (t:TA):TE:=λU H Q=>t U H (abz Q)
theorem cO {x1}(h:PA X es t):PE X (.Tuple es x1 pos) (aeJ t):=by
 intro aZ s U H Q I hq;refine wpAny_Tuple_spliced (eU (h pos aZ s U H _ I hq) λus s1 ⟨xs,H1,I1,r,z,q⟩=>⟨by rw[<-r.length];exact z,?_⟩);have hf:H1 s1.heap.objs.size=none:=I1.hok.fresh (aio _);refine⟨.ref s1.heap.objs.size,upd H1 s1.heap.objs.size (.tup xs),I1.laid (t':=s1.toks) (λb u e=>aiq _ e) (aio _) ?_,rfl,q _ hf⟩;exact⟨z,us,r,⟨_,aiC _ rfl,rfl,_,rfl⟩⟩
theorem dj (h:PA X es t):PE X (.List es pos) (Vw t):=by
 intro aZ s U H Q I hq;refine wpAny_List_spliced (eU (h pos aZ s U H _ I hq) λus s1 ⟨xs,H1,I1,r,z,q⟩=>⟨by rw[<-r.length];exact z,?_⟩);have hf:H1 s1.heap.objs.size=none:=I1.hok.fresh (aio _);refine⟨.ref s1.heap.objs.size,upd H1 s1.heap.objs.size (.lst xs),I1.laid (t':=s1.toks) (λb u e=>aiq _ e) (aio _) ?_,rfl,q _ hf⟩;exact⟨z,us,0,r,aiC _ rfl⟩
end
abbrev Sp:=List V->Hp->VK->XK->Prop
abbrev G9:=List Env->Hp->Shared->XK->Value->Shared->Prop
structure Vx (P:Program)(w:World)(K:PySem.W.Frag)(mg:Str->Option Value)(aN:Heap)(A:Around)(aM:List Env)(s:Shared)(H:Hp):Prop where
 frames:A.frames=some aM
 mod:Mod K mg aN
 bs:∀b o,aN.get? b=some o->s.heap.get? b=some o/\H b=none
 Rv:aN.objs.size<=s.heap.objs.size
 su:s.heap.FunFrames aN aM
 UG:∀b∈frs aM,H b=none
 hok:tZ P w H s.heap
 bare:AllBare s.gens
def CE (aM:List Env)(P:Program)(w:World)(H:Hp)(s:Shared)(Q:VK)(u:Value)(s':Shared):Prop :=
 ∃v H',s'.os=s.os/\AllBare s'.gens/\Un (frs aM) [] H H' s.heap s'.heap/\tZ P w H' s'.heap/\RelV v u/\Q v H'
def CR (CX:G9)(aM:List Env)(P:Program)(w:World)(H:Hp)(s:Shared)(Q:VK)(E:XK)(r:Result)(s':Shared):Prop :=
 match r with
 |.ok (.ret u)=>CE aM P w H s Q u s'
 |.ok _=>False
 |.error e=>CX aM H s E e s'
structure cj (P:Program)(w:World)(K:PySem.W.Frag)(mg:Str->Option Value)(aN:Heap)(CX:G9)(k:Nat)(f:Addr)(fd:FuncData)(ps:List Str)(sp:Sp):Prop where
 len:∀vs H Q E,sp vs H Q E->vs.length=ps.length
 run:∀(A:Around) (aM:List Env) (s:Shared) (H:Hp) (args:Args) (us:List Value) (vs:List V) (Q:VK) (E:XK),jL k A->Vx P w K mg aN A aM s H->BindsTo s fd args (ps.zip us)->Vals vs us->sp vs H Q E->
  codeAny (model P w) A (.call (.ref f) args) (CR CX aM P w H s Q E) s
theorem cj.mono {P:Program}{w:World}{K:PySem.W.Frag}{mg:Str->Option Value}{aN:Heap}{CX:G9}{j k:Nat}{f:Addr}{fd:FuncData}{ps:List Str}{sp:Sp}(F:cj P w K mg aN CX j f fd ps sp)(h:j<=k):
  cj P w K mg aN CX k f fd ps sp:=⟨F.len,λA aM s H args us vs Q E hr=>F.run A aM s H args us vs Q E (hr.mono h)⟩
section
variable {X:Cx}{aZ:List (Addr×Obj)}{U:St}{H:Hp}{s s':Shared}
theorem Inv.env0 (I:Inv X aZ U H s):Vx X.prog X.w X.K X.mg X.base X.A X.stack s H :=
 ⟨I.ok.frames,I.ok.mod,I.bs,aiv I.ok.Rv I.sz,I.stack,I.vH,I.hok,I.bare⟩
theorem Inv.after {Q:VK}{u:Value}(I:Inv X aZ U H s)(h:CE X.stack X.prog X.w H s Q u s'):EP X aZ U Q u s':=by
 obtain⟨v,H',os,bare,un,hok,r,q⟩:=h;obtain⟨hh,g,d,t,os'⟩:=s';obtain rfl:os'=s.os:=os;exact⟨v,H',I.call (h':=hh) (g':=g) (d':=d) (t':=t) (ch:=[]) un hok bare (λb z=>absurd z (by simp)),r,q⟩
end
def jh (sp:Sp)(Es:List V)(E:XK)(t:TA):TE:=λU H Q=>t U H λvs H1=>sp (vs++Es) H1 Q E
inductive acv (C:Addr)(m:Str)(sp:Sp)(Es:List V)(E:XK)(t:TA)(U:St)(Q:VK)(x:V)(H1:Hp):Prop where
 |mk (a) (dx) (fs):(x=.ref a)->(H1 a=some (.ins C dx fs))->(fs.lookup m=none)->(t U H1 λvs H2=>sp (x::(vs++Es)) H2 Q E)->acv C m sp Es E t U Q x H1
def Binds (K:PySem.W.Frag)(fd:FuncData)(ps:List Str)(ds:List Value):Prop :=
 ∀(s:Shared) (us:List Value),K.In s.heap->(us++ds).length=ps.length->BindsTo s fd ⟨us,[]⟩ (ps.zip (us++ds))
theorem Binds.all {K:PySem.W.Frag}{fd:FuncData}{ps:List Str}(h:∀us:List Value,us.length=ps.length->bindArgs fd ⟨us,[]⟩=pure (ps.zip us)):Binds K fd ps []:=λs us _ hl=>by
 rw[ai2]at hl ⊢;exact .of_eq (h us hl)
def Passes (CX:G9)(X:Cx)(E:XK):Prop:=∀(aZ:List (Addr×Obj)) (U:St) (H:Hp) (s:Shared) (e:Value) (s':Shared),Inv X aZ U H s->CX X.stack H s E e s'->X.xe e s'
section
variable {X:Cx}{CX:G9}{k:Nat}{f C:Addr}{fd:FuncData}{ps:List Str}{sp:Sp}{Es:List V}{ds:List Value}{E:XK}{x m:Str}{p pos pP:Pos}{e o:Expr}{es:List Expr}{ta:TE}{t:TA}
theorem Hg {aZ:List (Addr×Obj)}{U:St}{H:Hp}{s:Shared}{Q:VK}{us:List Value}{vs:List V}(F:cj X.prog X.w X.K X.mg X.base CX k f fd ps sp)(hr:jL k X.A)(hb:Binds X.K fd ps ds)(hd:Vals Es ds)(hx:Passes CX X E)
  (I:Inv X aZ U H s) (r:Vals vs us) (h:sp (vs++Es) H Q E):wpAny (model X.prog X.w) X.A (call (.ref f) us) (EP X aZ U Q) X.xe s:=by
 have r2:Vals (vs++Es) (us++ds):=r.append hd;have hl:(us++ds).length=ps.length:=by rw[<-r2.length];exact F.len _ _ _ _ h
 refine wpAny_call (codeAny_mono (F.run X.A X.stack s H ⟨us,[]⟩ (us++ds) (vs++Es) Q E hr I.env0 (hb s us I.wR hl) r2 h) λr s' hq=>?_);cases r with
 |error e=>exact hx aZ U H s e s' I hq
 |ok fl=>
  cases fl with
  |ret u=>exact I.after hq
  |next=>exact False.elim hq
  |brk=>exact False.elim hq
  |cont=>exact False.elim hq
theorem qG (F:cj X.prog X.w X.K X.mg X.base CX k f fd ps sp)(hr:jL k X.A)(hg:Gl X x)(hm:X.mg x=some (.ref f))(hk:PySem.W.keepIn X.K (.ref f)=true)(hb:Binds X.K fd ps ds)(hd:Vals Es ds)(hx:Passes CX X E)
  (ha:PA X (e::es) t) (hdb:(x==("__debug__":Str))=false:=by decide) (he:starEach (e::es) X.env=(false,eval e X.env)::starEach es X.env:=by rfl) (rW:(backTo pos (starEach es X.env)).any (·.1)=false:=by rfl):
  PE X (.Call (.Name x p) (e::es) [] pos) (jh sp Es E t):=by
 intro aZ s U H Q I h;refine wpAny_Call_Name_kw (qC I hg hm ?_ hdb);refine ajj (h₀:=X.base) I.ok.mod.Vc hk (eU (ha pos aZ s U H _ I h) λus s1 ⟨vs,H1,I1,r,q⟩=>⟨I1.wR,?_⟩) he rW;exact Hg F hr hb hd hx I1 r q
theorem Vy (F:cj X.prog X.w X.K X.mg X.base CX k f fd ps sp)(hr:jL k X.A)(hg:Gl X x)(hm:X.mg x=some (.ref f))(hk:PySem.W.keepIn X.K (.ref f)=true)(hb:Binds X.K fd ps ds)(hd:Vals Es ds)(hx:Passes CX X E)
  (hdb:(x==("__debug__":Str))=false:=by decide):PE X (.Call (.Name x p) [] [] pos) (jh sp Es E kI):=by
 intro aZ s U H Q I h;refine wpAny_Call_Name_kw (qC I hg hm ?_ hdb);exact PySem.W.callWith_K0 I.wR hk (Hg (us:=[]) F hr hb hd hx I .nil h)
end
section
variable {X:Cx}{CX:G9}{k:Nat}{f C:Addr}{fd:FuncData}{ps ks:List Str}{sp:Sp}{E:XK}{x m:Str}{p pos pP kpos:Pos}{e o:Expr}{es:List Expr}{kws:List Keyword}{te ta:TE}{t tk:TA}{nm:Option Str}
variable {g:List Value->List Value->List Value}{gV:List V->List V->List V}
end
structure bG (N P:List Str)(sc:Scope):Prop where
 kind:sc.kind=.function
 co:sc.isCoroutine=false
 gen:sc.isGenerator=false
 nd:N.Nodup
 pre:N.take P.length=P
 par:∀x∈P,sc.names.lookup x=some .local\/sc.names.lookup x=some .cell
 acw:∀y∈sc.names,y.2≠.free
theorem Et {kindOf:Str->Option NameKind}{x:Str}:∀{binds:List (Str×Value)} {m:Str->Option Value},(∀v,(x,v)∉binds)->bindL kindOf binds m x=m x
 |[],_,_=>rfl
 |(n,v)::r,m,h=>by
  unfold bindL;rw[Et λw hw=>h w (air _ hw)];split
  ·have:x≠n:=by rintro rfl;exact h v aiX
   simp[this]
  ·rfl
theorem Eu {kindOf:Str->Option NameKind}{x:Str}:∀{binds:List (Str×Value)} {m:Str->Option Value},(∀v,(x,v)∉binds)->bindC kindOf binds m x=m x
 |[],_,_=>rfl
 |(n,v)::r,m,h=>by
  unfold bindC;rw[Eu λw hw=>h w (air _ hw)];split
  ·rfl
  ·have:x≠n:=by rintro rfl;exact h v aiX
   simp[this]
theorem RJ {kindOf:Str->Option NameKind}{x:Str}{v:Value}{P:List Str}{vs:List Value}{i:Nat}{m:Str->Option Value}(nd:P.Nodup)(h1:P[i]?=some x)(h2:vs[i]?=some v)(hk:kindOf x=some .local):
  bindL kindOf (P.zip vs) m x=some v:=by
 induction P generalizing vs i m with
 |nil=>simp at h1
 |cons p P ih=>cases vs with
  |nil=>simp at h2
  |cons w vs=>
   show bindL kindOf ((p,w)::P.zip vs) m x=_;unfold bindL;cases i with
   |zero=>
    cases h1;cases h2;rw[Et λv hv=>(ajV.mp nd).1 (ajR hv).1,if_pos hk];simp
   |succ i=>exact ih (i:=i) (ajV.mp nd).2 h1 h2
theorem RK {kindOf:Str->Option NameKind}{x:Str}{v:Value}{P:List Str}{vs:List Value}{i:Nat}{m:Str->Option Value}(nd:P.Nodup)(h1:P[i]?=some x)(h2:vs[i]?=some v)(hk:kindOf x≠some .local):
  bindC kindOf (P.zip vs) m x=some v:=by
 induction P generalizing vs i m with
 |nil=>simp at h1
 |cons p P ih=>cases vs with
  |nil=>simp at h2
  |cons w vs=>
   show bindC kindOf ((p,w)::P.zip vs) m x=_;unfold bindC;cases i with
   |zero=>
    cases h1;cases h2;rw[Eu λv hv=>(ajV.mp nd).1 (ajR hv).1,if_neg hk];simp
   |succ i=>exact ih (i:=i) (ajV.mp nd).2 h1 h2
def start (N:List Str)(vs:List V):St:=vs.map some++List.replicate (N.length-vs.length) none
def j7 (CX:G9)(P:Program)(w:World)(K:PySem.W.Frag)(mg:Str->Option Value)(aN:Heap)(N:List Str)(aR:Str)(aQ:Scope)(f:Addr)(cd:Value)(A:Around)(aM:List Env)(s:Shared)(H:Hp)(E:XK):Cx where
 prog:=P
 w:=w
 K:=K
 mg:=mg
 base:=aN
 A:=A.deeper (envOfC aR aQ s.heap.objs.size f cd)
 N:=N
 s₀:=s
 H₀:=H
 env:=envOfC aR aQ s.heap.objs.size f cd
 outer:=aM
 stack:=envOfC aR aQ s.heap.objs.size f cd::aM
 ex:=[]
 calm:=true
 fn:=λ_=>true
 pn:=[]
 xe:=λe s'=>wpAny (model P w) (A.deeper (envOfC aR aQ s.heap.objs.size f cd)) (leaving (envOfC aR aQ s.heap.objs.size f cd) e) (λ_ s''=>CX aM H s E e s'') (λe' s''=>CX aM H s E e' s'') s'
theorem JK {sc:Scope}{n:Nat}{x:Str}(h:sc.names.lookup x=some .cell):∃c,(cellsFrom n sc.names []).lookup x=some c:=by
 have q:=ajD sc.names n [] (.inl h);exact Option.isSome_iff_exists.mp q
theorem Ew {CX:G9}{P:Program}{w:World}{K:PySem.W.Frag}{mg:Str->Option Value}{aN:Heap}{N ps:List Str}{aR:Str}{aQ:Scope}{f:Addr}{cd:Value}{A:Around}{aM:List Env}{s s1:Shared}{H:Hp}{E:XK}{us:List Value}{vs:List V}
  (S:bG N ps aQ) (hd:A.handled=none) (e0:Vx P w K mg aN A aM s H) (hl:vs.length=ps.length) (r:Vals vs us)
  (x:InCallC s s.heap.objs.size (bindL (envOfC aR aQ s.heap.objs.size f cd).kindOf (ps.zip us) λ_=>none) (cellsFrom (s.heap.objs.size+1) aQ.names []) (bindC (envOfC aR aQ s.heap.objs.size f cd).kindOf (ps.zip us) λ_=>none) s1):
  Inv (j7 CX P w K mg aN N aR aQ f cd A aM s H E) [] (start N vs) H s1:=by
 have rW:ps.length<=N.length:=by have:=congrArg List.length S.pre;rw[aiW]at this;omega
 obtain⟨h1,tk,rfl,hk⟩:=x.done;have noA:∀b:Addr,b∉(j7 CX P w K mg aN N aR aQ f cd A aM s H E).ex:=λb z=>absurd (show b∈([]:List Addr) from z) (by simp);refine⟨⟨e0.mod,S.kind,rfl,rfl,aio _,λy z c h1 h2=>?_,λy hy=>?_,λy c _ h=>?_,λ_=>hd,Around.frames_deeper e0.frames, .inr ⟨rfl,rfl⟩,λb z=>absurd z (noA b),e0.bs,e0.Rv,λb _ _=>noA b,λb z=>absurd z (noA b),e0.su,e0.UG⟩,
  rfl,e0.bare,Un.kept hk,⟨_,x.toInCall.ns,λi y v h1 h2 h3=>?_⟩,λy c h=>⟨_,x.cell y c h⟩,e0.hok.fresh (aio _),λy c h=>?_,λp hp=>absurd (show p∈([]:List (Addr×Obj)) from hp) (by simp),e0.hok.kept hk,?_⟩
 ·exact name_of_addr x.apart (PySem.mem_of_lookup h1) (PySem.mem_of_lookup h2)
 ·have hy:aQ.names.lookup y=some .cell\/aQ.names.lookup y=some .free:=hy
  rcases hy with hy|hy
  ·exact JK hy
  ·exact absurd rfl (S.acw _ (PySem.mem_of_lookup hy))
 ·exact ajN (x.above y c (PySem.mem_of_lookup h))
 ·have hi:i<vs.length:=by
   unfold start at h2;by_cases hi:i<vs.length
   ·exact hi
   ·rw[ajt (by simpa using hi)]at h2
    rw[akc]at h2;split at h2<;>cases h2
  have ha:vs[i]?=some v:=by
   unfold start at h2;rw[aj6 (by simpa using hi),ai6]at h2;cases e:vs[i]? with
   |none=>rw[e]at h2;cases h2
   |some a=>rw[e]at h2;cases h2;rfl
  obtain⟨u,hu,rv⟩:=r.get ha;have hp:ps[i]?=some y:=by
   rw[<-S.pre,List.getElem?_take_of_lt (by exact Nat.lt_of_lt_of_eq hi hl)];exact h1
  have ndP:ps.Nodup:=by rw[<-S.pre];exact S.nd.sublist (List.take_sublist _ _)
  refine⟨u,rv,?_⟩;rcases S.par y (aiS hp) with k|k
  ·exact .inl ⟨k,RJ ndP hp hu k⟩
  ·obtain⟨c,e⟩:=JK (n:=s.heap.objs.size+1) k
   refine .inr ⟨.inl k,c,e,?_⟩;have q:=x.cell y c e;rw[RK ndP hp hu (by show aQ.names.lookup y≠_;rw[k];decide)]at q;exact q
 ·exact e0.hok.fresh (ajN (x.above y c (PySem.mem_of_lookup h)))
 ·unfold start
  show _=N.length;rw[aiG,aix,ajc];omega
theorem abA {CX:G9}{P:Program}{w:World}{K:PySem.W.Frag}{mg:Str->Option Value}{aN:Heap}{k:Nat}{f:Addr}{name aR:Str}{params:Arguments}{body:List Stmt}{aQ:Scope}{dV kV vK pm cX ct oc:Value}{an od:Option Addr}
  {osl:Array (Option Value)} {N ps:List Str} {sp:Sp} (lk:K.lookup f=some ⟨oc,od, .func (PySem.W.fnOf name aR params body aQ dV kV vK pm an cX ct),osl⟩) (Du:PySem.W.codeIn K cX aR=true) (S:bG N ps aQ)
  (len:∀vs H Q E,sp vs H Q E->vs.length=ps.length)
  (hbody:∀(A:Around) (aM:List Env) (s:Shared) (H:Hp) (vs:List V) (Q:VK) (E:XK),jL k (A.deeper (envOfC aR aQ s.heap.objs.size f cX))->sp vs H Q E->
   ∃t,yL (j7 CX P w K mg aN N aR aQ f cX A aM s H E) body t/\t (Ends.of Q) (start N vs) H):
  cj P w K mg aN CX (k+1) f (PySem.W.fnOf name aR params body aQ dV kV vK pm an cX ct) ps sp:=by
 refine⟨len,λA aM s H args us vs Q E hr e0 hb r hsp=>?_⟩;have hl:=len _ _ _ _ hsp;have KX:K.In s.heap:=e0.mod.Vc.keeps λb o e=>(e0.bs b o e).1;have lim:s.heap.NoLimit:=e0.mod.nolimit.keeps λb o e=>(e0.bs b o e).1;have hkind:∀y∈ps.zip us,aQ.names.lookup y.1=some .local\/(aQ.names.lookup y.1=some .cell/\((cellsFrom (s.heap.objs.size+1) aQ.names []).lookup y.1).isSome=true):=λ⟨n,v⟩ hy=>by
  rcases S.par n (ajR hy).1 with q|q
  ·exact .inl q
  ·exact .inr ⟨q,ajD _ _ _ (.inl q)⟩
 refine codeAny_call_function hr.depth (KX _ _ lk) rfl S.co S.gen rfl (PySem.W.codeRec_of KX Du) (hb _ _ _ _ ?_);refine wpAny_newFunctionEnv_cells S.kind hkind λenv he s1 x=>?_;subst he;refine⟨lim.keeps x.toInCall.keep,codeAny_func ?_⟩;obtain⟨t,ht,hq⟩:=hbody A aM s H vs Q E (hr.deeper _) hsp;have I:Inv (j7 CX P w K mg aN N aR aQ f cX A aM s H E) [] (start N vs) H s1:=Ew S hr.hd e0 hl r x;refine wpAny_mono (ht [] s1 (start N vs) H _ I hq) (λfl s' hs=>?_) λe s' hs=>hs;have fin:∀{U':St} {H':Hp} {v:V} {u:Value},Inv (j7 CX P w K mg aN N aR aQ f cX A aM s H E) [] U' H' s'->RelV v u->Q v H'->CE aM P w H s Q u s' :=
  λ{U' H' v u} J rv q=>⟨v,H',J.os,J.bare,J.base,J.hok,rv,q⟩
 cases fl with
 |ret u=>
  obtain⟨v,U',H',J,rv,q⟩:=hs;exact fin J rv q
 |next=>
  obtain⟨U',H',J,q⟩:=hs;exact fin (v:=V.non) (u:=Value.none) J rfl q
 |brk=>
  obtain⟨_,_,_,q⟩:=hs;exact False.elim q
 |cont=>
  obtain⟨_,_,_,q⟩:=hs;exact False.elim q
section
variable {X:Cx}{x:Str}{p pos:Pos}{e:Expr}{es:List Expr}{t:TA}{id T:String}{r:List V->Hp->VK->Prop}
def ZM (r:List V->Hp->VK->Prop)(t:TA):TE:=λU H Q=>t U H λvs H1=>r vs H1 Q
theorem bH (hc:jJ X (.builtin id) r)(hg:Gl X x)(hm:X.mg x=none)(hv:bootBuiltins x=some (.builtin id))(ha:PA X (e::es) t)(hn:x≠"__name__":=by decide)(hdb:(x==("__debug__":Str))=false:=by decide)
  (he:starEach (e::es) X.env=(false,eval e X.env)::starEach es X.env:=by rfl) (rW:(backTo pos (starEach es X.env)).any (·.1)=false:=by rfl):PE X (.Call (.Name x p) (e::es) [] pos) (ZM r t):=by
 intro aZ s U H Q I h;refine wpAny_Call_Name_kw (wX I hg hm hv ?_ hn hdb);exact PyProof.Rows.callWith_builtin1 (eU (ha pos aZ s U H _ I h) λus s1 ⟨vs,H1,I1,r1,q1⟩=>hc aZ s1 U H1 vs us Q I1 r1 q1) he rW
theorem cC (hc:jJ X (.type T) r)(hg:Gl X x)(hm:X.mg x=none)(hv:bootBuiltins x=some (.type T))(ha:PA X (e::es) t)(hn:x≠"__name__":=by decide)(hdb:(x==("__debug__":Str))=false:=by decide)
  (he:starEach (e::es) X.env=(false,eval e X.env)::starEach es X.env:=by rfl) (rW:(backTo pos (starEach es X.env)).any (·.1)=false:=by rfl):PE X (.Call (.Name x p) (e::es) [] pos) (ZM r t):=by
 intro aZ s U H Q I h;refine wpAny_Call_Name_kw (wX I hg hm hv ?_ hn hdb);exact PyProof.Rows.callWith_type1 (eU (ha pos aZ s U H _ I h) λus s1 ⟨vs,H1,I1,r1,q1⟩=>hc aZ s1 U H1 vs us Q I1 r1 q1) he rW
end
end L2
namespace HT
open PySem PyProof.Rows
section
open PySem.SeqAt
open PySem.AutoSeq1 (wpAny_loadPart')
open PySem.MeetsSeq PySem.MeetsSeq2 PySem.MeetsSeq3
end
section
variable {prog:Program}{w:World}{A:Around}{E:Value->Shared->Prop}{s:Shared}
theorem ZP {t b:Addr}{vs ws:List Value}{Q:Value->Shared->Prop}(ht:IsTup s.heap t vs.toArray)(hb:IsTup s.heap b ws.toArray)(hv:vs≠[])
  (h1:ws=[]->Q (.ref t) s) (h2:ws≠[]->Q (.ref s.heap.objs.size) {s with heap:=s.heap.push {cls:=.type "tuple",data:=.seq (vs++ws).toArray}})
  (hsz:vs.length+ws.length<=sizeLine):wpAny (model prog w) A (binaryOp .Add (.ref t) (.ref b)) Q E s:=by
 obtain⟨⟨cls,dd,data,sl⟩,ho,hc,n,hd⟩:=id ht;obtain⟨⟨cls2,dd2,data2,sl2⟩,ho2,hc2,n2,hd2⟩:=id hb;simp only at hc hd hc2 hd2;subst hc hd hc2 hd2;have e:vs.toArray++ws.toArray=(vs++ws).toArray:=by simp
 by_cases hw:ws=[]
 ·exact concat_meets ⟨_,ho,rfl⟩ ⟨_,ho2,rfl⟩ noFill_tuple_add seq_tuple_add ajE ajB (ajy _ _)
   (tuple_addW1 t b vs.toArray ws.toArray n n2 dd dd2 sl sl2 (by simpa using hv) (by simp[hw])) ⟨ho,ho2,h1 hw⟩
 ·refine concat_meets ⟨_,ho,rfl⟩ ⟨_,ho2,rfl⟩ noFill_tuple_add seq_tuple_add ajE ajB (ajy _ _)
   (tuple_addW2 t b vs.toArray ws.toArray n n2 dd dd2 sl sl2 (by simpa using hv) (by simpa using hw) (by rw[ais,ais];exact hsz)) ⟨ho,ho2,?_⟩
  rw[e];exact h2 hw
def fD (n d:Nat):Option Int->Nat
 |none=>d
 |some v=>if v<0 then(v+(n:Int)).toNat else min v.toNat n
theorem Ai (n d:Nat):fD n d none=d:=rfl
theorem zN (n d k:Nat):fD n d (some (k:Int))=min k n:=by
 show(if(k:Int)<0 then((k:Int)+(n:Int)).toNat else min (k:Int).toNat n)=min k n;rw[if_neg (by omega),aj4]
theorem acy (n d:Nat)(hd:d<=n)(o:Option Int):fD n d o<=n:=by
 cases o with
 |none=>exact hd
 |some v=>
  show(if v<0 then(v+(n:Int)).toNat else min v.toNat n)<=n;by_cases hv:v<0
  ·rw[if_pos hv];omega
  ·rw[if_neg hv];exact Nat.min_le_right _ _
theorem PK (v:Int)(n d:Nat):(if v<0 then max (v+(n:Int)) 0 else min v (n:Int))=((fD n d (some v):Nat):Int):=by
 show(if v<0 then max (v+(n:Int)) 0 else min v (n:Int))=(((if v<0 then(v+(n:Int)).toNat else min v.toNat n):Nat):Int);by_cases hv:v<0
 ·simp only[if_pos hv];omega
 ·simp only[if_neg hv];omega
theorem Ms (lo hi:Option Int)(n:Nat):Builtin.Slice.sliceAdjust lo hi 1 (n:Int)=(((fD n 0 lo:Nat):Int),((fD n n hi:Nat):Int)):=by
 have h1:¬((1:Int)<0):=by omega
 unfold Builtin.Slice.sliceAdjust;simp only[h1,if_false];refine Prod.ext ?_ ?_
 ·cases lo with
  |none=>rfl
  |some v=>exact PK v n 0
 ·cases hi with
  |none=>rfl
  |some v=>exact PK v n n
theorem Mt (i j:Nat):Builtin.Slice.slicePlaces (i:Int) (j:Int) 1=j-i:=by
 unfold Builtin.Slice.slicePlaces;have h1:(1:Int)>0:=by omega
 simp only[h1,if_true,Int.ediv_one];split<;>omega
theorem Aj {v:Value}{o:Option Int}{Q:Option Int->Shared->Prop}(p:IsPart v o)(h:Q o s):wpAny (model prog w) A (Builtin.Slice.slicePartIndex v) Q E s:=by
 cases p with
 |none=>exact slicePart_none h
 |int i t=>exact slicePart_int h
theorem pQ {sl:Addr}{vl vu:Value}{lo hi:Option Int}{n:Nat}{Q:Int×Int×Nat->Shared->Prop}(hs:s.heap.IsSliceOf sl vl vu .none)(pl:IsPart vl lo)(pu:IsPart vu hi)
  (h:Q (((fD n 0 lo:Nat):Int),1,fD n n hi-fD n 0 lo) s):wpAny (model prog w) A (Builtin.Slice.sliceApplied (.ref sl) (pure (n:Int))) Q E s:=by
 obtain⟨os,hos,hcs,hds⟩:=id hs;unfold Builtin.Slice.sliceApplied Builtin.Slice.sliceFields;refine wpAny_bind (wpAny_bind (wpAny_field hos hds (x:=vl) rfl (wpAny_bind (wpAny_field hos hds (x:=vu) rfl (wpAny_bind (wpAny_field hos hds (x:=.none) rfl (wpAny_pure ?_)))))));refine wpAny_bind (slicePart_none ?_);show wpAny _ _ (if((1:Int)==0)=true then _ else _) _ _ s;rw[if_neg (by decide)];refine wpAny_bind (Aj pl (wpAny_bind (Aj pu (wpAny_bind (wpAny_pure ?_)))));show wpAny _ _ (match Builtin.Slice.sliceAdjust lo hi 1 (n:Int) with|(lo,hi)=>pure (lo,(1:Int),Builtin.Slice.slicePlaces lo hi 1)) _ _ s;rw[Ms lo hi n];show wpAny _ _ (pure (((fD n 0 lo:Nat):Int),(1:Int),Builtin.Slice.slicePlaces ((fD n 0 lo:Nat):Int) ((fD n n hi:Nat):Int) 1)) _ _ s;rw[Mt];exact wpAny_pure h
theorem Vz (xs:Array Value)(i k:Nat):((List.range k).filterMap λ(m:Nat)=>xs[((i:Int)+(m:Int)*1).toNat]?).toArray=((xs.toList.drop i).take k).toArray:=by
 have e:(λ(m:Nat)=>xs[((i:Int)+(m:Int)*1).toNat]?)=λm=>xs[i+m]?:=by
  funext m;have:((i:Int)+(m:Int)*1).toNat=i+m:=by omega
  rw[this]
 rw[e];have:=pick_run xs i k;rw[List.filterMap_map]at this;have e2:((λx=>xs[x]?)∘λx=>i+x)=λm=>xs[i+m]?:=rfl;rw[e2]at this;rw[this]
theorem vL {t sl:Addr}{items:Array Value}{vl vu:Value}{lo hi:Option Int}{Q:Value->Shared->Prop}(ht:IsTup s.heap t items)(hs:s.heap.IsSliceOf sl vl vu .none)(pl:IsPart vl lo)(pu:IsPart vu hi)
  (hw:¬(fD items.size 0 lo=0/\fD items.size items.size hi=items.size))
  (h:Q (.ref s.heap.objs.size) {s with heap:=s.heap.push {cls:=.type "tuple",data:=.seq ((items.toList.drop (fD items.size 0 lo)).take (fD items.size items.size hi-fD items.size 0 lo)).toArray}})
  (hsz:items.size<=sizeLine):wpAny (model prog w) A (getItem (.ref t) (.ref sl)) Q E s:=by
 have PL:sizeOk (.seq ((items.toList.drop (fD items.size 0 lo)).take (fD items.size items.size hi-fD items.size 0 lo)).toArray):=by
  show((items.toList.drop (fD items.size 0 lo)).take (fD items.size items.size hi-fD items.size 0 lo)).toArray.size<=sizeLine;rw[ais,aiW,ai5,aju];omega
 have hj:fD items.size items.size hi<=items.size:=acy _ _ (aio _) hi;obtain⟨os,hos,hcs,hds⟩:=id hs;have hTs:s.TypeIs (.ref sl) "slice":=⟨os,hos,hcs⟩;unfold getItem
 try with_reducible refine wpAny_holding ?_
 first|refine wpAny_bind (wpAny_pure ?_)|skip
 refine wpAny_bind (wpAny_sequenceKey ht.typeIs (by decide) ?_);refine wpAny_bind (wpAny_callSpecial?_slot (name:=Str.ofString "__getitem__") ht.typeIs PyProof.Rows.slot_tuple_getitem
  (wpAny_call_entry PyProof.Rows.slot_tuple_getitem ht.typeIs entry_tuple_getitem ?_ (args_tuple_getitem _ _)))
 show wpAny _ _ (Builtin.Tuple.tupleItemsOf (.ref t)>>=_) _ _ s;refine wpAny_bind (tupleItemsOf_ ht ?_);refine wpAny_bind (wpAny_typeOf hTs ?_);rw[if_pos (by decide)];refine wpAny_bind (pQ hs pl pu ?_);have hno:¬((((fD items.size 0 lo:Nat):Int)==0&&(1:Int)==1&&(fD items.size items.size hi-fD items.size 0 lo)==items.size)=true):=by
  intro q;rw[ain,ain]at q;have q1:((fD items.size 0 lo:Nat):Int)=0:=eq_of_beq q.1.1;have q2:fD items.size items.size hi-fD items.size 0 lo=items.size:=eq_of_beq q.2;exact hw ⟨by omega,by omega⟩
 show wpAny _ _ (if(((fD items.size 0 lo:Nat):Int)==0&&(1:Int)==1&&(fD items.size items.size hi-fD items.size 0 lo)==items.size)=true then _ else _) _ _ s;rw[if_neg hno,Vz]
 first
  |exact wpAny_bind (m:=Builtin.Tuple.tupleExact _) (wpAny_newObj_type (wpAny_pure ⟨_,rfl,wpAny_pure h⟩) PL)
  |exact wpAny_bind (m:=Builtin.Tuple.tupleExact _) (wpAny_newObj_type (wpAny_bind (wpAny_pure (wpAny_pure ⟨_,rfl,wpAny_pure h⟩))) PL)
  |exact wpAny_bind (wpAny_bind (m:=Builtin.Tuple.tupleExact _) (wpAny_newObj_type (wpAny_pure (wpAny_pure ⟨_,rfl,wpAny_pure h⟩)) PL))
  |exact wpAny_bind (wpAny_bind (m:=Builtin.Tuple.tupleExact _) (wpAny_newObj_type (wpAny_pure ⟨_,rfl,wpAny_pure h⟩) PL))
end
end HT
namespace L2
open PySem PySem.Spec PyProof.Rows
abbrev TO:=St->Hp->(Option Int->Hp->Prop)->Prop
def PO (X:Cx)(e:Option Expr)(t:TO):Prop :=
 ∀(aZ:List (Addr×Obj)) (s:Shared) (U:St) (H:Hp) (Q:Option Int->Hp->Prop),Inv X aZ U H s->t U H Q->
  wpAny (model X.prog X.w) X.A (evalPart e X.env) (λu s'=>∃o H',Inv X aZ U H' s'/\IsPart u o/\Q o H') X.xe s
def lW:TO:=λ_ H Q=>Q none H
inductive VB (Q:Option Int->Hp->Prop)(x:V)(H1:Hp):Prop where
 |mk (i):(x=.int i)->(Q (some i) H1)->VB Q x H1
def uK (t:TE):TO:=λU H Q=>t U H (VB Q)
section
variable {X:Cx}{e:Expr}{te:TE}{lo hi:Option Expr}{tl th:TO}{pos p2:Pos}
theorem dF:PO X none lW:=by
 intro aZ s U H Q I h;rw[evalPart_none];exact wpAny_pure ⟨none,H,I, .none,h⟩
theorem cR (h:PE X e te):PO X (some e) (uK te):=by
 intro aZ s U H Q I hw;rw[evalPart_some];refine eU (h aZ s U H _ I hw) λu s1 ⟨x,H1,I1,r1,q1⟩=>?_;obtain⟨i,rfl,q⟩:=q1;obtain⟨t,rfl⟩:=r1;exact⟨some i,H1,I1, .int i t,q⟩
def UL (X:Cx)(r:V->Option Int->Option Int->Hp->VK->Prop):Prop :=
 ∀(aZ:List (Addr×Obj)) (s:Shared) (U:St) (H:Hp) (x:V) (v vl vu:Value) (lo hi:Option Int) (sl:Addr) (Q:VK),Inv X aZ U H s->RelV x v->s.heap.IsSliceOf sl vl vu .none->IsPart vl lo->IsPart vu hi->r x lo hi H Q->
  ∃T id,typeLookup (.type T) "__getitem__"=pure (some (.builtin id))/\s.TypeIs v T/\wpAny (model X.prog X.w) X.A (getItem v (.ref sl)) (EP X aZ U Q) X.xe s
theorem UL.or {r r':V->Option Int->Option Int->Hp->VK->Prop}(h:UL X r)(h':UL X r'):UL X (λx lo hi H Q=>r x lo hi H Q\/r' x lo hi H Q):=by
 intro aZ s U H x v vl vu lo hi sl Q I rx hs pl pu q;rcases q with q|q
 ·exact h aZ s U H x v vl vu lo hi sl Q I rx hs pl pu q
 ·exact h' aZ s U H x v vl vu lo hi sl Q I rx hs pl pu q
def Zk (r:V->Option Int->Option Int->Hp->VK->Prop)(te:TE)(tl th:TO):TE:=λU H Q=>te U H λx H1=>tl U H1 λl H2=>th U H2 λu H3=>r x l u H3 Q
theorem cL {r:V->Option Int->Option Int->Hp->VK->Prop}(hr:UL X r)(he:PE X e te)(hl:PO X lo tl)(hu:PO X hi th):PE X (.Subscript e (.Slice lo hi none p2) pos) (Zk r te tl th):=by
 intro aZ s U H Q I h;refine Subscript_ (eU (he aZ s U H _ I h) λv s1 ⟨x,H1,I1,r1,q1⟩=>?_);refine wpAny_Slice (eU (hl aZ s1 U H1 _ I1 q1) λvl s2 ⟨l,H2,I2,pl,q2⟩=>eU (hu aZ s2 U H2 _ I2 q2) λvu s3 ⟨u,H3,I3,pu,q3⟩=>?_);rw[evalPart_none];refine wpAny_pure ?_;have I4:Inv X aZ U H3 {s3 with heap:=s3.heap.push {cls:=.type "slice",data:=.fields #[vl,vu, .none]}}:=I3.kept (t':=s3.toks) λb ob q=>aiq _ q;obtain⟨T,id,hT,ht,hg⟩:=hr aZ {s3 with heap:=s3.heap.push {cls:=.type "slice",data:=.fields #[vl,vu, .none]}} U H3 x v vl vu l u s3.heap.objs.size Q I4 r1 (Heap.IsSliceOf.new ..) pl pu q3;show wpAny (model X.prog X.w) X.A (subscriptTail e (.Slice lo hi none p2) v (.ref s3.heap.objs.size)) (EP X aZ U Q) X.xe {s3 with heap:=s3.heap.push {cls:=.type "slice",data:=.fields #[vl,vu, .none]}};exact tail_any (ops:=[.ref s3.heap.objs.size,v]) ht hT hg (by with_unfolding_all rfl)
def lF (xs:List V)(lo hi:Option Int):List V:=(xs.drop (HT.fD xs.length 0 lo)).take (HT.fD xs.length xs.length hi-HT.fD xs.length 0 lo)
theorem sO (xs:List V)(lo hi:Option Int):(lF xs lo hi).length<=xs.length:=by
 unfold lF;rw[aiW,ai5];omega
inductive abB (K:PySem.W.Frag)(x:V)(lo:Option Int)(hi:Option Int)(H:Hp)(Q:VK):Prop where
 |mk (a) (xs):(x=.ref a)->(dY K H a xs)->(¬(HT.fD xs.length 0 lo=0/\HT.fD xs.length xs.length hi=xs.length))->(∀p,H p=none->Q (.ref p) (upd H p (.tup (lF xs lo hi))))->abB K x lo hi H Q
def Ak (K:PySem.W.Frag):V->Option Int->Option Int->Hp->VK->Prop:=abB K
theorem gU:UL X (Ak X.K):=by
 intro aZ s U H x v vl vu lo hi sl Q I rx hs pl pu h;obtain⟨a,xs,rfl,hx,hw,q⟩:=h;cases rx;obtain⟨aU,r,ht,hz⟩:=I.tuple hx;have fP:aU.toArray.size=xs.length:=by rw[ais];exact r.length.symm
 refine⟨"tuple",_,PyProof.Rows.slot_tuple_getitem.lookup,ht.typeIs,?_⟩;refine HT.vL ht hs pl pu (by rw[fP];exact hw) ?_ (by rw[fP];exact hz);rw[fP];refine⟨.ref s.heap.objs.size,_,I.laid (t':=s.toks) (o:=.tup (lF xs lo hi)) (λb ob q=>aiq _ q) (aio _) ?_,rfl,q _ (I.hok.fresh (aio _))⟩;exact⟨aiv (sO xs lo hi) hz,_,(r.drop (HT.fD xs.length 0 lo)).take (HT.fD xs.length xs.length hi-HT.fD xs.length 0 lo),IsTup.new _ _⟩
inductive VD (K:PySem.W.Frag)(x:V)(y:V)(H:Hp)(Q:VK):Prop where
 |mk (a) (b) (xs) (ys):(x=.ref a)->(y=.ref b)->(dY K H a xs)->(dY K H b ys)->(xs≠[])->(xs.length+ys.length<=sizeLine)->((ys=[]->Q (.ref a) H))->((ys≠[]->∀p,H p=none->Q (.ref p) (upd H p (.tup (xs++ys)))))->VD K x y H Q
def yN (K:PySem.W.Frag):R2:=VD K
theorem Vals.Hh {xs:List V}{us:List Value}(r:Vals xs us):us=[]↔xs=[]:=by
 cases r with
 |nil=>simp
 |cons _ _=>simp
theorem d7:m8 X (binaryOp .Add) (yN X.K):=by
 intro aZ s U H x y v u Q I rx ry h;obtain⟨a,b,xs,ys,rfl,rfl,ha,hb,hx,hz,q1,q2⟩:=h;cases rx;cases ry;obtain⟨aU,r1,p1,_⟩:=I.tuple ha;obtain⟨wZ,r2,p2,_⟩:=I.tuple hb;refine HT.ZP p1 p2 (λz=>hx (r1.Hh.mp z)) (λz=>⟨.ref a,H,I,rfl,q1 (r2.Hh.mp z)⟩) (λz=>?_) (by rw[<-r1.length,<-r2.length];exact hz);refine⟨.ref s.heap.objs.size,_,I.laid (t':=s.toks) (o:=.tup (xs++ys)) (λb ob q=>aiq _ q) (aio _) ?_,rfl,q2 (λw=>z (r2.Hh.mpr w)) _ (I.hok.fresh (aio _))⟩;exact⟨by rw[aiG];exact hz,_,r1.append r2,IsTup.new _ _⟩
end
def VF (n:Nat)(i:Int):Option Nat:=if 0<=i then(if i<n then some i.toNat else none) else if -(n:Int)<=i then some (i+n).toNat else none
def Dz {α:Type}(xs:List α)(i:Int):Option α:=(VF xs.length i).bind λj=>xs[j]?
theorem Hi {n:Nat}{i:Int}{j:Nat}(h:VF n i=some j):seqIndex? i n=some j/\j<n/\-(n:Int)<=i/\i<n:=by
 unfold VF at h;by_cases h0:0<=i
 ·rw[if_pos h0]at h
  by_cases h1:i<n
  ·rw[if_pos h1]at h
   have e:i.toNat=j:=Option.some.inj h;exact⟨by rw[seqIndex_of h0 h1,e],by omega,by omega,h1⟩
  ·rw[if_neg h1]at h;cases h
 ·rw[if_neg h0]at h
  by_cases h1: -(n:Int)<=i
  ·rw[if_pos h1]at h
   have e:(i+n).toNat=j:=Option.some.inj h;exact⟨by rw[seqIndex_neg (by omega) h1,e],by omega,h1,by omega⟩
  ·rw[if_neg h1]at h;cases h
theorem Hj {α:Type}{xs:List α}{i:Int}{v:α}(h:Dz xs i=some v):∃j,seqIndex? i xs.length=some j/\xs[j]?=some v/\j<xs.length/\-(xs.length:Int)<=i/\i<xs.length:=by
 unfold Dz at h;cases e:VF xs.length i with
 |none=>rw[e]at h;cases h
 |some j=>
  rw[e]at h;obtain⟨h1,h2,h3,h4⟩:=Hi e;exact⟨j,h1,h,h2,h3,h4⟩
theorem eF {α:Type}{xs:List α}{j:Nat}{v:α}(h:xs[j]?=some v):Dz xs (j:Int)=some v:=by
 have hj:j<xs.length:=(List.getElem?_eq_some_iff.mp h).1;have e:VF xs.length (j:Int)=some j:=by
  unfold VF;rw[if_pos (by omega),if_pos (by omega)];simp
 unfold Dz;rw[e];exact h
theorem vM {α:Type}(xs:List α)(v:α):Dz (xs++[v]) (-1)=some v:=by
 have hl:(xs++[v]).length=xs.length+1:=by simp
 have e:VF (xs++[v]).length (-1)=some xs.length:=by
  unfold VF;rw[hl,if_neg (by decide),if_pos (by omega)];congr 1;omega
 unfold Dz;rw[e];show(xs++[v])[xs.length]?=some v;simp
def PN (b:Expr):Prop:=∀o i,subscripted b false o i=operate [o,i] (getItem o i)
def IxR (X:Cx)(r:R2):Prop :=
 ∀(value slice:Expr) (aZ:List (Addr×Obj)) (s:Shared) (U:St) (H:Hp) (x y:V) (v u:Value) (Q:VK),Inv X aZ U H s->RelV x v->RelV y u->r x y H Q->
  subscripted slice false v u=operate [v,u] (getItem v u)->wpAny (model X.prog X.w) X.A (subscriptTail value slice v u) (EP X aZ U Q) X.xe s
def MtR (X:Cx)(id:String)(r:V->List V->Hp->VK->Prop):Prop :=
 ∀(aZ:List (Addr×Obj)) (s:Shared) (U:St) (H:Hp) (x:V) (xs:List V) (v:Value) (us:List Value) (Q:VK),Inv X aZ U H s->RelV x v->Vals xs us->r x xs H Q->
  wpAny (model X.prog X.w) X.A (call (.builtin id) (v::us)) (EP X aZ U Q) X.xe s
section
variable {X:Cx}{a b:Expr}{ta tb:TE}{pos:Pos}
theorem bU {r:R2}(hr:IxR X r)(ha:PE X a ta)(hb:PE X b tb)(hs:PN b:=by intro _ _;rfl):PE X (.Subscript a b pos) (vG r ta tb):=by
 intro aZ s U H Q I h;exact Subscript_ (acq ha hb I h λv u s2 x y H2 I2 rx ry q=>hr a b aZ s2 U H2 x y v u Q I2 rx ry q (hs _ _))
inductive abC (K:PySem.W.Frag)(x:V)(y:V)(H:Hp)(Q:VK):Prop where
 |mk (p) (xs) (i) (v):(x=.ref p)->(y=.int i)->(dX K H p xs)->(Dz xs i=some v)->(Q v H)->abC K x y H Q
def VG (K:PySem.W.Frag):R2:=abC K
inductive abD (K:PySem.W.Frag)(x:V)(y:V)(H:Hp)(Q:VK):Prop where
 |mk (p) (xs) (i) (v):(x=.ref p)->(y=.int i)->(dY K H p xs)->(Dz xs i=some v)->(Q v H)->abD K x y H Q
def uV (K:PySem.W.Frag):R2:=abD K
def af5:R2:=λx y H Q=>∃z i c,x=.str z/\y=.int i/\z.length<=sizeLine/\Dz z.cps.toList i=some c/\Q (.str ⟨#[c]⟩) H
theorem fG:IxR X (VG X.K):=by
 intro value slice aZ s U H x y v u Q I rx ry h hs;obtain⟨p,xs,i,z,rfl,rfl,hq,he,q⟩:=h;cases rx;obtain⟨t,rfl⟩:=ry;obtain⟨aU,r,pl,hz⟩:=I.list hq;obtain⟨j,h1,h2,h3,h4,h5⟩:=Hj he;obtain⟨w,ew,RL⟩:=r.get h2;have hl:=r.length;have hn:=sH;have fin:EP X aZ U Q w s:=⟨z,H,I,RL,q⟩;by_cases h0:0<=i
 ·have hj:i.toNat=j:=by
   rw[seqIndex_of h0 h5]at h1;exact Option.some.inj h1
  exact item_listR pl.isList h0 (by omega) (by rw[hj];simpa using ew) fin hs
 ·have hj:(i+(aU.toArray.size:Int)).toNat=j:=by
   rw[seqIndex_neg (by omega) h4]at h1;rw[ais,<-hl];exact Option.some.inj h1
  exact subscriptTail_builtinR (x:=w) pl.isList.typeIs slot_list_getitem.lookup
   (wpAny_getItem_list_neg (Q:=λr s'=>r=w/\EP X aZ U Q r s') pl.isList (by omega) (by rw[ais]<;>omega) (by omega) (by rw[hj];simpa using ew) ⟨rfl,fin⟩) hs
theorem cD:IxR X (uV X.K):=by
 intro value slice aZ s U H x y v u Q I rx ry h hs;obtain⟨p,xs,i,z,rfl,rfl,hq,he,q⟩:=h;cases rx;obtain⟨t,rfl⟩:=ry;obtain⟨aU,r,pl,hz⟩:=I.tuple hq;obtain⟨j,h1,h2,h3,h4,h5⟩:=Hj he;obtain⟨w,ew,RL⟩:=r.get h2;have hl:=r.length;have hn:=sH;have fin:EP X aZ U Q w s:=⟨z,H,I,RL,q⟩;exact subscriptTail_builtinR (x:=w) pl.typeIs slot_tuple_getitem.lookup
  (getItem_tuple (j:=j) (Q:=λr s'=>r=w/\EP X aZ U Q r s') pl (by omega) (by omega) (by rw[ais,<-hl];exact h1) (by simpa using ew) ⟨rfl,fin⟩) hs
theorem Al:IxR X af5:=by
 intro value slice aZ s U H x y v u Q I rx ry h hs;obtain⟨z,i,c,rfl,rfl,hz,he,q⟩:=h;obtain⟨t,rfl⟩:=rx;obtain⟨t',rfl⟩:=ry;obtain⟨j,h1,h2,h3,h4,h5⟩:=Hj he;have hl:z.cps.toList.length=z.length:=by simp[Str.length]
 rw[hl]at h1 h4 h5;have hn:=sH;exact tail_any (typeIs_str s z t) slot_str_getitem.lookup (getItem_str (c:=c) (by
  have e1:decide (i< -(2^63:Int))=false:=decide_eq_false (by omega);have e2:decide (i>=2^63)=false:=decide_eq_false (by omega);rw[e1,e2,Bool.or_false]) (by rw[h1];simpa using h2) ⟨.str ⟨#[c]⟩,H,I.tok _,⟨_,rfl⟩,q⟩) hs
theorem Mu (aU:List Value)(n j:Nat)(u:Value):Obj.mapSeq (·.setIfInBounds j u) {cls:=.type "list",data:=.seq aU.toArray n}={cls:=.type "list",data:=.seq (aU.set j u).toArray n}:=by
 simp[Obj.mapSeq]
theorem Inv.lst {aZ:List (Addr×Obj)}{U:St}{H:Hp}{s:Shared}{p:Addr}{xs:List V}(I:Inv X aZ U H s)(h:H p=some (.lst xs)):
  ∃(aU:List Value) (n:Nat),Vals xs aU/\s.heap.get? p=some {cls:=.type "list",data:=.seq aU.toArray n}/\xs.length<=sizeLine:=by
 obtain⟨z,aU,n,r,e⟩:=I.hok p _ h;exact⟨aU,n,r,e,z⟩
theorem Inv.acz {aZ:List (Addr×Obj)}{U:St}{H:Hp}{s:Shared}{p:Addr}{xs ys:List V}{aU its':List Value}{n n':Nat}{f:Obj->Obj}(I:Inv X aZ U H s)(h:H p=some (.lst xs))
  (ho:s.heap.get? p=some {cls:=.type "list",data:=.seq aU.toArray n}) (hf:f {cls:=.type "list",data:=.seq aU.toArray n}={cls:=.type "list",data:=.seq its'.toArray n'}) (r:Vals ys its') (hz:ys.length<=sizeLine) (t:Nat):
  Inv X aZ U (upd H p (.lst ys)) {s with heap:=s.heap.update p f,toks:=t}:=by
 have e:(s.heap.update p f).get? p=some {cls:=.type "list",data:=.seq its'.toArray n'}:=by
  rw[ajm f ho (by rw[hf]<;>rfl),hf]
 refine I.write (x:=p) (e:=p) (by rw[h];trivial) (.inl rfl) (λb u hb q=>(ai8 _ _ (Ne.symm hb)).trans q) ⟨_,e⟩ ?_;exact⟨hz,its',n',r,e⟩
inductive VH (o:V)(i:V)(v:V)(H:Hp)(Q:Hp->Prop):Prop where
 |mk (p) (xs) (k) (j):(o=.ref p)->(i=.int k)->(H p=some (.lst xs))->(VF xs.length k=some j)->(Q (upd H p (.lst (xs.set j v))))->VH o i v H Q
def aeK:V->V->V->Hp->(Hp->Prop)->Prop:=VH
theorem set_list:aci X aeK:=by
 intro aZ s U H o i v ov iv u Q I ro ri rv h;obtain⟨p,xs,k,j,rfl,rfl,hp,hj,q⟩:=h;cases ro;obtain⟨t,rfl⟩:=ri;obtain⟨aU,n,r,ho,hz⟩:=I.lst hp;obtain⟨h1,h2,h3,h4⟩:=Hi hj;have hl:=r.length;have hn:=sH;have I':Inv X aZ U (upd H p (.lst (xs.set j v))) {s with heap:=s.heap.update p (Obj.mapSeq (·.setIfInBounds j u))} :=
  I.acz hp ho (Mu aU n j u) (r.set rv j) (by rw[ajS];exact hz) s.toks
 by_cases h0:0<=k
 ·have hk:k.toNat=j:=by
   rw[seqIndex_of h0 h4]at h1;exact Option.some.inj h1
  exact PySem.W.ki_setAt ho h0 (by omega) (by rw[ais,<-hl];exact h4) (by rw[hk];exact⟨_,I',q⟩)
 ·have hk:(k+(aU.toArray.size:Int)).toNat=j:=by
   rw[seqIndex_neg (by omega) h3]at h1;rw[ais,<-hl];exact Option.some.inj h1
  exact PySem.W.ki_setBack ho (by omega) (by rw[ais,<-hl];exact h3) (by omega) (by rw[hk];exact⟨_,I',q⟩)
theorem Hl (lo hi:Option Int)(n:Nat):(sliceBounds lo hi none n).1=((HT.fD n 0 lo:Nat):Int)/\(sliceBounds lo hi none n).2.1=((HT.fD n n hi:Nat):Int)/\(sliceBounds lo hi none n).2.2=1:=by
 refine⟨?_,?_,rfl⟩
 ·cases lo with
  |none=>simp[sliceBounds,HT.fD]
  |some i=>
   simp only[sliceBounds,HT.fD,Option.getD_none,show(1:Int)>0 by decide,if_true];by_cases h:i<0
   ·simp only[h,if_true]<;>omega
   ·simp only[h,if_false]<;>omega
 ·cases hi with
  |none=>simp[sliceBounds,HT.fD]
  |some i=>
   simp only[sliceBounds,HT.fD,Option.getD_none,show(1:Int)>0 by decide,if_true];by_cases h:i<0
   ·simp only[h,if_true]<;>omega
   ·simp only[h,if_false]<;>omega
theorem DG (aU:List Value)(lo hi:Option Int):slicePick aU.toArray lo hi none=((aU.drop (HT.fD aU.length 0 lo)).take (HT.fD aU.length aU.length hi-HT.fD aU.length 0 lo)).toArray:=by
 obtain⟨h1,h2,h3⟩:=Hl lo hi aU.toArray.size;unfold slicePick;rw[h1,h2,h3];simp only[sliceRange_one,pick_run,ais]<;>rfl
def aeL (K:PySem.W.Frag):V->Option Int->Option Int->Hp->VK->Prop:=λx lo hi H Q=>∃a xs,x=.ref a/\dX K H a xs/\∀p,H p=none->Q (.ref p) (upd H p (.lst (lF xs lo hi)))
theorem PX:UL X (aeL X.K):=by
 intro aZ s U H x v vl vu lo hi sl Q I rx hs pl pu h;obtain⟨a,xs,rfl,hx,q⟩:=h;cases rx;obtain⟨aU,r,ht,hz⟩:=I.list hx;have fP:=r.length;refine⟨"list",_,slot_list_getitem.lookup,ht.isList.typeIs,?_⟩;refine wpAny_getItem_list_slice ht.isList hs pl pu .none (by simp) ?_ (by rw[ais]<;>omega);rw[DG,<-fP];refine⟨.ref s.heap.objs.size,_,I.laid (t':=s.toks) (o:=.lst (lF xs lo hi)) (λb ob q=>aiq _ q) (aio _) ?_,rfl,q _ (I.hok.fresh (aio _))⟩;exact⟨aiv (sO xs lo hi) hz,_,0,(r.drop (HT.fD xs.length 0 lo)).take (HT.fD xs.length xs.length hi-HT.fD xs.length 0 lo),aiC _ rfl⟩
def vN:V->Bool
 |.non=>true
 |.bl _=>true
 |.int _=>true
 |.str _=>true
 |_=>false
def ZQ:V->V->Bool
 |.non, .non=>true
 |.bl a, .bl b=>a==b
 |.bl a, .int b=>(if a then 1 else 0)==b
 |.int a, .bl b=>a==(if b then 1 else 0)
 |.int a, .int b=>a==b
 |.str a, .str b=>a==b
 |_,_=>false
theorem acA {A:Around}{s:Shared}{y x:V}{u v:Value}(ry:RelV y u)(rx:RelV x v)(fy:vN y=true)(fx:vN x=true):SeqAt.EqAt A s u v (ZQ y x):=by
 cases y with
 |non=>
  cases ry;cases x with
  |non=>cases rx;exact SeqAt.EqAt.same _
  |bl b=>cases rx;exact SeqAt.EqAt.none_bool b
  |int b=>obtain⟨t,rfl⟩:=rx;exact SeqAt.EqAt.none_int b t
  |str b=>obtain⟨t,rfl⟩:=rx;exact SeqAt.EqAt.none_str b t
  |_=>exact absurd (show false=true from fx) aip
 |bl a=>
  cases ry;cases x with
  |non=>cases rx;exact SeqAt.EqAt.bool_none a
  |bl b=>cases rx;exact SeqAt.EqAt.bool_bool a b
  |int b=>obtain⟨t,rfl⟩:=rx;exact SeqAt.EqAt.bool_int a b t
  |str b=>obtain⟨t,rfl⟩:=rx;exact SeqAt.EqAt.bool_str a b t
  |_=>exact absurd (show false=true from fx) aip
 |int a=>
  obtain⟨t',rfl⟩:=ry;cases x with
  |non=>cases rx;exact SeqAt.EqAt.int_none a t'
  |bl b=>cases rx;exact SeqAt.EqAt.int_bool a t' b
  |int b=>obtain⟨t,rfl⟩:=rx;exact SeqAt.EqAt.int_int a t' b t
  |str b=>obtain⟨t,rfl⟩:=rx;exact SeqAt.EqAt.int_str a t' b t
  |_=>exact absurd (show false=true from fx) aip
 |str a=>
  obtain⟨t',rfl⟩:=ry;cases x with
  |non=>cases rx;exact SeqAt.EqAt.str_none a t'
  |bl b=>cases rx;exact SeqAt.EqAt.str_bool a t' b
  |int b=>obtain⟨t,rfl⟩:=rx;exact SeqAt.EqAt.str_int a t' b t
  |str b=>obtain⟨t,rfl⟩:=rx;exact SeqAt.EqAt.str_str a t' b t
  |_=>exact absurd (show false=true from fx) aip
 |_=>exact absurd (show false=true from fy) aip
def Mv (x:V)(u:Value):Bool:=match u with
 |.none=>ZQ .non x
 |.bool b=>ZQ (.bl b) x
 |.int i _=>ZQ (.int i) x
 |.str z _=>ZQ (.str z) x
 |_=>false
theorem VJ {x y:V}{u:Value}(r:RelV y u)(f:vN y=true):Mv x u=ZQ y x:=by
 cases y with
 |non=>cases r;rfl
 |bl b=>cases r;rfl
 |int i=>obtain⟨t,rfl⟩:=r;rfl
 |str z=>obtain⟨t,rfl⟩:=r;rfl
 |_=>exact absurd (show false=true from f) aip
theorem zO {x:V}{xs:List V}{us:List Value}(h:Vals xs us)(f:xs.all vN=true):us.any (Mv x)=xs.any λy=>ZQ y x:=by
 induction h with
 |nil=>rfl
 |cons r _ ih=>
  rw[ajf,ain]at f;rw[akg,akg,VJ r f.1,ih f.2]
theorem vO {A:Around}{s:Shared}{x:V}{v:Value}(rx:RelV x v)(fx:vN x=true){xs:List V}{us:List Value}(h:Vals xs us)(f:xs.all vN=true):∀u∈us,SeqAt.EqAt A s u v (Mv x u):=by
 induction h with
 |nil=>exact λu hu=>by cases hu
 |cons r _ ih=>
  intro u' hu;rw[ajf,ain]at f;rcases aiB.mp hu with rfl|hu
  ·rw[VJ r f.1];exact acA r rx f.1 fx
  ·exact ih f.2 u' hu
def inV (x:V)(xs:List V):Bool:=xs.any λy=>ZQ y x
inductive aeM (K:PySem.W.Frag)(neg:Bool)(x:V)(y:V)(H:Hp)(Q:VK):Prop where
 |mk (p) (xs):(y=.ref p)->((dX K H p xs\/dY K H p xs))->(vN x=true)->(xs.all vN=true)->(Q (.bl (if neg then !inV x xs else inV x xs)) H)->aeM K neg x y H Q
def rIn (K:PySem.W.Frag)(neg:Bool):R2:=aeM K neg
theorem Ey:m8 X (compareOp .In) (rIn X.K false):=by
 intro aZ s U H x y v u Q I rx ry h;obtain⟨p,xs,rfl,hq,fx,fs,q⟩:=h;cases ry;rcases hq with hq|hq
 ·obtain⟨aU,r,pl,hz⟩:=I.list hq
  refine SeqAt.in_listAt (Mv x) pl.isList (λw hw=>vO rx fx r fs w (by simpa using hw)) ⟨.bl _,H,I,rfl,?_⟩;rw[show aU.toArray.any (Mv x)=aU.any (Mv x) by simp,zO r fs];exact q
 ·obtain⟨aU,r,pl,hz⟩:=I.tuple hq
  refine SeqAt.in_tupleAt (Mv x) pl (λw hw=>vO rx fx r fs w (by simpa using hw)) ⟨.bl _,H,I,rfl,?_⟩;rw[show aU.toArray.any (Mv x)=aU.any (Mv x) by simp,zO r fs];exact q
theorem qH:m8 X (compareOp .NotIn) (rIn X.K true):=by
 intro aZ s U H x y v u Q I rx ry h;obtain⟨p,xs,rfl,hq,fx,fs,q⟩:=h;cases ry;rcases hq with hq|hq
 ·obtain⟨aU,r,pl,hz⟩:=I.list hq
  refine SeqAt.notIn_listAt (Mv x) pl.isList (λw hw=>vO rx fx r fs w (by simpa using hw)) ⟨.bl _,H,I,rfl,?_⟩;rw[show aU.toArray.any (Mv x)=aU.any (Mv x) by simp,zO r fs];exact q
 ·obtain⟨aU,r,pl,hz⟩:=I.tuple hq
  refine SeqAt.notIn_tupleAt (Mv x) pl (λw hw=>vO rx fx r fs w (by simpa using hw)) ⟨.bl _,H,I,rfl,?_⟩;rw[show aU.toArray.any (Mv x)=aU.any (Mv x) by simp,zO r fs];exact q
inductive gA (K:PySem.W.Frag)(xs:List V)(H:Hp)(Q:VK):Prop where
 |mk (p) (ys):(xs=[.ref p])->((dX K H p ys\/dY K H p ys))->(Q (.int ys.length) H)->gA K xs H Q
theorem bO:jJ X (.builtin "len") (gA X.K):=by
 intro aZ s U H xs us Q I r h;obtain⟨p,ys,rfl,hq,q⟩:=h;obtain⟨u,rfl,rx⟩:=vals1 r;cases rx;have hn:=sH;rcases hq with hq|hq
 ·obtain⟨aU,r',pl,hz⟩:=I.list hq
  have fP:=r'.length;exact Calls.call_len_list pl.isList (by simp only[ais]<;>omega) ⟨.int ys.length,H,I.tok _,⟨s.toks+1,by rw[ais,fP]⟩,q⟩
 ·obtain⟨aU,r',pl,hz⟩:=I.tuple hq
  have fP:=r'.length;exact len_tuple pl (by simp only[ais]<;>omega) ⟨.int ys.length,H,I.tok _,⟨s.toks+1,by rw[ais,fP]⟩,q⟩
theorem gW:jJ X (.builtin "len") (λxs H Q=>∃z,xs=[.str z]/\z.length<=sizeLine/\Q (.int z.length) H):=by
 intro aZ s U H xs us Q I r h;obtain⟨z,rfl,hz,q⟩:=h;obtain⟨u,rfl,t,rfl⟩:=vals1 r;have hn:=sH;exact len_str (by omega) ⟨.int z.length,H,I.tok _,⟨_,rfl⟩,q⟩
theorem jJ.or {f:Value}{r r':List V->Hp->VK->Prop}(h:jJ X f r)(h':jJ X f r'):jJ X f (λxs H Q=>r xs H Q\/r' xs H Q):=by
 intro aZ s U H xs us Q I rs q;rcases q with q|q
 ·exact h aZ s U H xs us Q I rs q
 ·exact h' aZ s U H xs us Q I rs q
inductive kJ (K:PySem.W.Frag)(xs:List V)(H:Hp)(Q:VK):Prop where
 |mk (p) (ys):(xs=[.ref p])->((dX K H p ys\/dY K H p ys))->(∀l,H l=none->Q (.ref l) (upd H l (.lst ys)))->kJ K xs H Q
theorem gY:jJ X (.type "list") (kJ X.K):=by
 intro aZ s U H xs us Q I r h;obtain⟨p,ys,rfl,hq,q⟩:=h;obtain⟨u,rfl,rx⟩:=vals1 r;cases rx;have fin:∀(aU:List Value),Vals ys aU->ys.length<=sizeLine->∀(h':Heap) (c':Nat),(∀b o',s.heap.get? b=some o'->h'.get? b=some o')->
   h'.get? s.heap.objs.size=some {cls:=.type "list",dict:=none,data:=.seq aU.toArray c',slots:=#[]}->EP X aZ U Q (.ref s.heap.objs.size) {s with heap:=h'}:=λaU r' hz h' c' kp e=>
  ⟨.ref s.heap.objs.size,_,I.laid (t':=s.toks) kp (aio _) (show iM X.prog X.w _ h' _ (.lst ys) from⟨hz,aU,c',r',e⟩),rfl,q _ (I.hok.fresh (aio _))⟩
 rcases hq with hq|hq
 ·obtain⟨aU,r',pl,hz⟩:=I.list hq
  have fP:=r'.length;obtain⟨o,ho,hc,n,hd⟩:=pl.isList;exact call_list_seq p (.inl rfl) ho hc hd (λh' c' kp e=>fin aU r' hz h' c' kp e) (by simp only[ais]<;>omega)
 ·obtain⟨aU,r',pl,hz⟩:=I.tuple hq
  have fP:=r'.length;obtain⟨o,ho,hc,n,hd⟩:=pl;exact call_list_seq p (.inr rfl) ho hc hd (λh' c' kp e=>fin aU r' hz h' c' kp e) (by simp only[ais]<;>omega)
inductive mQ (K:PySem.W.Frag)(xs:List V)(H:Hp)(Q:VK):Prop where
 |mk (p) (ys):(xs=[.ref p])->(((dX K H p ys/\∀l,H l=none->Q (.ref l) (upd H l (.tup ys)))\/(dY K H p ys/\Q (.ref p) H)))->mQ K xs H Q
theorem cJ:jJ X (.type "tuple") (mQ X.K):=by
 intro aZ s U H xs us Q I r h;obtain⟨p,ys,rfl,h⟩:=h;obtain⟨u,rfl,rx⟩:=vals1 r;cases rx;rcases h with ⟨hq,q⟩|⟨hq,q⟩
 ·obtain⟨aU,r',pl,hz⟩:=I.list hq
  have fP:=r'.length;refine call_tuple_list pl.isList (λh' kp=>?_) (by simp only[ais]<;>omega);have I1:Inv X aZ U H {s with heap:=h'}:=I.kept (t':=s.toks) kp;have I2:Inv X aZ U (upd H h'.objs.size (.tup ys)) {s with heap:=h'.push {cls:=.type "tuple",data:=.seq aU.toArray}} :=
   I1.laid (t':=s.toks) (λb o e=>aiq _ e) (aio _) (show iM X.prog X.w _ _ _ (.tup ys) from⟨hz,aU,r',IsTup.new _ _⟩)
  exact⟨.ref h'.objs.size,_,I2,rfl,q _ (I1.hok.fresh (aio _))⟩
 ·obtain⟨aU,r',pl,hz⟩:=I.tuple hq
  exact call_tuple_same pl ⟨.ref p,H,I,rfl,q⟩
def tyV (K:PySem.W.Frag)(T:String)(x:V)(H:Hp):Prop:=match x with
 |.str _=>T="str"
 |.int _=>T="int"
 |.ref p=>(T="list"/\∃xs,dX K H p xs)\/(T="tuple"/\∃o,K.lookup p=some o/\o.cls=.type "tuple"/\o.dict=none)\/
   (T="dict"/\((∃m7,H p=some (.dK m7))\/∃m7,H p=some (.dT m7)))\/(T="set"/\∃S n,H p=some (.set S n))
 |_=>False
theorem Mw {aZ:List (Addr×Obj)}{U:St}{H:Hp}{s:Shared}{T:String}{x:V}{v:Value}(I:Inv X aZ U H s)(r:RelV x v)(ty:tyV X.K T x H):
  s.TypeIs v T/\∀a,v=.ref a->∃ob,s.heap.get? a=some ob/\ob.dict=none:=by
 cases x with
 |str z=>
  obtain⟨t,rfl⟩:=r;cases(show T="str" from ty);exact⟨typeIs_str s z t,λ_ e=>nomatch e⟩
 |int i=>
  obtain⟨t,rfl⟩:=r;cases(show T="int" from ty);exact⟨typeIs_int s i t,λ_ e=>nomatch e⟩
 |ref p=>
  cases r;rcases ty with ⟨rfl,xs,hq⟩|⟨rfl,o,hk,hc,hd⟩|⟨rfl,hk⟩|⟨rfl,S,n,hk⟩
  ·obtain⟨aU,_,pl,_⟩:=I.list hq
   refine⟨pl.isList.typeIs,λa e=>?_⟩;cases e;obtain⟨o,n,e,c,hd,_⟩:=pl;exact⟨o,e,hd⟩
  ·refine⟨⟨o,I.wR p o hk,hc⟩,λa e=>?_⟩
   cases e;exact⟨o,I.wR _ o hk,hd⟩
  ·have z:∃o,s.heap.get? p=some o/\o.ExactDict:=by
    rcases hk with ⟨m7,hk⟩|⟨m7,hk⟩
    ·obtain⟨_,_,_,_,o,_,_,e,ex,_⟩:=I.hok p _ hk
     exact⟨o,e,ex⟩
    ·obtain⟨_,_,_,_,o,_,_,e,ex,_⟩:=I.hok p _ hk
     exact⟨o,e,ex⟩
   obtain⟨o,e,ex⟩:=z;refine⟨⟨o,e,ex.1⟩,λa e2=>?_⟩;cases e2;exact⟨o,e,ex.2.1⟩
  ·obtain⟨o,_,_,_,e,ex,_⟩:=I.hok p _ hk
   refine⟨⟨o,e,ex.1⟩,λa e2=>?_⟩;cases e2;exact⟨o,e,ex.2.1⟩
 |_=>exact False.elim ty
inductive abE (K:PySem.W.Frag)(T:String)(r:V->List V->Hp->VK->Prop)(Q:VK)(x:V)(H1:Hp):Prop where
 |mk:(tyV K T x H1)->(r x [] H1 Q)->abE K T r Q x H1
def aeN (K:PySem.W.Frag)(T:String)(r:V->List V->Hp->VK->Prop)(to:TE):TE:=λU H Q=>to U H (abE K T r Q)
inductive aeO (K:PySem.W.Frag)(T:String)(r:V->List V->Hp->VK->Prop)(t:TA)(U:St)(Q:VK)(x:V)(H1:Hp):Prop where
 |mk:(tyV K T x H1)->(t U H1 λxs H2=>r x xs H2 Q)->aeO K T r t U Q x H1
def tBM (K:PySem.W.Frag)(T:String)(r:V->List V->Hp->VK->Prop)(to:TE)(t:TA):TE:=λU H Q=>to U H (aeO K T r t U Q)
variable {o e:Expr}{es:List Expr}{to:TE}{t:TA}{name:Str}{pP iQ:Pos}{T id:String}{r:V->List V->Hp->VK->Prop}
theorem VL (pa:PlainAttrs T)(slot:Slot T name id)(hty:typeOf (.builtin id)=pure (.type "method_descriptor"))(hm:MtR X id r)(ho:PE X o to)
  (nU:attributeBase o name X.env (eval o X.env)=eval o X.env:=by rfl) (hline:(pP.endLine==iQ.line)=true:=by rfl):PE X (.Call (.Attribute o name pP) [] [] iQ) (aeN X.K T r to):=by
 intro aZ s U H Q I h;refine wpAny_Call_method0_late nU hline (eU (ho aZ s U H _ I h) λv s1 ⟨x,H1,I1,r1,ty,q1⟩=>?_);obtain⟨h1,h2⟩:=Mw I1 r1 ty;exact⟨T,id,pa,slot,hty,h1,h2,Calls.callWith_builtin rfl (PySem.evalArgs_none (hm aZ s1 U H1 x [] v [] Q I1 r1 .nil q1))⟩
theorem jX (pa:PlainAttrs T)(slot:Slot T name id)(hty:typeOf (.builtin id)=pure (.type "method_descriptor"))(hm:MtR X id r)(ho:PE X o to)(ha:PA X (e::es) t)
  (nU:attributeBase o name X.env (eval o X.env)=eval o X.env:=by rfl)
  (hfew:((backTo iQ (starEach (e::es) X.env)).all (λx=>!x.1)&&(backToKw iQ (keywordEach [] X.env)).all (λx=>x.1.isSome)
   &&decide ((e::es).length+([]:List Keyword).length+(if([]:List Keyword).isEmpty then 0 else 1)<30))=true:=by rfl)
  (hline:(pP.endLine==iQ.line)=true:=by rfl) (hs:starEach (e::es) X.env=(false,eval e X.env)::starEach es X.env:=by rfl) (hplain:(backTo iQ (starEach es X.env)).any (·.1)=false:=by rfl):
  PE X (.Call (.Attribute o name pP) (e::es) [] iQ) (tBM X.K T r to t):=by
 intro aZ s U H Q I h;refine wpAny_Call_method_late nU hfew hline rfl (eU (ho aZ s U H _ I h) λv s1 ⟨x,H1,I1,r1,ty,q1⟩=>?_);obtain⟨h1,h2⟩:=Mw I1 r1 ty;refine⟨T,id,pa,slot,hty,h1,h2,?_⟩;have hA:=ha iQ aZ s1 U H1 _ I1 q1;rw[hs]at hA ⊢;refine Calls.callWith_builtin (by show(false||(backTo iQ (starEach es X.env)).any (·.1))=false;rw[hplain]<;>rfl) (Calls.evalArgs_plain ?_);exact eU hA λus s2 ⟨vs,H2,I2,r2,q2⟩=>hm aZ s2 U H2 x vs v us Q I2 r1 r2 q2
end
def MtM (X:Cx)(id:String)(r:V->List V->Hp->VK->Prop):Prop :=
 ∀(aZ:List (Addr×Obj)) (s:Shared) (U:St) (H:Hp) (x:V) (xs:List V) (v:Value) (us:List Value) (Q:VK),Inv X aZ U H s->RelV x v->Vals xs us->r x xs H Q->
  wpAny (model X.prog X.w) X.A (call (.builtin id) (v::us)) (EP X aZ U Q) X.xe s
theorem Vals.one {x:V}{us:List Value}(h:Vals [x] us):∃u,us=[u]/\RelV x u:=by
 cases h with
 |cons r t=>cases t;exact⟨_,rfl,r⟩
theorem Vals.zero:∀{us:List Value},Vals [] us->us=[]
 |_, .nil=>rfl
theorem Vals.dropLast {xs:List V}{us:List Value}(h:Vals xs us):Vals xs.dropLast us.dropLast:=by
 induction h with
 |nil=>exact .nil
 |cons r t ih=>
  cases t with
  |nil=>exact .nil
  |cons q t'=>exact .cons r ih
theorem Vals.eraseIdx:∀{xs:List V} {us:List Value} (i:Nat),Vals xs us->Vals (xs.eraseIdx i) (us.eraseIdx i)
 |_,_,_, .nil=>.nil
 |_,_,0, .cons _ t=>t
 |_,_,i+1, .cons r t=>.cons r (Vals.eraseIdx i t)
theorem Vals.rep {xs:List V}{us:List Value}(h:Vals xs us):∀k:Nat,Vals (List.replicate k xs).flatten (List.replicate k us).flatten
 |0=>.nil
 |k+1=>by
  rw[aiQ,aiQ,ai',ai'];exact Vals.append h (Vals.rep h k)
theorem Mx {α:Type}(l:List α):l.eraseIdx (l.length-1)=l.dropLast:=by
 induction l with
 |nil=>rfl
 |cons a r ih=>
  cases r with
  |nil=>rfl
  |cons b r=>
   have e:(a::b::r).length-1=((b::r).length-1)+1:=by
    have h1:(a::b::r).length=r.length+2:=rfl;have h2:(b::r).length=r.length+1:=rfl;exact rfl
   rw[e,List.eraseIdx_cons_succ,ih]
   all_goals rfl
theorem Ez {α:Type}:∀(l:List α) (i:Nat),(l.eraseIdx i).length<=l.length
 |[],_=>aio _
 |_::_,0=>Nat.le_succ _
 |_::r,i+1=>Nat.succ_le_succ (Ez r i)
theorem foldl_rep (aU:List Value):∀(k:Nat) (qI:List Value),
  List.foldl (λx1 x2=>x1++x2) qI.toArray (List.replicate k aU.toArray)=(qI++(List.replicate k aU).flatten).toArray
 |0,qI=>by simp
 |k+1,qI=>by
  have e:qI.toArray++aU.toArray=(qI++aU).toArray:=by simp
  have e2:(qI++aU)++(List.replicate k aU).flatten=qI++(List.replicate (k+1) aU).flatten:=by
   rw[aiQ,ai',aiD]
  rw[<-e2,<-foldl_rep aU k (qI++aU),<-e,aiQ,List.foldl_cons]
section
variable {X:Cx}{aZ:List (Addr×Obj)}{U:St}{H:Hp}{s:Shared}{l b:Addr}{xs ys zs:List V}
theorem Inv.VN {aU its':List Value}{n:Nat}{f:Array Value->Array Value}{t':Nat}(I:Inv X aZ U H s)(hH:H l=some (.lst xs))
  (e:s.heap.get? l=some {cls:=.type "list",data:=.seq aU.toArray n}) (hf:f aU.toArray=its'.toArray) (hv:Vals ys its') (hz:ys.length<=sizeLine):
  Inv X aZ U (upd H l (.lst ys)) {s with heap:=s.heap.update l (Obj.mapSeq f),toks:=t'}:=by
 have q:=PySem.IsL.update e f;rw[hf]at q;refine I.write (x:=l) (e:=l) (by rw[hH];exact trivial) (.inl rfl) (λb' u hb hu=>(ai8 s.heap (Obj.mapSeq f) (Ne.symm hb)).trans hu) ⟨_,q⟩ ?_;exact⟨hz,its',_,hv,q⟩
theorem Inv.aeP {aU:List Value}{t':Nat}(I:Inv X aZ U H s)(hv:Vals ys aU)(hz:ys.length<=sizeLine):
  Inv X aZ U (upd H s.heap.objs.size (.lst ys)) {s with heap:=s.heap.push {cls:=.type "list",data:=.seq aU.toArray},toks:=t'} :=
 I.laid (λ_ _ q=>aiq _ q) (aio _) ⟨hz,aU,0,hv,aiC _ rfl⟩
theorem Inv.fresh (I:Inv X aZ U H s):H s.heap.objs.size=none:=I.hok.fresh (aio _)
theorem Inv.JL (I:Inv X aZ U H s)(hH:H l=some (.lst xs)):xs.length<=sizeLine/\∃(aU:List Value) (n:Nat),Vals xs aU/\xs.length=aU.length/\s.heap.get? l=some {cls:=.type "list",data:=.seq aU.toArray n}:=by
 obtain⟨z,aU,n,r,e⟩:=I.hok l _ hH;exact⟨z,aU,n,r,r.length,e⟩
theorem VP {n:Nat}(h:n<=sizeLine):Builtin.List.listTooLong n=false:=by
 unfold Builtin.List.listTooLong;exact decide_eq_false (by exact Nat.not_lt.mpr h)
end
section
variable {X:Cx}
inductive JM (x:V)(vs:List V)(H:Hp)(Q:VK):Prop where
 |mk (l) (xs) (y):(x=.ref l)->(vs=[y])->(H l=some (.lst xs))->(xs.length<sizeLine)->(Q .non (upd H l (.lst (xs++[y]))))->JM x vs H Q
def P0:V->List V->Hp->VK->Prop:=JM
theorem iW:MtM X "list.append" P0:=by
 intro aZ s U H x vs v us Q I rx rv h;obtain⟨l,xs,y,rfl,rfl,hH,hz,q⟩:=h;cases rx;obtain⟨u,rfl,ru⟩:=rv.one;obtain⟨z,aU,n,r,hl,e⟩:=I.JL hH;refine call_meets F.slot_list_append ⟨_,e,rfl⟩ F.entry_list_append (F.args_list_append_2 _ _) (PySem.list_append l aU.toArray n u (by rw[ais];omega)) ⟨e,?_⟩;refine⟨.non,_,I.VN (its':=aU++[u]) hH e (by simp) (r.append (.cons ru .nil)) ?_,rfl,q⟩;rw[aiG,List.length_singleton];exact hz
inductive JN (x:V)(vs:List V)(H:Hp)(Q:VK):Prop where
 |mk (l) (b) (xs) (zs):(x=.ref l)->(vs=[.ref b])->(H l=some (.lst xs))->(H b=some (.lst zs))->(xs.length+zs.length<=sizeLine)->(Q .non (upd H l (.lst (xs++zs))))->JN x vs H Q
def ZR:V->List V->Hp->VK->Prop:=JN
theorem EY:MtM X "list.extend" ZR:=by
 intro aZ s U H x vs v us Q I rx rv h;obtain⟨l,b,xs,zs,rfl,rfl,hH,hB,hz,q⟩:=h;cases rx;obtain⟨u,rfl,ru⟩:=rv.one;cases ru;obtain⟨z,aU,n,r,hl,e⟩:=I.JL hH;obtain⟨z2,wZ,n2,r2,hl2,e2⟩:=I.JL hB;have hsz:aU.toArray.size+wZ.toArray.size<=sizeLine:=by rw[ais,ais];omega
 have aeQ:¬(!aU.toArray.isEmpty&&Builtin.List.listTooLong (aU.toArray.size+wZ.toArray.size))=true:=by
  rw[VP hsz,aja];exact aip
 refine call_meets F.slot_list_extend ⟨_,e,rfl⟩ F.entry_list_extend (F.args_list_extend_2 _ _)
  (AutoSeq1.list_extend_list_list_0 l aU.toArray n b wZ.toArray n2 aeQ (by rw[ais];exact aiv (ajb _ _) hsz) (by exact aj5 hsz)) ⟨e,e2,?_⟩
 refine⟨.non,_,I.VN (its':=aU++wZ) hH e (by simp) (r.append r2) ?_,rfl,q⟩;rw[aiG];exact hz
inductive abF (x:V)(vs:List V)(H:Hp)(Q:VK):Prop where
 |mk (l) (xs) (y):(x=.ref l)->(vs=[])->(H l=some (.lst xs))->(xs[xs.length-1]?=some y)->(Q y (upd H l (.lst xs.dropLast)))->abF x vs H Q
def aeR:V->List V->Hp->VK->Prop:=abF
theorem VR:MtM X "list.pop" aeR:=by
 intro aZ s U H x vs v us Q I rx rv h;obtain⟨l,xs,y,rfl,rfl,hH,hy,q⟩:=h;cases rx;have hus:=rv.zero;subst hus;obtain⟨z,aU,n,r,hl,e⟩:=I.JL hH;obtain⟨u,hu,ru⟩:=r.get hy;have hy':aU.toArray[aU.toArray.size-1]?=some u:=by
  show aU.toArray[aU.length-1]?=some u;rw[<-Array.getElem?_toList,<-hl];exact hu
 refine call_meets F.slot_list_pop ⟨_,e,rfl⟩ F.entry_list_pop (F.args_list_pop_1 _) (MeetsSeq.list_pop_last l aU.toArray n u hy' (by rw[ais];omega)) ⟨e,?_⟩;refine⟨y,_,I.VN (its':=aU.dropLast) hH e ?_ r.dropLast ?_,ru,q⟩
 ·show aU.toArray.eraseIdxIfInBounds (aU.toArray.size-1)=aU.dropLast.toArray
  rw[ais,ajL,Mx]
 ·rw[List.length_dropLast]
  omega
def acB:V->List V->Hp->VK->Prop:=λx vs H Q=>∃l xs i k y,x=.ref l/\vs=[.int i]/\H l=some (.lst xs)/\-(2^63)<=i/\i<2^63/\seqIndex? i xs.length=some k/\xs[k]?=some y/\Q y (upd H l (.lst (xs.eraseIdx k)))
theorem V0:MtM X "list.pop" acB:=by
 intro aZ s U H x vs v us Q I rx rv h;obtain⟨l,xs,i,k,y,rfl,rfl,hH,h1,h2,hk,hy,q⟩:=h;cases rx;obtain⟨u,rfl,ru⟩:=rv.one;obtain⟨t,rfl⟩:=ru;obtain⟨z,aU,n,r,hl,e⟩:=I.JL hH;obtain⟨w,hw,RL⟩:=r.get hy;refine call_meets F.slot_list_pop ⟨_,e,rfl⟩ F.entry_list_pop (F.args_list_pop_2 _ _)
  (MeetsSeq.list_pop_at l aU.toArray n i t k w (fitsIndex_both h1 h2) (by rw[ais,<-hl];exact hk) (by rw[<-Array.getElem?_toList];exact hw) (by rw[ais];omega)) ⟨e,?_⟩
 refine⟨y,_,I.VN (its':=aU.eraseIdx k) hH e ?_ (r.eraseIdx k) ?_,RL,q⟩
 ·show aU.toArray.eraseIdxIfInBounds k=(aU.eraseIdx k).toArray
  rw[ajL]
 ·have:=Ez xs k
  exact aiv this z
inductive RM (x:V)(vs:List V)(H:Hp)(Q:VK):Prop where
 |mk (l) (xs):(x=.ref l)->(vs=[])->(H l=some (.lst xs))->(Q .non (upd H l (.lst xs.reverse)))->RM x vs H Q
inductive abG (x:V)(y:V)(H:Hp)(Q:VK):Prop where
 |mk (l) (b) (xs) (zs):(x=.ref l)->(y=.ref b)->(H l=some (.lst xs))->(H b=some (.lst zs))->(xs.length+zs.length<=sizeLine)->(∀p,H p=none->Q (.ref p) (upd H p (.lst (xs++zs))))->abG x y H Q
def af6:R2:=abG
theorem w5:m8 X (binaryOp .Add) af6:=by
 intro aZ s U H x y v u Q I rx ry h;obtain⟨l,b,xs,zs,rfl,rfl,hH,hB,hz,q⟩:=h;cases rx;cases ry;obtain⟨z,aU,n,r,hl,e⟩:=I.JL hH;obtain⟨z2,wZ,n2,r2,hl2,e2⟩:=I.JL hB;refine PySem.P.add_list e e2 ?_ (by rw[ais,ais];omega);have ea:aU.toArray++wZ.toArray=(aU++wZ).toArray:=by simp
 rw[ea];exact⟨.ref _,_,I.aeP (t':=s.toks) (r.append r2) (by rw[aiG];exact hz),rfl,q _ I.fresh⟩
inductive aeS (x:V)(y:V)(H:Hp)(Q:VK):Prop where
 |mk (l) (k) (xs):(x=.ref l)->(y=.int k)->(H l=some (.lst xs))->(-(2^63)<=k)->(k<2^63)->(xs.length*k.toNat<=sizeLine)->(∀p,H p=none->Q (.ref p) (upd H p (.lst (List.replicate k.toNat xs).flatten)))->aeS x y H Q
theorem len_rep {α:Type}(xs:List α)(k:Nat):(List.replicate k xs).flatten.length=k*xs.length:=by
 induction k with
 |zero=>simp
 |succ k ih=>rw[aiQ,ai',aiG,ih,Nat.succ_mul,Nat.add_comm]
end
section
variable {prog:Program}{w:World}{A:Around}{E:Value->Shared->Prop}{s:Shared}
end
section
variable {X:Cx}
end
end L2
namespace Att
open PySem PySem.W PySem.Calls PyProof.Rows
theorem zm {P:Params}{h:Heap}:∀(ns:List Int) (vs:List Value),WellAll P h vs (ns.map WData.int)->IntsAre vs ns:=by
 intro ns
 induction ns with
 |nil=>
  intro vs w;rw[List.map_nil]at w;cases w;exact .nil
 |cons n ns ih=>
  intro vs w;rw[aiR]at w;cases w with
  |cons a b=>
   cases a;exact .cons _ _ (ih _ b)
theorem RN {l:OpenLaw}{n:Nat}(hn:l.most=some n){P:Params}{h:Heap}{args:List WData}{vals:List Value}
  (hpre:l.row.toRowW.claim.pre args=true) (hwl:WellAll P h vals args):
  ∃a vs ns,vals=[Value.ref a]/\args=[WData.list (ns.map WData.int)]/\h.get? a=some {cls:=.type "list",data:=.seq vs.toArray}/\IntsAre vs ns/\ns.length<=n:=by
 have hsh:WShape.hasAll [] args [.list .int]=true:=(pre_splitW hpre).1;have hc:l.pre.holds [] {args:=args}=true:=(pre_splitW hpre).2;obtain⟨d,r,rfl,h1,h2⟩:=hasAllW_cons hsh;obtain rfl:=hasAllW_nil h2;obtain⟨xs,rfl,h3⟩:=hasW_list h1;obtain⟨ns,rfl⟩:=items_int h3;have fP:ns.length<=n:=by
  unfold OpenLaw.pre at hc;have h4:(WTm.not (.lt (.lit (.int (n:Int))) (.len (.arg 0)))).holds [] {args:=[.list (ns.map .int)]}=true:=by
   have h4:=(holds_andW hc).1;rw[hn]at h4;exact h4
  have h5:=condW_of h4 (w_not (w_lt w_lit (w_len_list (w_arg rfl))));rw[aix]at h5;refine Nat.le_of_not_lt λq=>?_;have q':(n:Int)<((ns.length:Nat):Int):=by omega
  first
   |(rw[decide_eq_true q']at h5;exact absurd h5 (by decide))
   |(simp at h5;omega)
 cases hwl with
 |cons w1 w2=>
  cases w2;cases w1 with
  |list ho hall=>exact⟨_,_,ns,rfl,rfl,ho,zm ns _ hall,fP⟩
theorem RP (l:OpenLaw)(args:List WData):l.row.toRowW.claim.post args (.bool true) args=true :=
 postW_of (r:=l.row.toRowW) (X:=(true==true))
  (show WShape.has [] (.bool true) .bool=true by first|rfl|decide|simp[WShape.has,WShape.arms,WShape.armsAll])
  (show(WTm.eq .res (.lit (.bool true))).value [] {args:=args,res:=some (.bool true),after:=args}=some (.bool (true==true)) from w_eq_bool (w_res rfl) w_lit) rfl
theorem JQ {l:OpenLaw}{n:Nat}{q:Program}{loose:List Str}{XP:(Str->Option Value)->Heap->Prop}{YP:World->Heap->Prop}{d:DefRec}
  (hn:l.most=some n) (hdf:d.params.defaults=[])
  (call:∀(w:World) (s₀ fU:Shared) (mg mb:Str->Option Value) (fa:Addr) (o:Obj) (pm cd vK:Value) (a:Addr) (vs:List Value) (ns:List Int),
   Ground q loose [] XP w s₀ mg mb fU.heap->YP w fU.heap->
   fU.heap.get? fa=some o->o.data=.func (docDef d.name d.params d.body d.scope pm cd vK)->fU.heap.CodeRec cd d.name->mg d.name=some (.ref fa)->
   fU.heap.get? a=some {cls:=.type "list",data:=.seq vs.toArray}->IntsAre vs ns->ns.length<=n->fU.gens=#[]->
   codeAny (model l.prog w) callerA (.call (.ref fa) ⟨[.ref a],[]⟩) (λr s'=>r=.ok (.ret (.bool true))/\OldK fU.heap s'.heap/\s'.os=fU.os/\AllBare s'.gens) fU):
  WalkO q loose XP YP l.row.toRowW d [] (λf vs=>PySem.call f vs):=by
 intro w s₀ fU mg mb G Y fa o pm cd vK dV kV ho hd Du hD hmg hg args vals as hpre hlay hrd hwl hlo;obtain rfl:dV=.none:=Dflts.none hD hdf;obtain rfl:kV=.none:=Dflts.noKw hD;obtain⟨a,vs,ns,rfl,rfl,hobj,hints,fP⟩:=RN hn hpre hwl;refine enter_call (codeAny_mono (call w s₀ fU mg mb fa o pm cd vK a vs ns G Y ho (fd_plain hd) Du hmg hobj hints fP hg) λr s' hq=>?_);obtain⟨rfl,h2,h3,h4⟩:=hq;exact⟨.inl ⟨.bool true, .bool true,[],rfl,λ_=>rfl, .bool true,RP l _,λ_=>⟨List.Pairwise.nil,λ_ hm=>(nomatch hm)⟩⟩,h2,h3,h4⟩
section
variable {prog:Program}{w:World}{A:Around}{E:Value->Shared->Prop}{s:Shared}{K:Frag}
end
end Att
namespace L2
open PySem PySem.Spec PyProof.Rows
theorem Fd:∀{vs:List Value} {ns:List Int},IntsAre vs ns->Vals (ns.map V.int) vs
 |_,_, .nil=>.nil
 |_,_, .cons n t h=>.cons ⟨t,rfl⟩ (Fd h)
def Only (H:Hp):Prop:=∀b,H b=none\/∃o xs,H b=some (.Mf o (.lst xs))
theorem V1 {P:Program}{w:World}{K:PySem.W.Frag}{mg mb:Str->Option Value}{CX:G9}{k:Nat}{fa a:Addr}{fd:FuncData}{x:Str}{sp:Sp}{fU:Shared}{vs:List Value}{ns:List Int}
  (KX:K.In fU.heap) (hns:fU.heap.Ns mainGlobals mg) (hb:fU.heap.Ns builtinsNs mb) (hbb:∀x:Str,x≠"__name__"->mb x=bootBuiltins x) (hlim:fU.heap.NoLimit) (hg:fU.gens=#[])
  (ha:fU.heap.get? a=some {cls:=.type "list",data:=.seq vs.toArray}) (hi:IntsAre vs ns) (hl:ns.length<=sizeLine) (hr:jL k callerA)
  (F:∀aN:Heap,K.In aN->aN.Ns mainGlobals mg->cj P w K mg aN CX k fa fd [x] sp) (hbind:∀(s:Shared) (u:Value),BindsTo s fd ⟨[u],[]⟩ [(x,u)])
  (hsp:∀H:Hp,Only H->dX K H a (ns.map V.int)->sp [.ref a] H (λv _=>v=.bl true) λ_ _ _=>False)
  (hCX:∀H e s',CX [] H fU (λ_ _ _=>False) e s'->False):
  codeAny (model P w) callerA (.call (.ref fa) ⟨[.ref a],[]⟩) (λr s'=>r=.ok (.ret (.bool true))/\OldK fU.heap s'.heap/\s'.os=fU.os/\AllBare s'.gens) fU:=by
 have rv:=Fd hi;have lenV:=hi.length;have core:∀H:Hp,Only H->dX K H a (ns.map V.int)->tZ P w H fU.heap->(∀b,H b≠none->b=a)->(H a≠none->K.lookup a=none)->
   codeAny (model P w) callerA (.call (.ref fa) ⟨[.ref a],[]⟩) (λr s'=>r=.ok (.ret (.bool true))/\OldK fU.heap s'.heap/\s'.os=fU.os/\AllBare s'.gens) fU:=by
  intro H hO hS hok hA hK;have Qh:∀{b:Addr} {o:Obj},fU.heap.get? b=some o->H b=none->(GK fU.heap H).get? b=some o:=λe n=>Vb e n;have noA:∀{b:Addr} {o:Obj} {es:Array DictEntry} {ep:Nat},fU.heap.get? b=some o->o.data=.dict es ep->H b=none:=λ{b o es ep} e d=>by
   cases q:H b with
   |none=>rfl
   |some u=>
    have e':b=a:=hA b (by rw[q];simp);subst e';rw[ha]at e;cases e;have d':Data.seq vs.toArray _=Data.dict es ep:=d;cases d'
  have nsK:∀{b:Addr} {m:Str->Option Value},fU.heap.Ns b m->(GK fU.heap H).Ns b m:=λ{b m} ⟨o,es,ep,e,d,r⟩=>⟨o,es,ep,Qh e (noA e d),d,r⟩;have hKb:K.In (GK fU.heap H):=λb o e=>Qh (KX b o e) (by
   cases q:H b with
   |none=>rfl
   |some u=>
    have e':b=a:=hA b (by rw[q];simp);subst e';rw[hK (by rw[q];simp)]at e;cases e)
  have hM:Mod K mg (GK fU.heap H):=⟨hKb,nsK hns,⟨mb,nsK hb,hbb⟩,let ⟨mc,h1,h2⟩:=hlim;⟨mc,nsK h1,h2⟩⟩;have e0:Vx P w K mg (GK fU.heap H) callerA [] fU H:=⟨rfl,hM,λb o e=>Zw e,ajQ (Ru _ _),trivial,λb hb=>absurd (show b∈([]:List Addr) from hb) (by simp),hok, .of_eq hg⟩;refine codeAny_mono ((F _ hKb (nsK hns)).run callerA [] fU H ⟨[.ref a],[]⟩ [.ref a] [.ref a] _ _ hr e0 (hbind fU (.ref a)) (.cons rfl .nil) (hsp H hO hS)) λr s' h=>?_;cases r with
  |error e=>exact(hCX H e s' h).elim
  |ok fl=>
   cases fl with
   |next=>exact False.elim h
   |brk=>exact False.elim h
   |cont=>exact False.elim h
   |ret u=>
    obtain⟨v,H',os,bare,un,hok',r',q⟩:=h;have q':v=.bl true:=q;subst q';obtain rfl:u=Value.bool true:=r';refine⟨rfl,OldK.of_keep λb o e=>?_,os,bare⟩;cases q:H b with
    |none=>exact un.keep b o e q (by intro z;exact absurd (show b∈([]:List Addr) from z) (by simp)) (by simp)
    |some u=>
     rcases hO b with z|⟨ob,xs,z⟩
     ·rw[q]at z;cases z
     ·have z2:=un.wW b ob _ z
      obtain⟨e1,_⟩:=hok b _ z;obtain⟨e2,_⟩:=hok' b _ z2;rw[e]at e1;cases e1;exact e2
 cases hk:K.lookup a with
 |some o=>
  have e:=KX a o hk;rw[ha]at e;cases e;refine core (λ_=>none) (λ_=>.inl rfl) (.inr ⟨_,vs.toArray,_,hk,rfl,rfl,rfl,by rw[ais,lenV];exact hl,by simpa using rv⟩) (λb u z=>by have z':(none:Option HO)=some u:=z;cases z') (λb z=>absurd rfl z) λz=>absurd rfl z
 |none=>
  refine core (λb=>if b=a then some (.Mf {cls:=.type "list",data:=.seq vs.toArray} (.lst (ns.map V.int))) else none) (λb=>?_) (.inl (.inr ⟨{cls:=.type "list",data:=.seq vs.toArray},if_pos rfl⟩)) (λb u z=>?_) (λb z=>?_) λ_=>hk
  ·by_cases hb:b=a
   ·exact .inr ⟨_,_,if_pos hb⟩
   ·exact .inl (if_neg hb)
  ·by_cases hb:b=a
   ·have z':=(if_pos hb).symm.trans z
    cases z';subst hb;exact⟨ha,by rw[aix];exact hl,vs,_,rv,ha⟩
   ·have z':=(if_neg hb).symm.trans z
    cases z'
  ·by_cases hb:b=a
   ·exact hb
   ·exact absurd (if_neg hb) z
theorem ZS {l:PySem.W.OpenLaw}{n k:Nat}{q:Program}{loose:List Str}{XP:(Str->Option Value)->Heap->Prop}{YP:World->Heap->Prop}{d:DefRec}{K:Params->PySem.W.Frag}{CX:World->G9}{sp:World->Sp}{x:Str}
  (hn:l.most=some n) (hn2:n<=sizeLine) (hdf:d.params.defaults=[]) (hr:jL k callerA)
  (hY:∀(w:World) (h:Heap),YP w h->(K w.params).In h)
  (F:∀(w:World) (mg:Str->Option Value) (fa:Addr) (h:Heap),(K w.params).In h->h.Ns mainGlobals mg->mg d.name=some (.ref fa)->
   ∃fd:FuncData,(∀(s:Shared) (u:Value),BindsTo s fd ⟨[u],[]⟩ [(x,u)])/\
    ∀aN:Heap,(K w.params).In aN->aN.Ns mainGlobals mg->cj l.prog w (K w.params) mg aN (CX w) k fa fd [x] (sp w))
  (hsp:∀(w:World) (H:Hp) (a:Addr) (ns:List Int),ns.length<=n->Only H->dX (K w.params) H a (ns.map V.int)->sp w [.ref a] H (λv _=>v=.bl true) λ_ _ _=>False)
  (hCX:∀(w:World) (H:Hp) (s:Shared) (e:Value) (s':Shared),CX w [] H s (λ_ _ _=>False) e s'->False):
  PySem.W.WalkO q loose XP YP l.row.toRowW d [] (λf vs=>PySem.call f vs):=by
 refine Att.JQ hn hdf λw s₀ fU mg mb fa o pm cd vK a vs ns G Y ho hd Du hmg hobj hints fP hg=>?_;have KX:=hY w _ Y;obtain⟨fd,hb,hF⟩:=F w mg fa _ KX G.T.g hmg;exact V1 KX G.T.g G.T.b G.T.builtins G.T.nolimit hg hobj hints (aiv fP hn2) hr hF hb (λH hO hS=>hsp w H a ns fP hO hS) λH e s'=>hCX w H fU e s'
def uc (s:Stmt):Arguments:=match s with
 |.FunctionDef _ a _ _ _ _ _ _ _ _=>a
 |_=>{posonlyargs:=[],args:=[],vararg:=none,kwonlyargs:=[],kw_defaults:=[],kwarg:=none,defaults:=[]}
def gZ (s:Stmt):List Stmt:=match s with
 |.FunctionDef _ _ b _ _ _ _ _ _ _=>b
 |_=>[]
def bA (s:Stmt):Scope:=match s with
 |.FunctionDef _ _ _ _ _ _ sc _ _ _=>sc
 |_=>{kind:=.function,names:=[],isGenerator:=false,isCoroutine:=false}
abbrev eY:G9:=λ_ _ _ _ _ _=>False
abbrev E0:XK:=λ_ _ _=>False
theorem yO {X:Cx}:Passes eY X E0:=λ_ _ _ _ _ _ _ h=>h.elim
structure eV (K:PySem.W.Frag)(x aR:Str)(st:Stmt)(f:Addr)(fd:FuncData):Prop where
 ex:∃(oc:Value) (od:Option Addr) (kV vK pm:Value) (an:Option Addr) (cX ct:Value) (osl:Array (Option Value)),
  fd=PySem.W.fnOf x aR (uc st) (gZ st) (bA st) .none kV vK pm an cX ct/\K.lookup f=some ⟨oc,od, .func fd,osl⟩/\PySem.W.codeIn K cX aR=true
 kp:PySem.W.keepIn K (.ref f)=true
section
variable {P:Program}{w:World}{K:PySem.W.Frag}{mg:Str->Option Value}{aN:Heap}
theorem eV.ok {x aR:Str}{st:Stmt}{f:Addr}{fd:FuncData}{N ps:List Str}{k:Nat}{sp:Sp}(F:eV K x aR st f fd)(S:bG N ps (bA st))
  (hbody:∀(cX:Value) (A:Around) (aM:List Env) (s:Shared) (H:Hp) (vs:List V) (Q:VK) (E:XK),jL k (A.deeper (envOfC aR (bA st) s.heap.objs.size f cX))->sp vs H Q E->
   ∃t,yL (j7 eY P w K mg aN N aR (bA st) f cX A aM s H E).Vf (gZ st) t/\t (Ends.of Q) (start N vs) H) (len:∀vs H Q E,sp vs H Q E->vs.length=ps.length:=by rintro _ _ _ _ ⟨⟩;subst_vars;rfl):cj P w K mg aN eY (k+1) f fd ps sp:=by
 obtain⟨oc,od,kV,vK,pm,an,cX,ct,osl,rfl,lk,Du⟩:=F.ex;refine abA lk Du S len λA aM s H vs Q E hr hsp=>?_;obtain⟨t,h,q⟩:=hbody cX A aM s H vs Q E hr hsp;exact⟨t,h.Vf,q⟩
theorem eV.binds {x aR:Str}{st:Stmt}{f:Addr}{fd:FuncData}{ps:List Str}(F:eV K x aR st f fd)
  (h:∀(kV vK pm:Value) (an:Option Addr) (cX ct:Value) (us:List Value),us.length=ps.length->bindArgs (PySem.W.fnOf x aR (uc st) (gZ st) (bA st) .none kV vK pm an cX ct) ⟨us,[]⟩=pure (ps.zip us)):Binds K fd ps []:=by
 obtain⟨oc,od,kV,vK,pm,an,cX,ct,osl,rfl,lk,Du⟩:=F.ex;exact .all (h kV vK pm an cX ct)
theorem acC {x aR:Str}{st:Stmt}{f:Addr}{oc:Value}{od an:Option Addr}{osl:Array (Option Value)}{kV vK pm cX ct:Value}(l:K.lookup f=some ⟨oc,od, .func (PySem.W.fnOf x aR (uc st) (gZ st) (bA st) .none kV vK pm an cX ct),osl⟩)
  (c:PySem.W.codeIn K cX aR=true) (k:PySem.W.keepIn K (.ref f)=true):eV K x aR st f (PySem.W.fnOf x aR (uc st) (gZ st) (bA st) .none kV vK pm an cX ct):=⟨⟨oc,od,kV,vK,pm,an,cX,ct,osl,rfl,l,c⟩,k⟩
end
section
variable {X:Cx}
theorem pv (i:Nat){x:Str}{pos:Pos}(hN:X.N[i]?=some x:=by rfl)(hv:Pu X.env.scope x:=by first|exact Or.inl rfl|exact Or.inr (Or.inl rfl)|exact Or.inr (Or.inr rfl))(hd:(x==("__debug__":Str))=false:=by decide)
  (Du:(x==("__classdict__":Str))=false:=by decide):PE X (.Name x pos) (jE i):=GR hN hv hd Du
end
theorem dW {A B:Prop}(h:B):if false=true then A else B:=by
 rw[if_neg aip];exact h
theorem dM {A B:Prop}(h:A):if true=true then A else B:=by
 rw[if_pos rfl];exact h
theorem ig {c A B:Prop}[Decidable c](h1:c->A)(h2:¬c->B):if c then A else B:=by
 by_cases h:c
 ·rw[if_pos h]
  exact h1 h
 ·rw[if_neg h]
  exact h2 h
def Same (H H':Hp):Prop:=∀b o,H b=some o->H' b=some o
theorem Same.refl (H:Hp):Same H H:=λ_ _ h=>h
theorem Same.trans {H H1 H2:Hp}(a:Same H H1)(b:Same H1 H2):Same H H2:=λc o h=>b c o (a c o h)
theorem Same.free {H H':Hp}(e:Same H H'){l:Addr}(h:H' l=Option.none):H l=Option.none:=by
 cases q:H l with
 |none=>rfl
 |some o=>
  rw[e l o q]at h;cases h
theorem Same.seq {K:PySem.W.Frag}{H H':Hp}{a:Addr}{xs:List V}(e:Same H H')(h:dX K H a xs):dX K H' a xs:=by
 rcases h with (h|⟨o,h⟩)|h
 ·exact .inl (.inl (e _ _ h))
 ·exact .inl (.inr ⟨o,e _ _ h⟩)
 ·exact .inr h
def mD (cells:List (Str×Addr)):List (Str×NameKind)->List (Str×Addr)->List (Str×Addr)
 |[],qI=>qI
 |(n,k)::r,qI=>if k==.free then(match cells.lookup n with|some c=>mD cells r ((n,c)::qI)|none=>mD cells r qI) else mD cells r qI
theorem JR {env:Env}:∀(names:List (Str×NameKind)) (qI:List (Str×Addr)),(∀p∈names,p.2=.free->∃c,env.cells.lookup p.1=some c)->
  (forIn names qI λ(x:Str×NameKind) (r:List (Str×Addr))=>(if(x.2==NameKind.free)=true then(do let a <-cellOf env x.1;pure (ForInStep.yield ((x.1,a)::r))) else pure (ForInStep.yield r):Sem (ForInStep (List (Str×Addr)))))=pure (mD env.cells names qI):=by
 intro names
 induction names with
 |nil=>intro qI _;rfl
 |cons p r ih=>
  intro qI h;obtain⟨n,k⟩:=p;rw[akf];cases hk:k==NameKind.free with
  |false=>
   simp only[hk,aj1,if_false,pure_bind,mD];exact ih qI λq hq=>h q (air _ hq)
  |true=>
   have e:k=.free:=by simpa using hk
   obtain⟨c,hc⟩:=h (n,k) aiX e;simp only[hk,if_true,mD,cellOf,hc,pure_bind];exact ih _ λq hq=>h q (air _ hq)
theorem V2 {aQ:Scope}{env:Env}(h:∀p∈aQ.names,p.2=.free->∃c,env.cells.lookup p.1=some c):closureFor aQ env=pure (mD env.cells aQ.names []):=by
 have q:=JR (env:=env) aQ.names [] h;simp only[closureFor]
 first
  |exact q
  |(rw[<-q];simp)
  |simpa using q
theorem Mz {cells:List (Str×Addr)}:∀(names:List (Str×NameKind)) (qI:List (Str×Addr)) (y:Str) (c:Addr),(mD cells names qI).lookup y=some c->cells.lookup y=some c\/qI.lookup y=some c:=by
 intro names
 induction names with
 |nil=>intro qI y c h;exact .inr h
 |cons p r ih=>
  intro qI y c h;obtain⟨n,k⟩:=p;unfold mD at h;split at h
  ·split at h
   ·rename_i c' hc
    rcases ih _ y c h with q|q
    ·exact .inl q
    ·rw[aiH]at q
     cases e:y==n with
     |true=>
      rw[e]at q;have e':y=n:=by simpa using e
      subst e';have q':some c'=some c:=q;rw[<-q'];exact .inl hc
     |false=>rw[e]at q;exact .inr q
   ·exact ih _ y c h
  ·exact ih _ y c h
theorem RQ {cells:List (Str×Addr)}:∀(names:List (Str×NameKind)) (qI:List (Str×Addr)) (y:Str),(∃c,qI.lookup y=some c)->∃c,(mD cells names qI).lookup y=some c:=by
 intro names
 induction names with
 |nil=>intro qI y h;exact h
 |cons p r ih=>
  intro qI y h;obtain⟨n,k⟩:=p;unfold mD;split
  ·split
   ·refine ih _ y ?_
    rw[aiH];cases e:y==n with
    |true=>exact⟨_,rfl⟩
    |false=>exact h
   ·exact ih _ y h
  ·exact ih _ y h
theorem Fe {cells:List (Str×Addr)}:∀(names:List (Str×NameKind)) (qI:List (Str×Addr)) (y:Str),(y,NameKind.free)∈names->(∃c,cells.lookup y=some c)->∃c,(mD cells names qI).lookup y=some c:=by
 intro names
 induction names with
 |nil=>intro qI y h _;cases h
 |cons p r ih=>
  intro qI y h hc;obtain⟨n,k⟩:=p;unfold mD;rcases aiB.mp h with e|h
  ·cases e
   obtain⟨c,hc⟩:=hc;simp only[beq_self_eq_true,if_true,hc];exact RQ _ _ _ ⟨c,by rw[aiH,beq_self_eq_true]⟩
  ·split
   ·split
    ·exact ih _ y h hc
    ·exact ih _ y h hc
   ·exact ih _ y h hc
def fQ (X:Cx)(N':List Str)(aQ:Scope)(C:Addr)(s₀:Shared)(H₀:Hp)(ex:List Addr):Cx :=
 {X with N:=N',s₀:=s₀,H₀:=H₀,env:=compEnvC aQ (mD X.env.cells aQ.names []) C X.env,outer:=X.stack,stack:=X.stack,ex:=ex,fn:=λ_=>false,xe:=λ_ _=>False}
def iu (X:Cx)(N':List Str)(aQ:Scope)(C:Addr)(s₀:Shared)(H₀:Hp)(ex:List Addr)(XE:Addr->Shared->Hp->List Addr->Value->Shared->Prop):Cx:={fQ X N' aQ C s₀ H₀ ex with xe:=XE C s₀ H₀ ex}
def noX:Addr->Shared->Hp->List Addr->Value->Shared->Prop:=λ_ _ _ _ _ _=>False
theorem uW (X:Cx)(N':List Str)(aQ:Scope)(C:Addr)(s₀:Shared)(H₀:Hp)(ex:List Addr):iu X N' aQ C s₀ H₀ ex noX=fQ X N' aQ C s₀ H₀ ex:=rfl
def Zm (X:Cx)(ifs:List Expr)(t:TT):Prop :=
 ∀(aZ:List (Addr×Obj)) (s:Shared) (U:St) (H:Hp) (Q:Bool->Hp->Prop),Inv X aZ U H s->t U H Q->
  wpAny (model X.prog X.w) X.A (forIn ifs true λc r=>if r=true then do let ok <-isTrue c X.env (eval c X.env);pure (ForInStep.yield ok) else pure (ForInStep.yield r)) (TP X aZ U Q) X.xe s
def V3:TT:=λ_ H Q=>Q true H
theorem ji {X:Cx}:Zm X [] V3:=λ_ _ _ H _ I h=>wpAny_tests_nil ⟨H,I,h⟩
theorem ZV {X:Cx}{c:Expr}{t:TT}(h:PT X c t):Zm X [c] t:=λaZ s U H Q I q=>wpAny_tests_one (h aZ s U H Q I q)
section
variable {prog:Program}{w:World}{A:Around}{R:Result->Shared->Prop}{s:Shared}
theorem JT {rZ target eX:Expr}{ifs:List Expr}{aQ:Scope}{pos:Pos}{it qI:Value}{env:Env}(I:Nat->Shared->Prop)(E':Value->Shared->Prop)(hE:∀e s,E' e s->notedBy (model prog w) A env (λx s'=>R (.error x) s') e s)
  (turn:∀n s,I n s->wpAny (model prog w) A (pyNext it) (λr fU=>match r with
   |none=>R (.ok .next) fU
   |some v=>wpAny (model prog w) A (letOwnedTupleGo target it v) (λ_ s₀=>wpAny (model prog w) A (assign target env v) (λ_ s₂=>
     wpAny (model prog w) A (forIn ifs true λc r=>if r=true then do let ok <-isTrue c env (eval c env);pure (ForInStep.yield ok) else pure (ForInStep.yield r)) (λok s₃=>
      if ok=true then wpAny (model prog w) A (eval rZ env) (λx s₄=>
       wpAny (model prog w) A (call (.builtin "list.append") [qI,x]) (λ_ s₅=>∃m,m<n/\I m s₅) E' s₄) E' s₃
      else ∃m,m<n/\I m s₃) E' s₂) E' s₀) E' fU) E' s)
  (n:Nat) (h:I n s):
  codeAny (model prog w) A (.compLoop (.ListComp rZ [⟨target,eX,ifs,0⟩] aQ pos) 0 it qI env) R s:=by
 refine codeAny_loop rfl I (λn s hI=>?_) n h;show wpAny _ A ((compTurn (.ListComp rZ [⟨target,eX,ifs,0⟩] aQ pos) 0 it qI env).onRaise (λx=>do noteFrame x env;theTreesLotGoes x)) _ _ s;refine wpAny_noted ?_;rw[compTurn_list];refine wpAny_bind (wpAny_standAt (wpAny_bind (wpAny_mono (turn n s hI) (λr fU MF=>?_) hE)));cases r with
 |none=>exact wpAny_pure MF
 |some v=>
  refine wpAny_bind (wpAny_mono MF (λ_ s₀ h₀=>?_) hE);refine wpAny_bind (wpAny_mono h₀ (λ_ s₂ h₂=>wpAny_bind (wpAny_mono h₂ (λok s₃ h₃=>?_) hE)) hE);cases ok with
  |false=>exact wpAny_pure ⟨rfl,h₃⟩
  |true=>
   exact wpAny_bind (wpAny_bind (wpAny_mono h₃ (λx s₄ h₄=>wpAny_bind (wpAny_mono h₄ (λ_ s₅ h₅=>wpAny_pure (wpAny_pure ⟨rfl,h₅⟩)) hE)) hE))
end
structure w6 (X:Cx)(x:Str)(bV:List Str)(lM:List Nat)(aQ:Scope):Prop where
 kind:aQ.kind=.function
 Am:∀y∈aQ.names,y.2≠.cell
 loc:∀y∈aQ.names,y.2=.local->aQ.names.lookup y.1=some .local
 tgt:aQ.names.lookup x=some .local
 nd:(x::bV).Nodup
 fr:∀y∈aQ.names,y.2=.free->X.env.kindOf y.1=some .cell\/X.env.kindOf y.1=some .free
 ix:∀(j:Nat) (y:Str),bV[j]?=some y->∃k,lM[j]?=some k/\X.N[k]?=some y
 len:lM.length=bV.length
 cl:∀y∈bV,(y,NameKind.free)∈aQ.names
def outs (U:St)(lM:List Nat):St:=lM.map λk=>(U[k]?).join
def Fg (J:It)(tt:TT)(te:TE)(U':St)(Q:VK)(H1:Hp):Prop:=∃W:Nat->Nat->List V->Hp->Prop,(∃m,W 0 m [] H1)/\∀i m vs H2,W i m vs H2->
 vs.length<sizeLine/\((J.stop i H2/\∀l,H2 l=none->Q (.ref l) (upd H2 l (.lst vs)))\/
  (J.go i H2/\∀x H3,J.yld i H2 x H3->tt (some x::U') H3 λb H4=>if b=true then te (some x::U') H4 λv H5=>∃m',m'<m/\W (i+1) m' (vs++[v]) H5 else ∃m',m'<m/\W (i+1) m' vs H4))
def Fi (lM:List Nat)(wi:TI)(tt:TT)(te:TE):TE:=λU H Q=>wi U H λJ H1=>Fg J tt te (outs U lM) Q H1
theorem Vals.snoc {xs:List V}{us:List Value}{x:V}{u:Value}(h:Vals xs us)(r:RelV x u):Vals (xs++[x]) (us++[u]):=Vals.append h (.cons r .nil)
theorem dB {α β:Type}[BEq α][LawfulBEq α]{l:List (α×β)}{x:α}{b:β}(h:l.lookup x=some b):(x,b)∈l:=by
 induction l with
 |nil=>simp at h
 |cons p r ih=>
  obtain⟨n,k⟩:=p;rw[aiH]at h;cases e:x==n with
  |true=>
   rw[e]at h;have e':x=n:=by simpa using e
   have h':k=b:=Option.some.inj h;subst e' h';exact aiX
  |false=>rw[e]at h;exact air _ (ih h)
theorem Ho {aQ:Scope}{env:Env}{y:Str}(h:(relabel aQ env).names.lookup y=some .cell\/(relabel aQ env).names.lookup y=some .free)(hc:∀y∈aQ.names,y.2≠.cell):(y,NameKind.free)∈aQ.names:=by
 have q:∃k,(y,k)∈(relabel aQ env).names/\(k=.cell\/k=.free):=by
  rcases h with h|h
  ·exact⟨_,dB h, .inl rfl⟩
  ·exact⟨_,dB h, .inr rfl⟩
 obtain⟨k,hm,hk⟩:=q;obtain⟨⟨n,k'⟩,hm',e⟩:=List.mem_map.mp hm;dsimp only at e;split at e
 ·rename_i hf
  cases e;have:k'=.free:=by
   simp only[ain,beq_iff_eq]at hf;exact hf.1.1
  subst this;exact hm'
 ·cases e
  rcases hk with rfl|rfl
  ·exact absurd rfl (hc _ hm')
  ·exact hm'
theorem mZ {env:Env}:∀{names:List (Str×NameKind)} {x:Str},names.lookup x=some .free->
  ((names.map λ(n,k)=>if(k==NameKind.free&&env.scope.kind==.function&&env.kindOf n==some .cell) then(n,NameKind.cell) else(n,k)).lookup x=some .cell\/
   (names.map λ(n,k)=>if(k==NameKind.free&&env.scope.kind==.function&&env.kindOf n==some .cell) then(n,NameKind.cell) else(n,k)).lookup x=some .free)
 |[],_,h=>by simp at h
 |(n,k)::r,x,h=>by
  have ih:=@mZ env r x;rw[aiR];cases hx:x==n with
  |true=>
   simp only[aiH,hx]at h;have hk:k=.free:=Option.some.inj h;subst hk;by_cases hc:(NameKind.free==NameKind.free&&env.scope.kind==.function&&env.kindOf n==some .cell)=true
   ·left
    simp only[hc,if_true,aiH,hx]
   ·right
    simp only[hc,if_false,aiH,hx,aj1]
  |false=>
   simp only[aiH,hx]at h;by_cases hc:(k==NameKind.free&&env.scope.kind==.function&&env.kindOf n==some .cell)=true
   ·simp only[hc,if_true,aiH,hx];exact ih h
   ·simp only[hc,if_false,aiH,hx,aj1];exact ih h
theorem Inv.track {X:Cx}{aZ:List (Addr×Obj)}{U:St}{H:Hp}{s:Shared}{D:Addr}{vs:List V}{aU:List Value}{k:Nat}(I:Inv X aZ U H s)(hD:H D=none)(hz:vs.length<=sizeLine)(hv:Vals vs aU)
  (e:s.heap.get? D=some {cls:=.type "list",data:=.seq aU.toArray k}) (h1:D∈X.ex\/X.s₀.heap.objs.size<=D) (h2:D≠X.env.locals) (h3:∀x c,X.env.cells.lookup x=some c->c≠D) (h4:∀p∈X.pn++aZ,p.1≠D):
  Inv X aZ U (upd H D (.lst vs)) s:=by
 obtain⟨hh,g,d,t,o⟩:=s;have nD:∀b u,H b=some u->b≠D:=λb u q z=>by rw[z,hD]at q;cases q
 refine I.step (g':=g) (d':=d) (t':=t) (h':=hh) (ch:=[D]) (λb hb=>?_) (λb o _ _ _ q _=>q) (λb o _ _ _ q _=>⟨o.slots,q⟩) (λb o hb q n=>?_) (λb o _ q=>⟨o,q⟩)
  (λb xs q=>by rw[bI (nD b _ q)];exact q) (λb o u q=>by rw[bI (nD b _ q)];exact q) (λb ps q=>⟨#[],by rw[bI (nD b _ q),q];simp⟩) (λm q=>q) (λb u q=>?_) I.bare
 ·have z:b=D:=by simpa using hb
  subst z;exact⟨h1,h2,h3,h4⟩
 ·rw[bI (by simpa using hb)];exact n
 ·by_cases z:b=D
  ·subst z
   rw[bf]at q;cases q;exact⟨hz,aU,k,hv,e⟩
  ·rw[bI z]at q
   exact(I.hok b u q).stay (λ_ _ _ q=>q) (λc q=>by rw[bI (nD c _ q)];exact q) λc xs q=>by rw[bI (nD c _ q)];exact q
structure qJ (X:Cx)(bV:List Str)(lM:List Nat)(aQ:Scope):Prop where
 kind:aQ.kind=.function
 Am:∀y∈aQ.names,y.2≠.cell
 loc:∀y∈aQ.names,y.2=.local->aQ.names.lookup y.1=some .local
 fr:∀y∈aQ.names,y.2=.free->X.env.kindOf y.1=some .cell\/X.env.kindOf y.1=some .free
 ix:∀(j:Nat) (y:Str),bV[j]?=some y->∃k,lM[j]?=some k/\X.N[k]?=some y
 len:lM.length=bV.length
 cl:∀y∈bV,(y,NameKind.free)∈aQ.names
def MJ (n:Nat)(J:It)(g:TG)(tt:TT)(te:TE)(U':St)(Q:VK)(H1:Hp):Prop:=∃W:Nat->Nat->List V->Hp->Prop,(∃m,W 0 m [] H1)/\∀i m vs H2,W i m vs H2->
 vs.length<sizeLine/\((J.stop i H2/\∀l,H2 l=none->Q (.ref l) (upd H2 l (.lst vs)))\/
  (J.go i H2/\∀(τ:St) x H3,τ.length=n->J.yld i H2 x H3->g x (τ++U') H3 λU1 H4=>(∃τ':St,U1=τ'++U'/\τ'.length=n)/\
   tt U1 H4 λb H5=>if b=true then te U1 H5 λv H6=>∃m',m'<m/\W (i+1) m' (vs++[v]) H6 else ∃m',m'<m/\W (i+1) m' vs H5))
def xg (n:Nat)(lM:List Nat)(wi:TI)(g:TG)(tt:TT)(te:TE):TE:=λU H Q=>wi U H λJ H1=>MJ n J g tt te (outs U lM) Q H1
theorem Fj {X:Cx}{rZ eX tg:Expr}{M:List Str}{g:TG}{pos p1:Pos}{ifs:List Expr}{aQ:Scope}{bV:List Str}{lM:List Nat}{wi:TI}{tt:TT}{te:TE}{XE:Addr->Shared->Hp->List Addr->Value->Shared->Prop}
  {qt:Cx->Prop} (hc:∀C s₀ H₀ ex,qt (iu X (M++bV) aQ C s₀ H₀ ex XE)) (S:qJ X bV lM aQ) (hfl:∀y∈bV,aQ.names.lookup y=some .free) (hi:PIQ qt X tg eX wi) (hg:∀C s₀ H₀ ex,PG (iu X (M++bV) aQ C s₀ H₀ ex XE) tg g)
  (ht:∀C s₀ H₀ ex,Zm (iu X (M++bV) aQ C s₀ H₀ ex XE) ifs tt) (he:∀C s₀ H₀ ex,PE (iu X (M++bV) aQ C s₀ H₀ ex XE) rZ te)
  (hs:∀v,foldedSetIterable eX X.env v=pure v) {use:Option (Value->Sem Unit)} {Q':Value->Shared->Prop} {aZ:List (Addr×Obj)} {s:Shared} {U:St} {H:Hp} {Q:VK} (I:Inv X aZ U H s) (h:xg M.length lM wi g tt te U H Q)
  (hxe:∀C s2 H2 ex D,Inv X aZ U H2 s2->(∀b∈ex,Ae X aZ H2 b)->s2.heap.objs.size<=C->D≠C->∀e s',XE C s2 H2 ex e s'->notedBy (model X.prog X.w) X.A (compEnvC aQ (mD X.env.cells aQ.names []) C X.env) (λx s''=>compPost (model X.prog X.w) X.A X.xe use Q' (.ref D) C (.error x) s'') e s')
  (hpost:∀(D C:Addr) (H':Hp) m4 (s4:Shared),s4.heap.Ns C m4->(∀h',Heap.SameBut C s4.heap h'->Inv X aZ U H' {s4 with heap:=h'})->H' C=none->C≠X.env.locals->C∉X.fs->X.s₀.heap.objs.size<=C->(∀z c,X.env.cells.lookup z=some c->c≠C)->(∀p∈X.pn++aZ,p.1≠C)->Q (.ref D) H'->
   compPost (model X.prog X.w) X.A X.xe use Q' (.ref D) C (.ok .next) s4):
  wpAny (model X.prog X.w) X.A (comprehension (.ListComp rZ [⟨tg,eX,ifs,0⟩] aQ pos) aQ X.env p1 (newList []) (firstAsync [⟨tg,eX,ifs,0⟩]) (firstIter [⟨tg,eX,ifs,0⟩] X.env) use) Q' X.xe s:=by
 have hclos:=V2 (aQ:=aQ) (env:=X.env) λp hp hf=>I.ok.has p.1 (S.fr p hp hf);refine wpAny_comprehension_free (use:=use) rfl hs hclos S.kind S.loc (eU (hi aZ s U H _ I h) λv s1 h1=>eU h1 λitv s2 h2=>?_);obtain⟨it,fp,tn,J,H2,rfl,I2,T,st2,f2,W,⟨m0,w0⟩,turn⟩:=h2;refine wpAny_newObj_type (wpAny_newFunctionEnv S.Am (by intro y hy;simp at hy) (λMF hns₁ hsb₁=>?_) S.kind);dsimp only at hns₁ hsb₁ ⊢;generalize hH2:s2.heap.push {cls:=.type "list",dict:=none,data:=.seq ([]:List Value).toArray}=G2 at hns₁ hsb₁ ⊢;have hCe:G2.objs.size=s2.heap.objs.size+1:=by rw[<-hH2,ajn]
 generalize hC:G2.objs.size=C at hns₁ hsb₁ hCe ⊢;have hCle:s2.heap.objs.size<=C:=by omega
 have hDC:s2.heap.objs.size≠C:=by omega
 have below:∀b,b<s2.heap.objs.size->b≠C:=λb hb=>by omega
 have old:∀b o,s2.heap.get? b=some o->MF.get? b=some o:=λb o e=>hsb₁.extBut b o (below b (aiu e)) (aiq _ (hH2 ▸ aiq _ e));have hacc:∃k,MF.get? s2.heap.objs.size=some {cls:=.type "list",data:=.seq ([]:List Value).toArray k}:=⟨_,hsb₁.extBut _ _ hDC (aiq _ (hH2 ▸ aiC _ rfl))⟩;have look:∀y c,(mD X.env.cells aQ.names []).lookup y=some c->X.env.cells.lookup y=some c:=λy c e=>by
  rcases Mz _ _ y c e with q|q
  ·exact q
  ·cases q
 have fpD:∀b∈fp,b<s2.heap.objs.size:=λb hb=>by
  obtain⟨o,e,_⟩:=T.obj _ _ st2 b hb;exact aiu e
 have ok':(iu X (M++bV) aQ C s2 H2 fp XE).Ok:={
  mod:=I2.ok.mod
  kind:=S.kind
  glob:=I2.ok.glob
  blt:=I2.ok.blt
  above:=hCle
  inj:=λy z c e1 e2=>I2.ok.inj y z c (look y c e1) (look z c e2)
  has:=λy hy=>by
   have q:=Ho (aQ:=aQ) (env:=X.env) hy S.Am;exact Fe _ _ y q (I2.ok.has y (S.fr _ q rfl))
  cab:=λy c hf=>by cases hf
  hd:=I2.ok.hd
  frames:=I2.ok.frames
  stk:=.inl rfl
  exf:=λb hb=>⟨below b (fpD b hb),λy c e=>(f2 b hb).2.2.2.2.1 y c (look y c e)⟩
  bs:=I2.bs
  Rv:=aiv I2.ok.Rv I2.sz
  Dw:=λb o e hb=>by
   rcases(f2 b hb).2.2.2.1 with z|z
   ·exact I2.ok.Dw b o e z
   ·exact absurd (aiw (aiu e) (aiv I2.ok.Rv z)) (aiI _)
  GQ:=λb hb hf=>by
   rcases aiB.mp (I2.nR b hf) with z|z
   ·exact(f2 b hb).2.1 z
   ·exact(f2 b hb).2.2.1 z
  su:=I2.stack
  UG:=I2.vH}
 have Dfs:s2.heap.objs.size∉frs X.stack:=λhb=>by
  rcases aiB.mp (I2.nR _ hb) with z|z
  ·have q:=I2.lt
   rw[<-z]at q;exact aiI _ q
  ·exact I2.acg (aio _) z
 have abH:∀y c,X.env.cells.lookup y=some c->c≠s2.heap.objs.size:=λy c e z=>by
  obtain⟨v,q⟩:=I2.cell y c e;have q':=q.lt;rw[z]at q';exact aiI _ q'
 have aeT:∀p∈X.pn++aZ,p.1≠s2.heap.objs.size:=λp hp z=>by
  have q':=aiu (I2.pin p hp).1;rw[z]at q';exact aiI _ q'
 have I3:Inv (iu X (M++bV) aQ C s2 H2 fp XE) aZ (List.replicate M.length none++outs U lM) H2 {s2 with heap:=MF,toks:=s2.toks+([]:List (Str×Value)).length}:={
  ok:=ok'
  os:=rfl
  bare:=I2.bare
  base:=Un.kept old
  loc:=by
   refine⟨_,hns₁,λi y v e1 e2 e3=>?_⟩;by_cases hi':i<M.length
   ·rw[aj6 (by rw[ajc];exact hi'),akc,if_pos hi']at e2
    cases e2
   ·obtain⟨j,rfl⟩:∃j,i=M.length+j:=⟨i-M.length,by omega⟩
    have e1':bV[j]?=some y:=by
     have aeU:(M++bV)[M.length+j]?=some y:=e1;rw[ajt (ajb _ _),akd]at aeU;exact aeU
    have e2':(outs U lM)[j]?=some (some v):=by
     rw[ajt (by rw[ajc];exact ajb _ _),ajc,akd]at e2;exact e2
    obtain⟨k,hk,hN⟩:=S.ix j y e1';have hy:y∈bV:=aiS e1';have e4:U[k]?=some (some v):=by
     unfold outs at e2';rw[ai6,hk]at e2';have e5:(U[k]?).join=some v:=Option.some.inj e2';cases q:U[k]? with
     |none=>rw[q]at e5;cases e5
     |some o=>rw[q]at e5;exact congrArg some e5
    obtain⟨m,hn,hl⟩:=I2.loc;have Vc:=S.fr _ (S.cl y hy) rfl;have vis:Pu X.env.scope y:=by
     rcases Vc with z|z
     ·exact .inr (.inl z)
     ·exact .inr (.inr z)
    obtain⟨u,r,l⟩:=hl k y v hN e4 vis;refine⟨u,r, .inr ⟨mZ (env:=X.env) (hfl y hy),?_⟩⟩;rcases l with ⟨z,_⟩|⟨_,c,ec,ic⟩
    ·rcases Vc with z'|z'
     ·have z'':X.env.kindOf y=some .cell:=z'
      rw[z]at z'';cases z''
     ·have z'':X.env.kindOf y=some .free:=z'
      rw[z]at z'';cases z''
    ·obtain⟨c',ec'⟩:=Fe (cells:=X.env.cells) aQ.names [] y (S.cl y hy) ⟨c,ec⟩
     have:c'=c:=Option.some.inj ((look y c' ec').symm.trans ec);subst this;obtain⟨o,ho,hd⟩:=ic;exact⟨c',ec',o,old _ _ ho,hd⟩
  cell:=λy c e=>by
   obtain⟨v,o,ho,hd⟩:=I2.cell y c (look y c e);exact⟨v,o,old _ _ ho,hd⟩
  free:=I2.hok.fresh hCle
  kh:=λy c e=>I2.kh y c (look y c e)
  pin:=λp hp=>by
   obtain⟨e,n,ne,nf,d⟩:=I2.pin p hp;refine⟨old _ _ e,n,below _ (aiu e),λhb=>?_,d⟩;rcases aiB.mp (I2.nR _ hb) with z|z
   ·exact ne z
   ·exact nf z
  hok:=I2.hok.kept old
  len:=by simp[iu,fQ,outs,S.len]}
 have fok:∀{pp:List (Addr×Obj)} {H':Hp},(∀b∈fp,H' b=none)->(∀p∈pp,p.1=s2.heap.objs.size)->∀b∈fp,Ae (iu X (M++bV) aQ C s2 H2 fp XE) (aZ++pp) H' b:=λ{pp H'} hn hp b hb=>by
  obtain⟨_,f1,f2',f3,f4,f5⟩:=f2 b hb;refine⟨hn b hb,below b (fpD b hb),λhf=>?_, .inl hb,λy c e=>f4 y c (look y c e),λp hpp z=>?_⟩
  ·rcases aiB.mp (I2.nR b hf) with z|z
   ·exact f1 z
   ·exact f2' z
  ·have aeV:p∈X.pn++(aZ++pp):=hpp
   rw[<-aiD]at aeV;rcases List.mem_append.mp aeV with q|q
   ·exact f5 p q z
   ·have q':=fpD b hb
    rw[<-z,hp p q]at q';exact aiI _ q'
 have loop:∀s3:Shared,s3={s2 with heap:=MF,toks:=s2.toks+([]:List (Str×Value)).length}->
   codeAny (model X.prog X.w) X.A (.compLoop (.ListComp rZ [⟨tg,eX,ifs,0⟩] aQ pos) 0 (.ref it) (.ref s2.heap.objs.size) (compEnvC aQ (mD X.env.cells aQ.names []) C X.env))
    (compPost (model X.prog X.w) X.A X.xe use Q' (.ref s2.heap.objs.size) C) s3:=by
  rintro s3 rfl;obtain⟨k0,hacc⟩:=hacc;refine JT (λn s'=>∃i τ vs H' aU k,(τ:St).length=M.length/\Inv (iu X (M++bV) aQ C s2 H2 fp XE) aZ (τ++outs U lM) H' s'/\tn i s'.heap/\(∀b∈fp,H' b=none)/\H' s2.heap.objs.size=none/\
   s'.heap.get? s2.heap.objs.size=some {cls:=.type "list",data:=.seq aU.toArray k}/\Vals vs aU/\W i n vs H') (XE C s2 H2 fp) (hxe C s2 H2 fp s2.heap.objs.size I2 f2 hCle hDC) ?_ m0
   ⟨0,List.replicate M.length none,[],H2,[],k0,by simp,I3,T.keep _ _ _ st2 λb _ o e=>old b o e,λb hb=>(f2 b hb).1,I2.hok.fresh (aio _),hacc, .nil,w0⟩
  rintro n s' ⟨i,τ,vs,H',aU,k,lτ,I',st',fr',hD',hg',hv',w'⟩;obtain⟨fP,alt⟩:=turn i n vs H' w';have IP:Inv (iu X (M++bV) aQ C s2 H2 fp XE) (aZ++[(s2.heap.objs.size,{cls:=.type "list",data:=.seq aU.toArray k})]) (τ++outs U lM) H' s' :=
   I'.zL λp hp=>(List.mem_append.mp hp).elim (λz=>I'.pin p (ait _ z)) λz=>by
    have z':p=(s2.heap.objs.size,{cls:=.type "list",data:=.seq aU.toArray k}):=by simpa using z
    subst z';exact⟨hg',hD',hDC,Dfs,λv q=>by cases q⟩
  have FP:=fok (pp:=[(s2.heap.objs.size,{cls:=.type "list",data:=.seq aU.toArray k})]) fr' (λp hp=>by
   have z':p=(s2.heap.objs.size,{cls:=.type "list",data:=.seq aU.toArray k}):=by simpa using hp
   rw[z'])
  rcases alt with ⟨stop,qn⟩|⟨go,step⟩
  ·refine eU (T.done (iu X (M++bV) aQ C s2 H2 fp XE) rfl rfl rfl (hc C s2 H2 fp) i _ s' _ H' (XE C s2 H2 fp) IP FP st' stop) λr s4 ⟨hr,I4⟩=>?_
   subst hr;obtain⟨m4,hn4,_⟩:=id I4.loc;refine hpost s2.heap.objs.size C (upd H' s2.heap.objs.size (.lst vs)) m4 s4 hn4 (λh' hsb=>?_) (by rw[bI (Ne.symm hDC)];exact I4.free) (λz=>by have q:=I2.lt;rw[<-z]at q;exact aiI _ (aiw q hCle)) (I2.acg hCle) (aiv I2.sz hCle) (λz c e zz=>by
    obtain⟨v,q⟩:=I2.cell z c e;have q':=q.lt;rw[zz]at q';exact aiI _ (aiw q' hCle)) (λp hp zz=>by
    have q':=aiu (I2.pin p hp).1;rw[zz]at q';exact aiI _ (aiw q' hCle)) (qn _ hD')
   have gD:s4.heap.get? s2.heap.objs.size=some {cls:=.type "list",data:=.seq aU.toArray k}:=(I4.pin (s2.heap.objs.size,_) (ait _ (ait _ (List.mem_singleton.mpr rfl)))).1;have hx:∀b o,b≠C->s4.heap.get? b=some o->h'.get? b=some o:=λb o hb e=>(hsb.2 b hb).trans e;have J1:Inv X aZ U H' {s4 with heap:=h'}:=by
    refine I2.call' (ch:=fp) I4.os ⟨λb o e n hb hx'=>?_,λb o e n hb hx'=>?_,I4.base.free,λb o e hx'=>?_,I4.base.tups,I4.base.wW,I4.base.zj⟩ (λb u e=>?_) I4.bare λb hb=>?_
    ·exact hx b o (below b (aiu e)) (I4.base.keep b o e n hb hx')
    ·obtain⟨sl,q⟩:=I4.base.slot b o e n hb hx'
     exact⟨sl,hx b _ (below b (aiu e)) q⟩
    ·obtain⟨o',q⟩:=I4.base.there b o e hx'
     exact⟨o',hx b _ (below b (aiu e)) q⟩
    ·refine(I4.hok b u e).stay (λc v hcc q=>hx c v ?_ q) (λ_ q=>q) λ_ _ q=>q
     rintro rfl;rcases hcc with z|z
     ·rw[<-z]at e
      have:=I4.free;rw[show H' c=none from this]at e;cases e
     ·have:=I4.free
      rw[show H' c=none from this]at z;cases z
    ·obtain⟨_,f1,f2',f3,f4,f5⟩:=f2 b hb
     exact⟨f3,f1,f4,f5⟩
   exact J1.track hD' (ajN fP) hv' (hx _ _ hDC gD) (.inr I2.sz) (λz=>by have q:=I2.lt;rw[<-z]at q;exact aiI _ q) abH aeT
  ·refine eU (T.item (iu X (M++bV) aQ C s2 H2 fp XE) rfl rfl rfl (hc C s2 H2 fp) i _ s' _ H' (XE C s2 H2 fp) IP FP st' go) λr s4 ⟨u,hr,h4⟩=>?_
   subst hr;refine eU h4 λ_ s5 ⟨xv,H5,I5,r5,y5,Vr,fr5⟩=>?_;have I5':=I5.pinned (fok (pp:=[(s2.heap.objs.size,{cls:=.type "list",data:=.seq aU.toArray k})]) fr5 (λp hp=>by
    have z':p=(s2.heap.objs.size,{cls:=.type "list",data:=.seq aU.toArray k}):=by simpa using hp
    rw[z'])) (T.obj _ _ Vr)
   have q6:=step τ xv H5 lτ y5;refine eU (hg C s2 H2 fp _ s5 _ H5 xv _ _ I5' r5 q6) λ_ s6 ⟨U6,H6,I6,⟨τ6,e6,l6⟩,q6'⟩=>?_;subst e6;refine eU (ht C s2 H2 fp _ s6 _ H6 _ I6 q6') λb s7 ⟨H7,I7,q7⟩=>?_;have abI:∀{s8:Shared} {U8:St} {H8:Hp},Inv (iu X (M++bV) aQ C s2 H2 fp XE) ((aZ++[(s2.heap.objs.size,{cls:=.type "list",data:=.seq aU.toArray k})])++wY fp s5.heap) U8 H8 s8->
     tn (i+1) s8.heap/\(∀b∈fp,H8 b=none)/\H8 s2.heap.objs.size=none/\s8.heap.get? s2.heap.objs.size=some {cls:=.type "list",data:=.seq aU.toArray k}:=λ{s8 U8 H8} I8=>by
    refine⟨T.keep _ _ _ Vr λb hb o e=>(I8.pin (b,o) (ait _ (ait _ (lJ hb e)))).1,λb hb=>?_,?_,?_⟩
    ·obtain⟨o,e,d⟩:=T.obj _ _ Vr b hb
     exact(I8.pin (b,o) (ait _ (ait _ (lJ hb e)))).2.1
    ·exact(I8.pin (s2.heap.objs.size,_) (ait _ (aiY _ (ait _ (List.mem_singleton.mpr rfl))))).2.1
    ·exact(I8.pin (s2.heap.objs.size,_) (ait _ (aiY _ (ait _ (List.mem_singleton.mpr rfl))))).1
   cases b with
   |false=>
    rw[if_neg aip]at q7 ⊢;obtain⟨m',hm,w7⟩:=q7;obtain⟨a1,a2,a3,a4⟩:=abI I7;exact⟨m',hm,i+1,τ6,vs,H7,aU,k,l6,I7.jo.jo,a1,a2,a3,a4,hv',w7⟩
   |true=>
    rw[if_pos rfl]at q7 ⊢;refine eU (he C s2 H2 fp _ s7 _ H7 _ I7 q7) λu8 s8 ⟨v8,H8,I8,r8,m',hm,w8⟩=>?_;obtain⟨a1,a2,a3,a4⟩:=abI I8;refine wpAny_list_append_plain (items:=aU.toArray) ⟨k,a4⟩ (λh9 pl sb=>?_) (by rw[ais,<-hv'.length];exact ajN fP);obtain⟨k9,e9⟩:=pl;have ne:∀b∈fp,b≠s2.heap.objs.size:=λb hb=>ai7 (fpD b hb);have I9:Inv (iu X (M++bV) aQ C s2 H2 fp XE) aZ (τ6++outs U lM) H8 {s8 with heap:=h9} :=
     I8.jo.jo.turned (t':=s8.toks) (λb o hb e=>(sb.2 b hb).trans e) a3 hDC (.inr (aio _)) (λy c e=>abH y c (look y c e)) aeT
    refine⟨m',hm,i+1,τ6,vs++[v8],H8,aU++[u8],k9,l6,I9,T.keep _ _ _ a1 λb hb o e=>(sb.2 b (ne b hb)).trans e,a2,a3,?_,hv'.snoc r8,w8⟩;rw[List.push_toArray]at e9;exact e9
 exact codeAny_compStart_list (loop _ rfl) (T.self _ 0 _ _ _ (T.keep _ _ _ st2 λb _ o e=>old b o e) (loop _ rfl))
theorem Fl {X:Cx}{rZ eX tg:Expr}{M:List Str}{g:TG}{pos:Pos}{ifs:List Expr}{aQ:Scope}{bV:List Str}{lM:List Nat}{wi:TI}{tt:TT}{te:TE}
  {qt:Cx->Prop} (hc:∀C s₀ H₀ ex,qt (fQ X (M++bV) aQ C s₀ H₀ ex)) (S:qJ X bV lM aQ) (hfl:∀y∈bV,aQ.names.lookup y=some .free) (hi:PIQ qt X tg eX wi) (hg:∀C s₀ H₀ ex,PG (fQ X (M++bV) aQ C s₀ H₀ ex) tg g)
  (ht:∀C s₀ H₀ ex,Zm (fQ X (M++bV) aQ C s₀ H₀ ex) ifs tt) (he:∀C s₀ H₀ ex,PE (fQ X (M++bV) aQ C s₀ H₀ ex) rZ te)
  (hs:∀v,foldedSetIterable eX X.env v=pure v:=by intro _;rfl):PE X (.ListComp rZ [⟨tg,eX,ifs,0⟩] aQ pos) (xg M.length lM wi g tt te):=by
 intro aZ s U H Q I h;rw[eval_ListComp];exact Fj (M:=M) (g:=g) (XE:=noX) (use:=none) (Q':=EP X aZ U Q) (λC s₀ H₀ ex=>by rw[uW];exact hc C s₀ H₀ ex) S hfl hi (λC s₀ H₀ ex=>by rw[uW];exact hg C s₀ H₀ ex) (λC s₀ H₀ ex=>by rw[uW];exact ht C s₀ H₀ ex) (λC s₀ H₀ ex=>by rw[uW];exact he C s₀ H₀ ex) hs I h (λ_ _ _ _ _ _ _ _ _ _ _ (z:False)=>z.elim) λD C H' m4 s4 hn hJ _ _ _ _ _ _ q=>by
  show ∃m,s4.heap.Ns C m/\∀h',Heap.SameBut C s4.heap h'->EP X aZ U Q (.ref D) {s4 with heap:=h'};exact⟨m4,hn,λh' hsb=>⟨.ref D,H',hJ h' hsb,rfl,q⟩⟩
theorem ZW {J:It}{tt:TT}{te:TE}{U':St}{Q:VK}{H1:Hp}:MJ 1 J (oW 0) tt te U' Q H1=Fg J tt te U' Q H1:=by
 refine propext ⟨λ⟨W,h0,h⟩=>⟨W,h0,λi m vs H2 w=>?_⟩,λ⟨W,h0,h⟩=>⟨W,h0,λi m vs H2 w=>?_⟩⟩
 ·obtain⟨l,h⟩:=h i m vs H2 w
  exact⟨l,h.imp id λ⟨go,st⟩=>⟨go,λx H3 y=>(st [none] x H3 rfl y).2⟩⟩
 ·obtain⟨l,h⟩:=h i m vs H2 w
  refine⟨l,h.imp id λ⟨go,st⟩=>⟨go,λτ x H3 lτ y=>?_⟩⟩
  match τ,lτ with
  |[o],_=>exact⟨⟨[some x],rfl,rfl⟩,st x H3 y⟩
theorem Qi {lM:List Nat}{wi:TI}{tt:TT}{te:TE}:xg 1 lM wi (oW 0) tt te=Fi lM wi tt te:=by
 funext U H Q;unfold xg Fi;exact congrArg (wi U H) (funext λJ=>funext λH1=>ZW)
theorem V4 {X:Cx}{rZ eX:Expr}{x:Str}{px pos:Pos}{ifs:List Expr}{aQ:Scope}{bV:List Str}{lM:List Nat}{wi:TI}{tt:TT}{te:TE}
  {qt:Cx->Prop} (hc:∀C s₀ H₀ ex,qt (fQ X (x::bV) aQ C s₀ H₀ ex)) (S:w6 X x bV lM aQ) (hfl:∀y∈bV,aQ.names.lookup y=some .free) (hi:PIQ qt X (.Name x px) eX wi)
  (ht:∀C s₀ H₀ ex,Zm (fQ X (x::bV) aQ C s₀ H₀ ex) ifs tt) (he:∀C s₀ H₀ ex,PE (fQ X (x::bV) aQ C s₀ H₀ ex) rZ te)
  (hs:∀v,foldedSetIterable eX X.env v=pure v:=by intro _;rfl):PE X (.ListComp rZ [⟨.Name x px,eX,ifs,0⟩] aQ pos) (Fi lM wi tt te):=by
 have h:=Fl (M:=[x]) (g:=oW 0) (pos:=pos) hc ⟨S.kind,S.Am,S.loc,S.fr,S.ix,S.len,S.cl⟩ hfl hi (λC s₀ H₀ ex=>eO (i:=0) S.nd rfl (.inl (lookup_relabel_local S.tgt)) (.inr (lookup_relabel_local S.tgt))) ht he hs;exact Qi ▸ h
section
variable {X:Cx}
theorem JV:∀{bs:List Bool} {us:List Value},Vals (bs.map V.bl) us->LSm.BoolsAre us bs:=by
 intro bs
 induction bs with
 |nil=>intro us h;cases h;exact .nil
 |cons b r ih=>
  intro us h;cases h with
  |cons h1 h2=>
   cases(show _=Value.bool b from h1);exact .cons b (ih h2)
theorem Ao (hc:X.calm=true):jJ X (.builtin "all") (λxs H Q=>∃(p:Addr) (bs:List Bool),xs=[.ref p]/\dX X.K H p (bs.map V.bl)/\Q (.bl (bs.all id)) H):=by
 intro aZ s U H xs us Q I r h;obtain⟨p,bs,rfl,hq,q⟩:=h;obtain⟨u,rfl,rx⟩:=vals1 r;cases rx;obtain⟨aU,r',pl,hz⟩:=I.list hq;have hl:=pl.isList;have hb:=JV r';have vI:p<s.heap.objs.size:=by obtain⟨_,e,_⟩:=hl;exact aiu e
 refine call_all_walk (wpAny_pyIter_list hl ?_);refine⟨s.heap.objs.size,[s.heap.objs.size,p],[s.heap.objs.size],aU.toArray.size,_,_,λi=>(bs[i]?).getD true,rfl,Walks.list (A:=X.A.in1) (I.ok.hd hc) _ p (ai7 vI) aU.toArray,
  ⟨⟨_,aiC _ rfl,rfl,rfl⟩,hl.push _⟩,λi v s' Q' E' hP hQ=>?_,λh' tk hk=>?_⟩
 ·obtain⟨b,e,rfl⟩:=hb.get i v (by simpa using hP)
  simp only[e,Option.getD_some]at hQ;exact wpAny_truthy_bool hQ
 ·have e:((List.range aU.toArray.size).all λi=>(bs[i]?).getD true)=bs.all id:=by
   rw[ais,hb.length];exact LSm.range_all bs
  rw[e];exact⟨.bl (bs.all id),H,I.kept (LSm.kept_iter hk),rfl,q⟩
theorem d8:jJ X (.builtin "isinstance") (λxs H Q=>∃x t T b,xs=[x, .ty T]/\uT X.K H x t/\PySem.W.kitOne X.K t (.type T)=some b/\Q (.bl b) H):=by
 intro aZ s U H xs us Q I r h;obtain⟨x,t,T,b,rfl,ty,e,q⟩:=h;obtain⟨u,w',rfl,rx,ry⟩:=vals2 r;cases(show w'=Value.type T from ry);exact RG I rx ty e λtk=>⟨.bl b,H,I.tok tk,rfl,q⟩
theorem MK:UL X (λx lo hi H Q=>∃z,x=.str z/\z.length<=sizeLine/\Q (.str (Txt.slice z lo hi)) H):=by
 intro aZ s U H x v vl vu lo hi sl Q I rx hs pl pu h;obtain⟨z,rfl,hz,q⟩:=h;obtain⟨t,rfl⟩:=rx;refine⟨"str",_,F.slot_str_getitem.lookup,typeIs_str _ _ _,?_⟩;have fin:∀l u:Option (Int×Tok),vl=partValue l->vu=partValue u->l.map (·.1)=lo->u.map (·.1)=hi->wpAny (model X.prog X.w) X.A (getItem (.str z t) (.ref sl)) (EP X aZ U Q) X.xe s:=λl u e1 e2 e3 e4=>by
  subst e1 e2 e3 e4;refine wpAny_getItem_str_slice (l:=l) (u:=u) (st:=none) hs rfl (post_val_or_str ⟨aiv (Txt.slice_le z _ _) hz,λt' k=>⟨.str _,H,I.tok k,⟨t',rfl⟩,q⟩⟩)
 cases pl<;>cases pu<;>first
  |exact fin none none rfl rfl rfl rfl
  |exact fin none (some (_,_)) rfl rfl rfl rfl
  |exact fin (some (_,_)) none rfl rfl rfl rfl
  |exact fin (some (_,_)) (some (_,_)) rfl rfl rfl rfl
theorem uL:MtR X "str.startswith" (λx xs H Q=>∃z y,x=.str z/\xs=[.str y]/\Q (.bl (Txt.startswith z y)) H):=by
 intro aZ s U H x xs v us Q I rx rs h;obtain⟨z,y,rfl,rfl,q⟩:=h;obtain⟨t,rfl⟩:=rx;obtain⟨u,rfl,t',rfl⟩:=vals1 rs;exact SC.startswith ⟨.bl _,H,I,rfl,q⟩
theorem sS:∀l:List (Str×Tok),Vals ((l.map (·.1)).map V.str) (strValues l)
 |[]=>.nil
 |(x,t)::r=>.cons ⟨t,rfl⟩ (sS r)
theorem Aq:MtR X "str.split" (λx xs H Q=>∃z y,x=.str z/\xs=[.str y]/\z.length<=sizeLine/\1<=y.length/\(Txt.split z y).length<=sizeLine/\∀l,H l=none->Q (.ref l) (upd H l (.lst ((Txt.split z y).map V.str)))):=by
 intro aZ s U H x xs v us Q I rx rs h;obtain⟨z,y,rfl,rfl,hz,hy,hn,q⟩:=h;obtain⟨t,rfl⟩:=rx;obtain⟨u,rfl,t',rfl⟩:=vals1 rs;have hy':(y.length==0)=false:=by simp;exact ajP hy
 have fin:∀(l:List (Str×Tok)) (k:Nat),l.map (·.1)=Txt.split z y->EP X aZ U Q (.ref s.heap.objs.size) {s with toks:=k,heap:=s.heap.push {cls:=.type "list",data:=.seq (strValues l).toArray}}:=λl k e=>by
  have hv:=sS l;rw[e]at hv;refine⟨.ref s.heap.objs.size,_,I.aeP (t':=k) hv (by rw[aix];exact hn),rfl,q _ I.fresh⟩
 cases h1:(decide (z.length<y.length)||decide (Builtin.Str.strKind z<Builtin.Str.strKind y))
 ·cases hf:(Builtin.Str.occurrences z y 0 z.length (z.length+1)).isEmpty
  ·have e:Txt.split z y=Builtin.Str.partsBetween z (Builtin.Str.occurrences z y 0 z.length (z.length+1)) y.length:=(if_neg (ne_true_of_eq_false h1)).trans (if_neg (ne_true_of_eq_false hf))
   refine call_meets F.slot_str_split (typeIs_str _ _ _) F.entry_str_split (F.args_str_split_2 _ _) (meets_str_split_sep z y t t' h1 hy' hf hz (by rw[<-e];exact hn)) ?_;show EP X aZ U Q _ {s with toks:=_,heap:=s.heap.push {cls:=.type "list",data:=.seq (strsFrom s.toks (Builtin.Str.partsBetween z (Builtin.Str.occurrences z y 0 z.length (z.length+1)) y.length)).toArray}};rw[strsFrom_eq];exact fin (numbered s.toks _) _ ((numbered_texts _ _).trans e.symm)
  ·exact call_meets F.slot_str_split (typeIs_str _ _ _) F.entry_str_split (F.args_str_split_2 _ _) (meets_str_split_not_found z y t t' h1 hy' hf) (fin [(z,t)] s.toks ((if_neg (ne_true_of_eq_false h1)).trans (if_pos hf)).symm)
 ·exact call_meets F.slot_str_split (typeIs_str _ _ _) F.entry_str_split (F.args_str_split_2 _ _) (meets_str_split_cannot_occur z y t t' h1) (fin [(z,t)] s.toks (if_pos h1).symm)
theorem iw (hu:X.A.units<cLine):m8 X (compareOp .Eq) (λx y H Q=>∃a xs z,x=.ref a/\y=.str z/\dY X.K H a xs/\Q (.bl false) H):=by
 intro aZ s U H x y v u Q I rx ry h;obtain⟨a,xs,z,rfl,rfl,hq,q⟩:=h;cases rx;obtain⟨t,rfl⟩:=ry;obtain⟨aU,r,ht,hz⟩:=I.tuple hq;exact SeqAt.RcAt.tuple_str z t (show s.heap.IsTuple a aU.toArray from ht) hu _ _ _ _ ⟨.bl false,H,I,rfl,q⟩
theorem Ar {CX:G9}{k:Nat}{f:Addr}{fd:FuncData}{ps:List Str}{sp:Sp}{E:XK}{x:Str}{p pos:Pos}{e:Expr}{es:List Expr}{t:TA}{i:Nat}
  (F:cj X.prog X.w X.K X.mg X.base CX k f fd ps sp) (hr:jL k X.A) (hN:X.N[i]?=some x) (hv:Pu X.env.scope x) (hk:PySem.W.keepIn X.K (.ref f)=true) (hb:Binds X.K fd ps []) (hx:Passes CX X E)
  (ha:PA X (e::es) t) (hdb:(x==("__debug__":Str))=false:=by decide) (Du:(x==("__classdict__":Str))=false:=by decide) (he:starEach (e::es) X.env=(false,eval e X.env)::starEach es X.env:=by rfl) (rW:(backTo pos (starEach es X.env)).any (·.1)=false:=by rfl):
  PE X (.Call (.Name x p) (e::es) [] pos) (λU H Q=>U[i]?=some (some (.ref f))/\jh sp [] E t U H Q):=by
 intro aZ s U H Q I h;obtain⟨hi,h⟩:=h;refine wpAny_Call_Name_kw ?_;refine wpAny_mono (GR (pos:=p) hN hv hdb Du aZ s U H (λv H1=>v=.ref f/\H1=H) I ⟨_,hi,rfl,rfl⟩) (λu s1 ⟨v,H1,I1,r1,e1,e2⟩=>?_) (λ_ _ z=>z);subst e1 e2;cases r1;refine ajj (h₀:=X.base) I1.ok.mod.Vc hk (eU (ha pos aZ s1 U H1 _ I1 h) λus s2 ⟨vs,H2,I2,r,q⟩=>⟨I2.wR,?_⟩) he rW;exact Hg F hr hb .nil hx I2 r q
end
def Av (zP:Scope)(N:List Str)(x:Str)(bV:List Str)(lM:List Nat)(aQ:Scope):Bool :=
 aQ.kind==.function&&(aQ.names.all (λy=>y.2 !=.cell)&&(aQ.names.all (λy=>y.2 !=.local||aQ.names.lookup y.1==some .local)&&(aQ.names.all (λy=>y.2 !=.free||(zP.names.lookup y.1==some .cell||zP.names.lookup y.1==some .free))&&
 (aQ.names.lookup x==some .local&&(decide (x::bV).Nodup&&(lM.length==bV.length&&((lM.zip bV).all (λp=>N[p.1]?==some p.2)&&bV.all (λy=>aQ.names.lookup y==some .free))))))))
theorem zip_get {α β:Type}{l:List α}{r:List β}{j:Nat}{y:β}(e:l.length=r.length)(h:r[j]?=some y):∃k,l[j]?=some k/\(k,y)∈l.zip r:=by
 induction l generalizing r j with
 |nil=>cases r with
  |nil=>simp at h
  |cons=>cases e
 |cons a l ih=>cases r with
  |nil=>cases e
  |cons b r=>cases j with
   |zero=>cases h;exact⟨a,rfl,by simp⟩
   |succ j=>
    obtain⟨k,h1,h2⟩:=ih (j:=j) (Nat.succ.inj e) h;exact⟨k,h1,air _ h2⟩
theorem qK {X:Cx}{zP:Scope}{N:List Str}{x:Str}{bV:List Str}{lM:List Nat}{aQ:Scope}(h:Av zP N x bV lM aQ=true)(ho:X.env.scope=zP)(hN:X.N=N):
  w6 X x bV lM aQ/\∀y∈bV,aQ.names.lookup y=some .free:=by
 unfold Av at h;simp only[ain,ajq,aiM,bne_iff_ne,beq_iff_eq,decide_eq_true_eq]at h;obtain⟨h1,h2,h3,h4,h5,h6,h7,h8,h9⟩:=h;have fl:∀y∈bV,aQ.names.lookup y=some .free:=λy hy=>h9 y hy;refine⟨⟨h1,h2,λy hy e=>?_,h5,h6,λy hy e=>?_,λj y hj=>?_,h7,λy hy=>dB (fl y hy)⟩,fl⟩
 ·rcases h3 y hy with q|q
  ·exact absurd e q
  ·exact q
 ·have q:zP.names.lookup y.1=some .cell\/zP.names.lookup y.1=some .free:=by
   rcases h4 y hy with q|q
   ·exact absurd e q
   ·exact q
  rw[<-ho]at q;exact q
 ·obtain⟨k,e1,e2⟩:=zip_get h7 hj
  exact⟨k,e1,by rw[hN];exact h8 (k,y) e2⟩
theorem pR {X:Cx}{rZ eX:Expr}{x:Str}{px pos:Pos}{ifs:List Expr}{aQ:Scope}{wi:TI}{tt:TT}{te:TE}(zP:Scope)(N:List Str)(bV:List Str)(lM:List Nat)
  (hk:Av zP N x bV lM aQ=true) (hi:PI X (.Name x px) eX wi)
  (ht:∀C s₀ H₀ ex,Zm (fQ X (x::bV) aQ C s₀ H₀ ex) ifs tt) (he:∀C s₀ H₀ ex,PE (fQ X (x::bV) aQ C s₀ H₀ ex) rZ te)
  (ho:X.env.scope=zP:=by rfl) (hN:X.N=N:=by rfl) (hc:X.calm=true:=by rfl) (hs:∀v,foldedSetIterable eX X.env v=pure v:=by intro _;rfl):PE X (.ListComp rZ [⟨.Name x px,eX,ifs,0⟩] aQ pos) (Fi lM wi tt te):=by
 obtain⟨S,fl⟩:=qK (X:=X) hk ho hN;exact V4 (qt:=Calm) (λ_ _ _ _=>hc) S fl hi ht he hs
def Nx (n i:Nat)(p:Prop):Prop:=∃m',m'<n-i/\m'=n-(i+1)/\i+1<=n/\p
theorem nx {n i:Nat}{p:Prop}(h:i<n)(q:p):Nx n i p:=⟨n-(i+1),by omega,rfl,h,q⟩
theorem qL {lo:Int}{n:Nat}{tt:TT}{te:TE}{U':St}{Q:VK}{H:Hp}(Pv:Nat->List V->Hp->Prop)(h0:Pv 0 [] H)(fP:∀i vs H2,i<=n->Pv i vs H2->vs.length<sizeLine)
  (hs:∀i vs H2,i<n->Pv i vs H2->tt (some (.int (lo+i))::U') H2 λb H4=>if b=true then te (some (.int (lo+i))::U') H4 λv H5=>Nx n i (Pv (i+1) (vs++[v]) H5) else Nx n i (Pv (i+1) vs H4))
  (hd:∀vs H2,Pv n vs H2->∀l,H2 l=none->Q (.ref l) (upd H2 l (.lst vs))):Fg (Itr lo n) tt te U' Q H:=by
 refine⟨λi m vs H=>m=n-i/\i<=n/\Pv i vs H,⟨n,by simp,aiP _,h0⟩,?_⟩;rintro i m vs H2 ⟨rfl,hi,p⟩;refine⟨fP i vs H2 hi p,?_⟩;by_cases vI:i<n
 ·refine .inr ⟨vI,?_⟩
  rintro v H3 ⟨rfl,rfl⟩;exact hs i vs H3 vI p
 ·have e:i=n:=by exact ajx hi (Nat.not_lt.mp vI)
  subst e;exact .inl ⟨aio _,hd vs H2 p⟩
def vP (w:World)(p:Str×V)(e:DictEntry):Prop:=e.hash=hashStr w p.1/\(∃t,e.key=.str p.1 t)/\RelV p.2 e.val
def oX (K:PySem.W.Frag)(w:World)(a:Addr)(fs:List (Str×V)):Prop :=
 (a==sysModules)=false/\∃o es ep,K.lookup a=some o/\o.ExactDict/\o.data=.dict es ep/\Paired (vP w) fs es.toList
theorem Hq {w:World}{P:Program}{fs:List (Str×V)}{es:List DictEntry}(k:Str)(hh:Paired (vP w) fs es):wV (fs.lookup k) ((es.find? λe=>(strKind P w).is k e.key).map (·.val)):=by
 induction hh with
 |nil=>trivial
 |@cons p e _ _ h t ih=>
  obtain⟨h1,⟨t',h2⟩,h3⟩:=h;obtain⟨x,v⟩:=p;rw[aiH,List.find?_cons];have q:(strKind P w).is k e.key=(k==x):=by
   show Value.isStrOf k e.key=_;rw[h2];show Value.isStrOf k (.str x t')=_;rw[ai1];simp[Value.isStrOf]
   first|done|(constructor<;>intro z<;>first|exact z|exact z.symm)
  rw[q];cases k==x with
  |true=>exact h3
  |false=>exact ih
section
variable {X:Cx}{aZ:List (Addr×Obj)}{U:St}{H:Hp}{s:Shared}
theorem Inv.Qj {a:Addr}{fs:List (Str×V)}(I:Inv X aZ U H s)(d:oX X.K X.w a fs):∃f,s.heap.MapOf (strKind X.prog X.w) a f/\∀k,wV (fs.lookup k) (f k):=by
 obtain⟨_,o,es,ep,h1,h2,h3,h4⟩:=d;refine⟨λk=>findBy (strKind X.prog X.w).is es k,⟨o,es,ep,I.wR _ _ h1,h2,h3,λe he=>?_,λk=>rfl⟩,λk=>?_⟩
 ·have key:∀{fs:List (Str×V)} {l:List DictEntry},Paired (vP X.w) fs l->e∈l->∃k,(strKind X.prog X.w).is k e.key=true/\e.hash=(strKind X.prog X.w).hash k:=by
   intro fs l p
   induction p with
   |nil=>intro hm;cases hm
   |@cons p e' l₁ l₂ h t ih=>
    intro hm;rcases aiB.mp hm with rfl|hm
    ·obtain⟨q1,⟨t',q2⟩,_⟩:=h
     refine⟨p.1,?_,q1⟩;show Value.isStrOf p.1 e.key=true;rw[q2];simp[Value.isStrOf]
    ·exact ih hm
  exact key h4 (Array.mem_toList_iff.mpr he)
 ·have q:=Hq (P:=X.prog) k h4
  show wV (fs.lookup k) ((Array.find? (λe=>(strKind X.prog X.w).is k e.key) es).map (·.val));rw[<-Array.find?_toList];exact q
theorem Aw:m8 X (compareOp .In) (λx y H Q=>∃z a fs,x=.str z/\y=.ref a/\oX X.K X.w a fs/\Q (.bl (fs.lookup z).isSome) H):=by
 intro aZ s U H x y v u Q I rx ry h;obtain⟨z,a,fs,rfl,rfl,d,q⟩:=h;obtain⟨t,rfl⟩:=rx;cases ry;obtain⟨f,hm,hf⟩:=I.Qj d;refine wpAny_in_of (knd:=strKind X.prog X.w) (k:=z) (by show Value.isStrOf z (.str z t)=true;simp[Value.isStrOf]) d.1 hm ?_;have e:(f z).isSome=(fs.lookup z).isSome:=by
  have:=hf z;cases h1:fs.lookup z with
  |none=>rw[h1]at this;rw[wV.none_of this];rfl
  |some v=>rw[h1]at this;obtain⟨u,e,_⟩:=wV.some_of this;rw[e];rfl
 rw[e];exact⟨.bl _,H,I.tok _,rfl,q⟩
theorem Qk:IxR X (λx y H Q=>∃z a fs v,x=.ref a/\y=.str z/\oX X.K X.w a fs/\fs.lookup z=some v/\Q v H):=by
 intro value slice aZ s U H x y v u Q I rx ry h hs;obtain⟨z,a,fs,r,rfl,rfl,d,hl,q⟩:=h;cases rx;obtain⟨t,rfl⟩:=ry;obtain⟨f,hm,hf⟩:=I.Qj d;have:=hf z;rw[hl]at this;obtain⟨w',e,RL⟩:=wV.some_of this;exact tail_any (ops:=[.ref a, .str z t]) hm.typeIs PySem.F.slot_dict_getitem.lookup (wpAny_getItem_of (knd:=strKind X.prog X.w) (k:=z) (by show Value.isStrOf z (.str z t)=true;simp[Value.isStrOf]) hm e ⟨r,H,I.tok _,RL,q⟩) hs
theorem JW {CX:G9}{func:Expr}{tf:TE}{pos:Pos}{e:Expr}{es:List Expr}{t:TA}{E:XK}(ok:Addr->Sp->Prop)
  (hok:∀f sp,ok f sp->∃k fd ps,cj X.prog X.w X.K X.mg X.base CX k f fd ps sp/\jL k X.A/\PySem.W.keepIn X.K (.ref f)=true/\Binds X.K fd ps []) (hf:PE X func tf) (hx:Passes CX X E)
  (ha:PA X (e::es) t) (hev:eval (.Call func (e::es) [] pos) X.env=(do callWith pos (<-eval func X.env) [] (backTo pos (starEach (e::es) X.env)) (backToKw pos (keywordEach [] X.env))):=by rfl)
  (he:starEach (e::es) X.env=(false,eval e X.env)::starEach es X.env:=by rfl) (rW:(backTo pos (starEach es X.env)).any (·.1)=false:=by rfl):
  PE X (.Call func (e::es) [] pos) (λU H Q=>tf U H λx H1=>∃f sp,x=.ref f/\ok f sp/\jh sp [] E t U H1 Q):=by
 intro aZ s U H Q I h;refine Call_ (eU (hf aZ s U H _ I h) λu s1 ⟨x,H1,I1,r1,f,sp,ex,hfo,q⟩=>?_) hev;subst ex;cases r1;obtain⟨k,fd,ps,F,hr,hk,hb⟩:=hok f sp hfo;refine ajj (h₀:=X.base) I1.ok.mod.Vc hk (eU (ha pos aZ s1 U H1 _ I1 q) λus s2 ⟨vs,H2,I2,r,q2⟩=>⟨I2.wR,?_⟩) he rW;exact Hg F hr hb .nil hx I2 r q2
end
theorem xq:fillsNumberSlot (.type "tuple") "mul"=pure false :=
 PySem.fillsNumberSlot_seq (id:="tuple.__mul__") (r:=some (.builtin "tuple.__rmul__")) PySem.F.slot_tuple_mul.lookup (by decide+kernel) PySem.F.slot_tuple_rmul.lookup (by decide+kernel)
theorem Hr:seqRepeat? (.type "tuple")=pure (some (.builtin "tuple.__mul__")):=by
 unfold seqRepeat?;rw[PySem.seqSlot_of (T:="tuple") (name:="__mul__") (id:="tuple.__mul__") PySem.F.slot_tuple_mul.lookup (by decide+kernel),PySem.seqSlot_of (T:="tuple") (name:="__rmul__") (id:="tuple.__rmul__") PySem.F.slot_tuple_rmul.lookup (by decide+kernel)]
 rfl
theorem Ax (a:Int)(t:Tok)(l:Addr)(items:Array Value)(n:Nat)(dd:Option Addr)(sl:Array (Option Value)):
  Meets (Builtin.«int.__rmul__» ⟨[.int a t, .ref l],[]⟩) (λ_ R s=>s.heap.get? l=some {cls:=.type "tuple",dict:=dd,data:=.seq items n,slots:=sl}/\R (.ok (.ret Value.notImplemented)) s) :=
 .of_wp λprog w A R s h=>by obtain⟨hp,g,d,tk,os⟩:=s;obtain⟨hl,h⟩:=h;have f1:=PySem.F.sub_int_tuple;wp_walk using wpAny_loadPart' hl;exact⟨_,rfl,h⟩
theorem RT (l:Addr)(items:Array Value)(n:Nat)(dd:Option Addr)(sl:Array (Option Value))(k:Nat)(u:Tok)(hk:2<=k)(hk2:k<=1000)(he:items.isEmpty=false)(hz:items.size*k<=100000):
  Meets (Builtin.«tuple.__mul__» ⟨[.ref l, .int (k:Int) u],[]⟩) (λ_ R s=>s.heap.get? l=some {cls:=.type "tuple",dict:=dd,data:=.seq items n,slots:=sl}/\
   R (.ok (.ret (Value.ref s.heap.objs.size))) {s with heap:=s.heap.push {cls:=Value.type "tuple",data:=Data.seq (List.foldl (λx1 x2=>x1++x2) #[] (List.replicate (k:Int).toNat items))},toks:=s.toks}) :=
 .of_wp λprog w A R s h=>by
  obtain⟨hp,g,d,tk,os⟩:=s;obtain⟨hl,h⟩:=h;have f1:=AutoSeq1.idx_int;have f2:=AutoSeq1.sub_tuple_tuple;have hs:((items.size:Int)*(k:Int))<=100000:=by
   have q:((items.size*k:Nat):Int)<=((100000:Nat):Int):=Int.ofNat_le.mpr hz;rw[Int.natCast_mul]at q;exact q
  have c1:(decide ((k:Int)< -2^63)||decide ((k:Int)>=2^63))=false:=by
   rw[decide_eq_false (by omega),decide_eq_false (by omega)];rfl
  have c2:(items.isEmpty||(k:Int)==1)=false:=by
   rw[he,Bool.false_or];exact beq_false_of_ne (by omega)
  have c3:(decide ((k:Int)<=0)||items.isEmpty)=false:=by
   rw[he,decide_eq_false (by omega)];rfl
  have c4:decide ((items.size:Int)*(k:Int)>(2^63-1) / 8)=false:=decide_eq_false (by omega);have c5:Builtin.Tuple.tupleTooMany ((items.size:Int)*(k:Int))=false:=by
   unfold Builtin.Tuple.tupleTooMany;have:(100000:Int)<=((sizeLine:Nat):Int):=by decide
   exact decide_eq_false (by omega)
  wp_walk using wpAny_loadPart' hl
  refine wpAny_ite_false (decide_eq_false (by rw[c1];exact aip)) ?_
  wp_walk using wpAny_loadPart' hl
  refine wpAny_ite_false (decide_eq_false (by rw[c2];exact aip)) ?_;refine wpAny_ite_false (decide_eq_false (by rw[c3];exact aip)) ?_;refine wpAny_ite_false c4 ?_;refine wpAny_ite_false (decide_eq_false (by rw[c5];exact aip)) ?_;have hsz:(List.foldl (λx1 x2=>x1++x2) #[] (List.replicate (k:Int).toNat items)).size<=sizeLine:=by
   have q:=foldl_rep items.toList (k:Int).toNat [];have e:(List.foldl (λx1 x2=>x1++x2) #[] (List.replicate (k:Int).toNat items))=(List.replicate k items.toList).flatten.toArray:=by simpa using q
   rw[e,ais,len_rep,aju];have:(100000:Nat)<=sizeLine:=by decide
   have z:=Nat.mul_comm k items.size;omega
  wp_walk
  refine wpAny_ite_false (decide_eq_false (Nat.not_lt.mpr hsz)) ?_
  wp_walk
  exact⟨_,rfl,h⟩
section
variable {X:Cx}
theorem ZX:m8 X (binaryOp .Mult) (λx y H Q=>∃(a:Addr) (xs:List V) (k:Nat),x=.ref a/\y=.int k/\dY X.K H a xs/\xs≠[]/\2<=k/\k<=1000/\xs.length*k<=100000/\∀p,H p=none->Q (.ref p) (upd H p (.tup (List.replicate k xs).flatten))):=by
 intro aZ s U H x y v u Q I rx ry h;obtain⟨a,xs,k,rfl,rfl,hq,hne,hk,hk2,hz,q⟩:=h;cases rx;obtain⟨t,rfl⟩:=ry;obtain⟨aU,r,ht,hzz⟩:=I.tuple hq;obtain⟨⟨cls,dd,data,sl⟩,ho,hc,n,hd⟩:=id ht;simp only at hc hd;subst hc hd;have hl:=r.length;have he:aU.toArray.isEmpty=false:=by
  cases aU with
  |nil=>rw[aiZ]at hl;exact absurd (List.length_eq_zero_iff.mp hl) hne
  |cons b c=>rfl
 refine wpAny_binaryOp_repeat_ref (T:="tuple") (U:="int") (by decide) ⟨_,ho,rfl⟩ (λs'=>typeIs_int s' k t) xq PySem.F.fills_int_mul PySem.F.slot_int_rmul Hr PySem.F.slot_int_index.lookup
  (call_meets PySem.F.slot_int_rmul (typeIs_int s k t) PySem.F.entry_int_rmul (PySem.F.args_int_rmul_2 _ _) (Ax k t a aU.toArray n dd sl)
   ⟨ho,rfl,⟨_,ho,rfl⟩,call_meets PySem.F.slot_tuple_mul ⟨_,ho,rfl⟩ PySem.F.entry_tuple_mul (PySem.F.args_tuple_mul_2 _ _) (RT a aU.toArray n dd sl k t hk hk2 he (by rw[ais,<-hl];exact hz)) ⟨ho,?_⟩⟩)
 have e:(List.foldl (λx1 x2=>x1++x2) #[] (List.replicate (k:Int).toNat aU.toArray))=(List.replicate k aU).flatten.toArray:=by
  have q:=foldl_rep aU (k:Int).toNat [];simpa using q
 rw[e];have fP:(List.replicate k xs).flatten.length<=sizeLine:=by
  rw[len_rep];have:(100000:Nat)<=sizeLine:=by decide
  have z:=Nat.mul_comm k xs.length;exact aiv (ajQ z) (aiv hz (by decide))
 have I2:Inv X aZ U (upd H s.heap.objs.size (.tup (List.replicate k xs).flatten)) {s with heap:=s.heap.push {cls:=.type "tuple",data:=.seq (List.replicate k aU).flatten.toArray}} :=
  I.laid (t':=s.toks) (λb o e=>aiq _ e) (aio _) (show iM X.prog X.w _ _ _ (.tup (List.replicate k xs).flatten) from⟨fP,_,r.rep k,IsTup.new _ _⟩)
 exact⟨.ref s.heap.objs.size,_,I2,rfl,q _ I.fresh⟩
theorem V5:aev X (λx y H Q=>∃(p:Addr) (xs:List V) (i:Nat) (v:V),x=.ref p/\y=.int i/\dX X.K H p xs/\xs[i]?=some v/\Q v H):=by
 intro aZ s U H o i ov iv Q I ro ri h;obtain⟨p,xs,k,v,rfl,rfl,hq,hv,q⟩:=h;cases ro;obtain⟨t,rfl⟩:=ri;obtain⟨aU,r,pl,hz⟩:=I.list hq;obtain⟨w,ew,RL⟩:=r.get hv;have hn:=sH;have hl:=r.length;have hk:k<xs.length:=by
  rcases Nat.lt_or_ge k xs.length with z|z
  ·exact z
  ·rw[List.getElem?_eq_none_iff.mpr z]at hv;cases hv
 exact wpAny_getItem_list pl.isList (by omega) (by omega) (by simpa using ew) ⟨v,H,I,RL,q⟩
end
end L2
namespace Fw
open PySem PySem.Spec PyProof.Rows L2
def jr (c:Nat):List Nat->List (List Nat)
 |[]=>[[]]
 |a::r=>if a=c then[]::jr c r else match jr c r with
  |p::ps=>(a::p)::ps
  |[]=>[[a]]
theorem Hs (c:Nat):∀l,jr c l≠[]
 |[]=>by simp[jr]
 |a::r=>by
  unfold jr;split
  ·simp
  ·split<;>simp
theorem pU {c:Nat}:∀{l:List Nat},c∉l->jr c l=[l]
 |[],_=>rfl
 |a::r,h=>by
  have h1:a≠c:=λe=>h (by simp[e]);have h2:c∉r:=λe=>h (air _ e);unfold jr;rw[if_neg h1,pU h2]
theorem Ay {c:Nat}:∀{l:List Nat} (r:List Nat),c∉l->jr c (l++c::r)=l::jr c r
 |[],r,_=>by simp[jr]
 |a::l,r,h=>by
  have h1:a≠c:=λe=>h (by simp[e]);have h2:c∉l:=λe=>h (air _ e);rw[ai0]
  conv=>lhs;unfold jr
  rw[if_neg h1,Ay r h2]
theorem Fo (c:Nat):∀(ps:List Str),ps≠[]->(∀p∈ps,c∉p.cps.toList)->jr c (Str.join ⟨#[c]⟩ ps).cps.toList=ps.map (·.cps.toList)
 |[],h,_=>absurd rfl h
 |[p],_,hf=>by
  show jr c p.cps.toList=[p.cps.toList];exact pU (hf p (by simp))
 |p::q::r,_,hf=>by
  have ih:=Fo c (q::r) (by simp) λx hx=>hf x (air _ hx);show jr c (p++⟨#[c]⟩++Str.join ⟨#[c]⟩ (q::r)).cps.toList=_;have e:(p++⟨#[c]⟩++Str.join ⟨#[c]⟩ (q::r)).cps.toList=p.cps.toList++c::(Str.join ⟨#[c]⟩ (q::r)).cps.toList:=by
   show((p.cps++#[c])++(Str.join ⟨#[c]⟩ (q::r)).cps).toList=_;simp
  rw[e,Ay _ (hf p (by simp)),ih]
  rfl
theorem V6 (c:Nat):∀l,(0:Int)<=cnt c l
 |[]=>Int.le_refl 0
 |n::r=>by
  have:=V6 c r;rw[cnt_cons];split<;>omega
theorem pW (x:Str)(c:Nat):(Txt.split x ⟨#[c]⟩).map (·.cps.toList)=jr c x.cps.toList:=by
 have h1:=StrLaws.join_split x ⟨#[c]⟩;have h2:=StrLaws.split_free x c;by_cases e:Txt.split x ⟨#[c]⟩=[]
 ·exfalso
  have:=split_len x c;rw[e]at this;have h3:=V6 c x.cps.toList;simp at this;omega
 ·have:=Fo c _ e h2
  rw[h1]at this;exact this.symm
theorem acD (x:Str)(h:1<=x.length):Txt.slice x (some 1) none=⟨(x.cps.toList.drop 1).toArray⟩:=by
 have q:=slice_closes_fromL (x:=x) (i:=1) (b:=x.length) (by omega) (by omega) rfl;have q':=eq_of_beq q;rw[q'];have e:((x.length:Int)-1).toNat=(x.cps.toList.drop 1).length:=by
  rw[ai5];show _=x.cps.toList.length-1;have:x.cps.toList.length=x.length:=by simp[Str.length]
  omega
 have e2:((x.cps.toList.drop (1:Int).toNat).take ((x.length:Int)-1).toNat)=x.cps.toList.drop 1:=by
  rw[e];show(x.cps.toList.drop 1).take (x.cps.toList.drop 1).length=_;exact ajr
 first
  |exact congrArg (λl=>(⟨l.toArray⟩:Str)) e2
  |(rw[e2])
def gH:Str:="abcdefghijklmnopqrstuvwxyz"
def jt:Str:="ABCDEFGHIJKLMNOPQRSTUVWXYZ"
def ju:List Str:=["num","fun","call","let","ring","case","make","pick","plus","minus","times","less","if","kind","record","face","hide","val","part","maker","apply","main"]
def zQ (y:Str)(c:Nat):Bool:=decide (c∈y.cps.toList)
def pB (z y:Str):Bool:=z.cps.toList.all (zQ y)
def nY (z:Str):Bool:=decide (1<=z.length)&&decide (z.length<=8)
def eG (z:Str):Bool:=nY z&&pB z gH
def nameB (z:Str):Bool:=eG z&& !decide (z∈ju)
def jk (z:Str):Str:=⟨(z.cps.toList.drop 1).toArray⟩
def bJ (z:Str):Bool:=nY z&&(zQ jt (z.cps.toList.getD 0 0)&&pB (jk z) gH)
def dN (z:Str):Bool:=match jr 46 z.cps.toList with
 |[a,b]=>bJ ⟨a.toArray⟩&&nameB ⟨b.toArray⟩
 |_=>false
def iz (z:Str):Bool:=decide (z.cps.toList.head?=some 63)&&eG (jk z)
def jK (z:Str):Bool:=decide (z="num")||iz z||nameB z||dN z
def iR (z:Str):Bool:=nameB z||dN z
theorem bT (z:Str):z.cps.toList.length=z.length:=by simp[Str.length]
theorem m9 {a b:Str}(h:a.cps.toList=b.cps.toList):a=b:=by
 cases a;cases b;simp only[Str.mk.injEq];exact Array.toList_inj.mp h
theorem mH {c:Nat}(h:zQ gH c=true):97<=c/\c<=122:=by
 have h':c∈gH.cps.toList:=of_decide_eq_true h;have:∀d∈gH.cps.toList,97<=d/\d<=122:=by decide+kernel
 exact this c h'
theorem yP {c:Nat}(h:zQ jt c=true):65<=c/\c<=90:=by
 have h':c∈jt.cps.toList:=of_decide_eq_true h;have:∀d∈jt.cps.toList,65<=d/\d<=90:=by decide+kernel
 exact this c h'
theorem Az:gH.length=26:=by decide+kernel
theorem Bb:jt.length=26:=by decide+kernel
structure sU (z:Str)(n:Nat):Prop where
 len:z.length=n
 all:pB z gH=true
theorem sU.mem {z:Str}{n:Nat}(h:sU z n){c:Nat}(hc:c∈z.cps.toList):97<=c/\c<=122 :=
 mH (ajq.mp h.all c hc)
theorem RV:sU "" 0:=⟨by decide+kernel,by decide+kernel⟩
theorem jO (a b:Str):(a++b).cps.toList=a.cps.toList++b.cps.toList:=by
 show(a.cps++b.cps).toList=_;simp
theorem len_app (a b:Str):(a++b).length=a.length+b.length:=by
 rw[<-bT,jO,aiG,bT,bT]
theorem MN {z:Str}{n:Nat}{c:Nat}(h:sU z n)(hc:c∈gH.cps.toList):sU (z++⟨#[c]⟩) (n+1):=by
 refine⟨by rw[len_app,h.len];rfl,?_⟩;unfold pB;rw[jO,List.all_append];have:=h.all;unfold pB at this;rw[this];simp[zQ,hc]
theorem acE:∀k∈ju,nameB (k++"q")=true:=by decide+kernel
theorem MP {z:Str}{n:Nat}(h:sU z n)(h1:1<=n)(h2:n<=8)(hk:z∉ju):nameB z=true:=by
 unfold nameB eG nY;rw[h.len,h.all,decide_eq_true h1,decide_eq_true h2,decide_eq_false hk]
 rfl
theorem pX {z:Str}(h:nameB z=true):∃n,sU z n/\1<=n/\n<=8/\z∉ju:=by
 unfold nameB eG nY at h;simp only[ain,decide_eq_true_eq,aiN,decide_eq_false_iff_not]at h;exact⟨z.length,⟨rfl,h.1.2⟩,h.1.1.1,h.1.1.2,h.2⟩
theorem V7 {c:Nat}{z:Str}{n:Nat}(hc:c∈jt.cps.toList)(h:sU z n)(h2:n<=7):bJ (⟨#[c]⟩++z)=true:=by
 have e:(⟨#[c]⟩++z:Str).cps.toList=c::z.cps.toList:=by rw[jO];rfl
 have er:jk (⟨#[c]⟩++z)=z:=by
  apply m9;unfold jk;rw[e];simp
 have el:(⟨#[c]⟩++z:Str).length=n+1:=by rw[len_app,h.len];show 1+n=n+1;omega
 unfold bJ nY;rw[el,er,e,h.all];simp[zQ,hc];exact h2
theorem jY {z:Str}(h:bJ z=true):∃c r,z.cps.toList=c::r/\65<=c/\c<=90/\(∀d∈r,97<=d/\d<=122)/\r.length<=7:=by
 unfold bJ nY at h;simp only[ain,decide_eq_true_eq]at h;obtain⟨⟨h1,h2⟩,h3,h4⟩:=h;cases e:z.cps.toList with
 |nil=>rw[<-bT,e]at h1;simp at h1
 |cons c r=>
  rw[e]at h3;have h3':zQ jt c=true:=h3;refine⟨c,r,rfl,(yP h3').1,(yP h3').2,λd hd=>?_,?_⟩
  ·unfold pB jk at h4
   rw[e]at h4;exact mH (ajq.mp h4 d (by simpa using hd))
  ·rw[<-bT,e]at h2
   simp at h2;exact h2
theorem uX {z:Str}(h:46∉z.cps.toList):dN z=false:=by
 unfold dN;rw[pU h]
theorem Fp {z:Str}(h:z.cps.toList.head?≠some 63):iz z=false:=by
 unfold iz;rw[decide_eq_false h]
 rfl
theorem JX {z:Str}{c:Nat}(hc:c∈z.cps.toList)(h:¬(97<=c/\c<=122)):nameB z=false:=by
 cases e:nameB z with
 |false=>rfl
 |true=>
  obtain⟨n,hl,_⟩:=pX e;exact absurd (hl.mem hc) h
theorem M4:("num":Str).cps.toList=[110,117,109]:=by decide+kernel
theorem RW {z:Str}(h:bJ z=true):jK z=false/\iR z=false:=by
 obtain⟨c,r,e,h1,h2,h3,h4⟩:=jY h;have n1:nameB z=false:=JX (c:=c) (by rw[e];simp) (by omega);have n2:dN z=false:=uX (by
  rw[e];intro hm;rcases aiB.mp hm with q|q
  ·omega
  ·have:=h3 _ q;omega)
 have n3:iz z=false:=Fp (by rw[e];simp;omega);have n4:decide (z=("num":Str))=false:=decide_eq_false (λq=>by
  rw[q,M4]at e;cases e;omega)
 unfold jK iR;rw[n1,n2,n3,n4];exact⟨rfl,rfl⟩
theorem acF {z:Str}{n:Nat}(h:sU z n)(h1:1<=n)(h2:n<=8):iz ("?"++z)=true:=by
 have e:("?"++z:Str).cps.toList=63::z.cps.toList:=by rw[jO];rfl
 have er:jk ("?"++z)=z:=by
  apply m9;unfold jk;rw[e];simp
 unfold iz eG nY;rw[er,e,h.len,h.all,decide_eq_true h1,decide_eq_true h2];simp
theorem Z0 {z:Str}(h:iz z=true):iR z=false:=by
 unfold iz at h;simp only[ain,decide_eq_true_eq]at h;obtain⟨h1,h2⟩:=h;cases e:z.cps.toList with
 |nil=>rw[e]at h1;cases h1
 |cons c r=>
  rw[e]at h1;cases h1;have n1:nameB z=false:=JX (c:=63) (by rw[e];simp) (by omega);have n2:dN z=false:=uX (by
   rw[e];intro hm;rcases aiB.mp hm with q|q
   ·omega
   ·unfold eG pB jk at h2
    rw[e]at h2;simp only[ain]at h2;have:=mH (ajq.mp h2.2 46 (by simpa using q));omega)
  unfold iR;rw[n1,n2]
  rfl
theorem Z1 {g z:Str}(hg:bJ g=true)(hz:nameB z=true):dN (g++"."++z)=true:=by
 obtain⟨c,r,e,h1,h2,h3,h4⟩:=jY hg;obtain⟨n,hl,_⟩:=pX hz;have eg:(g++"."++z:Str).cps.toList=g.cps.toList++46::z.cps.toList:=by
  rw[jO,jO];simp
  rfl
 have vQ:46∉g.cps.toList:=by
  rw[e];intro hm;rcases aiB.mp hm with q|q
  ·omega
  ·have:=h3 _ q;omega
 have z46:46∉z.cps.toList:=λhm=>by have:=hl.mem hm;omega
 unfold dN;rw[eg,Ay _ vQ,pU z46];show(bJ ⟨g.cps.toList.toArray⟩&&nameB ⟨z.cps.toList.toArray⟩)=true;have a:(⟨g.cps.toList.toArray⟩:Str)=g:=m9 (by simp);have b:(⟨z.cps.toList.toArray⟩:Str)=z:=m9 (by simp);rw[a,b,hg,hz]
 rfl
theorem Z2:iR "num"=false/\jK "num"=true:=by decide+kernel
theorem RX:jK "->"=false/\iR "->"=false:=by decide+kernel
inductive T where
 |int (i:Int)
 |str (x:Str)
 |tup (l:List T)
mutual
def T.sz:T->Nat
 |.int _=>1
 |.str _=>1
 |.tup l=>1+d9 l
def d9:List T->Nat
 |[]=>0
 |t::r=>t.sz+d9 r
end
theorem xr:∀t:T,1<=t.sz
 |.int _=>by simp[T.sz]
 |.str _=>by simp[T.sz]
 |.tup l=>by simp[T.sz]
theorem iB:∀(a b:List T),d9 (a++b)=d9 a+d9 b
 |[],b=>by simp[d9]
 |t::r,b=>by simp[d9,iB r b,Nat.add_assoc]
theorem Ht:∀l:List T,l.length<=d9 l
 |[]=>by simp[d9]
 |t::r=>by
  have:=Ht r;have:=xr t;simp[d9];omega
mutual
inductive Rep (H:Hp):V->T->Prop where
 |int (i:Int):Rep H (.int i) (.int i)
 |str (x:Str) (h:x.length<=100000):Rep H (.str x) (.str x)
 |tup {a:Addr} {vs:List V} {ts:List T} (h:H a=some (.tup vs)) (r:cB H vs ts):Rep H (.ref a) (.tup ts)
inductive cB (H:Hp):List V->List T->Prop where
 |nil:cB H [] []
 |cons {v:V} {t:T} {vs:List V} {ts:List T} (r:Rep H v t) (q:cB H vs ts):cB H (v::vs) (t::ts)
end
mutual
theorem Rep.mono {H H':Hp}(e:∀b xs,H b=some (.tup xs)->H' b=some (.tup xs)):∀{v:V} {t:T},Rep H v t->Rep H' v t
 |_,_, .int i=>.int i
 |_,_, .str x h=>.str x h
 |_,_, .tup h r=>.tup (e _ _ h) (cB.mono e r)
theorem cB.mono {H H':Hp}(e:∀b xs,H b=some (.tup xs)->H' b=some (.tup xs)):∀{vs:List V} {ts:List T},cB H vs ts->cB H' vs ts
 |_,_, .nil=>.nil
 |_,_, .cons r q=>.cons (Rep.mono e r) (cB.mono e q)
end
theorem Rep.same {H H':Hp}(e:Same H H'){v:V}{t:T}(r:Rep H v t):Rep H' v t:=r.mono λb xs h=>e b _ h
theorem cB.same {H H':Hp}(e:Same H H'){vs:List V}{ts:List T}(r:cB H vs ts):cB H' vs ts:=r.mono λb xs h=>e b _ h
theorem cB.length {H:Hp}:∀{vs:List V} {ts:List T},cB H vs ts->vs.length=ts.length
 |_,_, .nil=>rfl
 |_,_, .cons _ q=>congrArg (·+1) q.length
theorem cB.append {H:Hp}:∀{vs ws:List V} {ts us:List T},cB H vs ts->cB H ws us->cB H (vs++ws) (ts++us)
 |_,_,_,_, .nil,q=>q
 |_,_,_,_, .cons r p,q=>.cons r (cB.append p q)
theorem cB.snoc_inv {H:Hp}{vs:List V}{ts:List T}(r:cB H vs ts)(h:vs≠[]):∃ws us v t,vs=ws++[v]/\ts=us++[t]/\cB H ws us/\Rep H v t:=by
 induction vs generalizing ts with
 |nil=>exact absurd rfl h
 |cons v vs ih=>
  cases r with
  |@cons _ t _ ts' r q=>
   by_cases e:vs=[]
   ·subst e
    cases q;exact⟨[],[],v,t,rfl,rfl, .nil,r⟩
   ·obtain⟨ws,us,v',t',rfl,rfl,q1,q2⟩:=ih q e
    exact⟨v::ws,t::us,v',t',rfl,rfl, .cons r q1,q2⟩
theorem bw {H:Hp}{p:Addr}(h:H p=none)(o:HO):Same H (upd H p o):=λb u q=>by rw[bI (cY q h)];exact q
section
variable (kids:T->Option (List T))
inductive Good:T->Prop where
 |mk {t:T} {l:List T} (h:kids t=some l) (q:∀k∈l,Good k):Good t
inductive Bad:T->Prop where
 |none {t:T} (h:kids t=none):Bad t
 |kid {t:T} {l:List T} {k:T} (h:kids t=some l) (m:k∈l) (q:Bad k):Bad t
end
def onStr (f:Str->Bool):T->Bool
 |.str z=>f z
 |_=>false
def jw:T->Option (List T)
 |.int _=>none
 |.str z=>if jK z=true then some [] else none
 |.tup []=>none
 |.tup (h::r)=>if r.length=2/\onStr (λz=>decide (z="->")) h=true then some r else if(1<=r.length/\r.length<=3)/\onStr iR h=true then some r else none
theorem pY (z:Str):jw (.str z)=if jK z=true then some [] else none:=rfl
theorem jx (h:T)(r:List T):jw (.tup (h::r))=if r.length=2/\onStr (λz=>decide (z="->")) h=true then some r else if(1<=r.length/\r.length<=3)/\onStr iR h=true then some r else none:=rfl
theorem Fq {t:T}{l:List T}(h:jw t=some l):d9 l<t.sz:=by
 cases t with
 |int i=>cases h
 |str z=>
  rw[pY]at h;by_cases e:jK z=true
  ·rw[if_pos e]at h
   cases h;simp[d9,T.sz]
  ·rw[if_neg e]at h
   cases h
 |tup ts=>
  cases ts with
  |nil=>cases h
  |cons a r=>
   have e:l=r:=by
    rw[jx]at h;by_cases e:r.length=2/\onStr (λz=>decide (z="->")) a=true
    ·rw[if_pos e]at h
     exact(Option.some.inj h).symm
    ·rw[if_neg e]at h
     by_cases e':(1<=r.length/\r.length<=3)/\onStr iR a=true
     ·rw[if_pos e']at h
      exact(Option.some.inj h).symm
     ·rw[if_neg e']at h
      cases h
   subst e;have:=xr a;simp[d9,T.sz];omega
def Has (P:Program)(w:World)(K:PySem.W.Frag)(mg:Str->Option Value)(aN:Heap)(k:Nat)(x:Str)(ps:List Str)(sp:Sp):Prop :=
 ∃f fd,cj P w K mg aN eY k f fd ps sp/\Binds K fd ps []/\PySem.W.keepIn K (.ref f)=true/\mg x=some (.ref f)
theorem bB {X:Cx}{k j:Nat}{x:Str}{ps:List Str}{sp:Sp}{p pos:Pos}{e:Expr}{es:List Expr}{t:TA}(h:Has X.prog X.w X.K X.mg X.base k x ps sp)(hr:jL j X.A)(hkj:k<=j)(hg:Gl X x)(ha:PA X (e::es) t)
  (hdb:(x==("__debug__":Str))=false:=by decide) (he:starEach (e::es) X.env=(false,eval e X.env)::starEach es X.env:=by rfl) (rW:(backTo pos (starEach es X.env)).any (·.1)=false:=by rfl):
  PE X (.Call (.Name x p) (e::es) [] pos) (jh sp [] E0 t):=by
 obtain⟨f,fd,h1,h2,h3,h4⟩:=h;exact qG h1 (hr.mono hkj) hg h4 h3 h2 .nil yO ha hdb he rW
theorem V8 {X:Cx}{k j:Nat}{x:Str}{ps:List Str}{sp:Sp}{p pos:Pos}(h:Has X.prog X.w X.K X.mg X.base k x ps sp)(hr:jL j X.A)(hkj:k<=j)(hg:Gl X x)
  (hdb:(x==("__debug__":Str))=false:=by decide):PE X (.Call (.Name x p) [] [] pos) (jh sp [] E0 kI):=by
 obtain⟨f,fd,h1,h2,h3,h4⟩:=h;exact Vy h1 (hr.mono hkj) hg h4 h3 h2 .nil yO hdb
def spT (f:T->Bool):Sp:=λvs H Q _=>∃v t,vs=[v]/\Rep H v t/\∀H',Same H H'->Q (.bl (f t)) H'
def Bd (kids:T->Option (List T)):Sp:=λvs H Q _=>∃v t,vs=[v]/\Rep H v t/\(kids t=none->∀H',Same H H'->Q .non H')/\
 ∀l,kids t=some l->∀H' p ws,Same H H'->H p=none->H' p=some (.lst ws)->cB H' ws l->Q (.ref p) H'
def M5 (kids:T->Option (List T)):Sp:=λvs H Q _=>∃v t b,vs=[v]/\Rep H v t/\t.sz<=100000/\((b=true/\Good kids t)\/(b=false/\Bad kids t))/\∀H',Same H H'->Q (.bl b) H'
def sV (kids:T->Option (List T))(g:Addr):Sp:=λvs H Q _=>∃v t b,vs=[v, .ref g]/\Rep H v t/\t.sz<=100000/\((b=true/\Good kids t)\/(b=false/\Bad kids t))/\∀H',Same H H'->Q (.bl b) H'
def vR:Sp:=λvs H Q _=>∃x y,vs=[.str x, .str y]/\x.length<=100000/\∀H',Same H H'->Q (.bl (pB x y)) H'
def tyT:T->Value
 |.int _=>.type "int"
 |.str _=>.type "str"
 |.tup _=>.type "tuple"
def xu:T->Bool
 |.str _=>true
 |_=>false
def qM:T->Bool
 |.tup _=>true
 |_=>false
theorem qN {K:PySem.W.Frag}{H:Hp}{v:V}{t:T}(r:Rep H v t):uT K H v (tyT t):=by
 cases r with
 |int i=>exact .int i
 |str x h=>exact .str x
 |tup h q=>exact .tup h
theorem ni (K:PySem.W.Frag)(t:T):PySem.W.kitOne K (tyT t) (.type "str")=some (xu t):=by
 cases t with
 |int i=>first|rfl|(with_unfolding_all rfl)|kernel_rfl
 |str x=>first|rfl|(with_unfolding_all rfl)|kernel_rfl
 |tup l=>first|rfl|(with_unfolding_all rfl)|kernel_rfl
theorem qO (K:PySem.W.Frag)(t:T):PySem.W.kitOne K (tyT t) (.type "tuple")=some (qM t):=by
 cases t with
 |int i=>first|rfl|(with_unfolding_all rfl)|kernel_rfl
 |str x=>first|rfl|(with_unfolding_all rfl)|kernel_rfl
 |tup l=>first|rfl|(with_unfolding_all rfl)|kernel_rfl
structure Gb (K:PySem.W.Frag)(mg:Str->Option Value):Prop where
 len:mg "len"=none
 all:mg "all"=none
 UW:mg "isinstance"=none
 str:mg "str"=none
 tuple:mg "tuple"=none
 list:mg "list"=none
 range:mg "range"=none
 small:∃t,mg "SMALL_LETTERS"=some (.str gH t)
 great:∃t,mg "GREAT_LETTERS"=some (.str jt t)
 most:∃t,mg "MOST_LETTERS"=some (.int 8 t)
 kept:∃a,mg "KEPT"=some (.ref a)/\∀H,dY K H a (ju.map V.str)
theorem Zn {U:L2.St}{H:Hp}{Q:Bool->Hp->Prop}(h:Q true H):V3 U H Q:=h
theorem small {n:Nat}(h:n<=1000000):n<=sizeLine:=aiv h (by decide)
theorem fH {n:Nat}(h:n<=1000000):n<sizeLine:=Nat.lt_of_le_of_lt h (by decide)
theorem sml (n:Nat)(h:n<=1000000:=by decide):n<=sizeLine:=small h
theorem n4 {n:Nat}(h:n<4):n=0\/n=1\/n=2\/n=3:=by
 have k:∀n,n<4->(n=0\/n=1\/n=2\/n=3):=by decide
 exact k n h
theorem n7 {n:Nat}(h:n<7):n=0\/n=1\/n=2\/n=3\/n=4\/n=5\/n=6:=by
 have k:∀n,n<7->(n=0\/n=1\/n=2\/n=3\/n=4\/n=5\/n=6):=by decide
 exact k n h
theorem i4 {e:Int}(h0:0<=e)(h:e<4):e=0\/e=1\/e=2\/e=3:=by
 obtain⟨n,rfl⟩:=ake h0;rcases n4 (n:=n) (Int.ofNat_lt.mp h) with rfl|rfl|rfl|rfl<;>simp
theorem i7 {e:Int}(h0:0<=e)(h:e<7):e=0\/e=1\/e=2\/e=3\/e=4\/e=5\/e=6:=by
 obtain⟨n,rfl⟩:=ake h0;rcases n7 (n:=n) (Int.ofNat_lt.mp h) with rfl|rfl|rfl|rfl|rfl|rfl|rfl<;>simp
theorem Z4 (a b:Str):ZQ (.str a) (.str b)=decide (a=b):=by
 show(a==b)=_;rw[ai1];simp
theorem vU (z:Str):∀l:List Str,inV (.str z) (l.map V.str)=decide (z∈l)
 |[]=>by simp[inV]
 |a::r=>by
  have ih:=vU z r;unfold inV at ih ⊢;rw[aiR,akg,ih,Z4,ai1];simp only[aiM,decide_eq_true_eq,aiB];constructor
  ·rintro(h|h)
   ·exact .inl h.symm
   ·exact .inr h
  ·rintro(h|h)
   ·exact .inl h.symm
   ·exact .inr h
theorem pZ:∀l:List Str,(l.map V.str).all vN=true
 |[]=>rfl
 |a::r=>by rw[aiR,ajf,pZ r];rfl
theorem V9:(Str.ofString ".":Str)=⟨#[46]⟩:=by decide+kernel
theorem aeW:(Str.ofString "?":Str)=⟨#[63]⟩:=by decide+kernel
theorem RZ (z:Str):Txt.startswith z "?"=decide (z.cps.toList.head?=some 63):=by
 rw[aeW];unfold Txt.startswith;obtain⟨a⟩:=z;obtain⟨l⟩:=a;cases l with
 |nil=>rfl
 |cons c r=>
  simp[Builtin.Str.subAt,Str.length,Nat.all];rw[ai1];simp
theorem R0 {z:Str}(h:¬1<=z.length):eG z=false:=by
 unfold eG nY;rw[decide_eq_false h]
 rfl
theorem R3 {z:Str}(h:¬z.length<=8):eG z=false:=by
 unfold eG nY;rw[decide_eq_false h];simp
theorem R4 {z:Str}(h1:1<=z.length)(h2:z.length<=8):eG z=pB z gH:=by
 unfold eG nY;rw[decide_eq_true h1,decide_eq_true h2];simp
theorem R5 {z:Str}(h:¬1<=z.length):bJ z=false:=by
 unfold bJ nY;rw[decide_eq_false h]
 rfl
theorem R6 {z:Str}(h:¬z.length<=8):bJ z=false:=by
 unfold bJ nY;rw[decide_eq_false h];simp
theorem R7 {z:Str}(h1:1<=z.length)(h2:z.length<=8):bJ z=(zQ jt (z.cps.toList.getD 0 0)&&pB (jk z) gH):=by
 unfold bJ nY;rw[decide_eq_true h1,decide_eq_true h2];simp
theorem uY {z:Str}(h:1<=z.length):Txt.slice z (some 1) none=jk z:=acD z h
theorem Bg (z:Str):(jk z).length<=z.length:=by
 rw[<-bT,<-bT];unfold jk;simp
theorem JZ {z:Str}(h:1<=z.length):Dz z.cps.toList (0:Int)=some (z.cps.toList.getD 0 0):=by
 refine eF (j:=0) ?_;have:0<z.cps.toList.length:=by rw[bT];exact h
 rw[aiE this];simp[List.getD_eq_getElem?_getD,aiE this]
theorem acG (vs:List V):lF vs (some 1) none=vs.drop 1:=by
 unfold lF;rw[HT.Ai];have e:HT.fD vs.length 0 (some 1)=min 1 vs.length:=HT.zN vs.length 0 1;rw[e];cases vs with
 |nil=>rfl
 |cons a r=>
  have:min 1 (a::r).length=1:=by simp
  rw[this];simp
theorem Bh {vs:List V}(h:vs≠[]):¬(HT.fD vs.length 0 (some 1)=0/\HT.fD vs.length vs.length none=vs.length):=by
 have e:HT.fD vs.length 0 (some 1)=min 1 vs.length:=HT.zN vs.length 0 1;rw[e];have:0<vs.length:=List.length_pos_iff.mpr h;omega
theorem R8 {z a b:Str}(h:Txt.split z "."=[a,b]):dN z=(bJ a&&nameB b):=by
 have q:=pW z 46;rw[<-V9,h]at q;unfold dN;rw[<-q];show(bJ ⟨a.cps.toList.toArray⟩&&nameB ⟨b.cps.toList.toArray⟩)=_;have e1:(⟨a.cps.toList.toArray⟩:Str)=a:=m9 (by simp);have e2:(⟨b.cps.toList.toArray⟩:Str)=b:=m9 (by simp);rw[e1,e2]
theorem J2 {z:Str}(h:(Txt.split z ".").length≠2):dN z=false:=by
 have q:=pW z 46;rw[<-V9]at q;have q2:=congrArg List.length q;rw[aix]at q2;unfold dN;split
 ·rename_i a b e
  rw[e]at q2;exact absurd q2 h
 ·rfl
theorem J3 (z:Str):(Txt.split z ".").length<=z.length+1:=by
 have:=split_weight z "." (by decide+kernel);exact aiv (Nat.le_add_left _ _) this
def Ev (t:TE)(U:L2.St)(H:Hp)(v:V):Prop:=∀Q:VK,(∀H',Same H H'->Q v H')->t U H Q
def R9 (t:TT)(U:L2.St)(H:Hp)(c:Bool):Prop:=∀Q:Bool->Hp->Prop,(∀H',Same H H'->Q c H')->t U H Q
section
variable {ta tb tc:TE}{t u:TT}{U:L2.St}{H:Hp}{v x y z:V}{c c1 c2:Bool}{K:PySem.W.Frag}
theorem bN {i:Nat}(h:U[i]?=some (some v)):Ev (jE i) U H v:=λQ q=>⟨v,h,q H (Same.refl H)⟩
theorem dI:Ev (tC v) U H v:=λQ q=>q H (Same.refl H)
theorem eH (h1:Ev ta U H (.bl c1))(h2:c1=true->∀H',Same H H'->Ev tb U H' (.bl c2)):Ev (abr ta tb) U H (.bl (c1&&c2)):=λQ q=>h1 _ λH' e=>⟨c1,rfl,by
 cases c1 with
 |true=>exact dM (h2 rfl H' e Q λH2 e2=>q H2 (e.trans e2))
 |false=>exact dW (q H' e)⟩
theorem Bj (h1:Ev ta U H (.bl c1))(h2:c1=false->∀H',Same H H'->Ev tb U H' (.bl c2)):Ev (aeo ta tb) U H (.bl (c1||c2)):=λQ q=>h1 _ λH' e=>⟨c1,rfl,by
 cases c1 with
 |false=>exact dW (h2 rfl H' e Q λH2 e2=>q H2 (e.trans e2))
 |true=>exact dM (q H' e)⟩
theorem acH (h1:Ev ta U H (.bl c)):Ev (abt ta) U H (.bl (!c)):=λQ q=>h1 _ λH' e=>⟨c,rfl,q H' e⟩
theorem oV (h:Ev ta U H (.bl c)):R9 (tB ta) U H c:=λQ q=>h _ λH' e=>⟨c,rfl,q H' e⟩
theorem iY (h:Ev ta U H (.bl c)):R9 (Er ta) U H c:=λQ q=>h _ λH' e=>⟨c,rfl,q H' e⟩
theorem Bk (h1:R9 t U H c1)(h2:c1=true->∀H',Same H H'->R9 u U H' c2):R9 (aem t u) U H (c1&&c2):=λQ q=>h1 _ λH' e=>by
 cases c1 with
 |true=>exact dM (h2 rfl H' e Q λH2 e2=>q H2 (e.trans e2))
 |false=>exact dW (q H' e)
theorem oY (h1:R9 t U H c1)(h2:c1=false->∀H',Same H H'->R9 u U H' c2):R9 (tOr t u) U H (c1||c2):=λQ q=>h1 _ λH' e=>by
 cases c1 with
 |false=>exact dW (h2 rfl H' e Q λH2 e2=>q H2 (e.trans e2))
 |true=>exact dM (q H' e)
theorem jM (h1:R9 t U H c):R9 (aen t) U H (!c):=λQ q=>h1 _ λH' e=>q H' e
theorem sW {r:R2}(h1:Ev ta U H x)(h2:∀H',Same H H'->Ev tb U H' y)(h3:∀H' Q,Same H H'->Q z H'->r x y H' Q):Ev (vG r ta tb) U H z:=λQ q=>h1 _ λH1 e1=>h2 H1 e1 _ λH2 e2=>h3 H2 Q (e1.trans e2) (q H2 (e1.trans e2))
theorem fY {tst:TT}{a b:TS}{D:Ends}(h:R9 tst U H c)(h1:c=true->∀H',Same H H'->a D U H')(h2:c=false->∀H',Same H H'->b D U H'):Mi tst a b D U H:=h _ λH' e=>by
 cases c with
 |true=>exact dM (h1 rfl H' e)
 |false=>exact dW (h2 rfl H' e)
theorem fJ {i j:Int}(h1:Ev ta U H (.int i))(h2:∀H',Same H H'->Ev tb U H' (.int j)):Ev (vG rEq ta tb) U H (.bl (decide (i=j))) :=
 sW h1 h2 λH' Q e q=>⟨rfl,by rw[zM,ajI];exact q⟩
theorem sX {i j k:Int}{ta tb tc:TE}(h1:Ev ta U H (.int i))(h2:∀H',Same H H'->Ev tb U H' (.int j))(h3:∀H',Same H H'->Ev tc U H' (.int k)):
  Ev (Mr (UJ λi j=>.bl (decide (i<=j))) (UJ λi j=>.bl (decide (i<=j))) ta tb tc) U H (.bl (decide (i<=j)&&decide (j<=k))):=λQ q=>h1 _ λH1 e1=>h2 H1 e1 _ λH2 e2=>⟨i,j,rfl,rfl,_,rfl,by
 cases hc:decide (i<=j) with
 |true=>
  rw[hc,ai3]at q;exact dM (h3 H2 (e1.trans e2) _ λH3 e3=>⟨j,k,rfl,rfl,q H3 ((e1.trans e2).trans e3)⟩)
 |false=>
  rw[hc,ajY]at q;exact dW (q H2 (e1.trans e2))⟩
theorem Ft {H H':Hp}{a:Addr}{xs:List V}(e:Same H H')(h:dY K H a xs):dY K H' a xs:=by
 rcases h with (h|⟨o,h⟩)|h
 ·exact .inl (.inl (e _ _ h))
 ·exact .inl (.inr ⟨o,e _ _ h⟩)
 ·exact .inr h
theorem Hu {a:Addr}{vs:List V}{i:Int}(h1:Ev ta U H (.ref a))(h2:∀H',Same H H'->Ev tb U H' (.int i))(s:dY K H a vs)(hv:Dz vs i=some v):Ev (vG (uV K) ta tb) U H v :=
 sW h1 h2 λH' Q e q=>⟨a,vs,i,v,rfl,rfl,Ft e s,hv,q⟩
theorem acI {a:Addr}{vs:List V}{i:Int}(h1:Ev ta U H (.ref a))(h2:∀H',Same H H'->Ev tb U H' (.int i))(s:dX K H a vs)(hv:Dz vs i=some v):Ev (vG (VG K) ta tb) U H v :=
 sW h1 h2 λH' Q e q=>⟨a,vs,i,v,rfl,rfl,e.seq s,hv,q⟩
theorem xG {T':String}{t:T}{f:T->Bool}(h:Ev ta U H v)(r:Rep H v t)(hk:∀t,PySem.W.kitOne K (tyT t) (.type T')=some (f t)):
  Ev (ZM (λxs H Q=>∃x t T b,xs=[x, .ty T]/\uT K H x t/\PySem.W.kitOne K t (.type T)=some b/\Q (.bl b) H) (cV ta (cV (tC (.ty T')) kI))) U H (.bl (f t)) :=
 λQ q=>h _ λH' e=>⟨v,_,T',_,rfl,qN (r.same e),hk t,q H' e⟩
theorem pD {f:T->Bool}{t:T}(h:Ev ta U H v)(r:Rep H v t):Ev (jh (spT f) [] E0 (cV ta kI)) U H (.bl (f t)):=λQ q=>h _ λH' e=>⟨v,t,rfl,r.same e,λH2 e2=>q H2 (e.trans e2)⟩
end
theorem J4 {K:PySem.W.Frag}{H:Hp}{v:V}{t:T}{z:Str}{Q:VK}(r:Rep H v t)(q:Q (.bl (onStr (λx=>decide (x=z)) t)) H):
  rEq v (.str z) H Q\/∃a xs y,v=.ref a/\(V.str z)=.str y/\dY K H a xs/\Q (.bl false) H:=by
 cases r with
 |int i=>exact .inl ⟨rfl,by rw[decide_eq_false (by intro e;cases e)];exact q⟩
 |str x h=>exact .inl ⟨rfl,by rw[G7,ajI];exact q⟩
 |tup h r=>exact .inr ⟨_,_,_,rfl,rfl,dY.of h,q⟩
theorem Wa {K:PySem.W.Frag}{ta tb:TE}{U:L2.St}{H:Hp}{v:V}{t:T}{z:Str}(h1:Ev ta U H v)(r:Rep H v t)(h2:∀H',Same H H'->Ev tb U H' (.str z)):
  Ev (vG (λx y H Q=>rEq x y H Q\/∃a xs z,x=.ref a/\y=.str z/\dY K H a xs/\Q (.bl false) H) ta tb) U H (.bl (onStr (λx=>decide (x=z)) t)) :=
 sW h1 h2 λH' Q e q=>J4 (r.same e) q
end Fw
namespace L2
open PySem PySem.Spec PyProof.Rows
theorem Sd {X:Cx}:MtR X "str.strip" (λx xs H Q=>∃z y,x=V.str z/\xs=[.str y]/\z.length<=sizeLine/\Q (.str (Txt.stripChars z y)) H):=by
 intro aZ s U H x xs v us Q I rx rs h;obtain⟨z,y,rfl,rfl,hz,q⟩:=h;obtain⟨t,rfl⟩:=rx;obtain⟨u,rfl,ru⟩:=vals1 rs;obtain⟨t',rfl⟩:=ru;exact SCL.stripChars (λt2 k _=>⟨.str (Txt.stripChars z y),H,I.tok k,⟨t2,rfl⟩,q⟩) hz
end L2
namespace Fw
open PySem PySem.Spec PyProof.Rows L2
theorem Sg {x:Str}(h:x.length=0):x="":=by
 obtain⟨c⟩:=x;have e:c=#[]:=Array.eq_empty_of_size_eq_zero h;rw[e]
 decide+kernel
theorem Wb {α:Type}(p:α->Bool):∀l:List α,l.all p=true->l.takeWhile p=l
 |[],_=>rfl
 |a::r,h=>by
  rw[ajf,ain]at h;rw[ajX,if_pos h.1,Wb p r h.2]
theorem M6 {α:Type}(p:α->Bool):∀l:List α,l.all p=false->(l.takeWhile p).length<l.length
 |[],h=>by cases h
 |a::r,h=>by
  rw[ajX];by_cases c:p a=true
  ·rw[if_pos c]
   rw[ajf,c,ai3]at h;exact Nat.succ_lt_succ (M6 p r h)
  ·rw[if_neg c]
   exact aj8 _
theorem Ql {α:Type}(p:α->Bool):∀l:List α,l.all p=false->(l.drop (l.takeWhile p).length).all p=false
 |[],h=>by cases h
 |a::r,h=>by
  rw[ajX];by_cases c:p a=true
  ·rw[if_pos c]
   rw[ajf,c,ai3]at h;exact Ql p r h
  ·rw[if_neg c]
   exact h
theorem Sh (x y:Str):(Txt.stripChars x y).length=0↔pB x y=true:=by
 have hn:x.cps.toList.length=x.length:=bT x;have ep:∀c,y.cps.contains c=zQ y c:=λc=>by
  unfold zQ;rw[<-Array.contains_toList];exact List.contains_eq_mem c y.cps.toList
 have ef:(λc=>y.cps.contains c)=zQ y:=funext ep;unfold Txt.stripChars Txt.stripBy stripSame stripped stripHi stripLo;simp only[if_true];have ef':y.cps.contains=zQ y:=ef;rw[ef'];have ea:pB x y=x.cps.toList.all (zQ y):=rfl;rw[ea];generalize x.cps.toList=l at hn;by_cases h:l.all (zQ y)=true
 ·rw[Wb _ l h,ajF (aio _)]
  refine⟨λ_=>h,λ_=>?_⟩;show(if(l.length==0&&x.length-0==x.length)=true then x else Builtin.Str.strSub x l.length (x.length-0)).length=0;by_cases hc:(l.length==0&&x.length-0==x.length)=true
  ·rw[if_pos hc]
   rw[ain,beq_iff_eq,beq_iff_eq]at hc;omega
  ·rw[if_neg hc]
   show(x.cps.extract l.length (x.length-0)).size=0;rw[Array.size_extract];omega
 ·have h':l.all (zQ y)=false:=by simpa using h
  have a1:=M6 _ l h';have a2:=Ql _ l h';rw[<-List.all_reverse]at a2;have a3:=M6 _ _ a2;rw[ajv,ai5]at a3;refine⟨λhz=>?_,λh2=>absurd h2 h⟩;exfalso;split at hz
  ·omega
  ·have hz':(x.cps.extract (List.takeWhile (zQ y) l).length (x.length-(List.takeWhile (zQ y) (List.drop (List.takeWhile (zQ y) l).length l).reverse).length)).size=0:=hz
   rw[Array.size_extract]at hz';have hs:x.cps.size=x.length:=rfl;omega
theorem Wc (x y:Str):decide (V.str (Txt.stripChars x y)=V.str "")=pB x y:=by
 have h:=Sh x y;by_cases c:pB x y=true
 ·rw[c]
  exact decide_eq_true (congrArg V.str (Sg (h.mpr c)))
 ·have c':pB x y=false:=by simpa using c
  rw[c'];refine decide_eq_false λe=>c (h.mp ?_);injection e with e';rw[e']
  decide+kernel
def top (i:Nat):Stmt:=PySem.Challenge.pw_facework_k06_programs_refused.main.body.getD i (.Pass ⟨0,0,0,0⟩)
section
variable {P:Program}{w:World}{K:PySem.W.Frag}{mg:Str->Option Value}{aN:Heap}{f:Addr}{fd:FuncData}
abbrev Bl:Stmt:=top 23
theorem Sq:bG ["text","signs"] ["text","signs"] (bA Bl):=⟨rfl,rfl,rfl,by decide+kernel,rfl,by decide+kernel,by decide+kernel⟩
theorem Ss (F:eV K "all_of" "all_of" Bl f fd)(G:Gb K mg):cj P w K mg aN eY 1 f fd ["text","signs"] vR:=by
 refine F.ok Sq (len:=λvs H Q E h=>(by obtain⟨x,y,rfl,_⟩:=h;rfl)) (λcX A aM s H vs Q E hr h=>?_);obtain⟨x,y,rfl,hx,q⟩:=h;refine⟨_,bh (bD (dR cN (jX aiJ PySem.F.slot_str_strip PySem.F.type_str_strip Sd (pv 0) (aW (pv 1) aX)) bQ (bM _))),?_⟩;refine⟨_,rfl,rfl,_,rfl,x,y,rfl,rfl,small (by omega),rfl,?_⟩;rw[Wc];exact q H (Same.refl H)
abbrev uZ:Stmt:=top 24
theorem Ka:bG ["thing"] ["thing"] (bA uZ):=⟨rfl,rfl,rfl,by decide+kernel,rfl,by decide+kernel,by decide+kernel⟩
theorem Kc (F:eV K "is_small" "is_small" uZ f fd)(G:Gb K mg)(h1:Has P w K mg aN 1 "all_of" ["text","signs"] vR):cj P w K mg aN eY 2 f fd ["thing"] (spT (onStr eG)):=by
 refine F.ok Ka (len:=λvs H Q E h=>(by obtain⟨v,t,rfl,_⟩:=h;rfl)) (λcX A aM s H vs Q E hr h=>?_);obtain⟨v,t,rfl,rt,q⟩:=h;obtain⟨t1,hsm⟩:=G.small;obtain⟨t2,hmo⟩:=G.most;refine⟨_,bh (bD (cQ (bH d8 rfl G.UW boot_isinstance (aW (pv 0) (aW (eZ (v:=.ty "str") rfl G.str boot_str rfl) aX)))
  (cQ (Ah mY mY aY (bH gW rfl G.len PySem.boot_len (aW (pv 0) aX)) (bZ (v:=.int 8) rfl hmo ⟨_,rfl⟩))
   (dG (bB h1 hr (by decide) rfl (aW (pv 0) (aW (bZ (v:=.str gH) rfl hsm ⟨_,rfl⟩) aX))))))),?_⟩
 refine⟨_,rfl,_,_,_,_,rfl,qN rt,ni K t,_,rfl,?_⟩;cases rt with
 |int i=>exact dW (q H (Same.refl H))
 |tup h r=>exact dW (q H (Same.refl H))
 |str z hz=>
  have q':∀H',Same H H'->Q (.bl (eG z)) H':=q;refine dM ⟨_,rfl,z,rfl,small (by omega),1,z.length,rfl,rfl,_,rfl,?_⟩;refine ig (λc=>?_) (λc=>?_)
  ·have c1:(1:Int)<=z.length:=of_decide_eq_true c
   refine⟨_,_,rfl,rfl,_,rfl,?_⟩;refine ig (λd=>?_) (λd=>?_)
   ·have d1:(z.length:Int)<=8:=of_decide_eq_true d
    rw[R4 (by omega) (by omega)]at q';exact⟨_,rfl,z,gH,rfl,hz,q'⟩
   ·have d1:¬(z.length:Int)<=8:=of_decide_eq_false (Bool.eq_false_iff.mpr d)
    rw[R3 (by omega)]at q';exact q' H (Same.refl H)
  ·have c1:¬(1:Int)<=z.length:=of_decide_eq_false (Bool.eq_false_iff.mpr c)
   rw[R0 (by omega)]at q';exact⟨_,rfl,dW (q' H (Same.refl H))⟩
abbrev xH:Stmt:=top 25
theorem M7:bG ["thing"] ["thing"] (bA xH):=⟨rfl,rfl,rfl,by decide+kernel,rfl,by decide+kernel,by decide+kernel⟩
theorem Bm (F:eV K "is_name" "is_name" xH f fd)(G:Gb K mg)(h1:Has P w K mg aN 2 "is_small" ["thing"] (spT (onStr eG))):cj P w K mg aN eY 3 f fd ["thing"] (spT (onStr nameB)):=by
 refine F.ok M7 (len:=λvs H Q E h=>(by obtain⟨v,t,rfl,_⟩:=h;rfl)) (λcX A aM s H vs Q E hr h=>?_);obtain⟨v,t,rfl,rt,q⟩:=h;obtain⟨a,hke,hkt⟩:=G.kept;refine⟨_,bh (bD (cQ (bB h1 hr (by decide) rfl (aW (pv 0) aX)) (dG (dR qH (pv 0) (bZ (v:=.ref a) rfl hke rfl) (by with_unfolding_all rfl))))),?_⟩;refine⟨_,rfl,v,t,rfl,rt,λH' e=>⟨_,rfl,?_⟩⟩;cases rt with
 |int i=>exact dW (q H' e)
 |tup h r=>exact dW (q H' e)
 |str z hz=>
  have q':∀H',Same H H'->Q (.bl (nameB z)) H':=q;show if eG z=true then _ else _
  cases hs:eG z with
  |false=>
   unfold nameB at q';rw[hs]at q';exact dW (q' H' e)
  |true=>
   unfold nameB at q';rw[hs]at q';refine dM ⟨_,rfl,a,ju.map V.str,rfl, .inr (hkt H'),rfl,pZ _,?_⟩;rw[if_pos rfl,vU];exact q' H' e
abbrev u0:Stmt:=top 26
theorem Kd:bG ["thing"] ["thing"] (bA u0):=⟨rfl,rfl,rfl,by decide+kernel,rfl,by decide+kernel,by decide+kernel⟩
theorem yQ (F:eV K "is_great" "is_great" u0 f fd)(G:Gb K mg)(h1:Has P w K mg aN 1 "all_of" ["text","signs"] vR):cj P w K mg aN eY 2 f fd ["thing"] (spT (onStr bJ)):=by
 refine F.ok Kd (len:=λvs H Q E h=>(by obtain⟨v,t,rfl,_⟩:=h;rfl)) (λcX A aM s H vs Q E hr h=>?_);obtain⟨v,t,rfl,rt,q⟩:=h;obtain⟨t1,hsm⟩:=G.small;obtain⟨t2,hmo⟩:=G.most;obtain⟨t3,hgr⟩:=G.great;refine⟨_,bx (cF (PW.pt (kj (dZ (cT (bH d8 rfl G.UW boot_isinstance (aW (pv 0) (aW (eZ (v:=.ty "str") rfl G.str boot_str rfl) aX)))))
   (jm (dZ (sG mY mY aY (bH gW rfl G.len PySem.boot_len (aW (pv 0) aX)) (bZ (v:=.int 8) rfl hmo ⟨_,rfl⟩)))))) (bh (bD lG)) bK)
  (bh (bD (cQ (dR RB (bU Al (pv 0) aY (λ_ _=>rfl)) (bZ (v:=.str jt) rfl hgr ⟨_,rfl⟩) (by with_unfolding_all rfl))
   (dG (bB h1 hr (by decide) rfl (aW (cL MK (pv 0) (cR aY) dF) (aW (bZ (v:=.str gH) rfl hsm ⟨_,rfl⟩) aX))))))),?_⟩
 refine⟨_,rfl,_,_,_,_,rfl,qN rt,ni K t,_,rfl,?_⟩;cases rt with
 |int i=>exact dM (dM (q H (Same.refl H)))
 |tup h r=>exact dM (dM (q H (Same.refl H)))
 |str z hz=>
  have q':∀H',Same H H'->Q (.bl (bJ z)) H':=q;refine dW ⟨_,rfl,z,rfl,small (by omega),1,z.length,rfl,rfl,_,rfl,?_⟩;refine ig (λc=>?_) (λc=>?_)
  ·have c1:(1:Int)<=z.length:=of_decide_eq_true c
   refine⟨_,_,rfl,rfl,_,rfl,?_⟩;refine ig (λd=>?_) (λd=>?_)
   ·have d1:¬(z.length:Int)<=8:=of_decide_eq_false (by simpa using d)
    rw[R6 (by omega)]at q';exact q' H (Same.refl H)
   ·have d1:(z.length:Int)<=8:=of_decide_eq_true (by simpa using d)
    rw[R7 (by omega) (by omega)]at q';refine⟨_,rfl,z,0,_,rfl,rfl,small (by omega),JZ (by omega),_,_,rfl,rfl,_,rfl,?_⟩;rw[StrLaws.found_one];show if zQ jt (z.cps.toList.getD 0 0)=true then _ else _
    cases hg:zQ jt (z.cps.toList.getD 0 0) with
    |false=>
     rw[hg]at q';exact dW (q' H (Same.refl H))
    |true=>
     rw[hg,ai3]at q';refine dM ⟨_,rfl,1,rfl,z,rfl,small (by omega),?_⟩;have rl:=Bg z;refine⟨jk z,gH,?_,by omega,q'⟩;rw[uY (by omega)]
     rfl
  ·have c1:¬(1:Int)<=z.length:=of_decide_eq_false (Bool.eq_false_iff.mpr c)
   rw[R5 (by omega)]at q';exact⟨_,rfl,dM (q' H (Same.refl H))⟩
abbrev xJ:Stmt:=top 27
theorem Bo:bG ["thing","sides"] ["thing"] (bA xJ):=⟨rfl,rfl,rfl,by decide+kernel,rfl,by decide+kernel,by decide+kernel⟩
theorem M8 (F:eV K "is_path" "is_path" xJ f fd)(G:Gb K mg)(h1:Has P w K mg aN 3 "is_name" ["thing"] (spT (onStr nameB)))(h2:Has P w K mg aN 2 "is_great" ["thing"] (spT (onStr bJ))):cj P w K mg aN eY 4 f fd ["thing"] (spT (onStr dN)):=by
 refine F.ok Bo (len:=λvs H Q E h=>(by obtain⟨v,t,rfl,_⟩:=h;rfl)) (λcX A aM s H vs Q E hr h=>?_);obtain⟨v,t,rfl,rt,q⟩:=h;refine⟨_,bx (cF (dZ (cT (bH d8 rfl G.UW boot_isinstance (aW (pv 0) (aW (eZ (v:=.ty "str") rfl G.str boot_str rfl) aX))))) (bh (bD lG)) bK)
  (bx (cZ (i:=1) Bo.nd rfl (Or.inl rfl) (jX aiJ ajG ajH Aq (pv 0) (aW bQ aX)))
   (bh (bD (cQ (dR cN (bH bO rfl G.len PySem.boot_len (aW (pv 1) aX)) aY (bM _))
    (cQ (bB h2 hr (by decide) rfl (aW (bU fG (pv 1) aY (λ_ _=>rfl)) aX))
     (dG (bB h1 hr (by decide) rfl (aW (bU fG (pv 1) aY (λ_ _=>rfl)) aX)))))))),?_⟩
 refine⟨_,rfl,_,_,_,_,rfl,qN rt,ni K t,_,rfl,?_⟩;cases rt with
 |int i=>exact dM (q H (Same.refl H))
 |tup h r=>exact dM (q H (Same.refl H))
 |str z hz=>
  have q':∀H',Same H H'->Q (.bl (dN z)) H':=q;have sl:=J3 z;refine dW ⟨_,rfl,rfl,z,".",rfl,rfl,small (by omega),by decide+kernel,small (by omega),λl hl=>?_⟩;have g1:=bw hl (.lst ((Txt.split z ".").map V.str));refine⟨_,rfl,l,_,rfl, .inl (dX.of bf),rfl,_,rfl,?_⟩;refine ig (λc=>?_) (λc=>?_)
  ·have c1:(Txt.split z ".").length=2:=by
    have:=of_decide_eq_true c;injection this with e;rw[aix]at e;omega
   obtain⟨a,b,e⟩:∃a b,Txt.split z "."=[a,b]:=by
    match hh:Txt.split z ".",c1 with
    |[a,b],_=>exact⟨a,b,rfl⟩
   have la:a.length<=z.length:=part_short (y:=".") (by rw[e];simp);have lb:b.length<=z.length:=part_short (y:=".") (by rw[e];simp);rw[R8 e]at q';refine⟨_,rfl,l,_,0, .str a,rfl,rfl,dX.of bf,eF (j:=0) (by rw[e];rfl), .str a, .str a,rfl, .str a (by omega),λH2 e2=>⟨_,rfl,?_⟩⟩;show if bJ a=true then _ else _
   cases hg:bJ a with
   |false=>
    rw[hg]at q';exact dW (q' H2 (g1.trans e2))
   |true=>
    rw[hg,ai3]at q';refine dM ⟨_,rfl,l,_,1, .str b,rfl,rfl,dX.of (e2 _ _ bf),eF (j:=1) (by rw[e];rfl), .str b, .str b,rfl, .str b (by omega),λH3 e3=>q' H3 (g1.trans (e2.trans e3))⟩
  ·have c1:(Txt.split z ".").length≠2:=λe=>c (by rw[aix,e];rfl)
   rw[J2 c1]at q';exact q' _ g1
end
theorem atH {vs:List V}{v:V}{ws:List V}(h:vs=v::ws):Dz vs (0:Int)=some v:=by subst h;exact eF (j:=0) rfl
section
variable {P:Program}{w:World}{K:PySem.W.Frag}{mg:Str->Option Value}{aN:Heap}{f:Addr}{fd:FuncData}
abbrev pF:Stmt:=top 28
theorem Bp:bG ["thing"] ["thing"] (bA pF):=⟨rfl,rfl,rfl,by decide+kernel,rfl,by decide+kernel,by decide+kernel⟩
theorem sY (F:eV K "is_variable" "is_variable" pF f fd)(G:Gb K mg)(h1:Has P w K mg aN 2 "is_small" ["thing"] (spT (onStr eG))):cj P w K mg aN eY 3 f fd ["thing"] (spT (onStr iz)):=by
 refine F.ok Bp (len:=λvs H Q E h=>(by obtain⟨v,t,rfl,_⟩:=h;rfl)) (λcX A aM s H vs Q E hr h=>?_);obtain⟨v,t,rfl,rt,q⟩:=h;refine⟨_,bh (bD (cQ (bH d8 rfl G.UW boot_isinstance (aW (pv 0) (aW (eZ (v:=.ty "str") rfl G.str boot_str rfl) aX)))
  (cQ (jX aiJ aj2 aj3 uL (pv 0) (aW bQ aX))
   (dG (bB h1 hr (by decide) rfl (aW (cL MK (pv 0) (cR aY) dF) aX)))))),?_⟩
 refine⟨_,rfl,_,_,_,_,rfl,qN rt,ni K t,_,rfl,?_⟩;cases rt with
 |int i=>exact dW (q H (Same.refl H))
 |tup h r=>exact dW (q H (Same.refl H))
 |str z hz=>
  have q':∀H',Same H H'->Q (.bl (iz z)) H':=q;refine dM ⟨_,rfl,rfl,z,"?",rfl,rfl,_,rfl,?_⟩;rw[RZ];unfold iz at q';cases hh:decide (z.cps.toList.head?=some 63) with
  |false=>
   rw[hh]at q';exact dW (q' H (Same.refl H))
  |true=>
   rw[hh,ai3]at q';have h63:=of_decide_eq_true hh;have hl:1<=z.length:=by
    rw[<-bT];cases e:z.cps.toList with
    |nil=>rw[e]at h63;cases h63
    |cons c r=>simp
   have rl:=Bg z;refine dM ⟨_,rfl,1,rfl,z,rfl,small (by omega),?_⟩;refine⟨.str (jk z), .str (jk z),?_, .str _ (by omega),q'⟩;rw[uY hl]
   rfl
end
def gj (H:Hp)(st:Addr):Prop:=∃ns:List Int,ns≠[]/\ns.length<=100/\H st=some (.lst (ns.map V.int))
def cP (st:Addr)(H H':Hp):Prop:=(∀b o,b≠st->H b=some o->H' b=some o)/\gj H' st
theorem cP.refl {st:Addr}{H:Hp}(h:gj H st):cP st H H:=⟨λ_ _ _ e=>e,h⟩
theorem cP.trans {st:Addr}{H H1 H2:Hp}(a:cP st H H1)(b:cP st H1 H2):cP st H H2:=⟨λc o hc e=>b.1 c o hc (a.1 c o hc e),b.2⟩
theorem cP.ok {st:Addr}{H H':Hp}(a:cP st H H'):gj H' st:=a.2
theorem gj.same {st:Addr}{H H':Hp}(h:gj H st)(e:Same H H'):gj H' st:=by
 obtain⟨ns,h1,h2,h3⟩:=h;exact⟨ns,h1,h2,e _ _ h3⟩
theorem cH {st:Addr}{H H':Hp}(h:gj H st)(e:Same H H'):cP st H H':=⟨λb o _ q=>e b o q,h.same e⟩
theorem cG {st p:Addr}{H:Hp}{o:HO}(h:gj H st)(hp:H p=none):cP st H (upd H p o):=cH h (bw hp o)
theorem Bq {st:Addr}{H:Hp}{ns:List Int}(h1:ns≠[])(h2:ns.length<=100):cP st H (upd H st (.lst (ns.map V.int))):=⟨λb o hb e=>by rw[bI hb];exact e,ns,h1,h2,bf⟩
theorem gj.Br {st b:Addr}{H:Hp}{xs:List V}(h:gj H st)(e:H b=some (.tup xs)):b≠st:=by
 obtain⟨ns,_,_,h3⟩:=h;exact uJ e h3 (by intro z;cases z)
theorem cP.tups {st:Addr}{H H':Hp}(a:cP st H H')(h:gj H st):∀b xs,H b=some (.tup xs)->H' b=some (.tup xs):=λb xs e=>a.1 b _ (h.Br e) e
theorem Rep.grow {st:Addr}{H H':Hp}{v:V}{t:T}(r:Rep H v t)(a:cP st H H')(h:gj H st):Rep H' v t:=r.mono (a.tups h)
theorem cB.grow {st:Addr}{H H':Hp}{vs:List V}{ts:List T}(r:cB H vs ts)(a:cP st H H')(h:gj H st):cB H' vs ts:=r.mono (a.tups h)
theorem ix0 (k:Nat):VF (k+1) 0=some 0:=by
 unfold VF;rw[if_pos (by omega),if_pos (by omega)]
 rfl
theorem sq0 (k:Nat):seqIndex? 0 (k+1)=some 0:=(Hi (ix0 k)).1
def eE:Sp:=λvs H Q _=>∃(st:Addr) (m:Int),vs=[.ref st, .int m]/\gj H st/\0<m/\m<1000000/\∀(d:Int) H',0<=d->d<m->cP st H H'->Q (.int d) H'
section
variable {P:Program}{w:World}{K:PySem.W.Frag}{mg:Str->Option Value}{aN:Heap}{f:Addr}{fd:FuncData}
abbrev M9:Stmt:=top 84
theorem Qm:bG ["_law_state","_law_many","_law_digit"] ["_law_state","_law_many"] (bA M9):=⟨rfl,rfl,rfl,by decide+kernel,rfl,by decide+kernel,by decide+kernel⟩
theorem Z5 (F:eV K "_law_next" "_law_next" M9 f fd)(ml:mg "len"=none):cj P w K mg aN eY 1 f fd ["_law_state","_law_many"] eE:=by
 refine F.ok Qm (len:=λvs H Q E h=>(by obtain⟨st,m,rfl,_⟩:=h;rfl)) (λcX A aM s H vs Q E hr h=>?_);obtain⟨st,m,rfl,hs,m0,m1,q⟩:=h;obtain⟨ns,hne,hle,Eo⟩:=id hs;refine⟨_,bx (cF (bL rP (bH bO rfl ml PySem.boot_len (aW (pv 0) aX)) aY (bM _))
   (bx (cZ (i:=2) Qm.nd rfl (Or.inl rfl) (bY sE (bU fG (pv 0) aY (λ_ _=>rfl)) (pv 1)))
   (bx (Vk (bY GZ (bU fG (pv 0) aY (λ_ _=>rfl)) (pv 1)) (Vj (pv 0) aY set_list))
   (bx (cF (bL Ey (bU fG (pv 0) aY (λ_ _=>rfl)) (cO (aW aY (aW (pN lK aY) aX))) (by with_unfolding_all rfl))
    (bh (fj (jX aiA ajJ ajK V0 (pv 0) (aW aY aX)))) bK)
   (bh (bD (pv 2)))))) bK)
  (bx (Vk (bY sE (bY gQ (bY Mq (bU fG (pv 0) aY (λ_ _=>rfl)) aY) aY) (bY pA (bY G5 aY aY) aY)) (Vj (pv 0) aY set_list))
  (bh (bD (bY sE (bY GZ (bU fG (pv 0) aY (λ_ _=>rfl)) aY) (pv 1))))),?_⟩
 cases ns with
 |nil=>exact absurd rfl hne
 |cons n r=>
  refine⟨_,rfl,st,_,rfl, .inl (dX.of Eo),_,_,rfl,rfl,_,rfl,?_⟩;refine ig (λc=>?_) (λc=>?_)
  ·have c1:(1:Int)<(((n::r).map V.int).length:Nat):=of_decide_eq_true c
   have hr0:r≠[]:=λe=>by rw[e]at c1;simp at c1
   refine⟨_,rfl,st,_,0, .int n,rfl,rfl,dX.of Eo,eF (j:=0) rfl,_,rfl,n,m,rfl,rfl,m0,?_⟩;refine⟨_,rfl,st,_,0, .int n,rfl,rfl,dX.of Eo,eF (j:=0) rfl,_,rfl,n,m,rfl,rfl,⟨m0,by omega⟩,?_⟩;refine⟨_,rfl,st,_,0,0,rfl,rfl,Eo,by rw[aix];exact ix0 _,?_⟩;have g1:cP st H (upd H st (.lst ((n / m::r).map V.int))):=Bq (by simp) (by simpa using hle);refine⟨_,rfl,st,_,0, .int (n / m),rfl,rfl,dX.of bf,eF (j:=0) rfl,1,rfl,small (by show 2<=1000000;decide),λp hp=>?_⟩;have g2:cP st _ (upd (upd H st (.lst ((n / m::r).map V.int))) p (.tup [.int 0, .int (-1)])):=cG g1.ok hp;refine⟨p,[.int 0, .int (-1)],rfl, .inr (dY.of bf),rfl,rfl,_,rfl,?_⟩;have hd0:0<=n%m:=ajT _ (by omega);have hd1:n%m<m:=ajz _ m0;have hst2:(upd (upd H st (.lst ((n / m::r).map V.int))) p (.tup [.int 0, .int (-1)])) st=some (.lst ((n / m::r).map V.int)):=(bw hp _) _ _ bf;refine ig (λc2=>?_) (λc2=>?_)
   ·refine⟨_,rfl, .inl ⟨rfl,_,dX.of hst2⟩,st,_,0,0, .int (n / m),rfl,rfl,hst2,by decide,by decide,?_,rfl,?_⟩
    ·rw[aix]
     exact sq0 _
    ·refine⟨_,rfl,q _ _ hd0 hd1 ((g1.trans g2).trans ?_)⟩
     exact Bq (ns:=r) hr0 (by simp at hle;omega)
   ·exact⟨_,rfl,q _ _ hd0 hd1 (g1.trans g2)⟩
  ·refine⟨_,rfl,st,_,0, .int n,rfl,rfl,dX.of Eo,eF (j:=0) rfl,_,_,rfl,rfl, .inr ⟨by decide,by decide⟩,_,_,rfl,rfl,_,_,rfl,rfl,⟨by decide,by decide,by decide⟩,_,_,rfl,rfl,_,_,rfl,rfl,(by show(0:Int)<2^61-1;decide),?_⟩
   refine⟨_,rfl,st,_,0,0,rfl,rfl,Eo,by rw[aix];exact ix0 _,?_⟩;have g1:∀x,cP st H (upd H st (.lst ((x::r).map V.int))):=λx=>Bq (by simp) (by simpa using hle);refine⟨_,rfl,st,_,0, .int _,rfl,rfl,dX.of bf,eF (j:=0) rfl,_,_,rfl,rfl,⟨by decide,by decide⟩,_,rfl,_,_,rfl,rfl,m0,?_⟩;exact q _ _ (ajT _ (by omega)) (ajz _ m0) (g1 _)
end
def Hv (K:PySem.W.Frag):Sp:=λvs H Q _=>∃(a:Addr) (ns:List Int),vs=[.ref a]/\dX K H a (ns.map V.int)/\ns.length<=63/\∀p H',Same H H'->H p=none->gj H' p->Q (.ref p) H'
def Hw:Sp:=λvs H Q _=>vs=[]/\∀p H',Same H H'->H p=none->H' p=some (.lst (ju.map V.str))->Q (.ref p) H'
def p8:Sp:=λvs H Q _=>∃(st:Addr) (n:Nat),vs=[.ref st, .int n]/\gj H st/\n<=8/\∀z H',sU z n->cP st H H'->Q (.str z) H'
def dD (p:Str->Prop):Sp:=λvs H Q _=>∃(st:Addr),vs=[.ref st]/\gj H st/\∀z H',p z->z.length<=100->cP st H H'->Q (.str z) H'
def Wd:Sp:=λvs H Q _=>∃(st:Addr),vs=[.ref st]/\gj H st/\∀(i:Int) H',-(10^30)<i->i<10^30->cP st H H'->Q (.int i) H'
theorem Bs {α:Type}{xs:List α}{d:Int}(h0:0<=d)(h1:d<xs.length):∃v,Dz xs d=some v/\v∈xs:=by
 have hd:d.toNat<xs.length:=by omega
 refine⟨xs[d.toNat],?_,ajs hd⟩;have e:((d.toNat:Nat):Int)=d:=by omega
 have q:=eF (xs:=xs) (j:=d.toNat) (v:=xs[d.toNat]) (aiE hd);rw[e]at q;exact q
theorem Wf {d:Int}(h0:0<=d)(h1:d<26):∃c,Dz gH.cps.toList d=some c/\c∈gH.cps.toList :=
 Bs h0 (by rw[bT,Az];exact h1)
theorem Wg {d:Int}(h0:0<=d)(h1:d<26):∃c,Dz jt.cps.toList d=some c/\c∈jt.cps.toList :=
 Bs h0 (by rw[bT,Bb];exact h1)
theorem Sv {z:Str}(h:nameB z=true):iR z=true:=by unfold iR;rw[h];rfl
theorem Sw {z:Str}(h:dN z=true):iR z=true:=by unfold iR;rw[h];simp
theorem Wh {z:Str}(h:iz z=true):jK z=true:=by unfold jK;rw[h];simp
theorem Sx {z:Str}(h:nameB z=true):jK z=true:=by unfold jK;rw[h];simp
theorem Sy {z:Str}(h:dN z=true):jK z=true:=by unfold jK;rw[h];simp
theorem Bt:Txt.split ("num fun call let ring case make pick plus minus times less if kind record face"++" hide val part maker apply main") " "=ju:=by decide+kernel
theorem SJ:gH.length<=1000:=by rw[Az];decide
theorem SM:jt.length<=1000:=by rw[Bb];decide
theorem cP.at_ {st p:Addr}{H H':Hp}{o:HO}(a:cP st H H')(h:gj H st)(hp:∀ns,o≠.lst (List.map V.int ns))(e:H p=some o):H' p=some o:=by
 obtain⟨ns,_,_,h3⟩:=h;exact a.1 p o (uJ e h3 (hp ns)) e
section
variable {P:Program}{w:World}{K:PySem.W.Frag}{mg:Str->Option Value}{aN:Heap}{f:Addr}{fd:FuncData}
abbrev Hx:Stmt:=top 85
theorem vV:bG ["_law_script","_law_seed","_law_cell"] ["_law_script"] (bA Hx):=⟨rfl,rfl,rfl,by decide+kernel,rfl,by decide+kernel,by decide+kernel⟩
theorem Wi (F:eV K "_law_drawn" "_law_drawn" Hx f fd)(ml:mg "len"=none):cj P w K mg aN eY 1 f fd ["_law_script"] (Hv K):=by
 refine F.ok vV (len:=λvs H Q E h=>(by obtain⟨a,ns,rfl,_⟩:=h;rfl)) (λcX A aM s H vs Q E hr h=>?_);obtain⟨a,ns,rfl,hS,h63,q⟩:=h;refine⟨_,bx (cZ (i:=1) vV.nd rfl (Or.inl rfl) aY)
  (bx (jR PassesOwn.never rfl (GX (pv 0)) (eO (i:=2) vV.nd rfl (Or.inl rfl)) (bh (cZ (i:=1) vV.nd rfl (Or.inl rfl)
   (bY sE (bY gQ (bY gQ (bY Mq (pv 1) aY) (bY sE (pv 2) (bY G5 aY aY))) aY) (bY pA (bY G5 aY aY) aY)))))
  (bx (cF (PW.pt (uQ (bL rP (bH bO rfl ml PySem.boot_len (aW (pv 0) aX)) aY (bM _)) (qD (bL cN (bY sE (bU fG (pv 0) aY (λ_ _=>rfl)) aY) aY (bM _)))))
   (bh (bD (bY w5 (bY w5 (dj (aW (bY GZ (bU fG (pv 0) aY (λ_ _=>rfl)) aY) aX)) (cL PX (pv 0) (cR aY) (cR aY))) (dj (aW (pv 1) aX))))) bK)
  (bh (bD (dj (aW (pv 1) aX)))))),?_⟩
 refine⟨_,rfl,a,rfl,⟨_,hS⟩,Ag (xs:=ns.map V.int) (λi U H'=>H'=H/\∃(x:Int) (o:Option V),U=[some (.ref a),some (.int x),o]) ⟨rfl,1000003,none,rfl⟩ ?_ ?_ ?_⟩
 ·rintro i U H' _ ⟨rfl,_⟩
  exact hS
 ·rintro i x U H' hx ⟨rfl,y,o,rfl⟩
  rw[ai6]at hx;cases hn:ns[i]? with
  |none=>rw[hn]at hx;cases hx
  |some n=>
   rw[hn]at hx;cases hx;refine⟨_,rfl,_,_,rfl,rfl, .inr ⟨by decide,by decide⟩,_,rfl,_,_,rfl,rfl,⟨by decide,by decide,by decide⟩,_,_,rfl,rfl,(by show(0:Int)<10^30;decide),_,_,rfl,rfl,_,_,rfl,rfl,_,_,rfl,rfl,⟨by decide,by decide,by decide⟩,_,_,rfl,rfl,_,_,rfl,rfl,(by show(0:Int)<2^61-1;decide),?_⟩;exact⟨rfl,_,_,rfl⟩
 ·rintro U H' ⟨rfl,x,o,rfl⟩
  have last:∀H1 D,Same H' H1->D.rt=Q->Mh (Vw (cV (jE 1) kI)) D [some (.ref a),some (.int x),o] H1:=λH1 D e hD=>by
   refine⟨_,rfl,small (by show 1<=1000000;decide),λp hp=>?_⟩;rw[hD];exact q p _ (e.trans (bw hp _)) (e.free hp) ⟨[x],by simp,by simp,bf⟩
  refine⟨_,rfl,a,_,rfl, .inl hS,_,_,rfl,rfl,_,rfl,?_⟩;refine ig (λc=>?_) (λc=>?_)
  ·have c1:(0:Int)<((ns.map V.int).length:Nat):=of_decide_eq_true c
   cases ns with
   |nil=>simp at c1
   |cons n r=>
    refine⟨_,rfl,a,_,0, .int n,rfl,rfl,hS,eF (j:=0) rfl,_,_,rfl,rfl,(by show(0:Int)<2;decide),rfl,_,rfl,?_⟩;refine ig (λc2=>?_) (λc2=>?_)
    ·refine⟨_,rfl,a,_,0, .int n,rfl,rfl,hS,eF (j:=0) rfl,_,_,rfl,rfl,⟨by decide,by decide⟩,small (by show 1<=1000000;decide),λp1 hp1=>?_⟩
     have e1:=bw hp1 (.lst [V.int (n / 2)]);refine⟨_,rfl,1,rfl,63,rfl,a,_,rfl,e1.seq hS,λp2 hp2=>?_⟩;have e2:=bw hp2 (.lst (lF ((n::r).map V.int) (some 1) (some 63)));obtain⟨ms,hms⟩:∃ms:List Int,lF ((n::r).map V.int) (some 1) (some 63)=ms.map V.int:=by
      unfold lF;rw[<-List.map_drop,<-List.map_take];exact⟨_,rfl⟩
     have hml:ms.length<=63:=by
      have:=sO ((n::r).map V.int) (some 1) (some 63);rw[hms,aix,aix]at this;omega
     refine⟨p1,p2,_,_,rfl,rfl,e2 _ _ bf,bf,?_,λp3 hp3=>?_⟩
     ·rw[hms,aix]
      exact small (by simp;omega)
     have e3:=bw hp3 (.lst ([V.int (n / 2)]++lF ((n::r).map V.int) (some 1) (some 63)));refine⟨_,rfl,small (by show 1<=1000000;decide),λp4 hp4=>?_⟩;have e4:=bw hp4 (.lst [V.int x]);refine⟨p3,p4,_,_,rfl,rfl,e4 _ _ bf,bf,?_,λp5 hp5=>?_⟩
     ·rw[hms]
      exact small (by simp;omega)
     refine q p5 _ (e1.trans (e2.trans (e3.trans (e4.trans (bw hp5 _))))) ((e1.trans (e2.trans (e3.trans e4))).free hp5) ⟨n / 2::(ms++[x]),by simp,by simp;omega,?_⟩;rw[bf,hms];simp
    ·exact last _ _ (Same.refl _) rfl
  ·exact last _ _ (Same.refl _) rfl
abbrev Nb:Stmt:=top 86
theorem Qn:bG ["_law_words"] [] (bA Nb):=⟨rfl,rfl,rfl,by decide+kernel,rfl,by decide+kernel,by decide+kernel⟩
theorem Z6 (F:eV K "_law_kept" "_law_kept" Nb f fd):cj P w K mg aN eY 1 f fd [] Hw:=by
 refine F.ok Qn (len:=λvs H Q E h=>(by obtain⟨rfl,_⟩:=h;rfl)) (λcX A aM s H vs Q E hr h=>?_);obtain⟨rfl,q⟩:=h;refine⟨_,bx (cZ (i:=0) Qn.nd rfl (Or.inl rfl) bQ) (bh (bD (jX aiJ ajG ajH Aq (bY jq (pv 0) bQ) (aW bQ aX)))),?_⟩;refine⟨_,rfl,_,_,rfl,rfl,small (by decide+kernel),rfl,_," ",rfl,rfl,small (by decide+kernel),by decide+kernel,?_,λl hl=>?_⟩
 ·rw[Bt]
  exact small (by decide+kernel)
 ·rw[Bt]
  exact q l _ (bw hl _) hl bf
abbrev xK:Stmt:=top 87
theorem qP:bG ["_law_state","_law_long","_law_word","_law_k"] ["_law_state","_law_long"] (bA xK):=⟨rfl,rfl,rfl,by decide+kernel,rfl,by decide+kernel,by decide+kernel⟩
theorem Nf (F:eV K "_law_letters" "_law_letters" xK f fd)(mr:mg "range"=none)(h1:Has P w K mg aN 1 "_law_next" ["_law_state","_law_many"] eE):cj P w K mg aN eY 2 f fd ["_law_state","_law_long"] p8:=by
 refine F.ok qP (len:=λvs H Q E h=>(by obtain⟨st,n,rfl,_⟩:=h;rfl)) (λcX A aM s H vs Q E hr h=>?_);obtain⟨st,n,rfl,hs,hn,q⟩:=h;refine⟨_,bx (cZ (i:=2) qP.nd rfl (Or.inl rfl) bQ)
  (bx (jR PassesOwn.never rfl (dw rfl mr (aW (pv 1) aX)) (eO (i:=3) qP.nd rfl (Or.inl rfl))
   (bh (Mj (i:=2) qP.nd rfl (Or.inl rfl) (bU Al bQ (bB h1 hr (by decide) rfl (aW (pv 0) (aW aY aX))) (λ_ _=>rfl)) sI)))
  (bh (bD (pv 2)))),?_⟩
 refine⟨_,rfl,n,rfl,by omega,by omega,fW (n:=(n:Int).toNat) (λi U H'=>∃(z:Str) (o:Option V),U=[some (.ref st),some (.int n),some (.str z),o]/\sU z i/\cP st H H') ⟨"",none,rfl,RV,cP.refl hs⟩ ?_ ?_⟩
 ·rintro i U H' hi ⟨z,o,rfl,hz,g⟩
  refine⟨_,rfl,_,rfl,st,26,rfl,g.ok,by decide,by decide,λd H2 d0 d1 g2=>?_⟩;obtain⟨c,hc,hm⟩:=Wf d0 d1;refine⟨gH,d,c,rfl,rfl,small (by have:=SJ;omega),hc,z,⟨#[c]⟩,rfl,rfl,small ?_,?_⟩
  ·rw[hz.len]
   show i+1<=1000000;omega
  ·exact⟨z++⟨#[c]⟩,_,rfl,MN hz hm,g.trans g2⟩
 ·rintro U H' ⟨z,o,rfl,hz,g⟩
  exact⟨_,rfl,q z H' (by simpa using hz) g⟩
abbrev Hy:Stmt:=top 88
theorem Ke:bG ["_law_state","_law_word"] ["_law_state"] (bA Hy):=⟨rfl,rfl,rfl,by decide+kernel,rfl,by decide+kernel,by decide+kernel⟩
theorem Wj (F:eV K "_law_small" "_law_small" Hy f fd)(h1:Has P w K mg aN 1 "_law_next" ["_law_state","_law_many"] eE)(h2:Has P w K mg aN 2 "_law_letters" ["_law_state","_law_long"] p8)(h3:Has P w K mg aN 1 "_law_kept" [] Hw):
  cj P w K mg aN eY 3 f fd ["_law_state"] (dD λz=>nameB z=true):=by
 refine F.ok Ke (len:=λvs H Q E h=>(by obtain⟨st,rfl,_⟩:=h;rfl)) (λcX A aM s H vs Q E hr h=>?_);obtain⟨st,rfl,hs,q⟩:=h;refine⟨_,bx (cZ (i:=1) Ke.nd rfl (Or.inl rfl) (bB h2 hr (by decide) rfl (aW (pv 0) (aW (bY gQ aY (bB h1 hr (by decide) rfl (aW (pv 0) (aW aY aX)))) aX))))
  (bx (cF (bL Ey (pv 1) (V8 h3 hr (by decide) rfl) (by with_unfolding_all rfl)) (bh (bD (bY jq (pv 1) bQ))) bK)
  (bh (bD (pv 1)))),?_⟩
 refine⟨_,rfl,_,rfl,st,8,rfl,hs,by decide,by decide,λd H1 d0 d1 g1=>?_⟩;refine⟨1,d,rfl,rfl,st,(1+d).toNat,?_,g1.ok,by omega,λz H2 hz g2=>?_⟩
 ·have e:(((1+d).toNat:Nat):Int)=1+d:=by omega
  rw[e]
  rfl
 have hl:z.length<=8:=by rw[hz.len];omega
 refine⟨_,rfl,rfl,λp H3 e3 hp hk=>?_⟩;refine⟨p,_,rfl, .inl (dX.of hk),rfl,pZ _,_,rfl,?_⟩;rw[if_neg aip,vU];have g3:=cH (g1.trans g2).ok e3;refine ig (λc=>?_) (λc=>?_)
 ·have c1:z∈ju:=of_decide_eq_true c
  refine⟨_,rfl,z,"q",rfl,rfl,small ?_,?_⟩
  ·show z.length+1<=1000000
   omega
  ·exact q _ _ (acE z c1) (by rw[len_app];show z.length+1<=100;omega) ((g1.trans g2).trans g3)
 ·have c1:z∉ju:=of_decide_eq_false (Bool.eq_false_iff.mpr c)
  exact⟨_,rfl,q z _ (MP hz (by omega) (by omega) c1) (by omega) ((g1.trans g2).trans g3)⟩
abbrev Hz:Stmt:=top 89
theorem Kf:bG ["_law_state","_law_sign"] ["_law_state"] (bA Hz):=⟨rfl,rfl,rfl,by decide+kernel,rfl,by decide+kernel,by decide+kernel⟩
theorem Wk (F:eV K "_law_great" "_law_great" Hz f fd)(h1:Has P w K mg aN 1 "_law_next" ["_law_state","_law_many"] eE)(h2:Has P w K mg aN 2 "_law_letters" ["_law_state","_law_long"] p8):
  cj P w K mg aN eY 3 f fd ["_law_state"] (dD λz=>bJ z=true):=by
 refine F.ok Kf (len:=λvs H Q E h=>(by obtain⟨st,rfl,_⟩:=h;rfl)) (λcX A aM s H vs Q E hr h=>?_);obtain⟨st,rfl,hs,q⟩:=h;refine⟨_,bx (cZ (i:=1) Kf.nd rfl (Or.inl rfl) (bU Al bQ (bB h1 hr (by decide) rfl (aW (pv 0) (aW aY aX))) (λ_ _=>rfl)))
  (bh (bD (bY jq (pv 1) (bB h2 hr (by decide) rfl (aW (pv 0) (aW (bB h1 hr (by decide) rfl (aW (pv 0) (aW aY aX))) aX)))))),?_⟩
 refine⟨_,rfl,st,26,rfl,hs,by decide,by decide,λd H1 d0 d1 g1=>?_⟩;obtain⟨c,hc,hm⟩:=Wg d0 d1;refine⟨jt,d,c,rfl,rfl,small (by have:=SM;omega),hc,?_⟩;refine⟨_,rfl,_,rfl,_,rfl,st,8,rfl,g1.ok,by decide,by decide,λe H2 e0 e1 g2=>?_⟩;refine⟨st,e.toNat,?_,g2.ok,by omega,λz H3 hz g3=>?_⟩
 ·have e':((e.toNat:Nat):Int)=e:=by omega
  rw[e']
  rfl
 have hl:z.length<=7:=by rw[hz.len];omega
 refine⟨⟨#[c]⟩,z,rfl,rfl,small ?_,?_⟩
 ·show 1+z.length<=1000000
  omega
 ·exact q _ _ (V7 hm hz (by omega)) (by rw[len_app];show 1+z.length<=100;omega) ((g1.trans g2).trans g3)
abbrev Ng:Stmt:=top 90
theorem Qo:bG ["_law_state","_law_part"] ["_law_state"] (bA Ng):=⟨rfl,rfl,rfl,by decide+kernel,rfl,by decide+kernel,by decide+kernel⟩
theorem Z7 (F:eV K "_law_path" "_law_path" Ng f fd)(h1:Has P w K mg aN 3 "_law_great" ["_law_state"] (dD λz=>bJ z=true))(h2:Has P w K mg aN 3 "_law_small" ["_law_state"] (dD λz=>nameB z=true)):
  cj P w K mg aN eY 4 f fd ["_law_state"] (dD λz=>dN z=true):=by
 refine F.ok Qo (len:=λvs H Q E h=>(by obtain⟨st,rfl,_⟩:=h;rfl)) (λcX A aM s H vs Q E hr h=>?_);obtain⟨st,rfl,hs,q⟩:=h;refine⟨_,bx (cZ (i:=1) Qo.nd rfl (Or.inl rfl) (bB h1 hr (by decide) rfl (aW (pv 0) aX)))
  (bh (bD (bY jq (bY jq (pv 1) bQ) (bB h2 hr (by decide) rfl (aW (pv 0) aX))))),?_⟩
 refine⟨_,rfl,st,rfl,hs,λz H1 hz lz g1=>?_⟩;refine⟨_,rfl,z,".",rfl,rfl,small (by show z.length+1<=1000000;omega),_,rfl,st,rfl,g1.ok,λy H2 hy ly g2=>?_⟩;have e:(z++"."++y:Str).length=z.length+1+y.length:=by rw[len_app,len_app];rfl
 obtain⟨c,r,hcr,_,_,_,hr7⟩:=jY hz;have lz8:z.length<=8:=by rw[<-bT,hcr];simp;omega
 obtain⟨n,hl,_,hn8,_⟩:=pX hy;have ly8:y.length<=8:=by rw[hl.len];exact hn8
 have lz1:(z++".":Str).length=z.length+1:=by rw[len_app];rfl
 refine⟨_,y,rfl,rfl,small (by rw[lz1];omega),?_⟩;exact q _ _ (Z1 hz hy) (by rw[e];omega) (g1.trans g2)
abbrev u5:Stmt:=top 91
theorem Kg:bG ["_law_state"] ["_law_state"] (bA u5):=⟨rfl,rfl,rfl,by decide+kernel,rfl,by decide+kernel,by decide+kernel⟩
theorem Kh (F:eV K "_law_variable" "_law_variable" u5 f fd)(h1:Has P w K mg aN 1 "_law_next" ["_law_state","_law_many"] eE)(h2:Has P w K mg aN 2 "_law_letters" ["_law_state","_law_long"] p8):
  cj P w K mg aN eY 3 f fd ["_law_state"] (dD λz=>iz z=true):=by
 refine F.ok Kg (len:=λvs H Q E h=>(by obtain⟨st,rfl,_⟩:=h;rfl)) (λcX A aM s H vs Q E hr h=>?_);obtain⟨st,rfl,hs,q⟩:=h;refine⟨_,bh (bD (bY jq bQ (bB h2 hr (by decide) rfl (aW (pv 0) (aW (bY gQ aY (bB h1 hr (by decide) rfl (aW (pv 0) (aW aY aX)))) aX))))),?_⟩;refine⟨_,rfl,_,rfl,st,8,rfl,hs,by decide,by decide,λd H1 d0 d1 g1=>?_⟩;refine⟨1,d,rfl,rfl,st,(1+d).toNat,?_,g1.ok,by omega,λz H2 hz g2=>?_⟩
 ·have e:(((1+d).toNat:Nat):Int)=1+d:=by omega
  rw[e]
  rfl
 have hl:z.length<=8:=by rw[hz.len];omega
 refine⟨"?",z,rfl,rfl,small (by show 1+z.length<=1000000;omega),?_⟩;exact q _ _ (acF hz (by omega) (by omega)) (by rw[len_app];show 1+z.length<=100;omega) (g1.trans g2)
abbrev Bu:Stmt:=top 92
theorem ud:bG ["_law_state","_law_number_here","_law_k"] ["_law_state"] (bA Bu):=⟨rfl,rfl,rfl,by decide+kernel,rfl,by decide+kernel,by decide+kernel⟩
theorem SN (F:eV K "_law_number" "_law_number" Bu f fd)(mr:mg "range"=none)(h1:Has P w K mg aN 1 "_law_next" ["_law_state","_law_many"] eE):cj P w K mg aN eY 2 f fd ["_law_state"] Wd:=by
 refine F.ok ud (len:=λvs H Q E h=>(by obtain⟨st,rfl,_⟩:=h;rfl)) (λcX A aM s H vs Q E hr h=>?_);obtain⟨st,rfl,hs,q⟩:=h;refine⟨_,bx (cZ (i:=1) ud.nd rfl (Or.inl rfl) (bB h1 hr (by decide) rfl (aW (pv 0) (aW aY aX))))
  (bx (cF (bL cN (bB h1 hr (by decide) rfl (aW (pv 0) (aW aY aX))) aY (bM _))
   (bh (jR PassesOwn.never rfl (dw rfl mr (aW (bB h1 hr (by decide) rfl (aW (pv 0) (aW aY aX))) aX)) (eO (i:=2) ud.nd rfl (Or.inl rfl))
    (bh (cZ (i:=1) ud.nd rfl (Or.inl rfl) (bY gQ (bY Mq (pv 1) aY) (bB h1 hr (by decide) rfl (aW (pv 0) (aW aY aX)))))))) bK)
  (bx (cF (bL cN (bB h1 hr (by decide) rfl (aW (pv 0) (aW aY aX))) aY (bM _)) (bh (bD (pN lK (pv 1)))) bK)
  (bh (bD (pv 1))))),?_⟩
 refine⟨_,rfl,st,10,rfl,hs,by decide,by decide,λd H1 d0 d1 g1=>?_⟩;refine⟨_,rfl,st,4,rfl,g1.ok,by decide,by decide,λe H2 e0 e1 g2=>⟨rfl,_,rfl,?_⟩⟩;have tail:∀(x:Int) (o:Option V) (H3:Hp),0<=x->x<10^30->cP st H H3->JD (Mi (Er (vG rEq (jh eE [] E0 (cV (jE 0) (cV (tC (.int 3)) kI))) (tC (.int 0)))) (Mh (tUn (rU λi=>.int (-i)) (jE 1))) Px) (Mh (jE 1)) {nx:=λ_ H'=>Q .non H',rt:=Q} [some (.ref st),some (.int x),o] H3:=λx o H3 x0 x1 g=>by
  refine⟨_,rfl,st,3,rfl,g.ok,by decide,by decide,λy H4 y0 y1 g4=>⟨rfl,_,rfl,?_⟩⟩;refine ig (λc=>?_) (λc=>?_)
  ·exact⟨_,rfl,x,rfl,q _ _ (by omega) (by omega) (g.trans g4)⟩
  ·exact⟨_,rfl,q _ _ (by omega) (by omega) (g.trans g4)⟩
 refine ig (λc=>?_) (λc=>?_)
 ·refine⟨_,rfl,st,30,rfl,g2.ok,by decide,by decide,λn H3 n0 n1 g3=>?_⟩
  refine⟨n,rfl,by omega,by omega,fW (n:=n.toNat) (λi U H'=>∃(x:Int) (o:Option V),U=[some (.ref st),some (.int x),o]/\0<=x/\x<10^(i+1)/\cP st H H') ⟨d,none,rfl,d0,by simpa using d1,(g1.trans g2).trans g3⟩ ?_ ?_⟩
  ·rintro i U H' hi ⟨x,o,rfl,x0,x1,g⟩
   refine⟨_,rfl,_,_,rfl,rfl, .inr ⟨by decide,by decide⟩,_,rfl,st,10,rfl,g.ok,by decide,by decide,λy H4 y0 y1 g4=>⟨_,_,rfl,rfl,?_⟩⟩;refine⟨_,_,rfl,?_,?_,g.trans g4⟩
   ·show 0<=x*10+y
    omega
   ·show x*10+y<10^(i+1+1)
    rw[Int.pow_succ];omega
  ·rintro U H' ⟨x,o,rfl,x0,x1,g⟩
   refine tail x o H' x0 (Int.lt_of_lt_of_le x1 ?_) g
   exact_mod_cast Nat.pow_le_pow_right (by decide:0<10) (by omega:n.toNat+1<=30)
 ·exact tail d none H2 d0 (by omega) (g1.trans g2)
end
end Fw
namespace L2
open PySem PySem.Spec PyProof.Rows
section
variable {X:Cx}
end
end L2
namespace PySem
namespace Heap
def lN (g lX:Heap)(e:Addr)(cls a0 fl:Value):Prop :=
 ∃ob ws T oT ts,g.get? e=some ob/\(ob.cls=cls/\ws[0]?=some a0/\ws[2]?=some .none)/\ob.data=.fields ws/\ws[1]?=some (.ref T)/\lX.get? T=none/\T≠e/\g.get? T=some oT/\oT.data=.fields ts/\ts[3]?=some fl
def jF (lX:Heap)(l:List Env)(e:Addr)(cls a0:Value)(g:Heap):Prop:=lX.StaysIn g/\lX.get? e=none/\g.FunFrames lX l/\g.lN lX e cls a0 .none
def Kl (lX:Heap)(l:List Env)(e:Addr)(cls a0:Value)(L:Addr)(g:Heap):Prop:=lX.StaysIn g/\lX.get? e=none/\g.FunFrames lX l/\g.lN lX e cls a0 (rawInt L)
theorem jF.there {lX g:Heap}{l:List Env}{e:Addr}{cls a0:Value}(x:jF lX l e cls a0 g):∃ob,g.get? e=some ob/\ob.cls=cls :=
 x.2.2.2.elim λob h=>h.elim λ_ h=>h.elim λ_ h=>h.elim λ_ h=>h.elim λ_ h=>⟨ob,h.1,h.2.1.1⟩
end Heap
section
variable {M:Model}{A:Around}{E:Value->Shared->Prop}{s:Shared}{lX:Heap}{env:Env}{aM:List Env}{L e:Addr}{cls a0 fl:Value}{Q:Unit->Shared->Prop}
theorem Wm {ob:Obj}{ws:Array Value}{hd:Value}{hn:Bool}(hfr:A.frames=some (env::aM))(f3:s.heap.FunFrames lX (env::aM))(hf:env.frame=some L)(ge:s.heap.get? e=some ob)(f1:lX.StaysIn s.heap)(f2:lX.get? e=none)(gd:ob.data=.fields ws)(z1:1<ws.size)(g0:ws[0]?=some a0/\ws[2]?=some .none)
  (hQ:∀g,lX.StaysIn g->g.FunFrames lX (env::aM)->g.lN lX e ob.cls a0 (rawInt L)->s.heap.UpToSlots g->Q () {s with heap:=g}):
  wpAny M A (do
   let x <-frameOf env
   let y <-entryPlaceOf L hn
   let z <-EntryCells.newEntry hd x .none (rawInt L) .none y
   setField (.ref e) 1 z) Q E s:=by
 refine wpAny_bind (wpAny_frameOf_fun hfr f3 hf λg1 so=>wpAny_bind (wpAny_entryPlaceOf λy iy=>?_));unfold EntryCells.newEntry newFields;refine wpAny_bind (wpAny_newObj_type ?_ (iy.sizeOk5 _ _ _ _ _));have nfe:e∉(env::aM).filterMap (·.frame):=λz=>by
  obtain⟨_,o,q,n⟩:=f3.mem z;rw[ge]at q;cases q;exact n ws gd
 have e1:g1.get? e=some ob:=(so.2.1 e nfe).trans ge;have f1':lX.StaysIn g1:=λb o q=>(so.2.1 b λz=>by rw[(f3.mem z).1]at q;cases q).trans (f1 b o q);have t3:(([hd, .ref L, .none,rawInt L, .none]++(if y.isEmpty then List.replicate 6 Value.none else y)).toArray)[3]?=some (rawInt L):=by simp
 generalize ([hd, .ref L, .none,rawInt L, .none]++(if y.isEmpty then List.replicate 6 Value.none else y)).toArray=ts at t3 ⊢;have nT:g1.objs.size≠e:=ajP (aiu e1);have e2:=aiq (h:=g1) {cls:=.type "traceback",dict:=none,data:=.fields ts} e1;have gd3:=Obj.data_mapFields gd (·.setIfInBounds 1 (Value.ref g1.objs.size));have off:∀b o,b≠e->g1.get? b=some o->((g1.push {cls:=.type "traceback",dict:=none,data:=.fields ts}).update e (Obj.mapFields (·.setIfInBounds 1 (Value.ref g1.objs.size)))).get? b=some o:=λb o n q=>by
  rw[ai8 _ _ (Ne.symm n)];exact aiq _ q
 have Nh:∀b o,s.heap.get? b=some o->(∀vs,o.data≠.fields vs)->b≠e:=λb o q n z=>by
  subst z;rw[ge]at q;cases q;exact n ws gd
 have upto:∀b o,s.heap.get? b=some o->(∀vs,o.data≠.fields vs)->∃sl,((g1.push {cls:=.type "traceback",dict:=none,data:=.fields ts}).update e (Obj.mapFields (·.setIfInBounds 1 (Value.ref g1.objs.size)))).get? b=some {o with slots:=sl}:=λb o q n=>by
  obtain⟨sl,q'⟩:=so.2.2 b o q;exact⟨sl,off b _ (Nh b o q n) q'⟩
 refine wpAny_setField e2 gd z1 (hQ _ (λb o q=>off b o (λz=>by rw[z,f2]at q;cases q) (f1' b o q)) (f3.of_keeps λb o q n=>?_) ?_ upto)
 ·obtain⟨sl,q'⟩:=upto b o q n
  exact⟨_,q',rfl⟩
 ·refine⟨_,_,g1.objs.size,_,ts,ajm _ e2 (Obj.isFreed_of_fields gd3),⟨Obj.cls_mapFields _ _,?_,?_⟩,gd3,by simp[z1],f1'.fresh,nT,(ai8 _ _ (Ne.symm nT)).trans (aiC g1 rfl),rfl,t3⟩
  ·rw[ajM (by decide)];exact g0.1
  ·rw[ajM (by decide)];exact g0.2
theorem ug {l:List Env}(fr:Option Addr)(f1:lX.StaysIn s.heap)(f3:s.heap.FunFrames lX l)(f4:s.heap.lN lX e cls a0 fl)
  (hQ:∀h',lX.StaysIn h'->h'.FunFrames lX l->h'.lN lX e cls a0 (fr.elim Value.none λf=>rawInt f)->(∀b o,s.heap.get? b=some o->(∀vs,o.data≠.fields vs)->h'.get? b=some o)->Q () {s with heap:=h'}):
  wpAny M A (setFlight (.ref e) fr) Q E s:=by
 obtain⟨ob,ws,T,oT,ts,ge,gc,gd,g1,gn,gne,gT,Zo,g3⟩:=f4;have sz:3<ts.size:=(Array.getElem?_eq_some_iff.mp g3).1;have off:∀b,b≠T->(s.heap.update T (Obj.mapFields (·.setIfInBounds 3 (fr.elim Value.none λf=>rawInt f)))).get? b=s.heap.get? b:=λb z=>ai8 _ _ (Ne.symm z);have Nh:∀b o,s.heap.get? b=some o->(∀vs,o.data≠.fields vs)->b≠T:=λb o q n z=>by
  subst z;rw[gT]at q;cases q;exact n ts Zo
 unfold setFlight;refine wpAny_bind (wpAny_field ge gd g1 ?_);rw[if_pos (by simp)];refine wpAny_setField gT Zo sz (hQ _ (λb o q=>?_) (f3.of_keeps λb o q n=>⟨o,(off b (Nh b o q n)).trans q,rfl⟩) ?_ λb o q n=>(off b (Nh b o q n)).trans q)
 ·rw[off b (λz=>by rw[z,gn]at q;cases q)]
  exact f1 b o q
 ·exact⟨ob,ws,T,_,_,(off e (Ne.symm gne)).trans ge,gc,gd,g1,gn,gne,ajm _ gT (Obj.isFreed_of_fields (Obj.data_mapFields Zo _)),Obj.data_mapFields Zo _,by simp[sz]⟩
theorem Wn (hfr:A.frames=some (env::aM))(hf:env.frame=some L)(f1:lX.StaysIn s.heap)(f2:lX.get? e=none)(f3:s.heap.FunFrames lX (env::aM))(f4:s.heap.lN lX e cls a0 fl)
  (hQ:∀g,Heap.Kl lX (env::aM) e cls a0 L g->s.heap.UpToSlots g->Q () {s with heap:=g}):wpAny M A (noteFrame (.ref e) env) Q E s:=by
 by_cases hb:(fl==rawInt L)=true
 ·obtain⟨ob,ws,T,oT,ts,ge,gc,gd,g1,gn,gne,gT,Zo,g3⟩:=id f4
  have ef:fl=rawInt L:=by simpa using hb
  unfold noteFrame;simp only[hf];refine wpAny_bind (wpAny_field ge gd g1 ?_);rw[if_pos (by simp)];refine wpAny_bind (wpAny_field gT Zo g3 ?_);rw[if_pos hb];exact wpAny_pure (hQ s.heap ⟨f1,f2,f3,ef ▸ f4⟩ (Heap.UpToSlots.refl _))
 ·obtain⟨ob,ws,T,oT,ts,ge,⟨gc,g0⟩,gd,g1,gn,gne,gT,Zo,g3⟩:=f4
  subst gc;unfold noteFrame;simp only[hf];refine wpAny_bind (wpAny_field ge gd g1 ?_);rw[if_pos (by simp)];refine wpAny_bind (wpAny_field gT Zo g3 ?_);rw[if_neg hb];refine wpAny_bind (wpAny_setField gT Zo (Array.getElem?_eq_some_iff.mp g3).1 ?_);have off:∀b,b≠T->(s.heap.update T (Obj.mapFields (·.setIfInBounds 3 Value.none))).get? b=s.heap.get? b:=λb z=>ai8 _ _ (Ne.symm z);have Nh:∀b o,s.heap.get? b=some o->(∀vs,o.data≠.fields vs)->b≠T:=λb o q n z=>by
   subst z;rw[gT]at q;cases q;exact n ts Zo
  refine Wm hfr (f3.of_keeps λb o q n=>⟨o,(off b (Nh b o q n)).trans q,rfl⟩) hf ((off e (Ne.symm gne)).trans ge) (λb o q=>?_) f2 gd (Array.getElem?_eq_some_iff.mp g1).1 g0 λh' k1 k2 k3 k4=>hQ h' ⟨k1,f2,k2,k3⟩ λb o q n=>k4 b o ((off b (Nh b o q n)).trans q) n;rw[off b (λz=>by rw[z,gn]at q;cases q)];exact f1 b o q
theorem Ni (hfr:A.frames=some (env::aM))(hf:env.frame=some L)(f1:lX.StaysIn s.heap)(f2:lX.get? e=none)(f3:s.heap.FunFrames lX (env::aM))(f4:s.heap.lN lX e cls a0 fl)
  (hQ:∀h',Heap.jF lX aM e cls a0 h'->s.heap.UpToSlots h'->Q () {s with heap:=h'}):wpAny M A (leaving env (.ref e)) Q E s:=by
 unfold leaving;refine wpAny_bind (Wn hfr hf f1 f2 f3 f4 λg ⟨a1,a2,a3,a4⟩ up=>ug (s:={s with heap:=g}) none a1 a3 a4 λh' k1 k2 k3 k4=>hQ h' ⟨k1,f2,k2.2.2,k3⟩ (up.trans λb o q n=>⟨o.slots,k4 b o q n⟩))
theorem Nj (hfr:A.frames=some (env::aM))(hf:env.frame=some L)(x:Heap.jF lX (env::aM) e cls a0 s.heap)(hQ:∀h',Heap.jF lX aM e cls a0 h'->s.heap.UpToSlots h'->Q () {s with heap:=h'}):wpAny M A (leaving env (.ref e)) Q E s:=Ni hfr hf x.1 x.2.1 x.2.2.1 x.2.2.2 hQ
theorem SQ (hfr:A.frames=some (env::aM))(hf:env.frame=some L)(x:Heap.jF lX (env::aM) e cls a0 s.heap)(hQ:∀g,Heap.Kl lX (env::aM) e cls a0 L g->s.heap.UpToSlots g->Q () {s with heap:=g}):wpAny M A (noteFrame (.ref e) env) Q E s:=Wn hfr hf x.1 x.2.1 x.2.2.1 x.2.2.2 hQ
theorem acJ {l:List Env}(x:Heap.Kl lX l e cls a0 L s.heap)(hQ:∀h',Heap.jF lX l e cls a0 h'->s.heap.UpToSlots h'->Q () {s with heap:=h'}):wpAny M A (setFlight (.ref e) none) Q E s :=
 ug none x.1 x.2.2.1 x.2.2.2 λh' k1 k2 k3 k4=>hQ h' ⟨k1,x.2.1,k2,k3⟩ λb o q n=>⟨o.slots,k4 b o q n⟩
theorem HB {l:List Env}(x:Heap.jF lX l e cls a0 s.heap)(hQ:∀h',Heap.jF lX l e cls a0 h'->s.heap.UpToSlots h'->Q () {s with heap:=h'}):wpAny M A (setFlight (.ref e) none) Q E s :=
 ug none x.1 x.2.2.1 x.2.2.2 λh' k1 k2 k3 k4=>hQ h' ⟨k1,x.2.1,k2,k3⟩ λb o q n=>⟨o.slots,k4 b o q n⟩
theorem Nk {h:Heap}{args:List Value}(hfr:A.frames=some (env::aM))(hf:env.frame=some L)(hkb:lX.StaysIn h)(hl:h.FunFrames lX (env::aM))(hx:Heap.MadeExcOf h s.heap e cls args)
  (hQ:∀h' t,Heap.Kl lX (env::aM) e cls (.ref t) L h'->s.heap.UpToSlots h'->Q () {s with heap:=h'}):wpAny M A (noteFrame (.ref e) env) Q E s:=by
 obtain⟨t,he,htn,ht⟩:=hx.there;have fresh:lX.get? e=none:=by
  cases hq:lX.get? e with
  |none=>rfl
  |some o'=>have:=hkb e o' hq;rw[hx.new]at this;cases this
 unfold noteFrame;simp only[hf];refine wpAny_bind (wpAny_field he rfl (x:=.none) rfl ?_);rw[if_neg (by decide)];exact Wm (a0:=.ref t) hfr (hl.of_keeps λb o hb _=>⟨o,hx.keeps b o hb,rfl⟩) hf he (λb o hb=>hx.keeps b o (hkb b o hb)) fresh rfl (by show 1<6;decide) ⟨rfl,rfl⟩ λh' k1 k2 k3 k4=>hQ h' t ⟨k1,fresh,k2,k3⟩ k4
theorem HD {h:Heap}{args:List Value}(hfr:A.frames=some (env::aM))(hf:env.frame=some L)(hkb:lX.StaysIn h)(hl:h.FunFrames lX (env::aM))(hx:Heap.MadeExcOf h s.heap e cls args)
  (hQ:∀h' t,Heap.jF lX aM e cls (.ref t) h'->s.heap.UpToSlots h'->Q () {s with heap:=h'}):wpAny M A (leaving env (.ref e)) Q E s:=by
 unfold leaving;exact wpAny_bind (Nk hfr hf hkb hl hx λg t ⟨a1,a2,a3,a4⟩ up=>ug (s:={s with heap:=g}) none a1 a3 a4 λh' k1 k2 k3 k4=>hQ h' t ⟨k1,a2,k2.2.2,k3⟩ (up.trans λb o q n=>⟨o.slots,k4 b o q n⟩))
end
end PySem
namespace L2
open PySem PySem.Spec PyProof.Rows
def aeX (P:Program)(w:World)(l:List Env)(H:Hp)(s:Shared)(C ea:Addr)(H':Hp)(s':Shared):Prop :=
 s'.os=s.os/\AllBare s'.gens/\Un (frs l) [] H H' s.heap s'.heap/\tZ P w H' s'.heap/\H' ea=none/\
 ∃(B:Heap) (t:Addr),Heap.jF B l ea (.ref C) (.ref t) s'.heap/\∀b o,s'.heap.get? b=some o->b∉frs l->(H' b≠none\/∃o',s.heap.get? b=some o')->B.get? b=some o
def xM (P:Program)(w:World):G9:=λl H s E e s'=>∃ea C H',e=.ref ea/\aeX P w l H s C ea H' s'/\E (.ref C) (some ea) H'
section
variable {P:Program}{w:World}{K:PySem.W.Frag}{mg:Str->Option Value}{aN:Heap}{N:List Str}{aR:Str}{aQ:Scope}{f:Addr}{cd:Value}{A:Around}{aM:List Env}{s:Shared}{H:Hp}{E:XK}{CX:G9}
theorem tZ.abJ {H:Hp}{h h':Heap}(ok:tZ P w H h)(k:∀b u,H b≠none->h.get? b=some u->h'.get? b=some u):tZ P w H h':=λa o e=>
 (ok a o e).stay (λb u hb q=>k b u (by
  rcases hb with z|z
  ·rw[z,e];simp
  ·rw[z];simp) q) (λ_ q=>q) λ_ _ q=>q
theorem iM.there {H:Hp}{h:Heap}{a:Addr}{o:HO}(x:iM P w H h a o):∃ob,h.get? a=some ob:=by
 cases o with
 |lst xs=>obtain⟨_,_,_,_,e⟩:=x;exact⟨_,e⟩
 |tup xs=>obtain⟨_,_,_,ob,e,_⟩:=x;exact⟨_,e⟩
 |dK m7=>obtain⟨_,_,_,_,o,_,_,e,_⟩:=x;exact⟨_,e⟩
 |dT m7=>obtain⟨_,_,_,_,o,_,_,e,_⟩:=x;exact⟨_,e⟩
 |set S n=>obtain⟨o,_,_,_,e,_⟩:=x;exact⟨_,e⟩
 |ins C dx fs=>obtain⟨_,_,_,e,_⟩:=x;exact⟨_,e⟩
 |own y=>exact x
 |xd fs=>obtain⟨mA,⟨o,es,ep,e,_⟩,_⟩:=x;exact⟨_,e⟩
 |rng lo hi=>obtain⟨_,_,_,e⟩:=x;exact⟨_,e⟩
 |Mf o u=>exact⟨_,x.1⟩
 |tbl ps=>exact⟨_,x⟩
 |met f y=>exact⟨_,x⟩
 |ext φ=>exact x.2.1
theorem Wo {X:Cx}{aZ:List (Addr×Obj)}{U:St}{H1:Hp}{s1:Shared}{h':Heap}(hex:X.ex=[])(I:Inv X aZ U H1 s1)
  (kp:∀b o,s1.heap.get? b=some o->b∉frs X.stack->(H1 b≠none\/∃o',X.s₀.heap.get? b=some o')->h'.get? b=some o)
  (sl:∀b o,b∈X.fs->s1.heap.get? b=some o->(∀vs,o.data≠.fields vs)->∃sl,h'.get? b=some {o with slots:=sl}):Un X.fs [] X.H₀ H1 X.s₀.heap h'/\tZ X.prog X.w H1 h':=by
 have nx:∀b:Addr,b∉X.ex:=λb z=>by rw[hex]at z;cases z
 have abK:∀{b o},X.s₀.heap.get? b=some o->b∉X.fs->b∉frs X.stack:=λ{b o} e hb z=>by
  rcases aiB.mp (I.nR b z) with q|q
  ·have h1:=aiu e
   have h2:=I.ok.above;rw[q]at h1;exact absurd (aiw h1 h2) (aiI _)
  ·exact hb q
 have trk:∀{b},H1 b≠none->b∉frs X.stack:=λ{b} n z=>n (I.vH b z);have frame:∀{b o},X.s₀.heap.get? b=some o->X.H₀ b=none->b∈X.fs->∃sl',h'.get? b=some {o with slots:=sl'}:=λ{b o} e n hb=>by
  obtain⟨s2,q⟩:=I.base.slot b o e n hb (nx b);obtain⟨_,o',ho',hnf⟩:=I.ok.su.mem hb;rw[e]at ho';cases ho';obtain⟨s3,q3⟩:=sl b _ hb q hnf;exact⟨s3,q3⟩
 refine⟨⟨λb o e n hb _=>kp b o (I.base.keep b o e n hb (nx b)) (abK e hb) (.inr ⟨o,e⟩),λb o e n hb _=>frame e n hb,λb o e n _=>I.base.free b o e n (nx b),λb o e _=>?_,I.base.tups,I.base.wW,I.base.zj⟩,I.hok.abJ λb u n q=>kp b u q (trk n) (.inl n)⟩;by_cases hb:b∈X.fs
 ·obtain⟨s3,q3⟩:=frame e (I.ok.UG b hb) hb
  exact⟨_,q3⟩
 ·obtain⟨o',q⟩:=I.base.there b o e (nx b)
  exact⟨o',kp b o' q (abK e hb) (.inr ⟨o,e⟩)⟩
theorem HF {X:Cx}{aZ:List (Addr×Obj)}{U:St}{H1:Hp}{s1:Shared}{h':Heap}(hex:X.ex=[])(I:Inv X aZ U H1 s1)
  (kp:∀b o,s1.heap.get? b=some o->b∉frs X.stack->(H1 b≠none\/∃o',X.s₀.heap.get? b=some o')->h'.get? b=some o)
  (sl:s1.heap.UpToSlots h'):Un X.fs [] X.H₀ H1 X.s₀.heap h'/\tZ X.prog X.w H1 h':=Wo hex I kp λb o _=>sl b o
theorem uh:Passes (xM P w) (j7 (xM P w) P w K mg aN N aR aQ f cd A aM s H E) E:=by
 intro aZ U H1 s1 e s' I h;obtain⟨ea,C,H',rfl,⟨os,bare,un,hok,Wq,B,t,fl,uM⟩,hE⟩:=h;have J:Inv (j7 (xM P w) P w K mg aN N aR aQ f cd A aM s H E) aZ U H' s':=I.call' os un hok bare (λb z=>absurd z (by simp));show wpAny _ _ (leaving _ (.ref ea)) _ _ s';refine Nj I.ok.frames rfl fl λh' x1 x2=>?_;have kp:∀b o,s'.heap.get? b=some o->b∉frs (j7 (xM P w) P w K mg aN N aR aQ f cd A aM s H E).stack->(H' b≠none\/∃o',s.heap.get? b=some o')->h'.get? b=some o:=λb o q hb hc=>x1.1 b o (uM b o q hb (by
  rcases hc with z|⟨o',z⟩
  ·exact .inl z
  ·exact .inr (I.base.there b o' z (by intro q;cases q))))
 obtain⟨un',hok'⟩:=HF rfl J kp x2;refine⟨ea,C,H',rfl,⟨J.os,J.bare,un',hok',Wq,B,t,x1,λb o q hb hc=>?_⟩,hE⟩;have Qp:b∉frs (j7 (xM P w) P w K mg aN N aR aQ f cd A aM s H E).stack:=λz=>by
  rcases aiB.mp (J.nR b z) with z1|z1
  ·rcases hc with z2|⟨o',z2⟩
   ·exact z2 (J.vH b z)
   ·have h1:=aiu z2
    have h2:=J.ok.above;rw[z1]at h1;exact absurd (aiw h1 h2) (aiI _)
  ·exact hb z1
 obtain⟨o2,q2⟩:∃o2,s'.heap.get? b=some o2:=by
  rcases hc with z|⟨o',z⟩
  ·cases hz:H' b with
   |none=>exact absurd hz z
   |some u=>exact(J.hok b u hz).there
  ·exact J.base.there b o' z (by intro q;cases q)
 have q3:=kp b o2 q2 Qp hc;rw[q]at q3;cases q3;refine uM b o q2 Qp ?_;rcases hc with z|⟨o',z⟩
 ·exact .inl z
 ·exact .inr (I.base.there b o' z (by intro q;cases q))
end
section
variable {P:Program}{w:World}{K:PySem.W.Frag}{mg:Str->Option Value}{aN:Heap}{N:List Str}{aR:Str}{aQ:Scope}{f:Addr}{cd:Value}{A:Around}{aM:List Env}{s:Shared}{H:Hp}{E:XK}
def acK (C:Addr)(E:XK)(t:TA):TS:=λ_ U H=>t U H λvs H1=>vs.length<=sizeLine/\∀ea,H1 ea=none->E (.ref C) (some ea) H1
theorem qd {x:Str}{C:Addr}{np iQ pos:Pos}{e₀:Expr}{rest:List Expr}{t:TA}{bm:List Value}{jZ B qQ:String}(O:OwnCls x C bm jZ mg aN)(FB:ExcBaseFacts B jZ qQ bm)
  (hg:Gl (j7 (xM P w) P w K mg aN N aR aQ f cd A aM s H E) x) (ha:PA (j7 (xM P w) P w K mg aN N aR aQ f cd A aM s H E) (e₀::rest) t) (hdb:(x==("__debug__":Str))=false:=by decide)
  (he:starEach (e₀::rest) (j7 (xM P w) P w K mg aN N aR aQ f cd A aM s H E).env=(false,eval e₀ (j7 (xM P w) P w K mg aN N aR aQ f cd A aM s H E).env)::starEach rest (j7 (xM P w) P w K mg aN N aR aQ f cd A aM s H E).env:=by rfl)
  (rW:(backTo iQ (starEach rest (j7 (xM P w) P w K mg aN N aR aQ f cd A aM s H E).env)).any (·.1)=false:=by rfl):
  PS (j7 (xM P w) P w K mg aN N aR aQ f cd A aM s H E) (.Raise (some (.Call (.Name x np) (e₀::rest) [] iQ)) none pos) (acK C E t):=by
 intro aZ s1 U H1 D I h;obtain⟨tl,Nn,nm,q,bs,hdct,sn,sub,ab,col,dd,k0,k1,k2,k3,k5,mN,hC,hN,hni,T⟩:=O.obj;refine wpAny_Raise_call_subT (C:=C) (nm:=nm) (q:=q) (N:=Nn) (bs:=bs) (bm:=tl) (hdct:=hdct) (sn:=sn) (sub:=sub) (ab:=ab) (col:=col) (dd:=dd) (k0:=k0) (k1:=k1) (k2:=k2) (k3:=k3) (k5:=k5)
  FB (mN:=mN) (T.hasType FB.hasBase) (I.ok.hd rfl) (by rw[he];show(false||(backTo iQ (starEach rest _)).any (·.1))=false;rw[rW];rfl) hni (qC I hg O.bound ⟨rfl,?_⟩ hdb)
 have hA:=ha iQ aZ s1 U H1 _ I h;rw[he]at hA ⊢;refine Calls.evalArgs_plain (eU hA λus s2 ⟨vs,H2,I2,r,hl,hE⟩=>⟨rfl,by rw[<-r.length];exact hl,I2.bk _ _ hC,hN.keeps I2.bk,T.keeps I2.bk,λh' e hm=>?_⟩);show wpAny _ _ (leaving _ (.ref e)) _ _ _;have hin:∀env∈(j7 (xM P w) P w K mg aN N aR aQ f cd A aM s H E).stack,∀b,env.frame=some b->b∈frs (j7 (xM P w) P w K mg aN N aR aQ f cd A aM s H E).stack:=λenv he b hb=>List.mem_filterMap.mpr ⟨env,he,hb⟩;have Wq:H2 e=none:=by
  cases hz:H2 e with
  |none=>rfl
  |some u=>
   obtain⟨ob,q⟩:=(I2.hok e u hz).there;have:=hm.new;rw[q]at this;cases this
 refine HD (lX:=PySem.W.hideAll s2.heap (frs (j7 (xM P w) P w K mg aN N aR aQ f cd A aM s H E).stack)) (h:=s2.heap) I2.ok.frames rfl (λb o q=>PySem.W.of_hideAll _ q) (PySem.W.funFrames_hide I2.stack hin) hm λh'' t' x1 x4=>?_;have up:s2.heap.UpToSlots h'':=(Heap.UpToSlots.of_keeps hm.keeps).trans x4;have kp:∀b o,s2.heap.get? b=some o->b∉frs (j7 (xM P w) P w K mg aN N aR aQ f cd A aM s H E).stack->h''.get? b=some o:=λb o q hb=>x1.1 b o (ajW _ q hb);obtain⟨un',hok'⟩:=HF rfl I2 (λb o q hb _=>kp b o q hb) up;refine⟨e,C,H2,rfl,⟨I2.os,I2.bare,un',hok',Wq,_,t',x1,λb o q hb hc=>?_⟩,hE e Wq⟩;have Qp:b∉frs (j7 (xM P w) P w K mg aN N aR aQ f cd A aM s H E).stack:=λz=>by
  rcases aiB.mp (I2.nR b z) with z1|z1
  ·rcases hc with z2|⟨o',z2⟩
   ·exact z2 (I2.vH b z)
   ·have h1:=aiu z2
    have h2:=I2.ok.above;rw[z1]at h1;exact absurd (aiw h1 h2) (aiI _)
  ·exact hb z1
 obtain⟨o2,q2⟩:∃o2,s2.heap.get? b=some o2:=by
  rcases hc with z|⟨o',z⟩
  ·cases hz:H2 b with
   |none=>exact absurd hz z
   |some u=>exact(I2.hok b u hz).there
  ·exact I2.base.there b o' z (by intro q;cases q)
 have q3:=kp b o2 q2 Qp;rw[q]at q3;cases q3;exact ajW _ q2 Qp
theorem eV.okX {x:Str}{st:Stmt}{fd:FuncData}{ps:List Str}{k:Nat}{sp:Sp}(F:eV K x aR st f fd)(S:bG N ps (bA st))
  (hbody:∀(cX:Value) (A:Around) (aM:List Env) (s:Shared) (H:Hp) (vs:List V) (Q:VK) (E:XK),jL k (A.deeper (envOfC aR (bA st) s.heap.objs.size f cX))->sp vs H Q E->
   ∃t,yL (j7 (xM P w) P w K mg aN N aR (bA st) f cX A aM s H E) (gZ st) t/\t (Ends.of Q) (start N vs) H) (len:∀vs H Q E,sp vs H Q E->vs.length=ps.length:=by rintro _ _ _ _ ⟨⟩;subst_vars;rfl):cj P w K mg aN (xM P w) (k+1) f fd ps sp:=by
 obtain⟨oc,od,kV,vK,pm,an,cX,ct,osl,rfl,lk,Du⟩:=F.ex;exact abA lk Du S len λA aM s H vs Q E hr hsp=>hbody cX A aM s H vs Q E hr hsp
end
end L2
namespace PySem
theorem sZ {M:Model}{A:Around}{E:Value->Shared->Prop}{nm q nm' q':Str}{C N D N':Addr}{bs bm bs' bm':List Value}{hdct Qq:Bool}{sn sn':List Str}{sub sub':List Value}{ab Zq:Bool}{col col':Option Bool}{dd dd':Option Addr}{k0 k1 k2 k3 k5 j0 j1 j2 j3 j5:Option Value}{jZ HJ:String}
  {h:Heap} {g:Array GenState} {d:Drawn} {t:Nat} {os:OsState} {e:Addr} {oe:Obj} {Q:Bool->Shared->Prop}
  (hC:h.get? C=some (excClassObj nm q C N bs bm hdct sn sub ab col dd k0 k1 k2 k3 k5 jZ)) (hD:h.get? D=some (excClassObj nm' q' D N' bs' bm' Qq sn' sub' Zq col' dd' j0 j1 j2 j3 j5 HJ)) (he:h.get? e=some oe) (hcls:oe.cls=.ref C) (nU:bm'.contains (.type "BaseException")=true) (hsub:(Value.ref C::bm).contains (.ref D)=true)
  (hq:Q true ⟨h,g,d,t,os⟩):wpAny M A (excMatches (.ref e) (.ref D)) Q E ⟨h,g,d,t,os⟩:=by
 have hcB:(Value.ref D::bm').contains (.type "BaseException")=true:=by rw[List.contains_cons,nU,Bool.or_true]
 have f:=tc_notTuple;unfold excMatches
 repeat (first|(with_reducible refine wpAny_loadPart_at he ?_;rw[hcls])|with_reducible refine wpAny_loadPart_at hD ?_|(with_reducible refine wpAny_isSubtype_exc hD ?_;rw[hcB])|(with_reducible refine wpAny_isSubtype_exc hC ?_;rw[hsub])|wp_step)
 exact hq
end PySem
namespace L2
open PySem PySem.Spec PyProof.Rows
def yR (X:Cx)(aZ:List (Addr×Obj))(xe:Value->Shared->Prop):Cx:={X with pn:=X.pn++aZ,xe:=xe}
section
variable {X:Cx}{aZ p2:List (Addr×Obj)}{U:St}{H:Hp}{s:Shared}{xe:Value->Shared->Prop}
theorem Wr (ok:X.Ok):(yR X aZ xe).Ok:=⟨ok.mod,ok.kind,ok.glob,ok.blt,ok.above,ok.inj,ok.has,ok.cab,ok.hd,ok.frames,ok.stk,ok.exf,ok.bs,ok.Rv,ok.Dw,ok.GQ,ok.su,ok.UG⟩
theorem Ws (ok:(yR X aZ xe).Ok):X.Ok:=⟨ok.mod,ok.kind,ok.glob,ok.blt,ok.above,ok.inj,ok.has,ok.cab,ok.hd,ok.frames,ok.stk,ok.exf,ok.bs,ok.Rv,ok.Dw,ok.GQ,ok.su,ok.UG⟩
theorem Inv.aeY (I:Inv X aZ U H s):Inv (yR X aZ xe) [] U H s :=
 ⟨Wr I.ok,I.os,I.bare,I.base,I.loc,I.cell,I.free,I.kh,λp hp=>I.pin p (by
  have:p∈(X.pn++aZ)++[]:=hp
  rwa [ai2]at this),I.hok,I.len⟩
theorem Inv.Fv (I:Inv (yR X aZ xe) p2 U H s):Inv X aZ U H s :=
 ⟨Ws I.ok,I.os,I.bare,I.base,I.loc,I.cell,I.free,I.kh,λp hp=>I.pin p (aiY _ hp),I.hok,I.len⟩
theorem Inv.stays {h':Heap}(hex:X.ex=[])(I:Inv X aZ U H s)
  (kp:∀b o,s.heap.get? b=some o->b∉frs X.stack->(H b≠none\/(∃o',X.s₀.heap.get? b=some o')\/b∈(X.pn++aZ).map (·.1))->h'.get? b=some o) (sl:s.heap.UpToSlots h'):Inv X aZ U H {s with heap:=h'}:=by
 obtain⟨un,hok⟩:=HF hex I (λb o q hb hc=>kp b o q hb (hc.elim .inl λz=>.inr (.inl z))) sl;obtain⟨m,hn,hl⟩:=I.loc;have cel:∀{c v},s.heap.IsCell c v->h'.IsCell c v:=λ{c v} ⟨o,q,hd⟩=>by
  obtain⟨sl',q'⟩:=sl c o q (λvs z=>by rw[hd]at z;cases z);exact⟨_,q',hd⟩
 have un2:Un X.fs X.ex X.H₀ H X.s₀.heap h':=by rw[hex];exact un
 refine⟨I.ok,I.os,I.bare,un2,⟨m,sl.ns hn,λi x v q1 q2 q3=>?_⟩,λx c q=>?_,I.free,I.kh,λp hp=>?_,hok,I.len⟩
 ·obtain⟨u,r,l⟩:=hl i x v q1 q2 q3
  refine⟨u,r,?_⟩;rcases l with l|⟨l1,c,l2,l3⟩
  ·exact .inl l
  ·exact .inr ⟨l1,c,l2,cel l3⟩
 ·obtain⟨v,q'⟩:=I.cell x c q
  exact⟨v,cel q'⟩
 ·obtain⟨p1,p2,p3,p4,p5⟩:=I.pin p hp
  refine⟨kp _ _ p1 (λz=>?_) (.inr (.inr (ajw hp))),p2,p3,p4,p5⟩;rcases aiB.mp (I.nR _ z) with z1|z1
  ·exact p3 z1
  ·exact p4 z1
end
def XT (X:Cx)(aZ:List (Addr×Obj))(EX:St->XK):Value->Shared->Prop:=λe s'=>∃ea C U H',e=.ref ea/\Inv X aZ U H' s'/\H' ea=none/\
 (∃(B:Heap) (t:Addr),Heap.jF B X.stack ea (.ref C) (.ref t) s'.heap/\(∀p∈X.pn++aZ,p.1≠ea)/\∀b o,s'.heap.get? b=some o->b∉frs X.stack->(H' b≠none\/(∃o',X.s₀.heap.get? b=some o')\/b∈(X.pn++aZ).map (·.1))->B.get? b=some o)/\EX U (.ref C) (some ea) H'
def acL (sp:Sp)(EX:St->XK)(t:TA):TE:=λU H Q=>t U H λvs H1=>sp vs H1 Q (EX U)
theorem Wt {X:Cx}{Bv:List (Addr×Obj)}{EX:St->XK}{k:Nat}{x:Str}{ps:List Str}{sp:Sp}{p pos:Pos}{e:Expr}{es:List Expr}{t:TA}{f:Addr}{fd:FuncData}(hex:X.ex=[])(F:cj X.prog X.w X.K X.mg X.base (xM X.prog X.w) k f fd ps sp)(hb:Binds X.K fd ps [])(hk:PySem.W.keepIn X.K (.ref f)=true)(hm:X.mg x=some (.ref f))(hr:jL k X.A)(hg:Gl X x)
  (ha:PA (yR X Bv (XT X Bv EX)) (e::es) t) (hdb:(x==("__debug__":Str))=false:=by decide) (he:starEach (e::es) X.env=(false,eval e X.env)::starEach es X.env:=by rfl) (rW:(backTo pos (starEach es X.env)).any (·.1)=false:=by rfl):
  PE (yR X Bv (XT X Bv EX)) (.Call (.Name x p) (e::es) [] pos) (acL sp EX t):=by
 intro aZ s U H Q I h;refine wpAny_Call_Name_kw (qC I hg hm ?_ hdb);refine ajj (h₀:=X.base) I.ok.mod.Vc hk (eU (ha pos aZ s U H _ I h) λus s1 ⟨vs,H1,I1,r,q⟩=>⟨I1.wR,?_⟩) he rW;have hl':us.length=ps.length:=by rw[<-r.length];exact F.len _ _ _ _ q
 have bt:BindsTo s1 fd ⟨us,[]⟩ (ps.zip us):=by
  have:=hb s1 us I1.wR (by rw[ai2];exact hl');rw[ai2]at this;exact this
 refine wpAny_call (codeAny_mono (F.run X.A X.stack s1 H1 ⟨us,[]⟩ us vs Q (EX U) hr I1.env0 bt r q) λr' s' hq=>?_);cases r' with
 |error e=>
  obtain⟨ea,C,H',rfl,⟨os,bare,un,hok,Wq,B,tt,fl,uM⟩,hE⟩:=hq;have J0:Inv (yR X Bv (XT X Bv EX)) aZ U H' s':=I1.call' os un hok bare (λb z=>absurd z (by simp));have J:=J0.Fv;have I1':=I1.Fv;have nfr:∀{b},b∈(X.pn++Bv).map (·.1)->b∉frs X.stack:=λ{b} hb z=>by
   obtain⟨p,hp,rfl⟩:=List.mem_map.mp hb;obtain⟨p1,p2,p3,p4,p5⟩:=I1'.pin p hp;rcases aiB.mp (I1'.nR _ z) with z1|z1
   ·exact p3 z1
   ·exact p4 z1
  refine⟨ea,C,U,H',rfl,J,Wq,⟨B,tt,fl,λp hp z=>?_,λb o q hb hc=>uM b o q hb ?_⟩,hE⟩
  ·obtain⟨p1,_⟩:=I1'.pin p hp
   have j1:=(J.pin p hp).1;have:=uM p.1 p.2 j1 (nfr (ajw hp)) (.inr ⟨_,p1⟩);rw[z,fl.2.1]at this;cases this
  ·rcases hc with z|⟨o',z⟩|z
   ·exact .inl z
   ·exact .inr (I1'.base.there b o' z (by rw[hex];simp))
   ·obtain⟨p,hp,rfl⟩:=List.mem_map.mp z
    exact .inr ⟨_,(I1'.pin p hp).1⟩
 |ok fl=>
  cases fl with
  |ret u=>exact I1.after hq
  |next=>exact False.elim hq
  |brk=>exact False.elim hq
  |cont=>exact False.elim hq
def vW (X:Cx)(ea:Addr)(aZ:List (Addr×Obj)):Cx:={X with A:=X.A.mark (some (.ref ea)),calm:=false,pn:=X.pn++aZ,xe:=λ_ _=>False}
section
variable {X:Cx}{aZ p2:List (Addr×Obj)}{U:St}{H:Hp}{s:Shared}{ea:Addr}
theorem Inv.Qs (I:Inv X aZ U H s):Inv (vW X ea aZ) [] U H s :=
 ⟨⟨I.ok.mod,I.ok.kind,I.ok.glob,I.ok.blt,I.ok.above,I.ok.inj,I.ok.has,I.ok.cab,(λz=>by cases z),I.ok.frames,I.ok.stk,I.ok.exf,I.ok.bs,I.ok.Rv,I.ok.Dw,I.ok.GQ,I.ok.su,I.ok.UG⟩,
  I.os,I.bare,I.base,I.loc,I.cell,I.free,I.kh,λp hp=>I.pin p (by
  have:p∈(X.pn++aZ)++[]:=hp
  rwa [ai2]at this),I.hok,I.len⟩
theorem Inv.zR (hd:X.calm=true->X.A.handled=none)(I:Inv (vW X ea aZ) p2 U H s):Inv X aZ U H s :=
 ⟨⟨I.ok.mod,I.ok.kind,I.ok.glob,I.ok.blt,I.ok.above,I.ok.inj,I.ok.has,I.ok.cab,hd,I.ok.frames,I.ok.stk,I.ok.exf,I.ok.bs,I.ok.Rv,I.ok.Dw,I.ok.GQ,I.ok.su,I.ok.UG⟩,
  I.os,I.bare,I.base,I.loc,I.cell,I.free,I.kh,λp hp=>I.pin p (aiY _ hp),I.hok,I.len⟩
theorem Inv.Z8 {o:Obj}(I:Inv X aZ U H s)(e:s.heap.get? ea=some o)(n:H ea=none)(nl:ea≠X.env.locals)(nf:ea∉X.fs)(nc:∀v,o.data≠.cell v):Inv X (aZ++[(ea,o)]) U H s :=
 ⟨I.ok,I.os,I.bare,I.base,I.loc,I.cell,I.free,I.kh,λp hp=>by
  rw[<-aiD]at hp;rcases List.mem_append.mp hp with hp|hp
  ·exact I.pin p hp
  ·rw[List.mem_singleton]at hp
   subst hp;exact⟨e,n,nl,nf,nc⟩,I.hok,I.len⟩
theorem uo {M:Model}{A:Around}{E:Value->Shared->Prop}{i:Nat}{n:Str}{pos:Pos}{Q:Unit->Shared->Prop}(I:Inv X aZ U H s)(hN:X.N.Nodup)(hi:X.N[i]?=some n)(hn:X.env.scope.names.lookup n=some .local)
  (h:∀s',Inv X aZ (U.set i none) H s'->Q () s'):wpAny M A (do bindName X.env n .none;unbindBehindTheSuite X.env n pos) Q E s:=by
 obtain⟨m,hns,hl⟩:=I.loc;refine wpAny_nameGoes_keeps (m:=m) hn hns (by rw[I.ok.kind];rfl) λh' v hns' hsb=>h _ ?_;have same:∀{b},b≠X.env.locals->h'.get? b=s.heap.get? b:=λnb=>hsb.2 _ nb;have old:∀{b o},X.s₀.heap.get? b=some o->b≠X.env.locals:=λ{b o} e z=>by
  have h1:=aiu e;have h2:=I.ok.above;rw[z]at h1;exact absurd (aiw h1 h2) (aiI _)
 have cel:∀{c u},c≠X.env.locals->s.heap.IsCell c u->h'.IsCell c u:=λnc ⟨o,q,hd⟩=>⟨o,(same nc).trans q,hd⟩;refine⟨I.ok,I.os,I.bare,⟨λb o e n' hb hx=>(same (old e)).trans (I.base.keep b o e n' hb hx),λb o e n' hb hx=>?_,I.base.free,λb o e hx=>?_,I.base.tups,I.base.wW,I.base.zj⟩,⟨_,hns',λj y u e1 e2 e3=>?_⟩,λx c q=>?_,I.free,I.kh,λp hp=>?_,I.hok.abJ λb u nb q=>?_,by rw[ajS];exact I.len⟩
 ·obtain⟨sl,q⟩:=I.base.slot b o e n' hb hx
  exact⟨sl,(same (old e)).trans q⟩
 ·obtain⟨o',q⟩:=I.base.there b o e hx
  exact⟨o',(same (old e)).trans q⟩
 ·have hji:j≠i:=λz=>by
   rw[z,List.getElem?_set]at e2;simp only[if_true]at e2;split at e2<;>cases e2
  rw[ajO (Ne.symm hji)]at e2;have hyn:y≠n:=λz=>by
   rw[z]at e1;obtain⟨l1,q1⟩:=List.getElem?_eq_some_iff.mp e1;obtain⟨l2,q2⟩:=List.getElem?_eq_some_iff.mp hi;rcases Nat.lt_or_gt_of_ne hji with lt|lt
   ·exact List.pairwise_iff_getElem.mp hN _ _ l1 l2 lt (q1.trans q2.symm)
   ·exact List.pairwise_iff_getElem.mp hN _ _ l2 l1 lt (q2.trans q1.symm)
  obtain⟨w',r,l⟩:=hl j y u e1 e2 e3;refine⟨w',r,?_⟩;rcases l with ⟨l1,l2⟩|⟨l1,c,l2,l3⟩
  ·exact .inl ⟨l1,by show(if y=n then v else m y)=some w';rw[if_neg hyn];exact l2⟩
  ·exact .inr ⟨l1,c,l2,cel (I.Zy y c l2) l3⟩
 ·obtain⟨v',q'⟩:=I.cell x c q
  exact⟨v',cel (I.Zy x c q) q'⟩
 ·obtain⟨p1,p2',p3,p4,p5⟩:=I.pin p hp
  exact⟨(same p3).trans p1,p2',p3,p4,p5⟩
 ·exact(same (λz=>nb (by rw[z];exact I.free))).trans q
end
def HN (h:Heap)(C D:Addr):Prop:=∃(nm q nm' q':Str) (N N':Addr) (bs bm bs' bm':List Value) (hdct Qq:Bool) (sn sn':List Str) (sub sub':List Value) (ab Zq:Bool) (col col':Option Bool) (dd dd':Option Addr) (k0 k1 k2 k3 k5 j0 j1 j2 j3 j5:Option Value) (jZ HJ:String),
 h.get? C=some (excClassObj nm q C N bs bm hdct sn sub ab col dd k0 k1 k2 k3 k5 jZ)/\h.get? D=some (excClassObj nm' q' D N' bs' bm' Qq sn' sub' Zq col' dd' j0 j1 j2 j3 j5 HJ)/\bm'.contains (.type "BaseException")=true/\(Value.ref C::bm).contains (.ref D)=true
def uE (a:Addr)(o:Obj):HO:=.ext λh=>h.get? a=some o
section
variable {P:Program}{w:World}{H H':Hp}{h h':Heap}{a b c:Addr}{o:Obj}
theorem Z9 (e:h.get? a=some o):iM P w H h a (uE a o):=⟨e,⟨o,e⟩,λh1 h2 q k=>k o q⟩
theorem HS (ok:tZ P w H h)(q:H a=some (uE a o)):h.get? a=some o:=(ok a _ q).1
theorem tZ.obj (ok:tZ P w H h)(n:H c=none)(e:h.get? c=some o):tZ P w (upd H c (uE c o)) h:=λb u q=>by
 by_cases hb:b=c
 ·subst hb;rw[bf]at q;cases q;exact Z9 e
 ·rw[bI hb]at q
  exact(ok b u q).stay (λ_ _ _ e=>e) (λd r=>by rw[bI (cY r n)];exact r) λd xs r=>by rw[bI (cY r n)];exact r
end
open PySem PySem.Spec PyProof.Rows PySem.Builtin.Getset_descriptor
section
variable {K:PySem.W.Frag}{M:Model}{h:Heap}{x C:Addr}{name:Str}{ax gx:Value}
theorem HW {ob:Obj}(e:h.get? x=some ob)(c:ob.cls=.ref C):PySem.W.Looks M h (typeOf (.ref x)) (.ref C):=by
 rw[<-c];exact(PySem.W.Looks.ld e).andThen .now
theorem SX (X:K.In h)(h1:PySem.W.findIn K (.ref C) name=some (some ax))(h2:PySem.W.specialIn K ax "__get__"=some (some gx))(h3:PySem.W.takesIn K ax=some true):
  PySem.W.Looks M h (Builtin.ObjectAttr.find (.ref x) (.ref C) name) (.bind gx ax):=by
 have e1:=ajU (M:=M) X h1;have e2:PySem.W.Looks M h (Builtin.ObjectAttr.getOf (some ax)) (some gx):=PySem.W.looks_specialIn X h2;have e3:PySem.W.Looks M h (Builtin.ObjectAttr.dataDescriptor? (some ax) (some gx)) (some (gx,ax)):=(PySem.W.looks_takesIn X h3).andThen .now;exact e1.andThen (e2.andThen (e3.andThen (.tag .now)))
end
section
variable {prog:Program}{w:World}{A:Around}{E:Value->Shared->Prop}{s:Shared}{K:PySem.W.Frag}{x C:Addr}{ob:Obj}
theorem DK {R:Result->Shared->Prop}{tp:Value}(X:K.In s.heap)(e:s.heap.get? x=some ob)(c:ob.cls=.ref C)(hm:PySem.W.mroIn K C (.type "object")=some true)(q:R (.ok (.ret (.ref C))) s):
  codeAny (model prog w) A (.call (.builtin "getset_descriptor.__get__") ⟨[.builtin "object.__class__", .ref x,tp],[]⟩) R s:=by
 obtain⟨hp,gn,dr,tk,os⟩:=s;have y1:=HW (M:=model prog w) e c;have y2:=PySem.W.looks_mroIn (M:=model prog w) X hm;refine codeAny_call_builtin PySem.W.KF.slot_gs.plain PySem.W.KF.entry_gs ?_;refine PySem.W.KF.slot_gs.check _ _ _ _ _ _ _ _ PySem.W.KF.type_class (PySem.W.KF.args_gs _ _ _) ?_;unfold Builtin.«getset_descriptor.__get__»;unfold descrGet;rw[PySem.W.dga_obj];refine wpAny_bind (wpAny_pure ?_);unfold descrGetter descrCheckInstance;unfold descrNameAndClass isInstance;simp only[PySem.W.KF.owner_class]
 repeat lk
 refine⟨Code.quiet_builtin _ (by decide+kernel),?_⟩;refine codeAny_builtin PySem.W.KF.entry_class ?_;unfold Builtin.«object.__class__»;unfold shownTypeOf
 repeat lk
 exact q
theorem S5 {Q:Unit->Shared->Prop}{nameV:Value}(X:K.In s.heap)(e:s.heap.get? x=some ob)(c:ob.cls=.ref C)(gb:PySem.W.mroIn K C (.type "BaseException")=some true)(q:Q () s):
  wpAny (model prog w) A (checkBuiltinCall "BaseException.__getattribute__" ⟨[.ref x,nameV],[]⟩) Q E s:=by
 obtain⟨hp,gn,dr,tk,os⟩:=s;have y1:=HW (M:=model prog w) e c;have y2:=PySem.W.looks_mroIn (M:=model prog w) X gb;have k1:builtinKind "BaseException.__getattribute__"=some .slot:=by decide+kernel
 have k2:splitId "BaseException.__getattribute__"=some ("BaseException","__getattribute__"):=by decide+kernel
 have k3:=F.args_bexc_ga (.ref x) nameV;simp only[checkBuiltinCall,k1,k2];unfold isInstance;refine wpAny_bind (wpAny_bind (y1.at (y2.at ?_)));rw[if_neg (by decide)];cases hz:Manifest.signature? "BaseException.__getattribute__" with
 |none=>exact wpAny_pure q
 |some sig=>
  simp only[argsOk,hz]at k3;have k4:Bind.checkArgs "BaseException.__getattribute__" sig ⟨[.ref x,nameV],[]⟩=pure ():=k3;show wpAny _ _ (Bind.checkArgs "BaseException.__getattribute__" sig ⟨[.ref x,nameV],[]⟩) _ _ _;rw[k4];exact wpAny_pure q
variable (g0:PySem.W.findIn K (.ref C) "__getattribute__"=some (some (.builtin "BaseException.__getattribute__")))(g1:PySem.W.findIn K (.ref C) "__getattr__"=some none)(gb:PySem.W.mroIn K C (.type "BaseException")=some true)
 (g2:PySem.W.findIn K (.ref C) "__class__"=some (some (.builtin "object.__class__"))) (g3:PySem.W.specialIn K (.builtin "object.__class__") "__get__"=some (some (.builtin "getset_descriptor.__get__")))
 (g4:PySem.W.takesIn K (.builtin "object.__class__")=some true) (g5:PySem.W.mroIn K C (.type "object")=some true)
include g0 g1 gb g2 g3 g4 g5
theorem S6 {Q:Option Value->Shared->Prop}(X:K.In s.heap)(e:s.heap.get? x=some ob)(c:ob.cls=.ref C)(q:Q (some (.ref C)) {s with toks:=s.toks+1}):wpAny (model prog w) A (getAttr? (.ref x) "__class__") Q E s:=by
 obtain⟨hp,gn,dr,tk,os⟩:=s;have y1:=HW (M:=model prog w) e c;have y2:=ajU (M:=model prog w) X g0;have y3:=ajU (M:=model prog w) X g1;have y4:=SX (M:=model prog w) (x:=x) X g2 g3 g4;unfold getAttr? getAttrBy?;unfold getAttrBy;refine wpAny_bind (wpAny_mkText ?_);refine wpAny_bind (wpAny_attempt (wpAny_holding ?_));refine wpAny_bind (y1.at ?_);refine wpAny_bind (y2.at ?_);show wpAny _ _ (getAttrByItsOwn _ _ _ _ _ _) _ _ _;unfold getAttrByItsOwn;refine wpAny_bind ((show PySem.W.Looks (model prog w) hp (hookBefore (.ref C)) none from y3).at ?_);refine wpAny_bind (wpAny_attempt (wpAny_holding ?_));show wpAny _ _ (boundAndCalled _ _ _) _ _ _;unfold boundAndCalled;rw[F.excAttr_ValueError.ga.bind];refine wpAny_bind (wpAny_pure (wpAny_call (codeAny_call_builtin F.excAttr_ValueError.ga.plain F.entry_bexc_ga (S5 X e c gb ?_))));unfold Builtin.«object.__getattribute__»;refine wpAny_bind (wpAny_pure (wpAny_bind (wpAny_pure (wpAny_bind (y1.at (wpAny_bind (y4.at ?_)))))));show wpAny _ _ (holding [_] (call _ [_,_,_])>>=ret) _ _ _;refine wpAny_bind (wpAny_holding (wpAny_call (DK X e c g5 ?_)));refine wpAny_pure ?_;exact PySem.W.handed_on rfl (wpAny_pure q)
end
structure u6 (K:PySem.W.Frag)(C:Addr):Prop where
 g0:PySem.W.findIn K (.ref C) "__getattribute__"=some (some (.builtin "BaseException.__getattribute__"))
 g1:PySem.W.findIn K (.ref C) "__getattr__"=some none
 gb:PySem.W.mroIn K C (.type "BaseException")=some true
 g2:PySem.W.findIn K (.ref C) "__class__"=some (some (.builtin "object.__class__"))
 g3:PySem.W.specialIn K (.builtin "object.__class__") "__get__"=some (some (.builtin "getset_descriptor.__get__"))
 g4:PySem.W.takesIn K (.builtin "object.__class__")=some true
 g5:PySem.W.mroIn K C (.type "object")=some true
 lk:∃c0 d0 cd sl,K.lookup C=some ⟨c0,d0, .cls cd,sl⟩
theorem Bw {K:PySem.W.Frag}{x C:Addr}(S:u6 K C):PySem.W.KitX K (.ref x) (.ref C) (λh=>∃ob,h.get? x=some ob/\ob.cls=.ref C) where
 ty:=λ_ _ _ ⟨ob,e,c⟩=>HW e c
 it:=λM h X _=>by
  obtain⟨c0,d0,cd,sl,q⟩:=S.lk;intro A' Q' E' s' k z;unfold isType;unfold loadHead;exact wpAny_bind (wpAny_loadPart (k _ _ (X _ _ q)) (wpAny_pure z))
 ne:=λh tp dd aU n sl X e=>by
  obtain⟨c0,d0,cd,sl',q⟩:=S.lk;cases hz:(Value.ref C==Value.ref tp) with
  |false=>rfl
  |true=>
   have z:C=tp:=by simpa using hz
   have e2:=X _ _ q;rw[z,e]at e2;cases e2
 ca:=λ{prog w A E Q s} X ⟨ob,e,c⟩ k=>S6 S.g0 S.g1 S.gb S.g2 S.g3 S.g4 S.g5 X e c k
section
variable {X:Cx}
theorem S7:jJ X (.builtin "isinstance") (λxs H Q=>∃ea ob C D b,xs=[.ref ea, .ref D]/\H ea=some (uE ea ob)/\ob.cls=.ref C/\u6 X.K C/\PySem.W.kitOne X.K (.ref C) (.ref D)=some b/\Q (.bl b) H):=by
 intro aZ s U H xs us Q I r h;obtain⟨ea,ob,C,D,b,rfl,e,c,S,k,q⟩:=h;obtain⟨u,u',rfl,rx,ry⟩:=vals2 r;cases(show u=Value.ref ea from rx);cases(show u'=Value.ref D from ry);exact aiU (Bw S) I.wR ⟨ob,HS I.hok e,c⟩ k (λz=>nomatch z) λtk=>⟨.bl b,H,I.tok tk,rfl,q⟩
theorem S8:jJ X (.builtin "isinstance") (λxs H Q=>∃ea ob C T b,xs=[.ref ea, .ty T]/\H ea=some (uE ea ob)/\ob.cls=.ref C/\u6 X.K C/\PySem.W.kitOne X.K (.ref C) (.type T)=some b/\Q (.bl b) H):=by
 intro aZ s U H xs us Q I r h;obtain⟨ea,ob,C,T,b,rfl,e,c,S,k,q⟩:=h;obtain⟨u,u',rfl,rx,ry⟩:=vals2 r;cases(show u=Value.ref ea from rx);cases(show u'=Value.type T from ry);exact aiU (Bw S) I.wR ⟨ob,HS I.hok e,c⟩ k (λz=>nomatch z) λtk=>⟨.bl b,H,I.tok tk,rfl,q⟩
theorem Fx:∀{ds:List Addr} {us:List Value},Vals (ds.map V.ref) us->us=ds.map Value.ref
 |[],us,r=>by cases r;rfl
 |d::ds,us,r=>by
  cases r with
  |cons a b=>rw[aiR,<-Fx b];cases(show _=Value.ref d from a);rfl
theorem FJ:jJ X (.builtin "isinstance") (λxs H Q=>∃(ea:Addr) (ob:Obj) (C tp:Addr) (ds:List Addr) (b:Bool),xs=[.ref ea, .ref tp]/\H ea=some (uE ea ob)/\ob.cls=.ref C/\u6 X.K C/\H tp=some (.tup (ds.map V.ref))/\PySem.W.kitAny X.K (.ref C) (ds.map Value.ref)=some b/\Q (.bl b) H):=by
 intro aZ s U H xs us Q I r h;obtain⟨ea,ob,C,tp,ds,b,rfl,e,c,S,et,k,q⟩:=h;obtain⟨u,u',rfl,rx,ry⟩:=vals2 r;cases(show u=Value.ref ea from rx);cases(show u'=Value.ref tp from ry);obtain⟨_,aU,rv,o,ho,hc,n,hd⟩:=(show iM X.prog X.w H s.heap tp (.tup (ds.map V.ref)) from I.hok tp _ et);have ei:=Fx rv;subst ei;obtain⟨oc,od,dt,sl⟩:=o;have hc':oc=.type "tuple":=hc;have hd':dt=.seq (ds.map Value.ref).toArray n:=hd;subst hc' hd';exact PySem.W.kia_tup (Bw S) I.wR ⟨ob,HS I.hok e,c⟩ ho k (λz=>nomatch z) λtk=>⟨.bl b,H,I.tok tk,rfl,q⟩
end
def HT (X:Cx)(aZ:List (Addr×Obj))(EX:St->XK):Value->Shared->Prop:=λe s2=>∃(ea C:Addr) (U:St) (H':Hp) (s1:Shared) (B:Heap) (t:Addr) (h4:Heap),e=.ref ea/\s2={s1 with heap:=h4}/\Inv X aZ U H' s1/\H' ea=none/\
 Heap.Kl B (X.env::X.outer) ea (.ref C) (.ref t) X.env.locals h4/\s1.heap.UpToSlots h4/\(∀p∈X.pn++aZ,p.1≠ea)/\
 (∀b o,s1.heap.get? b=some o->b∉frs X.stack->(H' b≠none\/(∃o',X.s₀.heap.get? b=some o')\/b∈(X.pn++aZ).map (·.1))->B.get? b=some o)/\EX U (.ref C) (some ea) H'
structure zT (X:Cx)(e:Expr)(t:TE):Prop where
 h:PE X e t
structure S9 (X:Cx)(es:List Expr)(t:TA):Prop where
 h:PA X es t
structure Tc (X:Cx)(st:Stmt)(t:TS):Prop where
 h:PS X st t
structure Te (X:Cx)(sts:List Stmt)(t:TS):Prop where
 h:yL X sts t
section
variable {X:Cx}
theorem Wu {es' es:List Expr}{x1}{p:Pos}{env:Env}:starEach (.Tuple es' x1 p::es) env=(false,eval (.Tuple es' x1 p) env)::starEach es env:=rfl
theorem Wv {a b:Expr}{o:Operator}{es:List Expr}{p:Pos}{env:Env}:starEach (.BinOp a o b p::es) env=(false,eval (.BinOp a o b p) env)::starEach es env:=rfl
theorem Ww {x:Str}{es:List Expr}{p:Pos}{env:Env}:starEach (.Name x p::es) env=(false,eval (.Name x p) env)::starEach es env:=rfl
theorem Wx {g:Expr}{es' es:List Expr}{ks:List Keyword}{p:Pos}{env:Env}:starEach (.Call g es' ks p::es) env=(false,eval (.Call g es' ks p) env)::starEach es env:=rfl
theorem Wy {a b:Expr}{es:List Expr}{p:Pos}{env:Env}:starEach (.Subscript a b p::es) env=(false,eval (.Subscript a b p) env)::starEach es env:=rfl
theorem Km {es:List Expr}{x1}{p:Pos}{t:TA}(h:S9 X es t):zT X (.Tuple es x1 p) (aeJ t):=⟨cO h.h⟩
theorem abL {es:List Expr}{p:Pos}{t:TA}(h:S9 X es t):zT X (.List es p) (Vw t):=⟨dj h.h⟩
theorem Bx:S9 X [] kI:=⟨aX⟩
theorem x_t {es' es:List Expr}{x1}{p:Pos}{te:TE}{t:TA}(ha:zT X (.Tuple es' x1 p) te)(hr:S9 X es t):S9 X (.Tuple es' x1 p::es) (cV te t):=⟨aW ha.h hr.h Wu⟩
theorem x_b {a b:Expr}{o:Operator}{es:List Expr}{p:Pos}{te:TE}{t:TA}(ha:zT X (.BinOp a o b p) te)(hr:S9 X es t):S9 X (.BinOp a o b p::es) (cV te t):=⟨aW ha.h hr.h Wv⟩
theorem x_n {x:Str}{es:List Expr}{p:Pos}{te:TE}{t:TA}(ha:zT X (.Name x p) te)(hr:S9 X es t):S9 X (.Name x p::es) (cV te t):=⟨aW ha.h hr.h Ww⟩
theorem x_c {g:Expr}{es' es:List Expr}{ks:List Keyword}{p:Pos}{te:TE}{t:TA}(ha:zT X (.Call g es' ks p) te)(hr:S9 X es t):S9 X (.Call g es' ks p::es) (cV te t):=⟨aW ha.h hr.h Wx⟩
theorem x_s {a b:Expr}{es:List Expr}{p:Pos}{te:TE}{t:TA}(ha:zT X (.Subscript a b p) te)(hr:S9 X es t):S9 X (.Subscript a b p::es) (cV te t):=⟨aW ha.h hr.h Wy⟩
theorem Nm (i:Nat){x:Str}{pos:Pos}(hN:X.N[i]?=some x:=by rfl)(hv:Pu X.env.scope x:=by first|exact Or.inl rfl|exact Or.inr (Or.inl rfl)|exact Or.inr (Or.inr rfl))(hd:(x==("__debug__":Str))=false:=by decide)
  (Du:(x==("__classdict__":Str))=false:=by decide):zT X (.Name x pos) (jE i):=⟨pv i hN hv hd Du⟩
theorem aeZ {i:Nat}{x:Str}{e:Expr}{te:TE}{uR pos:Pos}(hN:X.N.Nodup)(hi:X.N[i]?=some x)(hx:Loc X.env.scope x)(he:zT X e te)(hs:swapsWith e (some (.Name x uR)) pos.line X.env=pure false:=by rfl)
  (hf:X.fn x=true\/X.env.scope.names.lookup x=some .local:=by first|exact .inl rfl|exact .inr rfl|assumption):Tc X (.Assign [.Name x uR] e pos) (JG te (oW i)):=⟨cZ hN hi hx he.h hs hf⟩
theorem Ko {e:Expr}{te:TE}{pos:Pos}(he:zT X e te):Tc X (.Return (some e) pos) (Mh te):=⟨bD he.h⟩
theorem acM {st:Stmt}{rest:List Stmt}{t u:TS}(h1:Tc X st t)(h2:Te X rest u):Te X (st::rest) (JD t u):=⟨bx h1.h h2.h⟩
theorem Qt {st:Stmt}{t:TS}(h1:Tc X st t):Te X [st] t:=⟨bh h1.h⟩
theorem BJ {b:Stmt}{t t':TS}(h:Tc X b t)(k:∀D U H,t' D U H->t D U H):Tc X b t':=⟨λaZ s U H D I q=>h.h aZ s U H D I (k D U H q)⟩
end
section
variable {κ:Type}[DecidableEq κ]
def ae0 (m7:List (κ×V))(k:κ):Option V:=(m7.find? λkv=>decide (kv.1=k)).map (·.2)
def putK (m7:List (κ×V))(k:κ)(v:V):List (κ×V) :=
 if(m7.any λkv=>decide (kv.1=k))=true then m7.map (λkv=>if kv.1=k then(kv.1,v) else kv) else m7++[(k,v)]
end
section
variable {P:Program}{w:World}{H:Hp}{h:Heap}{a:Addr}
end
def af7 (H:Hp)(a:Addr)(y:V)(r:Option V):Prop :=
 (∃m7 k,Rd H a (.dK m7)/\y=kV k/\r=ae0 m7 k)\/∃m7 k b,Rd H a (.dT m7)/\y=.ref b/\H b=some (.tup (k.map kV))/\r=ae0 m7 k
def af8 (H:Hp)(a:Addr)(y v:V)(H':Hp):Prop :=
 (∃m7 k,H a=some (.dK m7)/\y=kV k/\m7.length<sizeLine/\H'=upd H a (.dK (putK m7 k v)))\/
 ∃m7 k b,H a=some (.dT m7)/\y=.ref b/\H b=some (.tup (k.map kV))/\m7.length<sizeLine/\H'=upd H a (.dT (putK m7 k v))
section
variable {X:Cx}{aZ:List (Addr×Obj)}{U:St}{H:Hp}{s:Shared}{a:Addr}{y v:V}{u r:Value}{o:Option V}{A:Around}{E:Value->Shared->Prop}
end
section
variable {X:Cx}{aZ:List (Addr×Obj)}{U:St}{H:Hp}{s:Shared}{a:Addr}{m7:List (Key×V)}{k:Key}{u:Value}{A:Around}{E:Value->Shared->Prop}
end
inductive acN (Q:VK)(x:V)(y:V)(H2:Hp):Prop where
 |mk (a) (v):(x=.ref a)->(af7 H2 a y (some v))->(Q v H2)->acN Q x y H2
inductive acO (D:Ends)(U:St)(v:V)(x:V)(y:V)(H3:Hp):Prop where
 |mk (a) (H4):(x=.ref a)->(af8 H3 a y v H4)->(D.nx U H4)->acO D U v x y H3
section
variable {X:Cx}{o i e value:Expr}{pos uR tpos:Pos}{td ty tv:TE}
end
section
variable {X:Cx}{pos:Pos}
end
section
variable {X:Cx}{aZ:List (Addr×Obj)}{U:St}{H:Hp}{s:Shared}{a:Addr}{y d:V}{u r:Value}{o:Option V}{A:Around}{E:Value->Shared->Prop}
end
section
variable {X:Cx}{o e f:Expr}{pP iQ:Pos}{td ty tx:TE}
end
section
variable {X:Cx}{aZ:List (Addr×Obj)}{U:St}{H:Hp}{s:Shared}{a:Addr}{m7:List (Key×V)}{A:Around}{E:Value->Shared->Prop}
end
section
variable {X:Cx}{aZ:List (Addr×Obj)}{U:St}{H:Hp}{s:Shared}{a:Addr}{y:V}{u:Value}{A:Around}{E:Value->Shared->Prop}
end
section
variable {X:Cx}
end
section
variable {κ:Type}[DecidableEq κ]
end
section
variable {X:Cx}
theorem Nq {a b:Expr}{op:Operator}{pos:Pos}{ta tb:TE}{r:R2}(ho:m8 X (binaryOp op) r)(ha:zT X a ta)(hb:zT X b tb):zT X (.BinOp a op b pos) (vG r ta tb):=⟨bY ho ha.h hb.h⟩
theorem Tg {es:List Expr}{x:Str}{p p':Pos}{l}{env:Env}:swapsWith (.List es p) (some (.Name x p')) l env=pure false:=rfl
theorem ae1 {a b:Expr}{pos:Pos}{ta tb:TE}{r:R2}(hr:IxR X r)(ha:zT X a ta)(hb:zT X b tb)(hs:PN b):zT X (.Subscript a b pos) (vG r ta tb):=⟨bU hr ha.h hb.h hs⟩
end
section
variable {K:PySem.W.Frag}{i:Nat}{w z:Str}{t u e:TS}{D:Ends}{U:St}{H:Hp}{a:Addr}{xs:List V}
end
section
variable {X:Cx}
theorem ixT (K:PySem.W.Frag)(h:X.K=K:=by rfl):IxR X (uV K):=h ▸ cD
theorem Zr (K:PySem.W.Frag)(h:X.K=K:=by rfl):IxR X (VG K):=h ▸ fG
theorem Wz (K:PySem.W.Frag)(h:X.K=K:=by rfl):jJ X (.builtin "len") (gA K):=h ▸ bO
theorem piL (K:PySem.W.Frag){tg l:Expr}{tl:TE}(hl:PE X l tl)(h:X.K=K:=by rfl):PI X tg l (Vo K tl):=h ▸ GX hl
theorem piT (K:PySem.W.Frag){tg l:Expr}{tl:TE}(hl:PE X l tl)(h:X.K=K:=by rfl):PI X tg l (aex K tl):=h ▸ Af hl
theorem pgT (K:PySem.W.Frag){es:List Expr}{k:Nat}{t:Zj}{n:Nat}{pos:Pos}(hc:X.calm=true)(hq:PGs X es t)(hn:(assignEach es X.env).length=n:=by rfl)(Eo:(assignEach es X.env).findIdx? (·.1)=none:=by rfl)(h:X.K=K:=by rfl):PG X (.Tuple es k pos) (acj K n t):=h ▸ acn hc hq hn Eo
theorem ae2 (K:PySem.W.Frag)(h:X.K=K:=by rfl):jJ X (.type "tuple") (mQ K):=h ▸ cJ
theorem aac (K:PySem.W.Frag){o e:Expr}{es:List Expr}{pP iQ:Pos}{to:TE}{t:TA}(ho:PE X o to)(ha:PA X (e::es) t)(nU:attributeBase o "append" X.env (eval o X.env)=eval o X.env:=by rfl)
  (hfew:((backTo iQ (starEach (e::es) X.env)).all (λx=>!x.1)&&(backToKw iQ (keywordEach [] X.env)).all (λx=>x.1.isSome)&&decide ((e::es).length+([]:List Keyword).length+(if([]:List Keyword).isEmpty then 0 else 1)<30))=true:=by rfl)
  (hline:(pP.endLine==iQ.line)=true:=by rfl) (hs:starEach (e::es) X.env=(false,eval e X.env)::starEach es X.env:=by rfl) (hplain:(backTo iQ (starEach es X.env)).any (·.1)=false:=by rfl) (h:X.K=K:=by rfl):
  PE X (.Call (.Attribute o "append" pP) (e::es) [] iQ) (tBM K "list" P0 to t):=h ▸ jX aiA aiK aiL iW ho ha nU hfew hline hs hplain
theorem af9 (K:PySem.W.Frag){o:Expr}{pP iQ:Pos}{to:TE}(ho:PE X o to)(nU:attributeBase o "pop" X.env (eval o X.env)=eval o X.env:=by rfl)(hline:(pP.endLine==iQ.line)=true:=by rfl)(h:X.K=K:=by rfl):
  PE X (.Call (.Attribute o "pop" pP) [] [] iQ) (aeN K "list" aeR to):=h ▸ VL aiA ajJ ajK VR ho nU hline
theorem kO (i:Nat){x:Str}{e:Expr}{te:TE}{pos uR:Pos}(hN:X.N.Nodup)(he:PE X e te)(hi:X.N[i]?=some x:=by rfl)(hx:Loc X.env.scope x:=by exact Or.inl rfl)(hs:swapsWith e (some (.Name x uR)) pos.line X.env=pure false:=by rfl)(hf:X.fn x=true\/X.env.scope.names.lookup x=some .local:=by first|exact .inl rfl|exact .inr rfl):
  PS X (.Assign [.Name x uR] e pos) (JG te (oW i)):=cZ hN hi hx he hs hf
end
end L2
namespace Fw
open PySem PySem.Spec PyProof.Rows L2
abbrev xO:Stmt:=top 29
abbrev HX:Stmt:=top 32
def xP:Str:="0123456789"
def qe (z:Str):Bool:=eG z||(bJ z||(dN z||(iz z||decide (V.str z=.str "->"))))
def lO (z:Str):Str:=if z.cps.toList.head?=some 45 then jk z else z
def Qu (z:Str):Bool:=(decide (1<=(lO z).length)&&decide ((lO z).length<=30))&&(pB (lO z) xP&&(decide (V.str z=.str "0")|| !decide (V.str ⟨#[(lO z).cps.toList.getD 0 0]⟩=.str "0")))
inductive spS (g:Str->Bool)(vs:List V)(H:Hp)(Q:VK)(E_:XK):Prop where
 |mk (z:Str):vs=[.str z]->z.length<=100000->(∀H',Same H H'->Q (.bl (g z)) H')->spS g vs H Q E_
theorem Ti (z:Str):Txt.startswith z "-"=decide (z.cps.toList.head?=some 45):=by
 rw[show("-":Str)=⟨#[45]⟩ by decide+kernel];unfold Txt.startswith;obtain⟨a⟩:=z;obtain⟨l⟩:=a;cases l with
 |nil=>rfl
 |cons c r=>
  simp[Builtin.Str.subAt,Str.length,Nat.all];rw[ai1];simp
theorem Qv {X:Cx}{e:Expr}{t t':TE}(h:PE X e t)(q:∀U H Q,t' U H Q->t U H Q):PE X e t':=λaZ s U H Q I h'=>h aZ s U H Q I (q _ _ _ h')
section
variable {P:Program}{w:World}{K:PySem.W.Frag}{mg:Str->Option Value}{aN:Heap}{f:Addr}{fd:FuncData}
theorem Nr:bG ["thing"] ["thing"] (bA xO):=⟨rfl,rfl,rfl,by decide+kernel,rfl,by decide+kernel,by decide+kernel⟩
theorem Nt (F:eV K "is_word" "is_word" xO f fd)(har:∃t,mg "ARROW"=some (.str "->" t))(h1:Has P w K mg aN 2 "is_small" ["thing"] (spT (onStr eG)))(h2:Has P w K mg aN 2 "is_great" ["thing"] (spT (onStr bJ)))
  (h3:Has P w K mg aN 4 "is_path" ["thing"] (spT (onStr dN))) (h4:Has P w K mg aN 3 "is_variable" ["thing"] (spT (onStr iz))):cj P w K mg aN eY 5 f fd ["thing"] (spS qe):=by
 refine F.ok Nr (λcX A aM s H vs Q E hr h=>?_);obtain⟨z,rfl,hz,q⟩:=h;obtain⟨t1,ha⟩:=har;refine⟨_,bh (bD (rO (bB h1 hr (by decide) rfl (aW (pv 0) aX)) (rO (bB h2 hr (by decide) rfl (aW (pv 0) aX)) (rO (bB h3 hr (by decide) rfl (aW (pv 0) aX))
  (rO (bB h4 hr (by decide) rfl (aW (pv 0) aX)) (dG (dR cN (pv 0) (bZ (v:=.str "->") rfl ha ⟨_,rfl⟩) (bM _)))))))),?_⟩
 unfold qe at q;refine⟨_,rfl, .str z, .str z,rfl, .str z hz,λH1 e1=>⟨_,rfl,?_⟩⟩;show if eG z=true then _ else _
 cases c1:eG z with
 |true=>rw[c1]at q;exact dM (q H1 e1)
 |false=>
  rw[c1]at q;refine dW ⟨_,rfl, .str z, .str z,rfl, .str z hz,λH2 e2=>⟨_,rfl,?_⟩⟩;show if bJ z=true then _ else _
  cases c2:bJ z with
  |true=>rw[c2]at q;exact dM (q H2 (e1.trans e2))
  |false=>
   rw[c2]at q;refine dW ⟨_,rfl, .str z, .str z,rfl, .str z hz,λH3 e3=>⟨_,rfl,?_⟩⟩;show if dN z=true then _ else _
   cases c3:dN z with
   |true=>rw[c3]at q;exact dM (q H3 ((e1.trans e2).trans e3))
   |false=>
    rw[c3]at q;refine dW ⟨_,rfl, .str z, .str z,rfl, .str z hz,λH4 e4=>⟨_,rfl,?_⟩⟩;show if iz z=true then _ else _
    cases c4:iz z with
    |true=>rw[c4]at q;exact dM (q H4 (((e1.trans e2).trans e3).trans e4))
    |false=>
     rw[c4]at q;refine dW ⟨_,rfl,rfl,?_⟩;exact q H4 (((e1.trans e2).trans e3).trans e4)
theorem Kp:bG ["text","figures"] ["text"] (bA HX):=⟨rfl,rfl,rfl,by decide+kernel,rfl,by decide+kernel,by decide+kernel⟩
theorem WD (F:eV K "is_number_text" "is_number_text" HX f fd)(ml:mg "len"=none)(hfi:∃t,mg "FIGURES"=some (.str xP t))(hmo:∃t,mg "MOST_FIGURES"=some (.int 30 t))(h1:Has P w K mg aN 1 "all_of" ["text","signs"] vR):
  cj P w K mg aN eY 2 f fd ["text"] (spS Qu):=by
 refine F.ok Kp (λcX A aM s H vs Q E hr h=>?_);obtain⟨z,rfl,hz,q⟩:=h;obtain⟨t1,hf⟩:=hfi;obtain⟨t2,hm⟩:=hmo;have rl:=Bg z;have fl:(lO z).length<=100000:=by unfold lO;split<;>omega
 refine⟨_,bx (kO 1 Kp.nd (Qv (t':=λU H' Q'=>U=[some (.str z),none]/\Q' (.str (lO z)) H') (kE (cT (jX aiJ aj2 aj3 uL (pv 0) (aW bQ aX))) (cL MK (pv 0) (cR aY) dF) (pv 0)) ?w))
  (bx (cF (PW.pt (kj (dZ (sG mY mY aY (bH gW rfl ml PySem.boot_len (aW (pv 1) aX)) (bZ (v:=.int 30) rfl hm ⟨_,rfl⟩)))
   (jm (dZ (cT (bB h1 hr (by decide) rfl (aW (pv 1) (aW (bZ (v:=.str xP) rfl hf ⟨_,rfl⟩) aX)))))))) (bh (bD lG)) bK)
  (bh (bD (rO (dR cN (pv 0) bQ (bM _)) (dG (dR PJ (bU Al (pv 1) aY (λ_ _=>rfl)) bQ (bM _))))))),?_⟩
 case w=>
  rintro U H' Q' ⟨rfl,q'⟩;refine⟨_,rfl,rfl,z,"-",rfl,rfl,_,rfl,?_⟩;rw[Ti];unfold lO at q';refine ig (λc=>?_) (λc=>?_)
  ·have c':=of_decide_eq_true c
   rw[if_pos c']at q';have hl:1<=z.length:=by
    rw[<-bT];cases e:z.cps.toList with
    |nil=>rw[e]at c';cases c'
    |cons c r=>simp
   refine⟨_,rfl,1,rfl,z,rfl,small (by omega),?_⟩;rw[uY hl];exact q'
  ·rw[if_neg (of_decide_eq_false (Bool.eq_false_iff.mpr c))]at q'
   exact⟨_,rfl,q'⟩
 unfold Qu at q;refine⟨rfl,?_⟩;refine⟨_,rfl,lO z,rfl,small (by omega),1,(lO z).length,rfl,rfl,_,rfl,?_⟩;refine ig (λc=>?_) (λc=>?_)
 ·have c1:(1:Int)<=(lO z).length:=of_decide_eq_true c
  have c2:1<=(lO z).length:=by omega
  rw[decide_eq_true c2]at q;refine⟨_,_,rfl,rfl,_,rfl,?_⟩;refine ig (λd=>?_) (λd=>?_)
  ·have d1:¬((lO z).length:Int)<=30:=of_decide_eq_false (by simpa using d)
   rw[decide_eq_false (show ¬(lO z).length<=30 by omega)]at q;exact q H (Same.refl H)
  ·have d1:((lO z).length:Int)<=30:=of_decide_eq_true (by simpa using d)
   rw[decide_eq_true (show(lO z).length<=30 by omega)]at q;refine⟨_,rfl,lO z,xP,rfl,fl,λH1 e1=>?_⟩;refine⟨_,rfl,?_⟩;cases ha:pB (lO z) xP with
   |false=>rw[ha]at q;exact dM (q H1 e1)
   |true=>
    rw[ha]at q;refine dW ⟨_,rfl,rfl,_,rfl,?_⟩;cases hb:decide (V.str z=.str "0") with
    |true=>rw[hb]at q;exact dM (q H1 e1)
    |false=>
     rw[hb]at q;exact dW ⟨_,rfl,lO z,0,_,rfl,rfl,small (by omega),JZ c2,rfl,q H1 e1⟩
 ·have c1:¬(1:Int)<=(lO z).length:=of_decide_eq_false (Bool.eq_false_iff.mpr c)
  rw[decide_eq_false (show ¬1<=(lO z).length by omega)]at q;exact⟨_,rfl,dM (q H (Same.refl H))⟩
end
end Fw
namespace L2
open PySem PySem.Spec PyProof.Rows
theorem xQ {M:Model}{Γ:PySem.Ctx}{p:Pos}{t:Sem Fin}{fs:List Frame}{s s':Shared}{e:End}(h:Runs M Γ p t fs s e s'):s.toks<=s'.toks:=by
 induction h<;>first
  |exact aio _
  |assumption
  |exact Nat.le_of_succ_le (by assumption)
  |(simp only[Shared.setGen]at*;omega)
  |omega
theorem Nu {M:Model}{Γ:PySem.Ctx}{p:Pos}{g:Nat}{r:Resume}{s s':Shared}{res:GenResult}(h:Wakes M Γ p g r s res s'):s.toks<=s'.toks:=by
 unfold Wakes at h;split at h
 ·exact h.elim
 ·split at h
  ·obtain⟨e1,s1,h1,_,_,rfl⟩:=h
   have:=xQ h1;simp only[Shared.setGen]at*;exact this
  ·rw[h.2];exact aio _
  ·rw[h.2];exact aio _
 ·obtain⟨e1,s1,h1,_,_,rfl⟩:=h
  have:=xQ h1;simp only[Shared.setGen]at*;exact this
 ·rw[h.2];exact aio _
 ·rw[h.2];exact aio _
theorem wp_toks {α:Type}{M:Model}{Γ:PySem.Ctx}{n:Nat}(t:Sem α){Q:α->Pos->Shared->Prop}{E:Value->Pos->Shared->Prop}{p:Pos}{s:Shared}(hn:n<=s.toks)(h:Sem.wp M Γ t Q E p s):
  Sem.wp M Γ t (λa p' s'=>Q a p' s'/\n<=s'.toks) E p s:=by
 induction t generalizing p s with
 |pure x=>exact⟨h,hn⟩
 |raise v=>exact h
 |unsupported|finish|yield|fork|await|register=>exact h
 |rule _ k ih|«at» _ k ih|alloc _ k ih|loadIfAlive _ k ih|point _ k ih|ask k ih|os _ _ k ih|handled _ k ih|newGen _ k ih|stack k ih|thread k ih=>exact ih _ hn h
 |fresh k ih=>exact ih _ (aj5 hn) h
 |load a _ k ih|genState a k ih=>
  obtain⟨o,ho,h⟩:=h;exact⟨o,ho,ih _ hn h⟩
 |update a _ f k ih|choose _ _ k ih=>exact⟨h.1,ih _ hn h.2⟩
 |call c hd g l k ih=>
  obtain⟨r,s',hr,h⟩:=h;exact⟨r,s',hr,ih r (aiv hn (xQ hr)) h⟩
 |resume g r _ k ih=>
  obtain⟨res,s',hw,h⟩:=h;exact⟨res,s',hw,ih res (aiv hn (Nu hw)) h⟩
theorem wpAny_toks {α:Type}{M:Model}{A:Around}{t:Sem α}{Q:α->Shared->Prop}{E:Value->Shared->Prop}{s:Shared}(h:wpAny M A t Q E s):wpAny M A t (λa s'=>Q a s'/\s.toks<=s'.toks) E s :=
 fun Γ p hA=>wp_toks t (aio _) (h Γ p hA)
theorem mJ {α:Type}{M:Model}{A:Around}{t:Sem α}{Q:α->Shared->Prop}{E:Value->Shared->Prop}{s:Shared}(h:wpAny M A t (λa s'=>s.toks<=s'.toks->Q a s') E s):wpAny M A t Q E s :=
 wpAny_mono (wpAny_toks h) (λ_ _ q=>q.1 q.2) λ_ _ e=>e
def PEt (X:Cx)(e:Expr)(t:TE):Prop :=
 ∀(aZ:List (Addr×Obj)) (s:Shared) (U:St) (H:Hp) (Q:VK),0<s.toks->Inv X aZ U H s->t U H Q->wpAny (model X.prog X.w) X.A (eval e X.env) (EP X aZ U Q) X.xe s
def PSt (X:Cx)(st:Stmt)(t:TS):Prop :=
 ∀(aZ:List (Addr×Obj)) (s:Shared) (U:St) (H:Hp) (D:Ends),0<s.toks->Inv X aZ U H s->t D U H->wpAny (model X.prog X.w) X.A (exec st X.env) (SP X aZ D) X.xe s
def DN (X:Cx)(st:List Stmt)(t:TS):Prop :=
 ∀(aZ:List (Addr×Obj)) (s:Shared) (U:St) (H:Hp) (D:Ends),0<s.toks->Inv X aZ U H s->t D U H->wpAny (model X.prog X.w) X.A (execs st X.env) (SP X aZ D) X.xe s
theorem PE.t {X:Cx}{e:Expr}{t:TE}(h:PE X e t):PEt X e t:=λaZ s U H Q _=>h aZ s U H Q
theorem PS.t {X:Cx}{e:Stmt}{t:TS}(h:PS X e t):PSt X e t:=λaZ s U H Q _=>h aZ s U H Q
theorem yL.t {X:Cx}{e:List Stmt}{t:TS}(h:yL X e t):DN X e t:=λaZ s U H Q _=>h aZ s U H Q
section
variable {X:Cx}{st:Stmt}{rest:List Stmt}{t u:TS}
theorem xR (h1:PSt X st t)(h2:DN X rest u):DN X (st::rest) (JD t u):=by
 intro aZ s U H D h0 I h;refine wpAny_execs_cons (mJ (eU (h1 aZ s U H {D with nx:=u D} h0 I h) λf s1 q k=>?_));cases f with
 |next=>
  obtain⟨U',H',I',q⟩:=q;exact h2 aZ s1 U' H' D (aiw h0 k) I' q
 |ret v=>exact q
 |brk=>exact q
 |cont=>exact q
theorem aad {i:Nat}{x:Str}{e:Expr}{te:TE}{pos uR:Pos}(hN:X.N.Nodup)(he:PEt X e te)(hi:X.N[i]?=some x:=by rfl)(hx:Loc X.env.scope x:=by exact Or.inl rfl)(hs:swapsWith e (some (.Name x uR)) pos.line X.env=pure false:=by rfl)(hf:X.fn x=true\/X.env.scope.names.lookup x=some .local:=by first|exact .inl rfl|exact .inr rfl):
  PSt X (.Assign [.Name x uR] e pos) (JG te (oW i)):=by
 intro aZ s U H D h0 I h;refine wpAny_Assign_Name (eU (he aZ s U H _ h0 I h) λv s1 ⟨y,H1,I1,r1,q1⟩=>?_) hs;exact sy I1 hN hi hx r1 (λs2 I2=>⟨_,H1,I2,q1⟩) hf
inductive abM (y z:Str)(Q:VK)(x:V)(H1:Hp):Prop where
 |mk (w:Str):x=.str w->w.length+(w.length+1)*z.length<=16777216->Q (.str (Txt.replace w y z)) H1->abM y z Q x H1
def af' (y z:Str)(to:TE):TE:=λU H Q=>to U H (abM y z Q)
theorem Nv {o:Expr}{to:TE}{y z:Str}{j1 j2 p1 p2 iQ pP}(ho:PEt X o to)
  (nU:attributeBase o "replace" X.env (eval o X.env)=eval o X.env:=by rfl)
  (hfew:((backTo iQ (starEach [.Constant (.str y) j1 p1, .Constant (.str z) j2 p2] X.env)).all (λx=>!x.1)&&(backToKw iQ (keywordEach [] X.env)).all (λx=>x.1.isSome)
   &&decide (([.Constant (.str y) j1 p1, .Constant (.str z) j2 p2]:List Expr).length+([]:List Keyword).length+(if([]:List Keyword).isEmpty then 0 else 1)<30))=true:=by rfl)
  (hline:(pP.endLine==iQ.line)=true:=by rfl) (hyz:(y==z)=false:=by decide):
  PEt X (.Call (.Attribute o "replace" pP) [.Constant (.str y) j1 p1, .Constant (.str z) j2 p2] [] iQ) (af' y z to):=by
 intro aZ s U H Q h0 I h;refine wpAny_Call_method_late nU hfew hline rfl (mJ (eU (ho aZ s U H _ h0 I h) λv s1 ⟨x,H1,I1,r1,q1⟩ hk=>?_));obtain⟨w,rfl,hl,q⟩:=q1;obtain⟨tw,rfl⟩:=r1;refine⟨"str","str.replace",aiJ,PySem.F.slot_str_replace,PySem.F.type_str_replace,?_,?_,?_⟩
 ·exact typeIs_str s1 w tw
 ·exact λ_ e=>nomatch e
 ·refine Calls.callWith_builtin rfl (Calls.evalArgs_plain ?_)
  refine Calls.spliced_cons (Calls.Constant_str (k:=0) (pos:=p1) ?_);show wpAny _ _ (spliced ((false,eval (.Constant (.str z) j2 p2) X.env)::backTo iQ (starEach [] X.env))) _ _ _;refine Calls.spliced_cons (Calls.Constant_str (k:=0) (pos:=p1) ?_);show wpAny _ _ (spliced []) _ _ _;refine Calls.spliced_nil ?_;exact SC.replace (by show s1.toks≠0;omega) (by show s1.toks+1≠0;omega) (by show s1.toks≠s1.toks+1;omega) hyz hl (λt' k=>⟨.str _,H1,I1.tok k,⟨_,rfl⟩,q⟩)
end
structure FN (P:Program)(w:World)(K:PySem.W.Frag)(mg:Str->Option Value)(aN:Heap)(CX:G9)(k:Nat)(f:Addr)(fd:FuncData)(ps:List Str)(sp:Sp):Prop where
 len:∀vs H Q E,sp vs H Q E->vs.length=ps.length
 run:∀(A:Around) (aM:List Env) (s:Shared) (H:Hp) (args:Args) (us:List Value) (vs:List V) (Q:VK) (E:XK),0<s.toks->jL k A->Vx P w K mg aN A aM s H->BindsTo s fd args (ps.zip us)->Vals vs us->sp vs H Q E->
  codeAny (model P w) A (.call (.ref f) args) (CR CX aM P w H s Q E) s
theorem acP {CX:G9}{P:Program}{w:World}{K:PySem.W.Frag}{mg:Str->Option Value}{aN:Heap}{k:Nat}{f:Addr}{name aR:Str}{params:Arguments}{body:List Stmt}{aQ:Scope}{dV kV vK pm cX ct oc:Value}{an od:Option Addr}
  {osl:Array (Option Value)} {N ps:List Str} {sp:Sp} (lk:K.lookup f=some ⟨oc,od, .func (PySem.W.fnOf name aR params body aQ dV kV vK pm an cX ct),osl⟩) (Du:PySem.W.codeIn K cX aR=true) (S:bG N ps aQ)
  (len:∀vs H Q E,sp vs H Q E->vs.length=ps.length)
  (hbody:∀(A:Around) (aM:List Env) (s:Shared) (H:Hp) (vs:List V) (Q:VK) (E:XK),jL k (A.deeper (envOfC aR aQ s.heap.objs.size f cX))->sp vs H Q E->
   ∃t,DN (j7 CX P w K mg aN N aR aQ f cX A aM s H E) body t/\t (Ends.of Q) (start N vs) H):
  FN P w K mg aN CX (k+1) f (PySem.W.fnOf name aR params body aQ dV kV vK pm an cX ct) ps sp:=by
 refine⟨len,λA aM s H args us vs Q E h0 hr e0 hb r hsp=>?_⟩;have hl:=len _ _ _ _ hsp;have KX:K.In s.heap:=e0.mod.Vc.keeps λb o e=>(e0.bs b o e).1;have lim:s.heap.NoLimit:=e0.mod.nolimit.keeps λb o e=>(e0.bs b o e).1;have hkind:∀y∈ps.zip us,aQ.names.lookup y.1=some .local\/(aQ.names.lookup y.1=some .cell/\((cellsFrom (s.heap.objs.size+1) aQ.names []).lookup y.1).isSome=true):=λ⟨n,v⟩ hy=>by
  rcases S.par n (ajR hy).1 with q|q
  ·exact .inl q
  ·exact .inr ⟨q,ajD _ _ _ (.inl q)⟩
 refine codeAny_call_function hr.depth (KX _ _ lk) rfl S.co S.gen rfl (PySem.W.codeRec_of KX Du) (hb _ _ _ _ ?_);refine mJ (wpAny_newFunctionEnv_cells S.kind hkind λenv he s1 x hk=>?_);subst he;refine⟨lim.keeps x.toInCall.keep,codeAny_func ?_⟩;obtain⟨t,ht,hq⟩:=hbody A aM s H vs Q E (hr.deeper _) hsp;have I:Inv (j7 CX P w K mg aN N aR aQ f cX A aM s H E) [] (start N vs) H s1:=Ew S hr.hd e0 hl r x;refine wpAny_mono (ht [] s1 (start N vs) H _ (aiw h0 hk) I hq) (λfl s' hs=>?_) λe s' hs=>hs;have fin:∀{U':St} {H':Hp} {v:V} {u:Value},Inv (j7 CX P w K mg aN N aR aQ f cX A aM s H E) [] U' H' s'->RelV v u->Q v H'->CE aM P w H s Q u s' :=
  λ{U' H' v u} J rv q=>⟨v,H',J.os,J.bare,J.base,J.hok,rv,q⟩
 cases fl with
 |ret u=>
  obtain⟨v,U',H',J,rv,q⟩:=hs;exact fin J rv q
 |next=>
  obtain⟨U',H',J,q⟩:=hs;exact fin (v:=V.non) (u:=Value.none) J rfl q
 |brk=>
  obtain⟨_,_,_,q⟩:=hs;exact False.elim q
 |cont=>
  obtain⟨_,_,_,q⟩:=hs;exact False.elim q
section
variable {X:Cx}{CX:G9}{k:Nat}{f C:Addr}{fd:FuncData}{ps:List Str}{sp:Sp}{Es:List V}{ds:List Value}{E:XK}{x m:Str}{p pos pP:Pos}{e o:Expr}{es:List Expr}{ta:TE}{t:TA}
theorem aae {aZ:List (Addr×Obj)}{U:St}{H:Hp}{s:Shared}{Q:VK}{us:List Value}{vs:List V}(F:FN X.prog X.w X.K X.mg X.base CX k f fd ps sp)(hr:jL k X.A)(hb:Binds X.K fd ps ds)(hd:Vals Es ds)(hx:Passes CX X E)
  (h0:0<s.toks) (I:Inv X aZ U H s) (r:Vals vs us) (h:sp (vs++Es) H Q E):wpAny (model X.prog X.w) X.A (call (.ref f) us) (EP X aZ U Q) X.xe s:=by
 have r2:Vals (vs++Es) (us++ds):=r.append hd;have hl:(us++ds).length=ps.length:=by rw[<-r2.length];exact F.len _ _ _ _ h
 refine wpAny_call (codeAny_mono (F.run X.A X.stack s H ⟨us,[]⟩ (us++ds) (vs++Es) Q E h0 hr I.env0 (hb s us I.wR hl) r2 h) λr s' hq=>?_);cases r with
 |error e=>exact hx aZ U H s e s' I hq
 |ok fl=>
  cases fl with
  |ret u=>exact I.after hq
  |next=>exact False.elim hq
  |brk=>exact False.elim hq
  |cont=>exact False.elim hq
theorem Tj (F:FN X.prog X.w X.K X.mg X.base CX k f fd ps sp)(hr:jL k X.A)(hg:Gl X x)(hm:X.mg x=some (.ref f))(hk:PySem.W.keepIn X.K (.ref f)=true)(hb:Binds X.K fd ps ds)(hd:Vals Es ds)(hx:Passes CX X E)
  (ha:PA X (e::es) t) (hdb:(x==("__debug__":Str))=false:=by decide) (he:starEach (e::es) X.env=(false,eval e X.env)::starEach es X.env:=by rfl) (rW:(backTo pos (starEach es X.env)).any (·.1)=false:=by rfl):
  PEt X (.Call (.Name x p) (e::es) [] pos) (jh sp Es E t):=by
 intro aZ s U H Q h0 I h;refine wpAny_Call_Name_kw (qC I hg hm ?_ hdb);refine ajj (h₀:=X.base) I.ok.mod.Vc hk (mJ (eU (ha pos aZ s U H _ I h) λus s1 ⟨vs,H1,I1,r,q⟩ hk'=>⟨I1.wR,?_⟩)) he rW;exact aae F hr hb hd hx (aiw h0 hk') I1 r q
end
def PIt (X:Cx)(tg eX:Expr)(wi:TI):Prop :=
 ∀(aZ:List (Addr×Obj)) (s:Shared) (U:St) (H:Hp) (R:It->Hp->Prop),0<s.toks->Inv X aZ U H s->wi U H R->
  wpAny (model X.prog X.w) X.A (eval eX X.env) (λv s1=>wpAny (model X.prog X.w) X.A (pyIter v) (PIE X aZ U tg R) X.xe s1) X.xe s
section
variable {X:Cx}{tg:Expr}
theorem WK {l:Expr}{tl:TE}(hl:PEt X l tl):PIt X tg l (Vo X.K tl):=by
 intro aZ s U H R h0 I h;refine eU (hl aZ s U H _ h0 I h) λv s1 ⟨x,H1,I1,r1,q1⟩=>?_;obtain⟨a,e,⟨xs,hq⟩,q⟩:=q1;subst e;cases r1;obtain⟨aU,rv,p,hz⟩:=I1.list hq;refine wpAny_pyIter_list p.isList ?_;refine⟨s1.heap.objs.size,[s1.heap.objs.size],_,_,H1,rfl,I1.kept (t':=s1.toks) λb o e=>aiq _ e,Ep a _,⟨_,aiC _ rfl,rfl,rfl⟩,λb hb=>?_,q⟩;have e:b=s1.heap.objs.size:=by simpa using hb
 subst e;exact I1.Dy (aio _) (I1.hok.fresh (aio _))
theorem aaf {eX:Expr}{body:List Stmt}{wi:TI}{g:TG}{tb:TS}{pos:Pos}(hp:PassesOwn (model X.prog X.w) X.A X.env X.xe)(hc:X.calm=true)(hi:PIt X tg eX wi)(hg:PG X tg g)(hb:yL X body tb)
  (hs:∀x,foldedSetIterable eX X.env x=pure x:=by intro _;rfl):PSt X (.For tg eX body [] pos) (aez wi g tb):=by
 intro aZ s U H D h0 I h;refine wpAny_For (eU (hi aZ s U H _ h0 I h) λv s1 h1=>eU h1 λitv s2 h2=>?_) hs;obtain⟨it,fp,tn,J,H2,e,I2,T,st2,f2,W,⟨m0,w0⟩,turn⟩:=h2;subst e;have stat:∀{H':Hp},(∀b∈fp,H' b=none)->∀b∈fp,Ae X aZ H' b:=λhn b hb=>⟨hn b hb,(f2 b hb).2⟩;refine codeAny_forLoop_any (λn s'=>∃i U' H',Inv X aZ U' H' s'/\tn i s'.heap/\(∀b∈fp,H' b=none)/\W i n U' H') ?_ m0 ⟨0,U,H2,I2,st2,λb hb=>(f2 b hb).1,w0⟩;rintro n s3 ⟨i,U3,H3,I3,st3,fr3,w3⟩;rcases turn i n U3 H3 w3 with ⟨stop,qn⟩|⟨go,N,hN,step⟩
 ·refine wpAny_passesOwn hp (eU (T.done X rfl rfl rfl hc i aZ s3 U3 H3 X.xe I3 (stat fr3) st3 stop) λr s4 ⟨hr,I4⟩=>?_)
  subst hr;exact wpAny_execs_nil ⟨U3,H3,I4,qn⟩
 ·refine wpAny_passesOwn hp (eU (T.item X rfl rfl rfl hc i aZ s3 U3 H3 X.xe I3 (stat fr3) st3 go) λr s4 ⟨u,hr,h4⟩=>?_)
  subst hr;refine wpAny_passesOwn hp (eU h4 λ_ s5 ⟨x,H5,I5,r5,y5,Vr,fr5⟩=>?_);have I5':=I5.pinned (stat fr5) (T.obj _ _ Vr);refine wpAny_passesOwn hp (eU (hg _ s5 U3 H5 x u _ I5' r5 (step x H5 y5)) λ_ s6 ⟨U6,H6,I6,q6⟩=>?_);refine wpAny_passesOwn hp (eU (hb _ s6 U6 H6 _ I6 q6) λf s7 q7=>?_);have again:∀{U7:St} {H7:Hp},Inv X (aZ++wY fp s5.heap) U7 H7 s7->N U7 H7->∃m,m<n/\∃i U' H',Inv X aZ U' H' s7/\tn i s7.heap/\(∀b∈fp,H' b=none)/\W i m U' H':=λ{U7 H7} I7 n7=>by
   obtain⟨m',hm,w7⟩:=hN U7 H7 n7;refine⟨m',hm,i+1,U7,H7,I7.jo,T.keep _ _ _ Vr λb hb o e=>(I7.pin (b,o) (ait _ (ait _ (lJ hb e)))).1,λb hb=>?_,w7⟩;obtain⟨o,e,d⟩:=T.obj _ _ Vr b hb;exact(I7.pin (b,o) (ait _ (ait _ (lJ hb e)))).2.1
  cases f with
  |next=>obtain⟨U7,H7,I7,n7⟩:=q7;exact again I7 n7
  |cont=>obtain⟨U7,H7,I7,n7⟩:=q7;exact again I7 n7
  |brk=>obtain⟨U7,H7,I7,q7⟩:=q7;exact⟨U7,H7,I7.jo,q7⟩
  |ret v=>obtain⟨x7,U7,H7,I7,r7,q7⟩:=q7;exact⟨x7,U7,H7,I7.jo,r7,q7⟩
end
theorem DN.Vf {X:Cx}{st:List Stmt}{t:TS}(h:DN X.Vf st t):DN X st t:=λaZ s U H D h0 I hw=>
 wpAny_mono (h aZ s U H D h0 (I.wish _) hw) (λ_ _ q=>q.qF) λ_ _ z=>False.elim z
section
variable {P:Program}{w:World}{K:PySem.W.Frag}{mg:Str->Option Value}{aN:Heap}
theorem eV.aga {x aR:Str}{st:Stmt}{f:Addr}{fd:FuncData}{N ps:List Str}{k:Nat}{sp:Sp}(F:eV K x aR st f fd)(S:bG N ps (bA st))
  (hbody:∀(cX:Value) (A:Around) (aM:List Env) (s:Shared) (H:Hp) (vs:List V) (Q:VK) (E:XK),jL k (A.deeper (envOfC aR (bA st) s.heap.objs.size f cX))->sp vs H Q E->
   ∃t,DN (j7 eY P w K mg aN N aR (bA st) f cX A aM s H E).Vf (gZ st) t/\t (Ends.of Q) (start N vs) H) (len:∀vs H Q E,sp vs H Q E->vs.length=ps.length:=by rintro _ _ _ _ ⟨⟩;subst_vars;rfl):FN P w K mg aN eY (k+1) f fd ps sp:=by
 obtain⟨oc,od,kV,vK,pm,an,cX,ct,osl,rfl,lk,Du⟩:=F.ex;refine acP lk Du S len λA aM s H vs Q E hr hsp=>?_;obtain⟨t,h,q⟩:=hbody cX A aM s H vs Q E hr hsp;exact⟨t,DN.Vf h,q⟩
end
def WL (X:Cx)(e:Expr)(t:TE):Prop :=
 ∀(aZ:List (Addr×Obj)) (s:Shared) (U:St) (H:Hp) (Q:VK),Inv X aZ U H s->t U H Q->wpAny (model X.prog X.w) X.A (eval e X.env) (λv s'=>EP X aZ U Q v s'/\0<s'.toks) X.xe s
def PT1 (X:Cx)(e:Expr)(t:TT):Prop :=
 ∀(aZ:List (Addr×Obj)) (s:Shared) (U:St) (H:Hp) (Q:Bool->Hp->Prop),Inv X aZ U H s->t U H Q->wpAny (model X.prog X.w) X.A (isTrue e X.env (eval e X.env)) (λb s'=>TP X aZ U Q b s'/\0<s'.toks) X.xe s
section
variable {X:Cx}{x:Str}{p pos:Pos}{e a b:Expr}{es:List Expr}{t:TA}{ta tb:TE}
theorem aag (hg:Gl X "len")(hm:X.mg "len"=none)(ha:PA X (e::es) t)
  (he:starEach (e::es) X.env=(false,eval e X.env)::starEach es X.env:=by rfl) (rW:(backTo pos (starEach es X.env)).any (·.1)=false:=by rfl):
  WL X (.Call (.Name "len" p) (e::es) [] pos) (ZM (λxs H Q=>∃z,xs=[.str z]/\z.length<=sizeLine/\Q (.int z.length) H) t):=by
 intro aZ s U H Q I h;refine wpAny_Call_Name_kw (wX I hg hm PySem.boot_len ?_ (by decide) (by decide));refine PyProof.Rows.callWith_builtin1 (eU (ha pos aZ s U H _ I h) λus s1 ⟨vs,H1,I1,r1,q1⟩=>?_) he rW;obtain⟨z,rfl,hz,q⟩:=q1;obtain⟨u,rfl,t,rfl⟩:=vals1 r1;have hn:=sH;exact len_str (by omega) ⟨⟨.int z.length,H1,I1.tok _,⟨_,rfl⟩,q⟩,aj8 _⟩
theorem aah {op:CmpOp}{r:R2}(ho:m8 X (compareOp op) r)(ha:WL X a ta)(hb:PE X b tb)(hm:behindInMarks op b=false:=by exact bM _):PT1 X (.Compare a [op] [b] pos) (Er (vG r ta tb)):=by
 intro aZ s U H Q I h;refine wpAny_isTrue_Compare1 (eU (ha aZ s U H _ I h) λv s1 ⟨⟨x,H1,I1,r1,q1⟩,k1⟩=>mJ (eU (hb aZ s1 U H1 _ I1 q1) λu s2 ⟨y,H2,I2,r2,q2⟩ k2=>
  mJ (eU (ho aZ s2 U H2 x y v u _ I2 r1 r2 q2) λc s3 ⟨z,H3,I3,r3,k,e,q3⟩ k3=>?_))) hm
 subst e;cases r3;exact wpAny_truthy_bool ⟨⟨H3,I3,q3⟩,aiw k1 (aiv k2 k3)⟩
end
end L2
namespace Fw
open PySem PySem.Spec PyProof.Rows L2
def tu (c:Nat)(ys l:List Nat):List Nat:=l.flatMap λa=>if a=c then ys else[a]
def tD (ys:List Nat):List (List Nat)->List Nat
 |[]=>[]
 |[x]=>x
 |x::y::r=>x++ys++tD ys (y::r)
theorem BL (z:Str):∀ps:List Str,(Str.join z ps).cps.toList=tD z.cps.toList (ps.map (·.cps.toList))
 |[]=>rfl
 |[p]=>rfl
 |p::q::r=>by
  have ih:=BL z (q::r);show(p++z++Str.join z (q::r)).cps.toList=_;rw[jO,jO,ih]
  rfl
theorem Ny (ys:List Nat)(x:List Nat)(ps:List (List Nat))(h:ps≠[]):tD ys (x::ps)=x++ys++tD ys ps:=by
 cases ps with
 |nil=>exact absurd rfl h
 |cons p r=>rfl
theorem u9 (c:Nat)(ys:List Nat):∀l,tD ys (jr c l)=tu c ys l
 |[]=>rfl
 |a::r=>by
  have ih:=u9 c ys r;unfold jr;unfold tu at ih ⊢;rw[ajl];by_cases h:a=c
  ·rw[if_pos h,if_pos h,Ny _ _ _ (Hs c r),ih]
   rfl
  ·rw[if_neg h,if_neg h]
   cases e:jr c r with
   |nil=>exact absurd e (Hs c r)
   |cons p ps=>
    rw[e]at ih;show tD ys ((a::p)::ps)=a::_;rw[<-ih];cases ps with
    |nil=>rfl
    |cons q r=>rfl
theorem HY (x:Str)(c:Nat)(z:Str):(Txt.replace x ⟨#[c]⟩ z).cps.toList=tu c z.cps.toList x.cps.toList:=by
 rw[StrLaws.replace_one,BL,pW,u9]
theorem vX {c:Nat}{ys:List Nat}{k:Nat}(h:ys.length<=k)(h1:1<=k):∀l,(tu c ys l).length<=k*l.length
 |[]=>by simp[tu]
 |a::r=>by
  have ih:=vX (c:=c) h h1 r;unfold tu at ih ⊢;rw[ajl,aiG,aiF];have:(if a=c then ys else[a]).length<=k:=by
   split
   ·exact h
   ·exact h1
  rw[Nat.mul_succ];omega
def vY (l:List Nat):List Nat:=tu 41 [32,41,32] (tu 40 [32,40,32] (tu 10 [32] l))
def Ia (l:List Nat):List (List Nat):=(jr 32 (vY l)).filter (λp=>!p.isEmpty)
def sp1 (z:Str):Str:=Txt.replace z "\n" " "
def sp2 (z:Str):Str:=Txt.replace (sp1 z) "(" " ( "
def Qw (z:Str):Str:=Txt.replace (sp2 z) ")" " ) "
theorem Ib (z:Str):(sp1 z).cps.toList=tu 10 [32] z.cps.toList:=by
 unfold sp1;rw[show("\n":Str)=⟨#[10]⟩ by decide+kernel,HY]
 rfl
theorem Ie (z:Str):(sp2 z).cps.toList=tu 40 [32,40,32] (tu 10 [32] z.cps.toList):=by
 unfold sp2;rw[show("(":Str)=⟨#[40]⟩ by decide+kernel,HY,Ib]
 rfl
theorem Qx (z:Str):(Qw z).cps.toList=vY z.cps.toList:=by
 unfold Qw;rw[show(")":Str)=⟨#[41]⟩ by decide+kernel,HY,Ie]
 rfl
theorem Qy (z:Str):(sp1 z).length<=z.length:=by
 rw[<-bT,Ib,<-bT];have:=vX (c:=10) (ys:=[32]) (k:=1) (aio _) (aio _) z.cps.toList;omega
theorem Qz (z:Str):(sp2 z).length<=3*z.length:=by
 rw[<-bT,Ie];have h1:=Qy z;rw[<-bT,Ib]at h1;have:=vX (c:=40) (ys:=[32,40,32]) (k:=3) (aio _) (by decide) (tu 10 [32] z.cps.toList);omega
theorem QB (z:Str):(Qw z).length<=9*z.length:=by
 rw[<-bT,Qx];have h1:=Qz z;rw[<-bT,Ie]at h1;have:=vX (c:=41) (ys:=[32,41,32]) (k:=3) (aio _) (by decide) (tu 40 [32,40,32] (tu 10 [32] z.cps.toList));unfold vY;omega
theorem Kq (c:Nat):∀l,(jr c l).length<=l.length+1
 |[]=>by simp[jr]
 |a::r=>by
  have ih:=Kq c r;unfold jr;split
  ·simp;exact ih
  ·cases e:jr c r with
   |nil=>simp
   |cons p ps=>rw[e]at ih;simp at ih ⊢;omega
def fK (z:Str):List Str:=(Txt.split (Qw z) " ").filter λp=>!decide (V.str p=.str "")
theorem BR (z:Str):(Txt.split (Qw z) " ").length<=9*z.length+1:=by
 have h:=pW (Qw z) 32;have h1:=Kq 32 (Qw z).cps.toList;rw[<-h,aix,bT]at h1;rw[show(" ":Str)=⟨#[32]⟩ by decide+kernel];have:=QB z;omega
abbrev QC:Stmt:=top 36
theorem Kr {K:PySem.W.Frag}{H:Hp}{a:Addr}{xs:List V}{tt:TT}{te:TE}{U':L2.St}{Q:VK}(Pv:Nat->List V->Hp->Prop)(h0:Pv 0 [] H)(hl:∀i vs H,i<=xs.length->Pv i vs H->dX K H a xs/\vs.length<sizeLine)
  (hs:∀i x vs H2,i<xs.length->xs[i]?=some x->Pv i vs H2->tt (some x::U') H2 λb H4=>if b=true then te (some x::U') H4 λv H5=>Nx xs.length i (Pv (i+1) (vs++[v]) H5) else Nx xs.length i (Pv (i+1) vs H4))
  (hd:∀vs H2,Pv xs.length vs H2->∀l,H2 l=none->Q (.ref l) (upd H2 l (.lst vs))):Fg (Itl K a) tt te U' Q H:=by
 refine⟨λi m vs H=>m=xs.length-i/\i<=xs.length/\Pv i vs H,⟨xs.length,by simp,aiP _,h0⟩,?_⟩;rintro i m vs H2 ⟨rfl,hi,p⟩;obtain⟨q1,q2⟩:=hl i vs H2 hi p;refine⟨q2,?_⟩;by_cases vI:i<xs.length
 ·refine .inr ⟨⟨xs,xs[i],q1,by simp[vI]⟩,?_⟩
  rintro x H3 ⟨e,y⟩;subst e;exact hs i x vs _ vI (y xs q1) p
 ·have e:i=xs.length:=by exact ajx hi (Nat.not_lt.mp vI)
  subst e;exact .inl ⟨⟨xs,q1,aio _⟩,hd vs H2 p⟩
def acQ (P:Program)(w:World)(K:PySem.W.Frag)(mg:Str->Option Value)(aN:Heap)(k:Nat)(x:Str)(ps:List Str)(sp:Sp):Prop :=
 ∃f fd,FN P w K mg aN eY k f fd ps sp/\Binds K fd ps []/\PySem.W.keepIn K (.ref f)=true/\mg x=some (.ref f)
theorem aai {X:Cx}{k j:Nat}{x:Str}{ps:List Str}{sp:Sp}{p pos:Pos}{e:Expr}{es:List Expr}{t:TA}(h:acQ X.prog X.w X.K X.mg X.base k x ps sp)(hr:jL j X.A)(hkj:k<=j)(hg:Gl X x)(ha:PA X (e::es) t)
  (hdb:(x==("__debug__":Str))=false:=by decide) (he:starEach (e::es) X.env=(false,eval e X.env)::starEach es X.env:=by rfl) (rW:(backTo pos (starEach es X.env)).any (·.1)=false:=by rfl):
  PEt X (.Call (.Name x p) (e::es) [] pos) (jh sp [] E0 t):=by
 obtain⟨f,fd,h1,h2,h3,h4⟩:=h;exact Tj h1 (hr.mono hkj) hg h4 h3 h2 .nil yO ha hdb he rW
inductive QD (vs:List V)(H:Hp)(Q:VK)(E_:XK):Prop where
 |mk (z:Str):vs=[.str z]->z.length<=6000->(∀p H',Same H H'->H p=none->H' p=some (.lst ((fK z).map V.str))->Q (.ref p) H')->QD vs H Q E_
section
variable {P:Program}{w:World}{K:PySem.W.Frag}{mg:Str->Option Value}{aN:Heap}{f:Addr}{fd:FuncData}
theorem WM:bG ["text","spaced"] ["text"] (bA QC):=⟨rfl,rfl,rfl,by decide+kernel,rfl,by decide+kernel,by decide+kernel⟩
theorem acR (F:eV K "pieces_of" "pieces_of" QC f fd):FN P w K mg aN eY 1 f fd ["text"] QD:=by
 refine F.aga WM (λcX A aM s H vs Q E hr h=>?_);obtain⟨z,rfl,hz,q⟩:=h;refine⟨_,xR (aad (i:=1) WM.nd (Nv (Nv (Nv (PE.t (pv 0))))))
  (yL.t (bh (bD (pR (bA QC) ["text","spaced"] [] [] (by decide+kernel) (piL K (jX aiJ ajG ajH Aq (pv 1) (aW bQ aX)))
   (λC s₀ H₀ ex=>ZV (bL PJ (pv 0) bQ)) (λC s₀ H₀ ex=>pv 0))))),?_⟩
 have l1:=Qy z;have l2:=Qz z;have l3:=QB z;have l4:=BR z;refine⟨_,rfl,z,rfl,by show z.length+(z.length+1)*1<=_;omega,sp1 z,rfl,by show(sp1 z).length+((sp1 z).length+1)*3<=_;omega,sp2 z,rfl,by show(sp2 z).length+((sp2 z).length+1)*3<=_;omega,?_⟩;have flt:∀(l:List Str) (i:Nat) (x:Str),l[i]?=some x->((l.take (i+1)).filter λp=>!decide (V.str p=.str ""))=((l.take i).filter λp=>!decide (V.str p=.str ""))++(if decide (V.str x=.str "")=true then[] else[x]):=by
  intro l i x hx;rw[ajC,hx,List.filter_append];show _++List.filter _ [x]=_;refine congrArg _ ?_;rw[List.filter_cons];cases e:decide (V.str x=.str "")<;>rfl
 refine⟨_,rfl,rfl,Qw z," ",rfl,rfl,small (by omega),by decide,small (by omega),λl hl=>⟨l,rfl,⟨_,dX.of bf⟩,?_⟩⟩;refine Kr (xs:=(Txt.split (Qw z) " ").map V.str) (λi vs H'=>H'=upd H l (.lst ((Txt.split (Qw z) " ").map V.str))/\vs=(((Txt.split (Qw z) " ").take i).filter λp=>!decide (V.str p=.str "")).map V.str) ⟨rfl,rfl⟩ ?_ ?_ ?_
 ·rintro i vs H' hi ⟨rfl,rfl⟩
  refine⟨dX.of bf,fH ?_⟩;rw[aix];have h1:=List.length_filter_le (λp=>!decide (V.str p=.str "")) ((Txt.split (Qw z) " ").take i);rw[aiW]at h1;omega
 ·rintro i x vs H' hi hx ⟨rfl,rfl⟩
  rw[ai6]at hx;cases e:(Txt.split (Qw z) " ")[i]? with
  |none=>rw[e]at hx;cases hx
  |some y=>
   rw[e]at hx;cases hx;have f1:=flt _ i y e;refine⟨_,rfl,rfl,_,rfl,?_⟩;cases c:decide (V.str y=.str "") with
   |true=>
    rw[c]at f1;refine dW (nx hi ⟨rfl,?_⟩);rw[f1];simp
   |false=>
    rw[c]at f1;refine dM ⟨_,rfl,nx hi ⟨rfl,?_⟩⟩;rw[f1];simp
 ·rintro vs H' ⟨rfl,rfl⟩ b hb
  have hbl:b≠l:=λe=>by rw[e,bf]at hb;cases hb
  have hb':H b=none:=by rw[bI hbl]at hb;exact hb
  refine q b _ ((bw hl _).trans (bw hb _)) hb' ?_;rw[bf,aix,ajr]
  rfl
end
end Fw
namespace L2
open PySem PySem.Spec PyProof.Rows
section
variable {X:Cx}{o e:Expr}{es:List Expr}{to:TE}{t:TA}
theorem WL.pe {t:TE}(h:WL X e t):PE X e t:=λaZ s U H Q I q=>eU (h aZ s U H Q I q) λ_ _ z=>z.1
theorem zU {x j pos}:WL X (.Constant (.str x) j pos) (tC (.str x)):=λ_ _ _ H _ I h=>Calls.Constant_str ⟨⟨.str x,H,I.tok _,⟨_,rfl⟩,h⟩,aj8 _⟩
theorem Ig {name:Str}{pP iQ:Pos}{T id:String}{r:V->List V->Hp->VK->Prop}(pa:PlainAttrs T)(slot:Slot T name id)(hty:typeOf (.builtin id)=pure (.type "method_descriptor"))(hm:MtR X id r)(ho:WL X o to)(ha:PA X (e::es) t)
  (nU:attributeBase o name X.env (eval o X.env)=eval o X.env:=by rfl)
  (hfew:((backTo iQ (starEach (e::es) X.env)).all (λx=>!x.1)&&(backToKw iQ (keywordEach [] X.env)).all (λx=>x.1.isSome)
   &&decide ((e::es).length+([]:List Keyword).length+(if([]:List Keyword).isEmpty then 0 else 1)<30))=true:=by rfl)
  (hline:(pP.endLine==iQ.line)=true:=by rfl) (hs:starEach (e::es) X.env=(false,eval e X.env)::starEach es X.env:=by rfl) (hplain:(backTo iQ (starEach es X.env)).any (·.1)=false:=by rfl):
  WL X (.Call (.Attribute o name pP) (e::es) [] iQ) (tBM X.K T r to t):=by
 intro aZ s U H Q I h;refine wpAny_Call_method_late nU hfew hline rfl (eU (ho aZ s U H _ I h) λv s1 ⟨⟨x,H1,I1,r1,ty,q1⟩,k1⟩=>?_);obtain⟨h1,h2⟩:=Mw I1 r1 ty;refine⟨T,id,pa,slot,hty,h1,h2,?_⟩;have hA:=ha iQ aZ s1 U H1 _ I1 q1;rw[hs]at hA ⊢;refine Calls.callWith_builtin (by show(false||(backTo iQ (starEach es X.env)).any (·.1))=false;rw[hplain]<;>rfl) (Calls.evalArgs_plain ?_);exact mJ (eU hA λus s2 ⟨vs,H2,I2,r2,q2⟩ k2=>mJ (eU (hm aZ s2 U H2 x vs v us Q I2 r1 r2 q2) λ_ _ z k3=>⟨z,aiw k1 (aiv k2 k3)⟩))
theorem BW:∀{zs:List Str} {us:List Value},Vals (zs.map V.str) us->StrsAre us zs
 |[],_, .nil=>.nil
 |_::_,_, .cons r q=>by
  obtain⟨t,rfl⟩:=r;exact .cons _ t (BW q)
theorem zV:MtR X "str.join" (λx xs H Q=>∃(y:Str) (l:Addr) (zs:List Str),x=.str y/\xs=[.ref l]/\H l=some (.lst (zs.map V.str))/\(zs.map (·.length)).sum+zs.length*y.length<=16000000/\Q (.str (Txt.join y zs)) H):=by
 intro aZ s U H x xs v us Q I rx rs h;obtain⟨y,l,zs,rfl,rfl,hl,hb,q⟩:=h;obtain⟨t,rfl⟩:=rx;obtain⟨u,rfl,ru⟩:=vals1 rs;cases ru;obtain⟨z1,Tn,n1,v1,p1⟩:=I.hok l _ hl;exact join_list ⟨_,p1,rfl,_,rfl⟩ (BW v1) (by omega) λt' k=>⟨.str _,H,I.tok _,⟨_,rfl⟩,q⟩
end
inductive ae3 (a:Str)(Q:VK)(x:V)(H1:Hp):Prop where
 |mk (z:Str):x=.str z->a.length+z.length<=1000000->Q (.str (a++z)) H1->ae3 a Q x H1
def tFs (a:Str)(te:TE):TE:=λU H Q=>te U H (ae3 a Q)
theorem ae4 {X:Cx}{e:Expr}{te:TE}{a:Str}{j p1 p2 pos}(he:PE X e te)(hev:evalEach [.Constant (.str a) j p1, .FormattedValue e (-1) none p2] X.env=[eval (.Constant (.str a) j p1) X.env,eval (.FormattedValue e (-1) none p2) X.env]:=by rfl)(ha:a.length<=1000000:=by decide+kernel):
  PE X (.JoinedStr [.Constant (.str a) j p1, .FormattedValue e (-1) none p2] pos) (tFs a te):=by
 intro aZ s U H Q I h;refine PyProof.Rows.JoinedStr_many ?_;have el:∀x y:Str,(x++y).length=x.length+y.length:=λx y=>strLen_append x y;refine PyProof.Rows.joinParts_cons (Calls.Constant_str ⟨?_,?_⟩)
 ·rw[el]
  exact aiv (show 0+a.length<=1000000 by omega) (by decide)
 refine PyProof.Rows.joinParts_cons (PyProof.Rows.FormattedValue_plain (eU (he aZ _ U H _ (I.tok _) h) λv s1 ⟨x,H1,I1,r1,q1⟩=>?_));obtain⟨z,rfl,hl,q⟩:=q1;obtain⟨t,rfl⟩:=r1;have e0:(Str.empty++a:Str)=a:=by
  cases a;show Str.mk (#[]++_)=_;simp
 have hz:(Str.empty++a++z).length<=sizeLine:=by
  rw[e0,el];exact aiv hl (by decide)
 refine PyProof.Rows.formatField_str (λt' tk=>⟨hz,?_⟩) (aiv (show z.length<=1000000 by omega) (by decide));refine PyProof.Rows.joinParts_nil ?_ hz;rw[e0];exact⟨.str (a++z),H1,(I1.tok tk).tok _,⟨_,rfl⟩,q⟩
end L2
namespace Fw
open PySem PySem.Spec PyProof.Rows L2
abbrev WQ:Stmt:=top 37
abbrev WR:Stmt:=top 38
abbrev s_end:Stmt:=top 39
theorem Tp {X:Cx}:jJ X (.type "int") (λxs H Q=>∃z n,xs=[.str z]/\PySem.intText? z=some n/\z.length<=640/\Q (.int n) H):=by
 intro aZ s U H xs us Q I r h;obtain⟨z,n,rfl,hn,hl,q⟩:=h;obtain⟨u,rfl,t,rfl⟩:=vals1 r;exact PySem.W.KIN.call_text hn hl ⟨.int n,H,I.tok _,⟨_,rfl⟩,q⟩
theorem nO:bootBuiltins "int"=some (.type "int"):=by decide+kernel
def jT (z:Str):Option T:=if Qu z=true then(PySem.intText? z).map T.int else if qe z=true then some (.str z) else none
def BX (P:Program)(w:World)(K:PySem.W.Frag)(mg:Str->Option Value)(aN:Heap)(k:Nat)(x:Str)(ps:List Str)(sp:Sp):Prop :=
 ∃f fd,cj P w K mg aN (xM P w) k f fd ps sp/\Binds K fd ps []/\PySem.W.keepIn K (.ref f)=true/\mg x=some (.ref f)
def acS (z:Str):Prop:=Qu z=false/\qe z=false
inductive Ks (CN:Addr)(vs:List V)(H:Hp)(Q:VK)(E:XK):Prop where
 |mk (z:Str) (t:T):vs=[.str z]->z.length<=640->jT z=some t->(∀v H',Same H H'->Rep H' v t->Q v H')->Ks CN vs H Q E
 |no (z:Str):vs=[.str z]->z.length<=100000->acS z->(∀ea H',Same H H'->E (.ref CN) (some ea) H')->Ks CN vs H Q E
inductive Ku (CN:Addr)(vs:List V)(H:Hp)(Q:VK)(E:XK):Prop where
 |mk (a:Addr) (ls:List V):vs=[.ref a]->H a=some (.lst ls)->ls.length<=20->(∀p,H p=none->Q .non (upd (upd H p (.lst [])) a (.lst (ls++[.ref p]))))->Ku CN vs H Q E
 |no (a:Addr) (ls:List V):vs=[.ref a]->H a=some (.lst ls)->20<ls.length->(∀ea H',Same H H'->E (.ref CN) (some ea) H')->Ku CN vs H Q E
inductive Kv (CN:Addr)(vs:List V)(H:Hp)(Q:VK)(E:XK):Prop where
 |mk (a b c:Addr) (ls us ws:List V):vs=[.ref a]->H a=some (.lst (ls++[.ref b]++[.ref c]))->H b=some (.lst ws)->H c=some (.lst us)->a≠b->a≠c->ls.length<=100->ws.length<=100000->
   (∀p,H p=none->Q .non (upd (upd (upd H a (.lst (ls++[.ref b]))) p (.tup us)) b (.lst (ws++[.ref p]))))->Kv CN vs H Q E
 |no (a:Addr) (v:V):vs=[.ref a]->H a=some (.lst [v])->(∀ea H',Same H H'->E (.ref CN) (some ea) H')->Kv CN vs H Q E
section
variable {P:Program}{w:World}{K:PySem.W.Frag}{mg:Str->Option Value}{aN:Heap}{f CN:Addr}{fd:FuncData}{bm:List Value}{jZ B qQ:String}
theorem acT:bG ["piece"] ["piece"] (bA WQ):=⟨rfl,rfl,rfl,by decide+kernel,rfl,by decide+kernel,by decide+kernel⟩
theorem acU:bG ["levels"] ["levels"] (bA WR):=⟨rfl,rfl,rfl,by decide+kernel,rfl,by decide+kernel,by decide+kernel⟩
theorem WT:bG ["levels","inner"] ["levels"] (bA s_end):=⟨rfl,rfl,rfl,by decide+kernel,rfl,by decide+kernel,by decide+kernel⟩
set_option maxHeartbeats 1000000 in
theorem acV (F:eV K "thing_of" "thing_of" WQ f fd)(OS:OwnCls "NoText" CN bm jZ mg aN)(FS:ExcBaseFacts B jZ qQ bm)(mi:mg "int"=none)(h1:Has P w K mg aN 2 "is_number_text" ["text"] (spS Qu))(h2:Has P w K mg aN 5 "is_word" ["thing"] (spS qe)):cj P w K mg aN (xM P w) 6 f fd ["piece"] (Ks CN):=by
 refine F.okX acT (λcX A aM s H vs Q E hr h=>?_) (by rintro _ _ _ _ ⟨⟩<;>subst_vars<;>rfl);refine⟨_,bx (cF (cT (bB h1 hr (by decide) rfl (aW (pv 0) aX))) (bh (bD (cC Tp rfl mi nO (aW (pv 0) aX)))) bK)
  (bx (cF (cT (bB h2 hr (by decide) rfl (aW (pv 0) aX))) (bh (bD (pv 0))) bK) (bh (qd OS FS rfl (aW (ae4 (pv 0)) aX)))),?_⟩
 cases h with
 |no z e hz hb q=>
  subst e;refine⟨_,rfl,z,rfl,hz,λH1 e1=>⟨_,rfl,?_⟩⟩;rw[hb.1];refine dW ⟨_,rfl,z,rfl,hz,λH2 e2=>⟨_,rfl,?_⟩⟩;rw[hb.2];refine dW ⟨_,rfl,z,rfl,?_,?_⟩
  ·have:("neither a number nor a word: ":Str).length<=100:=by decide+kernel
   omega
  ·exact⟨small (by show 1<=1000000;decide),λea _=>q ea _ (e1.trans e2)⟩
 |mk z t e hz ht q=>
  subst e;unfold jT at ht;refine⟨_,rfl,z,rfl,by omega,λH1 e1=>⟨_,rfl,?_⟩⟩;cases c:Qu z with
  |true=>
   rw[c,if_pos rfl]at ht;cases hn:PySem.intText? z with
   |none=>rw[hn]at ht;cases ht
   |some n=>
    rw[hn]at ht;cases ht;exact dM ⟨_,rfl,z,n,rfl,hn,by omega,q _ _ e1 (.int n)⟩
  |false=>
   rw[c,if_neg aip]at ht;refine dW ⟨_,rfl,z,rfl,by omega,λH2 e2=>⟨_,rfl,?_⟩⟩;cases c2:qe z with
   |false=>rw[c2,if_neg aip]at ht;cases ht
   |true=>
    rw[c2,if_pos rfl]at ht;cases ht;exact dM ⟨_,rfl,q _ _ (e1.trans e2) (.str z (by omega))⟩
set_option maxHeartbeats 1000000 in
theorem acW (F:eV K "begin_bracket" "begin_bracket" WR f fd)(OS:OwnCls "NoText" CN bm jZ mg aN)(FS:ExcBaseFacts B jZ qQ bm)(ml:mg "len"=none)(hm:∃t,mg "MOST_BRACKETS"=some (.int 20 t)):cj P w K mg aN (xM P w) 1 f fd ["levels"] (Ku CN):=by
 refine F.okX acU (λcX A aM s H vs Q E hr h=>?_) (by rintro _ _ _ _ ⟨⟩<;>subst_vars<;>rfl);obtain⟨t,hm⟩:=hm;refine⟨_,bx (cF (bL rP (bH (Wz K) rfl ml PySem.boot_len (aW (pv 0) aX)) (bZ (v:=.int 20) rfl hm ⟨_,rfl⟩)) (bh (qd OS FS rfl (aW bQ aX))) bK)
  (bh (fj (aac K (pv 0) (aW (dj aX) aX)))),?_⟩
 cases h with
 |mk a ls e ha hl q=>
  subst e;refine⟨_,rfl,a,_,rfl, .inl (dX.of ha),_,_,rfl,rfl,_,rfl,?_⟩;rw[decide_eq_false (by omega)];refine dW ⟨_,rfl, .inl ⟨rfl,_,dX.of ha⟩,small (by decide),λp hp=>?_⟩;have np:a≠p:=λe=>by rw[e,hp]at ha;cases ha
  exact⟨a,ls, .ref p,rfl,rfl,by rw[bI np];exact ha,fH (by omega),q p hp⟩
 |no a ls e ha hl q=>
  subst e;refine⟨_,rfl,a,_,rfl, .inl (dX.of ha),_,_,rfl,rfl,_,rfl,?_⟩;rw[decide_eq_true (by omega)];exact dM ⟨small (by show 1<=1000000;decide),λea _=>q ea _ (Same.refl _)⟩
set_option maxHeartbeats 1000000 in
theorem acX (F:eV K "end_bracket" "end_bracket" s_end f fd)(OS:OwnCls "NoText" CN bm jZ mg aN)(FS:ExcBaseFacts B jZ qQ bm)(ml:mg "len"=none)(mt:mg "tuple"=none):cj P w K mg aN (xM P w) 1 f fd ["levels"] (Kv CN):=by
 refine F.okX WT (λcX A aM s H vs Q E hr h=>?_) (by rintro _ _ _ _ ⟨⟩<;>subst_vars<;>rfl);refine⟨_,bx (cF (bL cN (bH (Wz K) rfl ml PySem.boot_len (aW (pv 0) aX)) aY) (bh (qd OS FS rfl (aW bQ aX))) bK)
  (bx (kO 1 WT.nd (af9 K (pv 0)))
  (bh (fj (aac K (bU (Zr K) (pv 0) (pN lK aY)) (aW (cC (ae2 K) rfl mt boot_tuple (aW (pv 1) aX)) aX))))),?_⟩
 cases h with
 |mk a b c ls us ws e ha hb hc n1 n2 hl hw q=>
  subst e;refine⟨_,rfl,a,_,rfl, .inl (dX.of ha),rfl,_,rfl,?_⟩;rw[decide_eq_false (by intro e;have:=V.int.inj e;simp at this;omega)];refine dW ⟨_,rfl, .inl ⟨rfl,_,dX.of ha⟩,a,_, .ref c,rfl,rfl,ha,by simp,?_⟩;rw[ajg];refine⟨_,rfl,1,rfl,a,_,-1, .ref b,rfl,rfl,dX.of bf,vM _ _, .inl ⟨rfl,_,dX.of (by rw[bI n1.symm];exact hb)⟩,?_⟩;refine⟨_,rfl,c,us,rfl, .inl ⟨dX.of (by rw[bI n2.symm];exact hc),λp hp=>?_⟩⟩;have pa:p≠a:=λe=>by rw[e,bf]at hp;cases hp
  have hp':H p=none:=by rw[bI pa]at hp;exact hp
  have pb:b≠p:=λe=>by rw[e,hp']at hb;cases hb
  exact⟨b,ws, .ref p,rfl,rfl,by rw[bI pb,bI n1.symm];exact hb,fH (by omega),q p hp'⟩
 |no a v e ha q=>
  subst e;refine⟨_,rfl,a,_,rfl, .inl (dX.of ha),rfl,_,rfl,?_⟩;rw[decide_eq_true (show V.int (([v]:List V).length:Nat)=V.int 1 from rfl)];exact dM ⟨small (by show 1<=1000000;decide),λea _=>q ea _ (Same.refl _)⟩
end
end Fw
namespace L2
open PySem PySem.Spec PyProof.Rows
def ae5 (tc:TT)(ta u:TS):TS:=λD U H=>tc U H λd H1=>if d=true then ta (D.to λ_ _=>False) U H1 else u D U H1
theorem WW {X:Cx}{c:Expr}{sts rest:List Stmt}{tc:TT}{ta u:TS}{pos:Pos}(hc:PT1 X c tc)(ha:yL X sts ta)(hr:DN X rest u):yL X (.If c sts [] pos::rest) (ae5 tc ta u):=by
 intro aZ s U H D I h;refine wpAny_execs_cons (wpAny_If (eU (hc aZ s U H _ I h) λd s1 ⟨⟨H1,I1,q1⟩,k⟩=>?_));cases d with
 |true=>
  refine eU (ha aZ s1 U H1 _ I1 q1) λf s2 q=>?_;cases f with
  |next=>obtain⟨_,_,_,z⟩:=q;exact z.elim
  |ret v=>exact q
  |brk=>exact q
  |cont=>exact q
 |false=>exact wpAny_execs_nil (hr aZ s1 U H1 D k I1 q1)
end L2
namespace Fw
open PySem PySem.Spec PyProof.Rows L2
abbrev WX:Stmt:=top 40
def lH (st:List (List T))(p:Str):Option (List (List T)) :=
 if decide (V.str p=.str "(")=true then(if st.length<=20 then some ([]::st) else none)
 else if decide (V.str p=.str ")")=true then(match st with
  |a::b::r=>some ((b++[.tup a])::r)
  |_=>none)
 else match jT p,st with
  |some t,a::r=>some ((a++[t])::r)
  |_,_=>none
def qR:List (List T)->List Str->Option (List (List T))
 |st,[]=>some st
 |st,p::r=>(lH st p).bind λst'=>qR st' r
inductive Tq (n:Nat)(H:Hp):List Addr->List (List T)->Prop where
 |nil:Tq n H [] []
 |cons {b:Addr} {as:List Addr} {st:List (List T)} {vs:List V} {ts:List T}:H b=some (.lst vs)->cB H vs ts->vs.length<=n->b∉as->Tq n H as st->Tq n H (b::as) (ts::st)
theorem Tq.keep {n n':Nat}{H H':Hp}(hn:n<=n')(ht:∀b xs,H b=some (.tup xs)->H' b=some (.tup xs)):∀{as:List Addr} {st:List (List T)},(∀b∈as,H' b=H b)->Tq n H as st->Tq n' H' as st:=by
 intro as st h L
 induction L with
 |nil=>exact .nil
 |cons h1 r hl nb L ih=>exact .cons ((h _ (by simp)).trans h1) (r.mono ht) (aiv hl hn) nb (ih λb hb=>h b (air _ hb))
theorem Tq.len {n:Nat}{H:Hp}{as:List Addr}{st:List (List T)}(L:Tq n H as st):as.length=st.length:=by
 induction L with
 |nil=>rfl
 |cons _ _ _ _ _ ih=>simp[ih]
theorem cB.snoc {H:Hp}{vs:List V}{ts:List T}{v:V}{t:T}(r:cB H vs ts)(q:Rep H v t):cB H (vs++[v]) (ts++[t]):=by
 induction vs generalizing ts with
 |nil=>cases r;exact .cons q .nil
 |cons a vs ih=>
  cases r with
  |cons r1 r2=>exact .cons r1 (ih r2)
def PcT (p:Str):Prop:=(decide (V.str p=.str "(")=true\/decide (V.str p=.str ")")=true)\/(∃t,jT p=some t/\p.length<=640)\/(acS p/\p.length<=100000)
inductive QF (CN:Addr)(vs:List V)(H:Hp)(Q:VK)(E:XK):Prop where
 |mk (z:Str):vs=[.str z]->z.length<=100000->(z.length<=6000->∀p∈fK z,PcT p)->(∀ts,z.length<=6000->qR [[]] (fK z)=some [ts]->∀v H',Same H H'->Rep H' v (.tup ts)->Q v H')->
   ((6000<z.length\/∀ts,qR [[]] (fK z)≠some [ts])->∀ea H',Same H H'->E (.ref CN) (some ea) H')->QF CN vs H Q E
theorem Kw (z:Str):(fK z).length<=9*z.length+1:=by
 have:=List.length_filter_le (λp=>!decide (V.str p=.str "")) (Txt.split (Qw z) " ");have:=BR z;unfold fK;omega
section
variable {P:Program}{w:World}{K:PySem.W.Frag}{mg:Str->Option Value}{aN:Heap}{f CN:Addr}{fd:FuncData}{bm:List Value}{jZ B qQ:String}
theorem Nz:bG ["text","levels","piece"] ["text"] (bA WX):=⟨rfl,rfl,rfl,by decide+kernel,rfl,by decide+kernel,by decide+kernel⟩
structure Lp (H:Hp)(a pl:Addr)(ps:List Str)(R:Option (List (List T)))(z:Str)(i:Nat)(U:L2.St)(H':Hp):Prop where
 ex:∃(as:List Addr) (st:List (List T)) (pc:Option V),U=[some (.str z),some (.ref a),pc]/\qR st (ps.drop i)=R/\H' a=some (.lst (as.reverse.map V.ref))/\Tq i H' as st/\a∉as/\(∀b∈as,b≠pl/\H b=none)/\st.length<=21/\st≠[]
 li:H' pl=some (.lst (ps.map V.str))
 sm:Same H H'
theorem WY {p:Str}(h:acS p):jT p=none:=by
 unfold jT;rw[h.1,h.2,if_neg aip,if_neg aip]
set_option maxHeartbeats 4000000 in
theorem acY (F:eV K "things_of" "things_of" WX f fd)(OS:OwnCls "NoText" CN bm jZ mg aN)(FS:ExcBaseFacts B jZ qQ bm)(ml:mg "len"=none)(mt:mg "tuple"=none)(hm:∃t,mg "MOST_SIGNS"=some (.int 6000 t))(h1:acQ P w K mg aN 1 "pieces_of" ["text"] QD)(h2:BX P w K mg aN 1 "begin_bracket" ["levels"] (Ku CN))
  (h3:BX P w K mg aN 1 "end_bracket" ["levels"] (Kv CN)) (h4:BX P w K mg aN 6 "thing_of" ["piece"] (Ks CN)):cj P w K mg aN (xM P w) 7 f fd ["text"] (QF CN):=by
 refine F.okX Nz (λcX A aM s H vs Q E hr h=>?_);obtain⟨z,rfl,hz,pk,qg,qb⟩:=h;obtain⟨t0,hm⟩:=hm;obtain⟨f2,g2,G2,b2,k2,m2⟩:=h2;obtain⟨f3,g3,G3,b3,k3,m3⟩:=h3;obtain⟨f4,g4,G4,b4,k4,m4⟩:=h4;refine⟨_,WW (aah rP (aag rfl ml (aW (pv 0) aX)) (bZ (v:=.int 6000) rfl hm ⟨_,rfl⟩)) (bh (qd OS FS rfl (aW bQ aX)))
  (xR (PS.t (kO 1 Nz.nd (dj (aW (dj aX) aX))))
  (xR (aaf PassesOwn.leaving rfl (WK (aai h1 hr (by decide) rfl (aW (pv 0) aX))) (eO (i:=2) Nz.nd rfl (Or.inl rfl))
   (bh (cF (bL cN (pv 2) bQ) (bh (fj (qG G2 (hr.mono (by decide)) rfl m2 k2 b2 .nil uh (aW (pv 1) aX))))
    (bh (cF (bL cN (pv 2) bQ) (bh (fj (qG G3 (hr.mono (by decide)) rfl m3 k3 b3 .nil uh (aW (pv 1) aX))))
     (bh (fj (aac K (bU (Zr K) (pv 1) (pN lK aY)) (aW (qG G4 hr rfl m4 k4 b4 .nil uh (aW (pv 2) aX)) aX)))))))))
  (yL.t (bx (cF (bL rP (bH (Wz K) rfl ml PySem.boot_len (aW (pv 1) aX)) aY) (bh (qd OS FS rfl (aW bQ aX))) bK)
   (bh (bD (cC (ae2 K) rfl mt boot_tuple (aW (bU (Zr K) (pv 1) aY) aX)))))))),?_⟩
 refine⟨_,rfl,z,rfl,small (by omega),_,_,rfl,rfl,_,rfl,?_⟩;by_cases hz6:6000<z.length
 ·rw[decide_eq_true (by omega)]
  exact dM ⟨small (by show 1<=1000000;decide),λea _=>qb (.inl hz6) ea _ (Same.refl _)⟩
 rw[decide_eq_false (by omega)];have hz':z.length<=6000:=by omega
 have pk:=pk hz';refine dW ?_;generalize hR:qR [[]] (fK z)=R at qg qb;refine⟨small (by decide),λb hb=>⟨small (by show 1<=1000000;decide),λa ha=>?_⟩⟩;have ab:a≠b:=λe=>by rw[e,bf]at ha;cases ha
 have ha':H a=none:=by rw[bI ab]at ha;exact ha
 have s1:Same H (upd (upd H b (.lst [])) a (.lst [.ref b])):=(bw hb _).trans (bw ha _);refine⟨_,rfl,z,rfl,hz',λpl H1 e1 rW hli=>⟨pl,rfl,⟨_,dX.of hli⟩,?_⟩⟩;have np:H pl=none:=by
  cases e:H pl with
  |none=>rfl
  |some o=>rw[s1 _ _ e]at rW;cases rW
 have apl:a≠pl:=λe=>by rw[<-e,bf]at rW;cases rW
 have bpl:b≠pl:=λe=>by rw[<-e,bI ab.symm,bf]at rW;cases rW
 have psl:=Kw z;refine Ag (xs:=(fK z).map V.str) (Lp H a pl (fK z) R z) ?_ ?_ ?_ ?_
 ·refine⟨⟨[b],[[]],none,rfl,hR,e1 _ _ (by rw[bf];rfl), .cons (e1 _ _ (by rw[bI ab.symm,bf])) .nil (aio _) (by simp) .nil,by simpa using ab,λc hc=>?_,(by show 1<=21;decide),(by simp)⟩,hli,s1.trans e1⟩
  obtain rfl:c=b:=by simpa using hc
  exact⟨bpl,hb⟩
 ·rintro i U H' hi ⟨_,li,_⟩
  exact dX.of li
 ·rintro i x U H' hx ⟨⟨as,st,pc,rfl,hps,hla,L,na,hfr,h21,hne⟩,li,sm⟩
  rw[ai6]at hx;cases e:(fK z)[i]? with
  |none=>rw[e]at hx;cases hx
  |some p=>
  rw[e]at hx;cases hx;have hil:i<(fK z).length:=(List.getElem?_eq_some_iff.mp e).1;have hpk:=pk p (aiS e);have none_:lH st p=none->∀ts,R≠some [ts]:=λh ts q=>by
   rw[aj7 hil,(List.getElem?_eq_some_iff.mp e).2]at hps;unfold qR at hps;rw[h]at hps;rw[<-hps]at q;cases q
  have hd:(fK z).drop i=p::(fK z).drop (i+1):=by
   rw[aj7 hil];congr 1;exact(List.getElem?_eq_some_iff.mp e).2
  have some_:∀st',lH st p=some st'->qR st' ((fK z).drop (i+1))=R:=λst' h=>by
   rw[hd]at hps;unfold qR at hps;rw[h]at hps;exact hps
  have noE:lH st p=none->∀ea Tv,Same H' Tv->E (.ref CN) (some ea) Tv:=λh ea Tv e2=>qb (.inr (none_ h)) ea _ (sm.trans e2);have ae6:a≠pl:=apl;have aH:∀o,H' a=some o->H a=none:=λ_ _=>ha';refine⟨_,rfl,rfl,_,rfl,?_⟩;cases c1:decide (V.str p=.str "(") with
  |true=>
   by_cases hsl:st.length<=20
   ·have W0:=some_ ([]::st) (by unfold lH;rw[c1,if_pos rfl,if_pos hsl])
    refine dM ⟨_,rfl, .mk a _ rfl hla (by rw[aix,ajv,L.len];exact hsl) λn hn=>?_⟩;have n1:n≠a:=λe=>by rw[e,hla]at hn;cases hn
    have n2:n≠pl:=λe=>by rw[e,li]at hn;cases hn
    have n3:n∉as:=λhm=>by
     have:∀{as st},Tq i H' as st->n∈as->False:=by
      intro as st L
      induction L with
      |nil=>intro h;cases h
      |cons h1 _ _ _ _ ih=>
       intro h;rcases aiB.mp h with rfl|h
       ·rw[h1]at hn;cases hn
       ·exact ih h
     exact this L hm
    have hnH:H n=none:=by
     cases e:H n with
     |none=>rfl
     |some o=>rw[sm _ _ e]at hn;cases hn
    have keep:∀c o,c≠n->c≠a->H' c=o->upd (upd H' n (.lst [])) a (.lst (as.reverse.map V.ref++[.ref n])) c=o:=λc o h1 h2 h=>by rw[bI h2,bI h1];exact h
    refine⟨⟨n::as,[]::st,_,rfl,W0,?_, .cons (by rw[bI n1,bf]) .nil (aiP _) n3 (L.keep (Nat.le_succ i) (λc xs h=>keep c _ (λe=>by rw[e,hn]at h;cases h) (λe=>by rw[e,hla]at h;cases h) h) λc hc=>keep c _ (λe=>n3 (e ▸ hc)) (λe=>na (e ▸ hc)) rfl),?_,λc hc=>?_,(by show st.length+1<=21;omega),(by simp)⟩,keep pl _ n2.symm ae6.symm li,λc o h=>?_⟩
    ·rw[bf,List.reverse_cons,aiV];rfl
    ·intro hm
     rcases aiB.mp hm with h|h
     ·exact n1 h.symm
     ·exact na h
    ·rcases aiB.mp hc with rfl|h
     ·exact⟨n2,hnH⟩
     ·exact hfr c h
    ·exact keep c _ (λe=>by rw[e,hnH]at h;cases h) (λe=>by rw[e,ha']at h;cases h) (sm _ _ h)
   ·exact dM ⟨_,rfl, .no a _ rfl hla (by rw[aix,ajv,L.len];omega) (noE (by unfold lH;rw[c1,if_pos rfl,if_neg hsl]))⟩
  |false=>
   refine dW ⟨_,rfl,rfl,_,rfl,?_⟩;cases c2:decide (V.str p=.str ")") with
   |true=>
    cases L with
    |nil=>exact absurd rfl hne
    |@cons c as st us t1 hc ru lu nc L=>
    cases L with
    |nil=>exact dM ⟨_,rfl, .no a (.ref c) rfl hla (noE (by unfold lH;rw[c1,c2];rfl))⟩
    |@cons b as st ws t2 hb' RL lw nb L=>
    have W0:=some_ ((t2++[.tup t1])::st) (by unfold lH;rw[c1,c2];rfl);have e1:((c::b::as).reverse.map V.ref)=as.reverse.map V.ref++[.ref b]++[.ref c]:=by simp
    rw[e1]at hla;have ac:a≠c:=λe=>na (by rw[e];simp);have Zq:a≠b:=λe=>na (by rw[e];simp);have hll:=L.len;simp only[aiF]at h21;refine dM ⟨_,rfl, .mk a b c _ us ws rfl hla hb' hc Zq ac (by rw[aix,ajv];omega) (by omega) λn hn=>?_⟩;have n1:n≠a:=λe=>by rw[e,hla]at hn;cases hn
    have n2:n≠pl:=λe=>by rw[e,li]at hn;cases hn
    have n3:n≠b:=λe=>by rw[e,hb']at hn;cases hn
    have hnH:H n=none:=by
     cases e:H n with
     |none=>rfl
     |some o=>rw[sm _ _ e]at hn;cases hn
    have keep:∀d o,d≠n->d≠a->d≠b->H' d=o->upd (upd (upd H' a (.lst (as.reverse.map V.ref++[.ref b]))) n (.tup us)) b (.lst (ws++[.ref n])) d=o:=λd o h1 h2 h3 h=>by rw[bI h3,bI h1,bI h2];exact h
    have kt:∀d xs,H' d=some (.tup xs)->upd (upd (upd H' a (.lst (as.reverse.map V.ref++[.ref b]))) n (.tup us)) b (.lst (ws++[.ref n])) d=some (.tup xs):=λd xs h=>keep d _ (λe=>by rw[e,hn]at h;cases h) (λe=>by rw[e,hla]at h;cases h) (λe=>by rw[e,hb']at h;cases h) h;have hfb:=hfr b (by simp);refine⟨⟨b::as,(t2++[.tup t1])::st,_,rfl,W0,?_, .cons bf ((RL.mono kt).snoc (.tup (by rw[bI n3,bf]) (ru.mono kt))) (by simp;omega) nb (L.keep (Nat.le_succ i) kt λd hd=>?_),λh=>na (air _ h),λd hd=>hfr d (air _ hd),by simp;omega,(by simp)⟩,keep pl _ n2.symm ae6.symm hfb.1.symm li,λd o h=>?_⟩
    ·rw[bI Zq,bI n1.symm,bf,List.reverse_cons,aiV];rfl
    ·exact keep d _ (λe=>by
      have:∀{as st},Tq i H' as st->n∈as->False:=by
       intro as st L
       induction L with
       |nil=>intro h;cases h
       |cons h1 _ _ _ _ ih=>
        intro h;rcases aiB.mp h with rfl|h
        ·rw[h1]at hn;cases hn
        ·exact ih h
      exact this L (e ▸ hd)) (λe=>na (by rw[<-e];simp[hd])) (λe=>nb (e ▸ hd)) rfl
    ·exact keep d _ (λe=>by rw[e,hnH]at h;cases h) (λe=>by rw[e,ha']at h;cases h) (λe=>by rw[e,hfb.2]at h;cases h) (sm _ _ h)
   |false=>
    cases L with
    |nil=>exact absurd rfl hne
    |@cons c as st us t1 hc ru lu nc L=>
    have e1:((c::as).reverse.map V.ref)=as.reverse.map V.ref++[.ref c]:=by simp
    have ae7:=hla;rw[e1]at ae7;have ac:a≠c:=λe=>na (by rw[e];simp);refine dW ⟨_,rfl,1,rfl,a,_,-1, .ref c,rfl,rfl,dX.of ae7,vM _ _, .inl ⟨rfl,_,dX.of hc⟩,?_⟩;rcases hpk with h|⟨t,ht,hlp⟩|⟨hb,hlp⟩
    ·rw[c1,c2]at h;simp at h
    rotate_left
    ·exact⟨_,rfl, .no p rfl hlp hb (noE (by unfold lH;rw[c1,c2,WY hb];rfl))⟩
    have W0:=some_ ((t1++[t])::st) (by unfold lH;rw[c1,c2,ht];rfl);refine⟨_,rfl, .mk p t rfl hlp ht λv H2 e2 rv=>?_⟩;refine⟨c,us,v,rfl,rfl,e2 _ _ hc,fH (by omega),?_⟩;have hfc:=hfr c (by simp);have kt:∀d xs,H' d=some (.tup xs)->upd H2 c (.lst (us++[v])) d=some (.tup xs):=λd xs h=>by
     rw[bI (λe=>by rw[e,hc]at h;cases h)];exact e2 _ _ h
    have rv':Rep (upd H2 c (.lst (us++[v]))) v t:=rv.mono λd xs h=>by
     rw[bI (λe=>by rw[e,e2 _ _ hc]at h;cases h)];exact h
    refine⟨⟨c::as,(t1++[t])::st,_,rfl,W0,by rw[bI ac];exact e2 _ _ hla, .cons bf ((ru.mono kt).snoc rv') (by simp;omega) nc ?_,na,hfr,h21,(by simp)⟩,by rw[bI hfc.1.symm];exact e2 _ _ li,λd o h=>?_⟩
    ·have:∀{as st},c∉as->Tq i H' as st->Tq (i+1) (upd H2 c (.lst (us++[v]))) as st:=by
      intro as st hn L
      induction L with
      |nil=>exact .nil
      |cons h1 r hl nb L ih=>
       refine .cons ?_ (r.mono kt) (aj5 hl) nb (ih λh=>hn (air _ h));rw[bI (λe=>hn (by rw[<-e];simp))];exact e2 _ _ h1
     exact this nc L
    ·rw[bI (λe=>by rw[e,hfc.2]at h;cases h)]
     exact e2 _ _ (sm _ _ h)
 ·rintro U H' ⟨⟨as,st,pc,rfl,hps,hla,L,na,hfr,h21,hne⟩,li,sm⟩
  rw[aix,List.drop_length]at hps;have Eo:R=some st:=hps.symm;cases L with
  |nil=>exact absurd rfl hne
  |@cons c as st us t1 hc ru lu nc L=>
  cases L with
  |nil=>
   refine⟨_,rfl,a,_,rfl, .inl (dX.of hla),_,_,rfl,rfl,_,rfl,?_⟩;refine dW ⟨_,rfl,a,_,0, .ref c,rfl,rfl,dX.of hla,rfl,c,us,rfl, .inl ⟨dX.of hc,λl hl=>?_⟩⟩;exact qg t1 hz' Eo _ _ (sm.trans (bw hl _)) (.tup bf (ru.same (bw hl _)))
  |@cons c2 as st Jz t2 hc2 ru2 lu2 nc2 L=>
   refine⟨_,rfl,a,_,rfl, .inl (dX.of hla),_,_,rfl,rfl,_,rfl,?_⟩;rw[decide_eq_true (by simp;omega)];exact dM ⟨small (by show 1<=1000000;decide),λea _=>qb (.inr λts q=>by rw[Eo]at q;cases q) ea _ sm⟩
end
def pcT:T->Str
 |.int i=>Str.ofString (toString i)
 |.str z=>z
 |.tup _=>""
def Clean (l:List Nat):Prop:=∀c∈l,c≠32/\c≠10/\c≠40/\c≠41
structure fV (t:T):Prop where
 nt:∀l,t≠.tup l
 th:jT (pcT t)=some t
 cl:Clean (pcT t).cps.toList
 lo:1<=(pcT t).length
 hi:(pcT t).length<=31
 lg:∀i,t=.int i->i.natAbs.log2<1920
mutual
def iC:T->List Str
 |.int i=>[pcT (.int i)]
 |.str z=>[z]
 |.tup l=>("(":Str)::(cW l++[(")":Str)])
def cW:List T->List Str
 |[]=>[]
 |t::r=>iC t++cW r
end
inductive Tr:Nat->T->Prop where
 |at {n:Nat} {t:T}:fV t->Tr n t
 |tp {n:Nat} {l:List T}:(∀t∈l,Tr n t)->Tr (n+1) (.tup l)
theorem Tr.mono {n:Nat}{t:T}(h:Tr n t):∀{m:Nat},n<=m->Tr m t:=by
 induction h with
 |«at» a=>intro m _;exact .at a
 |tp _ ih=>
  intro m hm;obtain⟨k,rfl⟩:∃k,m=k+1:=⟨m-1,by omega⟩;exact .tp λt ht=>ih t ht (by omega)
theorem tE {t:T}(h:fV t):iC t=[pcT t]:=by
 cases t with
 |int i=>simp[iC]
 |str z=>simp[iC,pcT]
 |tup l=>exact absurd rfl (h.nt l)
theorem W2:("(":Str).cps.toList=[40]:=by decide+kernel
theorem W3:(")":Str).cps.toList=[41]:=by decide+kernel
theorem Ky {p:Str}(h:Clean p.cps.toList):decide (V.str p=.str "(")=false/\decide (V.str p=.str ")")=false:=by
 refine⟨decide_eq_false λe=>?_,decide_eq_false λe=>?_⟩
 ·have:=V.str.inj e
  rw[this,W2]at h;exact(h 40 (by simp)).2.2.1 rfl
 ·have:=V.str.inj e
  rw[this,W3]at h;exact(h 41 (by simp)).2.2.2 rfl
theorem aaj {n:Nat}{t:T}(h:Tr n t):∀(a:List T) (r:List (List T)) (rest:List Str),r.length+n<=20->qR (a::r) (iC t++rest)=qR ((a++[t])::r) rest:=by
 induction h with
 |«at» A=>
  intro a r rest _;rw[tE A];show(lH (a::r) _).bind _=_;obtain⟨c1,c2⟩:=Ky A.cl;unfold lH;rw[c1,c2,if_neg aip,if_neg aip,A.th]
  rfl
 |@tp n l _ ih=>
  intro a r rest hn;have all:∀(l':List T),(∀t∈l',t∈l)->∀(b:List T) (rest:List Str),qR (b::a::r) (cW l'++rest)=qR ((b++l')::a::r) rest:=by
   intro l'
   induction l' with
   |nil=>intro _ b rest;simp[cW]
   |cons t l' ih2=>
    intro hl b rest;rw[cW,aiD,ih t (hl t (by simp)) b (a::r) _ (by simp;omega),ih2 (λt ht=>hl t (air _ ht)) (b++[t]) rest,aiD]
    rfl
  rw[iC];show(lH (a::r) "(").bind (λst'=>qR st' ((cW l++[(")":Str)])++rest))=_;have e1:lH (a::r) "("=some ([]::a::r):=by
   unfold lH;rw[decide_eq_true rfl,if_pos rfl,if_pos (by simp;omega)]
  rw[e1];show qR ([]::a::r) ((cW l++[(")":Str)])++rest)=_;rw[aiD,all l (λt ht=>ht) [] _];show(lH (([]++l)::a::r) ")").bind (λst'=>qR st' rest)=_;have e2:lH (([]++l)::a::r) ")"=some ((a++[.tup l])::r):=by
   unfold lH;rw[decide_eq_false (show ¬V.str ")"=V.str "(" by decide+kernel),if_neg aip,decide_eq_true rfl,if_pos rfl]
   rfl
  rw[e2]
  rfl
theorem W4 {l:List T}(h:∀t∈l,Tr 20 t):qR [[]] (cW l)=some [l]:=by
 have all:∀(l':List T),(∀t∈l',Tr 20 t)->∀(b:List T),qR [b] (cW l')=some [b++l']:=by
  intro l'
  induction l' with
  |nil=>intro _ b;simp[cW,qR]
  |cons t l' ih=>
   intro hl b;rw[cW,aaj (hl t (by simp)) b [] _ (by simp),ih (λt ht=>hl t (air _ ht)) (b++[t]),aiD]
   rfl
 exact all l h []
def wt (p:Str):Nat:=p.length+3
def iT (ps:List Str):Nat:=(ps.map wt).sum
theorem jl (a b:List Str):iT (a++b)=iT a+iT b:=by unfold iT;rw[aiV,List.sum_append]
theorem mK (p:Str)(b:List Str):iT (p::b)=wt p+iT b:=rfl
theorem vZ:iT []=0:=rfl
theorem ae8:wt "("=4:=by decide+kernel
theorem ae9:wt ")"=4:=by decide+kernel
theorem vf {t:T}(h:fV t):iT (iC t)<=34:=by
 rw[tE h,mK,vZ];have:=h.hi;unfold wt;omega
theorem gq (l:List T):iT (iC (.tup l))=8+iT (cW l):=by
 rw[iC,mK,jl,mK,vZ,ae8,ae9];omega
theorem wg (a b:List T):cW (a++b)=cW a++cW b:=by
 induction a with
 |nil=>rfl
 |cons t a ih=>rw[ai0,cW,cW,ih,aiD]
theorem gJ (t:T):cW [t]=iC t:=by rw[cW,cW,ai2]
def jy (l:List Nat):List (List Nat):=(jr 32 l).filter (λp=>!p.isEmpty)
theorem FQ (c a:Nat)(l:List Nat):jr c (a::l)=if a=c then[]::jr c l else match jr c l with
  |p::ps=>(a::p)::ps
  |[]=>[[a]]:=by
 rw[jr]<;>(split<;>first|rfl|(cases jr c l<;>rfl))
theorem FT (c:Nat)(r:List Nat):∀l,jr c (l++c::r)=jr c l++jr c r
 |[]=>by simp[jr]
 |a::l=>by
  have ih:=FT c r l;rw[ai0,FQ,FQ];by_cases h:a=c
  ·rw[if_pos h,if_pos h,ih];rfl
  ·rw[if_neg h,if_neg h,ih]
   cases e:jr c l with
   |nil=>exact absurd e (Hs c l)
   |cons p ps=>rfl
theorem qj (l r:List Nat):jy (l++32::r)=jy l++jy r:=by
 unfold jy;rw[FT,List.filter_append]
theorem Tw:jy []=[]:=rfl
theorem xT {p:List Nat}(h:32∉p)(hn:p≠[]):jy p=[p]:=by
 unfold jy;rw[pU h];cases p with
 |nil=>exact absurd rfl hn
 |cons a r=>rfl
theorem yS (r:List Nat):jy (32::r)=jy r:=qj [] r
def fC (c:Nat):List Nat:=if c=10 then[32] else if c=40 then[32,40,32] else if c=41 then[32,41,32] else[c]
theorem Tz (l:List Nat):vY l=l.flatMap fC:=by
 unfold vY tu;rw[List.flatMap_assoc,List.flatMap_assoc];congr 1;funext c;unfold fC;by_cases h1:c=10
 ·subst h1;rfl
 ·by_cases h2:c=40
  ·subst h2;rfl
  ·by_cases h3:c=41
   ·subst h3;rfl
   ·simp[h1,h2,h3]
theorem NK {p:List Nat}(h:Clean p):p.flatMap fC=p:=by
 induction p with
 |nil=>rfl
 |cons a r ih=>
  rw[ajl,ih λc hc=>h c (air _ hc)];have ha:=h a (by simp);unfold fC;rw[if_neg ha.2.1,if_neg ha.2.2.1,if_neg ha.2.2.2]
  rfl
def Kz (l:List Nat)(ps:List (List Nat)):Prop:=∀r,jy (l.flatMap fC++32::r)=ps++jy r
def Cls (l:List Nat)(ps:List (List Nat)):Prop:=∀r,jy (l.flatMap fC++r)=ps++jy r
theorem Cls.opn {l:List Nat}{ps:List (List Nat)}(h:Cls l ps):Kz l ps:=λr=>by rw[h,yS]
theorem cls_nil:Cls [] []:=λr=>rfl
def TF (g:List Nat):Prop:=∀c∈g,c=32\/c=10
theorem KC {g:List Nat}(h:TF g):g.flatMap fC=List.replicate g.length 32:=by
 induction g with
 |nil=>rfl
 |cons a r ih=>
  rw[ajl,ih λc hc=>h c (air _ hc)];rcases h a (by simp) with rfl|rfl<;>rfl
theorem FW (n:Nat)(r:List Nat):jy (List.replicate n 32++r)=jy r:=by
 induction n with
 |zero=>rfl
 |succ n ih=>rw[aiQ,ai0,yS,ih]
theorem Cls.gap {l g:List Nat}{ps:List (List Nat)}(h:Cls l ps)(hg:TF g):Cls (l++g) ps:=λr=>by
 rw[aji,aiD,h,KC hg,FW]
theorem Kz.ae' {l g:List Nat}{ps:List (List Nat)}(h:Kz l ps)(hg:TF g)(h1:1<=g.length):Cls (l++g) ps:=λr=>by
 rw[aji,aiD,KC hg];obtain⟨k,hk⟩:∃k,g.length=k+1:=⟨g.length-1,by omega⟩;rw[hk,aiQ,ai0,h,FW]
theorem Kz.gap {l g:List Nat}{ps:List (List Nat)}(h:Kz l ps)(hg:TF g):Kz (l++g) ps:=by
 cases g with
 |nil=>rw[ai2];exact h
 |cons a r=>exact(h.ae' hg (by simp)).opn
theorem Kz.lb {l:List Nat}{ps:List (List Nat)}(h:Kz l ps):Cls (l++[40]) (ps++[[40]]):=λr=>by
 rw[aji,aiD];show jy (l.flatMap fC++32::([40]++32::r))=_;rw[h,qj,xT (by decide) (by decide),aiD]
theorem Kz.rb {l:List Nat}{ps:List (List Nat)}(h:Kz l ps):Cls (l++[41]) (ps++[[41]]):=λr=>by
 rw[aji,aiD];show jy (l.flatMap fC++32::([41]++32::r))=_;rw[h,qj,xT (by decide) (by decide),aiD]
theorem Cls.word {l p:List Nat}{ps:List (List Nat)}(h:Cls l ps)(hp:Clean p)(hn:p≠[]):Kz (l++p) (ps++[p]):=λr=>by
 rw[aji,aiD,NK hp,h,qj,xT (λhm=>(hp 32 hm).1 rfl) hn,aiD]
theorem Kz.end {l:List Nat}{ps:List (List Nat)}(h:Kz l ps):Ia l=ps:=by
 have h1:=h [];rw[qj,Tw,ai2,ai2]at h1;unfold Ia;rw[Tz];exact h1
theorem uN {z:Str}{ps:List Str}(h:Kz z.cps.toList (ps.map (·.cps.toList))):fK z=ps:=by
 have h1:=h.end;have inj:∀{a b:List Str},a.map (·.cps.toList)=b.map (·.cps.toList)->a=b:=by
  intro a
  induction a with
  |nil=>intro b e;cases b with|nil=>rfl|cons x b=>cases e
  |cons x a ih=>
   intro b e;cases b with
   |nil=>cases e
   |cons y b=>
    simp only[aiR,List.cons.injEq]at e;rw[m9 e.1,ih e.2]
 refine inj ?_;rw[<-h1];unfold fK Ia;rw[<-Qx,<-pW,show(" ":Str)=⟨#[32]⟩ by decide+kernel,List.filter_map];congr 1;refine List.filter_congr λp _=>?_;show(!decide (V.str p=.str ""))= !(p.cps.toList.isEmpty);congr 1;cases e:p.cps.toList.isEmpty with
 |true=>
  have:p="":=m9 (by rw[List.isEmpty_iff.mp e];decide+kernel);exact decide_eq_true (by rw[this])
 |false=>
  refine decide_eq_false λz=>?_;have:=V.str.inj z;rw[this]at e;exact absurd e (by decide+kernel)
theorem afa {z:Str}{c:Nat}{r:List Nat}(e:z.cps.toList=c::r)(h1:c≠45)(h2:zQ xP c=false):Qu z=false:=by
 have f:lO z=z:=by unfold lO;rw[e];simp[h1]
 unfold Qu;rw[f];have:pB z xP=false:=by
  unfold pB;rw[e,ajf,h2]
  rfl
 rw[this];simp
theorem aak {c:Nat}(h:57<c):zQ xP c=false:=by
 refine decide_eq_false λhm=>?_;have:∀d∈xP.cps.toList,d<=57:=by decide+kernel
 exact absurd (this c hm) (by omega)
theorem zW {z:Str}{c:Nat}{r:List Nat}(e:z.cps.toList=c::r)(h1:57<c)(hw:qe z=true)(hl:z.length<=31)(hc:∀d∈z.cps.toList,46<=d):fV (.str z) where
 nt:=λl h=>by cases h
 th:=by
  show jT z=_;unfold jT;rw[afa e (by omega) (aak h1),hw,if_neg aip,if_pos rfl]
 cl:=λd hd=>by
  have:=hc d hd;exact⟨by omega,by omega,by omega,by omega⟩
 lo:=by
  show 1<=z.length;rw[<-bT,e];simp
 hi:=hl
 lg:=λi h=>nomatch h
theorem KD {z:Str}(h:eG z=true):fV (.str z):=by
 have h':=h;unfold eG nY at h';simp only[ain,decide_eq_true_eq]at h';obtain⟨⟨h1,h2⟩,h3⟩:=h';have hc:∀d∈z.cps.toList,97<=d/\d<=122:=λd hd=>mH (ajq.mp h3 d hd);cases e:z.cps.toList with
 |nil=>rw[<-bT,e]at h1;simp at h1
 |cons c r=>
  have:=hc c (by rw[e];simp);exact zW e (by omega) (by unfold qe;rw[h];rfl) (by omega) λd hd=>by have:=hc d hd;omega
theorem iD {z:Str}(h:nameB z=true):fV (.str z):=by
 unfold nameB at h;simp only[ain]at h;exact KD h.1
theorem qT {z:Str}(h:z∈ju):fV (.str z):=KD ((show ∀k∈ju,eG k=true by decide+kernel) z h)
theorem gM {z:Str}(h:bJ z=true):fV (.str z):=by
 obtain⟨c,r,e,h1,h2,h3,h4⟩:=jY h;refine zW e (by omega) (by unfold qe;rw[h];simp) (by rw[<-bT,e];simp;omega) λd hd=>?_;rw[e]at hd;rcases aiB.mp hd with rfl|hd
 ·omega
 ·have:=h3 d hd;omega
theorem wj {z:Str}(h:dN z=true):fV (.str z):=by
 have h':=h;unfold dN at h';have hj:=pW z 46;split at h'
 ·rename_i a b hs
  simp only[ain]at h';obtain⟨c,r,e,h1,h2,h3,h4⟩:=jY h'.1;obtain⟨n,hl,n1,n8,_⟩:=pX h'.2;have e':a=c::r:=e;have hz:z.cps.toList=tD [46] [a,b]:=by
   have:=u9 46 [46] z.cps.toList;rw[hs]at this;rw[this];unfold tu;have:∀l:List Nat,(l.flatMap λa=>if a=46 then[46] else[a])=l:=by
    intro l
    induction l with
    |nil=>rfl
    |cons x l ih=>
     rw[ajl,ih];split
     ·rename_i hx;rw[hx];rfl
     ·rfl
   exact(this _).symm
  have hz':z.cps.toList=c::(r++46::b):=by rw[hz,e'];show c::r++[46]++b=_;simp
  have bl:b.length<=8:=by
   have:=hl.len;rw[<-bT]at this;have e3:(⟨b.toArray⟩:Str).cps.toList=b:=rfl;rw[e3]at this;omega
  refine zW hz' (by omega) (by unfold qe;rw[h];simp) (by rw[<-bT,hz'];simp;omega) λd hd=>?_;rw[hz']at hd;rcases aiB.mp hd with rfl|hd
  ·omega
  ·rcases List.mem_append.mp hd with hd|hd
   ·have:=h3 d hd;omega
   ·rcases aiB.mp hd with rfl|hd
    ·omega
    ·have:=hl.mem (show d∈(⟨b.toArray⟩:Str).cps.toList from hd);omega
 ·cases h'
theorem xU {z:Str}(h:iz z=true):fV (.str z):=by
 have h':=h;unfold iz eG nY at h';simp only[ain,decide_eq_true_eq]at h';obtain⟨h1,⟨h2,h3⟩,h4⟩:=h';cases e:z.cps.toList with
 |nil=>rw[e]at h1;cases h1
 |cons c r=>
  rw[e]at h1;cases h1;have er:(jk z).cps.toList=r:=by unfold jk;rw[e];rfl
  have hr:∀d∈r,97<=d/\d<=122:=λd hd=>mH (ajq.mp h4 d (by rw[er];exact hd));refine zW e (by decide) (by unfold qe;rw[h];simp) ?_ λd hd=>?_
  ·rw[<-bT,e]
   rw[<-bT,er]at h3;simp;omega
  ·rw[e]at hd
   rcases aiB.mp hd with rfl|hd
   ·decide
   ·have:=hr d hd;omega
theorem KH:fV (.str "->") where
 nt:=λl h=>by cases h
 th:=by
  show jT "->"=_;unfold jT;rw[show Qu "->"=false by decide+kernel,show qe "->"=true by decide+kernel]
  rfl
 cl:=by
  show Clean ("->":Str).cps.toList;rw[show("->":Str).cps.toList=[45,62] by decide+kernel];intro c hc;simp at hc;rcases hc with rfl|rfl<;>decide
 lo:=by decide+kernel
 hi:=by decide+kernel
 lg:=λi h=>nomatch h
theorem acZ {c:Nat}(h1:48<=c)(h2:c<=57):zQ xP c=true:=by
 have:∀d:Nat,d<58->48<=d->zQ xP d=true:=by decide+kernel
 exact this c (by omega) h1
theorem agb (m:Nat):(∀c∈(Nat.toDigits 10 m).map Char.toNat,48<=c/\c<=57):=by
 intro c hc;obtain⟨ch,hch,e⟩:=List.mem_map.mp hc;rw[<-e];exact digit_range (Nat.isDigit_of_mem_toDigits (by decide) (by decide) hch)
theorem NP {m:Nat}(h:1<=m):∃c r,(Nat.toDigits 10 m).map Char.toNat=c::r/\c≠48:=by
 induction m using Nat.strongRecOn with
 |_ m ih=>
  by_cases hm:m<10
  ·rw[Nat.toDigits_of_lt_base hm]
   refine⟨(Nat.digitChar m).toNat,[],rfl,?_⟩;have:∀d:Nat,d<10->1<=d->(Nat.digitChar d).toNat≠48:=by decide
   exact this m hm h
  ·have hm':m%10<10:=Nat.mod_lt m (by decide)
   have t:Nat.toDigits 10 (m / 10)++Nat.toDigits 10 (m%10)=Nat.toDigits 10 (10*(m / 10)+m%10):=Nat.toDigits_append_toDigits (by decide) (by omega) hm';rw[Nat.div_add_mod]at t;obtain⟨c,r,e,hc⟩:=ih (m / 10) (by omega) (by omega);exact⟨c,r++(Nat.toDigits 10 (m%10)).map Char.toNat,by rw[<-t,aiV,e];rfl,hc⟩
theorem W5 {m:Nat}(h:m<10^30):((Nat.toDigits 10 m).map Char.toNat).length<=30:=by
 have:=(Nat.length_repr_le_iff (n:=m) (k:=30) (by decide)).mpr h;rw[aix];have e:(Nat.repr m).length=(Nat.toDigits 10 m).length:=by rw[<-String.length_toList,Nat.toList_repr]
 omega
theorem aal (m:Nat):(Nat.toDigits 10 m).map Char.toNat≠[]:=by
 intro e;have h:=toDigits_len_ge 10 m;rw[List.map_eq_nil_iff.mp e]at h;exact absurd h (by decide)
theorem W6 {z:Str}{i:Int}{m:Nat}(hm:m<10^30)(h:(z.cps.toList=(Nat.toDigits 10 m).map Char.toNat/\i=m)\/(z.cps.toList=45::(Nat.toDigits 10 m).map Char.toNat/\i= -(m:Int)/\1<=m)):
  jT z=some (.int i)/\Clean z.cps.toList/\1<=z.length/\z.length<=31:=by
 have hd:=agb m;have hl:=W5 hm;have hne:=aal m;have al:∀{y:Str},y.cps.toList=(Nat.toDigits 10 m).map Char.toNat->pB y xP=true:=λ{y} e=>by
  unfold pB;rw[e];exact ajq.mpr λc hc=>acZ (hd c hc).1 (hd c hc).2
 have aib:1<=((Nat.toDigits 10 m).map Char.toNat).length:=List.length_pos_iff.mpr hne;have fst:∀{y:Str},y.cps.toList=(Nat.toDigits 10 m).map Char.toNat->1<=m->decide (V.str ⟨#[y.cps.toList.getD 0 0]⟩=.str "0")=false:=λ{y} e h1=>by
  obtain⟨c,r,e2,hc⟩:=NP h1;rw[e,e2];refine decide_eq_false λq=>?_;have q2:(⟨#[c]⟩:Str)="0":=V.str.inj q;rw[show("0":Str)=⟨#[48]⟩ by decide+kernel]at q2;injection q2 with q3;simp at q3;exact hc q3
 rcases h with ⟨e,rfl⟩|⟨e,rfl,h1⟩
 ·have zl:z.length=((Nat.toDigits 10 m).map Char.toNat).length:=by rw[<-bT,e]
  have f:lO z=z:=by
   unfold lO;refine if_neg λq=>?_;rw[e]at q;cases e2:(Nat.toDigits 10 m).map Char.toNat with
   |nil=>exact hne e2
   |cons c r=>
    rw[e2]at q hd;cases q;exact absurd (hd 45 (by simp)).1 (by decide)
  have nt:Qu z=true:=by
   unfold Qu;rw[f,al e,decide_eq_true (show 1<=z.length by omega),decide_eq_true (show z.length<=30 by omega)];by_cases h0:m=0
   ·have:z="0":=m9 (by rw[e,h0];decide+kernel)
    rw[decide_eq_true (show V.str z=.str "0" by rw[this])]
    rfl
   ·rw[fst e (by omega)]
    simp
  refine⟨?_,λc hc=>?_,by omega,by omega⟩
  ·unfold jT
   rw[nt,if_pos rfl,intText_digits (by rw[e];exact hd) (by rw[e];exact hne) (by omega),e,PySem.W.KIN.val_back]
   rfl
  ·rw[e]at hc
   have:=hd c hc;exact⟨by omega,by omega,by omega,by omega⟩
 ·have zl:z.length=((Nat.toDigits 10 m).map Char.toNat).length+1:=by rw[<-bT,e];rfl
  have f:lO z=jk z:=by
   unfold lO;exact if_pos (by rw[e];rfl)
  have er:(jk z).cps.toList=(Nat.toDigits 10 m).map Char.toNat:=by unfold jk;rw[e];rfl
  have rl:(jk z).length=((Nat.toDigits 10 m).map Char.toNat).length:=by rw[<-bT,er]
  have nt:Qu z=true:=by
   unfold Qu;rw[f,al er,decide_eq_true (show 1<=(jk z).length by omega),decide_eq_true (show(jk z).length<=30 by omega),fst er h1];simp
  refine⟨?_,λc hc=>?_,by omega,by omega⟩
  ·unfold jT
   rw[nt,if_pos rfl,intText_neg e hd hne (by omega),PySem.W.KIN.val_back]
   rfl
  ·rw[e]at hc
   rcases aiB.mp hc with rfl|hc
   ·decide
   ·have:=hd c hc
    exact⟨by omega,by omega,by omega,by omega⟩
theorem xV {i:Int}(h1: -(10^30)<i)(h2:i<10^30):fV (.int i):=by
 have key:jT (Str.ofString (toString i))=some (.int i)/\Clean (Str.ofString (toString i)).cps.toList/\1<=(Str.ofString (toString i)).length/\(Str.ofString (toString i)).length<=31:=by
  cases i with
  |ofNat m=>exact W6 (m:=m) (by have h3:(m:Int)<10^30:=h2;omega) (.inl ⟨PySem.W.KIN.signs_num m,rfl⟩)
  |negSucc m=>
   refine W6 (m:=m+1) (by omega) (.inr ⟨?_,by omega,by omega⟩);rw[signs_ofString];show("-"++Nat.repr (m+1)).toList.map Char.toNat=_;rw[String.toList_append,aiV,Nat.toList_repr]
   rfl
 have lg:i.natAbs.log2<1920:=by
  by_cases h0:i.natAbs=0
  ·rw[h0];decide
  ·exact Nat.lt_trans ((Nat.log2_lt h0 (k:=100)).mpr (by omega)) (by decide)
 exact⟨(λl h=>nomatch h),key.1,key.2.1,key.2.2.1,key.2.2.2,λj e=>by cases e;exact lg⟩
end Fw
namespace L2
open PySem PySem.Spec PyProof.Rows
theorem TJ {X:Cx}{rZ eX tg:Expr}{M:List Str}{g gy:TG}{y:Str}{py pos KJ:Pos}{ifs:List Expr}{aQ:Scope}{bV:List Str}{lM:List Nat}{wi:TI}{tt:TT}{te:TE}
  (hc:X.calm=true) (S:qJ X bV lM aQ) (hfl:∀y∈bV,aQ.names.lookup y=some .free) (hi:PI X tg eX wi) (hgy:PG X (.Name y py) gy) (hg:∀C s₀ H₀ ex,PG (fQ X (M++bV) aQ C s₀ H₀ ex) tg g)
  (ht:∀C s₀ H₀ ex,Zm (fQ X (M++bV) aQ C s₀ H₀ ex) ifs tt) (he:∀C s₀ H₀ ex,PE (fQ X (M++bV) aQ C s₀ H₀ ex) rZ te)
  (hsw:swapsWith (.ListComp rZ [⟨tg,eX,ifs,0⟩] aQ pos) (some (.Name y py)) KJ.line X.env=pure true)
  (hs:∀v,foldedSetIterable eX X.env v=pure v:=by intro _;rfl):PS X (.Assign [.Name y py] (.ListComp rZ [⟨tg,eX,ifs,0⟩] aQ pos) KJ) (JG (xg M.length lM wi g tt te) gy):=by
 intro aZ s U H D I h;rw[exec_Assign_Name_used _ _ _ _ hsw];refine wpAny_bind (wpAny_standAt ?_);refine wpAny_bind ?_;show wpAny _ _ (comprehension (.ListComp rZ [⟨tg,eX,ifs,0⟩] aQ pos) aQ X.env _ (newList []) _ _ (some (assign (.Name y py) X.env))>>=λ_=>pure ()) _ _ s;refine wpAny_bind (wpAny_mono (Q:=λ_ s'=>∃U' H',Inv X aZ U' H' s'/\D.nx U' H') ?_ (λ_ s' h'=>wpAny_pure (wpAny_pure h')) λ_ _ h'=>h');refine Fj (M:=M) (g:=g) (XE:=noX) (use:=some (assign (.Name y py) X.env)) (Q':=λ_ s'=>∃U' H',Inv X aZ U' H' s'/\D.nx U' H') (qt:=Calm) (λ_ _ _ _=>hc) S hfl hi (λC s₀ H₀ ex=>by rw[uW];exact hg C s₀ H₀ ex) (λC s₀ H₀ ex=>by rw[uW];exact ht C s₀ H₀ ex) (λC s₀ H₀ ex=>by rw[uW];exact he C s₀ H₀ ex) hs I h (λ_ _ _ _ _ _ _ _ _ _ _ (z:False)=>z.elim) λDd C H' m4 s4 hn4 hJ HC nC nfC szC agc agd q=>?_;show wpAny _ _ (assign (.Name y py) X.env (.ref Dd)) _ _ s4;have I5:=hJ s4.heap ⟨rfl,λ_ _=>rfl⟩;obtain⟨oC,es,ep,gC,rC⟩:=id hn4;have IPn:Inv X (aZ++[(C,oC)]) U H' s4:=I5.zL λp hp=>(List.mem_append.mp hp).elim (λz=>I5.pin p (ait _ z)) λz=>by
  have z':p=(C,oC):=by simpa using z
  subst z';exact⟨gC,HC,nC,nfC,λv q=>by have q2:oC.data=.cell v:=q;have q3:=rC.1;rw[q2]at q3;cases q3⟩
 refine eU (hgy _ s4 U _ (.ref Dd) _ _ IPn rfl q) λ_ s6 ⟨U6,H6,I6,q6⟩=>?_;have pC:=I6.pin (C,oC) (ait _ (ait _ (List.mem_singleton.mpr rfl)));exact⟨m4,hn4.at' (λo e=>by rw[gC]at e;cases e;exact pC.1),λh'' sb=>⟨U6,H6,I6.jo.turned (t':=s6.toks) (λb o hb e=>(sb.2 b hb).trans e) pC.2.1 nC (.inr szC) agc agd,q6⟩⟩
theorem W7 {X:Cx}{rZ eX:Expr}{x y:Str}{px py pos KJ:Pos}{ifs:List Expr}{aQ:Scope}{bV:List Str}{lM:List Nat}{wi:TI}{tt:TT}{te:TE}{g:TG}
  (hc:X.calm=true) (S:w6 X x bV lM aQ) (hfl:∀y∈bV,aQ.names.lookup y=some .free) (hi:PI X (.Name x px) eX wi) (hgy:PG X (.Name y py) g)
  (ht:∀C s₀ H₀ ex,Zm (fQ X (x::bV) aQ C s₀ H₀ ex) ifs tt) (he:∀C s₀ H₀ ex,PE (fQ X (x::bV) aQ C s₀ H₀ ex) rZ te)
  (hsw:swapsWith (.ListComp rZ [⟨.Name x px,eX,ifs,0⟩] aQ pos) (some (.Name y py)) KJ.line X.env=pure true)
  (hs:∀v,foldedSetIterable eX X.env v=pure v:=by intro _;rfl):PS X (.Assign [.Name y py] (.ListComp rZ [⟨.Name x px,eX,ifs,0⟩] aQ pos) KJ) (JG (Fi lM wi tt te) g):=by
 have h:=TJ (M:=[x]) (g:=oW 0) hc ⟨S.kind,S.Am,S.loc,S.fr,S.ix,S.len,S.cl⟩ hfl hi hgy (λC s₀ H₀ ex=>eO (i:=0) S.nd rfl (.inl (lookup_relabel_local S.tgt)) (.inr (lookup_relabel_local S.tgt))) ht he hsw hs;exact Qi ▸ h
theorem afb {X:Cx}{rZ eX:Expr}{x y:Str}{px py pos KJ:Pos}{ifs:List Expr}{aQ:Scope}{wi:TI}{tt:TT}{te:TE}{g:TG}(zP:Scope)(N:List Str)(bV:List Str)(lM:List Nat)
  (hk:Av zP N x bV lM aQ=true) (hi:PI X (.Name x px) eX wi) (hgy:PG X (.Name y py) g)
  (ht:∀C s₀ H₀ ex,Zm (fQ X (x::bV) aQ C s₀ H₀ ex) ifs tt) (he:∀C s₀ H₀ ex,PE (fQ X (x::bV) aQ C s₀ H₀ ex) rZ te)
  (hsw:swapsWith (.ListComp rZ [⟨.Name x px,eX,ifs,0⟩] aQ pos) (some (.Name y py)) KJ.line X.env=pure true)
  (ho:X.env.scope=zP:=by rfl) (hN:X.N=N:=by rfl) (hc:X.calm=true:=by rfl) (hs:∀v,foldedSetIterable eX X.env v=pure v:=by intro _;rfl):
  PS X (.Assign [.Name y py] (.ListComp rZ [⟨.Name x px,eX,ifs,0⟩] aQ pos) KJ) (JG (Fi lM wi tt te) g):=by
 obtain⟨S,fl⟩:=qK (X:=X) hk ho hN;exact W7 hc S fl hi hgy ht he hsw hs
end L2
namespace Fw
open PySem PySem.Spec PyProof.Rows L2
theorem big {n:Nat}(h:n<=16000000):n<=sizeLine:=aiv h (by decide)
theorem FZ (l:List T)(t:T):cW (l++[t])=cW l++iC t:=by rw[wg,gJ]
theorem fZ {st p:Addr}{H:Hp}(h:gj H st)(hp:H p=none):p≠st:=λe=>by
 obtain⟨ns,_,_,h3⟩:=h;rw[e,h3]at hp;cases hp
abbrev aam:Stmt:=top 100
theorem TQ {X:Cx}:jJ X (.type "str") (λxs H Q=>∃z,xs=[.str z]/\Q (.str z) H):=by
 intro aZ s U H xs us Q I r h;obtain⟨z,rfl,q⟩:=h;obtain⟨u,rfl,t,rfl⟩:=vals1 r;exact PySem.P.str_of_str ⟨.str z,H,I,⟨_,rfl⟩,q⟩
inductive TV (n:Nat)(vs:List V)(H:Hp)(Q:VK)(E_:XK):Prop where
 |mk (v:V) (t:T):vs=[v]->Rep H v t->Tr n t->iT (iC t)<=20000000->(∀p H',Same H H'->H p=none->H' p=some (.lst ((iC t).map V.str))->Q (.ref p) H')->TV n vs H Q E_
def abN:Nat->Sp
 |0=>λ_ _ _ _=>False
 |n+1=>TV n
theorem zX (l:List Str):3*l.length<=iT l:=by
 induction l with
 |nil=>simp[iT]
 |cons a l ih=>
  rw[mK,aiF];unfold wt;omega
theorem cB.get {H:Hp}{vs:List V}{ts:List T}(r:cB H vs ts){i:Nat}{v:V}(h:vs[i]?=some v):∃t,ts[i]?=some t/\Rep H v t:=by
 induction vs generalizing ts i with
 |nil=>cases h
 |cons a vs ih=>
  cases r with
  |cons r1 r2=>
   cases i with
   |zero=>cases h;exact⟨_,rfl,r1⟩
   |succ i=>exact ih r2 h
section
variable {P:Program}{w:World}{K:PySem.W.Frag}{mg:Str->Option Value}{aN:Heap}{f:Addr}{fd:FuncData}
theorem W8:bG ["_law_thing","_law_pieces_here","_law_part"] ["_law_thing"] (bA aam):=⟨rfl,rfl,rfl,by decide+kernel,rfl,by decide+kernel,by decide+kernel⟩
theorem afc {n:Nat}(F:eV K "_law_pieces" "_law_pieces" aam f fd)(mi:mg "isinstance"=none)(mt:mg "tuple"=none)(ms:mg "str"=none)(h2:Has P w K mg aN n "_law_pieces" ["_law_thing"] (abN n)):cj P w K mg aN eY (n+1) f fd ["_law_thing"] (TV n):=by
 refine F.ok W8 (λcX A aM s H vs Q E hr h=>?_);obtain⟨v,t,rfl,rt,tr,hw,q⟩:=h;refine⟨_,bx (cF (dZ (cT (bH d8 rfl mi boot_isinstance (aW (pv 0) (aW (eZ (v:=.ty "tuple") rfl mt boot_tuple rfl) aX)))))
   (bh (bD (dj (aW (cC (G8.or TQ) rfl ms boot_str (aW (pv 0) aX)) aX)))) bK)
  (bx (kO 1 W8.nd (dj (aW bQ aX)))
  (bx (jR PassesOwn.never rfl (piT K (pv 0)) (eO (i:=2) W8.nd rfl (Or.inl rfl)) (bh (fj (jX aiA aj9 aj' EY (pv 1) (aW (bB h2 hr (aio _) rfl (aW (pv 2) aX)) aX)))))
  (bh (bD (bY w5 (pv 1) (dj (aW bQ aX))))))) ,?_⟩
 refine⟨_,rfl,_,_,_,_,rfl,qN rt,qO K t,_,rfl,?_⟩;cases rt with
 |int i=>
  cases tr with
  |«at» A=>
   refine dM ⟨_,rfl, .inl ⟨i,rfl,A.lg i rfl,small (by show 1<=1000000;decide),λp hp=>?_⟩⟩;refine q p _ (bw hp _) hp ?_;rw[bf,tE A]
   rfl
 |str z hz=>
  cases tr with
  |«at» A=>
   refine dM ⟨_,rfl, .inr ⟨z,rfl,small (by show 1<=1000000;decide),λp hp=>?_⟩⟩;refine q p _ (bw hp _) hp ?_;rw[bf,tE A]
   rfl
 |@tup a vs ts ha r=>
  cases tr with
  |«at» A=>exact absurd rfl (A.nt ts)
  |@tp n _ tr=>
  rw[gq]at hw;have wi:∀i,iT (cW (ts.take i))<=iT (cW ts):=λi=>by
   have e:cW ts=cW (ts.take i)++cW (ts.drop i):=by rw[<-wg,ajd]
   rw[e,jl];omega
  refine dW ⟨small (by show 1<=1000000;decide),λl hl=>?_⟩;have al:a≠l:=λe=>by rw[e,hl]at ha;cases ha
  have s1:=bw hl (.lst [.str "("]);have lv:=r.length;refine⟨_,rfl,a,rfl,⟨_,dY.of (s1 _ _ ha)⟩,?_⟩;refine ZJ (xs:=vs) (λi U H'=>(∃k,U=[some (.ref a),some (.ref l),k])/\H' l=some (.lst ((("(":Str)::cW (ts.take i)).map V.str))/\Same H H') ⟨⟨_,rfl⟩,bf,s1⟩ ?_ ?_ ?_
  ·rintro i U H' hi ⟨_,_,e⟩
   exact dY.of (e _ _ ha)
  ·rintro i x U H' hx ⟨⟨k,rfl⟩,hl',e⟩
   obtain⟨t',ht',rx⟩:=r.get hx;have hm:t'∈ts:=aiS ht';have tk:ts.take (i+1)=ts.take i++[t']:=by rw[ajC,ht'];rfl
   have w1:=wi (i+1);rw[tk,FZ,jl]at w1;refine⟨_,rfl, .inl ⟨rfl,_,dX.of hl'⟩,_,rfl,?_⟩;refine⟨x,t',rfl,rx.same e,tr t' hm,by omega,λp H2 e2 hp hp2=>?_⟩;have lp:l≠p:=λz=>by rw[<-z,hl']at hp;cases hp
   have b1:=zX (cW (ts.take i));have b2:=zX (iC t');refine⟨l,p,_,_,rfl,rfl,e2 _ _ hl',hp2,big (by simp only[aix,aiF];omega),⟨_,rfl⟩,?_,λb o h=>?_⟩
   ·rw[bf,tk,FZ,<-aiV]
    rfl
   ·rw[bI (λz=>by rw[z,hl]at h;cases h)]
    exact e2 _ _ (e _ _ h)
  ·rintro U H' ⟨⟨k,rfl⟩,hl',e⟩
   rw[lv,ajr]at hl';refine⟨_,rfl,small (by show 1<=1000000;decide),λm hm=>?_⟩;have lm:l≠m:=λz=>by rw[<-z,hl']at hm;cases hm
   have b1:=zX (cW ts);refine⟨l,m,_,_,rfl,rfl,by rw[bI lm];exact hl',bf,big (by simp only[aix,aiF,aiZ];omega),λp hp=>?_⟩;have e3:=(e.trans (bw hm (.lst [.str ")"]))).trans (bw hp (.lst ((("(":Str)::cW ts).map V.str++[.str ")"])));refine q p _ e3 ?_ ?_
   ·cases h:H p with
    |none=>rfl
    |some o=>rw[bw hm _ _ _ (e _ _ h)]at hp;cases hp
   ·rw[bf,iC,aiR,aiR,aiV]
    rfl
theorem ac0 (F:eV K "_law_pieces" "_law_pieces" aam f fd)(mi:mg "isinstance"=none)(mt:mg "tuple"=none)(ms:mg "str"=none)(hb:Binds K fd ["_law_thing"] [])(hk:PySem.W.keepIn K (.ref f)=true)(hm:mg "_law_pieces"=some (.ref f))(n:Nat):Has P w K mg aN n "_law_pieces" ["_law_thing"] (abN n):=by
 induction n with
 |zero=>exact⟨f,fd,⟨λ_ _ _ _ h=>h.elim,λ_ _ _ _ _ _ _ _ _ _ _ _ _ h=>h.elim⟩,hb,hk,hm⟩
 |succ n ih=>exact⟨f,fd,afc F mi mt ms ih,hb,hk,hm⟩
end
abbrev W9:Stmt:=top 101
abbrev ac1:Stmt:=top 102
abbrev nW:List Str:=["_law_state","_law_pieces_here","_law_text","_law_ahead","_law_least","_law_piece"]
inductive QG (vs:List V)(H:Hp)(Q:VK)(E_:XK):Prop where
 |mk (st:Addr) (n:Nat):vs=[.ref st, .int n]->gj H st->n<=1->(∀g H',TF g.cps.toList->n<=g.length->g.length<=n+2->cP st H H'->Q (.str g) H')->QG vs H Q E_
section
variable {P:Program}{w:World}{K:PySem.W.Frag}{mg:Str->Option Value}{aN:Heap}{f:Addr}{fd:FuncData}
theorem Ih:bG ["_law_state","_law_least","_law_gap_here","_law_k"] ["_law_state","_law_least"] (bA W9):=⟨rfl,rfl,rfl,by decide+kernel,rfl,by decide+kernel,by decide+kernel⟩
theorem ac2 (F:eV K "_law_gap" "_law_gap" W9 f fd)(mr:mg "range"=none)(h0:Has P w K mg aN 1 "_law_next" ["_law_state","_law_many"] eE):cj P w K mg aN eY 2 f fd ["_law_state","_law_least"] QG:=by
 refine F.ok Ih (λcX A aM s H vs Q E hr h=>?_);obtain⟨st,n,rfl,hs,hn,q⟩:=h;refine⟨_,bx (kO 2 Ih.nd bQ)
  (bx (jR PassesOwn.never rfl (dw rfl mr (aW (bY gQ (pv 1) (bU (Zr K) (dj (aW aY (aW aY (aW aY (aW aY (aW aY aX)))))) (bB h0 hr (by decide) rfl (aW (pv 0) (aW aY aX))))) aX)) (eO (i:=3) Ih.nd rfl (Or.inl rfl))
   (bh (Mj (i:=2) Ih.nd rfl (Or.inl rfl) (bU Al bQ (bB h0 hr (by decide) rfl (aW (pv 0) (aW aY aX))) (λ_ _=>rfl)) sI)))
  (bh (bD (pv 2)))),?_⟩
 refine⟨_,rfl,small (by show 5<=1000000;decide),λl hl=>⟨_,rfl,st,5,rfl,hs.same (bw hl _),by decide,by decide,λd H1 d0 d1 g1=>?_⟩⟩;have nl:=fZ hs hl;have gg:cP st H H1:=(cG hs hl).trans g1;have hl1:=g1.1 _ _ nl bf;have hat:∃m:Nat,m<=2/\Dz [V.int 0, .int 0, .int 0, .int 1, .int 2] d=some (.int m):=by
  have:d=0\/d=1\/d=2\/d=3\/d=4:=by omega
  rcases this with rfl|rfl|rfl|rfl|rfl
  ·exact⟨0,by decide,rfl⟩
  ·exact⟨0,by decide,rfl⟩
  ·exact⟨0,by decide,rfl⟩
  ·exact⟨1,by decide,rfl⟩
  ·exact⟨2,by decide,rfl⟩
 obtain⟨m,hm,hat⟩:=hat;refine⟨l,_,d, .int m,rfl,rfl,dX.of hl1,hat,n,m,rfl,rfl,(n:Int)+m,rfl,by omega,by omega,?_⟩;refine fW (n:=((n:Int)+m).toNat) (λi U H'=>∃(z:Str) (o:Option V),U=[some (.ref st),some (.int n),some (.str z),o]/\TF z.cps.toList/\z.length=i/\cP st H H') ⟨"",none,rfl,(by rw[show("":Str).cps.toList=[] by decide+kernel];intro c hc;cases hc),by decide+kernel,gg⟩ ?_ ?_
 ·rintro i U H' hi ⟨z,o,rfl,hz,hl,g⟩
  refine⟨_,rfl,_,rfl,st,2,rfl,g.ok,by decide,by decide,λe H2 e0 e1 g2=>?_⟩;obtain⟨c,hc,hc2⟩:∃c,Dz (" \n":Str).cps.toList e=some c/\(c=32\/c=10):=by
   rw[show(" \n":Str).cps.toList=[32,10] by decide+kernel];have:e=0\/e=1:=by omega
   rcases this with rfl|rfl
   ·exact⟨32,rfl, .inl rfl⟩
   ·exact⟨10,rfl, .inr rfl⟩
  have l1:(z++⟨#[c]⟩:Str).length=z.length+1:=len_app _ _;refine⟨" \n",e,c,rfl,rfl,small (by rw[show(" \n":Str).length=2 by decide+kernel];decide),hc,z,⟨#[c]⟩,rfl,rfl,small (by show z.length+1<=1000000;omega),?_⟩;refine⟨z++⟨#[c]⟩,_,rfl,?_,by omega,g.trans g2⟩;rw[jO];intro x hx;rcases List.mem_append.mp hx with h|h
  ·exact hz x h
  ·have:x=c:=by simpa using h
   rw[this];exact hc2
 ·rintro U H' ⟨z,o,rfl,hz,hl,g⟩
  exact⟨_,rfl,q z H' hz (by omega) (by omega) g⟩
def brL:List Str:=["(",")"]
def zq (p:Str):Bool:=decide (p∈brL)
structure aan (p:Str):Prop where
 ok:zq p=true\/(zq p=false/\Clean p.cps.toList/\p.cps.toList≠[])
inductive aao (vs:List V)(H:Hp)(Q:VK)(E_:XK):Prop where
 |mk (st pl:Addr) (ps:List Str):vs=[.ref st, .ref pl]->gj H st->pl≠st->H pl=some (.lst (ps.map V.str))->(∀p∈ps,aan p)->iT ps<=20000->(∀z H',Kz z.cps.toList (ps.map (·.cps.toList))->z.length<=iT ps+4->cP st H H'->Q (.str z) H')->aao vs H Q E_
def ac3:TE:=λU H Q=>∃(a b:V) (z ah p:Str) (ls:Option V),U=[some a,some b,some (.str z),some (.str ah),ls,some (.str p)]/\∀(n:Nat) H',Same H H'->n<=1->(zq ah=false->zq p=false->n=1)->Q (.int n) H'
theorem brs:[V.str "(",V.str ")"]=brL.map V.str:=rfl
theorem BZ:bG nW ["_law_state","_law_pieces_here"] (bA ac1):=⟨rfl,rfl,rfl,by decide+kernel,rfl,by decide+kernel,by decide+kernel⟩
theorem afd (F:eV K "_law_written" "_law_written" ac1 f fd)(mi:mg "int"=none)(h1:Has P w K mg aN 2 "_law_gap" ["_law_state","_law_least"] QG):cj P w K mg aN eY 3 f fd ["_law_state","_law_pieces_here"] aao:=by
 refine F.ok BZ (λcX A aM s H vs Q E hr h=>?_);obtain⟨st,pl,ps,rfl,hs,np,hp,ok,hw,q⟩:=h;refine⟨_,bx (kO 2 BZ.nd (bB h1 hr (by decide) rfl (aW (pv 0) (aW aY aX))))
  (bx (kO 3 BZ.nd bQ)
  (bx (jR PassesOwn.never rfl (piL K (pv 1)) (eO (i:=5) BZ.nd rfl (Or.inl rfl))
   (bx (kO 4 BZ.nd (Qv (t':=ac3) (cC pO rfl mi nO (aW (cQ (dR qH (pv 3) (cO (aW bQ (aW bQ aX))) (by with_unfolding_all rfl)) (dG (dR qH (pv 5) (cO (aW bQ (aW bQ aX))) (by with_unfolding_all rfl)))) aX)) ?w))
   (bx (Mj (i:=2) BZ.nd rfl (Or.inl rfl) (bY jq (bB h1 hr (by decide) rfl (aW (pv 0) (aW (pv 4) aX))) (pv 5)) sI)
   (bh (kO 3 BZ.nd (pv 5))))))
  (bh (bD (bY jq (pv 2) (bB h1 hr (by decide) rfl (aW (pv 0) (aW aY aX)))))))),?_⟩
 case w=>
  rintro U H' Q' ⟨a,b,z,ah,p,ls,rfl,q'⟩;refine⟨_,rfl,small (by show 2<=1000000;decide),λt1 h1'=>⟨t1,_,rfl, .inr (dY.of bf),rfl,by rw[brs];exact pZ _,_,rfl,?_⟩⟩;rw[if_pos rfl,brs,vU];show if(!zq ah)=true then _ else _
  have e1:=bw h1' (.tup (brL.map V.str));cases c1:zq ah with
  |true=>exact dW (.inr ⟨false,rfl,q' 0 _ e1 (by decide) (λh=>by rw[c1]at h;cases h)⟩)
  |false=>
   refine dM ⟨_,rfl,small (by show 2<=1000000;decide),λt2 h2'=>⟨t2,_,rfl, .inr (dY.of bf),rfl,by rw[brs];exact pZ _,?_⟩⟩;rw[if_pos rfl,brs,vU];have e2:=bw h2' (.tup (brL.map V.str));refine .inr ⟨!zq p,rfl,?_⟩;cases c2:zq p with
   |true=>exact q' 0 _ (e1.trans e2) (by decide) (λ_ h=>by rw[c2]at h;cases h)
   |false=>exact q' 1 _ (e1.trans e2) (by decide) (λ_ _=>rfl)
 refine⟨_,rfl,st,0,rfl,hs,by decide,λg0 H1 hg0 _ l0 gr0=>?_⟩;refine⟨_,rfl,pl,rfl,⟨_,dX.of (gr0.1 _ _ np hp)⟩,?_⟩;refine Ag (xs:=ps.map V.str) (λi U H'=>∃(z ah:Str) (ls pc:Option V),U=[some (.ref st),some (.ref pl),some (.str z),some (.str ah),ls,pc]/\(zq ah=true->Cls z.cps.toList ((ps.take i).map (·.cps.toList)))/\Kz z.cps.toList ((ps.take i).map (·.cps.toList))/\z.length<=iT (ps.take i)+2/\cP st H H') ?_ ?_ ?_ ?_
 ·have c0:=cls_nil.gap hg0
  rw[aje]at c0;exact⟨g0,"(",none,none,rfl,λ_=>c0,c0.opn,by simp[iT];omega,gr0⟩
 ·rintro i U H' hi ⟨_,_,_,_,_,_,_,_,g⟩
  exact dX.of (g.1 _ _ np hp)
 ·rintro i x U H' hx ⟨z,ah,ls,pc,rfl,hc,ho,hl,g⟩
  rw[ai6]at hx;cases e:ps[i]? with
  |none=>rw[e]at hx;cases hx
  |some p=>
  rw[e]at hx;cases hx;have pok:=(ok p (aiS e)).ok;have tk:ps.take (i+1)=ps.take i++[p]:=by rw[ajC,e];rfl
  have wi:iT (ps.take (i+1))<=iT ps:=by
   have e2:ps=ps.take (i+1)++ps.drop (i+1):=(ajd _ _).symm
   conv=>rhs;rw[e2,jl]
   omega
  rw[tk,jl,mK,vZ]at wi;unfold wt at wi;refine⟨_,_,z,ah,p,ls,rfl,λn H2 e2 hn hn1=>?_⟩;have g2:=g.trans (cH g.ok e2);refine⟨_,rfl,_,rfl,_,rfl,st,n,rfl,g2.ok,hn,λgp H3 hgp l1 l2 g3=>⟨_,rfl,gp,p,rfl,rfl,small (by omega),z,gp++p,rfl,rfl,small (by rw[len_app];omega),?_⟩⟩;have ez:(z++(gp++p):Str).cps.toList=z.cps.toList++gp.cps.toList++p.cps.toList:=by rw[jO,jO,aiD]
  have em:(ps.take (i+1)).map (·.cps.toList)=(ps.take i).map (·.cps.toList)++[p.cps.toList]:=by rw[tk,aiV];rfl
  have lz:(z++(gp++p):Str).length<=iT (ps.take (i+1))+2:=by
   rw[len_app,len_app,tk,jl,mK,vZ];unfold wt;omega
  have og:Kz (z.cps.toList++gp.cps.toList) ((ps.take i).map (·.cps.toList)):=ho.gap hgp;refine⟨_,rfl,z++(gp++p),p,_,_,rfl,?_⟩;rw[ez,em];rcases pok with hb|⟨hb,hcl,hne⟩
  ·have hcls:Cls (z.cps.toList++gp.cps.toList++p.cps.toList) ((ps.take i).map (·.cps.toList)++[p.cps.toList]):=by
    have:p="("\/p=")":=by
     have:=of_decide_eq_true hb;unfold brL at this;simpa using this
    rcases this with rfl|rfl
    ·rw[W2];exact og.lb
    ·rw[W3];exact og.rb
   exact⟨λ_=>hcls,hcls.opn,lz,g2.trans g3⟩
  ·refine⟨(λh=>by rw[hb]at h;cases h),?_,lz,g2.trans g3⟩
   refine Cls.word ?_ hcl hne;cases c1:zq ah with
   |true=>exact(hc c1).gap hgp
   |false=>
    have:=hn1 c1 hb;exact ho.ae' hgp (by rw[bT];omega)
 ·rintro U H' ⟨z,ah,ls,pc,rfl,hc,ho,hl,g⟩
  rw[aix,ajr]at ho hl;refine⟨_,rfl,_,rfl,st,0,rfl,g.ok,by decide,λg1 H2 hg1 _ l1 gr1=>?_⟩;have la:=len_app z g1;refine⟨z,g1,rfl,rfl,small (by omega),?_⟩;refine q (z++g1) H2 ?_ (by omega) (g.trans gr1);rw[jO];exact ho.gap hg1
end
end Fw
namespace PySem
open PyProof.Rows
namespace F
end F
section
variable {prog:Program}{w:World}{A:Around}{E:Value->Shared->Prop}{s:Shared}
end
end PySem
namespace PySem
open PyProof.Rows
section
variable {prog:Program}{w:World}{A:Around}{E:Value->Shared->Prop}{s:Shared}
end
section
variable {prog:Program}{w:World}{A:Around}{s:Shared}{R:Result->Shared->Prop}
end
section
variable {prog:Program}{w:World}{A:Around}{E:Value->Shared->Prop}{s:Shared}
end
end PySem
namespace L2
open PySem PySem.Spec PyProof.Rows
section
variable {X:Cx}
end
end L2
namespace PySem
open PyProof.Rows
section
variable {prog:Program}{w:World}{A:Around}{E:Value->Shared->Prop}{s:Shared}
theorem wk {it t:Addr}{i:Nat}{xs:Array Value}{x:Value}{Q:Value->Shared->Prop}(hit:s.heap.IsTupleIter it t i)(ht:s.heap.IsTuple t xs)(hx:xs[i]?=some x)
  (hQ:∀h',h'.IsTupleIter it t (i+1)->Heap.SameBut it s.heap h'->Q x {s with heap:=h'}):wpAny (model prog w) A (Builtin.SmallTypes.nextOf (.ref it)) Q E s:=by
 obtain⟨o,ho,hc,hd⟩:=id hit;obtain⟨u,hu,_,n,hn⟩:=ht;unfold Builtin.SmallTypes.nextOf;refine wpAny_bind (wpAny_callSpecial?_slot (name:=Str.ofString "__next__") hit.typeIs F.slot_tuple_iterator_next (wpAny_call_entry F.slot_tuple_iterator_next hit.typeIs F.entry_tuple_iterator_next ?_ (F.args_tuple_iterator_next_1 _)));show wpAny _ _ (field (.ref it) 0>>=_) _ _ s;refine wpAny_bind (wpAny_field ho hd (x:=.ref t) rfl ?_);rw[if_neg (show ¬((Value.ref t==Value.none)=true) from aip)];show wpAny _ _ (field (.ref it) 1>>=_) _ _ s;refine wpAny_bind (wpAny_field ho hd (x:=.int i 0) rfl ?_);show wpAny _ _ (seqItems? (.ref t)>>=_) _ _ s;refine wpAny_bind (wpAny_seqItems hu hn ?_);simp only[aj4,hx];refine wpAny_bind (wpAny_setField ho hd (by simp) (wpAny_pure ⟨x,rfl,wpAny_pure (hQ _ ⟨_,ajm _ ho (Obj.isFreed_of_fields (Obj.data_mapFields hd _)),(Obj.cls_mapFields ..).trans hc,by rw[Obj.data_mapFields hd];simp[rawInt]⟩ (Heap.SameBut.update ..))⟩))
theorem KN {it t:Addr}{i:Nat}{xs:Array Value}{Q:Value->Shared->Prop}(hh:A.handled=none)(hit:s.heap.IsTupleIter it t i)(ht:s.heap.IsTuple t xs)(hx:xs[i]?=none)
  (hE:∀h' e,Heap.ExtBut it s.heap h'->(∃o,h'.get? e=some o/\o.cls=.type "StopIteration")->E (.ref e) {s with heap:=h'}):wpAny (model prog w) A (Builtin.SmallTypes.nextOf (.ref it)) Q E s:=by
 obtain⟨o,ho,hc,hd⟩:=id hit;obtain⟨u,hu,_,n,hn⟩:=ht;unfold Builtin.SmallTypes.nextOf;refine wpAny_bind (wpAny_callSpecial?_slot (name:=Str.ofString "__next__") hit.typeIs F.slot_tuple_iterator_next (wpAny_call_entry F.slot_tuple_iterator_next hit.typeIs F.entry_tuple_iterator_next ?_ (F.args_tuple_iterator_next_1 _)));show wpAny _ _ (field (.ref it) 0>>=_) _ _ s;refine wpAny_bind (wpAny_field ho hd (x:=.ref t) rfl ?_);rw[if_neg (show ¬((Value.ref t==Value.none)=true) from aip)];show wpAny _ _ (field (.ref it) 1>>=_) _ _ s;refine wpAny_bind (wpAny_field ho hd (x:=.int i 0) rfl ?_);show wpAny _ _ (seqItems? (.ref t)>>=_) _ _ s;refine wpAny_bind (wpAny_seqItems hu hn ?_);simp only[aj4,hx];refine wpAny_bind (wpAny_rule (wpAny_bind (wpAny_setField ho hd (by simp) ?_)));show wpAny _ _ (newExc (.type "StopIteration") []>>=_) _ _ _;refine wpAny_bind ?_;simp only[newExc,newTuple];refine wpAny_bind (wpAny_newObj_type ?_ (by size_fits));refine wpAny_bind (m:=firstArgMember _ _) (wpAny_of_eq (a:=Value.none) (by first|rfl|(simp only[firstArgMember];rfl)) ?_);refine wpAny_newObj_type ?_ (by size_fits);simp only[raiseNew];refine wpAny_bind (wpAny_handled ?_)
 first|rw[show A.in1.handled=none from hh]|rw[hh]
 exact wpAny_bind (wpAny_pure (wpAny_throw (hE _ _ (((Heap.SameBut.update ..).extBut.push _).push _) ⟨_,aiC _ rfl,rfl⟩)))
structure aap (h:Heap)(z TI TO i1 i2 t1 t2:Addr)(k:Nat):Prop where
 nd:[z,TI,TO,i1,i2].Nodup
 zz:IsZip h z TI TO .none
 ti:IsPair h TI (.ref i1) (.ref i2)
 tO:∃a b,IsPair h TO a b
 j1:h.IsTupleIter i1 t1 k
 j2:h.IsTupleIter i2 t2 k
theorem TX {z TI TO i1 i2 t1 t2:Addr}{k:Nat}{xs ys:Array Value}{x y:Value}{Q:Option Value->Shared->Prop}(Z:aap s.heap z TI TO i1 i2 t1 t2 k)(n1:t1∉[z,TO,i1,i2])(n2:t2∉[z,TO,i1,i2])
  (h1:s.heap.IsTuple t1 xs) (h2:s.heap.IsTuple t2 ys) (hx:xs[k]?=some x) (hy:ys[k]?=some y)
  (hQ:∀h',IsZip h' z TI TO (rawInt s.heap.objs.size)->IsPair h' TI (.ref i1) (.ref i2)->IsPair h' TO x y->h'.IsTupleIter i1 t1 (k+1)->h'.IsTupleIter i2 t2 (k+1)->IsPair h' s.heap.objs.size x y->h'.objs.size=s.heap.objs.size+1->
   (∀c o,c∉[z,TO,i1,i2]->s.heap.get? c=some o->h'.get? c=some o)->Q (some (.ref s.heap.objs.size)) {s with heap:=h'}):wpAny (model prog w) A (pyNext (.ref z)) Q E s:=by
 obtain⟨nd,zz,ti,⟨a,b,tO⟩,j1,j2⟩:=Z;simp only[ajV,aiB,aiz,or_false,not_or,ajZ,and_true,not_false_eq_true]at nd n1 n2;obtain⟨⟨zTI,zTO,z1,z2⟩,⟨TITO,TI1,TI2⟩,⟨TO1,TO2⟩,i12⟩:=nd;obtain⟨a1,a2,a3,a4⟩:=n1;obtain⟨b1,b2,b3,b4⟩:=n2;have hT:s.TypeIs (.ref z) "zip":=⟨_,zz,rfl⟩;unfold pyNext;refine wpAny_bind (wpAny_attempt (wpAny_callSpecial?_slot (name:=Str.ofString "__next__") hT F.slot_zip_next (wpAny_call_entry F.slot_zip_next hT F.entry_zip_next ?_ (F.args_zip_next_1 _))));show wpAny _ _ (field (.ref z) 2>>=_) _ _ _;refine wpAny_bind (wpAny_field zz rfl (x:=.bool false) rfl ?_);show wpAny _ _ (field (.ref z) 3>>=_) _ _ _;refine wpAny_bind (wpAny_field zz rfl (x:=.ref TI) rfl (wpAny_bind (wpAny_seqItems ti rfl ?_)));show wpAny _ _ (Builtin.SmallTypes.ownedTupleIsFree (.ref z)>>=_) _ _ _;refine wpAny_bind ?_;unfold Builtin.SmallTypes.ownedTupleIsFree;refine wpAny_bind (wpAny_field zz rfl (x:=.none) rfl (wpAny_pure ?_));simp only[if_true];refine wpAny_bind (wpAny_rule (wpAny_bind (wpAny_field zz rfl (x:=.ref TO) rfl (wpAny_bind (wpAny_setField_rec zz (by simp) λg1 q1 r1=>?_)))))
 replace q1:IsZip g1 z TI TO .ellipsis:=q1
 refine wpAny_bind ?_;simp only[List.zipIdx_cons,List.zipIdx_nil,akf,List.forIn_nil];refine wpAny_bind (wpAny_bind (wpAny_onRaise ?_));show wpAny _ _ (Builtin.SmallTypes.nextOf (.ref i1)>>=_) _ _ _;refine wpAny_bind (wk (j1.extBut r1.extBut (Ne.symm z1)) (h1.extBut r1.extBut a1) hx λg2 q2 r2=>wpAny_pure ?_);have tO2:IsPair g2 TO a b:=r2.extBut _ _ TO1 (r1.extBut _ _ (Ne.symm zTO) tO);refine wpAny_bind (wpAny_seqItems tO2 rfl (wpAny_bind (wpAny_updateSeq_pair tO2 λg3 q3 r3=>?_)))
 replace q3:IsPair g3 TO x b:=q3
 refine wpAny_bind (wpAny_letGo (wpAny_pure ?_));refine wpAny_bind (wpAny_bind (wpAny_onRaise ?_));show wpAny _ _ (Builtin.SmallTypes.nextOf (.ref i2)>>=_) _ _ _;refine wpAny_bind (wk (((j2.extBut r1.extBut (Ne.symm z2)).extBut r2.extBut (Ne.symm i12)).extBut r3.extBut (Ne.symm TO2)) (((h2.extBut r1.extBut b1).extBut r2.extBut b3).extBut r3.extBut b2) hy λg4 q4 r4=>wpAny_pure ?_);have tO4:IsPair g4 TO x b:=r4.extBut _ _ TO2 q3;refine wpAny_bind (wpAny_seqItems tO4 rfl (wpAny_bind (wpAny_updateSeq_pair tO4 λg5 q5 r5=>?_)))
 replace q5:IsPair g5 TO x y:=q5
 refine wpAny_bind (wpAny_letGo (wpAny_pure (wpAny_pure ?_)));refine wpAny_bind (wpAny_seqItems q5 rfl (wpAny_bind (wpAny_newTuple ?_)));have sz:g5.objs.size=s.heap.objs.size:=by rw[r5.1,r4.1,r3.1,r2.1,r1.1]
 have kp5:∀c o,c≠z->c≠TO->c≠i1->c≠i2->s.heap.get? c=some o->g5.get? c=some o:=λc o c1 c2 c3 c4 e=>r5.extBut _ _ c2 (r4.extBut _ _ c4 (r3.extBut _ _ c2 (r2.extBut _ _ c3 (r1.extBut _ _ c1 e))));have zz5:IsZip g5 z TI TO .ellipsis:=r5.extBut _ _ zTO (r4.extBut _ _ z2 (r3.extBut _ _ zTO (r2.extBut _ _ z1 q1)));have k15:g5.IsTupleIter i1 t1 (k+1):=((q2.extBut r3.extBut (Ne.symm TO1)).extBut r4.extBut i12).extBut r5.extBut (Ne.symm TO1);have k25:g5.IsTupleIter i2 t2 (k+1):=q4.extBut r5.extBut (Ne.symm TO2);have ti5:IsPair g5 TI (.ref i1) (.ref i2):=kp5 _ _ (Ne.symm zTI) TITO TI1 TI2 ti;show wpAny _ _ (Builtin.SmallTypes.ownedTupleHandOut (.ref z) (.ref g5.objs.size)>>=_) _ _ _;refine wpAny_bind ?_;unfold Builtin.SmallTypes.ownedTupleHandOut;refine wpAny_bind (wpAny_setField_rec (aiq _ zz5) (by simp) λg7 q7 r7=>?_)
 replace q7:IsZip g7 z TI TO (rawInt g5.objs.size):=q7
 refine wpAny_setField_rec q7 (by simp) λg8 q8 r8=>?_
 replace q8:IsZip g8 z TI TO (rawInt g5.objs.size):=q8
 have up:∀c o,c≠z->g5.get? c=some o->g8.get? c=some o:=λc o c1 e=>r8.extBut _ _ c1 (r7.extBut _ _ c1 (aiq _ e));have new:IsPair g8 g5.objs.size x y:=r8.extBut _ _ (ajP (aiu zz5)) (r7.extBut _ _ (ajP (aiu zz5)) (aiC _ rfl));have sz8:g8.objs.size=s.heap.objs.size+1:=by rw[r8.1,r7.1,ajn,sz]
 rw[sz]at q8 new;refine wpAny_pure ⟨_,rfl,?_⟩;refine wpAny_pure ?_;show Q (some (.ref g5.objs.size)) _;rw[sz];exact hQ g8 q8 (up _ _ (Ne.symm zTI) ti5) (up _ _ (Ne.symm zTO) q5) (let ⟨o,e,r⟩:=k15;⟨o,up _ o (Ne.symm z1) e,r⟩) (let ⟨o,e,r⟩:=k25;⟨o,up _ o (Ne.symm z2) e,r⟩) new sz8 λc o hc e=>by
  simp only[aiB,aiz,or_false,not_or]at hc;exact up c o hc.1 (kp5 c o hc.1 hc.2.1 hc.2.2.1 hc.2.2.2 e)
theorem Xa {z TI TO i1 i2 t1 t2:Addr}{k:Nat}{xs:Array Value}{Q:Option Value->Shared->Prop}(hh:A.handled=none)(Z:aap s.heap z TI TO i1 i2 t1 t2 k)(n1:t1∉[z,TO,i1,i2])
  (h1:s.heap.IsTuple t1 xs) (hx:xs[k]?=none) (hQ:∀h',(∀c o,c∉[z,TO,i1,i2]->s.heap.get? c=some o->h'.get? c=some o)->Q none {s with heap:=h'}):wpAny (model prog w) A (pyNext (.ref z)) Q E s:=by
 obtain⟨nd,zz,ti,⟨a,b,tO⟩,j1,j2⟩:=Z;simp only[ajV,aiB,aiz,or_false,not_or,ajZ,and_true,not_false_eq_true]at nd n1;obtain⟨⟨zTI,zTO,z1,z2⟩,⟨TITO,TI1,TI2⟩,⟨TO1,TO2⟩,i12⟩:=nd;obtain⟨a1,a2,a3,a4⟩:=n1;have hT:s.TypeIs (.ref z) "zip":=⟨_,zz,rfl⟩;unfold pyNext;refine wpAny_bind (wpAny_attempt (wpAny_callSpecial?_slot (name:=Str.ofString "__next__") hT F.slot_zip_next (wpAny_call_entry F.slot_zip_next hT F.entry_zip_next ?_ (F.args_zip_next_1 _))));show wpAny _ _ (field (.ref z) 2>>=_) _ _ _;refine wpAny_bind (wpAny_field zz rfl (x:=.bool false) rfl ?_);show wpAny _ _ (field (.ref z) 3>>=_) _ _ _;refine wpAny_bind (wpAny_field zz rfl (x:=.ref TI) rfl (wpAny_bind (wpAny_seqItems ti rfl ?_)));show wpAny _ _ (Builtin.SmallTypes.ownedTupleIsFree (.ref z)>>=_) _ _ _;refine wpAny_bind ?_;unfold Builtin.SmallTypes.ownedTupleIsFree;refine wpAny_bind (wpAny_field zz rfl (x:=.none) rfl (wpAny_pure ?_));simp only[if_true];refine wpAny_bind (wpAny_rule (wpAny_bind (wpAny_field zz rfl (x:=.ref TO) rfl (wpAny_bind (wpAny_setField_rec zz (by simp) λg1 q1 r1=>?_)))))
 replace q1:IsZip g1 z TI TO .ellipsis:=q1
 refine wpAny_bind ?_;simp only[List.zipIdx_cons,List.zipIdx_nil,akf,List.forIn_nil];refine wpAny_bind (wpAny_bind (wpAny_onRaise ?_));show wpAny _ _ (Builtin.SmallTypes.nextOf (.ref i1)>>=_) _ _ _;refine wpAny_bind (KN hh (j1.extBut r1.extBut (Ne.symm z1)) (h1.extBut r1.extBut a1) hx λg2 e r2 he=>?_);obtain⟨oe,ho,hc⟩:=he;have zz2:IsZip g2 z TI TO .ellipsis:=r2 _ _ z1 q1;have ez:e≠z:=λq=>by subst q;rw[zz2]at ho;cases ho;simp at hc
 refine wpAny_setField_rec (s:={s with heap:=g2}) zz2 (by simp) λg3 q3 r3=>?_;refine wpAny_bind (wpAny_isInstance (T:="StopIteration") (b:=true) ⟨oe,r3.extBut _ _ ez ho,hc⟩ isSubtype_stop ?_);exact wpAny_pure (hQ _ λc o hcc e=>by
  simp only[aiB,aiz,or_false,not_or]at hcc;exact r3.extBut _ _ hcc.1 (r2 _ _ hcc.2.2.1 (r1.extBut _ _ hcc.1 e)))
abbrev zt1 (h:Heap)(t1:Addr):Heap:=h.push {cls:=.type "tuple_iterator",data:=.fields #[.ref t1, .int 0 0]}
abbrev zt2 (h:Heap)(t1 t2:Addr):Heap:=(zt1 h t1).push {cls:=.type "tuple_iterator",data:=.fields #[.ref t2, .int 0 0]}
abbrev zt3 (h:Heap)(t1 t2:Addr):Heap:=(zt2 h t1 t2).push {cls:=.type "tuple",data:=.seq #[.ref h.objs.size, .ref (zt1 h t1).objs.size]}
abbrev zt4 (h:Heap)(t1 t2:Addr):Heap:=(zt3 h t1 t2).push {cls:=.type "tuple",data:=.seq #[.none, .none]}
abbrev zt5 (h:Heap)(t1 t2:Addr):Heap:=(zt4 h t1 t2).push {cls:=.type "zip",data:=.fields #[.none, .bool false, .bool false, .ref (zt2 h t1 t2).objs.size, .ref (zt3 h t1 t2).objs.size]}
theorem NQ (t1 t2:Addr)(xs ys:Array Value):
  Meets (Builtin.«zip.__new__» ⟨[.type "zip", .ref t1, .ref t2],[]⟩) (λ_ R s=>s.heap.IsTuple t1 xs/\s.heap.IsTuple t2 ys/\R (.ok (.ret (.ref (zt4 s.heap t1 t2).objs.size))) {s with heap:=zt5 s.heap t1 t2}) :=
 .of_wp λprog w A R s h=>by
  obtain⟨hp,g,d,tk,os⟩:=s;obtain⟨h1,h2,h⟩:=h;have hsub:=sub_zip;have q1:Heap.IsTuple (Shared.heap ⟨hp,g,d,tk,os⟩) t1 xs:=h1;have q2:Heap.IsTuple (Shared.heap ⟨hp.push {cls:=.type "tuple_iterator",data:=.fields #[.ref t1, .int 0 0]},g,d,tk,os⟩) t2 ys:=Heap.IsTuple.push h2 _
  wp_walk using wpAny_pyIter_tuple q1,wpAny_pyIter_tuple q2
  exact⟨_,rfl,h⟩
theorem TY {t1 t2:Addr}{xs ys:Array Value}{Q:Value->Shared->Prop}(h1:s.heap.IsTuple t1 xs)(h2:s.heap.IsTuple t2 ys)
  (h:∀h' z TI TO i1 i2,s.heap.objs.size<=z->s.heap.objs.size<=TI->s.heap.objs.size<=TO->s.heap.objs.size<=i1->s.heap.objs.size<=i2->aap h' z TI TO i1 i2 t1 t2 0->(∀c o,s.heap.get? c=some o->h'.get? c=some o)->Q (.ref z) {s with heap:=h'}):
  wpAny (model prog w) A (call (.type "zip") [.ref t1, .ref t2]) Q E s:=by
 refine callType_new F.called_zip (by decide) (F.typeCall_zip_2 _ _) (F.newCall_zip_2 _ _) (λobj=>F.args_object_init_3 obj _ _) F.entry_zip_new (NQ t1 t2 xs ys) ⟨h1,h2,?_⟩;have z1:(zt1 s.heap t1).objs.size=s.heap.objs.size+1:=ajn ..;have z2:(zt2 s.heap t1 t2).objs.size=s.heap.objs.size+2:=by rw[ajn,z1]
 have z3:(zt3 s.heap t1 t2).objs.size=s.heap.objs.size+3:=by rw[ajn,z2]
 have z4:(zt4 s.heap t1 t2).objs.size=s.heap.objs.size+4:=by rw[ajn,z3]
 have p5:(zt5 s.heap t1 t2).get? (zt4 s.heap t1 t2).objs.size=some _:=aiC _ rfl;have p4:(zt5 s.heap t1 t2).get? (zt3 s.heap t1 t2).objs.size=some _:=aiq _ (aiC _ rfl);have p3:(zt5 s.heap t1 t2).get? (zt2 s.heap t1 t2).objs.size=some _:=aiq _ (aiq _ (aiC _ rfl));have p2:(zt5 s.heap t1 t2).get? (zt1 s.heap t1).objs.size=some _:=aiq _ (aiq _ (aiq _ (aiC _ rfl)));have p1:(zt5 s.heap t1 t2).get? s.heap.objs.size=some _:=aiq _ (aiq _ (aiq _ (aiq _ (aiC _ rfl))));refine⟨⟨_,p5,rfl⟩,h _ _ _ _ _ _ ?_ ?_ ?_ (aio _) ?_ ⟨?_,p5,p3,⟨_,_,p4⟩,⟨_,p1,rfl,rfl⟩,⟨_,p2,rfl,rfl⟩⟩ λc o e=>aiq _ (aiq _ (aiq _ (aiq _ (aiq _ e))))⟩
 ·rw[z4];exact ajb _ _
 ·rw[z2];exact ajb _ _
 ·rw[z3];exact ajb _ _
 ·rw[z1];exact ajb _ _
 ·rw[z1,z2,z3,z4]
  generalize s.heap.objs.size=n;simp only[ajV,aiB,aiz,or_false,not_or,ajZ,and_true,not_false_eq_true];refine⟨⟨?_,?_,?_,?_⟩,⟨?_,?_,?_⟩,⟨?_,?_⟩,?_⟩<;>(intro q;simp at q)
end
end PySem
namespace L2
open PySem PySem.Spec PyProof.Rows
def Ii (zP:Scope)(N:List Str)(bV:List Str)(lM:List Nat)(aQ:Scope):Bool :=
 aQ.kind==.function&&(aQ.names.all (λy=>y.2 !=.cell)&&(aQ.names.all (λy=>y.2 !=.local||aQ.names.lookup y.1==some .local)&&(aQ.names.all (λy=>y.2 !=.free||(zP.names.lookup y.1==some .cell||zP.names.lookup y.1==some .free))&&
 (lM.length==bV.length&&((lM.zip bV).all (λp=>N[p.1]?==some p.2)&&bV.all (λy=>aQ.names.lookup y==some .free))))))
theorem DP {X:Cx}{zP:Scope}{N:List Str}{bV:List Str}{lM:List Nat}{aQ:Scope}(h:Ii zP N bV lM aQ=true)(ho:X.env.scope=zP)(hN:X.N=N):
  qJ X bV lM aQ/\∀y∈bV,aQ.names.lookup y=some .free:=by
 unfold Ii at h;simp only[ain,ajq,aiM,bne_iff_ne,beq_iff_eq,decide_eq_true_eq]at h;obtain⟨h1,h2,h3,h4,h7,h8,h9⟩:=h;have fl:∀y∈bV,aQ.names.lookup y=some .free:=λy hy=>h9 y hy;refine⟨⟨h1,h2,λy hy e=>?_,λy hy e=>?_,λj y hj=>?_,h7,λy hy=>dB (fl y hy)⟩,fl⟩
 ·rcases h3 y hy with q|q
  ·exact absurd e q
  ·exact q
 ·have q:zP.names.lookup y.1=some .cell\/zP.names.lookup y.1=some .free:=by
   rcases h4 y hy with q|q
   ·exact absurd e q
   ·exact q
  rw[<-ho]at q;exact q
 ·obtain⟨k,e1,e2⟩:=zip_get h7 hj
  exact⟨k,e1,by rw[hN];exact h8 (k,y) e2⟩
theorem ac4 {X:Cx}{rZ eX tg:Expr}{pos:Pos}{ifs:List Expr}{aQ:Scope}{wi:TI}{g:TG}{tt:TT}{te:TE}(zP:Scope)(N:List Str)(M bV:List Str)(lM:List Nat)
  (hk:Ii zP N bV lM aQ=true) (hi:PI X tg eX wi) (hg:∀C s₀ H₀ ex,PG (fQ X (M++bV) aQ C s₀ H₀ ex) tg g)
  (ht:∀C s₀ H₀ ex,Zm (fQ X (M++bV) aQ C s₀ H₀ ex) ifs tt) (he:∀C s₀ H₀ ex,PE (fQ X (M++bV) aQ C s₀ H₀ ex) rZ te)
  (ho:X.env.scope=zP:=by rfl) (hN:X.N=N:=by rfl) (hc:X.calm=true:=by rfl) (hs:∀v,foldedSetIterable eX X.env v=pure v:=by intro _;rfl):PE X (.ListComp rZ [⟨tg,eX,ifs,0⟩] aQ pos) (xg M.length lM wi g tt te):=by
 obtain⟨S,fl⟩:=DP (X:=X) hk ho hN;exact Fl (qt:=Calm) (λ_ _ _ _=>hc) S fl hi hg ht he hs
section
variable {X:Cx}{aZ:List (Addr×Obj)}{U:St}{H:Hp}{s:Shared}{h':Heap}
theorem Inv.QH {t':Nat}{ch:List Addr}(I:Inv X aZ U H s)(k:∀b o,b∉ch->s.heap.get? b=some o->h'.get? b=some o)(hf:∀b∈ch,Ae X aZ H b):Inv X aZ U H {s with heap:=h',toks:=t'}:=by
 have nit:∀b u,H b=some u->b∉ch:=λb u e z=>by rw[(hf b z).1]at e;cases e
 refine I.step (g':=s.gens) (d':=s.drawn) (ch:=ch) (λb hb=>?_) (λb o _ _ hc e _=>k b o hc e) (λb o _ _ hc e _=>⟨o.slots,k b o hc e⟩) (λ_ _ _ _ n=>n)
  (λb o hc e=>⟨o,k b o hc e⟩) (λ_ _ e=>e) (λ_ _ _ e=>e) (λb ps e=>⟨#[],by rw[e];simp⟩) (λm hm=>?_) (λb u e=>?_) I.bare
 ·obtain⟨f0,f1,f2,f3,f4,f5⟩:=hf b hb
  exact⟨f3,f1,f4,f5⟩
 ·obtain⟨o,es,ep,ho,r⟩:=hm
  exact⟨o,es,ep,k _ o (λz=>(hf _ z).2.1 rfl) ho,r⟩
 ·refine(I.hok b u e).stay (λc v hc q=>k c v ?_ q) (λ_ q=>q) λ_ _ q=>q
  rcases hc with z|z
  ·rw[z];exact nit b u e
  ·exact nit c _ z
theorem Inv.ac5 {D:Addr}{vs:List V}{aU:List Value}(I:Inv X aZ U H s)(hf:Ae X aZ H D)(hz:vs.length<=sizeLine)(hv:Vals vs aU)(e:IsTup s.heap D aU.toArray):Inv X aZ U (upd H D (.tup vs)) s:=by
 obtain⟨hD,h2,_,h1,h3,h4⟩:=hf;obtain⟨hh,g,d,t,o⟩:=s;have nD:∀b u,H b=some u->b≠D:=λb u q z=>by rw[z,hD]at q;cases q
 refine I.step (g':=g) (d':=d) (t':=t) (h':=hh) (ch:=[D]) (λb hb=>?_) (λb o _ _ _ q _=>q) (λb o _ _ _ q _=>⟨o.slots,q⟩) (λb o hb q n=>?_) (λb o _ q=>⟨o,q⟩)
  (λb xs q=>by rw[bI (nD b _ q)];exact q) (λb o u q=>by rw[bI (nD b _ q)];exact q) (λb ps q=>⟨#[],by rw[bI (nD b _ q),q];simp⟩) (λm q=>q) (λb u q=>?_) I.bare
 ·have z:b=D:=by simpa using hb
  subst z;exact⟨h1,h2,h3,h4⟩
 ·rw[bI (by simpa using hb)];exact n
 ·by_cases z:b=D
  ·subst z
   rw[bf]at q;cases q;exact⟨hz,aU,hv,e⟩
  ·rw[bI z]at q
   exact(I.hok b u q).stay (λ_ _ _ q=>q) (λc q=>by rw[bI (nD c _ q)];exact q) λc xs q=>by rw[bI (nD c _ q)];exact q
end
def Itz (a b:Addr):It :=
 ⟨λi H=>∃xs ys x y,H a=some (.tup xs)/\H b=some (.tup ys)/\xs[i]?=some x/\ys[i]?=some y,
  λi H v H'=>∃(T:Addr) (xs ys:List V) (x y:V),H a=some (.tup xs)/\H b=some (.tup ys)/\xs[i]?=some x/\ys[i]?=some y/\H T=none/\v=.ref T/\H'=upd H T (.tup [x,y]),
  λi H=>∃xs,H a=some (.tup xs)/\xs.length<=i⟩
theorem Xb {P:Program}{w:World}{K:PySem.W.Frag}{elts:List Expr}{x1}{pos:Pos}(a b z TI TO i1 i2:Addr):Turn P w K (.Tuple elts x1 pos) (Itz a b) [z,TI,TO,i1,i2] z (λi h=>aap h z TI TO i1 i2 a b i) where
 mem:=by simp
 obj:=λi h st c hc=>by
  simp only[aiB,aiz,or_false]at hc;obtain⟨nd,zz,ti,⟨u,v,tO⟩,⟨o1,j1,c1,d1⟩,⟨o2,j2,c2,d2⟩⟩:=st;rcases hc with rfl|rfl|rfl|rfl|rfl
  ·exact⟨_,zz,λv q=>by cases q⟩
  ·exact⟨_,ti,λv q=>by cases q⟩
  ·exact⟨_,tO,λv q=>by cases q⟩
  ·exact⟨o1,j1,λv q=>by rw[d1]at q;cases q⟩
  ·exact⟨o2,j2,λv q=>by rw[d2]at q;cases q⟩
 keep:=λi h h' st k=>by
  obtain⟨nd,zz,ti,⟨u,v,tO⟩,⟨o1,j1,r1⟩,⟨o2,j2,r2⟩⟩:=st;exact⟨nd,k _ (by simp) _ zz,k _ (by simp) _ ti,⟨u,v,k _ (by simp) _ tO⟩,⟨o1,k _ (by simp) _ j1,r1⟩,⟨o2,k _ (by simp) _ j2,r2⟩⟩
 item:=by
  intro X hP hw hK hc i aZ s U H E I hf st hg;subst hP hw hK;obtain⟨xs,ys,x,y,ha,hb,hx,hy⟩:=hg;obtain⟨Tn,rv1,p1,z1⟩:=I.tuple (dY.of ha);obtain⟨wZ,rv2,p2,z2⟩:=I.tuple (dY.of hb);obtain⟨u1,hu1,ru1⟩:=rv1.get hx;obtain⟨u2,hu2,ru2⟩:=rv2.get hy;have sub:∀c∈[z,TO,i1,i2],c∈[z,TI,TO,i1,i2]:=λc hc=>by
   simp only[aiB,aiz,or_false]at hc ⊢;rcases hc with h|h|h|h
   ·exact .inl h
   ·exact .inr (.inr (.inl h))
   ·exact .inr (.inr (.inr (.inl h)))
   ·exact .inr (.inr (.inr (.inr h)))
  have no:∀c u,H c=some u->c∉[z,TO,i1,i2]:=λc u e q=>by rw[(hf c (sub c q)).1]at e;cases e
  have lt:∀c∈[z,TI,TO,i1,i2],c<s.heap.objs.size:=λc hc=>by
   simp only[aiB,aiz,or_false]at hc;obtain⟨nd,zz,ti,⟨u,v,tO⟩,⟨o1,j1,c1,d1⟩,⟨o2,j2,c2,d2⟩⟩:=st;rcases hc with rfl|rfl|rfl|rfl|rfl
   ·exact aiu zz
   ·exact aiu ti
   ·exact aiu tO
   ·exact aiu j1
   ·exact aiu j2
  refine TX st (no a _ ha) (no b _ hb) (show s.heap.IsTuple a Tn.toArray from p1) (show s.heap.IsTuple b wZ.toArray from p2) (x:=u1) (y:=u2) (by simpa using hu1) (by simpa using hu2) λh' q1 q2 q3 q4 q5 q6 _ kp=>⟨_,rfl,?_⟩;refine wpAny_letOwnedTupleGo_zip (s:={s with heap:=h'}) q1 λh2 q7 r7=>?_;have nd:=st.nd;have I1:Inv X aZ U H {s with heap:=h2}:=I.QH (t':=s.toks) (ch:=[z,TO,i1,i2]) (λc o hc e=>r7.extBut c o (λq=>hc (by simp[q])) (kp c o hc e)) λc hc=>hf c (sub c hc);have fr:H s.heap.objs.size=none:=I.hok.fresh (aio _);have ne:∀c∈[z,TI,TO,i1,i2],c≠s.heap.objs.size:=λc hc q=>by have:=lt c hc;rw[q]at this;exact aiI _ this
  have I2:=I1.ac5 (D:=s.heap.objs.size) (vs:=[x,y]) (aU:=[u1,u2]) (I.Dy (aio _) fr) (by show 2<=sizeLine;rw[sizeLine_eq];decide) (.cons ru1 (.cons ru2 .nil)) ⟨_,r7.extBut _ _ (Ne.symm (ne z (by simp))) q6,rfl,_,rfl⟩;simp only[ajV,aiB,aiz,or_false,not_or,ajZ,and_true,not_false_eq_true]at nd;obtain⟨⟨zTI,zTO,z1',z2'⟩,_⟩:=nd;refine⟨.ref s.heap.objs.size,_,I2,rfl,⟨_,xs,ys,x,y,ha,hb,hx,hy,fr,rfl,rfl⟩,⟨st.nd,q7,r7.extBut _ _ (Ne.symm zTI) q2,⟨_,_,r7.extBut _ _ (Ne.symm zTO) q3⟩,q4.extBut r7.extBut (Ne.symm z1'),q5.extBut r7.extBut (Ne.symm z2')⟩,λc hc=>?_⟩;rw[bI (ne c hc)];exact(hf c hc).1
 done:=by
  intro X hP hw hK hc i aZ s U H E I hf st hg;subst hP hw hK;obtain⟨xs,ha,hx⟩:=hg;obtain⟨Tn,rv1,p1,z1⟩:=I.tuple (dY.of ha);have hl:=rv1.length;have sub:∀c∈[z,TO,i1,i2],c∈[z,TI,TO,i1,i2]:=λc hc=>by
   simp only[aiB,aiz,or_false]at hc ⊢;rcases hc with h|h|h|h
   ·exact .inl h
   ·exact .inr (.inr (.inl h))
   ·exact .inr (.inr (.inr (.inl h)))
   ·exact .inr (.inr (.inr (.inr h)))
  have no:∀c u,H c=some u->c∉[z,TO,i1,i2]:=λc u e q=>by rw[(hf c (sub c q)).1]at e;cases e
  exact Xa (I.ok.hd hc) st (no a _ ha) (show s.heap.IsTuple a Tn.toArray from p1) (by simp;exact aiv (ajQ hl.symm) hx) λh' kp=>⟨rfl,I.QH (t':=s.toks) (ch:=[z,TO,i1,i2]) kp λc hc=>hf c (sub c hc)⟩
 self:=λ_ _ _ _ _ st h=>wpAny_pyIter_zip st.zz h
theorem T3:bootBuiltins "zip"=some (.type "zip"):=by decide+kernel
def agf (ta:TA):TI:=λU H R=>ta U H λvs H1=>∃a b xs ys,vs=[.ref a, .ref b]/\H1 a=some (.tup xs)/\H1 b=some (.tup ys)/\R (Itz a b) H1
theorem ac6 {X:Cx}{e1 e2:Expr}{ta:TA}{p pos pt:Pos}{elts:List Expr}{x1}(hg:Gl X "zip")(hm:X.mg "zip"=none)(ha:PA X [e1,e2] ta)
  (hs:starEach [e1,e2] X.env=[(false,eval e1 X.env),(false,eval e2 X.env)]:=by rfl) (hs2:starEach [e2] X.env=[(false,eval e2 X.env)]:=by rfl):PI X (.Tuple elts x1 pt) (.Call (.Name "zip" p) [e1,e2] [] pos) (agf ta):=by
 intro aZ s U H R I h;refine Call_ (wX I hg hm T3 (PyProof.Rows.callWith_type1 (eU (ha pos aZ s U H _ I h) λus s1 ⟨vs,H1,I1,r1,q1⟩=>?_) (by rw[hs,hs2]) (by rw[hs2];rfl)));obtain⟨a,b,xs,ys,rfl,h1,h2,q⟩:=q1;cases r1 with
 |cons r rr=>
  cases rr with
  |cons r' rr=>
   cases rr;cases r;cases r';obtain⟨Tn,rv1,p1,z1⟩:=I1.tuple (dY.of h1);obtain⟨wZ,rv2,p2,z2⟩:=I1.tuple (dY.of h2);refine TY (show s1.heap.IsTuple a Tn.toArray from p1) (show s1.heap.IsTuple b wZ.toArray from p2) λh' z TI TO i1 i2 l1 l2 l3 l4 l5 Z kp=>?_;refine wpAny_pyIter_zip (s:={s1 with heap:=h'}) Z.zz ?_;refine⟨z,[z,TI,TO,i1,i2],_,_,H1,rfl,I1.kept (t':=s1.toks) kp,Xb a b z TI TO i1 i2,Z,λc hc=>?_,q⟩;simp only[aiB,aiz,or_false]at hc;rcases hc with rfl|rfl|rfl|rfl|rfl
   ·exact I1.Dy l1 (I1.hok.fresh l1)
   ·exact I1.Dy l2 (I1.hok.fresh l2)
   ·exact I1.Dy l3 (I1.hok.fresh l3)
   ·exact I1.Dy l4 (I1.hok.fresh l4)
   ·exact I1.Dy l5 (I1.hok.fresh l5)
end L2
namespace Fw
open PySem PySem.Spec PyProof.Rows L2
abbrev s_same:Stmt:=top 113
def xW:T->Bool
 |.int _=>true
 |_=>false
theorem QJ (K:PySem.W.Frag)(t:T):PySem.W.kitOne K (tyT t) (.type "int")=some (xW t):=by
 cases t with
 |int i=>first|rfl|(with_unfolding_all rfl)|kernel_rfl
 |str x=>first|rfl|(with_unfolding_all rfl)|kernel_rfl
 |tup l=>first|rfl|(with_unfolding_all rfl)|kernel_rfl
theorem KQ (K:PySem.W.Frag)(t:T):PySem.W.kitOne K (tyT t) (.type "bool")=some false:=by
 cases t with
 |int i=>first|rfl|(with_unfolding_all rfl)|kernel_rfl
 |str x=>first|rfl|(with_unfolding_all rfl)|kernel_rfl
 |tup l=>first|rfl|(with_unfolding_all rfl)|kernel_rfl
theorem Xc {H:Hp}{n:Nat}{a b:Addr}{xs ys:List V}{g:TG}{tt:TT}{te:TE}{U':L2.St}{Q:VK}(fP:xs.length=ys.length)(Pv:Nat->List V->Hp->Prop)(h0:Pv 0 [] H)
  (hl:∀i vs H,i<=xs.length->Pv i vs H->H a=some (.tup xs)/\H b=some (.tup ys)/\vs.length<sizeLine)
  (hs:∀i x y (T:Addr) vs H2 (τ:L2.St),τ.length=n->i<xs.length->xs[i]?=some x->ys[i]?=some y->H2 T=none->Pv i vs H2->g (.ref T) (τ++U') (upd H2 T (.tup [x,y])) λU1 H3=>(∃τ':L2.St,U1=τ'++U'/\τ'.length=n)/\tt U1 H3 λb H4=>if b=true then te U1 H4 λv H5=>Nx xs.length i (Pv (i+1) (vs++[v]) H5) else Nx xs.length i (Pv (i+1) vs H4))
  (hd:∀vs H2,Pv xs.length vs H2->∀l,H2 l=none->Q (.ref l) (upd H2 l (.lst vs))):MJ n (Itz a b) g tt te U' Q H:=by
 refine⟨λi m vs H=>m=xs.length-i/\i<=xs.length/\Pv i vs H,⟨xs.length,by simp,aiP _,h0⟩,?_⟩;rintro i m vs H2 ⟨rfl,hi,p⟩;obtain⟨q1,q2,q3⟩:=hl i vs H2 hi p;refine⟨q3,?_⟩;by_cases vI:i<xs.length
 ·refine .inr ⟨⟨xs,ys,xs[i],ys[i],q1,q2,by simp[vI],by simp[<-fP,vI]⟩,?_⟩
  rintro τ v H3 lτ ⟨T,xs',ys',x,y,e1,e2,hx,hy,hT,rfl,rfl⟩;rw[q1]at e1;rw[q2]at e2;cases e1;cases e2;exact hs i x y T vs _ τ lτ vI hx hy hT p
 ·have e:i=xs.length:=by omega
  subst e;exact .inl ⟨⟨xs,q1,aio _⟩,hd vs H2 p⟩
inductive Cg (n:Nat)(vs:List V)(H:Hp)(Q:VK)(E_:XK):Prop where
 |mk (v1 v2:V) (t:T):vs=[v1,v2]->Rep H v1 t->Rep H v2 t->Tr n t->iT (iC t)<=6000->(∀H',Same H H'->Q (.bl true) H')->Cg n vs H Q E_
def QK:Nat->Sp
 |0=>λ_ _ _ _=>False
 |n+1=>Cg n
theorem aaq {t:T}{l:List T}(h:t∈l):iT (iC t)<=iT (cW l):=by
 induction l with
 |nil=>cases h
 |cons a l ih=>
  rw[cW,jl];rcases aiB.mp h with rfl|h
  ·omega
  ·have:=ih h;omega
theorem QL (t:T):3<=iT (iC t):=by
 have:1<=(iC t).length:=by cases t<;>simp[iC]
 have:=zX (iC t);omega
theorem Xd (l:List T):3*l.length<=iT (cW l):=by
 induction l with
 |nil=>simp[cW,iT]
 |cons a l ih=>
  rw[cW,jl,aiF];have:=QL a;omega
section
variable {P:Program}{w:World}{K:PySem.W.Frag}{mg:Str->Option Value}{aN:Heap}{f:Addr}{fd:FuncData}
theorem aar:bG ["_law_told","_law_due"] ["_law_told","_law_due"] (bA s_same):=⟨rfl,rfl,rfl,by decide+kernel,rfl,by decide+kernel,by decide+kernel⟩
theorem KR:((["_law_one","_law_other"]:List Str)++([]:List Str)).Nodup:=by decide+kernel
set_option maxHeartbeats 1000000 in
theorem aas {n:Nat}(F:eV K "_law_same" "_law_same" s_same f fd)(mi:mg "isinstance"=none)(mt:mg "tuple"=none)(ms:mg "str"=none)(mn:mg "int"=none)(mb:mg "bool"=none)(ml:mg "len"=none)(ma:mg "all"=none)(mz:mg "zip"=none)
  (h2:Has P w K mg aN n "_law_same" ["_law_told","_law_due"] (QK n)):cj P w K mg aN eY (n+1) f fd ["_law_told","_law_due"] (Cg n):=by
 refine F.ok aar (λcX A aM s H vs Q E hr h=>?_);obtain⟨v1,v2,t,rfl,r1,r2,kt,hw,q⟩:=h;refine⟨_,bx (cF (cT (bH d8 rfl mi boot_isinstance (aW (pv 1) (aW (eZ (v:=.ty "tuple") rfl mt boot_tuple rfl) aX))))
   (bx (cF (PW.pt (kj (dZ (cT (bH d8 rfl mi boot_isinstance (aW (pv 0) (aW (eZ (v:=.ty "tuple") rfl mt boot_tuple rfl) aX)))))
     (jm (bL PJ (bH (Wz K) rfl ml PySem.boot_len (aW (pv 0) aX)) (bH (Wz K) rfl ml PySem.boot_len (aW (pv 1) aX)) (bM _))))) (bh (bD lG)) bK)
   (bh (bD (bH (Ao rfl) rfl ma boot_all (aW
    (ac4 (g:=acj K 2 (Vi (oW 0) (Vi (oW 1) aer))) (bA s_same) ["_law_told","_law_due"] ["_law_one","_law_other"] [] [] (by decide+kernel) (ac6 rfl mz (aW (pv 0) (aW (pv 1) aX)))
     (λC s₀ H₀ ex=>pgT K (n:=2) rfl (JF (eO (i:=0) KR rfl (Or.inl rfl) (Or.inr rfl)) (JF (eO (i:=1) KR rfl (Or.inl rfl) (Or.inr rfl)) ZC)))
     (λC s₀ H₀ ex=>ji) (λC s₀ H₀ ex=>bB h2 hr (aio _) rfl (aW (pv 0) (aW (pv 1) aX)))) aX))))) bK)
  (bx (cF (cT (bH d8 rfl mi boot_isinstance (aW (pv 1) (aW (eZ (v:=.ty "str") rfl ms boot_str rfl) aX))))
   (bh (bD (cQ (bH d8 rfl mi boot_isinstance (aW (pv 0) (aW (eZ (v:=.ty "str") rfl ms boot_str rfl) aX))) (dG (dR cN (pv 0) (pv 1) (bM _)))))) bK)
  (bh (bD (cQ (bH d8 rfl mi boot_isinstance (aW (pv 0) (aW (eZ (v:=.ty "int") rfl mn PyProof.Rows.boot_int rfl) aX)))
   (cQ (Mg (bH d8 rfl mi boot_isinstance (aW (pv 0) (aW (eZ (v:=.ty "bool") rfl mb PyProof.Rows.boot_bool rfl) aX)))) (dG (dR cN (pv 0) (pv 1) (bM _)))))))),?_⟩
 refine⟨_,rfl,_,_,_,_,rfl,qN r2,qO K t,_,rfl,?_⟩;cases kt with
 |«at» A0=>
  cases r1 with
  |int i=>
   cases r2;refine dW ⟨_,rfl,_,_,_,_,rfl, .int i,ni K (.int i),_,rfl,dW ?_⟩;refine⟨_,rfl,_,_,_,_,rfl, .int i,QJ K (.int i),_,rfl,dM ⟨_,rfl,_,_,_,_,rfl, .int i,KQ K (.int i),_,rfl,_,rfl,dM ⟨_,rfl,_,rfl,rfl,?_⟩⟩⟩;rw[decide_eq_true rfl];exact q _ (Same.refl _)
  |str z hz=>
   cases r2;refine dW ⟨_,rfl,_,_,_,_,rfl, .str z,ni K (.str z),_,rfl,dM ?_⟩;refine⟨_,rfl,_,_,_,_,rfl, .str z,ni K (.str z),_,rfl,dM ⟨_,rfl,_,rfl,rfl,?_⟩⟩;rw[decide_eq_true rfl];exact q _ (Same.refl _)
  |tup _ _=>exact absurd rfl (A0.nt _)
 |@tp j ks hk=>
  rw[gq]at hw;have kl:=Xd ks;refine dM ?_;cases r1 with
  |@tup a xs _ ha ra=>
   cases r2 with
   |@tup b ys _ hb rb=>
    have lx:=ra.length;have ly:=rb.length;refine⟨_,rfl,_,_,_,_,rfl, .tup ha,qO K (.tup []),_,rfl,dW ?_⟩;refine⟨_,rfl,a,xs,rfl, .inr (dY.of ha),_,rfl,b,ys,rfl, .inr (dY.of hb),rfl,_,rfl,?_⟩;rw[show xs.length=ys.length by omega,decide_eq_true rfl];refine dW ?_;refine⟨_,rfl,_,rfl,a,b,xs,ys,rfl,ha,hb,Xc (xs:=xs) (ys:=ys) (by omega) (λi ws H'=>Same H H'/\ws=List.replicate i (V.bl true)) ⟨Same.refl _,rfl⟩ ?_ ?_ ?_⟩
    ·rintro i ws H' hi ⟨e,rfl⟩
     exact⟨e _ _ ha,e _ _ hb,fH (by rw[ajc];omega)⟩
    ·rintro i x y T0 ws H' τ lτ hi hx hy hT ⟨e,rfl⟩
     obtain⟨t1,ht1,rx⟩:=ra.get hx;obtain⟨t2,ht2,ry⟩:=rb.get hy;rw[ht1]at ht2;cases ht2;have hm:t1∈ks:=aiS ht1;have kt1:Tr j t1:=hk t1 hm;have wm:=aaq hm;have eT:=bw hT (.tup [x,y])
     match τ,lτ with
     |[o1,o2],_=>
      refine⟨T0,[x,y],rfl,dY.of bf,rfl,x,[y],rfl,y,[],rfl,rfl,⟨[some x,some y],rfl,rfl⟩,?_⟩;have eA:=e.trans eT;refine Zn (dM ⟨_,rfl,_,rfl,x,y,t1,rfl,rx.same eA,ry.same eA,kt1,by omega,λH5 e5=>nx hi ⟨eA.trans e5,?_⟩⟩);rw[List.replicate_succ']
    ·rintro ws H' ⟨e,rfl⟩ l hl
     refine⟨l,List.replicate xs.length true,rfl,?_,?_⟩
     ·rw[List.map_replicate]
      exact dX.of bf
     ·have:(List.replicate xs.length true).all id=true:=by
       rw[ajq];intro b hb;rw[(List.mem_replicate.mp hb).2]
       rfl
      rw[this];exact q _ (e.trans (bw hl _))
theorem Xe (F:eV K "_law_same" "_law_same" s_same f fd)(bF:Binds K fd ["_law_told","_law_due"] [])(hk:PySem.W.keepIn K (.ref f)=true)(mF:mg "_law_same"=some (.ref f))(mi:mg "isinstance"=none)(mt:mg "tuple"=none)(ms:mg "str"=none)(mn:mg "int"=none)(mb:mg "bool"=none)(ml:mg "len"=none)(ma:mg "all"=none)(mz:mg "zip"=none)(n:Nat):
  Has P w K mg aN n "_law_same" ["_law_told","_law_due"] (QK n):=by
 induction n with
 |zero=>exact⟨f,fd,⟨λ_ _ _ _ h=>h.elim,λ_ _ _ _ _ _ _ _ _ _ _ _ _ h=>h.elim⟩,bF,hk,mF⟩
 |succ n ih=>exact⟨f,fd,aas F mi mt ms mn mb ml ma mz ih,bF,hk,mF⟩
end
theorem jP {K:PySem.W.Frag}{ta:TE}{U:L2.St}{H:Hp}{a:Addr}{vs:List V}(h:Ev ta U H (.ref a))(s:dY K H a vs):Ev (ZM (gA K) (cV ta kI)) U H (.int vs.length) :=
 λQ q=>h _ λH' e=>⟨a,vs,rfl, .inr (Ft e s),q H' e⟩
abbrev xX:Stmt:=top 48
abbrev nZ:Stmt:=top 49
abbrev xY:Stmt:=top 50
section
variable {P:Program}{w:World}{K:PySem.W.Frag}{mg:Str->Option Value}{aN:Heap}{f:Addr}{fd:FuncData}
theorem vh:bG ["thing","within","waiting","inner"] ["thing","within"] (bA xX):=⟨rfl,rfl,rfl,by decide+kernel,rfl,by decide+kernel,by decide+kernel⟩
theorem Ci {kids:T->Option (List T)}(dec:∀{t l},kids t=some l->d9 l<t.sz){g:Addr}{gd:FuncData}{k:Nat}(F:eV K "all_fit" "all_fit" xX f fd)(G:Gb K mg)(hg:cj P w K mg aN eY k g gd ["thing"] (Bd kids))(kg:PySem.W.keepIn K (.ref g)=true)(bg:Binds K gd ["thing"] []):
  cj P w K mg aN eY (k+1) f fd ["thing","within"] (sV kids g):=by
 refine F.ok vh (len:=λvs H Q E h=>(by obtain⟨v,t,b,rfl,_⟩:=h;rfl)) (λcX A aM s H vs Q E hr h=>?_);obtain⟨v,t,b,rfl,rt,hsz,hb,q⟩:=h;refine⟨_,bx (cZ (i:=2) vh.nd rfl (Or.inl rfl) (dj (aW (pv 0) aX)))
  (bx (JH PassesOwn.never (bL rP (bH bO rfl G.len PySem.boot_len (aW (pv 2) aX)) aY (bM _))
   (bx (cZ (i:=3) vh.nd rfl (Or.inl rfl) (Ar (i:=1) hg hr rfl (Or.inl rfl) kg bg yO (aW (VL aiA ajJ ajK VR (pv 2)) aX)))
   (bx (cF (bL acs (pv 3) jQ (bM _)) (bh (bD lG)) bK)
   (bh (fj (jX aiA aj9 aj' EY (pv 2) (aW (pv 3) aX)))))))
  (bh (bD lG))),?_⟩
 refine⟨_,rfl,small (by show 1<=1000000;decide),λl hl=>?_⟩;refine⟨λm U H'=>∃(o:Option V) (vs:List V) (ts:List T),U=[some v,some (.ref g),some (.ref l),o]/\H' l=some (.lst vs)/\cB H' vs ts/\m=d9 ts/\d9 ts<=100000/\(∀c u,c≠l->H c=some u->H' c=some u)/\
   ((b=true/\∀t∈ts,Good kids t)\/(b=false/\∃t∈ts,Bad kids t)),⟨d9 [t],none,[v],[t],rfl,bf, .cons (rt.same (bw hl _)) .nil,rfl,by simpa[d9] using hsz,λc u hc e=>by rw[bI hc];exact e,?_⟩,?_⟩
 ·rcases hb with ⟨h1,h2⟩|⟨h1,h2⟩
  ·exact .inl ⟨h1,λt' ht'=>by rw[List.mem_singleton.mp ht'];exact h2⟩
  ·exact .inr ⟨h1,t,List.mem_singleton.mpr rfl,h2⟩
 rintro m U H1 ⟨o,vs,ts,rfl,hl1,hr1,rfl,hs1,hk1,alt⟩;refine⟨_,rfl,l,vs,rfl, .inl (dX.of hl1),_,_,rfl,rfl,_,rfl,?_⟩;refine ig (λc=>?_) (λc=>?_)
 ·have c1:(0:Int)<vs.length:=of_decide_eq_true c
  have ne:vs≠[]:=λe=>by rw[e]at c1;simp at c1
  obtain⟨ws,us,v',t',rfl,rfl,hws,hv'⟩:=hr1.snoc_inv ne;have oZ:∀b xs,H1 b=some (.tup xs)->(upd H1 l (.lst (ws++[v']).dropLast)) b=some (.tup xs):=λb xs h=>by
   rw[bI (uJ h hl1 (by intro z;cases z))];exact h
  have abO:∀{H2:Hp},Same (upd H1 l (.lst (ws++[v']).dropLast)) H2->∀c u,c≠l->H c=some u->H2 c=some u:=λ{H2} e c u hc h=>e c u (by rw[bI hc];exact hk1 c u hc h);refine⟨_,λ_ _ h=>h,?_⟩;refine⟨rfl,_,rfl, .inl ⟨rfl,_,dX.of hl1⟩,l,ws++[v'],v',rfl,rfl,hl1,by simp,v',t',rfl,hv'.mono oZ,λhn H2 e2=>?_,λkl hkl H2 p zs e2 hp hp2 hr2=>?_⟩
  ·refine⟨_,rfl,rfl,_,rfl,?_⟩
   refine dM ?_;rcases alt with ⟨h1,h2⟩|⟨h1,h2⟩
   ·have:=h2 t' (by simp)
    cases this with
    |mk h _=>rw[hn]at h;cases h
   ·subst h1
    exact q H2 λc u h=>abO e2 c u (cY h hl) h
  ·refine⟨_,rfl,rfl,_,rfl,?_⟩
   refine dW ?_;have hl2:H2 l=some (.lst ws):=by
    have:=e2 l _ bf;rw[this,ajg]
   have rW:p≠l:=λz=>by
    rw[z,bf]at hp;cases hp
   have fP:ws.length+zs.length<=100000:=by
    have l1:=Ht us;have l2:=Ht kl;have l3:=hws.length;have l4:=hr2.length;have l5:=dec hkl;rw[iB]at hs1;simp[d9]at hs1;omega
   refine⟨_,rfl, .inl ⟨rfl,_,dX.of hl2⟩,_,rfl,l,p,ws,zs,rfl,rfl,hl2,hp2,small (by omega),?_⟩;have afe:∀b xs,H2 b=some (.tup xs)->(upd H2 l (.lst (ws++zs))) b=some (.tup xs):=λb xs h=>by
    rw[bI (uJ h hl2 (by intro z;cases z))];exact h
   have dk:=dec hkl;refine⟨d9 (us++kl),by rw[iB,iB];simp[d9];omega,some (.ref p),ws++zs,us++kl,rfl,bf,((hws.mono oZ).same e2 |>.append hr2).mono afe,rfl,by rw[iB];rw[iB]at hs1;simp[d9]at hs1;omega,
    λc u hc h=>by rw[bI hc];exact abO e2 c u hc h,?_⟩
   rcases alt with ⟨h1,h2⟩|⟨h1,t2,h2,h3⟩
   ·refine .inl ⟨h1,λt3 ht3=>?_⟩
    rcases List.mem_append.mp ht3 with z|z
    ·exact h2 t3 (by simp[z])
    ·have:=h2 t' (by simp)
     cases this with
     |mk h q3=>
      rw[hkl]at h;cases h;exact q3 t3 z
   ·refine .inr ⟨h1,?_⟩
    rcases List.mem_append.mp h2 with z|z
    ·exact⟨t2,aiY _ z,h3⟩
    ·have e:t2=t':=List.mem_singleton.mp z
     subst e;cases h3 with
     |none h=>rw[hkl]at h;cases h
     |@kid _ l' k' h m q3=>
      rw[hkl]at h;cases h;exact⟨k',ait _ m,q3⟩
 ·have c1:¬(0:Int)<vs.length:=of_decide_eq_false (Bool.eq_false_iff.mpr c)
  have e:vs=[]:=List.length_eq_zero_iff.mp (by omega);subst e;cases hr1;rcases alt with ⟨h1,h2⟩|⟨h1,t2,h2,_⟩
  ·subst h1
   exact q H1 λc u h=>hk1 c u (cY h hl) h
  ·cases h2
def Zt (f:T->Bool):List T->Bool
 |h::_=>f h
 |[]=>false
theorem QM (z:Str):(decide (z="num")||(iz z||(nameB z||dN z)))=jK z:=by
 unfold jK;simp only[Bool.or_assoc]
theorem rQ:bG ["thing","alone"] ["thing"] (bA nZ):=⟨rfl,rfl,rfl,by decide+kernel,rfl,by decide+kernel,by decide+kernel⟩
theorem zu (F:eV K "kinds_within" "kinds_within" nZ f fd)(G:Gb K mg)(har:∃t,mg "ARROW"=some (.str "->" t))(hv:Has P w K mg aN 3 "is_variable" ["thing"] (spT (onStr iz)))(hn:Has P w K mg aN 3 "is_name" ["thing"] (spT (onStr nameB)))
  (hp:Has P w K mg aN 4 "is_path" ["thing"] (spT (onStr dN))):cj P w K mg aN eY 5 f fd ["thing"] (Bd jw):=by
 refine F.ok rQ (len:=λvs H Q E h=>(by obtain⟨v,t,rfl,_⟩:=h;rfl)) (λcX A aM s H vs Q E hr h=>?_);obtain⟨v,t,rfl,rt,q1,q2⟩:=h;obtain⟨t1,har⟩:=har;refine⟨_,bx (cF (dZ (cT (bH d8 rfl G.UW boot_isinstance (aW (pv 0) (aW (eZ (v:=.ty "tuple") rfl G.tuple boot_tuple rfl) aX)))))
   (bx (cZ (i:=1) rQ.nd rfl (Or.inl rfl) (rO (dR (m8.or cN (iw hr.uU)) (pv 0) bQ (bM _)) (rO (bB hv hr (by decide) rfl (aW (pv 0) aX)) (rO (bB hn hr (by decide) rfl (aW (pv 0) aX)) (dG (bB hp hr (by decide) rfl (aW (pv 0) aX)))))))
    (bh (bD (kE (cT (pv 1)) (dj aX) jQ)))) bK)
  (bx (cF (PW.pt (uQ (bL cN (bH bO rfl G.len PySem.boot_len (aW (pv 0) aX)) aY (bM _)) (qD (bL (m8.or cN (iw hr.uU)) (bU cD (pv 0) aY (λ_ _=>rfl)) (bZ (v:=.str "->") rfl har ⟨_,rfl⟩) (bM _)))))
   (bh (bD (cC gY rfl G.list boot_list (aW (cL gU (pv 0) (cR aY) dF) aX)))) bK)
  (bx (cF (PW.pt (uQ (sG mY mY aY (bH bO rfl G.len PySem.boot_len (aW (pv 0) aX)) aY)
    (qD (PW.pt (kj (cT (bB hn hr (by decide) rfl (aW (bU cD (pv 0) aY (λ_ _=>rfl)) aX))) (jm (cT (bB hp hr (by decide) rfl (aW (bU cD (pv 0) aY (λ_ _=>rfl)) aX)))))))))
   (bh (bD (cC gY rfl G.list boot_list (aW (cL gU (pv 0) (cR aY) dF) aX)))) bK)
  (bh (bD jQ)))),?_⟩
 refine fY (jM (oV (xG (bN rfl) rt (qO K)))) (λc H1 e1=>?_) (λc H1 e1=>?_)
 ·--no tuple
  refine Bj (Wa (bN rfl) (rt.same e1) λ_ _=>dI) (λ_ H2 e2=>Bj (pD (bN rfl) (rt.same (e1.trans e2))) (λ_ H3 e3=>Bj (pD (bN rfl) (rt.same (e1.trans (e2.trans e3))))
   (λ_ H4 e4=>pD (bN rfl) (rt.same (e1.trans (e2.trans (e3.trans e4))))))) _ λH5 e5=>?_
  have tail:∀(c:Bool),(c=true->jw t=some [])->(c=false->jw t=none)->tIf (tB (jE 1)) (Vw kI) (tC .non) [some v,some (.bl c)] H5 Q:=λc h1 h2=>by
   cases c with
   |true=>exact⟨_,rfl,_,rfl,dM ⟨small (by show 0<=1000000;decide),λl hl=>q2 [] (h1 rfl) _ l [] ((e1.trans e5).trans (bw hl _)) ((e1.trans e5).free hl) bf .nil⟩⟩
   |false=>exact⟨_,rfl,_,rfl,dW (q1 (h2 rfl) _ (e1.trans e5))⟩
  cases t with
  |int i=>exact tail _ (λz=>by cases z) (λ_=>rfl)
  |tup ts=>cases c
  |str z=>
   refine tail _ (λz'=>?_) (λz'=>?_)
   ·have z2:(decide (z="num")||(iz z||(nameB z||dN z)))=true:=z'
    rw[QM]at z2;rw[pY,if_pos z2]
   ·have z2:(decide (z="num")||(iz z||(nameB z||dN z)))=false:=z'
    rw[QM]at z2;rw[pY,if_neg (by rw[z2];exact aip)]
 ·--a tuple
  cases rt with
  |int i=>cases c
  |str z h=>cases c
  |@tup a vs ts ha j8=>
   have hS:∀{H2:Hp},Same H1 H2->dY K H2 a vs:=λe=>dY.of (e _ _ (e1 _ _ ha));have fP:=j8.length;have cut:∀(H2:Hp) (D:Ends) (o:Option V),Same H1 H2->D.rt=Q->∀h r,ts=h::r->jw (.tup ts)=some r->Mh (ZM (kJ K) (cV (Zk (Ak K) (jE 0) (uK (tC (.int 1))) lW) kI)) D [some (.ref a),o] H2:=λH2 D o e2 hD h r hts hk=>by
    have hne:vs≠[]:=λz=>by rw[z,hts]at fP;cases fP
    refine⟨_,rfl,1,rfl,a,vs,rfl,hS e2,Bh hne,λp hp=>?_⟩;refine⟨p,vs.drop 1,rfl, .inr (dY.of (by rw[bf,acG])),λl hl=>?_⟩;rw[hD];have g:Same H2 (upd (upd H2 p (.tup (lF vs (some 1) none))) l (.lst (vs.drop 1))):=(bw hp _).trans (bw hl _);refine q2 r hk _ l (vs.drop 1) ((e1.trans e2).trans g) ((e1.trans e2).free ((bw hp _).free hl)) bf ?_;subst hts;cases j8 with
    |cons r1 r2=>exact r2.same ((e1.trans e2).trans g)
   refine fY (Bk (iY (fJ (jP (bN rfl) (hS (Same.refl _))) λ_ _=>dI)) (c2:=Zt (onStr λz=>decide (z="->")) ts) (λc3 H2 e2=>?_)) (λc3 H2 e2=>?_) (λc3 H2 e2=>?_)
   ·have c4:(vs.length:Int)=3:=of_decide_eq_true c3
    cases j8 with
    |nil=>simp at c4
    |@cons v0 t0 vs' ts' r1 r2=>exact iY (Wa (Hu (bN rfl) (λ_ _=>dI) (hS e2) (atH rfl)) (r1.same (e1.trans e2)) λ_ _=>dI)
   ·simp only[ain,decide_eq_true_eq]at c3
    cases hts:ts with
    |nil=>rw[hts]at fP;rw[fP]at c3;simp at c3
    |cons h r=>
     refine cut H2 _ _ e2 rfl h r hts ?_;rw[hts]at c3 fP;have h2:r.length=2:=by simp at fP;omega
     rw[hts,jx,if_pos ⟨h2,c3.2⟩]
   ·have hn3:¬(vs.length=3/\Zt (onStr λz=>decide (z="->")) ts=true):=λz=>by
     rw[z.2]at c3;simp at c3;omega
    refine fY (Bk (iY (sX dI (λ_ e=>jP (bN rfl) (hS (e2.trans e))) λ_ _=>dI)) (c2:=Zt (λh=>onStr nameB h||onStr dN h) ts) (λc4 H3 e3=>?_)) (λc4 H3 e3=>?_) (λc4 H3 e3=>?_)
    ·have c5:2<=(vs.length:Int):=by simp at c4;omega
     cases j8 with
     |nil=>simp at c5
     |@cons v0 t0 vs' ts' r1 r2=>
      refine oY (oV (pD (Hu (bN rfl) (λ_ _=>dI) (hS (e2.trans e3)) (atH rfl)) (r1.same (e1.trans (e2.trans e3))))) (λ_ H4 e4=>oV (pD (Hu (bN rfl) (λ_ _=>dI) (hS (e2.trans (e3.trans e4))) (atH rfl)) (r1.same (e1.trans (e2.trans (e3.trans e4))))))
    ·simp only[ain,decide_eq_true_eq]at c4
     cases hts:ts with
     |nil=>rw[hts]at fP;rw[fP]at c4;simp at c4
     |cons h r=>
      refine cut H3 _ _ (e2.trans e3) rfl h r hts ?_;rw[hts]at c4 fP hn3;have h2:1<=r.length/\r.length<=3:=by simp at fP;omega
      have h3:onStr iR h=true:=by
       have:=c4.2;cases h with
       |int i=>cases this
       |tup l=>cases this
       |str z=>exact this
      have h4:¬(r.length=2/\onStr (λz=>decide (z="->")) h=true):=λz=>hn3 ⟨by rw[fP];simp;omega,z.2⟩;rw[hts,jx,if_neg h4,if_pos ⟨h2,h3⟩]
    ·refine q1 ?_ H3 ((e1.trans e2).trans e3)
     cases hts:ts with
     |nil=>rfl
     |cons h r=>
      rw[hts]at c4 fP hn3;have h4:¬(r.length=2/\onStr (λz=>decide (z="->")) h=true):=λz=>hn3 ⟨by rw[fP];simp;omega,z.2⟩;have h5:¬((1<=r.length/\r.length<=3)/\onStr iR h=true):=λz=>by
       have z2:(onStr nameB h||onStr dN h)=true:=by
        cases h with
        |int i=>exact z.2
        |tup l=>exact z.2
        |str x=>exact z.2
       have z3:(decide ((2:Int)<=vs.length)&&decide ((vs.length:Int)<=4))=true:=by
        simp at fP;simp;omega
       have c5:((decide ((2:Int)<=vs.length)&&decide ((vs.length:Int)<=4))&&(onStr nameB h||onStr dN h))=false:=c4;rw[z2,z3]at c5;cases c5
      rw[jx,if_neg h4,if_neg h5]
theorem NT:bG ["thing"] ["thing"] (bA xY):=⟨rfl,rfl,rfl,by decide+kernel,rfl,by decide+kernel,by decide+kernel⟩
theorem NZ {g:Addr}(F:eV K "is_kind" "is_kind" xY f fd)(hm:mg "kinds_within"=some (.ref g))(h1:Has P w K mg aN 6 "all_fit" ["thing","within"] (sV jw g)):cj P w K mg aN eY 7 f fd ["thing"] (M5 jw):=by
 refine F.ok NT (len:=λvs H Q E h=>(by obtain⟨v,t,b,rfl,_⟩:=h;rfl)) (λcX A aM s H vs Q E hr h=>?_);obtain⟨v,t,b,rfl,h⟩:=h;refine⟨_,bh (bD (bB h1 hr (by decide) rfl (aW (pv 0) (aW (bZ (v:=.ref g) rfl hm rfl) aX)))),?_⟩;exact⟨_,rfl,v,t,b,rfl,h⟩
end
def cA (lo hi:Nat)(l:List T):Bool:=decide (lo<=l.length)&&decide (l.length<=hi)
def dz (lo hi:Nat):T->Bool
 |.tup l=>cA lo hi l
 |_=>false
def cI (lo hi:Nat)(f:T->Bool):T->Bool
 |.tup l=>cA lo hi l&&l.all f
 |_=>false
def uF:T->Bool
 |.int i=>decide ((if i<0 then -i else i)<10^30)
 |_=>false
def jN:T->Bool
 |.tup [a,b,_]=>onStr nameB a&&onStr nameB b
 |_=>false
def tG:T->Bool
 |.tup [.tup (g::ns),_]=>decide (ns.length<=4)&&(onStr bJ g&&ns.all (onStr nameB))
 |_=>false
def at2:T->T
 |.tup (_::_::e::_)=>e
 |t=>t
def at1:T->T
 |.tup (_::e::_)=>e
 |t=>t
def rowsOf:T->List T
 |.tup l=>l.map at2
 |_=>[]
def tH:Nat->List T->Option (List T)
 |0,[a,e]=>if onStr nameB a=true then some [e] else none
 |1,[a,b]=>some [a,b]
 |2,[a,e,g]=>if onStr nameB a=true then some [e,g] else none
 |3,[aP,e]=>if cI 1 4 jN aP=true then some (rowsOf aP++[e]) else none
 |4,e::arms=>if(cA 1 6 arms&&arms.all tG)=true then some (e::arms.map at1) else none
 |5,a::es=>if(cA 1 4 es&&onStr nameB a)=true then some es else none
 |6,[a,b,c]=>some [a,b,c]
 |_,_=>none
def Ij:List (Str×Nat):=[("fun",0),("call",1),("let",2),("ring",3),("case",4),("make",5),("pick",0),("plus",1),("minus",1),("times",1),("less",1),("if",6)]
def formOf (z:Str):Option Nat:=Ij.lookup z
def iZ (z:Str):Bool:=nameB z||(dN z||bJ z)
def ql:T->Option (List T)
 |.int i=>if uF (.int i)=true then some [] else none
 |.str z=>if iZ z=true then some [] else none
 |.tup (.str z::r)=>if bJ z=true then(if cA 1 4 r=true then some r else none) else(match formOf z with|some n=>tH n r|none=>none)
 |.tup _=>none
def Ik (t:TE)(U:L2.St)(H:Hp)(x:T):Prop:=∀Q:VK,(∀v H',Same H H'->Rep H' v x->Q v H')->t U H Q
def Ret (H:Hp)(Q:VK)(l:List T):Prop:=∀H' p ws,Same H H'->H p=none->H' p=some (.lst ws)->cB H' ws l->Q (.ref p) H'
section
variable {ta tb:TE}{U:L2.St}{H:Hp}{v:V}{x:T}{K:PySem.W.Frag}
theorem QS (h:Ev ta U H v)(r:Rep H v x):Ik ta U H x:=λQ q=>h _ λH' e=>q v H' e (r.same e)
theorem qU {f:T->Bool}(h:Ik ta U H x):Ev (jh (spT f) [] E0 (cV ta kI)) U H (.bl (f x)):=λQ q=>h _ λv H' e r=>⟨v,x,rfl,r,λH2 e2=>q H2 (e.trans e2)⟩
theorem cB.at_ {H:Hp}:∀{vs:List V} {ts:List T} {i:Nat} {t:T},cB H vs ts->ts[i]?=some t->∃v,vs[i]?=some v/\Rep H v t
 |_,_,_,_, .nil,h=>by simp at h
 |_,_,0,_, .cons r _,h=>by
  simp at h;subst h;exact⟨_,rfl,r⟩
 |_,_,i+1,t, .cons _ q,h=>by
  obtain⟨v,h1,h2⟩:=q.at_ (i:=i) (t:=t) (by simpa using h);exact⟨v,by simpa using h1,h2⟩
theorem cB.drop {H:Hp}:∀{vs:List V} {ts:List T} (n:Nat),cB H vs ts->cB H (vs.drop n) (ts.drop n)
 |_,_,0,r=>r
 |_,_,_+1, .nil=>.nil
 |_,_,n+1, .cons _ q=>cB.drop n q
theorem oh {a:Addr}{vs:List V}{ts:List T}{i:Nat}{tb:TE}(h1:Ev ta U H (.ref a))(h2:∀H',Same H H'->Ev tb U H' (.int i))(s:H a=some (.tup vs))(r:cB H vs ts)(hi:ts[i]?=some x):Ik (vG (uV K) ta tb) U H x:=by
 obtain⟨v,e1,e2⟩:=r.at_ hi;exact QS (Hu h1 h2 (dY.of s) (eF e1)) e2
theorem afg (vs:List V)(n:Nat):lF vs (some (n:Int)) none=vs.drop n:=by
 unfold lF;rw[HT.Ai,HT.zN];by_cases h:n<=vs.length
 ·rw[Nat.min_eq_left h]
  exact ai4 (by rw[ai5];omega)
 ·rw[Nat.min_eq_right (by omega),ajF (aio _),ajF (by omega)]
  simp
theorem KY {vs:List V}{n:Nat}(h:vs≠[])(hn:1<=n):¬(HT.fD vs.length 0 (some (n:Int))=0/\HT.fD vs.length vs.length none=vs.length):=by
 rw[HT.zN];have:0<vs.length:=List.length_pos_iff.mpr h;omega
theorem N5 {a:Addr}{vs:List V}{ts:List T}{n:Nat}(h1:Ev ta U H (.ref a))(s:H a=some (.tup vs))(r:cB H vs ts)(hne:ts≠[])(hn:1<=n):Ik (Zk (Ak K) ta (uK (tC (.int (n:Nat)))) lW) U H (.tup (ts.drop n)):=λQ q=>h1 _ λH' e=>by
 have hv:vs≠[]:=λz=>by
  have:=r.length;rw[z]at this;cases ts with
  |nil=>exact hne rfl
  |cons _ _=>simp at this
 refine⟨n,rfl,a,vs,rfl,dY.of (e _ _ s),KY hv hn,λp hp=>q _ _ (e.trans (bw hp _)) (.tup bf ?_)⟩;rw[afg];exact(r.drop n).same (e.trans (bw hp _))
theorem wu {a:Addr}{vs:List V}{ts:List T}{n:Nat}{Q:VK}(h1:Ev ta U H (.ref a))(s:H a=some (.tup vs))(r:cB H vs ts)(hne:ts≠[])(hn:1<=n)(q:Ret H Q (ts.drop n)):
  ZM (kJ K) (cV (Zk (Ak K) ta (uK (tC (.int (n:Nat)))) lW) kI) U H Q :=
 N5 (K:=K) h1 s r hne hn _ λv H' e rv=>by
  cases rv with
  |tup h r'=>exact⟨_,_,rfl, .inr (dY.of h),λl hl=>q _ l _ (e.trans (bw hl _)) (e.free hl) bf (r'.same (bw hl _))⟩
theorem Ret.same {Q:VK}{l:List T}{H':Hp}(q:Ret H Q l)(e:Same H H'):Ret H' Q l:=λH2 p ws e2 hp hp2 hr=>q H2 p ws (e.trans e2) (e.free hp) hp2 hr
theorem wz {a:Addr}{xs:List V}{tt:TT}{te:TE}{U':L2.St}{Q:VK}(Pv:Nat->List V->Hp->Prop)(h0:Pv 0 [] H)(hl:∀i vs H,i<=xs.length->Pv i vs H->dY K H a xs/\vs.length<sizeLine)
  (hs:∀i x vs H2,i<xs.length->xs[i]?=some x->Pv i vs H2->tt (some x::U') H2 λb H4=>if b=true then te (some x::U') H4 λv H5=>Nx xs.length i (Pv (i+1) (vs++[v]) H5) else Nx xs.length i (Pv (i+1) vs H4))
  (hd:∀vs H2,Pv xs.length vs H2->∀l,H2 l=none->Q (.ref l) (upd H2 l (.lst vs))):Fg (Itt K a) tt te U' Q H:=by
 refine⟨λi m vs H=>m=xs.length-i/\i<=xs.length/\Pv i vs H,⟨xs.length,by simp,aiP _,h0⟩,?_⟩;rintro i m vs H2 ⟨rfl,hi,p⟩;obtain⟨q1,q2⟩:=hl i vs H2 hi p;refine⟨q2,?_⟩;by_cases vI:i<xs.length
 ·refine .inr ⟨⟨xs,xs[i],q1,by simp[vI]⟩,?_⟩
  rintro x H3 ⟨e,y⟩;subst e;exact hs i x vs _ vI (y xs q1) p
 ·have e:i=xs.length:=by omega
  subst e;exact .inl ⟨⟨xs,q1,aio _⟩,hd vs H2 p⟩
end
def f9:Sp:=λvs H Q _=>∃(v:V) (t:T) (lo hi:Nat),vs=[v, .int lo, .int hi]/\Rep H v t/\∀H',Same H H'->Q (.bl (dz lo hi t)) H'
def ou (f:T->Bool)(g:Addr):Sp:=λvs H Q _=>∃a us ts,vs=[.ref a, .ref g]/\H a=some (.tup us)/\cB H us ts/\ts.length<=100000/\∀H',Same H H'->Q (.bl (ts.all f)) H'
def vm (f:T->Bool)(g:Addr):Sp:=λvs H Q _=>∃(v:V) (t:T) (lo hi:Nat),vs=[v, .int lo, .int hi, .ref g]/\Rep H v t/\hi<=1000/\∀H',Same H H'->Q (.bl (cI lo hi f t)) H'
def pG (n:Nat):Sp:=λvs H Q _=>∃a us h r,vs=[.ref a]/\H a=some (.tup us)/\cB H us (h::r)/\(tH n r=none->∀H',Same H H'->Q .non H')/\∀l,tH n r=some l->Ret H Q l
theorem uq {ta:TE}{U:L2.St}{H:Hp}{x:T}(lo hi:Nat)(h:Ik ta U H x):Ev (jh f9 [] E0 (cV ta (cV (tC (.int lo)) (cV (tC (.int hi)) kI)))) U H (.bl (dz lo hi x)):=λQ q=>h _ λv H' e r=>⟨v,x,lo,hi,rfl,r,λH2 e2=>q H2 (e.trans e2)⟩
theorem QT {ta:TE}{U:L2.St}{H:Hp}{x:T}{fB:T->Bool}{g:Addr}(lo hi:Nat)(hh:hi<=1000)(h:Ik ta U H x):Ev (jh (vm fB g) [] E0 (cV ta (cV (tC (.int lo)) (cV (tC (.int hi)) (cV (tC (.ref g)) kI))))) U H (.bl (cI lo hi fB x)):=λQ q=>h _ λv H' e r=>⟨v,x,lo,hi,rfl,r,hh,λH2 e2=>q H2 (e.trans e2)⟩
theorem T4 {ta:TE}{U:L2.St}{H:Hp}{ts:List T}{fB:T->Bool}{g:Addr}(hh:ts.length<=100000)(h:Ik ta U H (.tup ts)):Ev (jh (ou fB g) [] E0 (cV ta (cV (tC (.ref g)) kI))) U H (.bl (ts.all fB)):=λQ q=>h _ λv H' e r=>by
 cases r with
 |tup h r=>exact⟨_,_,ts,rfl,h,r,hh,λH2 e2=>q H2 (e.trans e2)⟩
theorem N6 {K:PySem.W.Frag}{ta tb:TE}{U:L2.St}{H:Hp}{x:T}{ts:List T}{i:Nat}(h1:Ik ta U H (.tup ts))(h2:∀H',Same H H'->Ev tb U H' (.int i))(hi:ts[i]?=some x):Ik (vG (uV K) ta tb) U H x:=λQ q=>h1 _ λv H1 e1 r1=>h2 H1 e1 _ λH2 e2=>by
 cases r1 with
 |tup h r=>
  obtain⟨u,q1,q2⟩:=r.at_ hi;exact⟨_,_,i,u,rfl,rfl,dY.of (e2 _ _ h),eF q1,q u H2 (e1.trans e2) (q2.same e2)⟩
theorem QV {K:PySem.W.Frag}{ta:TE}{U:L2.St}{H:Hp}{ts:List T}{n:Nat}(h1:Ik ta U H (.tup ts))(hne:ts≠[])(hn:1<=n):Ik (Zk (Ak K) ta (uK (tC (.int (n:Nat)))) lW) U H (.tup (ts.drop n)):=λQ q=>h1 _ λv H1 e1 r1=>by
 cases r1 with
 |@tup a vs _ h r=>
  have hv:vs≠[]:=λz=>by
   have:=r.length;rw[z]at this;cases ts with
   |nil=>exact hne rfl
   |cons _ _=>simp at this
  refine⟨n,rfl,a,vs,rfl,dY.of h,KY hv hn,λp hp=>q _ _ (e1.trans (bw hp _)) (.tup bf ?_)⟩;rw[afg];exact(r.drop n).same (bw hp _)
def n0B (f:T->Bool):T->Bool
 |.tup (a::_)=>f a
 |_=>false
def n1B (f:T->Bool):T->Bool
 |.tup (_::b::_)=>f b
 |_=>false
theorem Xf (t:T):(dz 3 3 t&&(n0B (onStr nameB) t&&n1B (onStr nameB) t))=jN t:=by
 cases t with
 |int i=>rfl
 |str z=>rfl
 |tup l=>
  match l with
  |[]=>rfl
  |[_]=>rfl
  |[_,_]=>rfl
  |[a,b,c]=>simp[dz,cA,n0B,n1B,jN]
  |_::_::_::_::r=>simp[dz,cA,jN]
section
variable {P:Program}{w:World}{K:PySem.W.Frag}{mg:Str->Option Value}{aN:Heap}{f:Addr}{fd:FuncData}
abbrev vo:Stmt:=top 30
abbrev tK:Stmt:=top 31
abbrev qW:Stmt:=top 45
abbrev nQ:Stmt:=top 46
abbrev ur:Stmt:=top 47
abbrev qX:Stmt:=top 51
abbrev oA:Stmt:=top 52
abbrev oE:Stmt:=top 53
abbrev qY:Stmt:=top 54
abbrev pH:Stmt:=top 55
abbrev jU:Stmt:=top 56
abbrev lY:Stmt:=top 57
abbrev pI:Stmt:=top 58
abbrev lZ:Stmt:=top 59
abbrev lQ:Stmt:=top 61
abbrev tL:Stmt:=top 62
theorem KZ:bG ["thing"] ["thing"] (bA vo):=⟨rfl,rfl,rfl,by decide+kernel,rfl,by decide+kernel,by decide+kernel⟩
theorem K1 (F:eV K "is_whole" "is_whole" vo f fd)(G:Gb K mg)(mi:mg "int"=none)(mb:mg "bool"=none):cj P w K mg aN eY 1 f fd ["thing"] (spT xW):=by
 refine F.ok KZ (len:=λvs H Q E h=>(by obtain⟨v,t,rfl,_⟩:=h;rfl)) (λcX A aM s H vs Q E hr h=>?_);obtain⟨v,t,rfl,rt,q⟩:=h;refine⟨_,bh (bD (cQ (bH d8 rfl G.UW boot_isinstance (aW (pv 0) (aW (eZ (v:=.ty "int") rfl mi PyProof.Rows.boot_int rfl) aX)))
  (dG (Mg (bH d8 rfl G.UW boot_isinstance (aW (pv 0) (aW (eZ (v:=.ty "bool") rfl mb PyProof.Rows.boot_bool rfl) aX))))))),?_⟩
 refine eH (xG (bN (U:=L2.start ["thing"] [v]) rfl) rt (QJ K)) (λ_ H' e=>acH (xG (f:=λ_=>false) (bN rfl) (rt.same e) (KQ K))) _ λH' e'=>?_;have z:(xW t&& !(λ_=>false) t)=xW t:=by simp
 rw[z];exact q H' e'
theorem Il:bG ["thing"] ["thing"] (bA tK):=⟨rfl,rfl,rfl,by decide+kernel,rfl,by decide+kernel,by decide+kernel⟩
theorem Im (F:eV K "is_number" "is_number" tK f fd)(ma:mg "abs"=none)(h1:Has P w K mg aN 1 "is_whole" ["thing"] (spT xW)):cj P w K mg aN eY 2 f fd ["thing"] (spT uF):=by
 refine F.ok Il (len:=λvs H Q E h=>(by obtain⟨v,t,rfl,_⟩:=h;rfl)) (λcX A aM s H vs Q E hr h=>?_);obtain⟨v,t,rfl,rt,q⟩:=h;refine⟨_,bh (bD (cQ (bB h1 hr (by decide) rfl (aW (pv 0) aX)) (dG (dR yM (bH Vu rfl ma PyProof.Rows.boot_abs (aW (pv 0) aX)) (bY G5 aY aY) (bM _))))),?_⟩;refine pD (bN (U:=L2.start ["thing"] [v]) rfl) rt _ λH' e'=>⟨_,rfl,?_⟩;cases rt with
 |str z h=>exact dW (q H' e')
 |tup h r=>exact dW (q H' e')
 |int i=>exact dM ⟨_,rfl,i,rfl,_,_,rfl,rfl,⟨by decide,by decide,by decide⟩,_,_,rfl,rfl,q H' e'⟩
theorem DQ:bG ["thing","least","most"] ["thing","least","most"] (bA qW):=⟨rfl,rfl,rfl,by decide+kernel,rfl,by decide+kernel,by decide+kernel⟩
theorem DR (F:eV K "has_length" "has_length" qW f fd)(G:Gb K mg):cj P w K mg aN eY 1 f fd ["thing","least","most"] f9:=by
 refine F.ok DQ (len:=λvs H Q E h=>(by obtain⟨v,t,lo,hi,rfl,_⟩:=h;rfl)) (λcX A aM s H vs Q E hr h=>?_);obtain⟨v,t,lo,hi,rfl,rt,q⟩:=h;refine⟨_,bh (bD (cQ (bH d8 rfl G.UW boot_isinstance (aW (pv 0) (aW (eZ (v:=.ty "tuple") rfl G.tuple boot_tuple rfl) aX)))
  (dG (Ah mY mY (pv 1) (bH bO rfl G.len PySem.boot_len (aW (pv 0) aX)) (pv 2))))),?_⟩
 refine eH (c2:=dz lo hi t) (xG (bN (i:=0) (U:=L2.start ["thing","least","most"] [v, .int lo, .int hi]) rfl) rt (qO K)) (λc H1 e1=>?_) _ λH' e'=>?_
 ·cases rt with
  |str z h=>cases c
  |int i=>cases c
  |@tup a us ts h r=>
   have z:dz lo hi (.tup ts)=(decide ((lo:Int)<=us.length)&&decide ((us.length:Int)<=hi)):=by
    show(decide (lo<=ts.length)&&decide (ts.length<=hi))=_;rw[r.length];congr 1
    ·rw[ai1];simp
    ·rw[ai1];simp
   rw[z];exact sX (bN rfl) (λ_ e2=>jP (bN rfl) (dY.of (e2 _ _ (e1 _ _ h)))) (λ_ _=>bN rfl)
 ·have z:(qM t&&dz lo hi t)=dz lo hi t:=by
   cases t<;>rfl
  rw[z];exact q H' e'
theorem Cj:bG ["things","fits"] ["things","fits"] (bA nQ):=⟨rfl,rfl,rfl,by decide+kernel,rfl,by decide+kernel,by decide+kernel⟩
theorem vq {fB:T->Bool}{g:Addr}{gd:FuncData}{k:Nat}(F:eV K "all_are" "all_are" nQ f fd)(G:Gb K mg)(hg:cj P w K mg aN eY k g gd ["thing"] (spT fB))(kg:PySem.W.keepIn K (.ref g)=true)(bg:Binds K gd ["thing"] []):
  cj P w K mg aN eY (k+1) f fd ["things","fits"] (ou fB g):=by
 refine F.ok Cj (len:=λvs H Q E h=>(by obtain⟨a,us,ts,rfl,_⟩:=h;rfl)) (λcX A aM s H vs Q E hr h=>?_);obtain⟨a,us,ts,rfl,ha,j8,hl,q⟩:=h;refine⟨_,bh (bD (bH (Ao rfl) rfl G.all boot_all (aW (pR (bA nQ) ["things","fits"] ["fits"] [1] (by decide+kernel) (Af (pv 0)) (λC s₀ H₀ ex=>ji)
  (λC s₀ H₀ ex=>Ar (i:=1) hg hr rfl (Or.inr (Or.inl rfl)) kg bg yO (aW (pv 0) aX))) aX))),?_⟩
 refine⟨_,rfl,a,rfl,⟨us,dY.of ha⟩,?_⟩;refine wz (xs:=us) (λi vs H2=>Same H H2/\vs=(ts.take i).map λt=>V.bl (fB t)) ⟨Same.refl H,rfl⟩ ?_ ?_ ?_
 ·rintro i vs H2 hi ⟨e,rfl⟩
  refine⟨dY.of (e _ _ ha),?_⟩;rw[aix,aiW];exact fH (by omega)
 ·rintro i x vs H2 hi hx ⟨e,rfl⟩
  refine Zn (dM ⟨rfl,?_⟩);have hti:i<ts.length:=by rw[<-j8.length];exact hi
  obtain⟨v,e1,e2⟩:=j8.at_ (aiE hti);rw[hx]at e1;cases e1;refine⟨_,rfl,x,_,rfl,e2.same e,λH3 e3=>nx hi ⟨e.trans e3,?_⟩⟩;rw[aj0,aiE hti,ajA,aiV]
  rfl
 ·rintro vs H2 ⟨e,rfl⟩ l hl'
  refine⟨l,ts.map fB,rfl,dX.of ?_,?_⟩
  ·rw[bf,List.map_map,ai4 (by rw[j8.length];exact aio _)]
   rfl
  ·have z:((ts.map fB).all id)=ts.all fB:=by
    rw[List.all_map]
    rfl
   rw[z];exact q _ (e.trans (bw hl' _))
theorem Ck:bG ["thing","least","most","fits"] ["thing","least","most","fits"] (bA ur):=⟨rfl,rfl,rfl,by decide+kernel,rfl,by decide+kernel,by decide+kernel⟩
theorem vA {fB:T->Bool}{g:Addr}{k:Nat}(F:eV K "is_list" "is_list" ur f fd)(h1:Has P w K mg aN 1 "has_length" ["thing","least","most"] f9)(h2:Has P w K mg aN (k+1) "all_are" ["things","fits"] (ou fB g)):
  cj P w K mg aN eY (k+2) f fd ["thing","least","most","fits"] (vm fB g):=by
 refine F.ok Ck (len:=λvs H Q E h=>(by obtain⟨v,t,lo,hi,rfl,_⟩:=h;rfl)) (λcX A aM s H vs Q E hr h=>?_);obtain⟨v,t,lo,hi,rfl,rt,hhi,q⟩:=h;refine⟨_,bh (bD (cQ (bB h1 hr (by omega) rfl (aW (pv 0) (aW (pv 1) (aW (pv 2) aX)))) (dG (bB h2 hr (by omega) rfl (aW (pv 0) (aW (pv 3) aX)))))),?_⟩;refine⟨_,rfl,_,rfl,_,rfl,v,t,lo,hi,rfl,rt,λH' e'=>⟨_,rfl,?_⟩⟩;cases rt with
 |str z h=>exact dW (q H' e')
 |int i=>exact dW (q H' e')
 |@tup a us ts h r=>
  have q':∀H',Same H H'->Q (.bl (cA lo hi ts&&ts.all fB)) H':=q;show if cA lo hi ts=true then _ else _
  cases hl:cA lo hi ts with
  |false=>
   rw[hl]at q';exact dW (q' H' e')
  |true=>
   rw[hl,ai3]at q';unfold cA at hl;simp only[ain,decide_eq_true_eq]at hl;exact dM ⟨_,rfl,_,rfl,a,us,ts,rfl,e' _ _ h,r.same e',by omega,λH2 e2=>q' H2 (e'.trans e2)⟩
theorem DW:bG ["thing"] ["thing"] (bA qX):=⟨rfl,rfl,rfl,by decide+kernel,rfl,by decide+kernel,by decide+kernel⟩
theorem DX (F:eV K "two_within" "two_within" qX f fd)(G:Gb K mg):cj P w K mg aN eY 1 f fd ["thing"] (pG 1):=by
 refine F.ok DW (len:=λvs H Q E h=>(by obtain⟨a,us,h,r,rfl,_⟩:=h;rfl)) (λcX A aM s H vs Q E hr h=>?_);obtain⟨a,us,h,r,rfl,ha,j8,q1,q2⟩:=h;refine⟨_,bh (bD (kE (bL cN (bH bO rfl G.len PySem.boot_len (aW (pv 0) aX)) aY (bM _)) (cC gY rfl G.list boot_list (aW (cL gU (pv 0) (cR aY) dF) aX)) jQ)),?_⟩;have hl:=j8.length;refine iY (fJ (jP (K:=K) (bN (U:=L2.start ["thing"] [.ref a]) rfl) (dY.of ha)) λ_ _=>dI) _ λH' e'=>?_;refine ig (λc=>?_) (λc=>?_)
 ·have c1:us.length=3:=by have:=of_decide_eq_true c;omega
  refine wu (n:=1) (bN rfl) (e' _ _ ha) (j8.same e') (by simp) (by decide) ((q2 r ?_).same e')
  match r,(show r.length=2 by simp at hl;omega) with
  |[x,y],_=>rfl
 ·have c1:us.length≠3:=λz=>c (by rw[z];rfl)
  refine q1 ?_ H' e'
  match r,(show r.length≠2 by simp at hl;omega) with
  |[],_=>rfl
  |[_],_=>rfl
  |[_,_],z=>exact absurd rfl z
  |_::_::_::_,_=>rfl
theorem zx:bG ["thing"] ["thing"] (bA oA):=⟨rfl,rfl,rfl,by decide+kernel,rfl,by decide+kernel,by decide+kernel⟩
theorem zy (F:eV K "three_within" "three_within" oA f fd)(G:Gb K mg):cj P w K mg aN eY 1 f fd ["thing"] (pG 6):=by
 refine F.ok zx (len:=λvs H Q E h=>(by obtain⟨a,us,h,r,rfl,_⟩:=h;rfl)) (λcX A aM s H vs Q E hr h=>?_);obtain⟨a,us,h,r,rfl,ha,j8,q1,q2⟩:=h;refine⟨_,bh (bD (kE (bL cN (bH bO rfl G.len PySem.boot_len (aW (pv 0) aX)) aY (bM _)) (cC gY rfl G.list boot_list (aW (cL gU (pv 0) (cR aY) dF) aX)) jQ)),?_⟩;have hl:=j8.length;refine iY (fJ (jP (K:=K) (bN (U:=L2.start ["thing"] [.ref a]) rfl) (dY.of ha)) λ_ _=>dI) _ λH' e'=>?_;refine ig (λc=>?_) (λc=>?_)
 ·have c1:us.length=4:=by have:=of_decide_eq_true c;omega
  refine wu (n:=1) (bN rfl) (e' _ _ ha) (j8.same e') (by simp) (by decide) ((q2 r ?_).same e')
  match r,(show r.length=3 by simp at hl;omega) with
  |[x,y,z],_=>rfl
 ·have c1:us.length≠4:=λz=>c (by rw[z];rfl)
  refine q1 ?_ H' e'
  match r,(show r.length≠3 by simp at hl;omega) with
  |[],_=>rfl
  |[_],_=>rfl
  |[_,_],_=>rfl
  |[_,_,_],z=>exact absurd rfl z
  |_::_::_::_::_,_=>rfl
theorem zA:bG ["thing"] ["thing"] (bA oE):=⟨rfl,rfl,rfl,by decide+kernel,rfl,by decide+kernel,by decide+kernel⟩
theorem zB (F:eV K "named_within" "named_within" oE f fd)(G:Gb K mg)(h1:Has P w K mg aN 3 "is_name" ["thing"] (spT (onStr nameB))):cj P w K mg aN eY 4 f fd ["thing"] (pG 0):=by
 refine F.ok zA (len:=λvs H Q E h=>(by obtain⟨a,us,h,r,rfl,_⟩:=h;rfl)) (λcX A aM s H vs Q E hr h=>?_);obtain⟨a,us,h,r,rfl,ha,j8,q1,q2⟩:=h;refine⟨_,bh (bD (kE (PW.pt (uQ (bL cN (bH bO rfl G.len PySem.boot_len (aW (pv 0) aX)) aY (bM _)) (qD (cT (bB h1 hr (by decide) rfl (aW (bU cD (pv 0) aY (λ_ _=>rfl)) aX))))))
  (dj (aW (bU cD (pv 0) aY (λ_ _=>rfl)) aX)) jQ)),?_⟩
 have hl:=j8.length;refine Bk (c2:=Zt (onStr nameB) r) (iY (fJ (jP (K:=K) (bN (U:=L2.start ["thing"] [.ref a]) rfl) (dY.of ha)) λ_ _=>dI)) (λc H1 e1=>?_) _ λH' e'=>?_
 ·have c1:us.length=3:=by have:=of_decide_eq_true c;omega
  match r,(show r.length=2 by simp at hl;omega),j8 with
  |[x,y],_,j8=>exact oV (qU (oh (i:=1) (bN rfl) (λ_ _=>dI) (e1 _ _ ha) (j8.same e1) rfl))
 ·refine ig (λc=>?_) (λc=>?_)
  ·simp only[ain,decide_eq_true_eq]at c
   match r,(show r.length=2 by simp at hl;omega),j8,c.2,q2 with
   |[x,y],_,j8,c2,q2=>
    refine oh (K:=K) (i:=2) (bN rfl) (λ_ _=>dI) (e' _ _ ha) (j8.same e') rfl _ λv H2 e2 rv=>⟨small (by show 1<=1000000;decide),λl hl'=>?_⟩;have z:onStr nameB x=true:=c2;exact q2 [y] (by show(if onStr nameB x=true then _ else _)=_;rw[if_pos z]) _ l [v] ((e'.trans e2).trans (bw hl' _)) ((e'.trans e2).free hl') bf (.cons (rv.same (bw hl' _)) .nil)
  ·refine q1 ?_ H' e'
   match r,hl,c with
   |[],_,_=>rfl
   |[_],_,_=>rfl
   |[x,y],hl,c=>
    have z:¬onStr nameB x=true:=λz=>c (by
     have:us.length=3:=by simp at hl;omega
     show(decide ((us.length:Int)=3)&&onStr nameB x)=true;rw[z,this];rfl)
    show(if onStr nameB x=true then _ else _)=_;rw[if_neg z]
   |_::_::_::_,_,_=>rfl
theorem DY:bG ["thing"] ["thing"] (bA qY):=⟨rfl,rfl,rfl,by decide+kernel,rfl,by decide+kernel,by decide+kernel⟩
theorem Ea (F:eV K "let_within" "let_within" qY f fd)(G:Gb K mg)(h1:Has P w K mg aN 3 "is_name" ["thing"] (spT (onStr nameB))):cj P w K mg aN eY 4 f fd ["thing"] (pG 2):=by
 refine F.ok DY (len:=λvs H Q E h=>(by obtain⟨a,us,h,r,rfl,_⟩:=h;rfl)) (λcX A aM s H vs Q E hr h=>?_);obtain⟨a,us,h,r,rfl,ha,j8,q1,q2⟩:=h;refine⟨_,bh (bD (kE (PW.pt (uQ (bL cN (bH bO rfl G.len PySem.boot_len (aW (pv 0) aX)) aY (bM _)) (qD (cT (bB h1 hr (by decide) rfl (aW (bU cD (pv 0) aY (λ_ _=>rfl)) aX))))))
  (cC gY rfl G.list boot_list (aW (cL gU (pv 0) (cR aY) dF) aX)) jQ)),?_⟩
 have hl:=j8.length;refine Bk (c2:=Zt (onStr nameB) r) (iY (fJ (jP (K:=K) (bN (U:=L2.start ["thing"] [.ref a]) rfl) (dY.of ha)) λ_ _=>dI)) (λc H1 e1=>?_) _ λH' e'=>?_
 ·have c1:us.length=4:=by have:=of_decide_eq_true c;omega
  match r,(show r.length=3 by simp at hl;omega),j8 with
  |[x,y,z],_,j8=>exact oV (qU (oh (i:=1) (bN rfl) (λ_ _=>dI) (e1 _ _ ha) (j8.same e1) rfl))
 ·refine ig (λc=>?_) (λc=>?_)
  ·simp only[ain,decide_eq_true_eq]at c
   match r,(show r.length=3 by simp at hl;omega),j8,c.2,q2 with
   |[x,y,z],_,j8,c2,q2=>
    have z':onStr nameB x=true:=c2;exact wu (n:=2) (bN rfl) (e' _ _ ha) (j8.same e') (by simp) (by decide) ((q2 [y,z] (by show(if onStr nameB x=true then _ else _)=_;rw[if_pos z'])).same e')
  ·refine q1 ?_ H' e'
   match r,hl,c with
   |[],_,_=>rfl
   |[_],_,_=>rfl
   |[_,_],_,_=>rfl
   |[x,y,z],hl,c=>
    have z':¬onStr nameB x=true:=λz'=>c (by
     have:us.length=4:=by simp at hl;omega
     show(decide ((us.length:Int)=4)&&onStr nameB x)=true;rw[z',this];rfl)
    show(if onStr nameB x=true then _ else _)=_;rw[if_neg z']
   |_::_::_::_::_,_,_=>rfl
theorem Cm:bG ["thing"] ["thing"] (bA pH):=⟨rfl,rfl,rfl,by decide+kernel,rfl,by decide+kernel,by decide+kernel⟩
theorem Cp (F:eV K "make_within" "make_within" pH f fd)(G:Gb K mg)(h1:Has P w K mg aN 3 "is_name" ["thing"] (spT (onStr nameB))):cj P w K mg aN eY 4 f fd ["thing"] (pG 5):=by
 refine F.ok Cm (len:=λvs H Q E h=>(by obtain⟨a,us,h,r,rfl,_⟩:=h;rfl)) (λcX A aM s H vs Q E hr h=>?_);obtain⟨a,us,h,r,rfl,ha,j8,q1,q2⟩:=h;refine⟨_,bh (bD (kE (PW.pt (uQ (sG mY mY aY (bH bO rfl G.len PySem.boot_len (aW (pv 0) aX)) aY) (qD (cT (bB h1 hr (by decide) rfl (aW (bU cD (pv 0) aY (λ_ _=>rfl)) aX))))))
  (cC gY rfl G.list boot_list (aW (cL gU (pv 0) (cR aY) dF) aX)) jQ)),?_⟩
 have hl:=j8.length;refine Bk (c2:=Zt (onStr nameB) r) (iY (sX dI (λ_ e=>jP (K:=K) (bN (U:=L2.start ["thing"] [.ref a]) rfl) (dY.of (e _ _ ha))) λ_ _=>dI)) (λc H1 e1=>?_) _ λH' e'=>?_
 ·simp only[ain,decide_eq_true_eq]at c
  match r,hl,j8 with
  |[],hl,_=>simp at hl;omega
  |x::r',hl,j8=>exact oV (qU (oh (i:=1) (bN rfl) (λ_ _=>dI) (e1 _ _ ha) (j8.same e1) rfl))
 ·refine ig (λc=>?_) (λc=>?_)
  ·simp only[ain,decide_eq_true_eq]at c
   match r,hl,j8,c.2,q2 with
   |[],hl,_,_,_=>simp at hl;omega
   |x::r',hl,j8,c2,q2=>
    have z':(cA 1 4 r'&&onStr nameB x)=true:=by
     have c2':onStr nameB x=true:=c2;simp at hl;rw[c2'];simp[cA];omega
    exact wu (n:=2) (bN rfl) (e' _ _ ha) (j8.same e') (by simp) (by decide) ((q2 r' (by show(if _=true then _ else _)=_;rw[if_pos z'])).same e')
  ·refine q1 ?_ H' e'
   match r,hl,c with
   |[],_,_=>rfl
   |x::r',hl,c=>
    have z':¬(cA 1 4 r'&&onStr nameB x)=true:=λz'=>c (by
     simp[cA]at z';simp at hl;show((decide ((3:Int)<=us.length)&&decide ((us.length:Int)<=6))&&onStr nameB x)=true;rw[z'.2];simp;omega)
    show(if _=true then _ else _)=_;rw[if_neg z']
theorem uG:bG ["thing"] ["thing"] (bA jU):=⟨rfl,rfl,rfl,by decide+kernel,rfl,by decide+kernel,by decide+kernel⟩
theorem uH (F:eV K "is_function_form" "is_function_form" jU f fd)(h1:Has P w K mg aN 3 "is_name" ["thing"] (spT (onStr nameB)))(h2:Has P w K mg aN 1 "has_length" ["thing","least","most"] f9):cj P w K mg aN eY 4 f fd ["thing"] (spT jN):=by
 refine F.ok uG (len:=λvs H Q E h=>(by obtain⟨v,t,rfl,_⟩:=h;rfl)) (λcX A aM s H vs Q E hr h=>?_);obtain⟨v,t,rfl,rt,q⟩:=h;refine⟨_,bh (bD (cQ (bB h2 hr (by decide) rfl (aW (pv 0) (aW aY (aW aY aX)))) (cQ (bB h1 hr (by decide) rfl (aW (bU cD (pv 0) aY (λ_ _=>rfl)) aX)) (dG (bB h1 hr (by decide) rfl (aW (bU cD (pv 0) aY (λ_ _=>rfl)) aX)))))),?_⟩;refine eH (uq 3 3 (QS (bN (i:=0) (U:=L2.start ["thing"] [v]) rfl) rt)) (c2:=n0B (onStr nameB) t&&n1B (onStr nameB) t) (λc H1 e1=>?_) _ λH' e'=>?_
 ·cases rt with
  |int i=>cases c
  |str z h=>cases c
  |@tup a us ts h r=>
   have c':cA 3 3 ts=true:=c;simp only[cA,ain,decide_eq_true_eq]at c'
   match ts,(show ts.length=3 by omega),r with
   |[x,y,z],_,r=>exact eH (qU (oh (i:=0) (bN rfl) (λ_ _=>dI) (e1 _ _ h) (r.same e1) rfl)) (λ_ H2 e2=>qU (oh (i:=1) (bN rfl) (λ_ _=>dI) ((e1.trans e2) _ _ h) (r.same (e1.trans e2)) rfl))
 ·rw[Xf]
  exact q H' e'
theorem Cq:bG ["thing"] ["thing"] (bA lY):=⟨rfl,rfl,rfl,by decide+kernel,rfl,by decide+kernel,by decide+kernel⟩
theorem Xg {x:T}(h:jN x=true):∃ts,x=.tup ts/\ts[2]?=some (at2 x):=by
 match x,h with
 |.tup [a,b,c],_=>exact⟨_,rfl,rfl⟩
theorem Cr {g:Addr}(F:eV K "ring_within" "ring_within" lY f fd)(G:Gb K mg)(hm:mg "is_function_form"=some (.ref g))(h1:Has P w K mg aN 6 "is_list" ["thing","least","most","fits"] (vm jN g)):cj P w K mg aN eY 7 f fd ["thing"] (pG 3):=by
 refine F.ok Cq (len:=λvs H Q E h=>(by obtain⟨a,us,h,r,rfl,_⟩:=h;rfl)) (λcX A aM s H vs Q E hr h=>?_);obtain⟨a,us,h,r,rfl,ha,j8,q1,q2⟩:=h;refine⟨_,bx (cF (PW.pt (kj (bL PJ (bH bO rfl G.len PySem.boot_len (aW (pv 0) aX)) aY (bM _)) (jm (dZ (cT (bB h1 hr (by decide) rfl (aW (bU cD (pv 0) aY (λ_ _=>rfl)) (aW aY (aW aY (aW (bZ (v:=.ref g) rfl hm rfl) aX)))))))))) (bh (bD jQ)) bK)
  (bh (bD (bY w5 (pR (te:=vG (uV K) (jE 0) (tC (.int 2))) (bA lY) ["thing"] [] [] (by decide+kernel) (Af (bU cD (pv 0) aY (λ_ _=>rfl))) (λC s₀ H₀ ex=>ji) (λC s₀ H₀ ex=>bU cD (pv 0) aY (λ_ _=>rfl)))
   (dj (aW (bU cD (pv 0) aY (λ_ _=>rfl)) aX))))),?_⟩
 have hl:=j8.length;have afh:Ev (vG rNe (ZM (gA K) (cV (jE 0) kI)) (tC (.int 3))) (L2.start ["thing"] [.ref a]) H (.bl (!decide ((us.length:Int)=3))) :=
  sW (jP (bN rfl) (dY.of ha)) (λ_ _=>dI) λH' Q e q=>⟨rfl,by rw[zM,ajI];exact q⟩
 refine fY (oY (iY afh) (c2:=!(Zt (cI 1 4 jN) r)) (λc H1 e1=>?_)) (λc H1 e1=>?_) (λc H1 e1=>?_)
 ·have c1:us.length=3:=by simp at c;omega
  match r,(show r.length=2 by simp at hl;omega),j8 with
  |[x,y],_,j8=>exact jM (oV (QT 1 4 (by decide) (oh (i:=1) (bN rfl) (λ_ _=>dI) (e1 _ _ ha) (j8.same e1) rfl)))
 ·refine q1 ?_ H1 e1
  match r,hl,c with
  |[],_,_=>rfl
  |[_],_,_=>rfl
  |[x,y],hl,c=>
   have z:¬cI 1 4 jN x=true:=λz=>by
    have:us.length=3:=by simp at hl;omega
    have c':((!decide ((us.length:Int)=3))||(!(cI 1 4 jN x)))=true:=c;rw[z,this]at c';cases c'
   show(if _=true then _ else _)=_;rw[if_neg z]
  |_::_::_::_,_,_=>rfl
 ·have c1:us.length=3/\Zt (cI 1 4 jN) r=true:=by
   rw[aiy]at c;simp at c;exact⟨by omega,c.2⟩
  match r,(show r.length=2 by simp at hl;omega),j8,c1.2,q2 with
  |[.tup aP,y],_,j8,c2,q2=>
   have c3:cI 1 4 jN (.tup aP)=true:=c2;have c4:(cA 1 4 aP&&aP.all jN)=true:=c3;simp only[cA,ain,decide_eq_true_eq,ajq]at c4;have q3:=q2 (aP.map at2++[y]) (by show(if _=true then _ else _)=_;rw[if_pos c3];rfl);have hr1:=j8.same e1;refine oh (K:=K) (i:=1) (bN rfl) (λ_ _=>dI) (e1 _ _ ha) hr1 rfl _ λv H2 e2 rv=>?_;cases rv with
   |@tup b ws _ hb rb=>
    refine⟨b,rfl,⟨ws,dY.of hb⟩,?_⟩;have lb:=rb.length;refine wz (xs:=ws) (λi vs H3=>Same H2 H3/\cB H3 vs ((aP.take i).map at2)) ⟨Same.refl _, .nil⟩ ?_ ?_ ?_
    ·rintro i vs H3 hi ⟨e3,r3⟩
     refine⟨dY.of (e3 _ _ hb),fH ?_⟩;rw[r3.length,aix,aiW];omega
    ·rintro i x vs H3 hi hx ⟨e3,r3⟩
     have hti:i<aP.length:=by rw[<-lb];exact hi
     obtain⟨v',k1,k2⟩:=rb.at_ (aiE hti);rw[hx]at k1;cases k1;obtain⟨ts,k3,k4⟩:=Xg (c4.2 aP[i] (ajs hti));refine Zn (dM ?_);have k5:=k2.same e3;rw[k3]at k5;cases k5 with
     |tup hx' rx'=>
      refine oh (K:=K) (i:=2) (bN rfl) (λ_ _=>dI) hx' rx' k4 _ λv4 H4 e4 r4=>nx hi ⟨e3.trans e4,?_⟩;rw[aj0,aiE hti,ajA,aiV];exact(r3.same e4).append (.cons r4 .nil)
    ·rintro vs H3 ⟨e3,r3⟩ l hl'
     rw[ai4 (by omega)]at r3;have e5:=bw hl' (.lst vs);refine oh (K:=K) (i:=2) (bN rfl) (λ_ _=>dI) (((e2.trans e3).trans e5) _ _ (e1 _ _ ha)) (hr1.same ((e2.trans e3).trans e5)) rfl _ λv6 H6 e6 r6=>⟨small (by show 1<=1000000;decide),λp hp=>?_⟩;have e7:=bw hp (.lst [v6]);refine⟨l,p,vs,[v6],rfl,rfl,e7 _ _ (e6 _ _ bf),bf,small ?_,λp2 hp2=>?_⟩
     ·rw[r3.length,aix]
      show _+1<=1000000;omega
     have e8:=bw hp2 (.lst (vs++[v6]));have Io:=((((((e1.trans e2).trans e3).trans e5).trans e6).trans e7));exact q3 _ p2 _ (Io.trans e8) (Io.free hp2) bf (((r3.same (((e5.trans e6).trans e7).trans e8)).append (.cons (r6.same (e7.trans e8)) .nil)))
theorem T5 (t:T):(dz 2 2 t=true/\n0B (dz 1 5) t=true->∃g ns e,t=.tup [.tup (g::ns),e]/\ns.length<=4)/\(¬(dz 2 2 t=true/\n0B (dz 1 5) t=true)->tG t=false):=by
 constructor
 ·rintro⟨h1,h2⟩
  match t,h1,h2 with
  |.tup [x,e],_,h2=>
   match x,h2 with
   |.tup [],h2=>cases h2
   |.tup (g::ns),h2=>
    have h3:cA 1 5 (g::ns)=true:=h2;simp[cA]at h3;exact⟨g,ns,e,rfl,h3⟩
  |.tup [],h1,_=>cases h1
  |.tup [_],h1,_=>cases h1
  |.tup (_::_::_::r),h1,_=>
   have h3:cA 2 2 (_::_::_::r)=true:=h1;simp[cA]at h3
 ·intro h
  match t,h with
  |.int _,_=>rfl
  |.str _,_=>rfl
  |.tup [],_=>rfl
  |.tup [x],_=>
   cases x with
   |tup l=>cases l<;>rfl
   |_=>rfl
  |.tup [.int _,_],_=>rfl
  |.tup [.str _,_],_=>rfl
  |.tup [.tup [],_],_=>rfl
  |.tup [.tup (g::ns),e],h=>
   have h4:¬ns.length<=4:=λz=>h ⟨rfl,by show cA 1 5 (g::ns)=true;simp[cA];omega⟩;show(decide (ns.length<=4)&&_)=false;rw[decide_eq_false h4]
   rfl
  |.tup (x::_::_::_),_=>
   cases x with
   |tup l=>cases l<;>rfl
   |_=>rfl
theorem Cu:bG ["thing"] ["thing"] (bA pI):=⟨rfl,rfl,rfl,by decide+kernel,rfl,by decide+kernel,by decide+kernel⟩
theorem Cw {g:Addr}(F:eV K "is_arm_form" "is_arm_form" pI f fd)(hm:mg "is_name"=some (.ref g))(h1:Has P w K mg aN 2 "is_great" ["thing"] (spT (onStr bJ)))(h2:Has P w K mg aN 1 "has_length" ["thing","least","most"] f9)
  (h3:Has P w K mg aN 4 "all_are" ["things","fits"] (ou (onStr nameB) g)):cj P w K mg aN eY 5 f fd ["thing"] (spT tG):=by
 refine F.ok Cu (len:=λvs H Q E h=>(by obtain⟨v,t,rfl,_⟩:=h;rfl)) (λcX A aM s H vs Q E hr h=>?_);obtain⟨v,t,rfl,rt,q⟩:=h;refine⟨_,bx (cF (PW.pt (kj (dZ (cT (bB h2 hr (by decide) rfl (aW (pv 0) (aW aY (aW aY aX)))))) (jm (dZ (cT (bB h2 hr (by decide) rfl (aW (bU cD (pv 0) aY (λ_ _=>rfl)) (aW aY (aW aY aX))))))))) (bh (bD lG)) bK)
  (bh (bD (cQ (bB h1 hr (by decide) rfl (aW (bU cD (bU cD (pv 0) aY (λ_ _=>rfl)) aY (λ_ _=>rfl)) aX)) (dG (bB h3 hr (by decide) rfl (aW (cL gU (bU cD (pv 0) aY (λ_ _=>rfl)) (cR aY) dF) (aW (bZ (v:=.ref g) rfl hm rfl) aX))))))),?_⟩
 have sh:=T5 t;refine fY (oY (jM (oV (uq 2 2 (QS (bN (i:=0) (U:=L2.start ["thing"] [v]) rfl) rt)))) (c2:=!(n0B (dz 1 5) t)) (λc H1 e1=>?_)) (λc H1 e1=>?_) (λc H1 e1=>?_)
 ·have c1:dz 2 2 t=true:=by simpa using c
  cases rt with
  |int i=>cases c1
  |str z h=>cases c1
  |@tup a us ts h r=>
   have c2:cA 2 2 ts=true:=c1;simp only[cA,ain,decide_eq_true_eq]at c2
   match ts,(show ts.length=2 by omega),r with
   |[x,y],_,r=>exact jM (oV (uq 1 5 (oh (i:=0) (bN rfl) (λ_ _=>dI) (e1 _ _ h) (r.same e1) rfl)))
 ·have z:tG t=false:=sh.2 λ⟨z1,z2⟩=>by rw[z1,z2]at c;cases c
  rw[z]at q;exact q H1 e1
 ·rw[aiy]at c
  obtain⟨gt,ns,e,rfl,hn⟩:=sh.1 ⟨by simpa using c.1,by simpa using c.2⟩;cases rt with
  |@tup a us _ h r=>
   have r1:=r.same e1;have t0:∀H2,Same H1 H2->Ik (vG (uV K) (jE 0) (tC (.int 0))) (L2.start ["thing"] [.ref a]) H2 (.tup (gt::ns)):=λH2 e2=>oh (i:=0) (bN rfl) (λ_ _=>dI) ((e1.trans e2) _ _ h) (r.same (e1.trans e2)) rfl;refine eH (qU (N6 (i:=0) (t0 H1 (Same.refl _)) (λ_ _=>dI) rfl)) (λ_ H2 e2=>T4 (ts:=ns) (by omega) (QV (n:=1) (t0 H2 e2) (by simp) (by decide))) _ λH2 e2=>?_;have q':=q H2 (e1.trans e2);have z:tG (.tup [.tup (gt::ns),e])=(onStr bJ gt&&ns.all (onStr nameB)):=by
    show(decide (ns.length<=4)&&_)=_;rw[decide_eq_true hn,ai3]
   rw[z]at q';exact q'
theorem Cy:bG ["thing"] ["thing"] (bA lZ):=⟨rfl,rfl,rfl,by decide+kernel,rfl,by decide+kernel,by decide+kernel⟩
theorem aat {x:T}(h:tG x=true):∃ts,x=.tup ts/\ts[1]?=some (at1 x):=by
 match x,h with
 |.tup [.tup (g::ns),e],_=>exact⟨_,rfl,rfl⟩
theorem Cz {g:Addr}(F:eV K "case_within" "case_within" lZ f fd)(hm:mg "is_arm_form"=some (.ref g))(h1:Has P w K mg aN 7 "is_list" ["thing","least","most","fits"] (vm tG g)):cj P w K mg aN eY 8 f fd ["thing"] (pG 4):=by
 refine F.ok Cy (len:=λvs H Q E h=>(by obtain⟨a,us,h,r,rfl,_⟩:=h;rfl)) (λcX A aM s H vs Q E hr h=>?_);obtain⟨a,us,h,r,rfl,ha,j8,q1,q2⟩:=h;refine⟨_,bx (cF (dZ (cT (bB h1 hr (by decide) rfl (aW (cL gU (pv 0) (cR aY) dF) (aW aY (aW aY (aW (bZ (v:=.ref g) rfl hm rfl) aX))))))) (bh (bD jQ)) bK)
  (bh (bD (bY w5 (dj (aW (bU cD (pv 0) aY (λ_ _=>rfl)) aX))
   (pR (te:=vG (uV K) (jE 0) (tC (.int 1))) (bA lZ) ["thing"] [] [] (by decide+kernel) (Af (cL gU (pv 0) (cR aY) dF)) (λC s₀ H₀ ex=>ji) (λC s₀ H₀ ex=>bU cD (pv 0) aY (λ_ _=>rfl)))))),?_⟩
 have hl:=j8.length;refine fY (jM (oV (QT 1 6 (by decide) (N5 (n:=2) (bN (i:=0) (U:=L2.start ["thing"] [.ref a]) rfl) ha j8 (by simp) (by decide))))) (λc H1 e1=>?_) (λc H1 e1=>?_)
 ·refine q1 ?_ H1 e1
  match r,c with
  |[],_=>rfl
  |e::arms,c=>
   have z:¬(cA 1 6 arms&&arms.all tG)=true:=λz=>by
    have c':(!(cA 1 6 arms&&arms.all tG))=true:=c;rw[z]at c';cases c'
   show(if _=true then _ else _)=_;rw[if_neg z]
 ·match r,c,q2,j8,hl with
  |[],c,_,_,_=>cases c
  |y::arms,c,q2,j8,hl=>
   have c3:(cA 1 6 arms&&arms.all tG)=true:=by
    have c':(!(cA 1 6 arms&&arms.all tG))=false:=c;simpa using c'
   have q3:=q2 (y::arms.map at1) (by show(if _=true then _ else _)=_;rw[if_pos c3]);simp only[cA,ain,decide_eq_true_eq,ajq]at c3;have hr1:=j8.same e1;refine oh (K:=K) (i:=1) (bN rfl) (λ_ _=>dI) (e1 _ _ ha) hr1 rfl _ λv1 H2 e2 rv=>⟨small (by show 1<=1000000;decide),λp hp=>?_⟩;have e3:=bw hp (.lst [v1]);refine N5 (K:=K) (n:=2) (bN rfl) ((e2.trans e3) _ _ (e1 _ _ ha)) (hr1.same (e2.trans e3)) (by simp) (by decide) _ λv4 H4 e4 r4=>?_;cases r4 with
   |@tup b ws _ hb rb=>
    have rb':cB H4 ws arms:=rb;refine⟨b,rfl,⟨ws,dY.of hb⟩,?_⟩;have lb:=rb'.length;refine wz (xs:=ws) (λi vs H5=>Same H4 H5/\cB H5 vs ((arms.take i).map at1)) ⟨Same.refl _, .nil⟩ ?_ ?_ ?_
    ·rintro i vs H5 hi ⟨e5,r5⟩
     refine⟨dY.of (e5 _ _ hb),fH ?_⟩;rw[r5.length,aix,aiW];omega
    ·rintro i x vs H5 hi hx ⟨e5,r5⟩
     have hti:i<arms.length:=by rw[<-lb];exact hi
     obtain⟨v',k1,k2⟩:=rb'.at_ (aiE hti);rw[hx]at k1;cases k1;obtain⟨ts,k3,k4⟩:=aat (c3.2 arms[i] (ajs hti));refine Zn (dM ?_);have k5:=k2.same e5;rw[k3]at k5;cases k5 with
     |tup hx' rx'=>
      refine oh (K:=K) (i:=1) (bN rfl) (λ_ _=>dI) hx' rx' k4 _ λv6 H6 e6 r6=>nx hi ⟨e5.trans e6,?_⟩;rw[aj0,aiE hti,ajA,aiV];exact(r5.same e6).append (.cons r6 .nil)
    ·rintro vs H5 ⟨e5,r5⟩ l hl'
     rw[ai4 (by omega)]at r5;have e6:=bw hl' (.lst vs);refine⟨p,l,[v1],vs,rfl,rfl,((e4.trans e5).trans e6) _ _ bf,bf,small ?_,λp2 hp2=>?_⟩
     ·rw[r5.length,aix]
      show 1+_<=1000000;omega
     have e8:=bw hp2 (.lst ([v1]++vs));have Io:=(((((e1.trans e2).trans e3).trans e4).trans e5).trans e6);exact q3 _ p2 _ (Io.trans e8) (Io.free hp2) bf (.cons (rv.same ((((e3.trans e4).trans e5).trans e6).trans e8)) (r5.same (e6.trans e8)))
theorem o7:bG ["thing","alone"] ["thing"] (bA lQ):=⟨rfl,rfl,rfl,by decide+kernel,rfl,by decide+kernel,by decide+kernel⟩
theorem kW (fn:Nat->Addr)(z:Str):∀l:List (Str×Nat),(l.map λp=>(p.1,V.ref (fn p.2))).lookup z=(l.lookup z).map λn=>V.ref (fn n)
 |[]=>rfl
 |(x,n)::r=>by
  rw[aiR,aiH,aiH,kW fn z r];cases z==x<;>rfl
theorem jG (z:Str)(r:List T):ql (.tup (.str z::r))=if bJ z=true then(if cA 1 4 r=true then some r else none) else(match formOf z with|some n=>tH n r|none=>none):=rfl
theorem wA {fn:Nat->Addr}{df:Addr}(F:eV K "phrases_within" "phrases_within" lQ f fd)(G:Gb K mg)(hd:mg "PHRASE_FORMS"=some (.ref df))(D:oX K w df (Ij.map λp=>(p.1,V.ref (fn p.2))))
  (hf:∀n,n<=6->∃gd,cj P w K mg aN eY 8 (fn n) gd ["thing"] (pG n)/\Binds K gd ["thing"] []/\PySem.W.keepIn K (.ref (fn n))=true)
  (h1:Has P w K mg aN 2 "is_number" ["thing"] (spT uF)) (h2:Has P w K mg aN 3 "is_name" ["thing"] (spT (onStr nameB))) (h3:Has P w K mg aN 4 "is_path" ["thing"] (spT (onStr dN))) (h4:Has P w K mg aN 2 "is_great" ["thing"] (spT (onStr bJ))):
  cj P w K mg aN eY 9 f fd ["thing"] (Bd ql):=by
 refine F.ok o7 (len:=λvs H Q E h=>(by obtain⟨v,t,rfl,_⟩:=h;rfl)) (λcX A aM s H vs Q E hr h=>?_);obtain⟨v,t,rfl,rt,q1,q2⟩:=h;refine⟨_,bx (cF (dZ (cT (bH d8 rfl G.UW boot_isinstance (aW (pv 0) (aW (eZ (v:=.ty "tuple") rfl G.tuple boot_tuple rfl) aX)))))
   (bx (cZ (i:=1) o7.nd rfl (Or.inl rfl) (rO (bB h1 hr (by decide) rfl (aW (pv 0) aX)) (rO (bB h2 hr (by decide) rfl (aW (pv 0) aX)) (rO (bB h3 hr (by decide) rfl (aW (pv 0) aX)) (dG (bB h4 hr (by decide) rfl (aW (pv 0) aX)))))))
    (bh (bD (kE (cT (pv 1)) (dj aX) jQ)))) bK)
  (bx (cF (PW.pt (kj (bL cN (bH bO rfl G.len PySem.boot_len (aW (pv 0) aX)) aY (bM _)) (jm (dZ (cT (bH d8 rfl G.UW boot_isinstance (aW (bU cD (pv 0) aY (λ_ _=>rfl)) (aW (eZ (v:=.ty "str") rfl G.str boot_str rfl) aX))))))))
   (bh (bD jQ)) bK)
  (bx (cF (cT (bB h4 hr (by decide) rfl (aW (bU cD (pv 0) aY (λ_ _=>rfl)) aX)))
   (bh (bD (kE (sG mY mY aY (bH bO rfl G.len PySem.boot_len (aW (pv 0) aX)) aY) (cC gY rfl G.list boot_list (aW (cL gU (pv 0) (cR aY) dF) aX)) jQ))) bK)
  (bx (cF (bL Aw (bU cD (pv 0) aY (λ_ _=>rfl)) (bZ (v:=.ref df) rfl hd rfl) (by with_unfolding_all rfl))
   (bh (bD (JW (E:=E0) (λf sp=>∃n,n<=6/\f=fn n/\sp=pG n) (λf sp ⟨n,hn,e1,e2⟩=>by
     subst e1 e2;obtain⟨gd,k1,k2,k3⟩:=hf n hn;exact⟨8,gd,["thing"],k1,hr,k3,k2⟩) (bU Qk (bZ (v:=.ref df) rfl hd rfl) (bU cD (pv 0) aY (λ_ _=>rfl)) (λ_ _=>rfl)) yO (aW (pv 0) aX)))) bK)
  (bh (bD jQ))))),?_⟩
 refine fY (jM (oV (xG (bN (i:=0) rfl) rt (qO K)))) (λc H1 e1=>?_) (λc H1 e1=>?_)
 ·--no tuple
  refine Bj (pD (bN rfl) (rt.same e1)) (λ_ H2 e2=>Bj (pD (bN rfl) (rt.same (e1.trans e2))) (λ_ H3 e3=>Bj (pD (bN rfl) (rt.same (e1.trans (e2.trans e3))))
   (λ_ H4 e4=>pD (bN rfl) (rt.same (e1.trans (e2.trans (e3.trans e4))))))) _ λH5 e5=>?_
  have tail:∀(c:Bool),(c=true->ql t=some [])->(c=false->ql t=none)->tIf (tB (jE 1)) (Vw kI) (tC .non) [some v,some (.bl c)] H5 Q:=λc k1 k2=>by
   cases c with
   |true=>exact⟨_,rfl,_,rfl,dM ⟨small (by show 0<=1000000;decide),λl hl=>q2 [] (k1 rfl) _ l [] ((e1.trans e5).trans (bw hl _)) ((e1.trans e5).free hl) bf .nil⟩⟩
   |false=>exact⟨_,rfl,_,rfl,dW (q1 (k2 rfl) _ (e1.trans e5))⟩
  cases t with
  |int i=>
   refine tail _ (λz=>?_) (λz=>?_)
   ·have z':(uF (.int i)||(false||(false||false)))=true:=z
    have z2:uF (.int i)=true:=by simpa using z'
    show(if _=true then _ else _)=_;rw[if_pos z2]
   ·have z':(uF (.int i)||(false||(false||false)))=false:=z
    have z2:¬uF (.int i)=true:=by simpa using z'
    show(if _=true then _ else _)=_;rw[if_neg z2]
  |tup ts=>cases c
  |str x=>
   refine tail _ (λz=>?_) (λz=>?_)
   ·have z':iZ x=true:=z
    show(if _=true then _ else _)=_;rw[if_pos z']
   ·have z':¬iZ x=true:=by
     have z2:iZ x=false:=z;rw[z2];exact aip
    show(if _=true then _ else _)=_;rw[if_neg z']
 ·--a tuple
  cases rt with
  |int i=>cases c
  |str z h=>cases c
  |@tup a us ts ha j8=>
   have hl:=j8.length;have at0:∀{H2:Hp} {o:Option V} {h:T} {r:List T},Same H1 H2->ts=h::r->Ik (vG (uV K) (jE 0) (tC (.int 0))) [some (.ref a),o] H2 h:=λ{H2 o h r} e2 hts=>by
    subst hts;exact oh (i:=0) (bN rfl) (λ_ _=>dI) ((e1.trans e2) _ _ ha) (j8.same (e1.trans e2)) rfl
   refine fY (oY (iY (fJ (jP (bN rfl) (dY.of (e1 _ _ ha))) λ_ _=>dI)) (c2:=!(Zt xu ts)) (λc3 H2 e2=>?_)) (λc3 H2 e2=>?_) (λc3 H2 e2=>?_)
   ·cases hts:ts with
    |nil=>rw[hts]at hl;simp at c3;exact absurd hl (by simpa using c3)
    |cons h r=>
     refine jM (oV ?_);exact λQ q=>at0 e2 hts _ λv H3 e3 r3=>⟨v,_,"str",_,rfl,qN r3,ni K h,q H3 e3⟩
   ·refine q1 ?_ H2 (e1.trans e2)
    cases hts:ts with
    |nil=>rfl
    |cons h r=>
     rw[hts]at c3 hl;have z:xu h=false:=by
      have c4:(decide ((us.length:Int)=0)||(!(xu h)))=true:=c3;have:¬(us.length:Int)=0:=by simp at hl;omega
      rw[decide_eq_false this,Bool.false_or]at c4;simpa using c4
     cases h with
     |int i=>rfl
     |str x=>cases z
     |tup l=>rfl
   ·cases hts:ts with
    |nil=>rw[hts]at hl c3;rw[hl]at c3;cases c3
    |cons h r=>
     rw[hts]at c3 hl;have z:xu h=true:=by
      rw[aiy]at c3;have:=c3.2;simpa[Zt] using this
     cases h with
     |int i=>cases z
     |tup l=>cases z
     |str x=>
      rw[hts]at q1 q2;have hr2:cB H us (.str x::r):=by rw[hts]at j8;exact j8
      have g2:=e1.trans e2;refine fY (oV (qU (at0 e2 hts))) (λc4 H3 e3=>?_) (λc4 H3 e3=>?_)
      ·have c5:bJ x=true:=c4
       have g3:=g2.trans e3;refine iY (sX dI (λ_ e=>jP (K:=K) (bN (i:=0) rfl) (dY.of ((g3.trans e) _ _ ha))) λ_ _=>dI) _ λH4 e4=>?_;have g4:=g3.trans e4;refine ig (λc6=>?_) (λc6=>?_)
       ·have c7:cA 1 4 r=true:=by
         simp at c6 hl;simp[cA];omega
        have k:ql (.tup (.str x::r))=some r:=by rw[jG,if_pos c5,if_pos c7]
        exact wu (n:=1) (ts:=.str x::r) (bN rfl) (g4 _ _ ha) (hr2.same g4) (by simp) (by decide) ((show Ret H Q r from q2 r k).same g4)
       ·have c7:¬cA 1 4 r=true:=λz=>c6 (by
         simp[cA]at z;simp at hl;simp;omega)
        exact q1 (by rw[jG,if_pos c5,if_neg c7]) H4 g4
      ·have c5:¬bJ x=true:=by
        have c5':bJ x=false:=c4;rw[c5'];exact aip
       have g3:=g2.trans e3;have tin:R9 (Er (vG (λx y H Q=>∃z a fs,x=.str z/\y=.ref a/\oX K w a fs/\Q (.bl (fs.lookup z).isSome) H) (vG (uV K) (jE 0) (tC (.int 0))) (tC (.ref df)))) [some (.ref a),none] H3 (formOf x).isSome:=by
        refine iY λQ q=>at0 (e2.trans e3) hts _ λv H4 e4 r4=>?_;cases r4 with
        |str _ hx=>
         refine⟨x,df,_,rfl,rfl,D,?_⟩;rw[kW,Option.isSome_map];exact q H4 e4
       refine fY tin (λc6 H4 e4=>?_) (λc6 H4 e4=>?_)
       ·have g4:=g3.trans e4
        obtain⟨n,hn⟩:=Option.isSome_iff_exists.mp c6;have hn6:n<=6:=by
         have:∀p∈Ij,p.2<=6:=by decide+kernel
         exact this (x,n) (dB hn)
        refine at0 ((e2.trans e3).trans e4) hts _ λv H5 e5 r5=>?_;cases r5 with
        |str _ hx=>
         have g5:=g4.trans e5;refine⟨x,df,_,V.ref (fn n),rfl,rfl,D,?_,fn n,pG n,rfl,⟨n,hn6,rfl,rfl⟩,_,rfl,a,us, .str x,r,rfl,g5 _ _ ha,hr2.same g5,λk H6 e6=>?_,λl k=>?_⟩
         ·rw[kW]
          show(formOf x).map _=_;rw[hn]
          rfl
         ·exact q1 (by rw[jG,if_neg c5,hn];exact k) H6 (g5.trans e6)
         ·exact(show Ret H Q l from q2 l (by rw[jG,if_neg c5,hn];exact k)).same g5
       ·have hn:formOf x=none:=by simpa using c6
        exact q1 (by rw[jG,if_neg c5,hn]) H4 (g3.trans e4)
theorem Ip:bG ["thing"] ["thing"] (bA tL):=⟨rfl,rfl,rfl,by decide+kernel,rfl,by decide+kernel,by decide+kernel⟩
theorem Ir {g:Addr}(F:eV K "is_phrase" "is_phrase" tL f fd)(hm:mg "phrases_within"=some (.ref g))(h1:Has P w K mg aN 10 "all_fit" ["thing","within"] (sV ql g)):cj P w K mg aN eY 11 f fd ["thing"] (M5 ql):=by
 refine F.ok Ip (len:=λvs H Q E h=>(by obtain⟨v,t,b,rfl,_⟩:=h;rfl)) (λcX A aM s H vs Q E hr h=>?_);obtain⟨v,t,b,rfl,h⟩:=h;refine⟨_,bh (bD (bB h1 hr (by decide) rfl (aW (pv 0) (aW (bZ (v:=.ref g) rfl hm rfl) aX)))),?_⟩;exact⟨_,rfl,v,t,b,rfl,h⟩
end
theorem ac7 (t:T):(at2 t).sz<=t.sz:=by
 unfold at2;split
 ·simp[T.sz,d9];omega
 ·exact aio _
theorem ac8 (t:T):(at1 t).sz<=t.sz:=by
 unfold at1;split
 ·simp[T.sz,d9];omega
 ·exact aio _
theorem N7 {f:T->T}(h:∀t,(f t).sz<=t.sz):∀l,d9 (l.map f)<=d9 l
 |[]=>aio _
 |t::r=>by
  have h1:=h t;have h2:=N7 h r;simp only[aiR,d9];omega
theorem T6 {n:Nat}{r l:List T}(h:tH n r=some l):d9 l<=d9 r:=by
 unfold tH at h;split at h
 ·split at h
  ·cases h;simp[d9]
  ·cases h
 ·cases h;simp[d9]
 ·split at h
  ·cases h;simp[d9]
  ·cases h
 ·rename_i aP e
  split at h
  ·cases h
   have:d9 (rowsOf aP)<=aP.sz:=by
    unfold rowsOf;split
    ·have:=N7 ac7 ‹List T›
     simp only[T.sz];omega
    ·simp[d9]
   rw[iB];simp[d9];omega
  ·cases h
 ·rename_i e arms
  split at h
  ·cases h
   have:=N7 ac8 arms;simp only[d9];omega
  ·cases h
 ·split at h
  ·cases h;simp[d9]
  ·cases h
 ·cases h;simp[d9]
 ·cases h
theorem Ga {t:T}{l:List T}(h:ql t=some l):d9 l<t.sz:=by
 cases t with
 |int i=>
  have h':(if uF (.int i)=true then some [] else none)=some l:=h;split at h'
  ·cases h';simp[d9,T.sz]
  ·cases h'
 |str z=>
  have h':(if iZ z=true then some [] else none)=some l:=h;split at h'
  ·cases h';simp[d9,T.sz]
  ·cases h'
 |tup ts=>
  match ts,h with
  |.str z::r,h=>
   rw[jG]at h;simp only[T.sz,d9];split at h
   ·split at h
    ·cases h;omega
    ·cases h
   ·split at h
    ·have:=T6 h
     omega
    ·cases h
theorem Good.not {kids:T->Option (List T)}{t:T}(h:Good kids t):¬Bad kids t:=by
 induction h with
 |mk h q ih=>
  intro b;cases b with
  |none z=>rw[h]at z;cases z
  |kid z m b=>rw[h]at z;cases z;exact ih _ m b
theorem CG {t:T}:∀{l:List T},t∈l->t.sz<=d9 l
 |[],h=>by cases h
 |a::l,h=>by
  rcases aiB.mp h with rfl|h
  ·simp only[d9];omega
  ·have:=CG h
   simp only[d9];omega
theorem QW {kids:T->Option (List T)}(dec:∀{t l},kids t=some l->d9 l<t.sz):∀(n:Nat) (t:T),t.sz<=n->Good kids t\/Bad kids t
 |0,t,h=>by have:=xr t;omega
 |n+1,t,h=>by
  cases e:kids t with
  |none=>exact .inr (.none e)
  |some l=>
   have d:=dec e;by_cases b:∃k∈l,Bad kids k
   ·obtain⟨k,m,b⟩:=b
    exact .inr (.kid e m b)
   ·refine .inl (.mk e λk m=>?_)
    rcases QW dec n k (by have:=CG m;omega) with g|g
    ·exact g
    ·exact absurd ⟨k,m,g⟩ b
open Classical in
noncomputable def Iu (kids:T->Option (List T)) (t:T):Bool:=decide (Good kids t)
noncomputable def kindB:T->Bool:=Iu jw
noncomputable def gw:T->Bool:=Iu ql
open Classical in
theorem xZ {kids:T->Option (List T)}{t:T}(h:Good kids t):Iu kids t=true:=by
 unfold Iu;exact decide_eq_true h
open Classical in
theorem Xh {kids:T->Option (List T)}{t:T}(h:Bad kids t):Iu kids t=false:=by
 unfold Iu;exact decide_eq_false λg=>g.not h
def oG (f:T->Bool):Sp:=λvs H Q _=>∃v t,vs=[v]/\Rep H v t/\t.sz<=100000/\∀H',Same H H'->Q (.bl (f t)) H'
def lR (f:T->Bool)(g:Addr):Sp:=λvs H Q _=>∃a us ts,vs=[.ref a, .ref g]/\H a=some (.tup us)/\cB H us ts/\d9 ts<=100000/\∀H',Same H H'->Q (.bl (ts.all f)) H'
def dU (f:T->Bool)(g:Addr):Sp:=λvs H Q _=>∃(v:V) (t:T) (lo hi:Nat),vs=[v, .int lo, .int hi, .ref g]/\Rep H v t/\t.sz<=100000/\∀H',Same H H'->Q (.bl (cI lo hi f t)) H'
theorem QX:∀l:List T,l.length<=d9 l
 |[]=>aio _
 |a::l=>by
  have:=QX l;have:=xr a;simp only[d9,aiF];omega
section
variable {P:Program}{w:World}{K:PySem.W.Frag}{mg:Str->Option Value}{aN:Heap}{f:Addr}{fd:FuncData}
theorem fz {fB:T->Bool}{k:Nat}(F:cj P w K mg aN eY k f fd ["thing"] (spT fB)):cj P w K mg aN eY k f fd ["thing"] (oG fB) :=
 ⟨λvs H Q E h=>(by obtain⟨v,t,rfl,_⟩:=h;rfl),λA aM s H args us vs Q E hr e0 hb r h=>F.run A aM s H args us vs Q E hr e0 hb r (by obtain⟨v,t,e,rt,_,q⟩:=h;exact⟨v,t,e,rt,q⟩)⟩
theorem afi {kids:T->Option (List T)}(dec:∀{t l},kids t=some l->d9 l<t.sz){k:Nat}(F:cj P w K mg aN eY k f fd ["thing"] (M5 kids)):cj P w K mg aN eY k f fd ["thing"] (oG (Iu kids)) :=
 ⟨λvs H Q E h=>(by obtain⟨v,t,rfl,_⟩:=h;rfl),λA aM s H args us vs Q E hr e0 hb r h=>F.run A aM s H args us vs Q E hr e0 hb r (by
  obtain⟨v,t,e,rt,hz,q⟩:=h;rcases QW dec _ t (aio _) with g|g
  ·exact⟨v,t,true,e,rt,hz, .inl ⟨rfl,g⟩,by rw[xZ g]at q;exact q⟩
  ·exact⟨v,t,false,e,rt,hz, .inr ⟨rfl,g⟩,by rw[Xh g]at q;exact q⟩)⟩
theorem Has.z {fB:T->Bool}{k:Nat}{x:Str}(h:Has P w K mg aN k x ["thing"] (spT fB)):Has P w K mg aN k x ["thing"] (oG fB):=by
 obtain⟨f,fd,h1,h2⟩:=h;exact⟨f,fd,fz h1,h2⟩
theorem nj {fB:T->Bool}{g:Addr}{gd:FuncData}{k:Nat}(F:eV K "all_are" "all_are" nQ f fd)(G:Gb K mg)(hg:cj P w K mg aN eY k g gd ["thing"] (oG fB))(kg:PySem.W.keepIn K (.ref g)=true)(bg:Binds K gd ["thing"] []):
  cj P w K mg aN eY (k+1) f fd ["things","fits"] (lR fB g):=by
 refine F.ok Cj (len:=λvs H Q E h=>(by obtain⟨a,us,ts,rfl,_⟩:=h;rfl)) (λcX A aM s H vs Q E hr h=>?_);obtain⟨a,us,ts,rfl,ha,j8,hl,q⟩:=h;have hl2:=QX ts;refine⟨_,bh (bD (bH (Ao rfl) rfl G.all boot_all (aW (pR (bA nQ) ["things","fits"] ["fits"] [1] (by decide+kernel) (Af (pv 0)) (λC s₀ H₀ ex=>ji)
  (λC s₀ H₀ ex=>Ar (i:=1) hg hr rfl (Or.inr (Or.inl rfl)) kg bg yO (aW (pv 0) aX))) aX))),?_⟩
 refine⟨_,rfl,a,rfl,⟨us,dY.of ha⟩,?_⟩;refine wz (xs:=us) (λi vs H2=>Same H H2/\vs=(ts.take i).map λt=>V.bl (fB t)) ⟨Same.refl H,rfl⟩ ?_ ?_ ?_
 ·rintro i vs H2 hi ⟨e,rfl⟩
  refine⟨dY.of (e _ _ ha),?_⟩;rw[aix,aiW];exact fH (by omega)
 ·rintro i x vs H2 hi hx ⟨e,rfl⟩
  refine Zn (dM ⟨rfl,?_⟩);have hti:i<ts.length:=by rw[<-j8.length];exact hi
  obtain⟨v,e1,e2⟩:=j8.at_ (aiE hti);rw[hx]at e1;cases e1;have hz:(ts[i]).sz<=100000:=aiv (CG (ajs hti)) hl;refine⟨_,rfl,x,_,rfl,e2.same e,hz,λH3 e3=>nx hi ⟨e.trans e3,?_⟩⟩;rw[aj0,aiE hti,ajA,aiV]
  rfl
 ·rintro vs H2 ⟨e,rfl⟩ l hl'
  refine⟨l,ts.map fB,rfl,dX.of ?_,?_⟩
  ·rw[bf,List.map_map,ai4 (by rw[j8.length];exact aio _)]
   rfl
  ·have z:((ts.map fB).all id)=ts.all fB:=by
    rw[List.all_map]
    rfl
   rw[z];exact q _ (e.trans (bw hl' _))
theorem kY {fB:T->Bool}{g:Addr}{k:Nat}(F:eV K "is_list" "is_list" ur f fd)(h1:Has P w K mg aN 1 "has_length" ["thing","least","most"] f9)(h2:Has P w K mg aN (k+1) "all_are" ["things","fits"] (lR fB g)):
  cj P w K mg aN eY (k+2) f fd ["thing","least","most","fits"] (dU fB g):=by
 refine F.ok Ck (len:=λvs H Q E h=>(by obtain⟨v,t,lo,hi,rfl,_⟩:=h;rfl)) (λcX A aM s H vs Q E hr h=>?_);obtain⟨v,t,lo,hi,rfl,rt,hz,q⟩:=h;refine⟨_,bh (bD (cQ (bB h1 hr (by omega) rfl (aW (pv 0) (aW (pv 1) (aW (pv 2) aX)))) (dG (bB h2 hr (by omega) rfl (aW (pv 0) (aW (pv 3) aX)))))),?_⟩;refine⟨_,rfl,_,rfl,_,rfl,v,t,lo,hi,rfl,rt,λH' e'=>⟨_,rfl,?_⟩⟩;cases rt with
 |str z h=>exact dW (q H' e')
 |int i=>exact dW (q H' e')
 |@tup a us ts h r=>
  have q':∀H',Same H H'->Q (.bl (cA lo hi ts&&ts.all fB)) H':=q;show if cA lo hi ts=true then _ else _
  cases hl:cA lo hi ts with
  |false=>
   rw[hl]at q';exact dW (q' H' e')
  |true=>
   rw[hl,ai3]at q';simp only[T.sz]at hz;exact dM ⟨_,rfl,_,rfl,a,us,ts,rfl,e' _ _ h,r.same e',by omega,λH2 e2=>q' H2 (e'.trans e2)⟩
end
def nq:T->Nat
 |.tup l=>l.length
 |_=>0
def rR (i:Nat)(f:T->Bool):T->Bool
 |.tup l=>(match l[i]? with|some x=>f x|none=>false)
 |_=>false
def uO (n:Nat)(f:T->Bool):T->Bool
 |.tup l=>f (.tup (l.drop n))
 |_=>false
def allB (f:T->Bool):T->Bool
 |.tup l=>l.all f
 |_=>false
def isW (w:Str):T->Bool:=onStr λx=>decide (x=w)
structure Th (H:Hp)(U:L2.St)(t:T):Prop where
 ex:∃v,U[0]?=some (some v)/\Rep H v t
 sz:t.sz<=100000
section
variable {K:PySem.W.Frag}{ta:TE}{U:L2.St}{H H':Hp}{t x:T}{i n lo hi:Nat}{f:T->Bool}{g:Addr}
theorem Th.same (h:Th H U t)(e:Same H H'):Th H' U t:=by
 obtain⟨⟨v,h1,h2⟩,h3⟩:=h;exact⟨⟨v,h1,h2.same e⟩,h3⟩
theorem yc (h:Th H U t):Ik (jE 0) U H t:=by
 obtain⟨⟨v,h1,h2⟩,_⟩:=h;exact QS (bN h1) h2
theorem Xi (n:Nat)(l:List T):d9 (l.drop n)<=d9 l:=by
 induction l generalizing n with
 |nil=>simp
 |cons a l ih=>
  cases n with
  |zero=>exact aio _
  |succ n=>have:=ih n;simp only[List.drop_succ_cons,d9];omega
theorem Iv (h:i<nq t):∃l,t=.tup l/\i<l.length:=by
 cases t with
 |tup l=>exact⟨l,rfl,h⟩
 |int j=>exact absurd h (Nat.not_lt_zero _)
 |str z=>exact absurd h (Nat.not_lt_zero _)
theorem jc (h:dz lo hi t=true):lo<=nq t/\nq t<=hi:=by
 cases t with
 |tup l=>
  have h':cA lo hi l=true:=h;have h2:lo<=l.length/\l.length<=hi:=by simpa[cA] using h'
  exact h2
 |int j=>cases h
 |str z=>cases h
theorem QZ (h:Th H U t)(c:i<nq t):∃x,(∀f,rR i f t=f x)/\x.sz<=100000/\Ik (vG (uV K) (jE 0) (tC (.int i))) U H x:=by
 obtain⟨l,rfl,hl⟩:=Iv c;have e:l[i]?=some l[i]:=aiE hl;refine⟨l[i],λf=>?_,?_,N6 (i:=i) (yc h) (λ_ _=>dI) e⟩
 ·show(match l[i]? with|some x=>f x|none=>false)=_
  rw[e]
 ·have:=CG (ajs hl)
  have:=h.sz;simp only[T.sz]at this;omega
theorem zY (h:Th H U t)(c:0<nq t)(hn:1<=n):∃l,t=.tup l/\T.sz (.tup (l.drop n))<=100000/\Ik (Zk (Ak K) (jE 0) (uK (tC (.int n))) lW) U H (.tup (l.drop n)):=by
 obtain⟨l,rfl,hl⟩:=Iv c;refine⟨l,rfl,?_,QV (yc h) (List.ne_nil_of_length_pos hl) hn⟩;have:=Xi n l;have:=h.sz;simp only[T.sz]at this ⊢;omega
theorem ez (h:Ik ta U H x)(hz:x.sz<=100000):Ev (jh (oG f) [] E0 (cV ta kI)) U H (.bl (f x)):=λQ q=>h _ λv H' e r=>⟨v,x,rfl,r,hz,λH2 e2=>q H2 (e.trans e2)⟩
theorem abP (h:Th H U t):Ev (jh (oG f) [] E0 (cV (jE 0) kI)) U H (.bl (f t)):=ez (yc h) h.sz
theorem rY (i:Nat)(h:Th H U t)(c:i<nq t):Ev (jh (oG f) [] E0 (cV (vG (uV K) (jE 0) (tC (.int i))) kI)) U H (.bl (rR i f t)):=by
 obtain⟨x,e,hz,hx⟩:=QZ (K:=K) h c;rw[e];exact ez hx hz
theorem Ge (lo hi:Nat)(h:Th H U t):Ev (jh f9 [] E0 (cV (jE 0) (cV (tC (.int lo)) (cV (tC (.int hi)) kI)))) U H (.bl (dz lo hi t)):=uq lo hi (yc h)
theorem el (lo hi:Nat)(h:Ik ta U H x)(hz:x.sz<=100000):Ev (jh (dU f g) [] E0 (cV ta (cV (tC (.int lo)) (cV (tC (.int hi)) (cV (tC (.ref g)) kI))))) U H (.bl (cI lo hi f x)) :=
 λQ q=>h _ λv H' e r=>⟨v,x,lo,hi,rfl,r,hz,λH2 e2=>q H2 (e.trans e2)⟩
theorem abQ (lo hi:Nat)(h:Th H U t):Ev (jh (dU f g) [] E0 (cV (jE 0) (cV (tC (.int lo)) (cV (tC (.int hi)) (cV (tC (.ref g)) kI))))) U H (.bl (cI lo hi f t)):=el lo hi (yc h) h.sz
theorem aau (i lo hi:Nat)(h:Th H U t)(c:i<nq t):Ev (jh (dU f g) [] E0 (cV (vG (uV K) (jE 0) (tC (.int i))) (cV (tC (.int lo)) (cV (tC (.int hi)) (cV (tC (.ref g)) kI))))) U H (.bl (rR i (cI lo hi f) t)):=by
 obtain⟨x,e,hz,hx⟩:=QZ (K:=K) h c;rw[e];exact el lo hi hx hz
theorem Xj (n lo hi:Nat)(h:Th H U t)(c:0<nq t)(hn:1<=n:=by decide):Ev (jh (dU f g) [] E0 (cV (Zk (Ak K) (jE 0) (uK (tC (.int n))) lW) (cV (tC (.int lo)) (cV (tC (.int hi)) (cV (tC (.ref g)) kI))))) U H (.bl (uO n (cI lo hi f) t)):=by
 obtain⟨l,rfl,hz,hx⟩:=zY (K:=K) h c hn;exact el lo hi hx hz
theorem Xk (n:Nat)(h:Th H U t)(c:0<nq t)(hn:1<=n:=by decide):Ev (jh (oG f) [] E0 (cV (Zk (Ak K) (jE 0) (uK (tC (.int n))) lW) kI)) U H (.bl (uO n f t)):=by
 obtain⟨l,rfl,hz,hx⟩:=zY (K:=K) h c hn;exact ez hx hz
theorem ac9 (n:Nat)(h:Th H U t)(c:0<nq t)(hn:1<=n:=by decide):Ev (jh (lR f g) [] E0 (cV (Zk (Ak K) (jE 0) (uK (tC (.int n))) lW) (cV (tC (.ref g)) kI))) U H (.bl (uO n (allB f) t)):=by
 obtain⟨l,rfl,hz,hx⟩:=zY (K:=K) h c hn;refine λQ q=>hx _ λv H' e r=>?_;cases r with
 |tup h r=>
  simp only[T.sz]at hz;exact⟨_,_,_,rfl,h,r,by omega,λH2 e2=>q H2 (e.trans e2)⟩
theorem Xl (i:Nat)(z:Str)(h:Th H U t)(c:i<nq t):Ev (vG (λx y H Q=>rEq x y H Q\/∃a xs z,x=.ref a/\y=.str z/\dY K H a xs/\Q (.bl false) H) (vG (uV K) (jE 0) (tC (.int i))) (tC (.str z))) U H (.bl (rR i (isW z) t)):=by
 obtain⟨x,e,hz,hx⟩:=QZ (K:=K) h c;rw[e];exact λQ q=>hx _ λv H' e r=>J4 r (q H' e)
theorem CJ (h:Th H U t)(c:qM t=true):Ev (ZM (gA K) (cV (jE 0) kI)) U H (.int (nq t)):=by
 obtain⟨⟨v,h1,h2⟩,_⟩:=h;cases h2 with
 |int i=>cases c
 |str z hz=>cases c
 |@tup a vs ts ha r=>
  have:=jP (K:=K) (bN h1) (dY.of ha);rw[r.length]at this;exact this
theorem ac' {j k:Int}{ta tb:TE}(h1:Ev ta U H (.int j))(h2:∀H',Same H H'->Ev tb U H' (.int k)):Ev (vG (UJ λi j=>.bl (decide (i<j))) ta tb) U H (.bl (decide (j<k))):=sW h1 h2 λH' Q e q=>⟨j,k,rfl,rfl,q⟩
theorem agg {j k:Int}{ta tb:TE}(h1:Ev ta U H (.int j))(h2:∀H',Same H H'->Ev tb U H' (.int k)):Ev (vG (UJ λi j=>.bl (decide (j<=i))) ta tb) U H (.bl (decide (k<=j))):=sW h1 h2 λH' Q e q=>⟨j,k,rfl,rfl,q⟩
end
abbrev qZ:Stmt:=top 63
abbrev oH:Stmt:=top 64
abbrev jd:Stmt:=top 65
abbrev je:Stmt:=top 66
abbrev gO:Stmt:=top 67
abbrev mU:Stmt:=top 68
abbrev vB:Stmt:=top 69
abbrev mW:Stmt:=top 70
abbrev yd:Stmt:=top 71
abbrev jf:Stmt:=top 72
abbrev oJ:Stmt:=top 73
abbrev yg:Stmt:=top 74
abbrev jg:Stmt:=top 75
abbrev iG:Stmt:=top 76
abbrev iH:Stmt:=top 77
abbrev JB:T->Bool:=onStr nameB
abbrev vC:T->Bool:=onStr bJ
abbrev K3:T->Bool:=onStr iz
noncomputable def zE (t:T):Bool:=dz 1 5 t&&(rR 0 vC t&&uO 1 (allB kindB) t)
noncomputable def oK (t:T):Bool:=dz 2 2 t&&(rR 0 JB t&&rR 1 kindB t)
noncomputable def Gf (most:Nat) (zF:T->Bool) (t:T):Bool:=!(decide ((nq t:Int)<3)|| !(rR 1 JB t))&&(rR 2 (cI 0 3 K3) t&&uO 3 (cI 1 most zF) t)
noncomputable def Xm:T->Bool:=Gf 6 zE
noncomputable def abR:T->Bool:=Gf 4 oK
def iJ (t:T):Bool:=vC t||cI 2 3 vC t
def jV (t:T):Bool:=dz 2 2 t&&(rR 0 vC t&&rR 1 iJ t)
def ada:T->Bool
 |.int i=>decide (0<=i)&&decide (i<=2)
 |_=>false
def Gg (t:T):Bool:=uF t&&ada t
noncomputable def rT (t:T):Bool:=!(!(dz 3 3 t)|| !(rR 1 JB t))&&(if rR 0 (isW "hide") t=true then rR 2 Gg t else(rR 0 (isW "val") t&&rR 2 kindB t))
noncomputable def Iw (t:T):Bool:=!(decide ((nq t:Int)<3)|| !(rR 1 vC t))&&(rR 2 (cI 0 2 jV) t&&uO 3 (cI 0 24 rT) t)
noncomputable def eN (t:T):Bool:=!(!(dz 3 4 t)|| !(rR 1 JB t))&&(if rR 0 (isW "hide") t=true then(decide ((nq t:Int)=4)&&(rR 2 (cI 0 2 K3) t&&rR 3 kindB t)) else(rR 0 (isW "val") t&&(decide ((nq t:Int)=3)&&rR 2 gw t)))
noncomputable def CK:T->Bool:=cI 0 24 eN
noncomputable def Iz (t:T):Bool:=decide (3<=(nq t:Int))&&(rR 1 vC t&&(rR 2 iJ t&&uO 3 CK t))
noncomputable def zZ (t:T):Bool:=!(decide ((nq t:Int)<4)|| !(rR 1 vC t))&&(rR 2 (cI 1 2 jV) t&&(rR 3 iJ t&&uO 4 CK t))
def Q0 (t:T):Bool:=uO 1 (cI 3 4 vC) t
def spU (f:T->Bool):Sp:=λvs H Q _=>∃v t,vs=[v]/\Rep H v t/\t.sz<=100000/\0<nq t/\∀H',Same H H'->Q (.bl (f t)) H'
theorem CP {t:T}{i:Nat}(h:i<nq t):qM t=true:=by
 obtain⟨l,rfl,_⟩:=Iv h
 rfl
theorem yh {tst:TT}{b:TS}{Q:VK}{U:L2.St}{H:Hp}{c d:Bool}(h:R9 tst U H c)(q:∀H',Same H H'->Q (.bl (!c&&d)) H')(h2:c=false->∀H',Same H H'->(∀H2,Same H' H2->Q (.bl d) H2)->b (Ends.of Q) U H'):
  JD (Mi tst (Mh (tC (.bl false))) Px) b (Ends.of Q) U H:=by
 refine fY h (λc H1 e1=>?_) (λc H1 e1=>?_)
 ·subst c
  exact q H1 e1
 ·subst c
  exact h2 rfl H1 e1 λH2 e2=>q H2 (e1.trans e2)
section
variable {P:Program}{w:World}{K:PySem.W.Frag}{mg:Str->Option Value}{aN:Heap}{f:Addr}{fd:FuncData}
theorem Eb:bG ["thing"] ["thing"] (bA qZ):=⟨rfl,rfl,rfl,by decide+kernel,rfl,by decide+kernel,by decide+kernel⟩
theorem Ec {gK:Addr}(F:eV K "is_tag_row" "is_tag_row" qZ f fd)(hl:Has P w K mg aN 1 "has_length" ["thing","least","most"] f9)(hg:Has P w K mg aN 2 "is_great" ["thing"] (oG vC))(ha:Has P w K mg aN 8 "all_are" ["things","fits"] (lR kindB gK))(mk:mg "is_kind"=some (.ref gK)):cj P w K mg aN eY 9 f fd ["thing"] (oG zE):=by
 refine F.ok Eb (len:=λvs H Q E h=>(by obtain⟨v,t,rfl,_⟩:=h;rfl)) (λcX A aM s H vs Q E hr h=>?_);obtain⟨v,t,rfl,rt,hz,q⟩:=h;have T0:Th H (L2.start ["thing"] [v]) t:=⟨⟨v,rfl,rt⟩,hz⟩;refine⟨_,bh (bD (cQ (bB hl hr (by decide) rfl (aW (pv 0) (aW aY (aW aY aX)))) (cQ (bB hg hr (by decide) rfl (aW (bU cD (pv 0) aY (λ_ _=>rfl)) aX)) (dG (bB ha hr (by decide) rfl (aW (cL gU (pv 0) (cR aY) dF) (aW (bZ (v:=.ref gK) rfl mk rfl) aX))))))),?_⟩;exact eH (Ge 1 5 T0) (λc H1 e1=>eH (rY 0 (T0.same e1) (by have:=jc c;omega)) (λ_ H2 e2=>ac9 1 (T0.same (e1.trans e2)) (by have:=jc c;omega))) Q q
theorem zG:bG ["thing"] ["thing"] (bA oH):=⟨rfl,rfl,rfl,by decide+kernel,rfl,by decide+kernel,by decide+kernel⟩
theorem zH (F:eV K "is_field_row" "is_field_row" oH f fd)(hl:Has P w K mg aN 1 "has_length" ["thing","least","most"] f9)(hn:Has P w K mg aN 3 "is_name" ["thing"] (oG JB))(hk:Has P w K mg aN 7 "is_kind" ["thing"] (oG kindB)):cj P w K mg aN eY 8 f fd ["thing"] (oG oK):=by
 refine F.ok zG (len:=λvs H Q E h=>(by obtain⟨v,t,rfl,_⟩:=h;rfl)) (λcX A aM s H vs Q E hr h=>?_);obtain⟨v,t,rfl,rt,hz,q⟩:=h;have T0:Th H (L2.start ["thing"] [v]) t:=⟨⟨v,rfl,rt⟩,hz⟩;refine⟨_,bh (bD (cQ (bB hl hr (by decide) rfl (aW (pv 0) (aW aY (aW aY aX)))) (cQ (bB hn hr (by decide) rfl (aW (bU cD (pv 0) aY (λ_ _=>rfl)) aX)) (dG (bB hk hr (by decide) rfl (aW (bU cD (pv 0) aY (λ_ _=>rfl)) aX)))))),?_⟩;exact eH (Ge 2 2 T0) (λc H1 e1=>eH (rY 0 (T0.same e1) (by have:=jc c;omega)) (λ_ H2 e2=>rY 1 (T0.same (e1.trans e2)) (by have:=jc c;omega))) Q q
theorem yj:bG ["thing"] ["thing"] (bA mU):=⟨rfl,rfl,rfl,by decide+kernel,rfl,by decide+kernel,by decide+kernel⟩
theorem yp {gG:Addr}(F:eV K "is_given_face" "is_given_face" mU f fd)(hg:Has P w K mg aN 2 "is_great" ["thing"] (oG vC))(hs:Has P w K mg aN 4 "is_list" ["thing","least","most","fits"] (dU vC gG))(mG:mg "is_great"=some (.ref gG)):cj P w K mg aN eY 5 f fd ["thing"] (oG iJ):=by
 refine F.ok yj (len:=λvs H Q E h=>(by obtain⟨v,t,rfl,_⟩:=h;rfl)) (λcX A aM s H vs Q E hr h=>?_);obtain⟨v,t,rfl,rt,hz,q⟩:=h;have T0:Th H (L2.start ["thing"] [v]) t:=⟨⟨v,rfl,rt⟩,hz⟩;refine⟨_,bh (bD (rO (bB hg hr (by decide) rfl (aW (pv 0) aX)) (dG (bB hs hr (by decide) rfl (aW (pv 0) (aW aY (aW aY (aW (bZ (v:=.ref gG) rfl mG rfl) aX)))))))),?_⟩;exact Bj (abP T0) (λ_ H1 e1=>abQ 2 3 (T0.same e1)) Q q
theorem K4:bG ["thing"] ["thing"] (bA vB):=⟨rfl,rfl,rfl,by decide+kernel,rfl,by decide+kernel,by decide+kernel⟩
theorem K5 (F:eV K "is_giver" "is_giver" vB f fd)(hl:Has P w K mg aN 1 "has_length" ["thing","least","most"] f9)(hg:Has P w K mg aN 2 "is_great" ["thing"] (oG vC))(hv:Has P w K mg aN 5 "is_given_face" ["thing"] (oG iJ)):cj P w K mg aN eY 6 f fd ["thing"] (oG jV):=by
 refine F.ok K4 (len:=λvs H Q E h=>(by obtain⟨v,t,rfl,_⟩:=h;rfl)) (λcX A aM s H vs Q E hr h=>?_);obtain⟨v,t,rfl,rt,hz,q⟩:=h;have T0:Th H (L2.start ["thing"] [v]) t:=⟨⟨v,rfl,rt⟩,hz⟩;refine⟨_,bh (bD (cQ (bB hl hr (by decide) rfl (aW (pv 0) (aW aY (aW aY aX)))) (cQ (bB hg hr (by decide) rfl (aW (bU cD (pv 0) aY (λ_ _=>rfl)) aX)) (dG (bB hv hr (by decide) rfl (aW (bU cD (pv 0) aY (λ_ _=>rfl)) aX)))))),?_⟩;exact eH (Ge 2 2 T0) (λc H1 e1=>eH (rY 0 (T0.same e1) (by have:=jc c;omega)) (λ_ H2 e2=>rY 1 (T0.same (e1.trans e2)) (by have:=jc c;omega))) Q q
theorem yq:bG ["thing"] ["thing"] (bA mW):=⟨rfl,rfl,rfl,by decide+kernel,rfl,by decide+kernel,by decide+kernel⟩
theorem yr (F:eV K "is_hide_count" "is_hide_count" mW f fd)(hn:Has P w K mg aN 2 "is_number" ["thing"] (oG uF)):cj P w K mg aN eY 3 f fd ["thing"] (oG Gg):=by
 refine F.ok yq (len:=λvs H Q E h=>(by obtain⟨v,t,rfl,_⟩:=h;rfl)) (λcX A aM s H vs Q E hr h=>?_);obtain⟨v,t,rfl,rt,hz,q⟩:=h;have T0:Th H (L2.start ["thing"] [v]) t:=⟨⟨v,rfl,rt⟩,hz⟩;refine⟨_,bh (bD (cQ (bB hn hr (by decide) rfl (aW (pv 0) aX)) (dG (Ah mY mY aY (pv 0) aY)))),?_⟩;refine eH (abP T0) (c2:=ada t) (λc H1 e1=>?_) Q q;cases rt with
 |str z h=>cases c
 |tup h r=>cases c
 |int i=>exact sX dI (λ_ _=>bN rfl) (λ_ _=>dI)
theorem N8:bG ["thing"] ["thing"] (bA yd):=⟨rfl,rfl,rfl,by decide+kernel,rfl,by decide+kernel,by decide+kernel⟩
theorem Oa (F:eV K "is_item" "is_item" yd f fd)(hl:Has P w K mg aN 1 "has_length" ["thing","least","most"] f9)(hn:Has P w K mg aN 3 "is_name" ["thing"] (oG JB))(hh:Has P w K mg aN 3 "is_hide_count" ["thing"] (oG Gg))(hk:Has P w K mg aN 7 "is_kind" ["thing"] (oG kindB)):cj P w K mg aN eY 8 f fd ["thing"] (oG rT):=by
 refine F.ok N8 (len:=λvs H Q E h=>(by obtain⟨v,t,rfl,_⟩:=h;rfl)) (λcX A aM s H vs Q E hr h=>?_);obtain⟨v,t,rfl,rt,hz,q⟩:=h;have T0:Th H (L2.start ["thing"] [v]) t:=⟨⟨v,rfl,rt⟩,hz⟩;refine⟨_,bx (cF (PW.pt (kj (dZ (cT (bB hl hr (by decide) rfl (aW (pv 0) (aW aY (aW aY aX)))))) (jm (dZ (cT (bB hn hr (by decide) rfl (aW (bU cD (pv 0) aY (λ_ _=>rfl)) aX))))))) (bh (bD lG)) bK) (bx (cF (bL (m8.or cN (iw hr.uU)) (bU cD (pv 0) aY (λ_ _=>rfl)) bQ (bM _)) (bh (bD (bB hh hr (by decide) rfl (aW (bU cD (pv 0) aY (λ_ _=>rfl)) aX)))) bK) (bh (bD (cQ (dR (m8.or cN (iw hr.uU)) (bU cD (pv 0) aY (λ_ _=>rfl)) bQ (bM _)) (dG (bB hk hr (by decide) rfl (aW (bU cD (pv 0) aY (λ_ _=>rfl)) aX))))))),?_⟩;refine yh (oY (jM (oV (Ge 3 3 T0))) (c2:=!(rR 1 JB t)) (λc H1 e1=>jM (oV (rY 1 (T0.same e1) (by have:=jc (t:=t) (by simpa using c);omega))))) q (λc H1 e1 q1=>?_);rw[aiy]at c;have c1:dz 3 3 t=true:=by simpa using c.1
 have T1:=T0.same e1;refine fY (iY (Xl 0 "hide" T1 (by have:=jc c1;omega))) (λc2 H2 e2=>?_) (λc2 H2 e2=>?_)
 ·refine rY 2 (T1.same e2) (by have:=jc c1;omega) _ λH3 e3=>?_
  have:=q1 H3 (e2.trans e3);rw[if_pos c2]at this;exact this
 ·refine eH (Xl 0 "val" (T1.same e2) (by have:=jc c1;omega)) (λ_ H3 e3=>rY 2 (T1.same (e2.trans e3)) (by have:=jc c1;omega)) _ λH3 e3=>?_
  have:=q1 H3 (e2.trans e3);rw[if_neg (by rw[c2];exact aip)]at this;exact this
theorem zJ:bG ["thing"] ["thing"] (bA oJ):=⟨rfl,rfl,rfl,by decide+kernel,rfl,by decide+kernel,by decide+kernel⟩
theorem zK {gV:Addr}(F:eV K "is_body_item" "is_body_item" oJ f fd)(ml:mg "len"=none)(hl:Has P w K mg aN 1 "has_length" ["thing","least","most"] f9)(hn:Has P w K mg aN 3 "is_name" ["thing"] (oG JB))(hv:Has P w K mg aN 5 "is_list" ["thing","least","most","fits"] (dU K3 gV))(mV:mg "is_variable"=some (.ref gV))(hk:Has P w K mg aN 7 "is_kind" ["thing"] (oG kindB))(hp:Has P w K mg aN 11 "is_phrase" ["thing"] (oG gw)):cj P w K mg aN eY 12 f fd ["thing"] (oG eN):=by
 refine F.ok zJ (len:=λvs H Q E h=>(by obtain⟨v,t,rfl,_⟩:=h;rfl)) (λcX A aM s H vs Q E hr h=>?_);obtain⟨v,t,rfl,rt,hz,q⟩:=h;have T0:Th H (L2.start ["thing"] [v]) t:=⟨⟨v,rfl,rt⟩,hz⟩;refine⟨_,bx (cF (PW.pt (kj (dZ (cT (bB hl hr (by decide) rfl (aW (pv 0) (aW aY (aW aY aX)))))) (jm (dZ (cT (bB hn hr (by decide) rfl (aW (bU cD (pv 0) aY (λ_ _=>rfl)) aX))))))) (bh (bD lG)) bK) (bx (cF (bL (m8.or cN (iw hr.uU)) (bU cD (pv 0) aY (λ_ _=>rfl)) bQ (bM _)) (bh (bD (cQ (dR cN (bH bO rfl ml PySem.boot_len (aW (pv 0) aX)) aY (bM _)) (cQ (bB hv hr (by decide) rfl (aW (bU cD (pv 0) aY (λ_ _=>rfl)) (aW aY (aW aY (aW (bZ (v:=.ref gV) rfl mV rfl) aX))))) (dG (bB hk hr (by decide) rfl (aW (bU cD (pv 0) aY (λ_ _=>rfl)) aX))))))) bK) (bh (bD (cQ (dR (m8.or cN (iw hr.uU)) (bU cD (pv 0) aY (λ_ _=>rfl)) bQ (bM _)) (cQ (dR cN (bH bO rfl ml PySem.boot_len (aW (pv 0) aX)) aY (bM _)) (dG (bB hp hr (by decide) rfl (aW (bU cD (pv 0) aY (λ_ _=>rfl)) aX)))))))),?_⟩;refine yh (oY (jM (oV (Ge 3 4 T0))) (c2:=!(rR 1 JB t)) (λc H1 e1=>jM (oV (rY 1 (T0.same e1) (by have:=jc (t:=t) (by simpa using c);omega))))) q (λc H1 e1 q1=>?_);rw[aiy]at c;have c1:dz 3 4 t=true:=by simpa using c.1
 have T1:=T0.same e1;have tp:qM t=true:=CP (i:=0) (by have:=jc c1;omega);refine fY (iY (Xl 0 "hide" T1 (by have:=jc c1;omega))) (λc2 H2 e2=>?_) (λc2 H2 e2=>?_)
 ·have T2:=T1.same e2
  refine eH (fJ (CJ T2 tp) (λ_ _=>dI)) (λc3 H3 e3=>eH (aau 2 0 2 (T2.same e3) (by have:=jc c1;omega)) (λ_ H4 e4=>rY 3 (T2.same (e3.trans e4)) (by have:=of_decide_eq_true c3;omega))) _ λH3 e3=>?_;have:=q1 H3 (e2.trans e3);rw[if_pos c2]at this;exact this
 ·have T2:=T1.same e2
  refine eH (Xl 0 "val" T2 (by have:=jc c1;omega)) (λ_ H3 e3=>eH (fJ (CJ (T2.same e3) tp) (λ_ _=>dI)) (λc3 H4 e4=>rY 2 (T2.same (e3.trans e4)) (by have:=of_decide_eq_true c3;omega))) _ λH3 e3=>?_;have:=q1 H3 (e2.trans e3);rw[if_neg (by rw[c2];exact aip)]at this;exact this
theorem Ob:bG ["things"] ["things"] (bA yg):=⟨rfl,rfl,rfl,by decide+kernel,rfl,by decide+kernel,by decide+kernel⟩
theorem Oc {gB:Addr}(F:eV K "is_body" "is_body" yg f fd)(hs:Has P w K mg aN 14 "is_list" ["thing","least","most","fits"] (dU eN gB))(mB:mg "is_body_item"=some (.ref gB))(vi:∃t,mg "MOST_ITEMS"=some (.int 24 t)):cj P w K mg aN eY 15 f fd ["things"] (oG CK):=by
 refine F.ok Ob (len:=λvs H Q E h=>(by obtain⟨v,t,rfl,_⟩:=h;rfl)) (λcX A aM s H vs Q E hr h=>?_);obtain⟨v,t,rfl,rt,hz,q⟩:=h;obtain⟨ti,vi⟩:=vi;have T0:Th H (L2.start ["things"] [v]) t:=⟨⟨v,rfl,rt⟩,hz⟩;refine⟨_,bh (bD (bB hs hr (by decide) rfl (aW (pv 0) (aW aY (aW (bZ (v:=.int 24) rfl vi ⟨_,rfl⟩) (aW (bZ (v:=.ref gB) rfl mB rfl) aX)))))),?_⟩;exact abQ 0 24 T0 Q q
def CQ (zF:T->Bool)(g:Addr):Sp:=λvs H Q _=>∃(v:V) (t:T) (most:Nat),vs=[v, .int most, .ref g]/\Rep H v t/\t.sz<=100000/\0<nq t/\∀H',Same H H'->Q (.bl (Gf most zF t)) H'
theorem q9:bG ["thing","most","is_row"] ["thing","most","is_row"] (bA jd):=⟨rfl,rfl,rfl,by decide+kernel,rfl,by decide+kernel,by decide+kernel⟩
theorem kZ {gV g:Addr}{zF:T->Bool}{k:Nat}(F:eV K "is_sort_declaration" "is_sort_declaration" jd f fd)(ml:mg "len"=none)(hn:Has P w K mg aN 3 "is_name" ["thing"] (oG JB))(hv:Has P w K mg aN 5 "is_list" ["thing","least","most","fits"] (dU K3 gV))(mV:mg "is_variable"=some (.ref gV))(hs:Has P w K mg aN (k+5) "is_list" ["thing","least","most","fits"] (dU zF g)):
  cj P w K mg aN eY (k+6) f fd ["thing","most","is_row"] (CQ zF g):=by
 refine F.ok q9 (len:=λvs H Q E h=>(by obtain⟨v,t,m,rfl,_⟩:=h;rfl)) (λcX A aM s H vs Q E hr h=>?_);obtain⟨v,t,most,rfl,rt,hz,hp,q⟩:=h;have T0:Th H (L2.start ["thing","most","is_row"] [v, .int most, .ref g]) t:=⟨⟨v,rfl,rt⟩,hz⟩;refine⟨_,bx (cF (PW.pt (kj (bL yM (bH bO rfl ml PySem.boot_len (aW (pv 0) aX)) aY (bM _)) (jm (dZ (cT (bB hn hr (by omega) rfl (aW (bU cD (pv 0) aY (λ_ _=>rfl)) aX))))))) (bh (bD lG)) bK)
  (bh (bD (cQ (bB hv hr (by omega) rfl (aW (bU cD (pv 0) aY (λ_ _=>rfl)) (aW aY (aW aY (aW (bZ (v:=.ref gV) rfl mV rfl) aX))))) (dG (bB hs hr (by omega) rfl (aW (cL gU (pv 0) (cR aY) dF) (aW aY (aW (pv 1) (aW (pv 2) aX))))))))),?_⟩
 refine yh (oY (iY (ac' (CJ T0 (CP hp)) (λ_ _=>dI))) (c2:=!(rR 1 JB t)) (λc H1 e1=>jM (oV (rY 1 (T0.same e1) (by have:=of_decide_eq_false c;omega))))) q (λc H1 e1 q1=>?_);rw[aiy]at c;have c1:=of_decide_eq_false c.1;have T1:=T0.same e1;refine eH (aau 2 0 3 T1 (by omega)) (λ_ H2 e2=>?_) Q q1;obtain⟨l,rfl,hz2,hx⟩:=zY (K:=K) (n:=3) (T1.same e2) hp (by decide);exact λQ' q'=>hx _ λv' H' e r=>⟨_,rfl,_,rfl,v',_,1,most,rfl,r,hz2,λH2 e2=>q' H2 (e.trans e2)⟩
theorem rA:bG ["thing"] ["thing"] (bA je):=⟨rfl,rfl,rfl,by decide+kernel,rfl,by decide+kernel,by decide+kernel⟩
theorem rB {gT:Addr}(F:eV K "is_kind_declaration" "is_kind_declaration" je f fd)(hs:Has P w K mg aN 12 "is_sort_declaration" ["thing","most","is_row"] (CQ zE gT))(mr:mg "is_tag_row"=some (.ref gT)):cj P w K mg aN eY 13 f fd ["thing"] (spU Xm):=by
 refine F.ok rA (len:=λvs H Q E h=>(by obtain⟨v,t,rfl,_⟩:=h;rfl)) (λcX A aM s H vs Q E hr h=>?_);obtain⟨v,t,rfl,rt,hz,hp,q⟩:=h;have T0:Th H (L2.start ["thing"] [v]) t:=⟨⟨v,rfl,rt⟩,hz⟩;refine⟨_,bh (bD (bB hs hr (by decide) rfl (aW (pv 0) (aW aY (aW (bZ (v:=.ref gT) rfl mr rfl) aX))))),?_⟩;exact⟨_,rfl,v,t,6,rfl,rt,hz,hp,q⟩
theorem pJ:bG ["thing"] ["thing"] (bA gO):=⟨rfl,rfl,rfl,by decide+kernel,rfl,by decide+kernel,by decide+kernel⟩
theorem pK {gF:Addr}(F:eV K "is_record_declaration" "is_record_declaration" gO f fd)(hs:Has P w K mg aN 12 "is_sort_declaration" ["thing","most","is_row"] (CQ oK gF))(mr:mg "is_field_row"=some (.ref gF)):cj P w K mg aN eY 13 f fd ["thing"] (spU abR):=by
 refine F.ok pJ (len:=λvs H Q E h=>(by obtain⟨v,t,rfl,_⟩:=h;rfl)) (λcX A aM s H vs Q E hr h=>?_);obtain⟨v,t,rfl,rt,hz,hp,q⟩:=h;have T0:Th H (L2.start ["thing"] [v]) t:=⟨⟨v,rfl,rt⟩,hz⟩;refine⟨_,bh (bD (bB hs hr (by decide) rfl (aW (pv 0) (aW aY (aW (bZ (v:=.ref gF) rfl mr rfl) aX))))),?_⟩;exact⟨_,rfl,v,t,4,rfl,rt,hz,hp,q⟩
theorem rD:bG ["thing"] ["thing"] (bA jf):=⟨rfl,rfl,rfl,by decide+kernel,rfl,by decide+kernel,by decide+kernel⟩
theorem rE {gR gI:Addr}(F:eV K "is_face_declaration" "is_face_declaration" jf f fd)(ml:mg "len"=none)(hg:Has P w K mg aN 2 "is_great" ["thing"] (oG vC))(h1:Has P w K mg aN 8 "is_list" ["thing","least","most","fits"] (dU jV gR))(mR:mg "is_giver"=some (.ref gR))(h2:Has P w K mg aN 10 "is_list" ["thing","least","most","fits"] (dU rT gI))(mI:mg "is_item"=some (.ref gI))(vg:∃t,mg "MOST_GIVERS"=some (.int 2 t))(vi:∃t,mg "MOST_ITEMS"=some (.int 24 t)):cj P w K mg aN eY 11 f fd ["thing"] (spU Iw):=by
 refine F.ok rD (len:=λvs H Q E h=>(by obtain⟨v,t,rfl,_⟩:=h;rfl)) (λcX A aM s H vs Q E hr h=>?_);obtain⟨v,t,rfl,rt,hz,hp,q⟩:=h;obtain⟨tg,vg⟩:=vg;obtain⟨ti,vi⟩:=vi;have T0:Th H (L2.start ["thing"] [v]) t:=⟨⟨v,rfl,rt⟩,hz⟩;refine⟨_,bx (cF (PW.pt (kj (bL yM (bH bO rfl ml PySem.boot_len (aW (pv 0) aX)) aY (bM _)) (jm (dZ (cT (bB hg hr (by decide) rfl (aW (bU cD (pv 0) aY (λ_ _=>rfl)) aX))))))) (bh (bD lG)) bK) (bh (bD (cQ (bB h1 hr (by decide) rfl (aW (bU cD (pv 0) aY (λ_ _=>rfl)) (aW aY (aW (bZ (v:=.int 2) rfl vg ⟨_,rfl⟩) (aW (bZ (v:=.ref gR) rfl mR rfl) aX))))) (dG (bB h2 hr (by decide) rfl (aW (cL gU (pv 0) (cR aY) dF) (aW aY (aW (bZ (v:=.int 24) rfl vi ⟨_,rfl⟩) (aW (bZ (v:=.ref gI) rfl mI rfl) aX))))))))),?_⟩;refine yh (oY (iY (ac' (CJ T0 (CP hp)) (λ_ _=>dI))) (c2:=!(rR 1 vC t)) (λc H1 e1=>jM (oV (rY 1 (T0.same e1) (by have:=of_decide_eq_false c;omega))))) q (λc H1 e1 q1=>?_);rw[aiy]at c;have c1:=of_decide_eq_false c.1;have T1:=T0.same e1;exact eH (aau 2 0 2 T1 (by omega)) (λ_ H2 e2=>Xj 3 0 24 (T1.same e2) hp) Q q1
theorem qm:bG ["thing"] ["thing"] (bA iG):=⟨rfl,rfl,rfl,by decide+kernel,rfl,by decide+kernel,by decide+kernel⟩
theorem qp {gR:Addr}(F:eV K "is_maker_declaration" "is_maker_declaration" iG f fd)(ml:mg "len"=none)(hg:Has P w K mg aN 2 "is_great" ["thing"] (oG vC))(h1:Has P w K mg aN 8 "is_list" ["thing","least","most","fits"] (dU jV gR))(mR:mg "is_giver"=some (.ref gR))(hv:Has P w K mg aN 5 "is_given_face" ["thing"] (oG iJ))(hb:Has P w K mg aN 15 "is_body" ["things"] (oG CK))(vg:∃t,mg "MOST_GIVERS"=some (.int 2 t)):cj P w K mg aN eY 16 f fd ["thing"] (spU zZ):=by
 refine F.ok qm (len:=λvs H Q E h=>(by obtain⟨v,t,rfl,_⟩:=h;rfl)) (λcX A aM s H vs Q E hr h=>?_);obtain⟨v,t,rfl,rt,hz,hp,q⟩:=h;obtain⟨tg,vg⟩:=vg;have T0:Th H (L2.start ["thing"] [v]) t:=⟨⟨v,rfl,rt⟩,hz⟩;refine⟨_,bx (cF (PW.pt (kj (bL yM (bH bO rfl ml PySem.boot_len (aW (pv 0) aX)) aY (bM _)) (jm (dZ (cT (bB hg hr (by decide) rfl (aW (bU cD (pv 0) aY (λ_ _=>rfl)) aX))))))) (bh (bD lG)) bK) (bh (bD (cQ (bB h1 hr (by decide) rfl (aW (bU cD (pv 0) aY (λ_ _=>rfl)) (aW aY (aW (bZ (v:=.int 2) rfl vg ⟨_,rfl⟩) (aW (bZ (v:=.ref gR) rfl mR rfl) aX))))) (cQ (bB hv hr (by decide) rfl (aW (bU cD (pv 0) aY (λ_ _=>rfl)) aX)) (dG (bB hb hr (by decide) rfl (aW (cL gU (pv 0) (cR aY) dF) aX))))))),?_⟩;refine yh (oY (iY (ac' (CJ T0 (CP hp)) (λ_ _=>dI))) (c2:=!(rR 1 vC t)) (λc H1 e1=>jM (oV (rY 1 (T0.same e1) (by have:=of_decide_eq_false c;omega))))) q (λc H1 e1 q1=>?_);rw[aiy]at c;have c1:=of_decide_eq_false c.1;have T1:=T0.same e1;exact eH (aau 2 1 2 T1 (by omega)) (λ_ H2 e2=>eH (rY 3 (T1.same e2) (by omega)) (λ_ H3 e3=>Xk 4 (T1.same (e2.trans e3)) hp)) Q q1
theorem rF:bG ["thing"] ["thing"] (bA jg):=⟨rfl,rfl,rfl,by decide+kernel,rfl,by decide+kernel,by decide+kernel⟩
theorem rG (F:eV K "is_part_declaration" "is_part_declaration" jg f fd)(ml:mg "len"=none)(hg:Has P w K mg aN 2 "is_great" ["thing"] (oG vC))(hv:Has P w K mg aN 5 "is_given_face" ["thing"] (oG iJ))(hb:Has P w K mg aN 15 "is_body" ["things"] (oG CK)):cj P w K mg aN eY 16 f fd ["thing"] (spU Iz):=by
 refine F.ok rF (len:=λvs H Q E h=>(by obtain⟨v,t,rfl,_⟩:=h;rfl)) (λcX A aM s H vs Q E hr h=>?_);obtain⟨v,t,rfl,rt,hz,hp,q⟩:=h;have T0:Th H (L2.start ["thing"] [v]) t:=⟨⟨v,rfl,rt⟩,hz⟩;refine⟨_,bh (bD (cQ (dR aeF (bH bO rfl ml PySem.boot_len (aW (pv 0) aX)) aY (bM _)) (cQ (bB hg hr (by decide) rfl (aW (bU cD (pv 0) aY (λ_ _=>rfl)) aX)) (cQ (bB hv hr (by decide) rfl (aW (bU cD (pv 0) aY (λ_ _=>rfl)) aX)) (dG (bB hb hr (by decide) rfl (aW (cL gU (pv 0) (cR aY) dF) aX))))))),?_⟩;exact eH (agg (CJ T0 (CP hp)) (λ_ _=>dI)) (λc H1 e1=>eH (rY 1 (T0.same e1) (by have:=of_decide_eq_true c;omega)) (λ_ H2 e2=>eH (rY 2 (T0.same (e1.trans e2)) (by have:=of_decide_eq_true c;omega)) (λ_ H3 e3=>Xk 3 (T0.same (e1.trans (e2.trans e3))) hp))) Q q
theorem qu:bG ["thing"] ["thing"] (bA iH):=⟨rfl,rfl,rfl,by decide+kernel,rfl,by decide+kernel,by decide+kernel⟩
theorem qw {gG:Addr}(F:eV K "is_apply_declaration" "is_apply_declaration" iH f fd)(hs:Has P w K mg aN 4 "is_list" ["thing","least","most","fits"] (dU vC gG))(mG:mg "is_great"=some (.ref gG)):cj P w K mg aN eY 5 f fd ["thing"] (spU Q0):=by
 refine F.ok qu (len:=λvs H Q E h=>(by obtain⟨v,t,rfl,_⟩:=h;rfl)) (λcX A aM s H vs Q E hr h=>?_);obtain⟨v,t,rfl,rt,hz,hp,q⟩:=h;have T0:Th H (L2.start ["thing"] [v]) t:=⟨⟨v,rfl,rt⟩,hz⟩;refine⟨_,bh (bD (bB hs hr (by decide) rfl (aW (cL gU (pv 0) (cR aY) dF) (aW aY (aW aY (aW (bZ (v:=.ref gG) rfl mG rfl) aX)))))),?_⟩;exact Xj 1 3 4 T0 hp (by decide) Q q
end
abbrev lU:Stmt:=top 79
abbrev yt:Stmt:=top 80
abbrev rH:Stmt:=top 81
def dO:List (Str×Nat):=[("kind",0),("record",1),("face",2),("part",3),("maker",4),("apply",5)]
noncomputable def lq:Nat->T->Bool
 |0=>Xm
 |1=>abR
 |2=>Iw
 |3=>Iz
 |4=>zZ
 |_=>Q0
noncomputable def dJ:T->Bool
 |.tup (.str z::r)=>(match dO.lookup z with|some n=>lq n (.tup (.str z::r))|none=>false)
 |_=>false
noncomputable def lA (t:T):Bool:=dz 2 2 t&&(rR 0 (isW "main") t&&rR 1 gw t)
noncomputable def m5 (ts:List T):Bool:=(match ts.getLast? with|some m=>lA m|none=>false)&&(cA 0 23 ts.dropLast&&ts.dropLast.all dJ)
def headD (t:T):Bool:=!(qM t)||(decide ((nq t:Int)=0)|| !(rR 0 xu t))
theorem Xn {t:T}(h:headD t=false):∃z r,t=.tup (.str z::r):=by
 unfold headD at h;cases t with
 |int i=>cases h
 |str z=>cases h
 |tup l=>
  match l,h with
  |[],h=>cases h
  |.str z::r,_=>exact⟨z,r,rfl⟩
  |.int i::r,h=>
   rw[aiy,aiy]at h;exact absurd h.2.2 (by show ¬(!false)=false;decide)
  |.tup x::r,h=>
   rw[aiy,aiy]at h;exact absurd h.2.2 (by show ¬(!false)=false;decide)
theorem Xo (t:T):dJ t=(!(headD t)&&dJ t):=by
 cases e:headD t with
 |false=>rfl
 |true=>
  show dJ t=false;unfold dJ;split
  ·rename_i z r
   have:headD (.tup (.str z::r))=false:=by
    show(!true||(decide (((r.length+1:Nat):Int)=0)|| !true))=false;rw[decide_eq_false (by omega)]
    rfl
   rw[this]at e;cases e
  ·rfl
section
variable {P:Program}{w:World}{K:PySem.W.Frag}{mg:Str->Option Value}{aN:Heap}{f:Addr}{fd:FuncData}
theorem wB:bG ["thing"] ["thing"] (bA lU):=⟨rfl,rfl,rfl,by decide+kernel,rfl,by decide+kernel,by decide+kernel⟩
theorem wC {fn:Nat->Addr}{dd:Addr}(F:eV K "is_declaration" "is_declaration" lU f fd)(G:Gb K mg)(hd:mg "DECLARATION_FORMS"=some (.ref dd))(D:oX K w dd (dO.map λp=>(p.1,V.ref (fn p.2))))
  (hf:∀n,n<=5->∃gd,cj P w K mg aN eY 16 (fn n) gd ["thing"] (spU (lq n))/\Binds K gd ["thing"] []/\PySem.W.keepIn K (.ref (fn n))=true):cj P w K mg aN eY 17 f fd ["thing"] (oG dJ):=by
 refine F.ok wB (len:=λvs H Q E h=>(by obtain⟨v,t,rfl,_⟩:=h;rfl)) (λcX A aM s H vs Q E hr h=>?_);obtain⟨v,t,rfl,rt,hz,q⟩:=h;have T0:Th H (L2.start ["thing"] [v]) t:=⟨⟨v,rfl,rt⟩,hz⟩;rw[Xo]at q;refine⟨_,bx (cF (PW.pt (kj (dZ (cT (bH d8 rfl G.UW boot_isinstance (aW (pv 0) (aW (eZ (v:=.ty "tuple") rfl G.tuple boot_tuple rfl) aX)))))
   (kj (bL cN (bH bO rfl G.len PySem.boot_len (aW (pv 0) aX)) aY (bM _)) (jm (dZ (cT (bH d8 rfl G.UW boot_isinstance (aW (bU cD (pv 0) aY (λ_ _=>rfl)) (aW (eZ (v:=.ty "str") rfl G.str boot_str rfl) aX)))))))))
   (bh (bD lG)) bK)
  (bh (bD (cQ (dR Aw (bU cD (pv 0) aY (λ_ _=>rfl)) (bZ (v:=.ref dd) rfl hd rfl) (by with_unfolding_all rfl))
   (dG (JW (E:=E0) (λf sp=>∃n,n<=5/\f=fn n/\sp=spU (lq n)) (λf sp ⟨n,hn,e1,e2⟩=>by
     subst e1 e2;obtain⟨gd,k1,k2,k3⟩:=hf n hn;exact⟨16,gd,["thing"],k1,hr,k3,k2⟩) (bU Qk (bZ (v:=.ref dd) rfl hd rfl) (bU cD (pv 0) aY (λ_ _=>rfl)) (λ_ _=>rfl)) yO (aW (pv 0) aX)))))),?_⟩
 refine yh (c:=headD t) (oY (jM (oV (xG (bN (i:=0) rfl) rt (qO K)))) (λc H1 e1=>oY (iY (fJ (CJ (T0.same e1) (by simpa using c)) λ_ _=>dI)) (λc2 H2 e2=>jM (oV ?_)))) q (λc H1 e1 q1=>?_)
 ·have l0:0<nq t:=by have:=of_decide_eq_false c2;omega
  obtain⟨x,e,_,hx⟩:=QZ (K:=K) (i:=0) (T0.same (e1.trans e2)) l0;rw[e];exact λQ q=>hx _ λv H3 e3 r3=>⟨v,_,"str",_,rfl,qN r3,ni K x,q H3 e3⟩
 ·obtain⟨z,r,rfl⟩:=Xn c
  have T1:=T0.same e1;obtain⟨⟨v',hv,_⟩,_⟩:=id T1;cases hv;have at0:∀{H2:Hp},Same H1 H2->Ik (vG (uV K) (jE 0) (tC (.int 0))) (L2.start ["thing"] [v]) H2 (.str z):=λ{H2} e2=>N6 (i:=0) (yc (T1.same e2)) (λ_ _=>dI) rfl;have e:dJ (.tup (.str z::r))=((dO.lookup z).isSome&&(match dO.lookup z with|some n=>lq n (.tup (.str z::r))|none=>false)):=by
   show(match dO.lookup z with|some n=>lq n (.tup (.str z::r))|none=>false)=_;cases dO.lookup z<;>rfl
  rw[e]at q1;refine eH ?a ?b Q q1
  case a=>
   refine λQ q=>at0 (Same.refl _) _ λv H4 e4 r4=>?_;cases r4 with
   |str _ hx=>
    refine⟨z,dd,_,rfl,rfl,D,?_⟩;rw[kW,Option.isSome_map];exact q H4 e4
  case b=>
   intro c6 H4 e4;obtain⟨n,hn⟩:=Option.isSome_iff_exists.mp c6;have hn5:n<=5:=by
    have:∀p∈dO,p.2<=5:=by decide+kernel
    exact this (z,n) (dB hn)
   rw[hn];refine λQ q=>at0 e4 _ λv5 H5 e5 r5=>?_;cases r5 with
   |str _ hx=>
    have rt5:=rt.same (e1.trans (e4.trans e5));refine⟨z,dd,_,V.ref (fn n),rfl,rfl,D,?_,fn n,spU (lq n),rfl,⟨n,hn5,rfl,rfl⟩,_,rfl,v,_,rfl,rt5,hz,aj8 _,λH6 e6=>q H6 (e5.trans e6)⟩;rw[kW];rw[hn]
    rfl
theorem Od:bG ["thing"] ["thing"] (bA yt):=⟨rfl,rfl,rfl,by decide+kernel,rfl,by decide+kernel,by decide+kernel⟩
theorem Oe (F:eV K "is_main" "is_main" yt f fd)(hl:Has P w K mg aN 1 "has_length" ["thing","least","most"] f9)(hp:Has P w K mg aN 11 "is_phrase" ["thing"] (oG gw)):cj P w K mg aN eY 12 f fd ["thing"] (oG lA):=by
 refine F.ok Od (len:=λvs H Q E h=>(by obtain⟨v,t,rfl,_⟩:=h;rfl)) (λcX A aM s H vs Q E hr h=>?_);obtain⟨v,t,rfl,rt,hz,q⟩:=h;have T0:Th H (L2.start ["thing"] [v]) t:=⟨⟨v,rfl,rt⟩,hz⟩;refine⟨_,bh (bD (cQ (bB hl hr (by decide) rfl (aW (pv 0) (aW aY (aW aY aX)))) (cQ (dR (m8.or cN (iw hr.uU)) (bU cD (pv 0) aY (λ_ _=>rfl)) bQ (bM _)) (dG (bB hp hr (by decide) rfl (aW (bU cD (pv 0) aY (λ_ _=>rfl)) aX)))))),?_⟩;exact eH (Ge 2 2 T0) (λc H1 e1=>eH (Xl 0 "main" (T0.same e1) (by have:=jc c;omega)) (λ_ H2 e2=>rY 1 (T0.same (e1.trans e2)) (by have:=jc c;omega))) Q q
def Og:Sp:=λvs H Q _=>∃(a:Addr) (us:List V) (ts:List T),vs=[.ref a]/\H a=some (.tup us)/\cB H us ts/\d9 ts<100000/\∀H',Same H H'->Q (.bl (m5 ts)) H'
theorem Ed:bG ["things"] ["things"] (bA rH):=⟨rfl,rfl,rfl,by decide+kernel,rfl,by decide+kernel,by decide+kernel⟩
theorem CV (vs:List V)(v:V):lF (vs++[v]) none (some (-1))=vs:=by
 unfold lF;have e1:HT.fD (vs++[v]).length 0 none=0:=HT.Ai _ _;have e2:HT.fD (vs++[v]).length (vs++[v]).length (some (-1))=vs.length:=by
  unfold HT.fD;simp;omega
 rw[e1,e2];simp
theorem rJ (vs:List V)(v:V):¬(HT.fD (vs++[v]).length 0 none=0/\HT.fD (vs++[v]).length (vs++[v]).length (some (-1))=(vs++[v]).length):=by
 have e2:HT.fD (vs++[v]).length (vs++[v]).length (some (-1))=vs.length:=by
  unfold HT.fD;simp;omega
 rw[e2];simp
theorem Ef {g:Addr}(F:eV K "is_program" "is_program" rH f fd)(ml:mg "len"=none)(hm:Has P w K mg aN 12 "is_main" ["thing"] (oG lA))(hs:Has P w K mg aN 19 "is_list" ["thing","least","most","fits"] (dU dJ g))(mg':mg "is_declaration"=some (.ref g))(vd:∃t,mg "MOST_DECLARATIONS"=some (.int 24 t)):
  cj P w K mg aN eY 20 f fd ["things"] Og:=by
 refine F.ok Ed (len:=λvs H Q E h=>(by obtain⟨a,us,ts,rfl,_⟩:=h;rfl)) (λcX A aM s H vs Q E hr h=>?_);obtain⟨a,us,ts,rfl,ha,r,hz,q⟩:=h;obtain⟨td,vd⟩:=vd;refine⟨_,bx (cF (PW.pt (kj (bL cN (bH bO rfl ml PySem.boot_len (aW (pv 0) aX)) aY (bM _)) (jm (dZ (cT (bB hm hr (by decide) rfl (aW (bU cD (pv 0) (pN lK aY) (λ_ _=>rfl)) aX)))))))
   (bh (bD lG)) bK)
  (bh (bD (bB hs hr (by decide) rfl (aW (cL gU (pv 0) dF (cR (pN lK aY))) (aW aY (aW (bY pA (bZ (v:=.int 24) rfl vd ⟨_,rfl⟩) aY) (aW (bZ (v:=.ref g) rfl mg' rfl) aX))))))),?_⟩
 have lv:=r.length;refine⟨_,rfl,a,us,rfl, .inr (dY.of ha),rfl,_,rfl,?_⟩;by_cases e0:us=[]
 ·subst e0
  have:ts=[]:=by cases r;rfl
  subst this;exact dM (q H (Same.refl _))
 ·obtain⟨ws,xs,v,t,rfl,rfl,r1,rv⟩:=r.snoc_inv e0
  have hl:d9 (xs++[t])=d9 xs+t.sz:=by rw[iB];simp[d9]
  rw[decide_eq_false (by intro z;have:=V.int.inj z;simp at this;omega)];refine dW ⟨_,rfl,1,rfl,a,_,-1,v,rfl,rfl,dY.of ha,vM _ _,v,t,rfl,rv,by omega,λH1 e1=>⟨_,rfl,?_⟩⟩;have e:m5 (xs++[t])=(lA t&&(cA 0 23 xs&&xs.all dJ)):=by
   unfold m5;rw[List.getLast?_concat,ajg]
  rw[e]at q;cases c:lA t with
  |false=>
   rw[c]at q;exact dM (q H1 e1)
  |true=>
   rw[c,ai3]at q;refine dW ⟨_,rfl,1,rfl,-1,rfl,a,_,rfl,dY.of (e1 _ _ ha),rJ _ _,λp hp=>⟨24,1,rfl,rfl,?_⟩⟩;rw[CV];refine⟨.ref p, .tup xs,0,23,rfl, .tup bf (r1.same (e1.trans (bw hp _))),?_,λH2 e2=>q H2 (e1.trans ((bw hp _).trans e2))⟩;simp only[T.sz];have:=xr t;omega
end
abbrev tM:Stmt:=top 93
section
variable {P:Program}{w:World}{K:PySem.W.Frag}{mg:Str->Option Value}{aN:Heap}{f:Addr}{fd:FuncData}
theorem IK:bG ["_law_state"] ["_law_state"] (bA tM):=⟨rfl,rfl,rfl,by decide+kernel,rfl,by decide+kernel,by decide+kernel⟩
theorem IV (F:eV K "_law_kind_name" "_law_kind_name" tM f fd)(h1:Has P w K mg aN 1 "_law_next" ["_law_state","_law_many"] eE)(h2:Has P w K mg aN 3 "_law_small" ["_law_state"] (dD λz=>nameB z=true))
  (h3:Has P w K mg aN 4 "_law_path" ["_law_state"] (dD λz=>dN z=true)):cj P w K mg aN eY 5 f fd ["_law_state"] (dD λz=>iR z=true):=by
 refine F.ok IK (len:=λvs H Q E h=>(by obtain⟨st,rfl,_⟩:=h;rfl)) (λcX A aM s H vs Q E hr h=>?_);obtain⟨st,rfl,hs,q⟩:=h;refine⟨_,bh (bD (bU fG (dj (aW (bB h2 hr (by decide) rfl (aW (pv 0) aX)) (aW (bB h3 hr (by decide) rfl (aW (pv 0) aX)) aX))) (bB h1 hr (by decide) rfl (aW (pv 0) (aW aY aX))) (λ_ _=>rfl))),?_⟩;refine⟨_,rfl,st,rfl,hs,λz H1 hz lz g1=>?_⟩;refine⟨_,rfl,st,rfl,g1.ok,λy H2 hy ly g2=>?_⟩;refine⟨small (by show 2<=1000000;decide),λp hp=>?_⟩;have g3:cP st H2 (upd H2 p (.lst [.str z, .str y])):=cG g2.ok hp;refine⟨_,rfl,st,2,rfl,g3.ok,by decide,by decide,λd H4 d0 d1 g4=>?_⟩;have hp4:H4 p=some (.lst [.str z, .str y]):=g4.at_ g3.ok (by intro ns e;injection e with e;cases ns<;>simp at e) bf;have gg:=((g1.trans g2).trans g3).trans g4;have hd:d=0\/d=1:=by omega
 rcases hd with rfl|rfl
 ·refine⟨p,_,0, .str z,rfl,rfl,dX.of hp4,eF (j:=0) rfl,q z _ (Sv hz) lz gg⟩
 ·refine⟨p,_,1, .str y,rfl,rfl,dX.of hp4,eF (j:=1) rfl,q y _ (Sw hy) ly gg⟩
end
abbrev CW:Stmt:=top 94
def BK:Nat->Nat
 |0=>1
 |n+1=>2+3*BK n
theorem adb:∀n,1<=BK n
 |0=>aio 1
 |n+1=>by show 1<=2+3*BK n;omega
def Xp (n:Nat):Sp:=λvs H Q _=>∃(st:Addr),vs=[.ref st, .int n]/\gj H st/\∀v t H',Good jw t->Rep H' v t->t.sz<=BK n->cP st H H'->Q v H'
def o8:Nat->Sp
 |0=>λ_ _ _ _=>False
 |n+1=>Xp n
theorem T7 {z:Str}(h:jK z=true):Good jw (.str z):=.mk (l:=[]) (by rw[pY,if_pos h]) (λ_ hk=>by cases hk)
theorem Oh {a b:T}(ha:Good jw a)(hb:Good jw b):Good jw (.tup [.str "->",a,b]):=by
 refine .mk (l:=[a,b]) (by rw[jx,if_pos ⟨rfl,by decide⟩]) λk hk=>?_;rcases aiB.mp hk with rfl|hk
 ·exact ha
 ·rw[List.mem_singleton.mp hk]
  exact hb
theorem Oi {z:Str}(h:iR z=true):onStr (λx=>decide (x=("->":Str))) (.str z)=false:=by
 show decide (z=("->":Str))=false;refine decide_eq_false λe=>?_;rw[e,RX.2]at h;cases h
theorem Oj {z:Str}{r:List T}(h:iR z=true)(h1:1<=r.length)(h2:r.length<=3):jw (.tup (.str z::r))=some r:=by
 rw[jx,if_neg (by rw[Oi h];simp),if_pos ⟨⟨h1,h2⟩,h⟩]
theorem Ol {z:Str}{r:List T}(h:iR z=true)(h1:1<=r.length)(h2:r.length<=3)(hr:∀t∈r,Good jw t):Good jw (.tup (.str z::r)):=.mk (Oj h h1 h2) hr
section
variable {P:Program}{w:World}{K:PySem.W.Frag}{mg:Str->Option Value}{aN:Heap}{f:Addr}{fd:FuncData}
theorem IW:bG ["_law_state","_law_deep","_law_way","_law_many"] ["_law_state","_law_deep"] (bA CW):=⟨rfl,rfl,rfl,by decide+kernel,rfl,by decide+kernel,by decide+kernel⟩
theorem aav {n:Nat}(F:eV K "_law_kind" "_law_kind" CW f fd)(mr:mg "range"=none)(mt:mg "tuple"=none)(h1:Has P w K mg aN 1 "_law_next" ["_law_state","_law_many"] eE)(h2:Has P w K mg aN 3 "_law_variable" ["_law_state"] (dD λz=>iz z=true))
  (h3:Has P w K mg aN 3 "_law_small" ["_law_state"] (dD λz=>nameB z=true)) (h4:Has P w K mg aN 4 "_law_path" ["_law_state"] (dD λz=>dN z=true)) (h5:Has P w K mg aN 5 "_law_kind_name" ["_law_state"] (dD λz=>iR z=true))
  (h6:Has P w K mg aN (5+n) "_law_kind" ["_law_state","_law_deep"] (o8 n)):cj P w K mg aN eY (5+n+1) f fd ["_law_state","_law_deep"] (Xp n):=by
 refine F.ok IW (len:=λvs H Q E h=>(by obtain⟨st,rfl,_⟩:=h;rfl)) (λcX A aM s H vs Q E hr h=>?_);obtain⟨st,rfl,hs,q⟩:=h;refine⟨_,bx (cZ (i:=2) IW.nd rfl (Or.inl rfl) (bB h1 hr (by omega) rfl (aW (pv 0) (aW aY aX))))
  (bx (cF (PW.pt (kj (bL cN (pv 1) aY (bM _)) (jm (bL yM (pv 2) aY (bM _)))))
   (bh (bD (bU fG (dj (aW bQ (aW (bB h2 hr (by omega) rfl (aW (pv 0) aX)) (aW (bB h3 hr (by omega) rfl (aW (pv 0) aX)) (aW (bB h4 hr (by omega) rfl (aW (pv 0) aX)) aX))))) (bY sE (pv 2) aY) (λ_ _=>rfl)))) bK)
  (bx (cF (bL cN (pv 2) aY (bM _))
   (bh (bD (cO (aW bQ (aW (bB h6 hr (by omega) rfl (aW (pv 0) (aW (bY pA (pv 1) aY) aX))) (aW (bB h6 hr (by omega) rfl (aW (pv 0) (aW (bY pA (pv 1) aY) aX))) aX)))))) bK)
  (bx (cZ (i:=3) IW.nd rfl (Or.inl rfl) (bY gQ aY (bB h1 hr (by omega) rfl (aW (pv 0) (aW aY aX)))))
  (bh (bD (bY d7 (cO (aW (bB h5 hr (by omega) rfl (aW (pv 0) aX)) aX)) (cC cJ rfl mt boot_tuple (aW
   (pR (bA CW) ["_law_state","_law_deep","_law_way","_law_many"] ["_law_state","_law_deep"] [0,1] (by decide+kernel) (dw rfl mr (aW (pv 3) aX)) (λC s₀ H₀ ex=>ji)
    (λC s₀ H₀ ex=>bB h6 hr (by omega) rfl (aW (pv 1) (aW (bY pA (pv 2) aY) aX)))) aX)))))))),?_⟩
 refine⟨_,rfl,st,7,rfl,hs,by decide,by decide,λd H1 d0 d1 g1=>?_⟩;refine fY (oY (iY (fJ (bN rfl) λ_ _=>dI)) (λ_ H' e'=>iY (sW (z:=.bl (decide (d<4))) (bN rfl) (λ_ _=>dI) λTv Q'' e'' q''=>⟨_,_,rfl,rfl,q''⟩))) (λc H2 e2=>?_) (λc H2 e2=>?_)
 ·--a leaf
  have g2:=g1.trans (cH g1.ok e2);refine⟨_,rfl,st,rfl,g2.ok,λz1 H3 hz1 lz1 g3=>?_⟩;refine⟨_,rfl,st,rfl,g3.ok,λz2 H4 hz2 lz2 g4=>?_⟩;refine⟨_,rfl,st,rfl,g4.ok,λz3 H5 hz3 lz3 g5=>?_⟩;refine⟨small (by show 4<=1000000;decide),λp hp=>?_⟩;have g6:cP st H5 (upd H5 p (.lst [.str "num", .str z1, .str z2, .str z3])):=cG g5.ok hp;have gg:=(((g2.trans g3).trans g4).trans g5).trans g6;obtain⟨v,hv,hm⟩:=Bs (xs:=[V.str "num", .str z1, .str z2, .str z3]) (d:=d%4) (ajT _ (by omega)) (ajz _ (by decide));refine⟨_,rfl,d,4,rfl,rfl,(by show(0:Int)<4;decide),p,_,d%4,v,rfl,rfl,dX.of bf,hv,?_⟩;have fin:∀z:Str,jK z=true->z.length<=100->Q (.str z) (upd H5 p (.lst [.str "num", .str z1, .str z2, .str z3])):=λz hz lz=>q _ (.str z) _ (T7 hz) (.str z (by omega)) (adb n) gg;simp only[aiB,aiz,or_false]at hm;rcases hm with rfl|rfl|rfl|rfl
  ·exact fin _ Z2.2 (by decide+kernel)
  ·exact fin _ (Wh hz1) lz1
  ·exact fin _ (Sx hz2) lz2
  ·exact fin _ (Sy hz3) lz3
 ·have c1:¬((n:Int)=0)/\¬d<4:=by
   rw[aiy]at c;exact⟨of_decide_eq_false c.1,of_decide_eq_false c.2⟩
  obtain⟨m,rfl⟩:∃m,n=m+1:=⟨n-1,by omega⟩;have em:(((m+1:Nat):Int)-1)=(m:Int):=by omega
  have rec_:∀(H3:Hp) (Q3:VK),gj H3 st->(∀v t H',Good jw t->Rep H' v t->t.sz<=BK m->cP st H3 H'->Q3 v H')->o8 (m+1) ([V.ref st, .int (((m+1:Nat):Int)-1)]++[]) H3 Q3 E0:=λH3 Q3 h3 q3=>by
   rw[em];exact⟨st,rfl,h3,q3⟩
  have g2:=g1.trans (cH g1.ok e2);refine fY (iY (fJ (bN rfl) λ_ _=>dI)) (λc2 H3 e3=>?_) (λc2 H3 e3=>?_)
  ·--an arrow
   have g3:=g2.trans (cH g2.ok e3);refine⟨_,rfl,_,rfl,_,_,rfl,rfl,rec_ H3 _ g3.ok λv1 t1 H4 k1 r1 b1 g4=>?_⟩;refine⟨_,rfl,_,rfl,_,_,rfl,rfl,rec_ H4 _ g4.ok λv2 t2 H5 k2 r2 b2 g5=>?_⟩;refine⟨small (by show 3<=1000000;decide),λp hp=>?_⟩;have e6:=bw hp (.tup [.str "->",v1,v2]);refine q _ (.tup [.str "->",t1,t2]) _ (Oh k1 k2) (.tup bf (.cons (.str _ (by decide+kernel)) (.cons ((r1.grow g5 g4.ok).same e6) (.cons (r2.same e6) .nil)))) ?_ (((g3.trans g4).trans g5).trans (cG g5.ok hp));simp only[T.sz,d9,BK];omega
  ·--a name with kinds
   have g3:=g2.trans (cH g2.ok e3);refine⟨_,rfl,st,3,rfl,g3.ok,by decide,by decide,λe H4 e0 e1' g4=>⟨1,e,rfl,rfl,?_⟩⟩;refine⟨_,rfl,st,rfl,g4.ok,λz H5 hz lz g5=>?_⟩;refine⟨small (by show 1<=1000000;decide),λp hp=>?_⟩;have e6:=bw hp (.tup [.str z]);have g6:cP st H5 (upd H5 p (.tup [.str z])):=cG g5.ok hp;refine⟨_,rfl,1+e,rfl,by omega,by omega,?_⟩;refine qL (λi vs H'=>cP st (upd H5 p (.tup [.str z])) H'/\∃ts,cB H' vs ts/\ts.length=i/\(∀t∈ts,Good jw t)/\d9 ts<=i*BK m) ⟨cP.refl g6.ok,[], .nil,rfl,(λ_ h=>by cases h),by simp[d9]⟩ ?_ ?_ ?_
   ·rintro i vs H' hi ⟨g,ts,hr1,hl,_⟩
    exact fH (by rw[hr1.length,hl];omega)
   ·rintro i vs H' hi ⟨g,ts,hr1,hl,hg,hb⟩
    refine Zn (dM ?_);refine⟨_,rfl,_,rfl,_,_,rfl,rfl,rec_ H' _ g.ok λv1 t1 H7 k1 r1 b1 g7=>nx hi ⟨g.trans g7,ts++[t1],(hr1.grow g7 g.ok).append (.cons r1 .nil),by simp[hl],λt ht=>?_,?_⟩⟩
    ·rcases List.mem_append.mp ht with h|h
     ·exact hg t h
     ·rw[List.mem_singleton.mp h];exact k1
    ·rw[iB,Nat.add_mul]
     simp[d9];omega
   ·rintro vs H' ⟨g,ts,hr1,hl,hg,hb⟩ l hl'
    have e8:=bw hl' (.lst vs);refine⟨l,vs,rfl, .inl ⟨dX.of bf,λp2 hp2=>?_⟩⟩;have e9:=bw hp2 (.tup vs);have hp9:(upd (upd H' l (.lst vs)) p2 (.tup vs)) p=some (.tup [.str z]):=e9 _ _ (e8 _ _ (g.tups g6.ok _ _ bf));have lts:ts.length=1+e.toNat:=by rw[hl];omega
    have lvs:vs.length=ts.length:=hr1.length;refine⟨p,p2,[.str z],vs,rfl,rfl,dY.of hp9,dY.of bf,by simp,small (by simp;omega),λhv=>?_,λhv p3 hp3=>?_⟩
    ·rw[hv]at lvs
     simp at lvs;omega
    ·have e10:=bw hp3 (.tup ([.str z]++vs))
     refine q _ (.tup (.str z::ts)) _ (Ol hz (by omega) (by omega) hg) (.tup bf (.cons (.str z (by omega)) (hr1.same (e8.trans (e9.trans e10))))) ?_ ?_
     ·simp only[T.sz,d9,BK]
      have:(1+e).toNat*BK m<=3*BK m:=aiT _ (by omega);omega
     ·exact((((g3.trans g4).trans g5).trans g6).trans g).trans (cH g.ok (e8.trans (e9.trans e10)))
theorem yu (F:eV K "_law_kind" "_law_kind" CW f fd)(bF:Binds K fd ["_law_state","_law_deep"] [])(mF:mg "_law_kind"=some (.ref f))(mr:mg "range"=none)(mt:mg "tuple"=none)(h1:Has P w K mg aN 1 "_law_next" ["_law_state","_law_many"] eE)(h2:Has P w K mg aN 3 "_law_variable" ["_law_state"] (dD λz=>iz z=true))
  (h3:Has P w K mg aN 3 "_law_small" ["_law_state"] (dD λz=>nameB z=true)) (h4:Has P w K mg aN 4 "_law_path" ["_law_state"] (dD λz=>dN z=true)) (h5:Has P w K mg aN 5 "_law_kind_name" ["_law_state"] (dD λz=>iR z=true)):
  ∀n:Nat,Has P w K mg aN (5+n) "_law_kind" ["_law_state","_law_deep"] (o8 n)
 |0=>⟨f,fd,⟨λvs H Q E h=>h.elim,λA aM s H args us vs Q E _ _ _ _ h=>h.elim⟩,bF,F.kp,mF⟩
 |n+1=>⟨f,fd,aav F mr mt h1 h2 h3 h4 h5 (yu F bF mF mr mt h1 h2 h3 h4 h5 n),bF,F.kp,mF⟩
end
def agh (H:Hp)(lf:Addr):Prop:=∃i:Int,H lf=some (.lst [.int i])
structure D2 (st lf:Addr)(H:Hp):Prop where
 ne:st≠lf
 st:gj H st
 lf:agh H lf
def cU (st lf:Addr)(H H':Hp):Prop:=(∀b o,b≠st->b≠lf->H b=some o->H' b=some o)/\D2 st lf H'
section
variable {st lf:Addr}{H H' H1 H2:Hp}
theorem cU.refl (d:D2 st lf H):cU st lf H H:=⟨λ_ _ _ _ e=>e,d⟩
theorem cU.trans (a:cU st lf H H1)(b:cU st lf H1 H2):cU st lf H H2:=⟨λc o h1 h2 e=>b.1 c o h1 h2 (a.1 c o h1 h2 e),b.2⟩
theorem fO (d:D2 st lf H)(g:cP st H H'):cU st lf H H':=⟨λb o h1 _ e=>g.1 b o h1 e,d.ne,g.ok,by
 obtain⟨i,e⟩:=d.lf;exact⟨i,g.1 _ _ (Ne.symm d.ne) e⟩⟩
theorem cM (d:D2 st lf H)(e:Same H H'):cU st lf H H':=fO d (cH d.st e)
theorem iK {p:Addr}{o:HO}(d:D2 st lf H)(hp:H p=none):cU st lf H (upd H p o):=cM d (bw hp o)
theorem D2.Br {b:Addr}{xs:List V}(d:D2 st lf H)(e:H b=some (.tup xs)):b≠st/\b≠lf:=by
 obtain⟨i,h⟩:=d.lf;exact⟨d.st.Br e,uJ e h (by intro z;cases z)⟩
theorem D2.fresh {l:Addr}(d:D2 st lf H)(h:H l=none):l≠st/\l≠lf:=by
 obtain⟨i,h1⟩:=d.lf;obtain⟨ns,_,_,h2⟩:=d.st;exact⟨λz=>(by rw[z,h2]at h;cases h),λz=>(by rw[z,h1]at h;cases h)⟩
theorem cU.tups (g:cU st lf H H')(d:D2 st lf H):∀b xs,H b=some (.tup xs)->H' b=some (.tup xs):=λb xs e=>g.1 b _ (d.Br e).1 (d.Br e).2 e
theorem Rep.oM {v:V}{t:T}(r:Rep H v t)(g:cU st lf H H')(d:D2 st lf H):Rep H' v t:=r.mono (g.tups d)
theorem cB.oM {vs:List V}{ts:List T}(r:cB H vs ts)(g:cU st lf H H')(d:D2 st lf H):cB H' vs ts:=r.mono (g.tups d)
theorem aaw {i:Int}(hs:gj H st)(hn:H lf=none)(g:cU st lf (upd H lf (.lst [.int i])) H'):cP st H H':=⟨λb o hb e=>g.1 b o hb (cY e hn) (by rw[bI (cY e hn)];exact e),g.2.st⟩
theorem ade {i:Int}(hs:gj H st)(hn:H lf=none):D2 st lf (upd H lf (.lst [.int i])):=by
 obtain⟨ns,h1,h2,h3⟩:=id hs;have hne:st≠lf:=cY h3 hn;exact⟨hne,hs.same (bw hn _),i,bf⟩
end
def BP:Nat->Nat
 |0=>1
 |n+1=>60+7*BP n
theorem adf:∀n,1<=BP n
 |0=>aio 1
 |n+1=>by show 1<=60+7*BP n;omega
inductive yU (kids:T->Option (List T)):Nat->T->Prop where
 |mk {n:Nat} {t:T} {l:List T} (h:kids t=some l) (q:∀k∈l,yU kids n k):yU kids (n+1) t
theorem yU.good {kids:T->Option (List T)}{n:Nat}{t:T}(h:yU kids n t):Good kids t:=by
 induction h with
 |mk h _ ih=>exact .mk h ih
theorem yU.up {kids:T->Option (List T)}{n:Nat}{t:T}(h:yU kids n t):∀{m:Nat},n<=m->yU kids m t:=by
 induction h with
 |mk h _ ih=>
  intro m hm;obtain⟨k,rfl⟩:∃k,m=k+1:=⟨m-1,by omega⟩;exact .mk h λx hx=>ih x hx (by omega)
abbrev GP (n:Nat):=yU ql n
def Ja:Sp:=λvs H Q _=>∃(st:Addr) (w:Int),vs=[.ref st, .int w]/\gj H st/\0<=w/\w<4/\∀v t H',GP 1 t->Rep H' v t->t.sz<=1->cP st H H'->Q v H'
def K6 (n:Nat):Sp:=λvs H Q _=>∃(st lf:Addr),vs=[.ref st, .int n, .ref lf]/\D2 st lf H/\∀v t H',GP (n+1) t->Rep H' v t->t.sz<=BP n->cU st lf H H'->Q v H'
def qx:Nat->Sp
 |0=>λ_ _ _ _=>False
 |n+1=>K6 n
def uw:Nat->Sp
 |0=>λ_ _ _ _=>False
 |n+1=>λvs H Q _=>∃(st lf:Addr) (m:Nat),vs=[.ref st, .int (n+1:Nat), .ref lf, .int m]/\D2 st lf H/\1<=m/\m<=6/\
  ∀a us ts H',H' a=some (.tup us)->cB H' us ts->ts.length=m->(∀t∈ts,GP (n+1) t)->d9 ts<=m*BP n->cU st lf H H'->Q (.ref a) H'
def ux:Nat->Sp
 |0=>λ_ _ _ _=>False
 |n+1=>λvs H Q _=>∃(st lf:Addr),vs=[.ref st, .int (n+1:Nat), .ref lf]/\D2 st lf H/\∀v t H',GP (n+2) t->Rep H' v t->t.sz<=BP (n+1)->cU st lf H H'->Q v H'
theorem T8 {z:Str}(h:iZ z=true):GP 1 (.str z):=.mk (l:=[]) (by show(if _=true then _ else _)=_;rw[if_pos h]) (λ_ hk=>by cases hk)
theorem Gh {i:Int}(h0: -(10^30)<i)(h1:i<10^30):GP 1 (.int i):=.mk (l:=[]) (by
 have z:uF (.int i)=true:=by
  show decide ((if i<0 then -i else i)<10^30)=true;refine decide_eq_true ?_;split<;>omega
 show(if _=true then _ else _)=_;rw[if_pos z]) (λ_ hk=>by cases hk)
theorem K7 {d:Nat}{z:Str}{ts:List T}(hz:bJ z=true)(h1:1<=ts.length)(h4:ts.length<=4)(hg:∀t∈ts,GP d t):GP (d+1) (.tup (.str z::ts)):=.mk (l:=ts) (by
 rw[jG,if_pos hz,if_pos (by simp[cA];omega)]) hg
theorem Gi {z:Str}{r:List T}{n:Nat}(hz:bJ z=false)(hf:formOf z=some n):ql (.tup (.str z::r))=tH n r:=by
 rw[jG,if_neg (by rw[hz];exact aip),hf]
theorem jW {d:Nat}{z:Str}{r l:List T}{n:Nat}(hz:bJ z=false)(hf:formOf z=some n)(hk:tH n r=some l)(hg:∀t∈l,GP d t):GP (d+1) (.tup (.str z::r)):=.mk (by rw[Gi hz hf];exact hk) hg
theorem Om {z:Str}(h:nameB z=true):iZ z=true:=by unfold iZ;rw[h];rfl
theorem Oo {z:Str}(h:dN z=true):iZ z=true:=by unfold iZ;rw[h];simp
theorem K8 {z:Str}(h:bJ z=true):iZ z=true:=by unfold iZ;rw[h];simp
theorem z7 {K:PySem.W.Frag}{st lf p a:Addr}{hv us:List V}{hts ts:List T}{H1 H3:Hp}{Q:VK}(hp:H1 p=some (.tup hv))(rp:cB H1 hv hts)(hn:hv≠[])(d1:D2 st lf H1)(g:cU st lf H1 H3)(ha:H3 a=some (.tup us))(ra:cB H3 us ts)
  (hl:1<=ts.length) (hb:hv.length+ts.length<=1000) (q:∀p' H',Rep H' (.ref p') (.tup (hts++ts))->cU st lf H3 H'->Q (.ref p') H'):yN K (.ref p) (.ref a) H3 Q:=by
 have lu:=ra.length;refine⟨p,a,hv,us,rfl,rfl,dY.of (g.tups d1 _ _ hp),dY.of ha,hn,small (by omega),λe=>?_,λ_ p' hp'=>?_⟩
 ·rw[e]at lu
  simp at lu;omega
 ·exact q p' _ (.tup bf ((rp.oM g d1).append ra |>.same (bw hp' _))) (iK g.2 hp')
section
variable {P:Program}{w:World}{K:PySem.W.Frag}{mg:Str->Option Value}{aN:Heap}{f:Addr}{fd:FuncData}
abbrev Oq:Stmt:=top 95
abbrev CZ:Stmt:=top 96
abbrev Jb:Stmt:=top 97
abbrev Dc:Stmt:=top 98
abbrev wD:Stmt:=top 99
theorem aax:bG ["_law_state","_law_way"] ["_law_state","_law_way"] (bA Oq):=⟨rfl,rfl,rfl,by decide+kernel,rfl,by decide+kernel,by decide+kernel⟩
theorem aay (F:eV K "_law_leaf" "_law_leaf" Oq f fd)(h1:Has P w K mg aN 2 "_law_number" ["_law_state"] Wd)(h2:Has P w K mg aN 3 "_law_small" ["_law_state"] (dD λz=>nameB z=true))(h3:Has P w K mg aN 4 "_law_path" ["_law_state"] (dD λz=>dN z=true))
  (h4:Has P w K mg aN 3 "_law_great" ["_law_state"] (dD λz=>bJ z=true)):cj P w K mg aN eY 5 f fd ["_law_state","_law_way"] Ja:=by
 refine F.ok aax (len:=λvs H Q E h=>(by obtain⟨st,w,rfl,_⟩:=h;rfl)) (λcX A aM s H vs Q E hr h=>?_);obtain⟨st,wy,rfl,hs,w0,w1,q⟩:=h;refine⟨_,bx (cF (bL cN (pv 1) aY (bM _)) (bh (bD (bB h1 hr (by decide) rfl (aW (pv 0) aX)))) bK)
  (bh (bD (bU fG (dj (aW (bB h2 hr (by decide) rfl (aW (pv 0) aX)) (aW (bB h3 hr (by decide) rfl (aW (pv 0) aX)) (aW (bB h4 hr (by decide) rfl (aW (pv 0) aX)) aX)))) (bY pA (pv 1) aY) (λ_ _=>rfl)))),?_⟩
 refine fY (iY (fJ (bN (i:=1) rfl) λ_ _=>dI)) (λc H1 e1=>?_) (λc H1 e1=>?_)
 ·have g1:=cH hs e1
  exact⟨_,rfl,st,rfl,g1.ok,λi H2 i0 i1 g2=>q _ (.int i) H2 (Gh i0 i1) (.int i) (aio _) (g1.trans g2)⟩
 ·have c1:¬wy=0:=of_decide_eq_false c
  have g1:=cH hs e1;refine⟨_,rfl,st,rfl,g1.ok,λz1 H2 hz1 lz1 g2=>⟨_,rfl,st,rfl,g2.ok,λz2 H3 hz2 lz2 g3=>⟨_,rfl,st,rfl,g3.ok,λz3 H4 hz3 lz3 g4=>⟨small (by show 3<=1000000;decide),λp hp=>?_⟩⟩⟩⟩;have g5:cP st H4 (upd H4 p (.lst [.str z1, .str z2, .str z3])):=cG g4.ok hp;obtain⟨v,hv,hm⟩:=Bs (xs:=[V.str z1, .str z2, .str z3]) (d:=wy-1) (by omega) (by simp;omega);refine⟨_,rfl,wy,1,rfl,rfl,p,_,wy-1,v,rfl,rfl,dX.of bf,hv,?_⟩;have gg:=(((g1.trans g2).trans g3).trans g4).trans g5;have fin:∀z:Str,iZ z=true->z.length<=100->Q (.str z) (upd H4 p (.lst [.str z1, .str z2, .str z3])):=λz hz lz=>q _ (.str z) _ (T8 hz) (.str z (by omega)) (aio _) gg;simp only[aiB,aiz,or_false]at hm;rcases hm with rfl|rfl|rfl
  ·exact fin _ (Om hz1) lz1
  ·exact fin _ (Oo hz2) lz2
  ·exact fin _ (K8 hz3) lz3
theorem aaz:bG ["_law_state","_law_deep","_law_left","_law_many"] ["_law_state","_law_deep","_law_left","_law_many"] (bA CZ):=⟨rfl,rfl,rfl,by decide+kernel,rfl,by decide+kernel,by decide+kernel⟩
theorem aaA {n:Nat}(F:eV K "_law_some" "_law_some" CZ f fd)(mr:mg "range"=none)(mt:mg "tuple"=none)(h1:Has P w K mg aN (6+3*n) "_law_phrase" ["_law_state","_law_deep","_law_left"] (qx n)):
  cj P w K mg aN eY (7+3*n) f fd ["_law_state","_law_deep","_law_left","_law_many"] (uw n):=by
 have e7:7+3*n=(6+3*n)+1:=by omega
 rw[e7];refine F.ok aaz (len:=λvs H Q E h=>?len) (λcX A aM s H vs Q E hr h=>?_)
 case len=>
  cases n with
  |zero=>exact h.elim
  |succ n=>
   obtain⟨st,lf,m,rfl,_⟩:=h
   rfl
 cases n with
 |zero=>exact h.elim
 |succ n=>
  obtain⟨st,lf,m,rfl,d,m1,m6,q⟩:=h;refine⟨_,bh (bD (cC cJ rfl mt boot_tuple (aW (pR (bA CZ) ["_law_state","_law_deep","_law_left","_law_many"] ["_law_state","_law_deep","_law_left"] [0,1,2] (by decide+kernel) (dw rfl mr (aW (pv 3) aX)) (λC s₀ H₀ ex=>ji)
   (λC s₀ H₀ ex=>bB h1 hr (aio _) rfl (aW (pv 1) (aW (bY pA (pv 2) aY) (aW (pv 3) aX))))) aX))),?_⟩
  refine⟨_,rfl,m,rfl,by omega,by omega,?_⟩;have em:(((n+1:Nat):Int)-1)=(n:Int):=by omega
  refine qL (n:=(m:Int).toNat) (λi vs H'=>cU st lf H H'/\∃ts,cB H' vs ts/\ts.length=i/\(∀t∈ts,GP (n+1) t)/\d9 ts<=i*BP n) ⟨cU.refl d,[], .nil,rfl,(λ_ h=>by cases h),by simp[d9]⟩ ?_ ?_ ?_
  ·rintro i vs H' hi ⟨g,ts,hr1,hl,_⟩
   exact fH (by rw[hr1.length,hl];omega)
  ·rintro i vs H' hi ⟨g,ts,hr1,hl,hg,hb⟩
   have rec_:∀(H3:Hp) (Q3:VK),D2 st lf H3->(∀v t H',GP (n+1) t->Rep H' v t->t.sz<=BP n->cU st lf H3 H'->Q3 v H')->qx (n+1) ([V.ref st, .int (((n+1:Nat):Int)-1), .ref lf]++[]) H3 Q3 E0:=λH3 Q3 h3 q3=>by
    rw[em];exact⟨st,lf,rfl,h3,q3⟩
   refine Zn (dM ⟨_,rfl,_,rfl,_,_,rfl,rfl,_,rfl,?_⟩);refine rec_ H' _ g.2 (λv1 t1 H2 k1 r1 b1 g2=>nx hi ⟨g.trans g2,ts++[t1],(hr1.oM g2 g.2).append (.cons r1 .nil),by simp[hl],λt ht=>?_,?_⟩)
   ·rcases List.mem_append.mp ht with h|h
    ·exact hg t h
    ·rw[List.mem_singleton.mp h];exact k1
   ·rw[iB,Nat.add_mul]
    simp[d9];omega
  ·rintro vs H' ⟨g,ts,hr1,hl,hg,hb⟩ l hl'
   refine⟨l,vs,rfl, .inl ⟨dX.of bf,λp hp=>?_⟩⟩;have e1:=bw hl' (.lst vs);have e2:=bw hp (.tup vs);exact q p vs ts _ bf (hr1.same (e1.trans e2)) (by simpa using hl) hg (by simpa using hb) (g.trans (cM g.2 (e1.trans e2)))
def afj (n:Nat)(t:T):Prop:=∃a b e,t=.tup [.str a, .str b,e]/\nameB a=true/\nameB b=true/\GP (n+1) e/\e.sz<=BP n
theorem Df {n:Nat}{t:T}(h:afj n t):jN t=true/\GP (n+1) (at2 t)/\t.sz<=3+BP n:=by
 obtain⟨a,b,e,rfl,ha,hb,he,hs⟩:=h;refine⟨?_,he,?_⟩
 ·show(nameB a&&nameB b)=true
  rw[ha,hb];rfl
 ·simp[T.sz,d9];omega
theorem oN {n:Nat}:∀{l:List T},(∀t∈l,t.sz<=n)->d9 l<=l.length*n
 |[],_=>by simp[d9]
 |t::r,h=>by
  have h1:=h t aiX;have h2:=oN (l:=r) λx hx=>h x (air _ hx);simp only[d9,aiF,Nat.add_mul,Nat.one_mul];omega
theorem Gj:bJ "ring"=false/\formOf "ring"=some 3:=by decide+kernel
theorem Gk:bJ "case"=false/\formOf "case"=some 4:=by decide+kernel
theorem Jc:bG ["_law_state","_law_deep","_law_left","_law_rows","_law_k"] ["_law_state","_law_deep","_law_left"] (bA Jb):=⟨rfl,rfl,rfl,by decide+kernel,rfl,by decide+kernel,by decide+kernel⟩
set_option maxHeartbeats 1000000 in
theorem aaB {n:Nat}(F:eV K "_law_ring" "_law_ring" Jb f fd)(mr:mg "range"=none)(mt:mg "tuple"=none)(h0:Has P w K mg aN 1 "_law_next" ["_law_state","_law_many"] eE)(h2:Has P w K mg aN 3 "_law_small" ["_law_state"] (dD λz=>nameB z=true))
  (h1:Has P w K mg aN (7+3*n) "_law_some" ["_law_state","_law_deep","_law_left","_law_many"] (uw n)):cj P w K mg aN eY (8+3*n) f fd ["_law_state","_law_deep","_law_left"] (ux n):=by
 have e7:8+3*n=(7+3*n)+1:=by omega
 rw[e7];refine F.ok Jc (len:=λvs H Q E h=>?len) (λcX A aM s H vs Q E hr h=>?_)
 case len=>
  cases n with
  |zero=>exact h.elim
  |succ n=>
   obtain⟨st,lf,rfl,_⟩:=h
   rfl
 cases n with
 |zero=>exact h.elim
 |succ n=>
  obtain⟨st,lf,rfl,d,q⟩:=h;refine⟨_,bx (cZ (i:=3) Jc.nd rfl (Or.inl rfl) (dj aX))
   (bx (jR PassesOwn.never rfl (dw rfl mr (aW (bY gQ aY (bB h0 hr (by omega) rfl (aW (pv 0) (aW aY aX)))) aX)) (eO (i:=4) Jc.nd rfl (Or.inl rfl))
    (bh (fj (jX aiA aiK aiL iW (pv 3) (aW (bY d7 (cO (aW (bB h2 hr (by omega) rfl (aW (pv 0) aX)) (aW (bB h2 hr (by omega) rfl (aW (pv 0) aX)) aX)))
     (bB h1 hr (aio _) rfl (aW (pv 0) (aW (pv 1) (aW (pv 2) (aW aY aX)))))) aX)))))
   (bh (bD (bY d7 (cO (aW bQ (aW (cC cJ rfl mt boot_tuple (aW (pv 3) aX)) aX))) (bB h1 hr (aio _) rfl (aW (pv 0) (aW (pv 1) (aW (pv 2) (aW aY aX))))))))),?_⟩
  refine⟨small (by show 0<=1000000;decide),λl hl=>?_⟩;have dl:=d.fresh hl;have g1:cU st lf H (upd H l (.lst [])):=iK d hl;refine⟨_,rfl,st,4,rfl,g1.2.st,by decide,by decide,λe H2 e0 e1 ge=>?_⟩;have g2:=g1.trans (fO g1.2 ge);refine⟨1,e,rfl,rfl,1+e,rfl,by omega,by omega,fW (n:=(1+e).toNat) (λi U H'=>∃(o:Option V) (vs:List V) (ts:List T),U=[some (.ref st),some (.int (n+1:Nat)),some (.ref lf),some (.ref l),o]/\H' l=some (.lst vs)/\cB H' vs ts/\ts.length=i/\(∀t∈ts,afj n t)/\cU st lf H H')
   ⟨none,[],[],rfl,ge.1 _ _ dl.1 bf, .nil,rfl,(λ_ h=>by cases h),g2⟩ ?_ ?_⟩
  ·rintro i U H3 hi ⟨o,vs,ts,rfl,hl3,r3,l3,gP,g3⟩
   refine⟨_,rfl, .inl ⟨rfl,_,dX.of hl3⟩,?_⟩;refine⟨_,rfl,st,rfl,g3.2.st,λz1 H4 hz1 lz1 g4=>⟨_,rfl,st,rfl,g4.ok,λz2 H5 hz2 lz2 g5=>⟨small (by show 2<=1000000;decide),λp hp=>?_⟩⟩⟩;have g35:=fO g3.2 (g4.trans g5);have g6:cU st lf H5 (upd H5 p (.tup [.str z1, .str z2])):=iK g35.2 hp;refine⟨_,rfl,_,rfl,_,rfl,st,lf,1,rfl,g6.2,by decide,by decide,λa us us' H7 ha ra la ga sa g7=>?_⟩;refine z7 (hts:=[.str z1, .str z2]) bf (.cons (.str z1 (by omega)) (.cons (.str z2 (by omega)) .nil)) (by simp) g6.2 g7 ha ra (by omega) (by simp;omega) λp' H8 r8 g8=>?_;have g38:=((g35.trans g6).trans g7).trans g8;have Xq:H8 l=some (.lst vs):=g38.1 _ _ dl.1 dl.2 hl3;have lv:=r3.length;refine⟨l,vs, .ref p',rfl,rfl,Xq,fH (by omega),?_⟩;have oZ:∀b xs,H8 b=some (.tup xs)->(upd H8 l (.lst (vs++[.ref p']))) b=some (.tup xs):=λb xs h=>by
    rw[bI (uJ h Xq (by intro z;cases z))];exact h
   match us',la,ra,ga,sa,r8 with
   |[e1],_,_,ga,sa,r8=>
    refine⟨_,vs++[.ref p'],ts++[.tup ([.str z1, .str z2]++[e1])],rfl,bf,((r3.oM g38 g3.2).append (.cons r8 .nil)).mono oZ,by simp[l3],λt ht=>?_,?_⟩
    ·rcases List.mem_append.mp ht with h|h
     ·exact gP t h
     ·rw[List.mem_singleton.mp h]
      exact⟨z1,z2,e1,rfl,hz1,hz2,ga e1 (by simp),by simp[d9]at sa;omega⟩
    ·have gg:=g3.trans g38
     refine⟨λb o h1 h2 hb=>?_,gg.2.ne,?_,?_⟩
     ·rw[bI (cY hb hl)]
      exact gg.1 b o h1 h2 hb
     ·obtain⟨ns,k1,k2,k3⟩:=gg.2.st
      exact⟨ns,k1,k2,by rw[bI (Ne.symm dl.1)];exact k3⟩
     ·obtain⟨j,k1⟩:=gg.2.lf
      exact⟨j,by rw[bI (Ne.symm dl.2)];exact k1⟩
  ·rintro U H3 ⟨o,vs,ts,rfl,hl3,r3,l3,gP,g3⟩
   refine⟨_,rfl,l,vs,rfl, .inl ⟨dX.of hl3,λpr hpr=>⟨small (by show 2<=1000000;decide),λp hp=>?_⟩⟩⟩;have e4:=bw hpr (.tup vs);have e5:=bw hp (.tup [.str "ring", .ref pr]);have g5:=cM g3.2 (e4.trans e5);refine⟨_,rfl,_,rfl,_,rfl,st,lf,1,rfl,g5.2,by decide,by decide,λa us us' H7 ha ra la ga sa g7=>?_⟩;refine z7 (hts:=[.str "ring", .tup ts]) bf (.cons (.str _ (by decide+kernel)) (.cons (.tup (e5 _ _ bf) (r3.same (e4.trans e5))) .nil)) (by simp) g5.2 g7 ha ra (by omega) (by simp;omega) λp' H8 r8 g8=>?_
   match us',la,ga,sa,r8 with
   |[e1],_,ga,sa,r8=>
    have lt:1<=ts.length/\ts.length<=4:=by omega
    have hlist:cI 1 4 jN (.tup ts)=true:=by
     show(cA 1 4 ts&&ts.all jN)=true;rw[ajq.mpr λt ht=>(Df (gP t ht)).1];simp[cA];omega
    refine q _ (.tup ([.str "ring", .tup ts]++[e1])) _ (jW (l:=ts.map at2++[e1]) Gj.1 Gj.2 (by show(if _=true then _ else _)=_;rw[if_pos hlist];rfl) λt ht=>?_) r8 ?_ (((g3.trans g5).trans g7).trans g8)
    ·rcases List.mem_append.mp ht with h|h
     ·obtain⟨t',h1,rfl⟩:=List.mem_map.mp h
      exact(Df (gP t' h1)).2.1
     ·rw[List.mem_singleton.mp h]
      exact ga e1 (by simp)
    ·have s1:=oN (n:=3+BP n) λt ht=>(Df (gP t ht)).2.2
     have s2:ts.length*(3+BP n)<=4*(3+BP n):=aiT _ lt.2;simp[d9]at sa;simp[T.sz,d9,BP];omega
theorem Jd {K:PySem.W.Frag}{a b:Addr}{xs ys:List V}{H:Hp}{Q:VK}(ha:H a=some (.tup xs))(hb:H b=some (.tup ys))(hn:xs≠[])(hl:xs.length+ys.length<=1000)(q:∀p H',Same H H'->H' p=some (.tup (xs++ys))->Q (.ref p) H'):yN K (.ref a) (.ref b) H Q:=by
 refine⟨a,b,xs,ys,rfl,rfl,dY.of ha,dY.of hb,hn,small (by omega),λe=>?_,λ_ p hp=>q p _ (bw hp _) bf⟩;refine q a H (Same.refl H) ?_;rw[e,ai2];exact ha
def afk (n:Nat)(t:T):Prop:=∃g ns e,t=.tup [.tup (.str g::ns),e]/\bJ g=true/\ns.length<=4/\(∀x∈ns,onStr nameB x=true/\x.sz<=1)/\GP (n+1) e/\e.sz<=BP n
theorem Ot {n:Nat}{t:T}(h:afk n t):tG t=true/\GP (n+1) (at1 t)/\t.sz<=7+BP n:=by
 obtain⟨g,ns,e,rfl,hg,hn,hx,he,hs⟩:=h;refine⟨?_,he,?_⟩
 ·show(decide (ns.length<=4)&&(bJ g&&ns.all (onStr nameB)))=true
  rw[hg,decide_eq_true hn,ajq.mpr λx hx'=>(hx x hx').1]
  rfl
 ·have s1:=oN (n:=1) λx hx'=>(hx x hx').2
  simp[T.sz,d9];omega
theorem wF:bG ["_law_state","_law_deep","_law_left","_law_arms","_law_first","_law_k","_law_names"] ["_law_state","_law_deep","_law_left"] (bA Dc):=⟨rfl,rfl,rfl,by decide+kernel,rfl,by decide+kernel,by decide+kernel⟩
set_option maxHeartbeats 2000000 in
theorem aaC {n:Nat}(F:eV K "_law_case" "_law_case" Dc f fd)(mr:mg "range"=none)(mt:mg "tuple"=none)(h0:Has P w K mg aN 1 "_law_next" ["_law_state","_law_many"] eE)(h2:Has P w K mg aN 3 "_law_small" ["_law_state"] (dD λz=>nameB z=true))
  (h3:Has P w K mg aN 3 "_law_great" ["_law_state"] (dD λz=>bJ z=true)) (h1:Has P w K mg aN (7+3*n) "_law_some" ["_law_state","_law_deep","_law_left","_law_many"] (uw n)):cj P w K mg aN eY (8+3*n) f fd ["_law_state","_law_deep","_law_left"] (ux n):=by
 have e7:8+3*n=(7+3*n)+1:=by omega
 rw[e7];refine F.ok wF (len:=λvs H Q E h=>?len) (λcX A aM s H vs Q E hr h=>?_)
 case len=>
  cases n with
  |zero=>exact h.elim
  |succ n=>
   obtain⟨st,lf,rfl,_⟩:=h
   rfl
 cases n with
 |zero=>exact h.elim
 |succ n=>
  obtain⟨st,lf,rfl,d,q⟩:=h;refine⟨_,bx (cZ (i:=3) wF.nd rfl (Or.inl rfl) (dj aX))
   (bx (cZ (i:=4) wF.nd rfl (Or.inl rfl) (bB h1 hr (aio _) rfl (aW (pv 0) (aW (pv 1) (aW (pv 2) (aW aY aX))))))
   (bx (jR PassesOwn.never rfl (dw rfl mr (aW (bY gQ aY (bB h0 hr (by omega) rfl (aW (pv 0) (aW aY aX)))) aX)) (eO (i:=5) wF.nd rfl (Or.inl rfl))
    (bx (cZ (i:=6) wF.nd rfl (Or.inl rfl) (cC cJ rfl mt boot_tuple (aW (pR (bA Dc) ["_law_state","_law_deep","_law_left","_law_arms","_law_first","_law_k","_law_names"] ["_law_state"] [0] (by decide+kernel)
      (dw rfl mr (aW (bB h0 hr (by omega) rfl (aW (pv 0) (aW aY aX))) aX)) (λC s₀ H₀ ex=>ji) (λC s₀ H₀ ex=>bB h2 hr (by omega) rfl (aW (pv 1) aX))) aX)))
    (bh (fj (jX aiA aiK aiL iW (pv 3) (aW (bY d7 (cO (aW (bY d7 (cO (aW (bB h3 hr (by omega) rfl (aW (pv 0) aX)) aX)) (pv 6)) aX))
     (bB h1 hr (aio _) rfl (aW (pv 0) (aW (pv 1) (aW (pv 2) (aW aY aX)))))) aX))))))
   (bh (bD (bY d7 (bY d7 (cO (aW bQ aX)) (pv 4)) (cC cJ rfl mt boot_tuple (aW (pv 3) aX))))))),?_⟩
  refine⟨small (by show 0<=1000000;decide),λl hl=>?_⟩;have dl:=d.fresh hl;have g1:cU st lf H (upd H l (.lst [])):=iK d hl;refine⟨_,rfl,_,rfl,_,rfl,st,lf,1,rfl,g1.2,by decide,by decide,λaf uf tf Hf haf raf laf gaf saf gf=>?_⟩;refine⟨_,rfl,st,6,rfl,gf.2.st,by decide,by decide,λe H2 e0 e1 ge=>?_⟩;have gf2:=fO gf.2 ge;have g2:=(g1.trans gf).trans gf2;refine⟨1,e,rfl,rfl,1+e,rfl,by omega,by omega,fW (n:=(1+e).toNat) (λi U H'=>∃(o5 o6:Option V) (vs:List V) (ts:List T),U=[some (.ref st),some (.int (n+1:Nat)),some (.ref lf),some (.ref l),some (.ref af),o5,o6]/\H' l=some (.lst vs)/\H' af=some (.tup uf)/\cB H' uf tf/\cB H' vs ts/\ts.length=i/\(∀t∈ts,afk n t)/\cU st lf H H')
   ⟨none,none,[],[],rfl,(gf.trans gf2).1 _ _ dl.1 dl.2 bf,gf2.tups gf.2 _ _ haf,raf.oM gf2 gf.2, .nil,rfl,(λ_ h=>by cases h),g2⟩ ?_ ?_⟩
  ·rintro i U H3 hi ⟨o5,o6,vs,ts,rfl,hl3,adg,T9,r3,l3,K9,g3⟩
   refine⟨_,rfl,st,5,rfl,g3.2.st,by decide,by decide,λc H4 c0 c1 gc=>⟨c,rfl,by omega,by omega,?_⟩⟩;have g34:=fO g3.2 gc;refine qL (n:=c.toNat) (λj ws H'=>cU st lf H3 H'/\∃us,cB H' ws us/\us.length=j/\∀x∈us,onStr nameB x=true/\x.sz<=1) ⟨g34,[], .nil,rfl,λ_ h=>by cases h⟩ ?_ ?_ ?_
   ·rintro j ws H' hj ⟨g,us,r,lu,_⟩
    exact fH (by rw[r.length,lu];omega)
   ·rintro j ws H' hj ⟨g,us,r,lu,hu⟩
    refine Zn (dM ⟨_,rfl,st,rfl,g.2.st,λz Tv hz lz gz=>nx hj ⟨g.trans (fO g.2 gz),us++[.str z],(r.grow gz g.2.st).append (.cons (.str z (by omega)) .nil),by simp[lu],λx hx=>?_⟩⟩);rcases List.mem_append.mp hx with h|h
    ·exact hu x h
    ·rw[List.mem_singleton.mp h]
     exact⟨hz,aio _⟩
   ·rintro ws H5 ⟨g5,us,r5,lu,hu⟩ ln hln
    refine⟨ln,ws,rfl, .inl ⟨dX.of bf,λpn hpn=>?_⟩⟩;have e6:=bw hln (.lst ws);have e7:=bw hpn (.tup ws);have g7:=g5.trans (cM g5.2 (e6.trans e7));have afl:(upd (upd H5 ln (.lst ws)) pn (.tup ws)) pn=some (.tup ws):=bf;have r7:=r5.same (e6.trans e7);generalize hH7:upd (upd H5 ln (.lst ws)) pn (.tup ws)=H7 at g7 afl r7;have lw:=r5.length;refine⟨_,rfl, .inl ⟨rfl,_,dX.of (g7.1 _ _ dl.1 dl.2 hl3)⟩,?_⟩;refine⟨_,rfl,st,rfl,g7.2.st,λzg H8 hzg lzg g8=>⟨small (by show 1<=1000000;decide),λp1 hp1=>?_⟩⟩;have g78:=fO g7.2 g8;have e9:=bw hp1 (.tup [.str zg]);have agi:=e9 _ _ (g78.tups g7.2 _ _ afl);refine⟨_,rfl,Jd bf agi (by simp) (by simp;omega) λp2 H10 e10 hp2=>⟨small (by show 1<=1000000;decide),λp3 hp3=>?_⟩⟩;have e11:=bw hp3 (.tup [.ref p2]);have Zu:=g78.trans (cM g78.2 ((e9.trans e10).trans e11));have rp2:Rep (upd H10 p3 (.tup [.ref p2])) (.ref p2) (.tup (.str zg::us)):=.tup (e11 _ _ hp2) (.cons (.str zg (by omega)) ((r7.oM g78 g7.2).same ((e9.trans e10).trans e11)));refine⟨_,rfl,_,rfl,_,rfl,st,lf,1,rfl,Zu.2,by decide,by decide,λa ua ta H12 ha ra la ga sa g12=>?_⟩;refine z7 (hts:=[.tup (.str zg::us)]) bf (.cons rp2 .nil) (by simp) Zu.2 g12 ha ra (by omega) (by simp;omega) λp' H13 r13 g13=>?_;have gz:=((g7.trans Zu).trans g12).trans g13;have afm:H13 l=some (.lst vs):=gz.1 _ _ dl.1 dl.2 hl3;have lv:=r3.length;refine⟨l,vs, .ref p',rfl,rfl,afm,fH (by omega),?_⟩;have oZ:∀b xs,H13 b=some (.tup xs)->(upd H13 l (.lst (vs++[.ref p']))) b=some (.tup xs):=λb xs h=>by
     rw[bI (uJ h afm (by intro z;cases z))];exact h
    match ta,la,ga,sa,r13 with
    |[x1],_,ga,sa,r13=>
     refine⟨_,_,vs++[.ref p'],ts++[.tup ([.tup (.str zg::us)]++[x1])],rfl,bf,oZ _ _ (gz.tups g3.2 _ _ adg),(T9.oM gz g3.2).mono oZ,((r3.oM gz g3.2).append (.cons r13 .nil)).mono oZ,by simp[l3],λt ht=>?_,?_⟩
     ·rcases List.mem_append.mp ht with h|h
      ·exact K9 t h
      ·rw[List.mem_singleton.mp h]
       exact⟨zg,us,x1,rfl,hzg,by omega,hu,ga x1 (by simp),by simp[d9]at sa;omega⟩
     ·have gg:=g3.trans gz
      refine⟨λb o h1 h2 hb=>?_,gg.2.ne,?_,?_⟩
      ·rw[bI (cY hb hl)]
       exact gg.1 b o h1 h2 hb
      ·obtain⟨ns,k1,k2,k3⟩:=gg.2.st
       exact⟨ns,k1,k2,by rw[bI (Ne.symm dl.1)];exact k3⟩
      ·obtain⟨j,k1⟩:=gg.2.lf
       exact⟨j,by rw[bI (Ne.symm dl.2)];exact k1⟩
  ·rintro U H3 ⟨o5,o6,vs,ts,rfl,hl3,adg,T9,r3,l3,K9,g3⟩
   refine⟨small (by show 1<=1000000;decide),λp1 hp1=>?_⟩;have e4:=bw hp1 (.tup [.str "case"]);have lf1:=T9.length;have lv:=r3.length;refine⟨_,rfl,Jd bf (e4 _ _ adg) (by simp) (by simp;omega) λp2 H5 e5 hp2=>⟨_,rfl,l,vs,rfl, .inl ⟨dX.of ((e4.trans e5) _ _ hl3),λpt hpt=>?_⟩⟩⟩;have e6:=bw hpt (.tup vs);refine Jd (e6 _ _ hp2) bf (by simp) (by simp;omega) λp3 H7 e7 hp3=>?_;have Io:=((e4.trans e5).trans e6).trans e7
   match tf,laf,gaf,saf,T9 with
   |[x0],_,gaf,saf,T9=>
    have lt:1<=ts.length/\ts.length<=6:=by omega
    have hlist:(cA 1 6 ts&&ts.all tG)=true:=by
     rw[ajq.mpr λt ht=>(Ot (K9 t ht)).1];simp[cA];omega
    refine q _ (.tup (.str "case"::x0::ts)) _ (jW (l:=x0::ts.map at1) Gk.1 Gk.2 (by show(if _=true then _ else _)=_;rw[if_pos hlist]) λt ht=>?_) (.tup hp3 (.cons (.str _ (by decide+kernel)) ((T9.same Io).append (r3.same Io)))) ?_ (g3.trans (cM g3.2 Io))
    ·rcases aiB.mp ht with rfl|h
     ·exact gaf _ (by simp)
     ·obtain⟨t',h1,rfl⟩:=List.mem_map.mp h
      exact(Ot (K9 t' h1)).2.1
    ·have s1:=oN (n:=7+BP n) λt ht=>(Ot (K9 t ht)).2.2
     have s2:ts.length*(7+BP n)<=6*(7+BP n):=aiT _ lt.2;simp[d9]at saf;simp[T.sz,d9,BP];omega
end
theorem Dg:bJ "fun"=false/\formOf "fun"=some 0:=by decide+kernel
theorem Ub:bJ "pick"=false/\formOf "pick"=some 0:=by decide+kernel
theorem La:bJ "let"=false/\formOf "let"=some 2:=by decide+kernel
theorem Gm:bJ "make"=false/\formOf "make"=some 5:=by decide+kernel
theorem Q5:bJ "if"=false/\formOf "if"=some 6:=by decide+kernel
theorem Xr:∀z∈(["call","plus","minus","times","less"]:List Str),bJ z=false/\formOf z=some 1:=by decide+kernel
theorem aaD:∀z∈(["call","plus","minus","times","less"]:List Str),z.length<=10:=by decide+kernel
theorem yV {d:Nat}{z x:Str}{ts:List T}(h:bJ z=false/\formOf z=some 0)(hx:nameB x=true)(hl:ts.length=1)(hg:∀t∈ts,GP d t):GP (d+1) (.tup (.str z::.str x::ts)):=by
 match ts,hl,hg with
 |[e],_,hg=>exact jW (l:=[e]) h.1 h.2 (by show(if nameB x=true then _ else _)=_;rw[if_pos hx]) hg
theorem Ud {d:Nat}{x:Str}{ts:List T}(hx:nameB x=true)(hl:ts.length=2)(hg:∀t∈ts,GP d t):GP (d+1) (.tup (.str "let"::.str x::ts)):=by
 match ts,hl,hg with
 |[e,g],_,hg=>exact jW (l:=[e,g]) La.1 La.2 (by show(if nameB x=true then _ else _)=_;rw[if_pos hx]) hg
theorem Ou {d:Nat}{x:Str}{ts:List T}(hx:nameB x=true)(h1:1<=ts.length)(h4:ts.length<=4)(hg:∀t∈ts,GP d t):GP (d+1) (.tup (.str "make"::.str x::ts)) :=
 jW (l:=ts) Gm.1 Gm.2 (by
  show(if(cA 1 4 ts&&nameB x)=true then _ else _)=_;rw[if_pos (by rw[hx];simp[cA];omega)]) hg
theorem Ue {d:Nat}{z:Str}{ts:List T}(h:bJ z=false/\formOf z=some 1)(hl:ts.length=2)(hg:∀t∈ts,GP d t):GP (d+1) (.tup (.str z::ts)):=by
 match ts,hl,hg with
 |[e,g],_,hg=>exact jW (l:=[e,g]) h.1 h.2 rfl hg
theorem Xu {d:Nat}{ts:List T}(hl:ts.length=3)(hg:∀t∈ts,GP d t):GP (d+1) (.tup (.str "if"::ts)):=by
 match ts,hl,hg with
 |[e,g,h],_,hg=>exact jW (l:=[e,g,h]) Q5.1 Q5.2 rfl hg
theorem oO {K:PySem.W.Frag}{st lf p:Addr}{n m:Nat}{i:Int}{hv:List V}{hts:List T}{H1:Hp}{Q:VK}(hi:i=(m:Nat))(hp:H1 p=some (.tup hv))(rp:cB H1 hv hts)(hn:1<=hv.length)(hn2:hv.length<=10)(d1:D2 st lf H1)(m1:1<=m)(m6:m<=6)
  (q:∀v ts H',ts.length=m->(∀t∈ts,GP (n+1) t)->d9 ts<=m*BP n->Rep H' v (.tup (hts++ts))->cU st lf H1 H'->Q v H'):uw (n+1) [.ref st, .int (n+1:Nat), .ref lf, .int i] H1 (λy H3=>yN K (.ref p) y H3 Q) E0:=by
 subst hi;refine⟨st,lf,m,rfl,d1,m1,m6,λa us ts H' ha ra la ga sa g=>?_⟩;exact z7 hp rp (λe=>by rw[e]at hn;simp at hn) d1 g ha ra (by omega) (by omega) λp' H2 r2 g2=>q _ ts H2 la ga sa r2 (g.trans g2)
section
variable {P:Program}{w:World}{K:PySem.W.Frag}{mg:Str->Option Value}{aN:Heap}{f:Addr}{fd:FuncData}
theorem Gn:bG ["_law_state","_law_deep","_law_left","_law_way"] ["_law_state","_law_deep","_law_left"] (bA wD):=⟨rfl,rfl,rfl,by decide+kernel,rfl,by decide+kernel,by decide+kernel⟩
theorem Xv {st lf:Addr}{H:Hp}{j:Int}(d:D2 st lf H):cU st lf H (upd H lf (.lst [.int j])):=by
 refine⟨λb o _ h2 hb=>by rw[bI h2];exact hb,d.ne,?_,j,bf⟩;obtain⟨ns,k1,k2,k3⟩:=d.st;exact⟨ns,k1,k2,by rw[bI d.ne];exact k3⟩
set_option maxHeartbeats 2000000 in
theorem Ug {n:Nat}(F:eV K "_law_phrase" "_law_phrase" wD f fd)(h0:Has P w K mg aN 1 "_law_next" ["_law_state","_law_many"] eE)(h2:Has P w K mg aN 3 "_law_small" ["_law_state"] (dD λz=>nameB z=true))
  (h3:Has P w K mg aN 3 "_law_great" ["_law_state"] (dD λz=>bJ z=true)) (h4:Has P w K mg aN 5 "_law_leaf" ["_law_state","_law_way"] Ja) (h1:Has P w K mg aN (7+3*n) "_law_some" ["_law_state","_law_deep","_law_left","_law_many"] (uw n))
  (h5:Has P w K mg aN (8+3*n) "_law_ring" ["_law_state","_law_deep","_law_left"] (ux n)) (h6:Has P w K mg aN (8+3*n) "_law_case" ["_law_state","_law_deep","_law_left"] (ux n)):cj P w K mg aN eY (9+3*n) f fd ["_law_state","_law_deep","_law_left"] (K6 n):=by
 have e7:9+3*n=(8+3*n)+1:=by omega
 rw[e7];refine F.ok Gn (len:=λvs H Q E h=>(by obtain⟨st,lf,rfl,_⟩:=h;rfl)) (λcX A aM s H vs Q E hr h=>?_);obtain⟨st,lf,rfl,d,q⟩:=h;refine⟨_,bx (ZG (pv 2) aY V5 aY aco set_list)
  (bx (cZ (i:=3) Gn.nd rfl (Or.inl rfl) (bB h0 hr (by omega) rfl (aW (pv 0) (aW aY aX))))
  (bx (cF (PW.pt (kj (bL cN (pv 1) aY (bM _)) (kj (bL yM (bU fG (pv 2) aY (λ_ _=>rfl)) aY (bM _)) (jm (bL yM (pv 3) aY (bM _))))))
   (bh (bD (bB h4 hr (by omega) rfl (aW (pv 0) (aW (bY sE (pv 3) aY) aX))))) bK)
  (bx (cF (bL cN (pv 3) aY (bM _)) (bh (bD (bY d7 (cO (aW (bB h3 hr (by omega) rfl (aW (pv 0) aX)) aX))
   (bB h1 hr (by omega) rfl (aW (pv 0) (aW (pv 1) (aW (pv 2) (aW (bY gQ aY (bB h0 hr (by omega) rfl (aW (pv 0) (aW aY aX)))) aX)))))))) bK)
  (bx (cF (bL cN (pv 3) aY (bM _)) (bh (bD (bY d7 (cO (aW bQ (aW (bB h2 hr (by omega) rfl (aW (pv 0) aX)) aX)))
   (bB h1 hr (by omega) rfl (aW (pv 0) (aW (pv 1) (aW (pv 2) (aW aY aX)))))))) bK)
  (bx (cF (bL cN (pv 3) aY (bM _)) (bh (bD (bY d7 (cO (aW bQ (aW (bB h2 hr (by omega) rfl (aW (pv 0) aX)) aX)))
   (bB h1 hr (by omega) rfl (aW (pv 0) (aW (pv 1) (aW (pv 2) (aW aY aX)))))))) bK)
  (bx (cF (bL cN (pv 3) aY (bM _)) (bh (bD (bB h5 hr (by omega) rfl (aW (pv 0) (aW (pv 1) (aW (pv 2) aX)))))) bK)
  (bx (cF (bL cN (pv 3) aY (bM _)) (bh (bD (bB h6 hr (by omega) rfl (aW (pv 0) (aW (pv 1) (aW (pv 2) aX)))))) bK)
  (bx (cF (bL cN (pv 3) aY (bM _)) (bh (bD (bY d7 (cO (aW bQ (aW (bB h2 hr (by omega) rfl (aW (pv 0) aX)) aX)))
   (bB h1 hr (by omega) rfl (aW (pv 0) (aW (pv 1) (aW (pv 2) (aW (bY gQ aY (bB h0 hr (by omega) rfl (aW (pv 0) (aW aY aX)))) aX)))))))) bK)
  (bx (cF (bL cN (pv 3) aY (bM _)) (bh (bD (bY d7 (cO (aW bQ (aW (bB h2 hr (by omega) rfl (aW (pv 0) aX)) aX)))
   (bB h1 hr (by omega) rfl (aW (pv 0) (aW (pv 1) (aW (pv 2) (aW aY aX)))))))) bK)
  (bx (cF (bL cN (pv 3) aY (bM _)) (bh (bD (bY d7 (cO (aW bQ aX))
   (bB h1 hr (by omega) rfl (aW (pv 0) (aW (pv 1) (aW (pv 2) (aW aY aX)))))))) bK)
  (bh (bD (bY d7 (cO (aW (bU fG (dj (aW bQ (aW bQ (aW bQ (aW bQ (aW bQ aX)))))) (bY pA (pv 3) aY) (λ_ _=>rfl)) aX))
   (bB h1 hr (by omega) rfl (aW (pv 0) (aW (pv 1) (aW (pv 2) (aW aY aX)))))))))))))))))),?_⟩
 obtain⟨i0,hlf⟩:=d.lf;refine⟨_,rfl,lf,_,0, .int i0,rfl,rfl,dX.of hlf,rfl,i0,1,rfl,rfl,lf,_,0,0,rfl,rfl,hlf,rfl,?_⟩;have g1:cU st lf H (upd H lf (.lst [.int (i0-1)])):=Xv d;show JD _ _ _ _ (upd H lf (.lst [.int (i0-1)]));generalize upd H lf (.lst [.int (i0-1)])=H1 at g1;refine⟨_,rfl,st,17,rfl,g1.2.st,by decide,by decide,λy H2 y0 y1 g2'=>?_⟩;have g2:=g1.trans (fO g1.2 g2');obtain⟨j,hj⟩:=g2.2.lf;refine fY (oY (iY (fJ (bN rfl) λ_ _=>dI)) (λ_ H' e'=>oY (iY (sW (z:=.bl (decide (j<0))) (acI (bN rfl) (λ_ _=>dI) (dX.of (e' _ _ hj)) (eF (j:=0) rfl)) (λ_ _=>dI) λTv Q'' e'' q''=>⟨_,_,rfl,rfl,q''⟩))
  (λ_ Tv e''=>iY (sW (z:=.bl (decide (y<4))) (bN rfl) (λ_ _=>dI) λTv Q'' e'' q''=>⟨_,_,rfl,rfl,q''⟩)))) (λc H3 e3=>?_) (λc H3 e3=>?_)
 ·have g3:=g2.trans (cM g2.2 e3)
  refine⟨_,rfl,_,rfl,y,4,rfl,rfl,(by show(0:Int)<4;decide),st,y%4,rfl,g3.2.st,ajT _ (by omega),ajz _ (by decide),λv t H4 gt rt zt g4=>?_⟩;exact q v t H4 (gt.up (by omega)) rt (aiv zt (adf n)) (g3.trans (fO g3.2 g4))
 ·have c1:¬((n:Int)=0)/\¬y<4:=by
   rw[aiy,aiy]at c;exact⟨of_decide_eq_false c.1,of_decide_eq_false c.2.2⟩
  obtain⟨m,rfl⟩:∃m,n=m+1:=⟨n-1,by omega⟩;have fin:∀(z:T) (hts ts:List T) (k:Nat) (H':Hp) (v:V),z=.tup (hts++ts)->d9 hts<=3->k<=6->d9 ts<=k*BP m->GP (m+2) z->Rep H' v z->cU st lf H H'->Q v H':=λz hts ts k H' v e1 e2 e3 e4 gz rz g=>by
   refine q v z H' gz rz ?_ g;have:k*BP m<=6*BP m:=aiT _ e3;rw[e1];simp only[T.sz,iB,BP];omega
  have g3:=g2.trans (cM g2.2 e3);refine fY (iY (fJ (bN rfl) λ_ _=>dI)) (λc4 H4 e4=>?_) (λc4 H4 e4=>?_)
  ·have g4:=g3.trans (cM g3.2 e4)
   refine⟨_,rfl,st,rfl,g4.2.st,λz H5 hz lz g5'=>⟨small (by show 1<=1000000;decide),λp hp=>?_⟩⟩;have g5:=g4.trans (fO g4.2 g5');have g6':cU st lf H5 (upd H5 p (.tup [.str z])):=iK g5.2 hp;refine⟨_,rfl,_,rfl,_,rfl,_,rfl,st,4,rfl,g6'.2.st,by decide,by decide,λe H7 e0 e1 g7'=>⟨1,e,rfl,rfl,?_⟩⟩;have g7:=fO g6'.2 g7';refine oO (m:=(1+e).toNat) (hts:=[.str z]) (by omega) (g7.tups g6'.2 _ _ bf) (.cons (.str z (by omega)) .nil) (by simp) (by simp) g7.2 (by omega) (by omega) λv ts H8 lt gt zt rt g8=>?_;exact fin _ [.str z] ts _ H8 v rfl (by simp[d9,T.sz]) (by omega) zt (K7 (ts:=ts) hz (by omega) (by omega) gt) rt (((g5.trans g6').trans g7).trans g8)
  have g4:=g3.trans (cM g3.2 e4);refine fY (iY (fJ (bN rfl) λ_ _=>dI)) (λc5 H5 e5=>?_) (λc5 H5 e5=>?_)
  ·have g5:=g4.trans (cM g4.2 e5)
   refine⟨_,rfl,st,rfl,g5.2.st,λz H6 hz lz g6'=>⟨small (by show 2<=1000000;decide),λp hp=>?_⟩⟩;have g6:=g5.trans (fO g5.2 g6');have g7:cU st lf H6 (upd H6 p (.tup [.str "fun", .str z])):=iK g6.2 hp;refine⟨_,rfl,_,rfl,_,rfl,?_⟩;refine oO (m:=1) (i:=1) (hts:=[.str "fun", .str z]) rfl bf (.cons (.str _ (by decide+kernel)) (.cons (.str z (by omega)) .nil)) (by simp) (by simp) g7.2 (by omega) (by omega) λv ts H8 lt gt zt rt g8=>?_;exact fin _ [.str "fun", .str z] ts _ H8 v rfl (by simp[d9,T.sz]) (by omega) zt (yV Dg hz lt gt) rt ((g6.trans g7).trans g8)
  have g5:=g4.trans (cM g4.2 e5);refine fY (iY (fJ (bN rfl) λ_ _=>dI)) (λc6 H6 e6=>?_) (λc6 H6 e6=>?_)
  ·have g6:=g5.trans (cM g5.2 e6)
   refine⟨_,rfl,st,rfl,g6.2.st,λz H7 hz lz g7'=>⟨small (by show 2<=1000000;decide),λp hp=>?_⟩⟩;have g7:=g6.trans (fO g6.2 g7');have g8:cU st lf H7 (upd H7 p (.tup [.str "let", .str z])):=iK g7.2 hp;refine⟨_,rfl,_,rfl,_,rfl,?_⟩;refine oO (m:=2) (i:=2) (hts:=[.str "let", .str z]) rfl bf (.cons (.str _ (by decide+kernel)) (.cons (.str z (by omega)) .nil)) (by simp) (by simp) g8.2 (by omega) (by omega) λv ts H9 lt gt zt rt g9=>?_;exact fin _ [.str "let", .str z] ts _ H9 v rfl (by simp[d9,T.sz]) (by omega) zt (Ud hz lt gt) rt ((g7.trans g8).trans g9)
  have g6:=g5.trans (cM g5.2 e6);refine fY (iY (fJ (bN rfl) λ_ _=>dI)) (λc7 H7 e7=>?_) (λc7 H7 e7=>?_)
  ·have g7:=g6.trans (cM g6.2 e7)
   exact⟨_,rfl,_,rfl,_,rfl,st,lf,rfl,g7.2,λv t H8 gt rt zt g8=>q v t H8 gt rt zt (g7.trans g8)⟩
  have g7:=g6.trans (cM g6.2 e7);refine fY (iY (fJ (bN rfl) λ_ _=>dI)) (λc8 H8 e8=>?_) (λc8 H8 e8=>?_)
  ·have g8:=g7.trans (cM g7.2 e8)
   exact⟨_,rfl,_,rfl,_,rfl,st,lf,rfl,g8.2,λv t H9 gt rt zt g9=>q v t H9 gt rt zt (g8.trans g9)⟩
  have g8:=g7.trans (cM g7.2 e8);refine fY (iY (fJ (bN rfl) λ_ _=>dI)) (λc9 H9 e9=>?_) (λc9 H9 e9=>?_)
  ·have g9:=g8.trans (cM g8.2 e9)
   refine⟨_,rfl,st,rfl,g9.2.st,λz Ha hz lz ga'=>⟨small (by show 2<=1000000;decide),λp hp=>?_⟩⟩;have ga:=g9.trans (fO g9.2 ga');have gb:cU st lf Ha (upd Ha p (.tup [.str "make", .str z])):=iK ga.2 hp;refine⟨_,rfl,_,rfl,_,rfl,_,rfl,st,4,rfl,gb.2.st,by decide,by decide,λe Hc e0 e1 gc'=>⟨1,e,rfl,rfl,?_⟩⟩;have gc:=fO gb.2 gc';refine oO (m:=(1+e).toNat) (hts:=[.str "make", .str z]) (by omega) (gc.tups gb.2 _ _ bf) (.cons (.str _ (by decide+kernel)) (.cons (.str z (by omega)) .nil)) (by simp) (by simp) gc.2 (by omega) (by omega) λv ts Hd lt gt zt rt gd=>?_;exact fin _ [.str "make", .str z] ts _ Hd v rfl (by simp[d9,T.sz]) (by omega) zt (Ou (ts:=ts) hz (by omega) (by omega) gt) rt (((ga.trans gb).trans gc).trans gd)
  have g9:=g8.trans (cM g8.2 e9);refine fY (iY (fJ (bN rfl) λ_ _=>dI)) (λca Ha ea=>?_) (λca Ha ea=>?_)
  ·have ga:=g9.trans (cM g9.2 ea)
   refine⟨_,rfl,st,rfl,ga.2.st,λz Hb hz lz gb'=>⟨small (by show 2<=1000000;decide),λp hp=>?_⟩⟩;have gb:=ga.trans (fO ga.2 gb');have gc:cU st lf Hb (upd Hb p (.tup [.str "pick", .str z])):=iK gb.2 hp;refine⟨_,rfl,_,rfl,_,rfl,?_⟩;refine oO (m:=1) (i:=1) (hts:=[.str "pick", .str z]) rfl bf (.cons (.str _ (by decide+kernel)) (.cons (.str z (by omega)) .nil)) (by simp) (by simp) gc.2 (by omega) (by omega) λv ts Hd lt gt zt rt gd=>?_;exact fin _ [.str "pick", .str z] ts _ Hd v rfl (by simp[d9,T.sz]) (by omega) zt (yV Ub hz lt gt) rt ((gb.trans gc).trans gd)
  have ga:=g9.trans (cM g9.2 ea);refine fY (iY (fJ (bN rfl) λ_ _=>dI)) (λcb Hb eb=>?_) (λcb Hb eb=>?_)
  ·have gb:=ga.trans (cM ga.2 eb)
   refine⟨small (by show 1<=1000000;decide),λp hp=>?_⟩;have gc:cU st lf Hb (upd Hb p (.tup [.str "if"])):=iK gb.2 hp;refine⟨_,rfl,_,rfl,_,rfl,?_⟩;refine oO (m:=3) (i:=3) (hts:=[.str "if"]) rfl bf (.cons (.str _ (by decide+kernel)) .nil) (by simp) (by simp) gc.2 (by omega) (by omega) λv ts Hd lt gt zt rt gd=>?_;exact fin _ [.str "if"] ts _ Hd v rfl (by simp[d9,T.sz]) (by omega) zt (Xu lt gt) rt ((gb.trans gc).trans gd)
  have gb:=ga.trans (cM ga.2 eb);have n4:¬y=4:=of_decide_eq_false c4;have n5:¬y=5:=of_decide_eq_false c5;have n6:¬y=6:=of_decide_eq_false c6;have n7:¬y=7:=of_decide_eq_false c7;have n8:¬y=8:=of_decide_eq_false c8;have n9:¬y=9:=of_decide_eq_false c9;have na:¬y=10:=of_decide_eq_false ca;have nb:¬y=11:=of_decide_eq_false cb;have hy:12<=y:=by omega
  refine⟨small (by show 5<=1000000;decide),λl hl=>?_⟩;obtain⟨zz,hzz,hm⟩:∃zz,Dz ((["call","plus","minus","times","less"]:List Str).map V.str) (y-12)=some (V.str zz)/\zz∈(["call","plus","minus","times","less"]:List Str):=by
   obtain⟨v,hv,hm⟩:=Bs (xs:=(["call","plus","minus","times","less"]:List Str).map V.str) (d:=y-12) (by omega) (by simp;omega);obtain⟨zz,h1,h2⟩:=List.mem_map.mp hm;exact⟨zz,by rw[hv,h2],h1⟩
  refine⟨_,rfl,y,12,rfl,rfl,l,_,y-12, .str zz,rfl,rfl,dX.of bf,hzz,small (by show 1<=1000000;decide),λp hp=>?_⟩;have gc:=gb.trans (iK (o:=.lst ((["call","plus","minus","times","less"]:List Str).map V.str)) gb.2 hl);have gd:=iK (o:=.tup [.str zz]) gc.2 hp;refine⟨_,rfl,_,rfl,_,rfl,?_⟩;refine oO (m:=2) (i:=2) (hts:=[.str zz]) rfl bf (.cons (.str _ (by have:=aaD zz hm;omega)) .nil) (by simp) (by simp) gd.2 (by omega) (by omega) λv ts He lt gt zt rt ge=>?_;exact fin _ [.str zz] ts _ He v rfl (by simp[d9,T.sz]) (by omega) zt (Ue (Xr zz hm) lt gt) rt ((gc.trans gd).trans ge)
theorem yW {fs fr fc:Addr}{ds dr dc:FuncData}(F:eV K "_law_phrase" "_law_phrase" wD f fd)(bF:Binds K fd ["_law_state","_law_deep","_law_left"] [])(mF:mg "_law_phrase"=some (.ref f))
  (S:eV K "_law_some" "_law_some" CZ fs ds) (bS:Binds K ds ["_law_state","_law_deep","_law_left","_law_many"] []) (mS:mg "_law_some"=some (.ref fs)) (R:eV K "_law_ring" "_law_ring" Jb fr dr) (bR:Binds K dr ["_law_state","_law_deep","_law_left"] []) (mR:mg "_law_ring"=some (.ref fr))
  (C:eV K "_law_case" "_law_case" Dc fc dc) (bC:Binds K dc ["_law_state","_law_deep","_law_left"] []) (mC:mg "_law_case"=some (.ref fc)) (mr:mg "range"=none) (mt:mg "tuple"=none)
  (h0:Has P w K mg aN 1 "_law_next" ["_law_state","_law_many"] eE) (h2:Has P w K mg aN 3 "_law_small" ["_law_state"] (dD λz=>nameB z=true))
  (h3:Has P w K mg aN 3 "_law_great" ["_law_state"] (dD λz=>bJ z=true)) (h4:Has P w K mg aN 5 "_law_leaf" ["_law_state","_law_way"] Ja):
  ∀n:Nat,Has P w K mg aN (6+3*n) "_law_phrase" ["_law_state","_law_deep","_law_left"] (qx n)
 |0=>⟨f,fd,⟨λvs H Q E h=>h.elim,λA aM s H args us vs Q E _ _ _ _ h=>h.elim⟩,bF,F.kp,mF⟩
 |n+1=>by
  have ih:=yW F bF mF S bS mS R bR mR C bC mC mr mt h0 h2 h3 h4 n;have hs:Has P w K mg aN (7+3*n) "_law_some" ["_law_state","_law_deep","_law_left","_law_many"] (uw n):=⟨fs,ds,aaA S mr mt ih,bS,S.kp,mS⟩;have hg:Has P w K mg aN (8+3*n) "_law_ring" ["_law_state","_law_deep","_law_left"] (ux n):=⟨fr,dr,aaB R mr mt h0 h2 hs,bR,R.kp,mR⟩;have hc:Has P w K mg aN (8+3*n) "_law_case" ["_law_state","_law_deep","_law_left"] (ux n):=⟨fc,dc,aaC C mr mt h0 h2 h3 hs,bC,C.kp,mC⟩;have e:6+3*(n+1)=9+3*n:=by omega
  rw[e];exact⟨f,fd,Ug F h0 h2 h3 h4 hs hg hc,bF,F.kp,mF⟩
end
end Fw
namespace L2
open PySem PySem.Spec PyProof.Rows
section
variable {X:Cx}
def aaE:V->List V->Hp->VK->Prop:=λx vs H Q=>∃l xs i y,x=.ref l/\vs=[.int i,y]/\H l=some (.lst xs)/\0<=i/\i<=xs.length/\xs.length+1<=1000000/\Q .non (upd H l (.lst (xs.take i.toNat++y::xs.drop i.toNat)))
theorem Uh {xs:List V}{us:List Value}(r:Vals xs us):∀k,Vals (xs.take k) (us.take k):=by
 induction r with
 |nil=>intro k;simp;exact .nil
 |cons a b ih=>
  intro k;cases k with
  |zero=>exact .nil
  |succ k=>exact .cons a (ih k)
theorem Ui {xs:List V}{us:List Value}(r:Vals xs us):∀k,Vals (xs.drop k) (us.drop k):=by
 induction r with
 |nil=>intro k;simp;exact .nil
 |cons a b ih=>
  intro k;cases k with
  |zero=>exact .cons a b
  |succ k=>exact ih k
theorem Uj:MtM X "list.insert" aaE:=by
 intro aZ s U H x vs v us Q I rx rv h;obtain⟨l,xs,i,y,rfl,rfl,hH,h1,h2,hz,q⟩:=h;cases rx;cases rv with
 |cons ra rb=>
 obtain⟨t,rfl⟩:=ra;cases rb with
 |cons ru rc=>
 cases rc
 rename_i u
 obtain⟨z,aU,n,r,hl,e⟩:=I.JL hH;have hsz:xs.length+1<=sizeLine:=aiv hz (by decide);have hf:¬(!Builtin.List.listFitsIndex i)=true:=by
  rw[fitsIndex_both (by omega) (by omega)];exact aip
 refine call_meets F.slot_list_insert ⟨_,e,rfl⟩ F.entry_list_insert (F.args_list_insert_3 _ _ _) (AutoSeq1.list_insert_list_int_val_1 l aU.toArray n i t u hf (by rw[ais,<-hl];omega)) ⟨e,?_⟩;refine⟨.non,_,I.VN (its':=aU.take i.toNat++u::aU.drop i.toNat) hH e ?_ ((Uh r _).append (.cons ru (Ui r _))) ?_,rfl,q⟩
 ·have e1:¬i<0:=by omega
  have e2:min i.toNat aU.toArray.size=i.toNat:=by rw[ais,<-hl];omega
  show(aU.toArray.extract 0 (if i<0 then _ else min i.toNat aU.toArray.size)).push u++aU.toArray.extract (if i<0 then _ else min i.toNat aU.toArray.size)=_;rw[if_neg e1,e2];simp;exact ai4 (by simp)
 ·simp
  omega
end
end L2
namespace Fw
open PySem PySem.Spec PyProof.Rows L2
theorem aaF {z:Str}(h:jK z=true):fV (.str z):=by
 unfold jK at h;simp only[aiM,decide_eq_true_eq]at h;rcases h with ((h|h)|h)|h
 ·rw[h]
  exact qT (by decide+kernel)
 ·exact xU h
 ·exact iD h
 ·exact wj h
theorem aaG {z:Str}(h:iR z=true):fV (.str z):=by
 unfold iR at h;simp only[aiM]at h;rcases h with h|h
 ·exact iD h
 ·exact wj h
theorem Xw {z:Str}(h:iZ z=true):fV (.str z):=by
 unfold iZ at h;simp only[aiM]at h;rcases h with h|h|h
 ·exact iD h
 ·exact wj h
 ·exact gM h
theorem Q6 {t:T}(h:Good jw t):Tr t.sz t:=by
 induction h with
 |@mk t l h q ih=>
  cases t with
  |int i=>cases h
  |str z=>
   rw[pY]at h;split at h
   ·exact .at (aaF ‹_›)
   ·cases h
  |tup ts=>
   cases ts with
   |nil=>cases h
   |cons a r=>
    rw[jx]at h;have e:l=r/\Tr 0 a:=by
     split at h
     ·rename_i c
      cases h;cases a with
      |str z=>
       have e:z=("->":Str):=of_decide_eq_true c.2;subst e;exact⟨rfl, .at KH⟩
      |int i=>cases c.2
      |tup x=>cases c.2
     ·split at h
      ·rename_i c
       cases h;cases a with
       |str z=>exact⟨rfl, .at (aaG c.2)⟩
       |int i=>cases c.2
       |tup x=>cases c.2
      ·cases h
    obtain⟨rfl,ha⟩:=e;have e1:T.sz (.tup (a::l))=d9 (a::l)+1:=by simp only[T.sz];omega
    rw[e1];refine .tp λt ht=>?_;rcases aiB.mp ht with rfl|ht
    ·exact ha.mono (aiP _)
    ·exact(ih t ht).mono (CG (air _ ht))
theorem Xx {z:Str}{n:Nat}(h:formOf z=some n):fV (.str z):=by
 have:∀p∈Ij,p.1∈ju:=by decide+kernel
 exact qT (this (z,n) (dB h))
theorem uy {t:T}(h:onStr nameB t=true){n:Nat}:Tr n t:=by
 cases t with
 |str z=>exact .at (iD h)
 |int i=>cases h
 |tup x=>cases h
theorem Xy {t:T}(h:onStr bJ t=true){n:Nat}:Tr n t:=by
 cases t with
 |str z=>exact .at (gM h)
 |int i=>cases h
 |tup x=>cases h
theorem aaH {m:Nat}{t:T}(h:jN t=true)(h2:Tr m (at2 t)):Tr (m+1) t:=by
 unfold jN at h;split at h
 ·rw[ain]at h
  refine .tp λt ht=>?_;simp only[aiB,aiz,or_false]at ht;rcases ht with rfl|rfl|rfl
  ·exact uy h.1
  ·exact uy h.2
  ·exact h2
 ·cases h
theorem adh {m:Nat}{t:T}(h:tG t=true)(h2:Tr (m+1) (at1 t)):Tr (m+2) t:=by
 unfold tG at h;split at h
 ·rw[ain,ain]at h
  refine .tp λt ht=>?_;simp only[aiB,aiz,or_false]at ht;rcases ht with rfl|rfl
  ·refine .tp λt ht=>?_
   rcases aiB.mp ht with rfl|ht
   ·exact Xy h.2.1
   ·exact uy (ajq.mp h.2.2 t ht)
  ·exact h2
 ·cases h
theorem Xz {n m:Nat}{r l:List T}(h:tH n r=some l)(ih:∀k∈l,Tr m k):∀t∈r,Tr (m+2) t:=by
 have up:∀k∈l,Tr (m+2) k:=λk hk=>(ih k hk).mono (by omega);unfold tH at h;split at h
 ·split at h
  ·cases h
   intro t ht;simp only[aiB,aiz,or_false]at ht;rcases ht with rfl|rfl
   ·exact uy ‹_›
   ·exact up _ (by simp)
  ·cases h
 ·cases h
  exact up
 ·split at h
  ·cases h
   intro t ht;simp only[aiB,aiz,or_false]at ht;rcases ht with rfl|rfl|rfl
   ·exact uy ‹_›
   ·exact up _ (by simp)
   ·exact up _ (by simp)
  ·cases h
 ·rename_i aP e
  split at h
  ·rename_i c
   cases h;intro t ht;simp only[aiB,aiz,or_false]at ht;rcases ht with rfl|rfl
   ·cases t with
    |tup l=>
     have c':(cA 1 4 l&&l.all jN)=true:=c;rw[ain]at c';exact .tp λx hx=>aaH (ajq.mp c'.2 x hx) (ih _ (aiY _ (ajw hx)))
    |int i=>cases c
    |str z=>cases c
   ·exact up _ (by simp)
  ·cases h
 ·rename_i e arms
  split at h
  ·rename_i c
   cases h;rw[ain]at c;intro t ht;rcases aiB.mp ht with rfl|ht
   ·exact up _ (by simp)
   ·exact adh (ajq.mp c.2 t ht) ((ih _ (air _ (ajw ht))).mono (by omega))
  ·cases h
 ·split at h
  ·rename_i c
   cases h;rw[ain]at c;intro t ht;rcases aiB.mp ht with rfl|ht
   ·exact uy c.2
   ·exact up _ ht
  ·cases h
 ·cases h
  exact up
 ·cases h
theorem Uk {n:Nat}{t:T}(h:GP n t):Tr (3*n) t:=by
 induction h with
 |@mk n t l h q ih=>
  cases t with
  |int i=>
   have h':(if uF (.int i)=true then some [] else none)=some l:=h;split at h'
   ·rename_i c
    have c':(if i<0 then -i else i)<10^30:=of_decide_eq_true c;refine .at (xV ?_ ?_)<;>(split at c'<;>omega)
   ·cases h'
  |str z=>
   have h':(if iZ z=true then some [] else none)=some l:=h;split at h'
   ·exact .at (Xw ‹_›)
   ·cases h'
  |tup ts=>
   match ts,h with
   |.str z::r,h=>
    rw[jG]at h;have e3:3*(n+1)=3*n+2+1:=by omega
    rw[e3];split at h
    ·split at h
     ·cases h
      refine .tp λt ht=>?_;rcases aiB.mp ht with rfl|ht
      ·exact .at (gM ‹_›)
      ·exact(ih t ht).mono (by omega)
     ·cases h
    ·split at h
     ·rename_i hf
      refine .tp λt ht=>?_;rcases aiB.mp ht with rfl|ht
      ·exact .at (Xx hf)
      ·exact Xz h ih t ht
     ·cases h
theorem Je {n:Nat}{t:T}(h:Tr n t):t.sz<=iT (iC t)/\iT (iC t)<=34*t.sz:=by
 induction h with
 |@«at» n t A=>
  refine⟨?_,?_⟩
  ·have:=QL t
   cases t with
   |tup l=>exact absurd rfl (A.nt l)
   |int i=>simp only[T.sz];omega
   |str z=>simp only[T.sz];omega
  ·have:=vf A
   have:=xr t;omega
 |@tp n l _ ih=>
  have all:∀l':List T,(∀t∈l',t∈l)->d9 l'<=iT (cW l')/\iT (cW l')<=34*d9 l':=by
   intro l'
   induction l' with
   |nil=>intro _;simp[d9,cW,iT]
   |cons t l' ih2=>
    intro hl;have h1:=ih t (hl t (by simp));have h2:=ih2 λx hx=>hl x (air _ hx);rw[cW,jl];simp only[d9];omega
  have:=all l λ_ h=>h;rw[gq];simp only[T.sz];omega
structure Gd (f:T->Bool)(n B:Nat)(t:T):Prop where
 b:f t=true
 tr:Tr n t
 sz:t.sz<=B
def Zv (f:T->Bool)(n B:Nat):Sp:=λvs H Q _=>∃(st:Addr),vs=[.ref st]/\gj H st/\∀v t H',Gd f n B t->Rep H' v t->cP st H H'->Q v H'
theorem Lb {z:Str}(h:bJ z=true):Gd vC 0 1 (.str z):=⟨h, .at (gM h),aio _⟩
theorem adi {z:Str}(h:iz z=true):Gd K3 0 1 (.str z):=⟨h, .at (xU h),aio _⟩
theorem z8 {n:Nat}{t:T}(h:Good jw t)(hz:t.sz<=BK n):Gd kindB (BK n) (BK n) t:=⟨xZ h,(Q6 h).mono hz,hz⟩
theorem yw {n:Nat}{t:T}(h:GP (n+1) t)(hz:t.sz<=BP n):Gd gw (3*n+3) (BP n) t:=⟨xZ h.good,(Uk h).mono (by omega),hz⟩
theorem tQ {f:T->Bool}{n B:Nat}{ts:List T}(h:∀t∈ts,Gd f n B t):ts.all f=true:=ajq.mpr λt ht=>(h t ht).b
theorem z9 {f:T->Bool}{lo hi n B m:Nat}{ts:List T}(h:∀t∈ts,Gd f n B t)(h1:lo<=ts.length)(h2:ts.length<=hi)(hm:1+hi*B<=m):Gd (cI lo hi f) (n+1) m (.tup ts):=by
 refine⟨?_, .tp λt ht=>(h t ht).tr,?_⟩
 ·show(cA lo hi ts&&ts.all f)=true
  rw[tQ h];simp[cA];omega
 ·have s1:=oN λt ht=>(h t ht).sz
  have s2:ts.length*B<=hi*B:=aiT _ h2;simp only[T.sz];omega
theorem lB {p:T->Prop}{l:List T}{a:T}(h:∀t∈l,p t)(ha:p a):∀t∈l++[a],p t:=λt ht=>by
 rcases List.mem_append.mp ht with h1|h1
 ·exact h t h1
 ·rw[List.mem_singleton.mp h1];exact ha
theorem Dh {lo:Int}{m:Nat}{te:TE}{U':L2.St}{Q:VK}{H:Hp}{st:Addr}(p:T->Prop)(Eo:gj H st)(hm:m<=1000)
  (hs:∀(i:Nat) (H':Hp) (R:VK),i<m->gj H' st->(∀v t H2,p t->Rep H2 v t->cP st H' H2->R v H2)->te (some (.int (lo+i))::U') H' R)
  (hq:∀l vs ts H',H' l=some (.lst vs)->cB H' vs ts->ts.length=m->(∀t∈ts,p t)->cP st H H'->Q (.ref l) H'):Fg (Itr lo m) V3 te U' Q H:=by
 refine qL (λi vs H'=>cP st H H'/\∃ts,cB H' vs ts/\ts.length=i/\∀t∈ts,p t) ⟨cP.refl Eo,[], .nil,rfl,λ_ h=>by cases h⟩ ?_ ?_ ?_
 ·rintro i vs H' hi ⟨g,ts,hr1,hl,_⟩
  exact fH (by rw[hr1.length,hl];omega)
 ·rintro i vs H' hi ⟨g,ts,hr1,hl,hg⟩
  refine Zn (dM ?_);exact hs i H' _ hi g.ok λv1 t1 H7 k1 r1 g7=>nx hi ⟨g.trans g7,ts++[t1],(hr1.grow g7 g.ok).append (.cons r1 .nil),by simp[hl],lB hg k1⟩
 ·rintro vs H' ⟨g,ts,hr1,hl,hg⟩ l hl'
  exact hq l vs ts _ bf (hr1.same (bw hl' _)) hl hg (g.trans (cG g.ok hl'))
theorem o9 {K:PySem.W.Frag}{p a:Addr}{hv us:List V}{hts ts:List T}{H:Hp}{Q:VK}(hp:H p=some (.tup hv))(rp:cB H hv hts)(hn:hv≠[])(ha:H a=some (.tup us))(ra:cB H us ts)
  (hb:hv.length+ts.length<=1000) (q:∀p' H',Rep H' (.ref p') (.tup (hts++ts))->Same H H'->Q (.ref p') H'):yN K (.ref p) (.ref a) H Q:=by
 have lu:=ra.length;refine⟨p,a,hv,us,rfl,rfl,dY.of hp,dY.of ha,hn,small (by omega),λe=>?_,λ_ p' hp'=>?_⟩
 ·have e2:ts=[]:=by
   rw[e]at lu;exact List.length_eq_zero_iff.mp (by simpa using lu.symm)
  subst e2;refine q p H ?_ (Same.refl H);rw[ai2];exact .tup hp rp
 ·exact q p' _ (.tup bf ((rp.append ra).same (bw hp' _))) (bw hp' _)
theorem Ld {st l:Addr}{H H3 H8:Hp}{vs:List V}{ts:List T}{v:V}{t:T}(hl:H l=none)(dl:l≠st)(g3:cP st H H3)(hl3:H3 l=some (.lst vs))(r3:cB H3 vs ts)(g8:cP st H3 H8)(r8:Rep H8 v t):
  H8 l=some (.lst vs)/\cB (upd H8 l (.lst (vs++[v]))) (vs++[v]) (ts++[t])/\cP st H (upd H8 l (.lst (vs++[v]))):=by
 have Xq:H8 l=some (.lst vs):=g8.1 _ _ dl hl3;have oZ:∀b xs,H8 b=some (.tup xs)->(upd H8 l (.lst (vs++[v]))) b=some (.tup xs):=λb xs h=>by
  rw[bI (uJ h Xq (by intro z;cases z))];exact h
 refine⟨Xq,((r3.grow g8 g3.ok).append (.cons r8 .nil)).mono oZ,λb o h1 hb=>?_,?_⟩
 ·rw[bI (cY hb hl)]
  exact(g3.trans g8).1 b o h1 hb
 ·obtain⟨ns,k1,k2,k3⟩:=g8.ok
  exact⟨ns,k1,k2,by rw[bI (Ne.symm dl)];exact k3⟩
section
variable {P:Program}{w:World}{K:PySem.W.Frag}{mg:Str->Option Value}{aN:Heap}{f:Addr}{fd:FuncData}
abbrev Aa:Stmt:=top 103
abbrev Di:Stmt:=top 104
abbrev jH:Stmt:=top 105
abbrev nA:Stmt:=top 106
theorem XC:bG ["_law_state"] ["_law_state"] (bA Aa):=⟨rfl,rfl,rfl,by decide+kernel,rfl,by decide+kernel,by decide+kernel⟩
theorem XD (F:eV K "_law_given" "_law_given" Aa f fd)(mr:mg "range"=none)(mt:mg "tuple"=none)(h0:Has P w K mg aN 1 "_law_next" ["_law_state","_law_many"] eE)(h3:Has P w K mg aN 3 "_law_great" ["_law_state"] (dD λz=>bJ z=true)):
  cj P w K mg aN eY 4 f fd ["_law_state"] (Zv iJ 1 4):=by
 refine F.ok XC (len:=λvs H Q E h=>(by obtain⟨st,rfl,_⟩:=h;rfl)) (λcX A aM s H vs Q E hr h=>?_);obtain⟨st,rfl,hs,q⟩:=h;refine⟨_,bx (cF (bL cN (bB h0 hr (by decide) rfl (aW (pv 0) (aW aY aX))) aY (bM _)) (bh (bD (bB h3 hr (by decide) rfl (aW (pv 0) aX)))) bK)
  (bh (bD (cC cJ rfl mt boot_tuple (aW (pR (bA Aa) ["_law_state"] ["_law_state"] [0] (by decide+kernel) (dw rfl mr (aW (bY gQ aY (bB h0 hr (by decide) rfl (aW (pv 0) (aW aY aX)))) aX)) (λC s₀ H₀ ex=>ji)
   (λC s₀ H₀ ex=>bB h3 hr (by decide) rfl (aW (pv 1) aX))) aX)))),?_⟩
 refine⟨_,rfl,st,2,rfl,hs,by decide,by decide,λd H1 d0 d1 g1=>⟨rfl,_,rfl,?_⟩⟩;refine ig (λ_=>?_) (λ_=>?_)
 ·refine⟨_,rfl,st,rfl,g1.ok,λz H2 hz lz g2=>q _ (.str z) H2 ⟨?_, .at (gM hz),(by show 1<=4;decide)⟩ (.str z (by omega)) (g1.trans g2)⟩
  show(bJ z||_)=true;rw[hz];rfl
 ·refine⟨_,rfl,st,2,rfl,g1.ok,by decide,by decide,λe H2 e0 e1 g2=>⟨2,e,rfl,rfl,2+e,rfl,by omega,by omega,?_⟩⟩
  refine Dh (Gd vC 0 1) g2.ok (by omega) (λi H' R hi h' r=>⟨_,rfl,st,rfl,h',λz H3 hz lz g3=>r _ _ _ (Lb hz) (.str z (by omega)) g3⟩) (λl vs ts H3 hl r3 l3 p3 g3=>?_);refine⟨l,vs,rfl, .inl ⟨dX.of hl,λp hp=>?_⟩⟩;have gl:Gd (cI 2 3 vC) 1 4 (.tup ts):=z9 p3 (by omega) (by omega) (by decide);refine q _ (.tup ts) _ ⟨?_,gl.tr,gl.sz⟩ (.tup bf (r3.same (bw hp _))) (((g1.trans g2).trans g3).trans (cG g3.ok hp));show(vC (.tup ts)||cI 2 3 vC (.tup ts))=true;rw[gl.b,Bool.or_true]
def tR (lo:Nat):Sp:=λvs H Q _=>∃(st:Addr),vs=[.ref st, .int lo]/\lo<=1/\gj H st/\∀v t H',Gd (cI lo 2 jV) 3 20 t->Rep H' v t->cP st H H'->Q v H'
theorem yx:bG ["_law_state","_law_least","_law_givers_here","_law_k"] ["_law_state","_law_least"] (bA Di):=⟨rfl,rfl,rfl,by decide+kernel,rfl,by decide+kernel,by decide+kernel⟩
theorem Gp {lo:Nat}(F:eV K "_law_givers" "_law_givers" Di f fd)(mr:mg "range"=none)(mt:mg "tuple"=none)(h0:Has P w K mg aN 1 "_law_next" ["_law_state","_law_many"] eE)(h3:Has P w K mg aN 3 "_law_great" ["_law_state"] (dD λz=>bJ z=true))
  (h4:Has P w K mg aN 4 "_law_given" ["_law_state"] (Zv iJ 1 4)):cj P w K mg aN eY 5 f fd ["_law_state","_law_least"] (tR lo):=by
 refine F.ok yx (len:=λvs H Q E h=>(by obtain⟨st,rfl,_⟩:=h;rfl)) (λcX A aM s H vs Q E hr h=>?_);obtain⟨st,rfl,hlo,hs,q⟩:=h;refine⟨_,bx (cZ (i:=2) yx.nd rfl (Or.inl rfl) (dj aX))
  (bx (jR PassesOwn.never rfl (dw rfl mr (aW (bY gQ (pv 1) (bB h0 hr (by decide) rfl (aW (pv 0) (aW (bY pA aY (pv 1)) aX)))) aX)) (eO (i:=3) yx.nd rfl (Or.inl rfl))
   (bh (fj (jX aiA aiK aiL iW (pv 2) (aW (cO (aW (bB h3 hr (by decide) rfl (aW (pv 0) aX)) (aW (bB h4 hr (by decide) rfl (aW (pv 0) aX)) aX))) aX)))))
  (bh (bD (cC cJ rfl mt boot_tuple (aW (pv 2) aX))))),?_⟩
 refine⟨aiP _,λl hl=>?_⟩;have dl:l≠st:=fZ hs hl;have g1:cP st H (upd H l (.lst [])):=cG hs hl;refine⟨_,rfl,_,rfl,_,rfl,_,_,rfl,rfl,st,(3:Int)-lo,rfl,g1.ok,by omega,by omega,λe H2 e0 e1 g2=>?_⟩;refine⟨lo,e,rfl,rfl,lo+e,rfl,by omega,by omega,fW (n:=((lo:Int)+e).toNat) (λi U H'=>∃(o:Option V) (vs:List V) (ts:List T),U=[some (.ref st),some (.int lo),some (.ref l),o]/\H' l=some (.lst vs)/\cB H' vs ts/\ts.length=i/\(∀t∈ts,Gd jV 2 6 t)/\cP st H H')
  ⟨none,[],[],rfl,g2.1 _ _ dl bf, .nil,rfl,(λ_ h=>by cases h),g1.trans g2⟩ ?_ ?_⟩
 ·rintro i U H3 hi ⟨o,vs,ts,rfl,hl3,r3,l3,gP,g3⟩
  refine⟨_,rfl, .inl ⟨rfl,_,dX.of hl3⟩,?_⟩;refine⟨_,rfl,st,rfl,g3.ok,λz1 H4 hz1 lz1 g4=>⟨_,rfl,st,rfl,g4.ok,λv2 t2 H5 k2 r2 g5=>⟨small (by show 2<=1000000;decide),λp hp=>?_⟩⟩⟩;have g6:cP st H5 (upd H5 p (.tup [.str z1,v2])):=cG g5.ok hp;obtain⟨a1,a2,a3⟩:=Ld (t:=.tup [.str z1,t2]) hl dl g3 hl3 r3 ((g4.trans g5).trans g6) (.tup bf (.cons (.str z1 (by omega)) (.cons (r2.same (bw hp _)) .nil)));have lv:=r3.length;refine⟨l,vs, .ref p,rfl,rfl,a1,fH (by omega),?_⟩;refine⟨_,_,ts++[.tup [.str z1,t2]],rfl,bf,a2,by simp[l3],lB gP ⟨?_, .tp ?_,?_⟩,a3⟩
  ·show(cA 2 2 [T.str z1,t2]&&(bJ z1&&iJ t2))=true
   rw[hz1,k2.b];rfl
  ·intro t ht
   simp only[aiB,aiz,or_false]at ht;rcases ht with rfl|rfl
   ·exact .at (gM hz1)
   ·exact k2.tr
  ·have:=k2.sz
   simp only[T.sz,d9];omega
 ·rintro U H3 ⟨o,vs,ts,rfl,hl3,r3,l3,gP,g3⟩
  refine⟨_,rfl,l,vs,rfl, .inl ⟨dX.of hl3,λp hp=>?_⟩⟩;exact q _ (.tup ts) _ (z9 gP (by omega) (by omega) (by decide)) (.tup bf (r3.same (bw hp _))) (g3.trans (cG g3.ok hp))
def Dj (m:Nat):Sp:=λvs H Q _=>∃(st:Addr),vs=[.ref st, .int m]/\gj H st/\∀v t H',Gd (cI 0 m K3) 1 (1+m) t->Rep H' v t->cP st H H'->Q v H'
theorem wG:bG ["_law_state","_law_most"] ["_law_state","_law_most"] (bA jH):=⟨rfl,rfl,rfl,by decide+kernel,rfl,by decide+kernel,by decide+kernel⟩
theorem pq {m:Nat}(hm:m<=3)(F:eV K "_law_some_variables" "_law_some_variables" jH f fd)(mr:mg "range"=none)(mt:mg "tuple"=none)(h0:Has P w K mg aN 1 "_law_next" ["_law_state","_law_many"] eE)(h3:Has P w K mg aN 3 "_law_variable" ["_law_state"] (dD λz=>iz z=true)):
  cj P w K mg aN eY 4 f fd ["_law_state","_law_most"] (Dj m):=by
 refine F.ok wG (len:=λvs H Q E h=>(by obtain⟨st,rfl,_⟩:=h;rfl)) (λcX A aM s H vs Q E hr h=>?_);obtain⟨st,rfl,hs,q⟩:=h;refine⟨_,bh (bD (cC cJ rfl mt boot_tuple (aW (pR (bA jH) ["_law_state","_law_most"] ["_law_state"] [0] (by decide+kernel) (dw rfl mr (aW (bB h0 hr (by decide) rfl (aW (pv 0) (aW (bY gQ (pv 1) aY) aX))) aX)) (λC s₀ H₀ ex=>ji)
   (λC s₀ H₀ ex=>bB h3 hr (by decide) rfl (aW (pv 1) aX))) aX))),?_⟩
 refine⟨_,rfl,_,rfl,_,_,rfl,rfl,st,(m:Int)+1,rfl,hs,by omega,by omega,λe H2 e0 e1 g2=>⟨e,rfl,by omega,by omega,?_⟩⟩;refine Dh (Gd K3 0 1) g2.ok (by omega) (λi H' R hi h' r=>⟨_,rfl,st,rfl,h',λz H3 hz lz g3=>r _ _ _ (adi hz) (.str z (by omega)) g3⟩) (λl vs ts H3 hl r3 l3 p3 g3=>?_);refine⟨l,vs,rfl, .inl ⟨dX.of hl,λp hp=>?_⟩⟩;exact q _ (.tup ts) _ (z9 p3 (by omega) (by omega) (by omega)) (.tup bf (r3.same (bw hp _))) ((g2.trans g3).trans (cG g3.ok hp))
def Jf:Sp:=λvs H Q _=>∃(st:Addr) (m:Nat),vs=[.ref st, .int m]/\m<=4/\gj H st/\∀a us ts H',H' a=some (.tup us)->cB H' us ts->ts.length=m->(∀t∈ts,Gd kindB 17 17 t)->cP st H H'->Q (.ref a) H'
theorem Eh:bG ["_law_state","_law_many"] ["_law_state","_law_many"] (bA nA):=⟨rfl,rfl,rfl,by decide+kernel,rfl,by decide+kernel,by decide+kernel⟩
theorem Ei (F:eV K "_law_some_kinds" "_law_some_kinds" nA f fd)(mr:mg "range"=none)(mt:mg "tuple"=none)(h3:Has P w K mg aN 8 "_law_kind" ["_law_state","_law_deep"] (o8 3)):
  cj P w K mg aN eY 9 f fd ["_law_state","_law_many"] Jf:=by
 refine F.ok Eh (len:=λvs H Q E h=>(by obtain⟨st,m,rfl,_⟩:=h;rfl)) (λcX A aM s H vs Q E hr h=>?_);obtain⟨st,m,rfl,hm,hs,q⟩:=h;refine⟨_,bh (bD (cC cJ rfl mt boot_tuple (aW (pR (bA nA) ["_law_state","_law_many"] ["_law_state"] [0] (by decide+kernel) (dw rfl mr (aW (pv 1) aX)) (λC s₀ H₀ ex=>ji)
   (λC s₀ H₀ ex=>bB h3 hr (by decide) rfl (aW (pv 1) (aW aY aX)))) aX))),?_⟩
 refine⟨_,rfl,m,rfl,by omega,by omega,?_⟩;refine Dh (Gd kindB 17 17) hs (by omega) (λi H' R hi h' r=>⟨_,rfl,st,rfl,h',λv t H3 hg rt hz g3=>r _ _ _ (z8 (n:=2) hg hz) rt g3⟩) (λl vs ts H3 hl r3 l3 p3 g3=>?_);refine⟨l,vs,rfl, .inl ⟨dX.of hl,λp hp=>?_⟩⟩;exact q _ vs ts _ bf (r3.same (bw hp _)) (by simpa using l3) p3 (g3.trans (cG g3.ok hp))
end
theorem Ov {K:PySem.W.Frag}{x y:Int}{p:Addr}{H:Hp}{Q:VK}{b:Bool}(hp:H p=some (.lst [.int x, .int y]))(hq:∀n,n=x\/n=y->Q (.int n) H):VG K (.ref p) (.int (if b then 1 else 0)) H Q:=by
 cases b
 ·exact⟨p,_,0, .int x,rfl,rfl,dX.of hp,eF (j:=0) rfl,hq x (.inl rfl)⟩
 ·exact⟨p,_,1, .int y,rfl,rfl,dX.of hp,eF (j:=1) rfl,hq y (.inr rfl)⟩
theorem Ow {st lf l:Addr}{H H3 H8:Hp}{vs:List V}{ts:List T}{v:V}{t:T}(hl:H l=none)(dl:l≠st/\l≠lf)(g3:cU st lf H H3)(hl3:H3 l=some (.lst vs))(r3:cB H3 vs ts)(g8:cU st lf H3 H8)(r8:Rep H8 v t):
  H8 l=some (.lst vs)/\cB (upd H8 l (.lst (vs++[v]))) (vs++[v]) (ts++[t])/\cU st lf H (upd H8 l (.lst (vs++[v]))):=by
 have Xq:H8 l=some (.lst vs):=g8.1 _ _ dl.1 dl.2 hl3;have oZ:∀b xs,H8 b=some (.tup xs)->(upd H8 l (.lst (vs++[v]))) b=some (.tup xs):=λb xs h=>by
  rw[bI (uJ h Xq (by intro z;cases z))];exact h
 refine⟨Xq,((r3.oM g8 g3.2).append (.cons r8 .nil)).mono oZ,λb o h1 h2 hb=>?_,g8.2.ne,?_,?_⟩
 ·rw[bI (cY hb hl)]
  exact(g3.trans g8).1 b o h1 h2 hb
 ·obtain⟨ns,k1,k2,k3⟩:=g8.2.st
  exact⟨ns,k1,k2,by rw[bI (Ne.symm dl.1)];exact k3⟩
 ·obtain⟨j,k1⟩:=g8.2.lf
  exact⟨j,by rw[bI (Ne.symm dl.2)];exact k1⟩
theorem tr2 {n:Nat}{a b:T}(ha:Tr n a)(hb:Tr n b):Tr (n+1) (.tup [a,b]):=.tp λt ht=>by
 simp only[aiB,aiz,or_false]at ht;rcases ht with rfl|rfl<;>assumption
theorem tr3 {n:Nat}{a b c:T}(ha:Tr n a)(hb:Tr n b)(hc:Tr n c):Tr (n+1) (.tup [a,b,c]):=.tp λt ht=>by
 simp only[aiB,aiz,or_false]at ht;rcases ht with rfl|rfl|rfl<;>assumption
theorem tr4 {n:Nat}{a b c d:T}(ha:Tr n a)(hb:Tr n b)(hc:Tr n c)(hd:Tr n d):Tr (n+1) (.tup [a,b,c,d]):=.tp λt ht=>by
 simp only[aiB,aiz,or_false]at ht;rcases ht with rfl|rfl|rfl|rfl<;>assumption
theorem Dk {n:Nat}{a b:List T}(ha:Tr (n+1) (.tup a))(hb:∀t∈b,Tr n t):Tr (n+1) (.tup (a++b)):=.tp λt ht=>by
 cases ha with
 |«at» A=>exact absurd rfl (A.nt _)
 |tp h=>
  rcases List.mem_append.mp ht with h1|h1
  ·exact h t h1
  ·exact hb t h1
theorem mj {z:Str}(h:z∈ju){n:Nat}:Tr n (.str z):=.at (qT h)
theorem wH {z:Str}{n:Nat}{r:List T}(h:dO.lookup z=some n)(h2:lq n (.tup (.str z::r))=true):dJ (.tup (.str z::r))=true:=by
 show(match dO.lookup z with|some n=>lq n (.tup (.str z::r))|none=>false)=true;rw[h];exact h2
theorem XF {z:Str}{ks:List T}(hz:bJ z=true)(hk:∀t∈ks,Gd kindB 17 17 t)(hl:ks.length<=4):Gd zE 18 70 (.tup ([.str z]++ks)):=by
 refine⟨?_,Dk (.tp λt ht=>?_) λt ht=>(hk t ht).tr,?_⟩
 ·show(cA 1 5 (T.str z::ks)&&(bJ z&&ks.all kindB))=true
  rw[hz,tQ hk];simp[cA];omega
 ·rw[List.mem_singleton.mp ht]
  exact .at (gM hz)
 ·have s1:=oN λt ht=>(hk t ht).sz
  have s2:ks.length*17<=4*17:=aiT _ hl;simp only[T.sz,d9,ai0,aje];omega
theorem XH {z:Str}{t:T}(hz:nameB z=true)(hk:Gd kindB 17 17 t):Gd oK 18 19 (.tup [.str z,t]):=by
 refine⟨?_,tr2 (.at (iD hz)) hk.tr,?_⟩
 ·show(cA 2 2 [T.str z,t]&&(nameB z&&kindB t))=true
  rw[hz,hk.b];rfl
 ·have:=hk.sz
  simp only[T.sz,d9];omega
theorem Q7:dO.lookup ("kind":Str)=some 0:=by decide+kernel
theorem Ul:dO.lookup ("record":Str)=some 1:=by decide+kernel
theorem aaI:dO.lookup ("face":Str)=some 2:=by decide+kernel
theorem aaJ:dO.lookup ("part":Str)=some 3:=by decide+kernel
theorem XJ:dO.lookup ("maker":Str)=some 4:=by decide+kernel
theorem XM:dO.lookup ("apply":Str)=some 5:=by decide+kernel
theorem Jg {w z:Str}{d most B:Nat}{zF:T->Bool}{vt:T}{aP:List T}(hw:dO.lookup w=some d)(hf:lq d=Gf most zF)(hk:w∈ju)(hz:nameB z=true)(hv:Gd (cI 0 3 K3) 1 4 vt)(hr:∀t∈aP,Gd zF 18 B t)(h1:1<=aP.length)(h2:aP.length<=most)(hB:7+most*B<=90500):
  Gd dJ 20 90500 (.tup ([.str w, .str z,vt]++aP)):=by
 refine⟨wH hw ?_,?_,?_⟩
 ·rw[hf]
  show(!(decide (((aP.length+1+1+1:Nat):Int)<3)|| !(nameB z))&&(cI 0 3 K3 vt&&(cA 1 most aP&&aP.all zF)))=true;rw[hz,hv.b,tQ hr,decide_eq_false (by omega)];simp[cA];omega
 ·exact(Dk (tr3 (mj hk) (.at (iD hz)) (hv.tr.mono (by omega))) λt ht=>(hr t ht).tr).mono (by omega:18+1<=20)
 ·have s1:=oN λt ht=>(hr t ht).sz
  have s2:aP.length*B<=most*B:=aiT _ h2;have:=hv.sz;simp only[T.sz,d9,ai0,aje];omega
section
variable {P:Program}{w:World}{K:PySem.W.Frag}{mg:Str->Option Value}{aN:Heap}{f:Addr}{fd:FuncData}
abbrev Jh:Stmt:=top 107
abbrev Ox:Stmt:=top 108
abbrev Oz:Stmt:=top 109
abbrev rK:Stmt:=top 110
abbrev nS:List Str:=["_law_state","_law_rows","_law_k","_law_fields"]
theorem Ab:bG nS ["_law_state"] (bA Jh):=⟨rfl,rfl,rfl,by decide+kernel,rfl,by decide+kernel,by decide+kernel⟩
set_option maxHeartbeats 1000000 in
theorem aaK (F:eV K "_law_sort" "_law_sort" Jh f fd)(mr:mg "range"=none)(mt:mg "tuple"=none)(mi:mg "int"=none)(h0:Has P w K mg aN 1 "_law_next" ["_law_state","_law_many"] eE)(h2:Has P w K mg aN 3 "_law_small" ["_law_state"] (dD λz=>nameB z=true))(h3:Has P w K mg aN 3 "_law_great" ["_law_state"] (dD λz=>bJ z=true))
  (h4:Has P w K mg aN 4 "_law_some_variables" ["_law_state","_law_most"] (Dj 3)) (h5:Has P w K mg aN 9 "_law_some_kinds" ["_law_state","_law_many"] Jf) (h6:Has P w K mg aN 8 "_law_kind" ["_law_state","_law_deep"] (o8 3)):
  cj P w K mg aN eY 10 f fd ["_law_state"] (Zv dJ 20 90500):=by
 refine F.ok Ab (len:=λvs H Q E h=>(by obtain⟨st,rfl,_⟩:=h;rfl)) (λcX A aM s H vs Q E hr h=>?_);obtain⟨st,rfl,hs,q⟩:=h;refine⟨_,bx (cF (bL cN (bB h0 hr (by decide) rfl (aW (pv 0) (aW aY aX))) aY (bM _))
   (bx (cZ (i:=1) Ab.nd rfl (Or.inl rfl) (dj aX))
   (bx (jR PassesOwn.never rfl (dw rfl mr (aW (bY gQ aY (bB h0 hr (by decide) rfl (aW (pv 0) (aW aY aX)))) aX)) (eO (i:=2) Ab.nd rfl (Or.inl rfl))
    (bh (fj (jX aiA aiK aiL iW (pv 1) (aW (bY d7 (cO (aW (bB h3 hr (by decide) rfl (aW (pv 0) aX)) aX))
     (bB h5 hr (by decide) rfl (aW (pv 0) (aW (bB h0 hr (by decide) rfl (aW (pv 0) (aW (bU fG (dj (aW aY (aW aY aX))) (cC pO rfl mi nO (aW (dR cN (pv 2) aY (bM _)) aX)) (λ_ _=>rfl)) aX))) aX)))) aX)))))
   (bh (bD (bY d7 (cO (aW bQ (aW (bB h2 hr (by decide) rfl (aW (pv 0) aX)) (aW (bB h4 hr (by decide) rfl (aW (pv 0) (aW aY aX))) aX)))) (cC cJ rfl mt boot_tuple (aW (pv 1) aX))))))) bK)
  (bx (afb (bA Jh) nS ["_law_state"] [0] (by decide+kernel) (dw rfl mr (aW (bY gQ aY (bB h0 hr (by decide) rfl (aW (pv 0) (aW aY aX)))) aX)) (eO (i:=3) Ab.nd rfl (Or.inl rfl)) (λC s₀ H₀ ex=>ji)
    (λC s₀ H₀ ex=>cO (aW (bB h2 hr (by decide) rfl (aW (pv 1) aX)) (aW (bB h6 hr (by decide) rfl (aW (pv 1) (aW aY aX))) aX))) rfl)
  (bh (bD (bY d7 (cO (aW bQ (aW (bB h2 hr (by decide) rfl (aW (pv 0) aX)) (aW (bB h4 hr (by decide) rfl (aW (pv 0) (aW aY aX))) aX)))) (cC cJ rfl mt boot_tuple (aW (pv 3) aX)))))),?_⟩
 refine⟨_,rfl,st,2,rfl,hs,by decide,by decide,λd H1 d0 d1 g1=>⟨rfl,_,rfl,?_⟩⟩;refine ig (λ_=>?_) (λ_=>?_)
 ·refine⟨aiP _,λl hl=>?_⟩
  have dl:l≠st:=fZ g1.ok hl;have g2:cP st H1 (upd H1 l (.lst [])):=cG g1.ok hl;refine⟨_,rfl,st,6,rfl,g2.ok,by omega,by omega,λe H2 e0 e1 g3=>?_⟩;refine⟨1,e,rfl,rfl,1+e,rfl,by omega,by omega,fW (n:=(1+e).toNat) (λi U H'=>∃(o u:Option V) (vs:List V) (ts:List T),U=[some (.ref st),some (.ref l),o,u]/\H' l=some (.lst vs)/\cB H' vs ts/\ts.length=i/\(∀t∈ts,Gd zE 18 70 t)/\cP st H1 H')
   ⟨none,none,[],[],rfl,g3.1 _ _ dl bf, .nil,rfl,(λ_ h=>by cases h),g2.trans g3⟩ ?_ ?_⟩
  ·rintro i U H3 hi ⟨o,u,vs,ts,rfl,hl3,r3,l3,gP,g3⟩
   refine⟨_,rfl, .inl ⟨rfl,_,dX.of hl3⟩,?_⟩;refine⟨_,rfl,st,rfl,g3.ok,λz1 H4 hz1 lz1 g4=>⟨small (by show 1<=1000000;decide),λp hp=>?_⟩⟩;have g5:cP st H4 (upd H4 p (.tup [.str z1])):=cG g4.ok hp;refine⟨_,rfl,_,rfl,small (by show 2<=1000000;decide),λp2 hp2=>⟨_,rfl,rfl, .inr ⟨_,rfl,?_⟩⟩⟩;have g6:=cG (o:=.lst [.int 2, .int 5]) g5.ok hp2;refine Ov bf λn hn=>?_;refine⟨st,n,rfl,g6.ok,by omega,by omega,λk H5 k0 k1 g7=>?_⟩;obtain⟨m,rfl⟩:∃m:Nat,k=m:=⟨k.toNat,by omega⟩;refine⟨st,m,rfl,by omega,g7.ok,λa us ks H6 ha ra la ka g8=>?_⟩;have g68:=(g6.trans g7).trans g8;have hp6:H6 p=some (.tup [.str z1]):=g68.tups g5.ok _ _ bf;refine o9 (hts:=[.str z1]) hp6 (.cons (.str z1 (by omega)) .nil) (by simp) ha ra (by simp;omega) λp' H7 r7 e7=>?_;obtain⟨a1,a2,a3⟩:=Ld hl dl g3 hl3 r3 (((g4.trans g5).trans g68).trans (cH g68.ok e7)) r7;have lv:=r3.length;refine⟨l,vs, .ref p',rfl,rfl,a1,fH (by omega),?_⟩;exact⟨_,_,_,ts++[.tup ([.str z1]++ks)],rfl,bf,a2,by simp[l3],lB gP (XF hz1 ka (by omega)),a3⟩
  ·rintro U H3 ⟨o,u,vs,ts,rfl,hl3,r3,l3,gP,g3⟩
   refine⟨_,rfl,st,rfl,g3.ok,λz H4 hz lz g4=>⟨_,rfl,st,rfl,g4.ok,λvv vt H5 kv rv g5=>⟨small (by show 3<=1000000;decide),λp hp=>?_⟩⟩⟩;have g6:cP st H5 (upd H5 p (.tup [.str "kind", .str z,vv])):=cG g5.ok hp;have vQ:=(g4.trans g5).trans g6;refine⟨_,rfl,l,vs,rfl, .inl ⟨dX.of (vQ.1 _ _ dl hl3),λp2 hp2=>?_⟩⟩;have e7:=bw hp2 (.tup vs);refine o9 (hts:=[.str "kind", .str z,vt]) (e7 _ _ bf) (.cons (.str _ (by decide+kernel)) (.cons (.str z (by omega)) (.cons (rv.same ((bw hp _).trans e7)) .nil))) (by simp) bf ((r3.grow vQ g3.ok).same e7) (by simp;omega) λp' H7 r7 e8=>?_;refine q _ _ _ (Jg (B:=70) (most:=6) (zF:=zE) Q7 rfl (by decide+kernel) hz kv gP (by omega) (by omega) (by decide)) r7 ((g1.trans g3).trans (vQ.trans (cH vQ.ok (e7.trans e8))))
 ·refine⟨_,rfl,st,4,rfl,g1.ok,by omega,by omega,λe H2 e0 e1 g2=>⟨1,e,rfl,rfl,1+e,rfl,by omega,by omega,?_⟩⟩
  refine Dh (Gd oK 18 19) g2.ok (by omega) (λi H' R hi h' r=>⟨_,rfl,st,rfl,h',λz H3 hz lz g3=>⟨_,rfl,st,rfl,g3.ok,λv t H4 hg rt hz4 g4=>⟨small (by show 2<=1000000;decide),λp hp=>r _ _ _ (XH hz (z8 (n:=2) hg hz4)) (.tup bf (.cons (.str z (by omega)) (.cons (rt.same (bw hp _)) .nil))) ((g3.trans g4).trans (cG g4.ok hp))⟩⟩⟩) (λl vs ts H3 hl r3 l3 p3 g3=>?_);have dl:l≠st:=λe=>by
   subst e;obtain⟨ns,h1,_,h2⟩:=g3.ok;rw[hl]at h2;have h3:=HO.lst.inj (Option.some.inj h2);rw[h3]at r3;cases ns with
   |nil=>exact h1 rfl
   |cons a b=>
    cases r3 with
    |cons x y=>
     rename_i t ts
     have:=(p3 t (by simp)).b;cases x;cases this
  refine⟨_,rfl,st,rfl,g3.ok,λz H4 hz lz g4=>⟨_,rfl,st,rfl,g4.ok,λvv vt H5 kv rv g5=>⟨small (by show 3<=1000000;decide),λp hp=>?_⟩⟩⟩;have g6:cP st H5 (upd H5 p (.tup [.str "record", .str z,vv])):=cG g5.ok hp;have vQ:=(g4.trans g5).trans g6;refine⟨_,rfl,l,vs,rfl, .inl ⟨dX.of (vQ.1 _ _ dl hl),λp2 hp2=>?_⟩⟩;have e7:=bw hp2 (.tup vs);refine o9 (hts:=[.str "record", .str z,vt]) (e7 _ _ bf) (.cons (.str _ (by decide+kernel)) (.cons (.str z (by omega)) (.cons (rv.same ((bw hp _).trans e7)) .nil))) (by simp) bf ((r3.grow vQ g3.ok).same e7) (by simp;omega) λp' H7 r7 e8=>?_;refine q _ _ _ (Jg (B:=19) (most:=4) (zF:=oK) Ul rfl (by decide+kernel) hz kv p3 (by omega) (by omega) (by decide)) r7 (((g1.trans g2).trans g3).trans (vQ.trans (cH vQ.ok (e7.trans e8))))
end
theorem Um {z:Str}{k:Int}(hz:nameB z=true)(k0:0<=k)(k3:k<3):Gd rT 18 20 (.tup [.str "hide", .str z, .int k]):=by
 refine⟨?_,tr3 (mj (by decide+kernel)) (.at (iD hz)) (.at (xV (by omega) (by omega))),(by show 4<=20;decide)⟩;have e:isW "hide" (.str "hide")=true:=by decide+kernel
 show(!(!(cA 3 3 [T.str "hide", .str z, .int k])|| !(nameB z))&&(if isW "hide" (.str "hide")=true then(uF (.int k)&&(decide (0<=k)&&decide (k<=2))) else _))=true;rw[hz,if_pos e];have e1:uF (.int k)=true:=by
  show decide ((if k<0 then -k else k)<10^30)=true;rw[if_neg (by omega)];exact decide_eq_true (by omega)
 rw[e1,decide_eq_true k0,decide_eq_true (by omega:k<=2)]
 rfl
theorem XQ {z:Str}{t:T}(hz:nameB z=true)(hk:Gd kindB 17 17 t):Gd rT 18 20 (.tup [.str "val", .str z,t]):=by
 refine⟨?_,tr3 (mj (by decide+kernel)) (.at (iD hz)) hk.tr,(by have:=hk.sz;simp only[T.sz,d9];omega)⟩;have e:isW "hide" (.str "val")=false:=by decide+kernel
 have e2:isW "val" (.str "val")=true:=by decide+kernel
 show(!(!(cA 3 3 [T.str "val", .str z,t])|| !(nameB z))&&(if isW "hide" (.str "val")=true then _ else(isW "val" (.str "val")&&kindB t)))=true;rw[hz,if_neg (by rw[e];exact aip),e2,hk.b]
 rfl
theorem Uo {z:Str}{vt t:T}(hz:nameB z=true)(hv:Gd (cI 0 2 K3) 1 3 vt)(hk:Gd kindB 17 17 t):Gd eN 18 3766 (.tup [.str "hide", .str z,vt,t]):=by
 refine⟨?_,tr4 (mj (by decide+kernel)) (.at (iD hz)) (hv.tr.mono (by omega)) hk.tr,(by have:=hk.sz;have:=hv.sz;simp only[T.sz,d9];omega)⟩;have e:isW "hide" (.str "hide")=true:=by decide+kernel
 show(!(!(cA 3 4 [T.str "hide", .str z,vt,t])|| !(nameB z))&&(if isW "hide" (.str "hide")=true then(decide (((4:Nat):Int)=4)&&(cI 0 2 K3 vt&&kindB t)) else _))=true;rw[hz,if_pos e,hv.b,hk.b]
 rfl
theorem XR {z:Str}{t:T}(hz:nameB z=true)(hk:Gd gw 12 3763 t):Gd eN 18 3766 (.tup [.str "val", .str z,t]):=by
 refine⟨?_,tr3 (mj (by decide+kernel)) (.at (iD hz)) (hk.tr.mono (by omega)),(by have:=hk.sz;simp only[T.sz,d9];omega)⟩;have e:isW "hide" (.str "val")=false:=by decide+kernel
 have e2:isW "val" (.str "val")=true:=by decide+kernel
 show(!(!(cA 3 4 [T.str "val", .str z,t])|| !(nameB z))&&(if isW "hide" (.str "val")=true then _ else(isW "val" (.str "val")&&(decide (((3:Nat):Int)=3)&&gw t))))=true;rw[hz,if_neg (by rw[e];exact aip),e2,hk.b]
 rfl
theorem aaL {z:Str}{gv:T}{aP:List T}(hz:bJ z=true)(hv:Gd (cI 0 2 jV) 3 20 gv)(hr:∀t∈aP,Gd rT 18 20 t)(h2:aP.length<=24):Gd dJ 20 90500 (.tup ([.str "face", .str z,gv]++aP)):=by
 refine⟨wH aaI ?_,?_,?_⟩
 ·show(!(decide (((aP.length+1+1+1:Nat):Int)<3)|| !(bJ z))&&(cI 0 2 jV gv&&(cA 0 24 aP&&aP.all rT)))=true
  rw[hz,hv.b,tQ hr,decide_eq_false (by omega)];simp[cA];omega
 ·exact(Dk (tr3 (mj (by decide+kernel)) (.at (gM hz)) (hv.tr.mono (by omega))) λt ht=>(hr t ht).tr).mono (by omega:18+1<=20)
 ·have s1:=oN λt ht=>(hr t ht).sz
  have s2:aP.length*20<=24*20:=aiT _ h2;have:=hv.sz;simp only[T.sz,d9,ai0,aje];omega
theorem aaM {z:Str}{gv:T}{aP:List T}(hz:bJ z=true)(hv:Gd iJ 1 4 gv)(hr:∀t∈aP,Gd eN 18 3766 t)(h2:aP.length<=24):Gd dJ 20 90500 (.tup ([.str "part", .str z,gv]++aP)):=by
 refine⟨wH aaJ ?_,?_,?_⟩
 ·show(decide (3<=((aP.length+1+1+1:Nat):Int))&&(bJ z&&(iJ gv&&(cA 0 24 aP&&aP.all eN))))=true
  rw[hz,hv.b,tQ hr,decide_eq_true (by omega)];simp[cA];omega
 ·exact(Dk (tr3 (mj (by decide+kernel)) (.at (gM hz)) (hv.tr.mono (by omega))) λt ht=>(hr t ht).tr).mono (by omega:18+1<=20)
 ·have s1:=oN λt ht=>(hr t ht).sz
  have s2:aP.length*3766<=24*3766:=aiT _ h2;have:=hv.sz;simp only[T.sz,d9,ai0,aje];omega
theorem X3 {z:Str}{gs gv:T}{aP:List T}(hz:bJ z=true)(hg:Gd (cI 1 2 jV) 3 20 gs)(hv:Gd iJ 1 4 gv)(hr:∀t∈aP,Gd eN 18 3766 t)(h2:aP.length<=24):Gd dJ 20 90500 (.tup ([.str "maker", .str z,gs,gv]++aP)):=by
 refine⟨wH XJ ?_,?_,?_⟩
 ·show(!(decide (((aP.length+1+1+1+1:Nat):Int)<4)|| !(bJ z))&&(cI 1 2 jV gs&&(iJ gv&&(cA 0 24 aP&&aP.all eN))))=true
  rw[hz,hg.b,hv.b,tQ hr,decide_eq_false (by omega)];simp[cA];omega
 ·exact(Dk (tr4 (mj (by decide+kernel)) (.at (gM hz)) (hg.tr.mono (by omega)) (hv.tr.mono (by omega))) λt ht=>(hr t ht).tr).mono (by omega:18+1<=20)
 ·have s1:=oN λt ht=>(hr t ht).sz
  have s2:aP.length*3766<=24*3766:=aiT _ h2;have:=hv.sz;have:=hg.sz;simp only[T.sz,d9,ai0,aje];omega
theorem X4 {aP:List T}(hr:∀t∈aP,Gd vC 0 1 t)(h1:3<=aP.length)(h2:aP.length<=4):Gd dJ 20 90500 (.tup ([.str "apply"]++aP)):=by
 refine⟨wH XM ?_,?_,?_⟩
 ·show(cA 3 4 aP&&aP.all vC)=true
  rw[tQ hr];simp[cA];omega
 ·refine Tr.mono (n:=1) (.tp λt ht=>?_) (by omega)
  rcases aiB.mp ht with rfl|ht
  ·exact mj (by decide+kernel)
  ·exact(hr t ht).tr
 ·have s1:=oN λt ht=>(hr t ht).sz
  simp only[T.sz,d9,ai0,aje];omega
section
variable {P:Program}{w:World}{K:PySem.W.Frag}{mg:Str->Option Value}{aN:Heap}{f:Addr}{fd:FuncData}
theorem Ji:bG ["_law_state","_law_items","_law_k"] ["_law_state"] (bA Ox):=⟨rfl,rfl,rfl,by decide+kernel,rfl,by decide+kernel,by decide+kernel⟩
set_option maxHeartbeats 1000000 in
theorem aaN (F:eV K "_law_face" "_law_face" Ox f fd)(mr:mg "range"=none)(mt:mg "tuple"=none)(mi:mg "int"=none)(h0:Has P w K mg aN 1 "_law_next" ["_law_state","_law_many"] eE)(h2:Has P w K mg aN 3 "_law_small" ["_law_state"] (dD λz=>nameB z=true))(h3:Has P w K mg aN 3 "_law_great" ["_law_state"] (dD λz=>bJ z=true))
  (h4:Has P w K mg aN 5 "_law_givers" ["_law_state","_law_least"] (tR 0)) (h6:Has P w K mg aN 8 "_law_kind" ["_law_state","_law_deep"] (o8 3)):
  cj P w K mg aN eY 9 f fd ["_law_state"] (Zv dJ 20 90500):=by
 refine F.ok Ji (len:=λvs H Q E h=>(by obtain⟨st,rfl,_⟩:=h;rfl)) (λcX A aM s H vs Q E hr h=>?_);obtain⟨st,rfl,hs,q⟩:=h;refine⟨_,bx (cZ (i:=1) Ji.nd rfl (Or.inl rfl) (dj aX))
  (bx (jR PassesOwn.never rfl (dw rfl mr (aW (bU fG (dj (aW (bB h0 hr (by decide) rfl (aW (pv 0) (aW aY aX))) (aW aY aX))) (cC pO rfl mi nO (aW (dR cN (bB h0 hr (by decide) rfl (aW (pv 0) (aW aY aX))) aY (bM _)) aX)) (λ_ _=>rfl)) aX)) (eO (i:=2) Ji.nd rfl (Or.inl rfl))
   (bh (cF (bL cN (bB h0 hr (by decide) rfl (aW (pv 0) (aW aY aX))) aY (bM _))
    (bh (fj (jX aiA aiK aiL iW (pv 1) (aW (cO (aW bQ (aW (bB h2 hr (by decide) rfl (aW (pv 0) aX)) (aW (bB h0 hr (by decide) rfl (aW (pv 0) (aW aY aX))) aX)))) aX))))
    (bh (fj (jX aiA aiK aiL iW (pv 1) (aW (cO (aW bQ (aW (bB h2 hr (by decide) rfl (aW (pv 0) aX)) (aW (bB h6 hr (by decide) rfl (aW (pv 0) (aW aY aX))) aX)))) aX)))))))
  (bh (bD (bY d7 (cO (aW bQ (aW (bB h3 hr (by decide) rfl (aW (pv 0) aX)) (aW (bB h4 hr (by decide) rfl (aW (pv 0) (aW aY aX))) aX)))) (cC cJ rfl mt boot_tuple (aW (pv 1) aX)))))),?_⟩
 refine⟨aiP _,λl hl=>?_⟩;have dl:l≠st:=fZ hs hl;have g1:cP st H (upd H l (.lst [])):=cG hs hl;refine⟨_,rfl,st,9,rfl,g1.ok,by decide,by decide,λd H2 d0 d1 g2=>⟨small (by show 2<=1000000;decide),λp hp=>?_⟩⟩;have dp:p≠st:=fZ g2.ok hp;have g3:=cG (o:=.lst [.int d, .int 24]) g2.ok hp;refine⟨_,rfl,st,9,rfl,g3.ok,by decide,by decide,λe H4 e0 e1 g4=>⟨rfl, .inr ⟨_,rfl,?_⟩⟩⟩;refine Ov (g4.1 _ _ dp bf) λn hn=>?_;have g14:=((g1.trans g2).trans g3).trans g4;have hl4:H4 l=some (.lst []):=g4.1 _ _ dl (g3.1 _ _ dl (g2.1 _ _ dl bf));refine⟨n,rfl,by omega,by omega,fW (n:=n.toNat) (λi U H'=>∃(o:Option V) (vs:List V) (ts:List T),U=[some (.ref st),some (.ref l),o]/\H' l=some (.lst vs)/\cB H' vs ts/\ts.length=i/\(∀t∈ts,Gd rT 18 20 t)/\cP st H H')
  ⟨none,[],[],rfl,hl4, .nil,rfl,(λ_ h=>by cases h),g14⟩ ?_ ?_⟩
 ·rintro i U H3 hi ⟨o,vs,ts,rfl,hl3,r3,l3,gP,g3⟩
  have lv:=r3.length;refine⟨_,rfl,st,2,rfl,g3.ok,by decide,by decide,λb H5 b0 b1 g5=>⟨rfl,_,rfl,ig (λ_=>?_) (λ_=>?_)⟩⟩
  ·refine⟨_,rfl, .inl ⟨rfl,_,dX.of (g5.1 _ _ dl hl3)⟩,?_⟩
   refine⟨_,rfl,st,rfl,g5.ok,λz H6 hz lz g6=>⟨_,rfl,st,3,rfl,g6.ok,by decide,by decide,λk H7 k0 k1 g7=>⟨small (by show 3<=1000000;decide),λp hp=>?_⟩⟩⟩;have g8:cP st H7 (upd H7 p (.tup [.str "hide", .str z, .int k])):=cG g7.ok hp;obtain⟨a1,a2,a3⟩:=Ld (t:=.tup [.str "hide", .str z, .int k]) hl dl g3 hl3 r3 (((g5.trans g6).trans g7).trans g8) (.tup bf (.cons (.str _ (by decide+kernel)) (.cons (.str z (by omega)) (.cons (.int k) .nil))));refine⟨l,vs, .ref p,rfl,rfl,a1,fH (by omega),?_⟩;exact⟨_,_,ts++[_],rfl,bf,a2,by simp[l3],lB gP (Um hz k0 k1),a3⟩
  ·refine⟨_,rfl, .inl ⟨rfl,_,dX.of (g5.1 _ _ dl hl3)⟩,?_⟩
   refine⟨_,rfl,st,rfl,g5.ok,λz H6 hz lz g6=>⟨_,rfl,st,rfl,g6.ok,λv t H7 hg rt hzt g7=>⟨small (by show 3<=1000000;decide),λp hp=>?_⟩⟩⟩;have g8:cP st H7 (upd H7 p (.tup [.str "val", .str z,v])):=cG g7.ok hp;obtain⟨a1,a2,a3⟩:=Ld (t:=.tup [.str "val", .str z,t]) hl dl g3 hl3 r3 (((g5.trans g6).trans g7).trans g8) (.tup bf (.cons (.str _ (by decide+kernel)) (.cons (.str z (by omega)) (.cons (rt.same (bw hp _)) .nil))));refine⟨l,vs, .ref p,rfl,rfl,a1,fH (by omega),?_⟩;exact⟨_,_,ts++[_],rfl,bf,a2,by simp[l3],lB gP (XQ hz (z8 (n:=2) hg hzt)),a3⟩
 ·rintro U H3 ⟨o,vs,ts,rfl,hl3,r3,l3,gP,g3⟩
  refine⟨_,rfl,st,rfl,g3.ok,λz H4 hz lz g4=>⟨_,rfl,st,rfl,by decide,g4.ok,λvv vt H5 kv rv g5=>⟨small (by show 3<=1000000;decide),λp hp=>?_⟩⟩⟩;have g6:cP st H5 (upd H5 p (.tup [.str "face", .str z,vv])):=cG g5.ok hp;have vQ:=(g4.trans g5).trans g6;refine⟨_,rfl,l,vs,rfl, .inl ⟨dX.of (vQ.1 _ _ dl hl3),λp2 hp2=>?_⟩⟩;have e7:=bw hp2 (.tup vs);refine o9 (hts:=[.str "face", .str z,vt]) (e7 _ _ bf) (.cons (.str _ (by decide+kernel)) (.cons (.str z (by omega)) (.cons (rv.same ((bw hp _).trans e7)) .nil))) (by simp) bf ((r3.grow vQ g3.ok).same e7) (by simp;omega) λp' H7 r7 e8=>?_;exact q _ _ _ (aaL hz kv gP (by omega)) r7 (g3.trans (vQ.trans (cH vQ.ok (e7.trans e8))))
def OD:Sp:=λvs H Q _=>∃(st lf:Addr),vs=[.ref st, .ref lf]/\D2 st lf H/\∀a us ts H',H' a=some (.tup us)->cB H' us ts->ts.length<=24->(∀t∈ts,Gd eN 18 3766 t)->cU st lf H H'->Q (.ref a) H'
theorem Jk:bG ["_law_state","_law_left","_law_rows","_law_k"] ["_law_state","_law_left"] (bA Oz):=⟨rfl,rfl,rfl,by decide+kernel,rfl,by decide+kernel,by decide+kernel⟩
set_option maxHeartbeats 1000000 in
theorem aaO (F:eV K "_law_body" "_law_body" Oz f fd)(mr:mg "range"=none)(mt:mg "tuple"=none)(mi:mg "int"=none)(h0:Has P w K mg aN 1 "_law_next" ["_law_state","_law_many"] eE)(h2:Has P w K mg aN 3 "_law_small" ["_law_state"] (dD λz=>nameB z=true))
  (h4:Has P w K mg aN 4 "_law_some_variables" ["_law_state","_law_most"] (Dj 2)) (h6:Has P w K mg aN 8 "_law_kind" ["_law_state","_law_deep"] (o8 3)) (h7:Has P w K mg aN 18 "_law_phrase" ["_law_state","_law_deep","_law_left"] (qx 4)):
  cj P w K mg aN eY 19 f fd ["_law_state","_law_left"] OD:=by
 refine F.ok Jk (len:=λvs H Q E h=>(by obtain⟨st,lf,rfl,_⟩:=h;rfl)) (λcX A aM s H vs Q E hr h=>?_);obtain⟨st,lf,rfl,dd,q⟩:=h;refine⟨_,bx (cZ (i:=2) Jk.nd rfl (Or.inl rfl) (dj aX))
  (bx (jR PassesOwn.never rfl (dw rfl mr (aW (bU fG (dj (aW (bB h0 hr (by decide) rfl (aW (pv 0) (aW aY aX))) (aW aY aX))) (cC pO rfl mi nO (aW (dR cN (bB h0 hr (by decide) rfl (aW (pv 0) (aW aY aX))) aY (bM _)) aX)) (λ_ _=>rfl)) aX)) (eO (i:=3) Jk.nd rfl (Or.inl rfl))
   (bh (cF (bL cN (bB h0 hr (by decide) rfl (aW (pv 0) (aW aY aX))) aY (bM _))
    (bh (fj (jX aiA aiK aiL iW (pv 2) (aW (cO (aW bQ (aW (bB h2 hr (by decide) rfl (aW (pv 0) aX)) (aW (bB h4 hr (by decide) rfl (aW (pv 0) (aW aY aX))) (aW (bB h6 hr (by decide) rfl (aW (pv 0) (aW aY aX))) aX))))) aX))))
    (bh (fj (jX aiA aiK aiL iW (pv 2) (aW (cO (aW bQ (aW (bB h2 hr (by decide) rfl (aW (pv 0) aX)) (aW (bB h7 hr (by decide) rfl (aW (pv 0) (aW aY (aW (pv 1) aX)))) aX)))) aX)))))))
  (bh (bD (cC cJ rfl mt boot_tuple (aW (pv 2) aX))))),?_⟩
 refine⟨aiP _,λl hl=>?_⟩;have dl:=dd.fresh hl;have g1:cU st lf H (upd H l (.lst [])):=iK dd hl;refine⟨_,rfl,st,9,rfl,g1.2.st,by decide,by decide,λd H2 d0 d1 g2'=>⟨small (by show 2<=1000000;decide),λp hp=>?_⟩⟩;have g2:=fO g1.2 g2';have dp:=g2.2.fresh hp;have g3:=iK (o:=.lst [.int d, .int 24]) g2.2 hp;refine⟨_,rfl,st,9,rfl,g3.2.st,by decide,by decide,λe H4 e0 e1 g4'=>⟨rfl, .inr ⟨_,rfl,?_⟩⟩⟩;have g4:=fO g3.2 g4';refine Ov (g4.1 _ _ dp.1 dp.2 bf) λn hn=>?_;have g14:=((g1.trans g2).trans g3).trans g4;have hl4:H4 l=some (.lst []):=g4.1 _ _ dl.1 dl.2 (g3.1 _ _ dl.1 dl.2 (g2.1 _ _ dl.1 dl.2 bf));refine⟨n,rfl,by omega,by omega,fW (n:=n.toNat) (λi U H'=>∃(o:Option V) (vs:List V) (ts:List T),U=[some (.ref st),some (.ref lf),some (.ref l),o]/\H' l=some (.lst vs)/\cB H' vs ts/\ts.length=i/\(∀t∈ts,Gd eN 18 3766 t)/\cU st lf H H')
  ⟨none,[],[],rfl,hl4, .nil,rfl,(λ_ h=>by cases h),g14⟩ ?_ ?_⟩
 ·rintro i U H3 hi ⟨o,vs,ts,rfl,hl3,r3,l3,gP,g3⟩
  have lv:=r3.length;refine⟨_,rfl,st,3,rfl,g3.2.st,by decide,by decide,λb H5 b0 b1 g5'=>⟨rfl,_,rfl,ig (λ_=>?_) (λ_=>?_)⟩⟩
  ·refine⟨_,rfl, .inl ⟨rfl,_,dX.of (g5'.1 _ _ dl.1 hl3)⟩,?_⟩
   refine⟨_,rfl,st,rfl,g5'.ok,λz H6 hz lz g6=>⟨_,rfl,st,rfl,g6.ok,λvv vt H7 kv rv g7=>⟨_,rfl,st,rfl,g7.ok,λv t H8 hg rt hzt g8=>⟨small (by show 4<=1000000;decide),λp hp=>?_⟩⟩⟩⟩;have g9:cP st H8 (upd H8 p (.tup [.str "hide", .str z,vv,v])):=cG g8.ok hp;obtain⟨a1,a2,a3⟩:=Ow (t:=.tup [.str "hide", .str z,vt,t]) hl dl g3 hl3 r3 (fO g3.2 ((((g5'.trans g6).trans g7).trans g8).trans g9)) (.tup bf (.cons (.str _ (by decide+kernel)) (.cons (.str z (by omega)) (.cons ((rv.grow g8 g7.ok).same (bw hp _)) (.cons (rt.same (bw hp _)) .nil)))));refine⟨l,vs, .ref p,rfl,rfl,a1,fH (by omega),?_⟩;exact⟨_,_,ts++[_],rfl,bf,a2,by simp[l3],lB gP (Uo hz kv (z8 (n:=2) hg hzt)),a3⟩
  ·refine⟨_,rfl, .inl ⟨rfl,_,dX.of (g5'.1 _ _ dl.1 hl3)⟩,?_⟩
   refine⟨_,rfl,st,rfl,g5'.ok,λz H6 hz lz g6=>?_⟩;have g36:=fO g3.2 (g5'.trans g6);refine⟨_,rfl,_,rfl,st,lf,rfl,g36.2,λv t H7 hg rt hzt g7=>⟨small (by show 3<=1000000;decide),λp hp=>?_⟩⟩;have g8:cU st lf H7 (upd H7 p (.tup [.str "val", .str z,v])):=iK g7.2 hp;obtain⟨a1,a2,a3⟩:=Ow (t:=.tup [.str "val", .str z,t]) hl dl g3 hl3 r3 ((g36.trans g7).trans g8) (.tup bf (.cons (.str _ (by decide+kernel)) (.cons (.str z (by omega)) (.cons (rt.same (bw hp _)) .nil))));refine⟨l,vs, .ref p,rfl,rfl,a1,fH (by omega),?_⟩;exact⟨_,_,ts++[_],rfl,bf,a2,by simp[l3],lB gP (XR hz (yw (n:=3) hg hzt)),a3⟩
 ·rintro U H3 ⟨o,vs,ts,rfl,hl3,r3,l3,gP,g3⟩
  refine⟨_,rfl,l,vs,rfl, .inl ⟨dX.of hl3,λp hp=>?_⟩⟩;exact q _ vs ts _ bf (r3.same (bw hp _)) (by omega) gP (g3.trans (iK g3.2 hp))
end
def OJ:Sp:=λvs H Q _=>∃(st lf:Addr),vs=[.ref st, .ref lf]/\D2 st lf H/\∀v t H',Gd dJ 20 90500 t->Rep H' v t->cU st lf H H'->Q v H'
section
variable {P:Program}{w:World}{K:PySem.W.Frag}{mg:Str->Option Value}{aN:Heap}{f:Addr}{fd:FuncData}
theorem tU:bG ["_law_state","_law_left","_law_way","_law_parts"] ["_law_state","_law_left"] (bA rK):=⟨rfl,rfl,rfl,by decide+kernel,rfl,by decide+kernel,by decide+kernel⟩
set_option maxHeartbeats 1000000 in
theorem Lf (F:eV K "_law_declared" "_law_declared" rK f fd)(mr:mg "range"=none)(mt:mg "tuple"=none)(h0:Has P w K mg aN 1 "_law_next" ["_law_state","_law_many"] eE)(h3:Has P w K mg aN 3 "_law_great" ["_law_state"] (dD λz=>bJ z=true))
  (h4:Has P w K mg aN 10 "_law_sort" ["_law_state"] (Zv dJ 20 90500)) (h5:Has P w K mg aN 9 "_law_face" ["_law_state"] (Zv dJ 20 90500)) (h6:Has P w K mg aN 4 "_law_given" ["_law_state"] (Zv iJ 1 4)) (h7:Has P w K mg aN 5 "_law_givers" ["_law_state","_law_least"] (tR 1)) (h8:Has P w K mg aN 19 "_law_body" ["_law_state","_law_left"] OD):
  cj P w K mg aN eY 20 f fd ["_law_state","_law_left"] OJ:=by
 refine F.ok tU (len:=λvs H Q E h=>(by obtain⟨st,lf,rfl,_⟩:=h;rfl)) (λcX A aM s H vs Q E hr h=>?_);obtain⟨st,lf,rfl,dd,q⟩:=h;refine⟨_,bx (cZ (i:=2) tU.nd rfl (Or.inl rfl) (bB h0 hr (by decide) rfl (aW (pv 0) (aW aY aX))))
  (bx (cF (bL yM (pv 2) aY (bM _)) (bh (bD (bB h4 hr (by decide) rfl (aW (pv 0) aX)))) bK)
  (bx (cF (bL cN (pv 2) aY (bM _)) (bh (bD (bB h5 hr (by decide) rfl (aW (pv 0) aX)))) bK)
  (bx (cF (bL cN (pv 2) aY (bM _)) (bh (bD (bY d7 (cO (aW bQ (aW (bB h3 hr (by decide) rfl (aW (pv 0) aX)) (aW (bB h6 hr (by decide) rfl (aW (pv 0) aX)) aX)))) (bB h8 hr (by decide) rfl (aW (pv 0) (aW (pv 1) aX)))))) bK)
  (bx (cF (bL cN (pv 2) aY (bM _)) (bh (bD (bY d7 (cO (aW bQ (aW (bB h3 hr (by decide) rfl (aW (pv 0) aX)) (aW (bB h7 hr (by decide) rfl (aW (pv 0) (aW aY aX))) (aW (bB h6 hr (by decide) rfl (aW (pv 0) aX)) aX))))) (bB h8 hr (by decide) rfl (aW (pv 0) (aW (pv 1) aX)))))) bK)
  (bx (cZ (i:=3) tU.nd rfl (Or.inl rfl) (cC cJ rfl mt boot_tuple (aW (pR (bA rK) ["_law_state","_law_left","_law_way","_law_parts"] ["_law_state"] [0] (by decide+kernel) (dw rfl mr (aW (bY gQ aY (bB h0 hr (by decide) rfl (aW (pv 0) (aW aY aX)))) aX)) (λC s₀ H₀ ex=>ji)
   (λC s₀ H₀ ex=>bB h3 hr (by decide) rfl (aW (pv 1) aX))) aX)))
  (bh (bD (bY d7 (cO (aW bQ aX)) (pv 3))))))))),?_⟩
 refine⟨_,rfl,st,6,rfl,dd.st,by decide,by decide,λd H1 d0 d1 g1'=>?_⟩;have g1:=fO dd g1';refine fY (iY (sW (z:=.bl (decide (d<2))) (bN rfl) (λ_ _=>dI) λTv Q'' e'' q''=>⟨_,_,rfl,rfl,q''⟩)) (λc H2 e2=>?_) (λc H2 e2=>?_)
 ·have g2:=g1.trans (cM g1.2 e2)
  exact⟨_,rfl,st,rfl,g2.2.st,λv t H3 k r g3=>q v t H3 k r (g2.trans (fO g2.2 g3))⟩
 have g2:=g1.trans (cM g1.2 e2);refine fY (iY (fJ (bN rfl) λ_ _=>dI)) (λc3 H3 e3=>?_) (λc3 H3 e3=>?_)
 ·have g3:=g2.trans (cM g2.2 e3)
  exact⟨_,rfl,st,rfl,g3.2.st,λv t H4 k r g4=>q v t H4 k r (g3.trans (fO g3.2 g4))⟩
 have g3:=g2.trans (cM g2.2 e3);refine fY (iY (fJ (bN rfl) λ_ _=>dI)) (λc4 H4 e4=>?_) (λc4 H4 e4=>?_)
 ·have g4:=g3.trans (cM g3.2 e4)
  refine⟨_,rfl,st,rfl,g4.2.st,λz H5 hz lz g5=>⟨_,rfl,st,rfl,g5.ok,λv t H6 kt rt g6=>⟨small (by show 3<=1000000;decide),λp hp=>?_⟩⟩⟩;have g7:cP st H6 (upd H6 p (.tup [.str "part", .str z,v])):=cG g6.ok hp;have Lg:=g4.trans (fO g4.2 ((g5.trans g6).trans g7));refine⟨_,rfl,_,rfl,st,lf,rfl,Lg.2,λa us ts H8 ha ra la ka g8=>?_⟩;refine o9 (hts:=[.str "part", .str z,t]) (g8.tups Lg.2 _ _ bf) (.cons (.str _ (by decide+kernel)) (.cons (.str z (by omega)) (.cons ((rt.same (bw hp _)).oM g8 Lg.2) .nil))) (by simp) ha ra (by simp;omega) λp' H9 r9 e9=>?_;exact q _ _ _ (aaM hz kt ka la) r9 ((Lg.trans g8).trans (cM g8.2 e9))
 have g4:=g3.trans (cM g3.2 e4);refine fY (iY (fJ (bN rfl) λ_ _=>dI)) (λc5 H5 e5=>?_) (λc5 H5 e5=>?_)
 ·have g5:=g4.trans (cM g4.2 e5)
  refine⟨_,rfl,st,rfl,g5.2.st,λz H6 hz lz g6=>⟨_,rfl,st,rfl,by decide,g6.ok,λvg tg H7 kg rg g7=>⟨_,rfl,st,rfl,g7.ok,λv t H8 kt rt g8=>⟨small (by show 4<=1000000;decide),λp hp=>?_⟩⟩⟩⟩;have g9:cP st H8 (upd H8 p (.tup [.str "maker", .str z,vg,v])):=cG g8.ok hp;have g59:=g5.trans (fO g5.2 (((g6.trans g7).trans g8).trans g9));refine⟨_,rfl,_,rfl,st,lf,rfl,g59.2,λa us ts Ha ha ra la ka ga=>?_⟩;refine o9 (hts:=[.str "maker", .str z,tg,t]) (ga.tups g59.2 _ _ bf) (.cons (.str _ (by decide+kernel)) (.cons (.str z (by omega)) (.cons (((rg.grow g8 g7.ok).same (bw hp _)).oM ga g59.2) (.cons ((rt.same (bw hp _)).oM ga g59.2) .nil)))) (by simp) ha ra (by simp;omega) λp' Hb rb eb=>?_;exact q _ _ _ (X3 hz kg kt ka la) rb ((g59.trans ga).trans (cM ga.2 eb))
 have g5:=g4.trans (cM g4.2 e5);refine⟨_,rfl,st,2,rfl,g5.2.st,by decide,by decide,λe H6 e0 e1 g6=>⟨3,e,rfl,rfl,3+e,rfl,by omega,by omega,?_⟩⟩;refine Dh (Gd vC 0 1) g6.ok (by omega) (λi H' R hi h' r=>⟨_,rfl,st,rfl,h',λz H3 hz lz g3=>r _ _ _ (Lb hz) (.str z (by omega)) g3⟩) (λl vs ts H7 hl r7 l7 p7 g7=>?_);refine⟨l,vs,rfl, .inl ⟨dX.of hl,λp hp=>?_⟩⟩;refine⟨small (by show 1<=1000000;decide),λp2 hp2=>⟨_,rfl,?_⟩⟩;have e8:=bw hp (.tup vs);have e9:=bw hp2 (.tup [.str "apply"]);refine o9 (hts:=[.str "apply"]) bf (.cons (.str _ (by decide+kernel)) .nil) (by simp) (e9 _ _ bf) (r7.same (e8.trans e9)) (by simp;omega) λp' Ha ra ea=>?_;exact q _ _ _ (X4 p7 (by omega) (by omega)) ra (g5.trans (fO g5.2 ((g6.trans g7).trans (cH g7.ok ((e8.trans e9).trans ea)))))
end
end Fw
namespace L2
open PySem PySem.Spec PyProof.Rows
section
variable {X:Cx}
theorem Lh (K:PySem.W.Frag)(h:X.K=K:=by rfl):m8 X (binaryOp .Add) (yN K):=h ▸ d7
theorem slT (K:PySem.W.Frag)(h:X.K=K:=by rfl):UL X (Ak K):=h ▸ gU
end
theorem HT.X5 {prog:Program}{w:World}{A:Around}{E:Value->Shared->Prop}{s:Shared}{t b:Addr}{ws:List Value}{Q:Value->Shared->Prop}(ht:IsTup s.heap t [].toArray)(hb:IsTup s.heap b ws.toArray)
  (h1:Q (.ref b) s):wpAny (model prog w) A (binaryOp .Add (.ref t) (.ref b)) Q E s:=by
 obtain⟨⟨cls,dd,data,sl⟩,ho,hc,n,hd⟩:=id ht;obtain⟨⟨cls2,dd2,data2,sl2⟩,ho2,hc2,n2,hd2⟩:=id hb;simp only at hc hd hc2 hd2;subst hc hd hc2 hd2;exact concat_meets ⟨_,ho,rfl⟩ ⟨_,ho2,rfl⟩ noFill_tuple_add seq_tuple_add ajE ajB (ajy _ _)
   (tuple_addW0 t b _ ws.toArray n n2 dd dd2 sl sl2 rfl) ⟨ho,ho2,h1⟩
theorem X6 (K:PySem.W.Frag){X:Cx}(h:X.K=K:=by rfl):m8 X (binaryOp .Add) (λx y H Q=>∃a b ys,x=.ref a/\y=.ref b/\dY K H a []/\dY K H b ys/\Q (.ref b) H):=by
 intro aZ s U H x y v u Q I rx ry q;subst h;obtain⟨a,b,ys,rfl,rfl,ha,hb,q⟩:=q;cases rx;cases ry;obtain⟨aU,r1,p1,_⟩:=I.tuple ha;obtain⟨wZ,r2,p2,_⟩:=I.tuple hb;cases r1;exact HT.X5 p1 p2 ⟨.ref b,H,I,rfl,q⟩
end L2
namespace Fw
open PySem PySem.Spec PyProof.Rows L2
def jz (ts:List T):Prop:=∃ds m,ts=ds++[m]/\ds.length<=23/\(∀t∈ds,Gd dJ 20 90500 t)/\Gd lA 20 26404 m
theorem jz.tr {ts:List T}(h:jz ts):Tr 21 (.tup ts):=by
 obtain⟨ds,m,rfl,_,hd,hm⟩:=h;exact .tp (lB (p:=Tr 20) (λt ht=>(hd t ht).tr) hm.tr)
theorem jz.drop {ts:List T}(h:jz ts)(hl:1<ts.length):jz (ts.drop 1):=by
 obtain⟨ds,m,rfl,l,hd,hm⟩:=h;cases ds with
 |nil=>simp at hl
 |cons d ds=>exact⟨ds,m,rfl,by simp at l;omega,λt ht=>hd t (air _ ht),hm⟩
theorem jz.prog {ts:List T}(h:jz ts):m5 ts=true:=by
 obtain⟨ds,m,rfl,l,hd,hm⟩:=h;unfold m5;rw[List.getLast?_concat,ajg];simp only[hm.b,ai3];rw[tQ hd];simp[cA];omega
theorem Q8 {t:T}(h:Gd gw 15 26401 t):Gd lA 20 26404 (.tup [.str "main",t]):=by
 refine⟨?_,(tr2 (n:=15) (mj (by decide+kernel)) h.tr).mono (by omega),?_⟩
 ·show(cA 2 2 [T.str "main",t]&&(decide (("main":Str)="main")&&gw t))=true
  rw[h.b,decide_eq_true rfl];rfl
 ·have:=h.sz
  simp only[T.sz,d9];omega
theorem X7:Gd lA 20 26404 (.tup [.str "main", .int 7]) :=
 Q8 (yw (n:=4) ((Gh (by decide) (by decide)).up (by decide)) (by decide))
theorem jz.seven:jz [.tup [.str "main", .int 7]]:=⟨[],_,rfl,by decide,λ_ h=>(by cases h),X7⟩
theorem Gq:∀l:List (List Nat),l≠[]->(tD [32] l).length+1=(l.map List.length).sum+l.length
 |[],h=>absurd rfl h
 |[x],_=>by simp[tD]
 |x::y::r,_=>by
  have ih:=Gq (y::r) (by simp);rw[tD];simp only[aiG,aiR,akh,aiF]at ih ⊢;simp only[aiZ];omega
theorem X8 {ps:List Str}(h:ps≠[]):(Txt.join " " ps).length+1=(ps.map (·.length)).sum+ps.length:=by
 have ej:(Txt.join " " ps).cps.toList=tD [32] (ps.map (·.cps.toList)):=by
  show(Builtin.Str.glued " " ps).cps.toList=_;rw[StrLaws.glued_eq_join,BL,show(" ":Str).cps.toList=[32] by decide+kernel]
 have e:=Gq (ps.map (·.cps.toList)) (by simpa using h);rw[<-bT,ej,e,List.map_map,aix];congr 2
theorem Dl (ps:List Str):iT ps=(ps.map (·.length)).sum+3*ps.length:=by
 induction ps with
 |nil=>rfl
 |cons a l ih=>
  rw[mK,ih,aiR,akh,aiF];unfold wt;omega
theorem aaP {ps:List Str}(h:∀p∈ps,1<=p.length):ps.length<=(ps.map (·.length)).sum:=by
 induction ps with
 |nil=>exact aio _
 |cons a l ih=>
  have h1:=h a (by simp);have h2:=ih λp hp=>h p (air _ hp);rw[aiR,akh,aiF];omega
theorem Yb {n:Nat}{t:T}(h:Tr n t):∀p∈iC t,1<=p.length:=by
 induction h with
 |«at» A=>
  intro p hp;rw[tE A]at hp;rw[List.mem_singleton.mp hp];exact A.lo
 |@tp n l _ ih=>
  have all:∀l':List T,(∀t∈l',t∈l)->∀p∈cW l',1<=p.length:=by
   intro l'
   induction l' with
   |nil=>intro _ p hp;simp[cW]at hp
   |cons t l' ih2=>
    intro hl p hp;rw[cW]at hp;rcases List.mem_append.mp hp with h|h
    ·exact ih t (hl t (by simp)) p h
    ·exact ih2 (λx hx=>hl x (air _ hx)) p h
  intro p hp;rw[iC]at hp;rcases aiB.mp hp with rfl|hp
  ·decide+kernel
  ·rcases List.mem_append.mp hp with h|h
   ·exact all l (λt ht=>ht) p h
   ·rw[List.mem_singleton.mp h]
    decide+kernel
theorem wI {n:Nat}{ts:List T}(h:Tr n (.tup ts)):(Txt.join " " (iC (.tup ts))).length<=iT (iC (.tup ts))/\((Txt.join " " (iC (.tup ts))).length<=2900->iT (iC (.tup ts))<=5802):=by
 have e1:=X8 (ps:=iC (.tup ts)) (by rw[iC];simp);have e2:=Dl (iC (.tup ts));have e3:=aaP (Yb h);constructor
 ·omega
 ·intro h1
  omega
theorem Yc {t r:TS}{D:Ends}{U:L2.St}{H:Hp}(Pv:L2.St->Hp->Prop)(h:∀N:L2.St->Hp->Prop,(∀U' H',Pv U' H'->N U' H')->t (D.to N) U H)(hr:∀U' H',Pv U' H'->r D U' H'):JD t r D U H:=h _ hr
theorem wJ {c:TT}{a b r:TS}{D:Ends}{U:L2.St}{H:Hp}(Pv:L2.St->Hp->Prop)(h:∀N:L2.St->Hp->Prop,(∀U' H',Pv U' H'->N U' H')->Mi c a b (D.to N) U H)(hr:∀U' H',Pv U' H'->r D U' H'):JD (Mi c a b) r D U H:=h _ hr
theorem aaQ {K:PySem.W.Frag}{x y:Int}{p:Addr}{H:Hp}{Q:VK}{b:Bool}(hp:H p=some (.lst [.int x, .int y]))(hq:Q (.int (if b then y else x)) H):VG K (.ref p) (.int (if b then 1 else 0)) H Q:=by
 cases b with
 |true=>exact⟨p,_,1, .int y,rfl,rfl,dX.of hp,eF (j:=1) rfl,hq⟩
 |false=>exact⟨p,_,0, .int x,rfl,rfl,dX.of hp,eF (j:=0) rfl,hq⟩
theorem Li {z g:Str}(hz:nameB z=true)(hg:bJ g=true):Gd dJ 20 90500 (.tup [.str "kind", .str z, .tup [], .tup [.str g]]):=by
 have h1:Gd (cI 0 3 K3) 1 4 (.tup []):=z9 (n:=0) (B:=1) (λ_ h=>by cases h) (by simp) (by simp) (by decide);have h2:Gd zE 18 70 (.tup ([.str g]++[])):=XF hg (λ_ h=>by cases h) (by simp);exact Jg (aP:=[.tup [.str g]]) (most:=6) (B:=70) Q7 rfl (by decide+kernel) hz h1 (λt ht=>by rw[List.mem_singleton.mp ht];exact h2) (by simp) (by simp) (by decide)
theorem cB.take {H:Hp}:∀(k:Nat) {vs:List V} {ts:List T},cB H vs ts->cB H (vs.take k) (ts.take k)
 |0,_,_,_=>by simp;exact .nil
 |k+1,_,_, .nil=>.nil
 |k+1,_,_, .cons r q=>.cons r (cB.take k q)
theorem cB.ins {H:Hp}{vs:List V}{ts:List T}{v:V}{t:T}(r:cB H vs ts)(k:Nat)(q:Rep H v t):cB H (vs.take k++v::vs.drop k) (ts.take k++t::ts.drop k):=(cB.take k r).append (.cons q (r.drop k))
theorem adk {st lf l:Addr}{H H3 H8:Hp}{vs:List V}{ts:List T}{v:V}{t:T}{k:Nat}(hl:H l=none)(dl:l≠st/\l≠lf)(g3:cU st lf H H3)(hl3:H3 l=some (.lst vs))(r3:cB H3 vs ts)(g8:cU st lf H3 H8)(r8:Rep H8 v t):
  H8 l=some (.lst vs)/\cB (upd H8 l (.lst (vs.take k++v::vs.drop k))) (vs.take k++v::vs.drop k) (ts.take k++t::ts.drop k)/\cU st lf H (upd H8 l (.lst (vs.take k++v::vs.drop k))):=by
 have Xq:H8 l=some (.lst vs):=g8.1 _ _ dl.1 dl.2 hl3;have oZ:∀b xs,H8 b=some (.tup xs)->(upd H8 l (.lst (vs.take k++v::vs.drop k))) b=some (.tup xs):=λb xs h=>by
  rw[bI (uJ h Xq (by intro z;cases z))];exact h
 refine⟨Xq,((r3.oM g8 g3.2).ins k r8).mono oZ,λb o h1 h2 hb=>?_,g8.2.ne,?_,?_⟩
 ·rw[bI (cY hb hl)]
  exact(g3.trans g8).1 b o h1 h2 hb
 ·obtain⟨ns,k1,k2,k3⟩:=g8.2.st
  exact⟨ns,k1,k2,by rw[bI (Ne.symm dl.1)];exact k3⟩
 ·obtain⟨j,k1⟩:=g8.2.lf
  exact⟨j,by rw[bI (Ne.symm dl.2)];exact k1⟩
theorem Uq (k:Nat)(t:T)(l:List T):d9 (l.take k++t::l.drop k)=d9 l+t.sz:=by
 have e:d9 l=d9 (l.take k)+d9 (l.drop k):=by rw[<-iB,ajd]
 rw[iB,e];simp only[d9];omega
theorem Ur {p:T->Prop}{k:Nat}{t:T}{l:List T}(h:∀x∈l,p x)(ht:p t):∀x∈l.take k++t::l.drop k,p x:=λx hx=>by
 rcases List.mem_append.mp hx with h1|h1
 ·exact h x (List.mem_of_mem_take h1)
 ·rcases aiB.mp h1 with rfl|h2
  ·exact ht
  ·exact h x (List.mem_of_mem_drop h2)
def Yd:Sp:=λvs H Q _=>∃(v:V) (ts:List T),vs=[v]/\Rep H v (.tup ts)/\jz ts/\iT (iC (.tup ts))<=15900000/\∀v' ts' H',Same H H'->Rep H' v' (.tup ts')->jz ts'->iT (iC (.tup ts'))<=5802->Q v' H'
section
variable {P:Program}{w:World}{K:PySem.W.Frag}{mg:Str->Option Value}{aN:Heap}{f:Addr}{fd:FuncData}
abbrev yC:Stmt:=top 111
abbrev Dn:Stmt:=top 112
theorem Gr:bG ["_law_program_here"] ["_law_program_here"] (bA Dn):=⟨rfl,rfl,rfl,by decide+kernel,rfl,by decide+kernel,by decide+kernel⟩
theorem Ye (l:List T)(n:Nat):iT (iC (.tup (l.drop n)))<=iT (iC (.tup l)):=by
 rw[gq,gq];have e:cW l=cW (l.take n)++cW (l.drop n):=by rw[<-wg,ajd]
 rw[e,jl];omega
set_option maxHeartbeats 1000000 in
theorem Us (F:eV K "_law_fitted" "_law_fitted" Dn f fd)(ml:mg "len"=none)(h0:Has P w K mg aN 22 "_law_pieces" ["_law_thing"] (TV 21)):
  cj P w K mg aN eY 23 f fd ["_law_program_here"] Yd:=by
 refine F.ok Gr (len:=λvs H Q E h=>(by obtain⟨v,ts,rfl,_⟩:=h;rfl)) (λcX A aM s H vs Q E hr h=>?_);obtain⟨v,ts,rfl,rv,pk,hw,q⟩:=h;refine⟨_,bx (JH PassesOwn.never (PW.pt (uQ (bL rP (bH bO rfl ml PySem.boot_len (aW (pv 0) aX)) aY (bM _)) (qD (bL rP (bH gW rfl ml PySem.boot_len (aW (WL.pe (Ig aiJ ajo ajp zV zU (aW (bB h0 hr (by decide) rfl (aW (pv 0) aX)) aX))) aX)) aY (bM _)))))
   (bh (cZ (i:=0) Gr.nd rfl (Or.inl rfl) (cL gU (pv 0) (cR aY) dF))))
  (bx (cF (bL rP (bH gW rfl ml PySem.boot_len (aW (WL.pe (Ig aiJ ajo ajp zV zU (aW (bB h0 hr (by decide) rfl (aW (pv 0) aX)) aX))) aX)) aY (bM _))
   (bh (bD (cO (aW (cO (aW bQ (aW aY aX))) aX)))) bK)
  (bh (bD (pv 0)))),?_⟩
 refine Yc (D:=Ends.of Q) (λU H'=>∃v ts,U=[some v]/\Rep H' v (.tup ts)/\jz ts/\Same H H'/\iT (iC (.tup ts))<=15900000) (λN hN=>?_) (λU H1 h=>?_)
 ·refine⟨λm U H'=>∃v ts,U=[some v]/\Rep H' v (.tup ts)/\jz ts/\Same H H'/\iT (iC (.tup ts))<=15900000/\m=ts.length,⟨_,v,ts,rfl,rv,pk,Same.refl H,hw,rfl⟩,?_⟩
  rintro m U H1 ⟨v,ts,rfl,r1,p1,s1,w1,rfl⟩;cases r1 with
  |@tup a us _ ha r=>
  have lv:=r.length;have j1:=wI p1.tr;have e2:=Dl (iC (.tup ts));refine⟨_,rfl,a,us,rfl, .inr (dY.of ha),_,_,rfl,rfl,_,rfl,ig (λc=>?_) (λc=>?_)⟩
  ·have c':(1:Int)<us.length:=of_decide_eq_true c
   refine⟨rfl,_,rfl, .ref a, .tup ts,rfl, .tup ha r,p1.tr,by omega,λpl H2 s2 hp hp1=>⟨" ",pl,iC (.tup ts),rfl,rfl,hp1,?_,_,rfl,big (by omega),_,_,rfl,rfl,_,rfl,ig (λc2=>?_) (λc2=>?_)⟩⟩
   ·show _+_*1<=_
    omega
   ·refine⟨λU' H'=>∃v',U'=[some v']/\Rep H' v' (.tup (ts.drop 1))/\Same H H',?_,?_⟩
    ·rintro U' H' ⟨v',rfl,r',s'⟩
     exact⟨_,by rw[ai5];omega,v',ts.drop 1,rfl,r',p1.drop (by omega),s',aiv (Ye ts 1) w1,rfl⟩
    ·refine⟨_,rfl,1,rfl,a,us,rfl,dY.of (s2 _ _ ha),Bh (by intro e;rw[e]at c';simp at c'),λp hp=>?_⟩
     refine⟨_,rfl, .tup bf ?_,(s1.trans s2).trans (bw hp _)⟩;rw[acG];exact(r.drop 1).same (s2.trans (bw hp _))
   ·exact hN _ _ ⟨_,ts,rfl, .tup (s2 _ _ ha) (r.same s2),p1,s1.trans s2,w1⟩
  ·exact hN _ _ ⟨_,ts,rfl, .tup ha r,p1,s1,w1⟩
 ·obtain⟨v,ts,rfl,r1,p1,s1,w1⟩:=h
  have j1:=wI p1.tr;have e2:=Dl (iC (.tup ts));refine⟨rfl,_,rfl,v, .tup ts,rfl,r1,p1.tr,by omega,λpl H2 s2 hp hp1=>⟨" ",pl,iC (.tup ts),rfl,rfl,hp1,?_,_,rfl,big (by omega),_,_,rfl,rfl,_,rfl,ig (λc2=>?_) (λc2=>?_)⟩⟩
  ·show _+_*1<=_
   omega
  ·refine⟨small (by show 2<=1000000;decide),λp hp=>⟨small (by show 1<=1000000;decide),λp2 hp2=>?_⟩⟩
   exact q _ _ _ ((s1.trans s2).trans ((bw hp _).trans (bw hp2 _))) (.tup bf (.cons (.tup ((bw hp2 _) _ _ bf) (.cons (.str _ (by decide+kernel)) (.cons (.int 7) .nil))) .nil)) jz.seven (by decide+kernel)
  ·have c':¬((2900:Int)<(Txt.join " " (iC (.tup ts))).length):=λh=>c2 (decide_eq_true h)
   exact⟨_,rfl,q _ ts _ (s1.trans s2) (r1.same s2) p1 (j1.2 (by omega))⟩
end
def yD:Sp:=λvs H Q _=>∃(st:Addr),vs=[.ref st]/\gj H st/\∀v ts H',Rep H' v (.tup ts)->jz ts->iT (iC (.tup ts))<=5802->cP st H H'->Q v H'
section
variable {P:Program}{w:World}{K:PySem.W.Frag}{mg:Str->Option Value}{aN:Heap}{f:Addr}{fd:FuncData}
abbrev nP:List Str:=["_law_state","_law_left","_law_rows","_law_k"]
theorem oR:bG nP ["_law_state"] (bA yC):=⟨rfl,rfl,rfl,by decide+kernel,rfl,by decide+kernel,by decide+kernel⟩
set_option maxHeartbeats 2000000 in
theorem O1 (F:eV K "_law_program" "_law_program" yC f fd)(mr:mg "range"=none)(mt:mg "tuple"=none)(mi:mg "int"=none)(ml:mg "len"=none)(h0:Has P w K mg aN 1 "_law_next" ["_law_state","_law_many"] eE)(h2:Has P w K mg aN 3 "_law_small" ["_law_state"] (dD λz=>nameB z=true))(h3:Has P w K mg aN 3 "_law_great" ["_law_state"] (dD λz=>bJ z=true))
  (h5:Has P w K mg aN 20 "_law_declared" ["_law_state","_law_left"] OJ) (h6:Has P w K mg aN 21 "_law_phrase" ["_law_state","_law_deep","_law_left"] (qx 5)) (h7:Has P w K mg aN 23 "_law_fitted" ["_law_program_here"] Yd):
  cj P w K mg aN eY 24 f fd ["_law_state"] yD:=by
 refine F.ok oR (len:=λvs H Q E h=>(by obtain⟨st,rfl,_⟩:=h;rfl)) (λcX A aM s H vs Q E hr h=>?_);obtain⟨st,rfl,hs,q⟩:=h;refine⟨_,bx (cZ (i:=1) oR.nd rfl (Or.inl rfl) (dj (aW aY aX)))
  (bx (cZ (i:=2) oR.nd rfl (Or.inl rfl) (dj aX))
  (bx (cF (bL cN (bB h0 hr (by decide) rfl (aW (pv 0) (aW aY aX))) aY (bM _))
   (bh (jR PassesOwn.never rfl (dw rfl mr (aW aY aX)) (eO (i:=3) oR.nd rfl (Or.inl rfl))
    (bh (fj (jX aiA aiK aiL iW (pv 2) (aW (cO (aW bQ (aW (bB h2 hr (by decide) rfl (aW (pv 0) aX)) (aW (cO aX) (aW (cO (aW (bB h3 hr (by decide) rfl (aW (pv 0) aX)) aX)) aX))))) aX)))))) bK)
  (bx (jR PassesOwn.never rfl (dw rfl mr (aW (bU fG (dj (aW (bB h0 hr (by decide) rfl (aW (pv 0) (aW aY aX))) (aW (bB h0 hr (by decide) rfl (aW (pv 0) (aW aY aX))) aX))) (cC pO rfl mi nO (aW (dR rP (bH bO rfl ml PySem.boot_len (aW (pv 2) aX)) aY (bM _)) aX)) (λ_ _=>rfl)) aX)) (eO (i:=3) oR.nd rfl (Or.inl rfl))
   (bh (fj (jX aiA PySem.F.slot_list_insert PySem.F.type_list_insert Uj (pv 2) (aW (bB h0 hr (by decide) rfl (aW (pv 0) (aW (bY gQ (bH bO rfl ml PySem.boot_len (aW (pv 2) aX)) aY) aX))) (aW (bB h5 hr (by decide) rfl (aW (pv 0) (aW (pv 1) aX))) aX))))))
  (bh (bD (bB h7 hr (by decide) rfl (aW (bY (m8.or d7 (X6 K)) (cC cJ rfl mt boot_tuple (aW (pv 2) aX)) (cO (aW (cO (aW bQ (aW (bB h6 hr (by decide) rfl (aW (pv 0) (aW aY (aW (pv 1) aX)))) aX))) aX))) aX))))))),?_⟩
 refine⟨small (by show 1<=1000000;decide),λlf hlf=>?_⟩;have d1:=ade (i:=30) hs hlf;refine⟨aiP _,λl hl=>?_⟩;have dl:=d1.fresh hl;have g1:cU st lf (upd H lf (.lst [.int 30])) (upd (upd H lf (.lst [.int 30])) l (.lst [])):=iK d1 hl;generalize hB:upd H lf (.lst [.int 30])=B at d1 hl g1 ⊢;dsimp only[oW,Ends.to];refine wJ (D:=Ends.of Q) (λU H'=>∃(o:Option V) (vs:List V) (ts:List T),U=[some (.ref st),some (.ref lf),some (.ref l),o]/\H' l=some (.lst vs)/\cB H' vs ts/\(∀t∈ts,Gd dJ 20 90500 t)/\(ts.length=0\/ts.length=22)/\d9 ts<=132/\cU st lf B H') (λN hN=>?_) (λU H' h=>?_)
 ·refine⟨_,rfl,st,5,rfl,g1.2.st,by decide,by decide,λb H2 b0 b1 g2'=>⟨rfl,_,rfl,ig (λ_=>?_) (λ_=>?_)⟩⟩
  ·have g2:=g1.trans (fO g1.2 g2')
   refine⟨22,rfl,by decide,by decide,fW (n:=(22:Int).toNat) (λi U H'=>∃(o:Option V) (vs:List V) (ts:List T),U=[some (.ref st),some (.ref lf),some (.ref l),o]/\H' l=some (.lst vs)/\cB H' vs ts/\ts.length=i/\(∀t∈ts,Gd dJ 20 90500 t)/\d9 ts<=6*i/\cU st lf B H')
    ⟨none,[],[],rfl,g2'.1 _ _ dl.1 bf, .nil,rfl,(λ_ h=>by cases h),aiP _,g2⟩ ?_ ?_⟩
   ·rintro i U H3 hi ⟨o,vs,ts,rfl,hl3,r3,l3,gP,z3,g3⟩
    have lv:=r3.length;have hi':i<22:=hi;refine⟨_,rfl, .inl ⟨rfl,_,dX.of hl3⟩,?_⟩;refine⟨_,rfl,st,rfl,g3.2.st,λz H4 hz lz g4=>⟨aiP _,λp0 hp0=>?_⟩⟩;have g5:cP st H4 (upd H4 p0 (.tup [])):=cG g4.ok hp0;refine⟨_,rfl,st,rfl,g5.ok,λz2 H6 hz2 lz2 g6=>⟨small (by show 1<=1000000;decide),λp1 hp1=>⟨small (by show 4<=1000000;decide),λp2 hp2=>?_⟩⟩⟩;have g7:cP st H6 (upd H6 p1 (.tup [.str z2])):=cG g6.ok hp1;have g8:=cG (o:=.tup [.str "kind", .str z, .ref p0, .ref p1]) g7.ok hp2;have agj:=(g6.trans (g7.trans g8)).tups g5.ok _ _ bf;obtain⟨a1,a2,a3⟩:=Ow (t:=.tup [.str "kind", .str z, .tup [], .tup [.str z2]]) hl dl g3 hl3 r3 (fO g3.2 ((((g4.trans g5).trans g6).trans g7).trans g8)) (.tup bf (.cons (.str _ (by decide+kernel)) (.cons (.str z (by omega)) (.cons (.tup agj .nil) (.cons (.tup (g8.tups g7.ok _ _ bf) (.cons (.str z2 (by omega)) .nil)) .nil)))));refine⟨l,vs, .ref p2,rfl,rfl,a1,fH (by omega),?_⟩;refine⟨_,_,ts++[_],rfl,bf,a2,by simp[l3],lB gP (Li hz hz2),?_,a3⟩;rw[iB];simp only[d9,T.sz];omega
   ·rintro U H3 ⟨o,vs,ts,rfl,hl3,r3,l3,gP,z3,g3⟩
    exact hN _ _ ⟨_,vs,ts,rfl,hl3,r3,gP, .inr l3,z3,g3⟩
  ·exact hN _ _ ⟨none,[],[],rfl,g2'.1 _ _ dl.1 bf, .nil,(λ_ h=>by cases h), .inl rfl,aiP _,g1.trans (fO g1.2 g2')⟩
 ·obtain⟨o,vs,ts,rfl,hl2,r2,afn,len2,z2,g2⟩:=h
  have lv2:=r2.length;refine⟨_,rfl,st,5,rfl,g2.2.st,by decide,by decide,λd H3 d0 d1' g3'=>⟨_,rfl,st,2,rfl,g3'.ok,by decide,by decide,λe H4 e0 e1 g4'=>⟨small (by show 2<=1000000;decide),λp hp=>?_⟩⟩⟩;have g4:=g2.trans (fO g2.2 (g3'.trans g4'));have dp:=g4.2.fresh hp;have g5:=g4.trans (iK (o:=.lst [.int d, .int e]) g4.2 hp);have hl4:H4 l=some (.lst vs):=g4'.1 _ _ dl.1 (g3'.1 _ _ dl.1 hl2);have hl5:(upd H4 p (.lst [.int d, .int e])) l=some (.lst vs):=bw hp _ _ _ hl4;refine⟨_,rfl,l,vs,rfl, .inl (dX.of hl5),_,_,rfl,rfl, .inr ⟨_,rfl,?_⟩⟩;refine aaQ bf ?_;have hn:0<=(if decide ((0:Int)<vs.length)=true then e else d)/\(if decide ((0:Int)<vs.length)=true then e else d)<=4/\ts.length+(if decide ((0:Int)<vs.length)=true then e else d)<=23:=by
   rcases len2 with z|z
   ·rw[if_neg (by rw[decide_eq_true_eq];omega)]
    omega
   ·rw[if_pos (by rw[decide_eq_true_eq];omega)]
    omega
  generalize (if decide ((0:Int)<vs.length)=true then e else d)=n at hn ⊢;obtain⟨n0,n4,n23⟩:=hn;refine⟨n,rfl,by omega,by omega,fW (n:=n.toNat) (λi U H'=>∃(o:Option V) (vs':List V) (ts':List T),U=[some (.ref st),some (.ref lf),some (.ref l),o]/\H' l=some (.lst vs')/\cB H' vs' ts'/\ts'.length=ts.length+i/\(∀t∈ts',Gd dJ 20 90500 t)/\d9 ts'<=132+i*90500/\cU st lf B H')
   ⟨o,vs,ts,rfl,hl5,(r2.oM (fO g2.2 (g3'.trans g4')) g2.2).same (bw hp _),rfl,afn,by omega,g5⟩ ?_ ?_⟩
  ·rintro i U H6 hi ⟨o6,vs6,ts6,rfl,hl6,r6,l6,Yg,z6,g6⟩
   have lv:=r6.length;refine⟨_,rfl, .inl ⟨rfl,_,dX.of hl6⟩,?_⟩;refine⟨_,rfl,_,rfl,l,vs6,rfl, .inl (dX.of hl6),_,_,rfl,rfl,st,(vs6.length:Int)+1,rfl,g6.2.st,by omega,by omega,λk H7 k0 k1 g7'=>?_⟩;have g7:=fO g6.2 g7';refine⟨_,rfl,_,rfl,st,lf,rfl,g7.2,λv t H8 kt rt g8=>?_⟩;obtain⟨a1,a2,a3⟩:=adk (k:=k.toNat) hl dl g6 hl6 r6 (g7.trans g8) rt;refine⟨l,vs6,k,v,rfl,rfl,a1,k0,by omega,by omega,?_⟩;refine⟨_,_,ts6.take k.toNat++t::ts6.drop k.toNat,rfl,bf,a2,?_,Ur Yg kt,?_,a3⟩
   ·rw[aiG,aiF,aiW,ai5]
    omega
   ·rw[Uq]
    have:=kt.sz;omega
  ·rintro U H6 ⟨o6,vs6,ts6,rfl,hl6,r6,l6,Yg,z6,g6⟩
   have lv:=r6.length;refine⟨_,rfl,l,vs6,rfl, .inl ⟨dX.of hl6,λp1 hp1=>?_⟩⟩;have g7:=g6.trans (iK (o:=.tup vs6) g6.2 hp1);refine⟨_,rfl,_,rfl,st,lf,rfl,g7.2,λv t H8 hg rt hzt g8=>⟨small (by show 2<=1000000;decide),λp2 hp2=>⟨small (by show 1<=1000000;decide),λp3 hp3=>?_⟩⟩⟩;have gm:Gd lA 20 26404 (.tup [.str "main",t]):=Q8 (yw (n:=4) hg hzt);have s2:=bw hp2 (.tup [.str "main",v]);have s3:=bw hp3 (.tup [.ref p2]);have pk:jz (ts6++[.tup [.str "main",t]]):=⟨ts6,_,rfl,by omega,Yg,gm⟩;have hw:iT (iC (.tup (ts6++[.tup [.str "main",t]])))<=15900000:=by
    have h1:=(Je pk.tr).2;have h2:=gm.sz;simp only[T.sz,iB,d9]at h1 h2;omega
   have g9:=(g7.trans g8).trans (cM g8.2 (s2.trans s3));have rm:Rep (upd (upd H8 p2 (.tup [.str "main",v])) p3 (.tup [.ref p2])) (.ref p2) (.tup [.str "main",t]):=.tup (s3 _ _ bf) (.cons (.str _ (by decide+kernel)) (.cons (rt.same (s2.trans s3)) .nil));have h1:(upd (upd H8 p2 (.tup [.str "main",v])) p3 (.tup [.ref p2])) p1=some (.tup vs6):=(s2.trans s3) _ _ (g8.tups g7.2 _ _ bf);have r1:cB (upd (upd H8 p2 (.tup [.str "main",v])) p3 (.tup [.ref p2])) vs6 ts6:=((r6.same (bw hp1 _)).oM g8 g7.2).same (s2.trans s3);have fin:∀v' ts' Ha Hb,Same (upd (upd H8 p2 (.tup [.str "main",v])) p3 (.tup [.ref p2])) Ha->Same Ha Hb->Rep Hb v' (.tup ts')->jz ts'->iT (iC (.tup ts'))<=5802->Q v' Hb:=λv' ts' Ha Hb sa sb r' pk' w'=>q v' ts' Hb r' pk' w' (aaw hs hlf (by rw[hB];exact g9.trans (cM g9.2 (sa.trans sb))));by_cases e0:vs6=[]
   ·subst e0
    have:ts6=[]:=by cases r6;rfl
    subst this;exact .inr ⟨p1,p3,_,rfl,rfl,dY.of h1,dY.of bf, .ref p3,_,rfl, .tup bf (.cons rm .nil),pk,hw,λv' ts' Hb sb r' pk' w'=>fin v' ts' _ Hb (Same.refl _) sb r' pk' w'⟩
   ·exact .inl (o9 h1 r1 e0 bf (.cons rm .nil) (by simp;omega) λp' Ha ra sa=>⟨.ref p',_,rfl,ra,pk,hw,λv' ts' Hb sb r' pk' w'=>fin v' ts' Ha Hb sa sb r' pk' w'⟩)
end
inductive Dm where
 |s (z:Str)
 |i (n:Int)
 |v (k:Nat)
 |nil
 |cons (h t:Dm)
mutual
def inst (ρ:Nat->T):Dm->T
 |.s z=>.str z
 |.i n=>.int n
 |.v k=>ρ k
 |.nil=>.tup []
 |.cons h t=>.tup (inst ρ h::insts ρ t)
def insts (ρ:Nat->T):Dm->List T
 |.cons h t=>inst ρ h::insts ρ t
 |.s _=>[]
 |.i _=>[]
 |.v _=>[]
 |.nil=>[]
end
def mX:Dm->Bool
 |.nil=>true
 |.cons _ t=>mX t
 |_=>false
def mL:Dm->Nat
 |.cons _ t=>mL t+1
 |_=>0
def O2:Dm->Dm->Dm
 |.cons h t,u=>.cons h (O2 t u)
 |_,u=>u
def Ut:Nat->Dm->Dm
 |0,_=>.nil
 |n+1,t=>O2 t (Ut n t)
theorem nF {ρ:Nat->T}:∀{t:Dm},mX t=true->inst ρ t=.tup (insts ρ t)
 |.nil,_=>rfl
 |.cons _ _,_=>rfl
 |.s _,h=>by cases h
 |.i _,h=>by cases h
 |.v _,h=>by cases h
theorem fu {ρ:Nat->T}:∀t:Dm,(insts ρ t).length=mL t
 |.cons _ t=>congrArg (·+1) (fu t)
 |.nil=>rfl
 |.s _=>rfl
 |.i _=>rfl
 |.v _=>rfl
theorem uz {ρ:Nat->T}(u:Dm):∀t:Dm,insts ρ (O2 t u)=insts ρ t++insts ρ u
 |.cons h t=>congrArg (inst ρ h::·) (uz u t)
 |.nil=>rfl
 |.s _=>rfl
 |.i _=>rfl
 |.v _=>rfl
theorem Yh {u:Dm}(hu:mX u=true){t:Dm}(h:mX t=true):mX (O2 t u)=true:=by
 induction t with
 |cons a b _ ih=>exact ih h
 |nil=>exact hu
 |s _=>cases h
 |i _=>cases h
 |v _=>cases h
theorem Yi {t:Dm}(h:mX t=true):∀n,mX (Ut n t)=true
 |0=>rfl
 |n+1=>Yh (Yi h n) h
theorem Gs {ρ:Nat->T}(t:Dm):∀n,insts ρ (Ut n t)=(List.replicate n (insts ρ t)).flatten
 |0=>rfl
 |n+1=>by rw[Ut,uz,Gs t n,aiQ,ai']
abbrev Np:=List (Str×Nat)
def Yj (np:Np)(ev:Nat->Dm)(f:Expr->Option Dm)(g:List Expr->Option Dm):Expr->Option Dm
 |.Constant (.str z) _ _=>if z.length<=100 then some (.s z) else none
 |.Constant (.int i) _ _=>some (.i i)
 |.UnaryOp .USub (.Constant (.int i) _ _) _=>some (.i (-i))
 |.Name x _=>(np.lookup x).map ev
 |.Tuple es _ _=>(g es).bind λt=>if mX t=true/\mL t<=100 then some t else none
 |.BinOp a .Mult (.Constant (.int k) _ _) _=>(f a).bind λt=>if mX t=true/\1<=mL t/\2<=k/\k<=1000/\mL t*k.toNat<=1000 then some (Ut k.toNat t) else none
 |.BinOp a .Add b _=>(f a).bind λt=>(f b).bind λu=>if mX t=true/\mX u=true/\1<=mL t/\1<=mL u/\mL t+mL u<=1000 then some (O2 t u) else none
 |_=>none
mutual
def tmE (np:Np)(ev:Nat->Dm):Nat->Expr->Option Dm
 |0=>λ_=>none
 |n+1=>Yj np ev (tmE np ev n) (Ej np ev n)
def Ej (np:Np)(ev:Nat->Dm):Nat->List Expr->Option Dm
 |0=>λ_=>none
 |n+1=>λes=>match es with
  |[]=>some .nil
  |e::es=>(tmE np ev n e).bind λt=>(Ej np ev n es).bind λu=>some (.cons t u)
end
def Uu (np:Np)(ρ:Nat->T)(ev:Nat->Dm)(U:L2.St)(H:Hp):Prop:=∀x k,np.lookup x=some k->∃v,U[k]?=some (some v)/\Rep H v (inst ρ (ev k))
theorem Uu.same {np:Np}{ρ:Nat->T}{ev:Nat->Dm}{U:L2.St}{H H':Hp}(h:Uu np ρ ev U H)(e:Same H H'):Uu np ρ ev U H':=λx k hk=>by
 obtain⟨v,h1,h2⟩:=h x k hk;exact⟨v,h1,h2.same e⟩
def wK (x:Str):Bool:=!(x=="__debug__")&& !(x=="__classdict__")
def NpN (N:List Str)(np:Np):Prop:=∀x k,np.lookup x=some k->N[k]?=some x/\wK x=true
def afo (N:List Str)(n:Nat)(e:Expr):TE:=λU H Q=>∃(ρ:Nat->T) (np:Np) (ev:Nat->Dm) (τ:Dm),NpN N np/\Uu np ρ ev U H/\tmE np ev n e=some τ/\∀v H',Same H H'->Rep H' v (inst ρ τ)->Q v H'
def afp (N:List Str)(n:Nat)(es:List Expr):TA:=λU H Q=>∃(ρ:Nat->T) (np:Np) (ev:Nat->Dm) (τ:Dm),NpN N np/\Uu np ρ ev U H/\Ej np ev n es=some τ/\∀vs H',Same H H'->cB H' vs (insts ρ τ)->Q vs H'
theorem Yk {np:Np}{ev:Nat->Dm}{n:Nat}{e:Expr}{τ:Dm}(h:tmE np ev n e=some τ)(es:List Expr)(env:Env):starEach (e::es) env=(false,eval e env)::starEach es env:=by
 cases n with
 |zero=>cases h
 |succ n=>
  have h:Yj np ev (tmE np ev n) (Ej np ev n) e=some τ:=h;unfold Yj at h;split at h<;>first|rfl|cases h
theorem Lj {H:Hp}{vs:List V}{ts:List T}(r:cB H vs ts):∀m,cB H (List.replicate m vs).flatten (List.replicate m ts).flatten
 |0=>.nil
 |m+1=>by
  rw[aiQ,aiQ,ai',ai'];exact r.append (Lj r m)
theorem qy {X:Cx}{K:PySem.W.Frag}{N:List Str}(hK:X.K=K)(hN:X.N=N)(hv:∀x∈N,Pu X.env.scope x):∀n:Nat,(∀e,PE X e (afo N n e))/\(∀es,PA X es (afp N n es)):=by
 intro n
 induction n with
 |zero=>
  refine⟨λe aZ s U H Q I h=>?_,λes pos aZ s U H Q I h=>?_⟩
  ·obtain⟨ρ,np,ev,τ,_,_,h,_⟩:=h
   cases h
  ·obtain⟨ρ,np,ev,τ,_,_,h,_⟩:=h
   cases h
 |succ n ih=>
  obtain⟨ihE,ihA⟩:=ih;refine⟨λe aZ s U H Q I h=>?_,λes=>?_⟩
  ·obtain⟨ρ,np,ev,τ,ok,hn,h,q⟩:=h
   change Yj np ev (tmE np ev n) (Ej np ev n) e=some τ at h;unfold Yj at h;split at h
   ·rename_i z _ _
    split at h
    ·cases h
     exact bQ aZ s U H Q I (q _ _ (Same.refl H) (.str z (by omega)))
    ·cases h
   ·cases h
    exact aY aZ s U H Q I (q _ _ (Same.refl H) (.int _))
   ·cases h
    exact pN lK aY aZ s U H Q I ⟨_,rfl,q _ _ (Same.refl H) (.int _)⟩
   ·rename_i x _
    obtain⟨k,hk,e⟩:=Option.map_eq_some_iff.mp h;obtain⟨h1,h2⟩:=ok x k hk;unfold wK at h2;simp only[ain,aiN]at h2;obtain⟨v,he,rv⟩:=hn x k hk;rw[e]at rv;exact GR (by rw[hN];exact h1) (hv x (aiS h1)) h2.1 h2.2 aZ s U H Q I ⟨v,he,q _ _ (Same.refl H) rv⟩
   ·rename_i es _ _
    obtain⟨t,ht,e⟩:=Option.bind_eq_some_iff.mp h;split at e
    ·rename_i hl
     cases e;obtain⟨tp,hl⟩:=hl;refine cO (ihA es) aZ s U H Q I ⟨ρ,np,ev,_,ok,hn,ht,λvs H' s' r=>⟨small (by rw[r.length,fu];show _<=1000000;omega),λp hp=>?_⟩⟩;rw[nF tp]at q;exact q _ _ (s'.trans (bw hp _)) (.tup bf (r.same (bw hp _)))
    ·cases e
   ·rename_i a k _ _ _
    obtain⟨t,ht,e⟩:=Option.bind_eq_some_iff.mp h;split at e
    ·rename_i c
     obtain⟨c1,c2,c3,c4,c5⟩:=c;cases e;refine bY (ZX) (ihE a) aY aZ s U H Q I ⟨ρ,np,ev,t,ok,hn,ht,λv H' s' r=>?_⟩;rw[nF c1]at r;cases r with
     |@tup b vs _ hb r=>
     have lr:=r.length;rw[fu]at lr;obtain⟨m,rfl⟩:∃m:Nat,k=m:=⟨k.toNat,by omega⟩;have em:(m:Int).toNat=m:=rfl;rw[em]at c5;refine⟨b,vs,m,rfl,rfl,dY.of hb,by intro e;rw[e]at lr;simp at lr;omega,by omega,by omega,by rw[lr];omega,λp hp=>?_⟩;rw[nF (Yi c1 _),Gs]at q;exact q _ _ (s'.trans (bw hp _)) (.tup bf (Lj (r.same (bw hp _)) m))
    ·cases e
   ·rename_i a b _
    obtain⟨t,ht,e⟩:=Option.bind_eq_some_iff.mp h;obtain⟨u,hu,e⟩:=Option.bind_eq_some_iff.mp e;split at e
    ·rename_i c
     obtain⟨c1,c2,c3,c4,c5⟩:=c;cases e;refine bY (Lh K hK) (ihE a) (ihE b) aZ s U H Q I ⟨ρ,np,ev,t,ok,hn,ht,λv H' s' r=>⟨ρ,np,ev,u,ok,hn.same s',hu,λv2 H2 s2 r2=>?_⟩⟩;rw[nF c1]at r;rw[nF c2]at r2;cases r with
     |@tup b1 vs _ hb r=>
     cases r2 with
     |@tup b2 ws _ hb2 r2=>
     have lr:=r.length;have lr2:=r2.length;rw[fu]at lr lr2;refine⟨b1,b2,vs,ws,rfl,rfl,dY.of (s2 _ _ hb),dY.of hb2,(by intro e;rw[e]at lr;simp at lr;omega),small (by show _<=1000000;omega),λe=>(by rw[e]at lr2;simp at lr2;omega),λ_ p hp=>?_⟩;rw[nF (Yh c2 c1),uz]at q;exact q _ _ ((s'.trans s2).trans (bw hp _)) (.tup bf ((r.same (s2.trans (bw hp _))).append (r2.same (bw hp _))))
    ·cases e
   ·cases h
  ·cases es with
   |nil=>
    intro pos aZ s U H Q I h;obtain⟨ρ,np,ev,τ,_,_,h,q⟩:=h;cases h;exact aX pos aZ s U H Q I (q _ _ (Same.refl H) .nil)
   |cons e es=>
    intro pos aZ s U H Q I h;obtain⟨ρ,np,ev,τ,ok,hn,h,q⟩:=h;obtain⟨t,ht,h⟩:=Option.bind_eq_some_iff.mp h;obtain⟨u,hu,e'⟩:=Option.bind_eq_some_iff.mp h;cases e';exact aW (ihE e) (ihA es) (Yk ht es _) pos aZ s U H Q I ⟨ρ,np,ev,t,ok,hn,ht,λv H1 s1 r1=>⟨ρ,np,ev,u,ok,hn.same s1,hu,λvs H2 s2 r2=>q _ _ (s1.trans s2) (.cons (r1.same s2) r2)⟩⟩
structure wL (ρ:Nat->T):Prop where
 v:K3 (ρ 0)=true
 x:JB (ρ 1)=true
 t:vC (ρ 2)=true
 o:JB (ρ 3)=false
 o2:Tr 6 (ρ 3)
 o3:iT (iC (ρ 3))<=200
 k2:Tr 6 (ρ 4)
 k3:iT (iC (ρ 4))<=200
theorem vD {z:Str}(h:nameB z=true):bJ z=false/\iz z=false/\dO.lookup z=none:=by
 obtain⟨n,hl,h1,h2,hk⟩:=pX h;refine⟨?_,?_,?_⟩
 ·cases e:bJ z with
  |false=>rfl
  |true=>
   obtain⟨c,r,ez,c1,c2,_⟩:=jY e;have:=hl.mem (c:=c) (by rw[ez];simp);omega
 ·refine Fp λe=>?_
  have:(63:Nat)∈z.cps.toList:=List.mem_of_mem_head? e;have:=hl.mem this;omega
 ·cases e:dO.lookup z with
  |none=>rfl
  |some n=>
   have q:∀p∈dO,p.1∈ju:=by decide+kernel
   exact absurd (q _ (dB e)) hk
theorem mO {z:Str}(h:bJ z=true):nameB z=false/\iz z=false/\dO.lookup z=none:=by
 have g:=(RW h).1;unfold jK at g;simp only[aiy]at g;refine⟨g.1.2,g.1.1.2,?_⟩;cases e:dO.lookup z with
 |none=>rfl
 |some n=>
  have q:∀p∈dO,bJ p.1=false:=by decide+kernel
  have:=q _ (dB e);rw[h]at this;cases this
theorem yE {z:Str}(h:iz z=true):nameB z=false/\bJ z=false:=by
 have g:=Z0 h;unfold iR at g;simp only[aiy]at g;refine⟨g.1,?_⟩;cases e:bJ z with
 |false=>rfl
 |true=>rw[(mO e).2.1]at h;cases h
theorem lV {f:Str->Bool}{t:T}(h:onStr f t=true):∃z,t=.str z/\f z=true:=by
 cases t with
 |str z=>exact⟨z,rfl,h⟩
 |int i=>cases h
 |tup l=>cases h
def Le (ρ:Nat->T)(f:T->Bool)(M:Dm->Bool):Prop:=∀τ,f (inst ρ τ)=true->M τ=true
def nmM:Dm->Bool
 |.s z=>nameB z
 |.v k=>!(k==0||(k==2||k==3))
 |_=>false
def grM:Dm->Bool
 |.s z=>bJ z
 |.v k=>!(k==0||k==1)
 |_=>false
def vrM:Dm->Bool
 |.s z=>iz z
 |.v k=>!(k==1||k==2)
 |_=>false
def nG (lo hi:Nat):Dm->Bool
 |.v k=>!(k==0||(k==1||k==2))
 |.nil=>decide (lo<=0)
 |.cons _ t=>decide (lo<=mL t+1)&&decide (mL t+1<=hi)
 |_=>false
def yF (M:Dm->Bool):Dm->Bool
 |.cons h t=>M h&&yF M t
 |_=>true
def lC (lo hi:Nat)(M:Dm->Bool)(τ:Dm):Bool:=nG lo hi τ&&yF M τ
def wU (M:Dm->Bool):Nat->Dm->Bool
 |0, .cons h _=>M h
 |i+1, .cons _ t=>wU M i t
 |_, .v _=>true
 |_,_=>false
def Lk:Nat->Dm->Dm
 |0,t=>t
 |n+1, .cons _ t=>Lk n t
 |_+1,t=>t
def yX (n:Nat)(M:Dm->Bool)(τ:Dm):Bool:=!(mX τ)||M (Lk n τ)
def Yl (w:Str):Dm->Bool
 |.s z=>decide (z=w)
 |.v _=>true
 |_=>false
def Ln:Dm->Bool
 |.s z=>jK z
 |.v _=>true
 |.cons _ t=>decide (1<=mL t)&&decide (mL t<=3)
 |_=>false
def Jl:Dm->Bool
 |.s z=>iZ z
 |.cons (.s z) t=>if z="fun" then decide (mL t=2) else true
 |.nil=>false
 |_=>true
def abS:Dm->Bool
 |.i n=>decide (0<=n)&&decide (n<=2)
 |.v k=>!(k==0||(k==1||k==2))
 |_=>false
def Dp (τ:Dm):Bool:=grM τ||lC 2 3 grM τ
def Jm (τ:Dm):Bool:=nG 2 2 τ&&(wU grM 0 τ&&wU Dp 1 τ)
def adl (τ:Dm):Bool:=nG 1 5 τ&&(wU grM 0 τ&&yX 1 (yF Ln) τ)
def O4 (τ:Dm):Bool:=nG 2 2 τ&&(wU nmM 0 τ&&wU Ln 1 τ)
def Q9 (most:Nat)(M:Dm->Bool)(τ:Dm):Bool:=wU nmM 1 τ&&(wU (lC 0 3 vrM) 2 τ&&yX 3 (lC 1 most M) τ)
def Ym (τ:Dm):Bool:=nG 3 3 τ&&(wU nmM 1 τ&&((wU (Yl "hide") 0 τ&&wU abS 2 τ)||(wU (Yl "val") 0 τ&&wU Ln 2 τ)))
def Yn (τ:Dm):Bool:=wU grM 1 τ&&(wU (lC 0 2 Jm) 2 τ&&yX 3 (lC 0 24 Ym) τ)
def yG (τ:Dm):Bool:=nG 3 4 τ&&(wU nmM 1 τ&&((wU (Yl "hide") 0 τ&&(nG 4 4 τ&&(wU (lC 0 2 vrM) 2 τ&&wU Ln 3 τ)))||(wU (Yl "val") 0 τ&&(nG 3 3 τ&&wU Jl 2 τ))))
def Yo (τ:Dm):Bool:=lC 0 24 yG τ
def Yp (τ:Dm):Bool:=wU grM 1 τ&&(wU Dp 2 τ&&yX 3 Yo τ)
def O5 (τ:Dm):Bool:=wU grM 1 τ&&(wU (lC 1 2 Jm) 2 τ&&(wU Dp 3 τ&&yX 4 Yo τ))
def adn (τ:Dm):Bool:=yX 1 (lC 3 4 grM) τ
def Yq:Nat->Dm->Bool
 |0=>Q9 6 adl
 |1=>Q9 4 O4
 |2=>Yn
 |3=>Yp
 |4=>O5
 |_=>adn
def abT:Dm->Bool
 |.cons (.s z) t=>(match dO.lookup z with|some n=>Yq n (.cons (.s z) t)|none=>false)
 |.cons (.v k) _=>!(k==1||k==2)
 |.v k=>!(k==0||(k==1||k==2))
 |_=>false
section
variable {ρ:Nat->T}
theorem ne3 {k:Nat}{p:Prop}(h:k=0->p)(h1:k=1->p)(h2:k=2->p)(h3:(!(k==0||(k==1||k==2)))=true->p):p:=by
 rcases Nat.lt_or_ge k 3 with c|c
 ·match k,c with
  |0,_=>exact h rfl
  |1,_=>exact h1 rfl
  |2,_=>exact h2 rfl
 ·refine h3 ?_
  have a:(k==0)=false:=by simp;omega
  have b:(k==1)=false:=by simp;omega
  have d:(k==2)=false:=by simp;omega
  rw[a,b,d];rfl
theorem Ra (R:wL ρ):Le ρ JB nmM:=λτ h=>by
 cases τ with
 |s z=>exact h
 |i n=>cases h
 |nil=>cases h
 |cons a b=>cases h
 |v k=>
  refine aiN _ |>.mpr (Bool.eq_false_iff.mpr λc=>?_)
  simp only[aiM,beq_iff_eq]at c;have h:JB (ρ k)=true:=h;rcases c with rfl|rfl|rfl
  ·obtain⟨z,e,hz⟩:=lV R.v
   rw[e]at h;have:nameB z=true:=h;rw[(yE hz).1]at this;cases this
  ·obtain⟨z,e,hz⟩:=lV R.t
   rw[e]at h;have:nameB z=true:=h;rw[(mO hz).1]at this;cases this
  ·rw[R.o]at h;cases h
theorem yZ (R:wL ρ):Le ρ vC grM:=λτ h=>by
 cases τ with
 |s z=>exact h
 |i n=>cases h
 |nil=>cases h
 |cons a b=>cases h
 |v k=>
  refine aiN _ |>.mpr (Bool.eq_false_iff.mpr λc=>?_)
  simp only[aiM,beq_iff_eq]at c;have h:vC (ρ k)=true:=h;rcases c with rfl|rfl
  ·obtain⟨z,e,hz⟩:=lV R.v
   rw[e]at h;have:bJ z=true:=h;rw[(yE hz).2]at this;cases this
  ·obtain⟨z,e,hz⟩:=lV R.x
   rw[e]at h;have:bJ z=true:=h;rw[(vD hz).1]at this;cases this
theorem abU (R:wL ρ):Le ρ K3 vrM:=λτ h=>by
 cases τ with
 |s z=>exact h
 |i n=>cases h
 |nil=>cases h
 |cons a b=>cases h
 |v k=>
  refine aiN _ |>.mpr (Bool.eq_false_iff.mpr λc=>?_)
  simp only[aiM,beq_iff_eq]at c;have h:K3 (ρ k)=true:=h;rcases c with rfl|rfl
  ·obtain⟨z,e,hz⟩:=lV R.x
   rw[e]at h;have:iz z=true:=h;rw[(vD hz).2.1]at this;cases this
  ·obtain⟨z,e,hz⟩:=lV R.t
   rw[e]at h;have:iz z=true:=h;rw[(mO hz).2.1]at this;cases this
theorem Yr (R:wL ρ){f:T->Bool}(hf:∀z,f (.str z)=false){k:Nat}(h:f (ρ k)=true):(!(k==0||(k==1||k==2)))=true:=by
 refine ne3 (k:=k) ?_ ?_ ?_ id
 ·rintro rfl
  obtain⟨z,e,_⟩:=lV R.v;rw[e,hf]at h;cases h
 ·rintro rfl
  obtain⟨z,e,_⟩:=lV R.x;rw[e,hf]at h;cases h
 ·rintro rfl
  obtain⟨z,e,_⟩:=lV R.t;rw[e,hf]at h;cases h
theorem tV (R:wL ρ)(lo hi:Nat):Le ρ (dz lo hi) (nG lo hi):=λτ h=>by
 cases τ with
 |s z=>cases h
 |i n=>cases h
 |nil=>
  have h:(decide (lo<=0)&&decide (0<=hi))=true:=h;simp only[ain]at h;exact h.1
 |cons a b=>
  have h:(decide (lo<=(insts ρ b).length+1)&&decide ((insts ρ b).length+1<=hi))=true:=h;rw[fu]at h;exact h
 |v k=>exact Yr R (λ_=>rfl) h
theorem O6 {f:T->Bool}{M:Dm->Bool}(h:Le ρ f M):∀τ,(insts ρ τ).all f=true->yF M τ=true
 |.s _,_=>rfl
 |.i _,_=>rfl
 |.v _,_=>rfl
 |.nil,_=>rfl
 |.cons a b,q=>by
  rw[insts,ajf,ain]at q;show(M a&&yF M b)=true;rw[h a q.1,O6 h b q.2];rfl
theorem nH (R:wL ρ){f:T->Bool}{M:Dm->Bool}(h:Le ρ f M)(lo hi:Nat):Le ρ (cI lo hi f) (lC lo hi M):=λτ q=>by
 have h1:dz lo hi (inst ρ τ)=true:=by
  cases e:inst ρ τ with
  |str z=>rw[e]at q;cases q
  |int z=>rw[e]at q;cases q
  |tup l=>rw[e]at q;exact(ain _ _ ▸ q:_/\_).1
 unfold lC;rw[tV R lo hi τ h1,ai3];cases τ with
 |s z=>rfl
 |i n=>rfl
 |nil=>rfl
 |v k=>rfl
 |cons a b=>exact O6 h (.cons a b) (ain _ _ ▸ (show(cA lo hi (insts ρ (.cons a b))&&(insts ρ (.cons a b)).all f)=true from q):_/\_).2
theorem O7 {f:T->Bool}{M:Dm->Bool}(h:Le ρ f M):∀(τ:Dm) (i:Nat),(match(insts ρ τ)[i]? with|some x=>f x|none=>false)=true->wU M i τ=true
 |.s _,i,q=>by simp[insts]at q
 |.i _,i,q=>by simp[insts]at q
 |.v _,i,q=>by cases i<;>rfl
 |.nil,i,q=>by simp[insts]at q
 |.cons a b,0,q=>h a q
 |.cons a b,i+1,q=>O7 h b i q
theorem iU {f:T->Bool}{M:Dm->Bool}(h:Le ρ f M)(i:Nat):Le ρ (rR i f) (wU M i):=λτ q=>by
 cases τ with
 |s z=>cases q
 |i n=>cases q
 |nil=>exact O7 h .nil i q
 |v k=>cases i<;>rfl
 |cons a b=>exact O7 h (.cons a b) i q
theorem Rb:∀(n:Nat) {τ:Dm},mX τ=true->mX (Lk n τ)=true/\insts ρ (Lk n τ)=(insts ρ τ).drop n
 |0,τ,h=>⟨h,rfl⟩
 |n+1, .cons a b,h=>Rb n (τ:=b) h
 |n+1, .nil,h=>⟨rfl,rfl⟩
 |n+1, .s _,h=>by cases h
 |n+1, .i _,h=>by cases h
 |n+1, .v _,h=>by cases h
theorem uD {f:T->Bool}{M:Dm->Bool}(h:Le ρ f M)(n:Nat):Le ρ (uO n f) (yX n M):=λτ q=>by
 unfold yX;cases e:mX τ with
 |false=>rfl
 |true=>
  obtain⟨d1,d2⟩:=Rb (ρ:=ρ) n e;have:=h (Lk n τ);rw[nF d1,d2]at this;rw[nF e]at q;rw[this q];rfl
theorem aaR (w:Str):Le ρ (isW w) (Yl w):=λτ h=>by
 cases τ with
 |s z=>exact h
 |v k=>rfl
 |i n=>cases h
 |nil=>cases h
 |cons a b=>cases h
open Classical in
theorem Rc {kids:T->Option (List T)}{t:T}(h:Iu kids t=true):∃l,kids t=some l:=by
 unfold Iu at h;obtain⟨e,_⟩:Good kids t:=of_decide_eq_true h;exact⟨_,e⟩
theorem Ac:Le ρ kindB Ln:=λτ h=>by
 obtain⟨l,e⟩:=Rc h;cases τ with
 |s z=>
  have e:(if jK z=true then some ([]:List T) else none)=some l:=e;split at e
  ·assumption
  ·cases e
 |v k=>rfl
 |i n=>cases e
 |nil=>cases e
 |cons a b=>
  rw[inst,jx,fu]at e;show(decide (1<=mL b)&&decide (mL b<=3))=true;rw[ain,decide_eq_true_eq,decide_eq_true_eq];split at e
  ·rename_i c;omega
  ·split at e
   ·rename_i c;exact c.1
   ·cases e
theorem afq {r l:List T}(h:tH 0 r=some l):r.length=2:=by
 match r,h with
 |[a,e],_=>rfl
 |[],h=>cases h
 |[a],h=>cases h
 |a::b::c::d,h=>cases h
theorem Gu:Le ρ gw Jl:=λτ h=>by
 obtain⟨l,e⟩:=Rc h;cases τ with
 |s z=>
  have e:(if iZ z=true then some ([]:List T) else none)=some l:=e;split at e
  ·assumption
  ·cases e
 |v k=>rfl
 |i n=>rfl
 |nil=>cases e
 |cons a b=>
  cases a with
  |v k=>rfl
  |i n=>rfl
  |nil=>rfl
  |cons c d=>rfl
  |s z=>
   show(if z="fun" then decide (mL b=2) else true)=true;split
   ·rename_i c
    subst c;have e:ql (.tup (.str "fun"::insts ρ b))=some l:=e;rw[Gi Dg.1 Dg.2]at e;rw[decide_eq_true_eq,<-fu (ρ:=ρ)];exact afq e
   ·rfl
theorem aaS (R:wL ρ):Le ρ Gg abS:=λτ h=>by
 cases τ with
 |s z=>cases h
 |i n=>exact(ain _ _ ▸ (show(uF (.int n)&&ada (.int n))=true from h):_/\_).2
 |nil=>cases h
 |cons a b=>cases h
 |v k=>exact Yr R (f:=Gg) (λ_=>rfl) h
theorem Rf {t:T}{n:Nat}(h:nq t=n+1):dz (n+1) (n+1) t=true:=by
 cases t with
 |int i=>cases h
 |str z=>cases h
 |tup l=>
  have h:l.length=n+1:=h;show cA _ _ l=true;unfold cA;rw[h];simp
theorem Dq (R:wL ρ):Le ρ iJ Dp:=λτ h=>by
 unfold iJ at h;unfold Dp;rw[aiM]at h ⊢;exact h.imp (yZ R τ) (nH R (yZ R) 2 3 τ)
theorem Lq (R:wL ρ):Le ρ jV Jm:=λτ h=>by
 unfold jV at h;unfold Jm;simp only[ain]at h ⊢;exact⟨tV R 2 2 τ h.1,iU (yZ R) 0 τ h.2.1,iU (Dq R) 1 τ h.2.2⟩
theorem aaT {f:T->Bool}{M:Dm->Bool}(h:Le ρ f M):Le ρ (allB f) (yF M):=λτ q=>by
 cases τ with
 |s z=>rfl
 |i n=>rfl
 |nil=>rfl
 |v k=>rfl
 |cons a b=>exact O6 h (.cons a b) q
theorem ado (R:wL ρ):Le ρ zE adl:=λτ h=>by
 unfold zE at h;unfold adl;simp only[ain]at h ⊢;exact⟨tV R 1 5 τ h.1,iU (yZ R) 0 τ h.2.1,uD (aaT Ac) 1 τ h.2.2⟩
theorem Ys (R:wL ρ):Le ρ oK O4:=λτ h=>by
 unfold oK at h;unfold O4;simp only[ain]at h ⊢;exact⟨tV R 2 2 τ h.1,iU (Ra R) 0 τ h.2.1,iU Ac 1 τ h.2.2⟩
theorem Rg (R:wL ρ){f:T->Bool}{M:Dm->Bool}(hf:Le ρ f M)(most:Nat):Le ρ (Gf most f) (Q9 most M):=λτ h=>by
 unfold Gf at h;unfold Q9;simp only[ain,aiN,aiy,ajk]at h ⊢;exact⟨iU (Ra R) 1 τ h.1.2,iU (nH R (abU R) 0 3) 2 τ h.2.1,uD (nH R hf 1 most) 3 τ h.2.2⟩
theorem aaU (R:wL ρ):Le ρ rT Ym:=λτ h=>by
 unfold rT at h;unfold Ym;simp only[ain,aiN,aiy,ajk,aiM]at h ⊢;refine⟨tV R 3 3 τ h.1.1,iU (Ra R) 1 τ h.1.2,?_⟩;have h2:=h.2;split at h2
 ·rename_i c
  exact .inl ⟨iU (aaR _) 0 τ c,iU (aaS R) 2 τ h2⟩
 ·rw[ain]at h2
  exact .inr ⟨iU (aaR _) 0 τ h2.1,iU Ac 2 τ h2.2⟩
theorem aaV (R:wL ρ):Le ρ Iw Yn:=λτ h=>by
 unfold Iw at h;unfold Yn;simp only[ain,aiN,aiy,ajk]at h ⊢;exact⟨iU (yZ R) 1 τ h.1.2,iU (nH R (Lq R) 0 2) 2 τ h.2.1,uD (nH R (aaU R) 0 24) 3 τ h.2.2⟩
theorem Lr (R:wL ρ):Le ρ eN yG:=λτ h=>by
 unfold eN at h;unfold yG;simp only[ain,aiN,aiy,ajk,aiM]at h ⊢;refine⟨tV R 3 4 τ h.1.1,iU (Ra R) 1 τ h.1.2,?_⟩;have h2:=h.2;split at h2
 ·rename_i c
  simp only[ain,decide_eq_true_eq]at h2;exact .inl ⟨iU (aaR _) 0 τ c,tV R 4 4 τ (Rf (by omega)),iU (nH R (abU R) 0 2) 2 τ h2.2.1,iU Ac 3 τ h2.2.2⟩
 ·simp only[ain,decide_eq_true_eq]at h2
  exact .inr ⟨iU (aaR _) 0 τ h2.1,tV R 3 3 τ (Rf (by omega)),iU Gu 2 τ h2.2.2⟩
theorem Rh (R:wL ρ):Le ρ CK Yo:=nH R (Lr R) 0 24
theorem aaW (R:wL ρ):Le ρ Iz Yp:=λτ h=>by
 unfold Iz at h;unfold Yp;simp only[ain]at h ⊢;exact⟨iU (yZ R) 1 τ h.2.1,iU (Dq R) 2 τ h.2.2.1,uD (Rh R) 3 τ h.2.2.2⟩
theorem Yt (R:wL ρ):Le ρ zZ O5:=λτ h=>by
 unfold zZ at h;unfold O5;simp only[ain,aiN,aiy,ajk]at h ⊢;exact⟨iU (yZ R) 1 τ h.1.2,iU (nH R (Lq R) 1 2) 2 τ h.2.1,iU (Dq R) 3 τ h.2.2.1,uD (Rh R) 4 τ h.2.2.2⟩
theorem aaX (R:wL ρ):∀n,Le ρ (lq n) (Yq n)
 |0=>Rg R (ado R) 6
 |1=>Rg R (Ys R) 4
 |2=>aaV R
 |3=>aaW R
 |4=>Yt R
 |_+5=>uD (nH R (yZ R) 3 4) 1
theorem aaY (R:wL ρ):Le ρ dJ abT:=λτ h=>by
 cases τ with
 |s z=>cases h
 |i n=>cases h
 |nil=>cases h
 |v k=>exact Yr R (f:=dJ) (λ_=>rfl) h
 |cons a b=>
  cases a with
  |i n=>cases h
  |nil=>cases h
  |cons c d=>cases h
  |v k=>
   refine aiN _ |>.mpr (Bool.eq_false_iff.mpr λc=>?_)
   simp only[aiM,beq_iff_eq]at c;have h:dJ (.tup (ρ k::insts ρ b))=true:=h;rcases c with rfl|rfl
   ·obtain⟨z,e,hz⟩:=lV R.x
    rw[e]at h;have h:(match dO.lookup z with|some n=>lq n (.tup (.str z::insts ρ b))|none=>false)=true:=h;rw[(vD hz).2.2]at h;cases h
   ·obtain⟨z,e,hz⟩:=lV R.t
    rw[e]at h;have h:(match dO.lookup z with|some n=>lq n (.tup (.str z::insts ρ b))|none=>false)=true:=h;rw[(mO hz).2.2]at h;cases h
  |s z=>
   have h:(match dO.lookup z with|some n=>lq n (.tup (.str z::insts ρ b))|none=>false)=true:=h;show(match dO.lookup z with|some n=>Yq n (.cons (.s z) b)|none=>false)=true;cases e:dO.lookup z with
   |none=>rw[e]at h;cases h
   |some n=>
    rw[e]at h;exact aaX R n (.cons (.s z) b) h
end
mutual
def trM:Dm->Nat->Bool
 |.s z,_=>decide (z∈ju)||(nameB z||bJ z)
 |.i n,_=>decide (-(10^30)<n)&&decide (n<10^30)
 |.v k,d=>decide (6<=d)&&decide (k<=4)
 |.nil,d=>decide (1<=d)
 |.cons h t,d=>decide (1<=d)&&(trM h (d-1)&&aaZ t (d-1))
def aaZ:Dm->Nat->Bool
 |.cons h t,d=>trM h d&&aaZ t d
 |.s _,_=>true
 |.i _,_=>true
 |.v _,_=>true
 |.nil,_=>true
end
mutual
def wM:Dm->Nat
 |.s z=>z.length+3
 |.i _=>34
 |.v _=>200
 |.nil=>8
 |.cons h t=>8+(wM h+wMs t)
def wMs:Dm->Nat
 |.cons h t=>wM h+wMs t
 |.s _=>0
 |.i _=>0
 |.v _=>0
 |.nil=>0
end
theorem adp {ρ:Nat->T}(R:wL ρ){k:Nat}(hk:k<=4):Tr 6 (ρ k)/\iT (iC (ρ k))<=200:=by
 have w:∀{t:T} {f:Str->Bool},onStr f t=true->(∀z,f z=true->fV (.str z))->Tr 6 t/\iT (iC t)<=200:=λh g=>by
  obtain⟨z,rfl,hz⟩:=lV h;exact⟨.at (g z hz),aiv (vf (g z hz)) (by decide)⟩
 match k,hk with
 |0,_=>exact w R.v λz=>xU
 |1,_=>exact w R.x λz=>iD
 |2,_=>exact w R.t λz=>gM
 |3,_=>exact⟨R.o2,R.o3⟩
 |4,_=>exact⟨R.k2,R.k3⟩
mutual
theorem Yu {ρ:Nat->T}(R:wL ρ):∀(τ:Dm) (d:Nat),trM τ d=true->Tr d (inst ρ τ)/\iT (iC (inst ρ τ))<=wM τ
 |.s z,d,h=>by
  have a:fV (.str z):=by
   simp only[trM,aiM,decide_eq_true_eq]at h;rcases h with h|h|h
   ·exact qT h
   ·exact iD h
   ·exact gM h
  refine⟨.at a,?_⟩;rw[inst,tE a,mK,vZ];exact aio _
 |.i n,d,h=>by
  simp only[trM,ain,decide_eq_true_eq]at h;exact⟨.at (xV h.1 h.2),vf (xV h.1 h.2)⟩
 |.v k,d,h=>by
  simp only[trM,ain,decide_eq_true_eq]at h;obtain⟨a,b⟩:=adp R h.2;exact⟨a.mono h.1,b⟩
 |.nil,d,h=>by
  simp only[trM,decide_eq_true_eq]at h;obtain⟨m,rfl⟩:∃m,d=m+1:=⟨d-1,by omega⟩;exact⟨.tp λt ht=>(by cases ht),by rw[inst,gq];exact aio _⟩
 |.cons a b,d,h=>by
  simp only[trM,ain,decide_eq_true_eq]at h;obtain⟨m,rfl⟩:∃m,d=m+1:=⟨d-1,by omega⟩;obtain⟨h1,h2⟩:=Yu R a m h.2.1;obtain⟨h3,h4⟩:=Yv R b m h.2.2;refine⟨.tp λt ht=>?_,?_⟩
  ·rcases aiB.mp ht with rfl|ht
   ·exact h1
   ·exact h3 t ht
  ·rw[inst,gq,cW,jl]
   simp only[wM];omega
theorem Yv {ρ:Nat->T}(R:wL ρ):∀(τ:Dm) (d:Nat),aaZ τ d=true->(∀t∈insts ρ τ,Tr d t)/\iT (cW (insts ρ τ))<=wMs τ
 |.s _,d,h=>⟨λt ht=>(by cases ht),aio _⟩
 |.i _,d,h=>⟨λt ht=>(by cases ht),aio _⟩
 |.v _,d,h=>⟨λt ht=>(by cases ht),aio _⟩
 |.nil,d,h=>⟨λt ht=>(by cases ht),aio _⟩
 |.cons a b,d,h=>by
  simp only[aaZ,ain]at h;obtain⟨h1,h2⟩:=Yu R a d h.1;obtain⟨h3,h4⟩:=Yv R b d h.2;refine⟨λt ht=>?_,?_⟩
  ·rcases aiB.mp ht with rfl|ht
   ·exact h1
   ·exact h3 t ht
  ·rw[insts,cW,jl]
   simp only[wMs];omega
end
structure Yw (d:T):Prop where
 no:dJ d=false
 tr:Tr 12 d
 w:iT (iC d)<=12000
def Uv (τ:Dm):Bool:=!(abT τ)&&(trM τ 12&&decide (wM τ<=12000))
theorem Yx {ρ:Nat->T}(R:wL ρ){τ:Dm}(h:Uv τ=true):Yw (inst ρ τ):=by
 unfold Uv at h;simp only[ain,aiN,decide_eq_true_eq]at h;obtain⟨a,b⟩:=Yu R τ 12 h.2.1;refine⟨?_,a,by omega⟩;cases e:dJ (inst ρ τ) with
 |false=>rfl
 |true=>rw[aaY R τ e]at h;cases h.1
theorem Jo {ρ:Nat->T}(R:wL ρ):∀{τ:Dm},yF Uv τ=true->∀d∈insts ρ τ,Yw d
 |.s _,_,d,hd=>by cases hd
 |.i _,_,d,hd=>by cases hd
 |.v _,_,d,hd=>by cases hd
 |.nil,_,d,hd=>by cases hd
 |.cons a b,h,d,hd=>by
  simp only[yF,ain]at h;rcases aiB.mp hd with rfl|hd
  ·exact Yx R h.1
  ·exact Jo R h.2 d hd
inductive Vl where
 |th (τ:Dm)
 |ls (τ:Dm)
abbrev En:=List (Option Vl)
def Uw (ρ:Nat->T)(H:Hp)(v:V):Vl->Prop
 |.th τ=>Rep H v (inst ρ τ)
 |.ls τ=>∃p vs,v=.ref p/\H p=some (.lst vs)/\cB H vs (insts ρ τ)
theorem Uw.same {ρ:Nat->T}{H H':Hp}{v:V}{l:Vl}(h:Uw ρ H v l)(e:Same H H'):Uw ρ H' v l:=by
 cases l with
 |th τ=>exact Rep.same e h
 |ls τ=>
  obtain⟨p,vs,e1,e2,e3⟩:=h;exact⟨p,vs,e1,e _ _ e2,e3.same e⟩
structure lD (ρ:Nat->T)(en:En)(U:L2.St)(H:Hp):Prop where
 len:en.length=U.length
 gt:∀(k:Nat) (l:Vl),en[k]?=some (some l)->∃v,U[k]?=some (some v)/\Uw ρ H v l
theorem lD.same {ρ:Nat->T}{en:En}{U:L2.St}{H H':Hp}(h:lD ρ en U H)(e:Same H H'):lD ρ en U H' :=
 ⟨h.len,λk l hk=>let ⟨v,a,b⟩:=h.gt k l hk;⟨v,a,b.same e⟩⟩
theorem lD.set {ρ:Nat->T}{en:En}{U:L2.St}{H H':Hp}(h:lD ρ en U H)(e:Same H H'){k:Nat}{v:V}{l:Vl}(r:Uw ρ H' v l):lD ρ (en.set k (some l)) (U.set k (some v)) H' :=
 ⟨by rw[ajS,ajS,h.len],λj m hj=>by
  rw[List.getElem?_set]at hj ⊢;by_cases c:k=j
  ·rw[if_pos c]at hj ⊢
   by_cases d:k<en.length
   ·rw[if_pos d]at hj
    rw[if_pos (by rw[<-h.len];exact d)];cases hj;exact⟨v,rfl,r⟩
   ·rw[if_neg d]at hj;cases hj
  ·rw[if_neg c]at hj ⊢
   obtain⟨u,a,b⟩:=h.gt j m hj;exact⟨u,a,b.same e⟩⟩
def abV:Option (Option Vl)->Bool
 |some (some (.th _))=>true
 |_=>false
def Ek (N:List Str)(en:En):Np:=((N.zip (List.range N.length)).filter λp=>N[p.2]?==some p.1&&(abV en[p.2]?&&wK p.1))
def El (en:En)(k:Nat):Dm:=match en[k]? with|some (some (.th τ))=>τ|_=>.nil
theorem abW {N:List Str}{en:En}{x:Str}{k:Nat}(h:(Ek N en).lookup x=some k):N[k]?=some x/\en[k]?=some (some (.th (El en k)))/\wK x=true:=by
 have m:=dB h;have m2:=(List.mem_filter.mp m).2;simp only[ain,beq_iff_eq]at m2;obtain⟨a,b,c⟩:=m2;refine⟨a,?_,c⟩;unfold El;unfold abV at b;split at b
 ·rename_i τ e;rw[e]
 ·cases b
theorem lD.Em {N:List Str}{ρ:Nat->T}{en:En}{U:L2.St}{H:Hp}(h:lD ρ en U H):Uu (Ek N en) ρ (El en) U H:=λx k hk=>by
 obtain⟨_,b,_⟩:=abW hk;exact h.gt k _ b
structure adq (X:Cx)(K:PySem.W.Frag)(N:List Str)(sc:Scope):Prop where
 k:X.K=K
 n:X.N=N
 s:X.env.scope=sc
 nd:N.Nodup
 loc:∀x∈N,Loc sc x
 fn:∀x,X.fn x=true
 calm:X.calm=true
theorem Ad {sc:Scope}{x:Str}(h:Loc sc x):Pu sc x:=h.elim .inl λh=>.inr (.inl h)
theorem uP {N:List Str}{en:En}:NpN N (Ek N en):=λx k hk=>let ⟨a,_,c⟩:=abW hk;⟨a,c⟩
def O8 (N:List Str)(x:Str):Option Nat:=(N.zip (List.range N.length)).lookup x
theorem abX {N:List Str}{x:Str}{k:Nat}(h:O8 N x=some k):N[k]?=some x:=by
 have m:=dB h;obtain⟨i,hi⟩:=List.getElem?_of_mem m;obtain⟨a,b⟩:=List.getElem?_zip_eq_some.mp hi;have:i=k:=by
  rw[List.getElem?_range (by have:=(List.getElem?_eq_some_iff.mp b).1;simpa using this)]at b;exact Option.some.inj b
 rw[this]at a;exact a
def nJ (aQ:Scope)(r:Str):List Str:=(aQ.names.filter λy=>y.2==.free).map (·.1)
def aa0 (f:Dm->Option Dm):Dm->Option Dm
 |.nil=>some .nil
 |.cons h t=>(f h).bind λa=>(aa0 f t).bind λb=>some (.cons a b)
 |_=>none
def adt (N:List Str)(en:En)(x:Str):Option Dm:=(O8 N x).bind λk=>match en[k]? with|some (some (.ls τ))=>if wK x=true/\mX τ=true then some τ else none|_=>none
def Yy (N:List Str)(en:En)(bV:List Str)(h:Dm):En:=some (.th h)::(bV.map λy=>(O8 N y).getD 1000).map λk=>(en[k]?).join
def exL (N:List Str)(sc:Scope)(en:En)(n:Nat):Nat->Expr->Option Dm
 |0,_=>none
 |m+1,e=>match e with
  |.Name x _=>adt N en x
  |.List es _=>(Ej (Ek N en) (El en) n es).bind λτ=>if mX τ=true/\mL τ<=1000 then some τ else none
  |.BinOp a .Add b _=>(exL N sc en n m a).bind λt=>(exL N sc en n m b).bind λu=>if mX t=true/\mX u=true/\mL t+mL u<=1000 then some (O2 t u) else none
  |.ListComp rZ [⟨.Name r _, .Name it _,[],0⟩] aQ _=>
   if Av sc N r (nJ aQ r) ((nJ aQ r).map λy=>(O8 N y).getD 1000) aQ=true/\(r::nJ aQ r).all wK=true then
    (adt N en it).bind λt=>if mX t=true/\mL t<=1000 then
     (aa0 (λh=>tmE (Ek (r::nJ aQ r) (Yy N en (nJ aQ r) h)) (El (Yy N en (nJ aQ r) h)) n rZ) t).bind λτ=>if mX τ=true then some τ else none
    else none
   else none
  |_=>none
def agk (N:List Str)(sc:Scope)(n m:Nat)(e:Expr):TE:=λU H Q=>∃(ρ:Nat->T) (en:En) (τ:Dm),lD ρ en U H/\exL N sc en n m e=some τ/\∀p vs H',Same H H'->H' p=some (.lst vs)->cB H' vs (insts ρ τ)->Q (.ref p) H'
theorem lD.nm {ρ:Nat->T}{en:En}{U:L2.St}{H:Hp}{N:List Str}{x:Str}{τ:Dm}(h:lD ρ en U H)(e:adt N en x=some τ):
  ∃(k:Nat) (p:Addr) (vs:List V),N[k]?=some x/\wK x=true/\mX τ=true/\U[k]?=some (some (V.ref p))/\H p=some (.lst vs)/\cB H vs (insts ρ τ):=by
 obtain⟨k,hk,e⟩:=Option.bind_eq_some_iff.mp e;split at e
 ·rename_i τ' en'
  split at e
  ·rename_i c
   cases e;obtain⟨v,hv,p,vs,rfl,hp,r⟩:=h.gt k _ en';exact⟨k,p,vs,abX hk,c.1,c.2,hv,hp,r⟩
  ·cases e
 ·cases e
def Yz:Nat->Dm->Option Dm
 |0, .cons h _=>some h
 |i+1, .cons _ t=>Yz i t
 |_,_=>none
theorem Ls {ρ:Nat->T}{H:Hp}:∀{t:Dm} {vs:List V} {i:Nat} {v:V},cB H vs (insts ρ t)->vs[i]?=some v->∃h,Yz i t=some h/\Rep H v (inst ρ h)
 |.cons a b,vs,i,v,r,e=>by
  cases r with
  |cons r q=>
   cases i with
   |zero=>cases e;exact⟨a,rfl,r⟩
   |succ i=>exact Ls (t:=b) q e
 |.nil,vs,i,v,r,e=>by cases r;cases e
 |.s _,vs,i,v,r,e=>by cases r;cases e
 |.i _,vs,i,v,r,e=>by cases r;cases e
 |.v _,vs,i,v,r,e=>by cases r;cases e
theorem aa1 {f:Dm->Option Dm}{t:Dm}:∀{u:Dm} {i:Nat} {h:Dm},aa0 f t=some u->Yz i t=some h->∃k,f h=some k/\Yz i u=some k:=by
 induction t with
 |cons a b _ ih=>
  intro u i h e n;obtain⟨x,hx,e⟩:=Option.bind_eq_some_iff.mp e;obtain⟨y,hy,e⟩:=Option.bind_eq_some_iff.mp e;cases e;cases i with
  |zero=>cases n;exact⟨x,hx,rfl⟩
  |succ i=>exact ih (u:=y) (i:=i) hy n
 |nil=>intro u i h e n;cases i<;>cases n
 |s _=>intro u i h e n;cases i<;>cases n
 |i _=>intro u i h e n;cases i<;>cases n
 |v _=>intro u i h e n;cases i<;>cases n
theorem map_len {f:Dm->Option Dm}{t:Dm}:∀{u:Dm},aa0 f t=some u->mL u=mL t:=by
 induction t with
 |cons a b _ ih=>
  intro u e;obtain⟨x,hx,e⟩:=Option.bind_eq_some_iff.mp e;obtain⟨y,hy,e⟩:=Option.bind_eq_some_iff.mp e;cases e;exact congrArg (·+1) (ih hy)
 |nil=>intro u e;cases e;rfl
 |s _=>intro u e;cases e
 |i _=>intro u e;cases e
 |v _=>intro u e;cases e
theorem Gv {ρ:Nat->T}:∀{t:Dm} {i:Nat} {h:Dm},Yz i t=some h->(insts ρ t)[i]?=some (inst ρ h)
 |.cons a b,0,h,e=>by cases e;rfl
 |.cons a b,i+1,h,e=>Gv (t:=b) e
 |.nil,0,h,e=>by cases e
 |.nil,i+1,h,e=>by cases e
 |.s _,0,h,e=>by cases e
 |.s _,i+1,h,e=>by cases e
 |.i _,0,h,e=>by cases e
 |.i _,i+1,h,e=>by cases e
 |.v _,0,h,e=>by cases e
 |.v _,i+1,h,e=>by cases e
theorem take_snoc {ts:List T}{i:Nat}{t:T}(h:ts[i]?=some t):ts.take (i+1)=ts.take i++[t]:=by rw[ajC,h];rfl
theorem aa2 {ρ:Nat->T}{en:En}{U:L2.St}{H:Hp}{N bV:List Str}{h:Dm}{v:V}(o:lD ρ en U H)(r:Rep H v (inst ρ h)):lD ρ (Yy N en bV h) (some v::outs U (bV.map λy=>(O8 N y).getD 1000)) H:=by
 refine⟨by simp[Yy,outs],λk l hk=>?_⟩;cases k with
 |zero=>cases hk;exact⟨v,rfl,r⟩
 |succ k=>
  unfold Yy outs at*;rw[List.getElem?_cons_succ,ai6]at hk ⊢;cases e:(bV.map λy=>(O8 N y).getD 1000)[k]? with
  |none=>rw[e]at hk;cases hk
  |some j=>
   rw[e]at hk;have hk:(en[j]?).join=some l:=Option.some.inj hk;have hj:en[j]?=some (some l):=by
    cases c:en[j]? with
    |none=>rw[c]at hk;cases hk
    |some x=>rw[c]at hk;rw[show x=some l from hk]
   obtain⟨w,hw,RL⟩:=o.gt j l hj;exact⟨w,by show some ((U[j]?).join)=_;rw[hw];rfl,RL⟩
theorem YB {env:Env}{x:Str}:∀{names:List (Str×NameKind)},names.lookup x=some .free->
  (names.map λ(n,k)=>if(k==NameKind.free&&env.scope.kind==.function&&env.kindOf n==some .cell) then(n,NameKind.cell) else(n,k)).lookup x=some .cell\/
  (names.map λ(n,k)=>if(k==NameKind.free&&env.scope.kind==.function&&env.kindOf n==some .cell) then(n,NameKind.cell) else(n,k)).lookup x=some .free
 |[],h=>by cases h
 |(n,k)::r,h=>by
  have ih:=@YB env x r;rw[aiR];show List.lookup x ((if(k==NameKind.free&&env.scope.kind==.function&&env.kindOf n==some .cell)=true then(n,NameKind.cell) else(n,k))::_)=_\/List.lookup x ((if(k==NameKind.free&&env.scope.kind==.function&&env.kindOf n==some .cell)=true then(n,NameKind.cell) else(n,k))::_)=_;rw[aiH]at h;cases e:x==n with
  |true=>
   rw[e]at h;cases h;split
   ·exact .inl (by rw[aiH,e])
   ·exact .inr (by rw[aiH,e])
  |false=>
   rw[e]at h;split
   ·rw[aiH,e];exact ih h
   ·rw[aiH,e];exact ih h
theorem YC {X:Cx}{K:PySem.W.Frag}{N:List Str}{sc:Scope}(B:adq X K N sc)(n:Nat):∀m e,PE X e (agk N sc n m e):=by
 have hv:∀x∈N,Pu X.env.scope x:=λx hx=>by rw[B.s];exact Ad (B.loc x hx)
 have nmP:∀{x:Str} {pos:Pos} {aZ:List (Addr×Obj)} {s:Shared} {U:L2.St} {H:Hp} {ρ:Nat->T} {en:En} {τ:Dm} {k:Nat} {p:Addr},N[k]?=some x->wK x=true->PE X (.Name x pos) (jE k):=λ{x pos _ _ _ _ _ _ _ k _} h g=>by
  unfold wK at g;simp only[ain,aiN]at g;exact GR (by rw[B.n];exact h) (hv x (aiS h)) g.1 g.2
 intro m
 induction m with
 |zero=>
  intro e aZ s U H Q I h;obtain⟨ρ,en,τ,_,h,_⟩:=h;cases h
 |succ m ih=>
  intro e aZ s U H Q I h;obtain⟨ρ,en,τ,ok,h,q⟩:=h;unfold exL at h;split at h
  ·rename_i x pos
   obtain⟨k,p,vs,h1,h2,_,h3,h4,h5⟩:=ok.nm h;exact nmP (aZ:=aZ) (s:=s) (U:=U) (H:=H) (ρ:=ρ) (en:=en) (τ:=τ) (p:=p) h1 h2 aZ s U H Q I ⟨_,h3,q p vs H (Same.refl H) h4 h5⟩
  ·rename_i es pos
   obtain⟨t,ht,h⟩:=Option.bind_eq_some_iff.mp h;split at h
   ·rename_i c
    cases h;refine dj ((qy B.k B.n hv n).2 es) aZ s U H Q I ⟨ρ,_,_,_,uP,ok.Em,ht,λvs H' s' r=>⟨small (by rw[r.length,fu];show _<=1000000;omega),λp hp=>?_⟩⟩;exact q _ _ _ (s'.trans (bw hp _)) bf (r.same (bw hp _))
   ·cases h
  ·rename_i a b pos
   obtain⟨t,ht,h⟩:=Option.bind_eq_some_iff.mp h;obtain⟨u,hu,h⟩:=Option.bind_eq_some_iff.mp h;split at h
   ·rename_i c
    cases h;refine bY w5 (ih a) (ih b) aZ s U H Q I ⟨ρ,en,t,ok,ht,λp vs H' s' hp r=>⟨ρ,en,u,ok.same s',hu,λp2 ws H2 s2 hp2 r2=>?_⟩⟩;have l1:=r.length;have l2:=r2.length;rw[fu]at l1 l2;refine⟨p,p2,vs,ws,rfl,rfl,s2 _ _ hp,hp2,small (by show _<=1000000;omega),λp3 hp3=>?_⟩;rw[uz]at q;exact q _ _ _ ((s'.trans s2).trans (bw hp3 _)) bf ((r.same (s2.trans (bw hp3 _))).append (r2.same (bw hp3 _)))
   ·cases h
  ·rename_i rZ r px it pi aQ pos
   split at h
   ·rename_i c
    obtain⟨ck,cg⟩:=c;obtain⟨t,ht,h⟩:=Option.bind_eq_some_iff.mp h;split at h
    ·rename_i ct
     obtain⟨u,hu,h⟩:=Option.bind_eq_some_iff.mp h;split at h
     ·rename_i cu
      cases h;obtain⟨k,p,vs,h1,h2,_,h3,h4,h5⟩:=ok.nm ht;obtain⟨S,fl⟩:=qK (X:=X) ck B.s B.n;refine pR sc N (nJ aQ r) _ ck (GX (nmP (aZ:=aZ) (s:=s) (U:=U) (H:=H) (ρ:=ρ) (en:=en) (τ:=τ) (p:=p) h1 h2)) (λC s₀ H₀ ex=>ji)
       (λC s₀ H₀ ex=>(qy (X:=fQ X (r::nJ aQ r) aQ C s₀ H₀ ex) (N:=r::nJ aQ r) B.k rfl (λx hx=>?_) n).1 rZ) B.s B.n B.calm (λ_=>rfl) aZ s U H Q I ?_
      ·rcases aiB.mp hx with rfl|hx
       ·exact .inl (lookup_relabel_local S.tgt)
       ·exact .inr (YB (fl x hx))
      ·have lr:=h5.length
       rw[fu]at lr;refine⟨_,h3,p,rfl,⟨vs,dX.of h4⟩,?_⟩;refine Kr (xs:=vs) (λi ws H'=>Same H H'/\cB H' ws ((insts ρ τ).take i)) ⟨Same.refl H, .nil⟩ ?_ ?_ ?_
       ·rintro i ws H' hi ⟨s',r'⟩
        refine⟨dX.of (s' _ _ h4),fH (by rw[r'.length,aiW];omega)⟩
       ·rintro i x ws H' hi hx ⟨s',r'⟩
        obtain⟨hh,hn,rh⟩:=Ls (h5.same s') hx;obtain⟨kk,hk,hku⟩:=aa1 hu hn;refine Zn (dM ?_);refine⟨ρ,_,_,kk,uP,(aa2 (ok.same s') rh).Em,hk,λv H5 s5 r5=>nx hi ⟨s'.trans s5,?_⟩⟩;rw[take_snoc (Gv hku)];exact(r'.same s5).snoc r5
       ·rintro ws H' ⟨s',r'⟩ l hl
        rw[ai4 (by rw[fu,map_len hu];omega)]at r';exact q _ _ _ (s'.trans (bw hl _)) bf (r'.same (bw hl _))
     ·cases h
    ·cases h
   ·cases h
  ·cases h
def O9:Expr->Bool
 |.Tuple ..=>true
 |.List ..=>true
 |.BinOp ..=>true
 |_=>false
def adu (N:List Str)(sc:Scope)(n:Nat)(en:En):Stmt->Option En
 |.Assign [.Name y _] e _=>if O9 e=true then(O8 N y).bind λk=>match tmE (Ek N en) (El en) n e with
   |some τ=>some (en.set k (some (.th τ)))
   |none=>(exL N sc en n n e).map λτ=>en.set k (some (.ls τ))
  else none
 |_=>none
def YD:Stmt->Option Expr
 |.Return (some e) _=>some e
 |_=>none
theorem YF {st:Stmt}{e:Expr}(h:YD st=some e):∃p,st=.Return (some e) p:=by
 unfold YD at h;split at h
 ·cases h;exact⟨_,rfl⟩
 ·cases h
def exB (N:List Str)(sc:Scope)(n:Nat):En->List Stmt->Option Dm
 |_,[]=>none
 |en,st::r=>match YD st with
  |some e=>exL N sc en n n e
  |none=>(adu N sc n en st).bind λen'=>exB N sc n en' r
theorem Ri {e:Expr}(h:O9 e=true){y:Str}{p:Pos}{l}{env:Env}:swapsWith e (some (.Name y p)) l env=pure false:=by
 unfold O9 at h;split at h<;>first|rfl|cases h
theorem aa3 {X:Cx}{K:PySem.W.Frag}{N:List Str}{sc:Scope}(B:adq X K N sc)(n:Nat)(st:Stmt):
  PS X st (λD U H=>∃(ρ:Nat->T) (en en':En),lD ρ en U H/\adu N sc n en st=some en'/\∀U' H',Same H H'->lD ρ en' U' H'->D.nx U' H'):=by
 intro aZ s U H D I h;obtain⟨ρ,en,en',ok,h,q⟩:=h;unfold adu at h;split at h
 ·rename_i y py e pos
  split at h
  ·rename_i c
   obtain⟨k,hk,h⟩:=Option.bind_eq_some_iff.mp h;have h1:=abX hk;have hx:Loc X.env.scope y:=by rw[B.s];exact B.loc y (aiS h1)
   have hv:∀x∈N,Pu X.env.scope x:=λx hx=>by rw[B.s];exact Ad (B.loc x hx)
   split at h
   ·rename_i τ ht
    cases h;exact cZ (i:=k) (by rw[B.n];exact B.nd) (by rw[B.n];exact h1) hx ((qy B.k B.n hv n).1 e) (Ri c) (.inl (B.fn y)) aZ s U H D I
     ⟨ρ,_,_,τ,uP,ok.Em,ht,λv H' s' r=>q _ _ s' (ok.set s' (l:=.th τ) r)⟩
   ·obtain⟨τ,ht,e'⟩:=Option.map_eq_some_iff.mp h
    cases e';exact cZ (i:=k) (by rw[B.n];exact B.nd) (by rw[B.n];exact h1) hx (YC B n n e) (Ri c) (.inl (B.fn y)) aZ s U H D I
     ⟨ρ,en,τ,ok,ht,λp vs H' s' hp r=>q _ _ s' (ok.set s' (l:=.ls τ) ⟨p,vs,rfl,hp,r⟩)⟩
  ·cases h
 ·cases h
def agl (N:List Str)(sc:Scope)(n:Nat)(body:List Stmt):TS:=λD U H=>∃(ρ:Nat->T) (en:En) (τ:Dm),lD ρ en U H/\exB N sc n en body=some τ/\∀p vs H',Same H H'->H' p=some (.lst vs)->cB H' vs (insts ρ τ)->D.rt (.ref p) H'
theorem Pj {X:Cx}{K:PySem.W.Frag}{N:List Str}{sc:Scope}(B:adq X K N sc)(n:Nat):∀body,yL X body (agl N sc n body):=by
 intro body
 induction body with
 |nil=>
  intro aZ s U H D I h;obtain⟨ρ,en,τ,_,h,_⟩:=h;cases h
 |cons st r ih=>
  intro aZ s U H D I h;obtain⟨ρ,en,τ,ok,h,q⟩:=h;unfold exB at h;split at h
  ·rename_i e he
   obtain⟨pos,rfl⟩:=YF he;exact bx (bD (YC B n n e)) Ry aZ s U H D I ⟨ρ,en,τ,ok,h,q⟩
  ·obtain⟨en',h1,h2⟩:=Option.bind_eq_some_iff.mp h
   exact bx (aa3 B n st) ih aZ s U H D I ⟨ρ,_,en',ok,h1,λU' H' s' ok'=>⟨ρ,en',τ,ok',h2,λp vs H2 s2 hp r=>q p vs H2 (s'.trans s2) hp r⟩⟩
theorem lD.nil {ρ:Nat->T}{H:Hp}:lD ρ [] [] H:=⟨rfl,λk l h=>by simp at h⟩
theorem lD.cons {ρ:Nat->T}{H:Hp}{en:En}{U:L2.St}{l:Vl}{v:V}(r:Uw ρ H v l)(h:lD ρ en U H):lD ρ (some l::en) (some v::U) H:=⟨congrArg (·+1) h.len,λk m hk=>by
 cases k with
 |zero=>cases hk;exact⟨v,rfl,r⟩
 |succ k=>exact h.gt k m hk⟩
theorem lD.no {ρ:Nat->T}{H:Hp}{en:En}{U:L2.St}{o:Option V}(h:lD ρ en U H):lD ρ (none::en) (o::U) H:=⟨congrArg (·+1) h.len,λk m hk=>by
 cases k with
 |zero=>cases hk
 |succ k=>exact h.gt k m hk⟩
abbrev jA:Stmt:=top 115
abbrev jB:Stmt:=top 116
abbrev jC:Stmt:=top 117
abbrev nBS:List Str:=["_law_v","_law_x","_law_t","_law_odd","_law_kind_here","_law_tag","_law_bad_here","_law_field"]
abbrev nBF:List Str:=["_law_x","_law_t","_law_odd","_law_kind_here","_law_giver","_law_item","_law_bad_here","_law_items","_law_givers_here"]
abbrev nBP:List Str:=["_law_v","_law_x","_law_t","_law_odd","_law_kind_here","_law_row","_law_rows","_law_bad_here","_law_givers_here"]
def wN (o:Option Dm):Bool:=match o with
 |some τ=>yF Uv τ&&(yF mX τ&&(decide (1<=mL τ)&&decide (mL τ<=100)))
 |none=>false
abbrev th (k:Nat):Option Vl:=some (.th (.v k))
abbrev enS:En:=[th 0,th 1,th 2,th 3,th 4,none,none,none]
abbrev enF:En:=[th 1,th 2,th 3,th 4,none,none,none,none,none]
abbrev enP:En:=[th 0,th 1,th 2,th 3,th 4,none,none,none,none]
set_option maxHeartbeats 4000000 in
theorem adv:wN (exB nBS (bA jA) 30 enS (gZ jA))=true:=by decide+kernel
set_option maxHeartbeats 4000000 in
theorem adw:wN (exB nBF (bA jB) 30 enF (gZ jB))=true:=by decide+kernel
set_option maxHeartbeats 4000000 in
theorem adx:wN (exB nBP (bA jC) 30 enP (gZ jC))=true:=by decide+kernel
abbrev Dr (H:Hp)(Q:VK):Prop:=∀p us ts H',Same H H'->H' p=some (.lst us)->cB H' us ts->(∀d∈ts,Yw d)->(∀d∈ts,qM d=true)->1<=ts.length->ts.length<=100->Q (.ref p) H'
inductive Lw (vs:List V)(H:Hp)(Q:VK)(E_:XK):Prop where
 |mk (ρ:Nat->T) (a b c d e:V):vs=[a,b,c,d,e]->wL ρ->Rep H a (ρ 0)->Rep H b (ρ 1)->Rep H c (ρ 2)->Rep H d (ρ 3)->Rep H e (ρ 4)->Dr H Q->Lw vs H Q E_
inductive YG (vs:List V)(H:Hp)(Q:VK)(E_:XK):Prop where
 |mk (ρ:Nat->T) (b c d e:V):vs=[b,c,d,e]->wL ρ->Rep H b (ρ 1)->Rep H c (ρ 2)->Rep H d (ρ 3)->Rep H e (ρ 4)->Dr H Q->YG vs H Q E_
theorem YH {ρ:Nat->T}:∀{τ:Dm},yF mX τ=true->∀d∈insts ρ τ,qM d=true
 |.s _,_,d,hd=>by cases hd
 |.i _,_,d,hd=>by cases hd
 |.v _,_,d,hd=>by cases hd
 |.nil,_,d,hd=>by cases hd
 |.cons a b,h,d,hd=>by
  simp only[yF,ain]at h;rcases aiB.mp hd with rfl|hd
  ·rw[nF h.1];rfl
  ·exact YH h.2 d hd
theorem Jq {ρ:Nat->T}(R:wL ρ){o:Option Dm}(h:wN o=true){H:Hp}{Q:VK}(q:Dr H Q):∃τ,o=some τ/\∀p vs H',Same H H'->H' p=some (.lst vs)->cB H' vs (insts ρ τ)->Q (.ref p) H':=by
 unfold wN at h;cases o with
 |none=>cases h
 |some τ=>
  simp only[ain,decide_eq_true_eq]at h;exact⟨τ,rfl,λp vs H' s' hp r=>q p vs _ H' s' hp r (Jo R h.1) (YH h.2.1) (by rw[fu];exact h.2.2.1) (by rw[fu];exact h.2.2.2)⟩
theorem wO {sc:Scope}{N:List Str}(h:(N.all λx=>sc.names.lookup x==some .local||sc.names.lookup x==some .cell)=true):∀x∈N,Loc sc x:=λx hx=>by
 have:=ajq.mp h x hx;simp only[aiM,beq_iff_eq]at this;exact this
section
variable {P:Program}{w:World}{K:PySem.W.Frag}{mg:Str->Option Value}{aN:Heap}{f:Addr}{fd:FuncData}
theorem abY:bG nBS ["_law_v","_law_x","_law_t","_law_odd","_law_kind_here"] (bA jA):=⟨rfl,rfl,rfl,by decide+kernel,rfl,by decide+kernel,by decide+kernel⟩
theorem abZ:bG nBF ["_law_x","_law_t","_law_odd","_law_kind_here"] (bA jB):=⟨rfl,rfl,rfl,by decide+kernel,rfl,by decide+kernel,by decide+kernel⟩
theorem ab0:bG nBP ["_law_v","_law_x","_law_t","_law_odd","_law_kind_here"] (bA jC):=⟨rfl,rfl,rfl,by decide+kernel,rfl,by decide+kernel,by decide+kernel⟩
theorem ady:∀x∈nBS,Loc (bA jA) x:=wO (by decide+kernel)
theorem afr (F:eV K "_law_bad_sorts" "_law_bad_sorts" jA f fd):cj P w K mg aN eY 1 f fd ["_law_v","_law_x","_law_t","_law_odd","_law_kind_here"] Lw:=by
 refine F.ok abY (λcX A aM s H vs Q E hr h=>?_);obtain⟨ρ,a,b,c,d,e,rfl,R,ra,rb,rc,rd,re,q⟩:=h;obtain⟨τ,ht,q'⟩:=Jq R adv q;exact⟨_,Pj (N:=nBS) (sc:=bA jA) ⟨rfl,rfl,rfl,abY.nd,ady,λ_=>rfl,rfl⟩ 30 _,ρ,enS,τ, .cons ra (.cons rb (.cons rc (.cons rd (.cons re (.no (.no (.no .nil))))))),ht,q'⟩
theorem adz:∀x∈nBF,Loc (bA jB) x:=wO (by decide+kernel)
theorem afs (F:eV K "_law_bad_faces" "_law_bad_faces" jB f fd):cj P w K mg aN eY 1 f fd ["_law_x","_law_t","_law_odd","_law_kind_here"] YG:=by
 refine F.ok abZ (λcX A aM s H vs Q E hr h=>?_);obtain⟨ρ,b,c,d,e,rfl,R,rb,rc,rd,re,q⟩:=h;obtain⟨τ,ht,q'⟩:=Jq R adw q;exact⟨_,Pj (N:=nBF) (sc:=bA jB) ⟨rfl,rfl,rfl,abZ.nd,adz,λ_=>rfl,rfl⟩ 30 _,ρ,enF,τ, .cons rb (.cons rc (.cons rd (.cons re (.no (.no (.no (.no (.no .nil)))))))),ht,q'⟩
theorem adA:∀x∈nBP,Loc (bA jC) x:=wO (by decide+kernel)
theorem aft (F:eV K "_law_bad_parts" "_law_bad_parts" jC f fd):cj P w K mg aN eY 1 f fd ["_law_v","_law_x","_law_t","_law_odd","_law_kind_here"] Lw:=by
 refine F.ok ab0 (λcX A aM s H vs Q E hr h=>?_);obtain⟨ρ,a,b,c,d,e,rfl,R,ra,rb,rc,rd,re,q⟩:=h;obtain⟨τ,ht,q'⟩:=Jq R adx q;exact⟨_,Pj (N:=nBP) (sc:=bA jC) ⟨rfl,rfl,rfl,ab0.nd,adA,λ_=>rfl,rfl⟩ 30 _,ρ,enP,τ, .cons ra (.cons rb (.cons rc (.cons rd (.cons re (.no (.no (.no (.no .nil)))))))),ht,q'⟩
end
abbrev Gw:Stmt:=top 118
abbrev Jr:List Str:=["_law_state","_law_v","_law_x","_law_t","_law_odd","_law_some_here","_law_kind_here","_law_way","_law_rows"]
inductive Ds (vs:List V)(H:Hp)(Q:VK)(E_:XK):Prop where
 |mk (st:Addr):vs=[.ref st]->gj H st->(∀v d H',Yw d->Rep H' v d->cP st H H'->Q v H')->Ds vs H Q E_
abbrev enB:En:=[none,th 0,th 1,th 2,none,none,none,none,none]
def Rj:List Expr:=match((gZ Gw)[4]?:Option Stmt) with
 |some (Stmt.If _ (Stmt.Assign _ (Expr.List es _) _::_) _ _)=>es
 |_=>[]
def Gx:Dm:=(Ej (Ek Jr enB) (El enB) 30 Rj).getD .nil
theorem aa4:Ej (Ek Jr enB) (El enB) 30 Rj=some Gx:=by
 have:(Ej (Ek Jr enB) (El enB) 30 Rj).isSome=true:=by decide+kernel
 unfold Gx;cases e:Ej (Ek Jr enB) (El enB) 30 Rj with
 |none=>rw[e]at this;cases this
 |some τ=>rfl
theorem YJ:(yF Uv Gx&&(mX Gx&&decide (mL Gx=10)))=true:=by decide+kernel
theorem YK:Uv (.cons (.cons (.s "main") (.cons (.i 7) .nil)) .nil)=true:=by decide+kernel
def aa5 (a b c o k:T):Nat->T
 |0=>a
 |1=>b
 |2=>c
 |3=>o
 |_=>k
theorem YL {z0 z1 z2:Str}{o k:T}(h0:iz z0=true)(h1:nameB z1=true)(h2:bJ z2=true)(h3:JB o=false/\Tr 6 o/\iT (iC o)<=200)(h4:Tr 6 k/\iT (iC k)<=200):
  wL (aa5 (.str z0) (.str z1) (.str z2) o k):=⟨h0,h1,h2,h3.1,h3.2.1,h3.2.2,h4.1,h4.2⟩
theorem YM {z0 z1 z2:Str}{o k:T}{st ov a b c d:Option V}{H:Hp}(l0:z0.length<=100)(l1:z1.length<=100)(l2:z2.length<=100):lD (aa5 (.str z0) (.str z1) (.str z2) o k) enB [st,some (.str z0),some (.str z1),some (.str z2),ov,a,b,c,d] H :=
 .no (.cons (.str z0 (by omega)) (.cons (.str z1 (by omega)) (.cons (.str z2 (by omega)) (.no (.no (.no (.no (.no .nil))))))))
theorem aa6 {z:Str}(h:z∈ju):nameB z=false:=by
 unfold nameB;rw[decide_eq_true h];simp
theorem tW {z:Str}(h:nameB z=false)(a:fV (.str z)):JB (.str z)=false/\Tr 6 (.str z)/\iT (iC (.str z))<=200:=⟨h, .at a,aiv (vf a) (by decide)⟩
theorem aa7 {z:Str}(h:dN z=true):nameB z=false:=by
 cases e:nameB z with
 |false=>rfl
 |true=>
  obtain⟨n,hl,_⟩:=pX e;have:=uX (z:=z) λhm=>by have:=hl.mem hm;omega
  rw[h]at this;cases this
theorem wQ {vs:List V}{d:Int}(d0:0<=d)(d1:d<vs.length):∃v,Dz vs d=some v/\vs[d.toNat]?=some v:=by
 have hd:d.toNat<vs.length:=by omega
 have q:=eF (xs:=vs) (j:=d.toNat) (v:=vs[d.toNat]) (aiE hd);rw[Int.toNat_of_nonneg d0]at q;exact⟨_,q,aiE hd⟩
theorem yH {H:Hp}{vs:List V}{ts:List T}(r:cB H vs ts):∀{i:Nat} {v:V},vs[i]?=some v->∃t,t∈ts/\Rep H v t:=by
 induction vs generalizing ts with
 |nil=>intro i v h;cases h
 |cons a vs ih=>
  cases r with
  |@cons _ t _ ts' r1 r2=>
  intro i v h;cases i with
  |zero=>cases h;exact⟨t,by simp,r1⟩
  |succ i=>
   obtain⟨x,hx,rx⟩:=ih r2 h;exact⟨x,air _ hx,rx⟩
theorem adB {H:Hp}{z0 z1 z2 zp zk:Str}{p5:Addr}(v0:iz z0=true)(l0:z0.length<=100)(v1:nameB z1=true)(l1:z1.length<=100)(v2:bJ z2=true)(l2:z2.length<=100)(vp:dN zp=true)(lp:zp.length<=100)(vk:zk∈ju)
  (h5:H p5=some (.tup [.str z1])) {e:Int} (e0:0<=e) (e1:e<7):∃ov ot,Dz [V.str z2, .str zp, .str z0, .int 7, .ref p5, .str zk, .str "->"] e=some ov/\Rep H ov ot/\(JB ot=false/\Tr 6 ot/\iT (iC ot)<=200):=by
 have lk:∀z∈ju,z.length<=100:=by decide+kernel
 have:e=0\/e=1\/e=2\/e=3\/e=4\/e=5\/e=6:=by omega
 rcases this with rfl|rfl|rfl|rfl|rfl|rfl|rfl
 ·exact⟨_, .str z2,rfl, .str _ (by omega),tW (mO v2).1 (gM v2)⟩
 ·exact⟨_, .str zp,rfl, .str _ (by omega),tW (aa7 vp) (wj vp)⟩
 ·exact⟨_, .str z0,rfl, .str _ (by omega),tW (yE v0).1 (xU v0)⟩
 ·exact⟨_, .int 7,rfl, .int 7,rfl, .at (xV (by decide) (by decide)),aiv (vf (xV (by decide) (by decide))) (by decide)⟩
 ·refine⟨_, .tup [.str z1],rfl, .tup h5 (.cons (.str _ (by omega)) .nil),rfl, .tp λt ht=>?_,?_⟩
  ·rw[List.mem_singleton.mp ht];exact .at (iD v1)
  ·have:=vf (iD v1)
   rw[gq,gJ];omega
 ·exact⟨_, .str zk,rfl, .str _ (by have:=lk zk vk;omega),tW (aa6 vk) (qT vk)⟩
 ·exact⟨_, .str "->",rfl, .str _ (by decide+kernel),tW (by decide+kernel) KH⟩
section
variable {P:Program}{w:World}{K:PySem.W.Frag}{mg:Str->Option Value}{aN:Heap}{f:Addr}{fd:FuncData}
theorem oU:bG Jr ["_law_state"] (bA Gw):=⟨rfl,rfl,rfl,by decide+kernel,rfl,by decide+kernel,by decide+kernel⟩
theorem aa8:∀x∈Jr,Loc (bA Gw) x:=wO (by decide+kernel)
set_option maxHeartbeats 4000000 in
theorem adC (F:eV K "_law_bad" "_law_bad" Gw f fd)(ml:mg "len"=none)(h0:Has P w K mg aN 1 "_law_next" ["_law_state","_law_many"] eE)(h1:Has P w K mg aN 3 "_law_variable" ["_law_state"] (dD λz=>iz z=true))
  (h2:Has P w K mg aN 3 "_law_small" ["_law_state"] (dD λz=>nameB z=true)) (h3:Has P w K mg aN 3 "_law_great" ["_law_state"] (dD λz=>bJ z=true)) (h4:Has P w K mg aN 4 "_law_path" ["_law_state"] (dD λz=>dN z=true))
  (h5:Has P w K mg aN 1 "_law_kept" [] Hw) (h6:Has P w K mg aN 7 "_law_kind" ["_law_state","_law_deep"] (o8 2)) (h7:Has P w K mg aN 1 "_law_bad_sorts" ["_law_v","_law_x","_law_t","_law_odd","_law_kind_here"] Lw)
  (h8:Has P w K mg aN 1 "_law_bad_faces" ["_law_x","_law_t","_law_odd","_law_kind_here"] YG) (h9:Has P w K mg aN 1 "_law_bad_parts" ["_law_v","_law_x","_law_t","_law_odd","_law_kind_here"] Lw):
  cj P w K mg aN eY 8 f fd ["_law_state"] Ds:=by
 refine F.ok oU (λcX A aM s H vs Q E hr h=>?_);obtain⟨st,rfl,hs,q⟩:=h;have hv:∀x∈Jr,Pu (bA Gw) x:=λx hx=>Ad (aa8 x hx);refine⟨_,bx (kO 1 oU.nd (bB h1 hr (by decide) rfl (aW (pv 0) aX)))
  (bx (kO 2 oU.nd (bB h2 hr (by decide) rfl (aW (pv 0) aX)))
  (bx (kO 3 oU.nd (bB h3 hr (by decide) rfl (aW (pv 0) aX)))
  (bx (kO 4 oU.nd (bU (Zr K) (dj (aW (pv 3) (aW (bB h4 hr (by decide) rfl (aW (pv 0) aX)) (aW (pv 1) (aW aY (aW (cO (aW (pv 2) aX)) (aW (bU (Zr K) (V8 h5 hr (by decide) rfl) (bB h0 hr (by decide) rfl (aW (pv 0) (aW aY aX)))) (aW bQ aX)))))))) (bB h0 hr (by decide) rfl (aW (pv 0) (aW aY aX)))))
  (bx (cF (bL cN (bB h0 hr (by decide) rfl (aW (pv 0) (aW aY aX))) aY (bM _))
   (bx (kO 5 oU.nd (dj ((qy (K:=K) rfl (N:=Jr) rfl hv 30).2 _)))
   (bx (fj (aac K (pv 5) (aW ((qy (K:=K) rfl (N:=Jr) rfl hv 30).1 _) aX)))
   (bh (bD (bU (Zr K) (pv 5) (bB h0 hr (by decide) rfl (aW (pv 0) (aW (bH bO rfl ml PySem.boot_len (aW (pv 5) aX)) aX)))))))) bK)
  (bx (kO 6 oU.nd (bB h6 hr (by decide) rfl (aW (pv 0) (aW aY aX))))
  (bx (kO 7 oU.nd (bB h0 hr (by decide) rfl (aW (pv 0) (aW aY aX))))
  (bx (kO 8 oU.nd (bB h7 hr (by decide) rfl (aW (pv 1) (aW (pv 2) (aW (pv 3) (aW (pv 4) (aW (pv 6) aX)))))))
  (bx (cF (bL cN (pv 7) aY (bM _)) (bh (kO 8 oU.nd (bB h8 hr (by decide) rfl (aW (pv 2) (aW (pv 3) (aW (pv 4) (aW (pv 6) aX))))))) bK)
  (bx (cF (bL cN (pv 7) aY (bM _)) (bh (kO 8 oU.nd (bB h9 hr (by decide) rfl (aW (pv 1) (aW (pv 2) (aW (pv 3) (aW (pv 4) (aW (pv 6) aX)))))))) bK)
  (bh (bD (bU (Zr K) (pv 8) (bB h0 hr (by decide) rfl (aW (pv 0) (aW (bH bO rfl ml PySem.boot_len (aW (pv 8) aX)) aX)))))))))))))))
  ,?_⟩
 refine⟨_,rfl,st,rfl,hs,λz0 H1 v0 l0 g1=>?_⟩;refine⟨_,rfl,st,rfl,g1.ok,λz1 H2 v1 l1 g2=>?_⟩;refine⟨_,rfl,st,rfl,g2.ok,λz2 H3 v2 l2 g3=>?_⟩;refine⟨_,rfl,_,rfl,st,rfl,g3.ok,λzp H4 vp lp g4=>⟨_,rfl,_,rfl,small (by show 1<=1000000;decide),λp5 hp5=>?_⟩⟩;have g5:cP st H4 (upd H4 p5 (.tup [.str z1])):=cG g4.ok hp5;refine⟨rfl,λpk H6 e6 hpk hk=>⟨_,rfl,st,22,rfl,g5.ok.same e6,by decide,by decide,λd H7 d0 d1 g7=>?_⟩⟩;have pks:pk≠st:=fZ g5.ok hpk;have hk7:=g7.1 _ _ pks hk;obtain⟨kv,ka,kb⟩:=wQ (vs:=ju.map V.str) (d:=d) d0 (by rw[aix,show ju.length=22 by decide+kernel];exact d1);rw[ai6]at kb;obtain⟨zk,hzk,ekv⟩:=Option.map_eq_some_iff.mp kb;subst ekv;have mk:=aiS hzk;refine⟨pk,_,d,_,rfl,rfl,dX.of hk7,ka,small (by show 7<=1000000;decide),λpo hpo=>⟨_,rfl,st,7,rfl,((g5.trans (cH g5.ok e6)).trans g7).ok.same (bw hpo _),by decide,by decide,λe H8 e0 e1 g8=>?_⟩⟩;have g67:=(g5.trans (cH g5.ok e6)).trans g7;have hs7:=g67.ok;have dpo:=fZ hs7 hpo;have g48:cP st H4 H8:=(g67.trans (cG hs7 hpo)).trans g8;have h5:H8 p5=some (.tup [.str z1]):=g8.1 _ _ (fZ g4.ok hp5) (bw hpo _ _ _ (g7.1 _ _ (fZ g4.ok hp5) (e6 _ _ bf)));have ho:H8 po=some (.lst [V.str z2, .str zp, .str z0, .int 7, .ref p5, .str zk, .str "->"]):=g8.1 _ _ dpo bf;obtain⟨ov,ot,oa,orp,oF⟩:=adB v0 l0 v1 l1 v2 l2 vp lp mk h5 e0 e1;refine⟨po,_,e,ov,rfl,rfl,dX.of ho,oa,?_⟩;have g8':cP st H H8:=(((g1.trans g2).trans g3).trans g4).trans g48;refine⟨_,rfl,st,4,rfl,g8'.ok,by decide,by decide,λc H9 c0 c1 g9=>⟨rfl,_,rfl,ig (λ_=>?_) (λ_=>?_)⟩⟩
 ·have R:=YL v0 v1 v2 oF (k:=.str z0) ⟨.at (xU v0),aiv (vf (xU v0)) (by decide)⟩
  have sb:=YJ;simp only[ain,decide_eq_true_eq]at sb;refine⟨aa5 (.str z0) (.str z1) (.str z2) ot (.str z0),_,_,Gx,uP,(YM l0 l1 l2).Em,aa4,λus H10 e10 r10=>?_⟩;have lu:=r10.length;rw[fu,sb.2.2]at lu;refine⟨small (by rw[lu];show 10<=1000000;decide),λps hps=>?_⟩;have dps:ps≠st:=fZ (g9.ok.same e10) hps;have g10:cP st H10 (upd H10 ps (.lst us)):=cG (g9.ok.same e10) hps;refine⟨_,rfl, .inl ⟨rfl,_,dX.of bf⟩,?_⟩;refine⟨aa5 (.str z0) (.str z1) (.str z2) ot (.str z0),_,_, .cons (.cons (.s "main") (.cons (.i 7) .nil)) .nil,uP,(YM l0 l1 l2).Em,rfl,λv11 H11 e11 r11=>?_⟩;obtain⟨a1,a2,a3⟩:=Ld hps dps g10 bf (r10.same (bw hps _)) (cH g10.ok e11) r11;refine⟨ps,us,v11,rfl,rfl,a1,fH (by omega),?_⟩;have Ux:=a3.ok;refine⟨_,rfl,_,rfl,_,rfl,ps,_,rfl, .inl (dX.of bf),st,_,rfl,Ux,by rw[aiG];simp only[aiF,aiZ];omega,by rw[aiG];simp only[aiF,aiZ];omega,λdd H13 dd0 dd1 g13=>?_⟩;obtain⟨w,wa,wb⟩:=wQ dd0 dd1;obtain⟨t,ht,rt⟩:=yH (a2.grow g13 Ux) wb;refine⟨ps,_,dd,w,rfl,rfl,dX.of (g13.1 _ _ dps bf),wa,q w t H13 ?_ rt ((((g8'.trans g9).trans (cH g9.ok e10)).trans a3).trans g13)⟩;rcases List.mem_append.mp ht with ht|ht
  ·exact Jo R sb.1 t ht
  ·rw[List.mem_singleton.mp ht]
   exact Yx R YK
 ·have hs9:=g9.ok
  refine⟨_,rfl,st,rfl,hs9,λkv kt H10 gk rk sk g10=>⟨_,rfl,st,3,rfl,g10.ok,by decide,by decide,λwy H11 w0 w1 Zu=>?_⟩⟩;have tk:=Q6 gk;have sk:kt.sz<=5:=sk;have kF:Tr 6 kt/\iT (iC kt)<=200:=⟨tk.mono (by omega),by have:=(Je tk).2;omega⟩;have R:=YL v0 v1 v2 oF kF;have afu:=rk.grow Zu g10.ok;have afv:Rep H11 ov ot:=(((orp.grow g9 g8'.ok).grow g10 hs9).grow Zu g10.ok);have gg:cP st H H11:=((g8'.trans g9).trans g10).trans Zu;have B:∀{H':Hp} {W:VK},Same H11 H'->Dr H' W->Lw [.str z0, .str z1, .str z2,ov,kv] H' W E0:=λe q'=>.mk _ _ _ _ _ _ rfl R (.str z0 (by omega)) (.str z1 (by omega)) (.str z2 (by omega)) (afv.same e) (afu.same e) q';have BF:∀{H':Hp} {W:VK},Same H11 H'->Dr H' W->YG [.str z1, .str z2,ov,kv] H' W E0:=λe q'=>.mk _ _ _ _ _ rfl R (.str z1 (by omega)) (.str z2 (by omega)) (afv.same e) (afu.same e) q';refine⟨_,rfl,_,rfl,_,rfl,_,rfl,_,rfl,B (Same.refl _) λp us ts H12 e12 hp r12 hb tb l1' l2'=>?_⟩
  let Pv:L2.St->Hp->Prop:=λU H'=>∃p us ts,U=[some (V.ref st),some (.str z0),some (.str z1),some (.str z2),some ov,none,some kv,some (.int wy),some (.ref p)]/\Same H11 H'/\H' p=some (.lst us)/\cB H' us ts/\(∀d∈ts,Yw d)/\1<=ts.length/\ts.length<=100/\p≠st
  have Qp:∀{H':Hp} {p:Addr} {us:List V} {ts:List T},Same H11 H'->H' p=some (.lst us)->cB H' us ts->1<=ts.length->(∀d∈ts,qM d=true)->p≠st:=λ{H' p us ts} e hp r l hb c=>by
   obtain⟨ns,n1,n2,n3⟩:=gg.ok.same e;rw[<-c,hp]at n3;cases n3;cases ns with
   |nil=>exact n1 rfl
   |cons n ns=>
    change cB H' (V.int n::ns.map V.int) ts at r;cases r with
    |cons r1 r2=>
     cases r1 with
     |int i=>
      have:=hb _ aiX;cases this
  dsimp only[oW,Ends.to];refine wJ Pv (λN hN=>?_) λU1 H13 h13=>?_
  ·refine⟨_,rfl,rfl,_,rfl,ig (λ_=>?_) (λ_=>?_)⟩
   ·exact⟨_,rfl,_,rfl,_,rfl,_,rfl,BF e12 λp us ts H13 e13 hp r13 hb tb l1 l2=>hN _ _ ⟨p,us,ts,rfl,e12.trans e13,hp,r13,hb,l1,l2,Qp (e12.trans e13) hp r13 l1 tb⟩⟩
   ·exact hN _ _ ⟨p,us,ts,rfl,e12,hp,r12,hb,l1',l2',Qp e12 hp r12 l1' tb⟩
  obtain⟨p,us,ts,rfl,e13,hp,r13,hb,l1',l2',np⟩:=h13;refine wJ Pv (λN hN=>?_) λU1 H14 h14=>?_
  ·refine⟨_,rfl,rfl,_,rfl,ig (λ_=>?_) (λ_=>?_)⟩
   ·exact⟨_,rfl,_,rfl,_,rfl,_,rfl,_,rfl,B e13 λp us ts H14 e14 hp r14 hb tb l1 l2=>hN _ _ ⟨p,us,ts,rfl,e13.trans e14,hp,r14,hb,l1,l2,Qp (e13.trans e14) hp r14 l1 tb⟩⟩
   ·exact hN _ _ ⟨p,us,ts,rfl,e13,hp,r13,hb,l1',l2',np⟩
  obtain⟨p,us,ts,rfl,e14,hp,r14,hb,l1',l2',np⟩:=h14;have afw:=gg.ok.same e14;have lu:=r14.length;refine⟨_,rfl,_,rfl,_,rfl,p,us,rfl, .inl (dX.of hp),st,_,rfl,afw,by omega,by omega,λdd H15 dd0 dd1 g15=>?_⟩;obtain⟨w,wa,wb⟩:=wQ dd0 dd1;obtain⟨t,ht,rt⟩:=yH (r14.grow g15 afw) wb;exact⟨p,us,dd,w,rfl,rfl,dX.of (g15.1 _ _ np hp),wa,q w t H15 (hb t ht) rt ((gg.trans (cH gg.ok e14)).trans g15)⟩
end
end Fw
namespace L2
open PySem PySem.Spec PyProof.Rows
theorem Inv.adopt {X:Cx}{aZ:List (Addr×Obj)}{U:St}{H:Hp}{s:Shared}{ea:Addr}{oe:Obj}(I:Inv X (aZ++[(ea,oe)]) U H s)(n0:X.s₀.heap.get? ea=none)(np:∀p∈X.pn++aZ,p.1≠ea):Inv X aZ U (upd H ea (uE ea oe)) s:=by
 obtain⟨e,n,nl,nf,nc⟩:=I.pin (ea,oe) (ait _ (ait _ aiX));have up:∀{b u},H b=some u->upd H ea (uE ea oe) b=some u:=λ{b u} q=>by rw[bI (λz=>by rw[z]at q;rw[show H ea=none from n]at q;cases q)];exact q
 refine⟨I.ok,I.os,I.bare,⟨I.base.keep,I.base.slot,λb o q m hx=>?_,I.base.there,λb xs q=>up (I.base.tups b xs q),λb o u q=>up (I.base.wW b o u q),λb ps q=>?_⟩,I.loc,I.cell,?_,λx c q=>?_,λp hp=>?_,I.hok.obj n e,I.len⟩
 ·rw[bI (λz=>by rw[z,n0]at q;cases q)]
  exact I.base.free b o q m hx
 ·obtain⟨more,z⟩:=I.base.zj b ps q
  exact⟨more,up z⟩
 ·rw[bI (Ne.symm nl)]
  exact I.free
 ·have hc:c≠ea:=λz=>by
   obtain⟨v,o,q1,q2⟩:=I.cell x c q;rw[z,show s.heap.get? ea=some oe from e]at q1;cases q1;exact nc v q2
  rw[bI hc];exact I.kh x c q
 ·obtain⟨p1,p2,p3⟩:=I.pin p (by rw[<-aiD];exact aiY _ hp)
  exact⟨p1,by rw[bI (np p hp)];exact p2,p3⟩
def Lx (i:Nat)(ea:Addr)(oe:Obj)(D:Ends):Ends:={nx:=λU H=>D.nx (U.set i none) (upd H ea (uE ea oe)),rt:=λv H=>D.rt v (upd H ea (uE ea oe)),bk:=λU H=>D.bk (U.set i none) (upd H ea (uE ea oe)),ct:=λU H=>D.ct (U.set i none) (upd H ea (uE ea oe))}
def afx (i:Nat)(EX:St->XK)(tb:TS)(ts:Addr->Addr->TS):TS:=λD U H=>tb D U H/\∀U' C ea H',EX U' (.ref C) (some ea) H'->H' ea=none->∀oe:Obj,oe.cls=.ref C->ts ea C (Lx i ea oe D) (U'.set i (some (.ref ea))) H'
theorem aa9 {X:Cx}{body suite:List Stmt}{b₀:Stmt}{y n:Str}{np hpos pos:Pos}{tb:TS}{ts:Addr->Addr->TS}{EX:St->XK}{D:Addr}{i:Nat}(hex:X.ex=[])(Eo:X.stack=X.env::X.outer)(hfr:X.env.frame=some X.env.locals)
  (hN:X.N.Nodup) (hi:X.N[i]?=some n) (hn:X.env.scope.names.lookup n=some .local) (hg:Gl X y) (hm:X.mg y=some (.ref D)) (hcls:∀U C ea H',EX U (.ref C) ea H'->HN X.base C D)
  (hb:∀aZ,yL (yR X aZ (XT X aZ EX)) body tb) (hs:∀ea C oe aZ,(ea,oe)∈aZ->oe.cls=.ref C->X.base.get? ea=none->yL (vW X ea aZ) (b₀::suite) (ts ea C)) (hdb:(y==("__debug__":Str))=false:=by decide):
  PS X (.Try body [.ExceptHandler (some (.Name y np)) (some n) (b₀::suite) hpos] [] [] pos) (afx i EX tb ts):=by
 intro aZ s U H De I h;obtain⟨h1,h2⟩:=h;refine wpAny_Try_except (wpAny_mono (hb aZ [] s U H De I.aeY h1) (λf s1 q=>?_) (λe s1 q=>?_))
 ·cases f with
  |next=>obtain⟨U',H',J,q⟩:=q;exact wpAny_execs_nil ⟨U',H',J.Fv,q⟩
  |ret u=>obtain⟨v,U',H',J,r,q⟩:=q;exact⟨v,U',H',J.Fv,r,q⟩
  |brk=>obtain⟨U',H',J,q⟩:=q;exact⟨U',H',J.Fv,q⟩
  |cont=>obtain⟨U',H',J,q⟩:=q;exact⟨U',H',J.Fv,q⟩
 ·obtain⟨ea,C,U',H',rfl,J,Wq,⟨B,t,fl,aa',uM⟩,hE⟩:=q
  have fl':Heap.jF B (X.env::X.outer) ea (.ref C) (.ref t) s1.heap:=by rw[<-Eo];exact fl
  have agm:X.A.frames=some (X.env::X.outer):=by rw[<-Eo];exact J.ok.frames
  refine SQ agm hfr fl' λh4 afy sm4=>?_;refine acJ afy λh5 fl5 sm5=>?_;have J5:Inv X aZ U' H' {s1 with heap:=h5}:=J.stays hex (λb o q hb hc=>fl5.1 b o (uM b o q hb hc)) (sm4.trans sm5);have rel:∀{b},(H' b≠none\/(∃o',X.s₀.heap.get? b=some o')\/b∈(X.pn++aZ).map (·.1))->∃o1,s1.heap.get? b=some o1:=λ{b} hc=>by
   rcases hc with z|⟨o',z⟩|z
   ·cases hz:H' b with
    |none=>exact absurd hz z
    |some u=>exact(J.hok b u hz).there
   ·exact J.base.there b o' z (by rw[hex];simp)
   ·obtain⟨p,hp,rfl⟩:=List.mem_map.mp z
    exact⟨_,(J.pin p hp).1⟩
  obtain⟨oe,hoe,hoec⟩:=fl5.there;obtain⟨nm,q,nm',q',N,N',bs,bm,bs',bm',hdct,Qq,sn,sn',sub,sub',ab,Zq,col,col',dd,dd',k0,k1,k2,k3,k5,j0,j1,j2,j3,j5,jZ,HJ,hC,hD,nU,hsub⟩:=hcls U' C _ H' hE;refine wpAny_handleBy_cons (codeAny_handlers_test (qC (X:=vW X ea aZ) J5.Qs hg hm ?_ hdb)) (by intro q;cases q);refine sZ (J5.bk _ _ hC) (J5.bk _ _ hD) hoe hoec nU hsub ?_;refine codeAny_handlers_suite_as ?_;refine HB fl5 λh6 fl6 sm6=>?_;have J6:Inv X aZ U' H' {s1 with heap:=h6}:=Inv.stays (s:={s1 with heap:=h5}) hex J5 (λb o q hb hc=>by
   obtain⟨o1,q1⟩:=rel hc;have k1':=uM b o1 q1 hb hc;have k2':=fl5.1 b o1 k1';have q':h5.get? b=some o:=q;rw[k2']at q';cases q';exact fl6.1 b o k1') sm6
  obtain⟨oe6,agn,afz⟩:=fl6.there;obtain⟨_,_,_,oe7,ws7,_,_,_,adD,ah',ab1,_⟩:=fl6;have Qp:ea∉frs X.stack:=λz=>by
   obtain⟨_,o,ho,hnf⟩:=J6.stack.mem z;have e1:h6.get? ea=some oe7:=adD;have e2:h6.get? ea=some o:=ho;rw[e1]at e2;cases e2;exact hnf _ ab1
  have nl:ea≠X.env.locals:=λz=>Qp (by rw[Eo,z];unfold frs;rw[ajh,hfr];exact aiX);have nf:ea∉X.fs:=λz=>Qp (by rw[Eo];unfold frs;rw[ajh,hfr];exact air _ z);have afA:oe7.cls=.ref C:=by
   have e1:h6.get? ea=some oe7:=adD;have e2:h6.get? ea=some oe6:=agn;rw[e1]at e2;cases e2;exact afz
  have nb:X.base.get? ea=none:=by
   cases hz:X.base.get? ea with
   |none=>rfl
   |some o=>
    have k1':=uM ea o (J.bk _ _ hz) Qp (.inr (.inl ⟨o,(J.ok.bs _ _ hz).1⟩));rw[fl.2.1]at k1';cases k1'
  have n0:X.s₀.heap.get? ea=none:=by
   cases hz:X.s₀.heap.get? ea with
   |none=>rfl
   |some o=>
    obtain⟨o',z⟩:=J.base.there ea o hz (by rw[hex];simp);have k1':=uM ea o' z Qp (.inr (.inl ⟨o,hz⟩));rw[fl.2.1]at k1';cases k1'
  have Jp:Inv X (aZ++[(ea,oe7)]) U' H' {s1 with heap:=h6}:=J6.Z8 adD Wq nl nf (λv z=>by rw[ab1]at z;cases z);refine sy (X:=vW X ea (aZ++[(ea,oe7)])) Jp.Qs hN hi (Or.inl hn) (v:=.ref ea) rfl (λs7 J7=>?_) (.inr hn);refine wpAny_mono (hs ea C oe7 (aZ++[(ea,oe7)]) (ait _ aiX) afA nb [] s7 (U'.set i (some (.ref ea))) H' (Lx i ea oe7 De) J7 (h2 U' C ea H' hE Wq oe7 afA)) (λf s8 q8=>?_) (λ_ _ z=>False.elim z);cases f with
  |next=>
   obtain⟨U8,H8,J8,q⟩:=q8;exact uo (J8.zR I.ok.hd) hN hi hn λs9 J9=>⟨_,_,J9.adopt n0 aa',q⟩
  |ret u=>
   obtain⟨v,U8,H8,J8,r,q⟩:=q8;exact uo (J8.zR I.ok.hd) hN hi hn λs9 J9=>⟨v,_,_,J9.adopt n0 aa',r,q⟩
  |brk=>
   obtain⟨U8,H8,J8,q⟩:=q8;exact uo (J8.zR I.ok.hd) hN hi hn λs9 J9=>⟨_,_,J9.adopt n0 aa',q⟩
  |cont=>
   obtain⟨U8,H8,J8,q⟩:=q8;exact uo (J8.zR I.ok.hd) hN hi hn λs9 J9=>⟨_,_,J9.adopt n0 aa',q⟩
section
variable {prog:Program}{w:World}{A:Around}{E:Value->Shared->Prop}{s:Shared}
theorem uI {t sl:Addr}{items:Array Value}{vl vu:Value}{lo hi:Option Int}{Q:Value->Shared->Prop}(ht:IsTup s.heap t items)(hs:s.heap.IsSliceOf sl vl vu .none)(pl:IsPart vl lo)(pu:IsPart vu hi)
  (h1:HT.fD items.size 0 lo=0) (h2:HT.fD items.size items.size hi=items.size) (h:Q (.ref t) s):wpAny (model prog w) A (getItem (.ref t) (.ref sl)) Q E s:=by
 obtain⟨os,hos,hcs,hds⟩:=id hs;have hTs:s.TypeIs (.ref sl) "slice":=⟨os,hos,hcs⟩;unfold getItem
 try with_reducible refine wpAny_holding ?_
 first|refine wpAny_bind (wpAny_pure ?_)|skip
 refine wpAny_bind (wpAny_sequenceKey ht.typeIs (by decide) ?_);refine wpAny_bind (wpAny_callSpecial?_slot (name:=Str.ofString "__getitem__") ht.typeIs PyProof.Rows.slot_tuple_getitem
  (wpAny_call_entry PyProof.Rows.slot_tuple_getitem ht.typeIs entry_tuple_getitem ?_ (args_tuple_getitem _ _)))
 show wpAny _ _ (Builtin.Tuple.tupleItemsOf (.ref t)>>=_) _ _ s;refine wpAny_bind (tupleItemsOf_ ht ?_);refine wpAny_bind (wpAny_typeOf hTs ?_);rw[if_pos (by decide)];refine wpAny_bind (HT.pQ hs pl pu ?_);have hyes:(((HT.fD items.size 0 lo:Nat):Int)==0&&(1:Int)==1&&(HT.fD items.size items.size hi-HT.fD items.size 0 lo)==items.size)=true:=by
  rw[h1,h2];simp
 show wpAny _ _ (if(((HT.fD items.size 0 lo:Nat):Int)==0&&(1:Int)==1&&(HT.fD items.size items.size hi-HT.fD items.size 0 lo)==items.size)=true then _ else _) _ _ s;rw[if_pos hyes];refine wpAny_bind (m:=Builtin.Tuple.tupleIsExact _) (wpAny_bind (wpAny_typeOf ht.typeIs (wpAny_pure ?_)));show wpAny _ _ (if _ then _ else _) _ _ s;rw[if_pos (by decide)];refine wpAny_bind (wpAny_rule ?_)
 first
  |exact wpAny_pure ⟨_,rfl,wpAny_pure h⟩
  |exact wpAny_bind (wpAny_pure (wpAny_pure ⟨_,rfl,wpAny_pure h⟩))
end
section
variable {X:Cx}
inductive ab2 (K:PySem.W.Frag)(x:V)(lo:Option Int)(hi:Option Int)(H:Hp)(Q:VK):Prop where
 |mk (a) (xs):(x=.ref a)->(dY K H a xs)->(HT.fD xs.length 0 lo=0)->(HT.fD xs.length xs.length hi=xs.length)->(Q (.ref a) H)->ab2 K x lo hi H Q
def adE (K:PySem.W.Frag):V->Option Int->Option Int->Hp->VK->Prop:=ab2 K
theorem YQ:UL X (adE X.K):=by
 intro aZ s U H x v vl vu lo hi sl Q I rx hs pl pu h;obtain⟨a,xs,rfl,hx,h1,h2,q⟩:=h;cases rx;obtain⟨aU,r,ht,hz⟩:=I.tuple hx;have fP:aU.toArray.size=xs.length:=by rw[ais];exact r.length.symm
 refine⟨"tuple",_,PyProof.Rows.slot_tuple_getitem.lookup,ht.typeIs,?_⟩;exact uI ht hs pl pu (by rw[fP];exact h1) (by rw[fP];exact h2) ⟨.ref _,_,I,rfl,q⟩
theorem slW (K:PySem.W.Frag)(h:X.K=K:=by rfl):UL X (adE K):=h ▸ YQ
end
end L2
namespace Fw
open PySem PySem.Spec PyProof.Rows L2
theorem afB:zq "("=true:=by decide+kernel
theorem afC:zq ")"=true:=by decide+kernel
theorem adF {n:Nat}{t:T}(h:Tr n t):∀p∈iC t,aan p/\p.length<=100:=by
 induction h with
 |«at» A=>
  intro p hp;rw[tE A]at hp;rw[List.mem_singleton.mp hp];obtain⟨c1,c2⟩:=Ky A.cl;refine⟨⟨.inr ⟨?_,A.cl,?_⟩⟩,aiv A.hi (by decide)⟩
  ·refine decide_eq_false λhm=>?_
   unfold brL at hm;simp at hm;rcases hm with h|h
   ·rw[h]at c1;exact absurd c1 (by decide+kernel)
   ·rw[h]at c2;exact absurd c2 (by decide+kernel)
  ·intro e
   have:=A.lo;rw[<-bT,e]at this;simp at this
 |@tp n l _ ih=>
  have all:∀l':List T,(∀t∈l',t∈l)->∀p∈cW l',aan p/\p.length<=100:=by
   intro l'
   induction l' with
   |nil=>intro _ p hp;simp[cW]at hp
   |cons t l' ih2=>
    intro hl p hp;rw[cW]at hp;rcases List.mem_append.mp hp with h|h
    ·exact ih t (hl t (by simp)) p h
    ·exact ih2 (λx hx=>hl x (air _ hx)) p h
  intro p hp;rw[iC]at hp;rcases aiB.mp hp with rfl|hp
  ·exact⟨⟨.inl afB⟩,by decide+kernel⟩
  ·rcases List.mem_append.mp hp with h|h
   ·exact all l (λt ht=>ht) p h
   ·rw[List.mem_singleton.mp h]
    exact⟨⟨.inl afC⟩,by decide+kernel⟩
theorem Ly {l:List T}(h:∀t∈l,Tr 20 t):∀p∈cW l,aan p/\p.length<=100:=by
 induction l with
 |nil=>intro p hp;simp[cW]at hp
 |cons t l ih=>
  intro p hp;rw[cW]at hp;rcases List.mem_append.mp hp with q|q
  ·exact adF (h t (by simp)) p q
  ·exact ih (λx hx=>h x (air _ hx)) p q
theorem abb (a b:V)(l:List V):lF (a::(l++[b])) (some 1) (some (-1))=l:=by
 unfold lF;have e:(a::(l++[b])).length=l.length+2:=by simp
 rw[e];have e1:HT.fD (l.length+2) 0 (some 1)=1:=by unfold HT.fD;simp
 have e2:HT.fD (l.length+2) (l.length+2) (some (-1))=l.length+1:=by
  unfold HT.fD;simp;omega
 rw[e1,e2];simp
theorem adG:PcT "(":=.inl (.inl (by decide+kernel))
theorem adH:PcT ")":=.inl (.inr (by decide+kernel))
theorem adI {n:Nat}{t:T}(h:Tr n t):∀p∈iC t,PcT p:=by
 induction h with
 |«at» A=>
  intro p hp;rw[tE A]at hp;rw[List.mem_singleton.mp hp];exact .inr (.inl ⟨_,A.th,aiv A.hi (by decide)⟩)
 |@tp n l _ ih=>
  have all:∀l':List T,(∀t∈l',t∈l)->∀p∈cW l',PcT p:=by
   intro l'
   induction l' with
   |nil=>intro _ p hp;simp[cW]at hp
   |cons t l' ih2=>
    intro hl p hp;rw[cW]at hp;rcases List.mem_append.mp hp with h|h
    ·exact ih t (hl t (by simp)) p h
    ·exact ih2 (λx hx=>hl x (air _ hx)) p h
  intro p hp;rw[iC]at hp;rcases aiB.mp hp with rfl|hp
  ·exact adG
  ·rcases List.mem_append.mp hp with h|h
   ·exact all l (λt ht=>ht) p h
   ·rw[List.mem_singleton.mp h]
    exact adH
theorem abd {l:List T}(h:∀t∈l,Tr 20 t):∀p∈cW l,PcT p:=by
 induction l with
 |nil=>intro p hp;simp[cW]at hp
 |cons t l ih=>
  intro p hp;rw[cW]at hp;rcases List.mem_append.mp hp with q|q
  ·exact adI (h t (by simp)) p q
  ·exact ih (λx hx=>h x (air _ hx)) p q
theorem adJ (xs:List V)(k:Nat)(h:k<=xs.length):lF xs none (some (k:Int))=xs.take k:=by
 unfold lF;have e1:HT.fD xs.length 0 none=0:=by unfold HT.fD;rfl
 have e2:HT.fD xs.length xs.length (some (k:Int))=k:=by unfold HT.fD;simp;split<;>omega
 rw[e1,e2];simp
theorem YS (xs:List V)(k:Nat)(h:k<=xs.length):lF xs (some (k:Int)) none=xs.drop k:=by
 unfold lF;have e1:HT.fD xs.length xs.length none=xs.length:=by unfold HT.fD;rfl
 have e2:HT.fD xs.length 0 (some (k:Int))=k:=by unfold HT.fD;simp;split<;>omega
 rw[e1,e2,<-ai5,ajr]
structure afD (K:PySem.W.Frag)(mg:Str->Option Value)(CN CX:Addr)(c1 c2 c3 c4 c5 c6 c7 d1 d2 d3 d4 d5:Addr):Prop where
 iX:mg "FaceError"=some (.ref CX)
 iN:mg "NoText"=some (.ref CN)
 i1:mg "Twice"=some (.ref c1)
 i2:mg "NoName"=some (.ref c2)
 i3:mg "NoCount"=some (.ref c3)
 i4:mg "NoKind"=some (.ref c4)
 i5:mg "NoFace"=some (.ref c5)
 i6:mg "Stuck"=some (.ref c6)
 i7:mg "TooGreat"=some (.ref c7)
 j1:mg "TooLong"=some (.ref d1)
 j2:mg "TooDeep"=some (.ref d2)
 j3:mg "NoTie"=some (.ref d3)
 j4:mg "NoRow"=some (.ref d4)
 j5:mg "NoProgram"=some (.ref d5)
 iV:mg "ValueError"=none
 iI:mg "isinstance"=none
 s:u6 K CN
 kN:PySem.W.kitOne K (.ref CN) (.ref CN)=some true
 kV:PySem.W.kitOne K (.ref CN) (.type "ValueError")=some true
 kA:PySem.W.kitAny K (.ref CN) ([c1,c2,c3,c4,c5,c6,c7].map Value.ref)=some false
 kB:PySem.W.kitAny K (.ref CN) ([d1,d2,d3,d4,d5].map Value.ref)=some false
abbrev adK:Stmt:=top 82
abbrev Lz:Stmt:=top 114
inductive Gy (CN:Addr)(vs:List V)(H:Hp)(Q:VK)(E:XK):Prop where
 |mk (z:Str) (ts:List T):vs=[.str z]->z.length<=100000->fK z=cW ts->(∀t∈ts,Tr 20 t)->d9 ts<100000->(z.length<=6000->m5 ts=true->∀v H',Same H H'->Rep H' v (.tup ts)->Q v H')->
   ((6000<z.length\/m5 ts=false)->∀ea H',Same H H'->E (.ref CN) (some ea) H')->Gy CN vs H Q E
inductive Rk (vs:List V)(H:Hp)(Q:VK)(E_:XK):Prop where
 |mk (z:Str) (ts:List T):vs=[.str z]->z.length<=100000->fK z=cW ts->(∀t∈ts,Tr 20 t)->d9 ts<100000->m5 ts=false->(∀H',Same H H'->Q (.bl true) H')->Rk vs H Q E_
abbrev adL:List Str:=["_law_text","_law_told","e"]
theorem Js:bG adL ["_law_text"] (bA Lz):=⟨rfl,rfl,rfl,by decide+kernel,rfl,by decide+kernel,by decide+kernel⟩
theorem abe:bootBuiltins "ValueError"=some (.type "ValueError"):=by decide+kernel
section
variable {P:Program}{w:World}{K:PySem.W.Frag}{mg:Str->Option Value}{aN:Heap}{f CN CX c1 c2 c3 c4 c5 c6 c7 d1 d2 d3 d4 d5:Addr}{fd:FuncData}{bm:List Value}{jZ B qQ:String}
theorem ab3:bG ["text","program"] ["text"] (bA adK):=⟨rfl,rfl,rfl,by decide+kernel,rfl,by decide+kernel,by decide+kernel⟩
theorem afE (F:eV K "read" "read" adK f fd)(OS:OwnCls "NoText" CN bm jZ mg aN)(FS:ExcBaseFacts B jZ qQ bm)(h1:BX P w K mg aN 7 "things_of" ["text"] (QF CN))(h2:Has P w K mg aN 20 "is_program" ["things"] Og):cj P w K mg aN (xM P w) 21 f fd ["text"] (Gy CN):=by
 refine F.okX ab3 (λcX A aM s H vs Q E hr h=>?_);obtain⟨z,ts,rfl,hz,ep,tr,sz,q1,q2⟩:=h;obtain⟨f1,g1,G1,b1,k1,m1⟩:=h1;refine⟨_,bx (kO 1 ab3.nd (qG G1 (hr.mono (by decide)) rfl m1 k1 b1 .nil uh (aW (pv 0) aX))) (bx (cF (dZ (cT (bB h2 hr (by decide) rfl (aW (pv 1) aX)))) (bh (qd OS FS rfl (aW bQ aX))) bK) (bh (bD (pv 1)))),?_⟩;have ep1:qR [[]] (fK z)=some [ts]:=by rw[ep];exact W4 tr
 refine⟨_,rfl,z,rfl,hz,λ_=>by rw[ep];exact abd tr,λts' l6 e v H1 s1 r=>?_,λno ea H' s'=>?_⟩
 ·rw[ep1]at e
  cases e;cases r with
  |@tup a us _ ha r=>
  refine⟨_,rfl,a,us,ts,rfl,ha,r,sz,λH2 s2=>⟨_,rfl,?_⟩⟩;cases c:m5 ts with
  |true=>exact dW ⟨_,rfl,q1 l6 c _ _ (s1.trans s2) (.tup (s2 _ _ ha) (r.same s2))⟩
  |false=>exact dM ⟨small (by show 1<=1000000;decide),λea _=>q2 (.inr c) ea _ (s1.trans s2)⟩
 ·rcases no with n|n
  ·exact q2 (.inl n) ea _ s'
  ·exact absurd ep1 (n ts)
set_option maxHeartbeats 2000000 in
theorem adM (F:eV K "_law_refused" "_law_refused" Lz f fd)(Z:afD K mg CN CX c1 c2 c3 c4 c5 c6 c7 d1 d2 d3 d4 d5)(ago:HN aN CN CX)(h1:BX P w K mg aN 21 "read" ["text"] (Gy CN)):
  cj P w K mg aN eY 22 f fd ["_law_text"] Rk:=by
 refine F.ok Js (λcX A aM s H vs Q E hr h=>?_);obtain⟨z,ts,rfl,hz,ep,tr,sz,no,q⟩:=h;obtain⟨f1,g1,G1,b1,k1,m1⟩:=h1;refine⟨_,bx (kO 1 Js.nd jQ) (bx (aa9 (X:=(j7 eY P w K mg aN adL "_law_refused" (bA Lz) f cX A aM s H E).Vf) (i:=2) (D:=CX) (EX:=λU Cv _ H'=>Cv=.ref CN/\U=[some (.str z),some .non,none]/\Same H H')
   rfl rfl rfl Js.nd rfl rfl rfl Z.iX
   (λU C ea H' hE=>by
    obtain⟨z,_⟩:=hE;cases z;exact ago)
   (λaZ=>bh (fj (Wt (X:=(j7 eY P w K mg aN adL "_law_refused" (bA Lz) f cX A aM s H E).Vf) rfl G1 b1 k1 m1 hr rfl (aW (pv 0) aX))))
   (λea C oe aZ hp hoc nb=>bh (kO 1 Js.nd (pv 2))))
  (bx (cF (PW.pt (kj (dZ (cT (bH S7 rfl Z.iI boot_isinstance (aW (pv 1) (aW (bZ (v:=.ref CN) rfl Z.iN rfl) aX)))))
    (jm (dZ (cT (bH S8 rfl Z.iI boot_isinstance (aW (pv 1) (aW (eZ (v:=.ty "ValueError") rfl Z.iV abe rfl) aX))))))))
   (bh (bD lG)) bK)
  (bx (cF (cT (bH FJ rfl Z.iI boot_isinstance (aW (pv 1) (aW (cO (aW (bZ (v:=.ref c1) rfl Z.i1 rfl) (aW (bZ (v:=.ref c2) rfl Z.i2 rfl) (aW (bZ (v:=.ref c3) rfl Z.i3 rfl) (aW (bZ (v:=.ref c4) rfl Z.i4 rfl) (aW (bZ (v:=.ref c5) rfl Z.i5 rfl) (aW (bZ (v:=.ref c6) rfl Z.i6 rfl) (aW (bZ (v:=.ref c7) rfl Z.i7 rfl) aX)))))))) aX))))
   (bh (bD lG)) bK)
  (bh (bD (Mg (bH FJ rfl Z.iI boot_isinstance (aW (pv 1) (aW (cO (aW (bZ (v:=.ref d1) rfl Z.j1 rfl) (aW (bZ (v:=.ref d2) rfl Z.j2 rfl) (aW (bZ (v:=.ref d3) rfl Z.j3 rfl) (aW (bZ (v:=.ref d4) rfl Z.j4 rfl) (aW (bZ (v:=.ref d5) rfl Z.j5 rfl) aX)))))) aX))))))))),?_⟩
 refine⟨?_,?_⟩
 ·exact⟨_,rfl,z,ts,rfl,hz,ep,tr,sz,λ_ c=>(by rw[no]at c;cases c),λ_ ea H' s'=>⟨rfl,rfl,s'⟩⟩
 ·rintro U' C ea H' ⟨hC,rfl,s'⟩ Wq oe hoc
  cases hC;have e1:=bw Wq (uE ea oe);have c1':(upd H' ea (uE ea oe)) ea=some (uE ea oe):=bf;refine⟨_,rfl,_,rfl,ea,oe,CN,CN,true,rfl,c1',hoc,Z.s,Z.kN,?_⟩;refine⟨_,rfl,dW ⟨_,rfl,ea,oe,CN,_,true,rfl,c1',hoc,Z.s,Z.kV,_,rfl,dW ?_⟩⟩;revert e1 c1';generalize upd H' ea (uE ea oe)=H1;intro e1 c1';refine⟨_,rfl,sml 7,λt1 n1=>?_⟩;have e2:=bw n1 (.tup ([c1,c2,c3,c4,c5,c6,c7].map V.ref));have u1:(upd H1 t1 (.tup ([c1,c2,c3,c4,c5,c6,c7].map V.ref))) t1=some (.tup ([c1,c2,c3,c4,c5,c6,c7].map V.ref)):=bf;refine⟨ea,oe,CN,t1,_,false,rfl,e2 _ _ c1',hoc,Z.s,u1,Z.kA,_,rfl,dW ?_⟩;refine⟨_,rfl,sml 5,λt2 n2=>?_⟩;have e3:=bw n2 (.tup ([d1,d2,d3,d4,d5].map V.ref));exact⟨ea,oe,CN,t2,[d1,d2,d3,d4,d5],false,rfl,e3 _ _ (e2 _ _ c1'),hoc,Z.s,bf,Z.kB,_,rfl,q _ (s'.trans (e1.trans (e2.trans e3)))⟩
end
theorem yI (l:List T)(x:T):m5 (l++[x])=(lA x&&(cA 0 23 l&&l.all dJ)):=by
 unfold m5;rw[List.getLast?_append,ajg]
 rfl
theorem yJ {l:List T}{x:T}(h:lA x=false):m5 (l++[x])=false:=by rw[yI,h];rfl
theorem yK {l:List T}{x d:T}(hd:d∈l)(h:dJ d=false):m5 (l++[x])=false:=by
 have:l.all dJ=false:=by
  refine Bool.eq_false_iff.mpr λc=>?_;rw[ajq.mp c d hd]at h;cases h
 rw[yI,this,aja,aja]
theorem Uy {l:List T}{x:T}(h:23<l.length):m5 (l++[x])=false:=by
 have:cA 0 23 l=false:=by
  unfold cA;rw[decide_eq_false (by omega:¬l.length<=23),aja]
 rw[yI,this,ajY,aja]
theorem Gz {d:T}(h:dJ d=true):lA d=false:=by
 unfold dJ at h;split at h
 ·rename_i z r
  have hz:z≠"main":=λe=>by
   rw[e,show dO.lookup ("main":Str)=none by decide+kernel]at h;cases h
  show(_&&(decide (z="main")&&_))=false;rw[decide_eq_false hz,ajY,aja]
 ·cases h
theorem Rm {m:T}(h:lA m=true):∃p,m=.tup [.str "main",p]/\gw p=true:=by
 unfold lA at h;simp only[ain]at h;obtain⟨h1,h2,h3⟩:=h;cases m with
 |int i=>cases h1
 |str z=>cases h1
 |tup l=>
  have hl:cA 2 2 l=true:=h1;unfold cA at hl;simp only[ain,decide_eq_true_eq]at hl
  match l,hl with
  |[a,b],_=>
   have h2:isW "main" a=true:=h2;obtain⟨z,rfl,hz⟩:=lV h2;rw[of_decide_eq_true hz];exact⟨b,rfl,h3⟩
  |[],h=>simp at h
  |[a],h=>simp at h
  |a::b::c::d,h=>simp at h
theorem GC {m:T}(h:lA m=true):dJ m=false:=by
 obtain⟨p,rfl,_⟩:=Rm h;have e:dJ (.tup (.str "main"::[p]))=(match dO.lookup ("main":Str) with|some n=>lq n (.tup (.str "main"::[p]))|none=>false):=rfl;rw[e,show dO.lookup ("main":Str)=none by decide+kernel]
structure GD (ts:List T):Prop where
 tr:∀t∈ts,Tr 20 t
 no:m5 ts=false
 w:iT (iC (.tup ts))<=20000
inductive Rn (vs:List V)(H:Hp)(Q:VK)(E_:XK):Prop where
 |mk (st:Addr) (v:V) (ts:List T):vs=[.ref st,v]->gj H st->Rep H v (.tup ts)->jz ts->iT (iC (.tup ts))<=5802->(∀v' ts' H',Rep H' v' (.tup ts')->GD ts'->cP st H H'->Q v' H')->Rn vs H Q E_
abbrev tX:Stmt:=top 119
abbrev nSp:List Str:=["_law_state","_law_program_here","_law_way","_law_main","_law_bad_here","_law_spot"]
abbrev enM:En:=[none,none,none,th 0,none,none]
def kdD:Dm:=.cons (.s "kind") (.cons (.s "a") (.cons .nil (.cons (.cons (.s "B") .nil) .nil)))
abbrev kdT:T:=.tup [.str "kind", .str "a", .tup [], .tup [.str "B"]]
theorem LC:dJ kdT=true/\Tr 20 kdT/\iT (iC kdT)=39:=by
 have g:=Li (z:="a") (g:="B") (by decide+kernel) (by decide+kernel);exact⟨g.b,g.tr,by decide+kernel⟩
theorem mq (t:T)(l:List T):iT (cW (t::l))=iT (iC t)+iT (cW l):=by rw[cW,jl]
theorem dh (a b:List T):iT (cW (a++b))=iT (cW a)+iT (cW b):=by rw[wg,jl]
theorem Ro:∀n,iT (cW (List.replicate n kdT))=n*39
 |0=>rfl
 |n+1=>by rw[aiQ,mq,Ro n,LC.2.2];omega
theorem unx {X:Cx}{st:Stmt}{t:TS}(h:Tc X st t):PS X st t:=h.h
theorem LK {X:Cx}(K:PySem.W.Frag){N:List Str}(hK:X.K=K)(hN:X.N=N)(hv:∀x∈N,Pu X.env.scope x)(n:Nat){e:Expr}:zT X e (afo N n e):=⟨(qy hK hN hv n).1 e⟩
section
variable {P:Program}{w:World}{K:PySem.W.Frag}{mg:Str->Option Value}{aN:Heap}{f:Addr}{fd:FuncData}
theorem Dt:bG nSp ["_law_state","_law_program_here"] (bA tX):=⟨rfl,rfl,rfl,by decide+kernel,rfl,by decide+kernel,by decide+kernel⟩
theorem abf:∀x∈nSp,Loc (bA tX) x:=wO (by decide+kernel)
structure SpP (st a:Addr)(jD:List V)(um:V)(ds:List T)(m:T)(H:Hp):Prop where
 ok:gj H st
 ha:H a=some (.tup (jD++[um]))
 r0:cB H jD ds
 rm:Rep H um m
 len:ds.length<=23
 dg:∀t∈ds,Gd dJ 20 90500 t
 mg:Gd lA 20 26404 m
 w:iT (cW ds)+iT (iC m)<=5794
abbrev SpR (st:Addr)(H:Hp)(Q:VK):Prop:=∀v' ts' H',Rep H' v' (.tup ts')->GD ts'->cP st H H'->Q v' H'
def tSp (k:Int):TS:=λD U H=>∃(st a:Addr) (jD:List V) (um:V) (ds:List T) (m:T) (wy:Int),U=[some (.ref st),some (.ref a),some (.int wy),some um,none,none]/\SpP st a jD um ds m H/\(wy=k->SpR st H D.rt)/\(wy≠k->D.nx U H)
theorem SpP.trd {st a:Addr}{jD:List V}{um:V}{ds:List T}{m:T}{H:Hp}(S:SpP st a jD um ds m H):∀t∈ds,Tr 20 t:=λt ht=>(S.dg t ht).tr
theorem Rp {m:T}{v:V}{st p wy:Option V}{ob os:Option V}{H:Hp}(r:Rep H v m):lD (λ_=>m) enM [st,p,wy,some v,ob,os] H :=
 .no (.no (.no (.cons r (.no (.no .nil)))))
theorem abg {X:Cx}{c:Expr}{a b:List Stmt}{tc:L2.TT}{t u:TS}{pos:Pos}(hc:PT X c tc)(ha:Te X a t)(hb:Te X b u):Tc X (.If c a b pos) (Mi tc t u):=⟨cF hc ha.h hb.h⟩
theorem Jt {X:Cx}:Te X [] Px:=⟨bK⟩
theorem lE {ds:List T}{l:List T}(h:∀t∈ds,Tr 20 t)(h2:∀t∈l,Tr 20 t):∀t∈ds++l,Tr 20 t:=λt ht=>(List.mem_append.mp ht).elim (h t) (h2 t)
theorem pL {m:T}(h:Tr 20 m):∀t∈[m],Tr 20 t:=λt ht=>by rw[List.mem_singleton.mp ht];exact h
theorem za {l:List T}(h1:∀t∈l,Tr 20 t)(h2:m5 l=false)(h3:iT (cW l)<=19992):GD l:=⟨h1,h2,by rw[gq];omega⟩
@[irreducible] def sp (k:Nat):Stmt:=(gZ tX).getD k (.Pass ⟨0,0,0,0⟩)
theorem YT:gZ tX=[sp 0,sp 1,sp 2,sp 3,sp 4,sp 5,sp 6,sp 7]:=by unfold sp;rfl
abbrev XS (P:Program)(w:World)(K:PySem.W.Frag)(mg:Str->Option Value)(aN:Heap)(f:Addr)(cX:Value)(A:Around)(aM:List Env)(s:Shared)(H:Hp)(E:XK):Cx:=(j7 eY P w K mg aN nSp "_law_spoilt" (bA tX) f cX A aM s H E).Vf
theorem hvS:∀x∈nSp,Pu (bA tX) x:=λx hx=>Ad (abf x hx)
variable {cX:Value}{A:Around}{aM:List Env}{s:Shared}{H:Hp}{E:XK}
theorem ci {a b:Int}(c:decide (V.int a=V.int b)=true):a=b:=V.int.inj (of_decide_eq_true c)
theorem cn {a b:Int}(c:¬decide (V.int a=V.int b)=true):a≠b:=λe=>c (by rw[e];exact decide_eq_true rfl)
theorem sm (n:Nat)(h:n<=1000:=by decide):n<=sizeLine:=small (by show n<=1000000;omega)
theorem Pk {xs:List V}{k:Nat}(h:k<xs.length):¬(HT.fD xs.length 0 none=0/\HT.fD xs.length xs.length (some (k:Int))=xs.length):=λc=>by
 have e2:HT.fD xs.length xs.length (some (k:Int))=k:=by unfold HT.fD;simp;split<;>omega
 rw[e2]at c;omega
theorem zc {xs:List V}{k:Nat}(h:k<=xs.length):HT.fD xs.length 0 (some (k:Int))=k/\HT.fD xs.length xs.length none=xs.length:=⟨by unfold HT.fD;simp;split<;>omega,by unfold HT.fD;rfl⟩
theorem adN (ds:List T)(m:T)(h:∀t∈ds,Tr 20 t)(hm:Tr 20 m)(w:iT (cW ds)+iT (iC m)<=5794):GD ((ds++[m])++[kdT]) :=
 za (lE (lE h (pL hm)) (pL LC.2.1)) (yJ (Gz LC.1)) (by rw[dh,dh,gJ,gJ,LC.2.2];omega)
theorem adO:Tc (XS P w K mg aN f cX A aM s H E) (sp 3) (tSp 1):=by
 unfold sp;refine BJ (abg (bL cN (pv 2) aY (bM _)) (Qt (Ko (LK K rfl (N:=nSp) rfl hvS 30))) Jt) ?_;rintro D U H ⟨st,a,jD,um,ds,m,wy,rfl,S,h1,h2⟩;refine⟨_,rfl,rfl,_,rfl,ig (λc=>?_) (λc=>h2 (cn c))⟩;refine⟨λ_=>m,_,_,O2 (Ut 24 (.cons kdD .nil)) (.cons (.v 0) .nil),uP,(Rp S.rm).Em,rfl,λv H' s' r=>?_⟩;have r:Rep H' v (.tup (List.replicate 24 kdT++[m])):=r;refine h1 (ci c) v _ H' r (za (lE (λt ht=>?_) (pL S.mg.tr)) (Uy (by decide)) ?_) (cH S.ok s')
 ·rw[(List.mem_replicate.mp ht).2];exact LC.2.1
 ·have:=S.w
  rw[dh,Ro,gJ];omega
theorem adP:Tc (XS P w K mg aN f cX A aM s H E) (sp 5) (tSp 3):=by
 unfold sp;refine BJ (abg (bL cN (pv 2) aY (bM _)) (Qt (Ko (Nq (Lh K) (Nm 1) (LK K rfl (N:=nSp) rfl hvS 30)))) Jt) ?_;rintro D U H ⟨st,a,jD,um,ds,m,wy,rfl,S,h1,h2⟩;refine⟨_,rfl,rfl,_,rfl,ig (λc=>?_) (λc=>h2 (cn c))⟩;refine⟨_,rfl,λ_=>m,_,_, .cons kdD .nil,uP,(Rp S.rm).Em,rfl,λv H' s' r=>?_⟩;have r:Rep H' v (.tup [kdT]):=r;cases r with
 |@tup b ws _ hb r=>
 have lr:=r.length;have l0:=S.r0.length;have:=S.len;refine⟨a,b,jD++[um],ws,rfl,rfl,dY.of (s' _ _ S.ha),dY.of hb,by simp,?_,λe=>(by rw[e]at lr;cases lr),λ_ p hp=>?_⟩
 ·refine aiv (m:=100) ?_ (sm 100)
  simp only[aiG,aiF,aiZ]at lr ⊢;omega
 ·exact h1 (ci c) _ _ _ (.tup bf ((((S.r0.append (.cons S.rm .nil)).same s').append r).same (bw hp _))) (adN ds m S.trd S.mg.tr S.w) (cH S.ok (s'.trans (bw hp _)))
theorem adQ (hr:jL 8 (A.deeper (envOfC "_law_spoilt" (bA tX) s.heap.objs.size f cX)))(h0:Has P w K mg aN 1 "_law_next" ["_law_state","_law_many"] eE):Tc (XS P w K mg aN f cX A aM s H E) (sp 2) (tSp 0):=by
 unfold sp;refine BJ (abg (bL cN (pv 2) aY (bM _))
   (Qt (Ko (ae1 (Zr K) (abL (x_t (Km Bx) (x_s ⟨cL (slT K) (pv 1) dF (cR (pN lK aY))⟩ (x_b (Nq (Lh K) (Nm 1) (Km (x_n (Nm 3) Bx))) (x_b (Nq (Lh K) (Km (x_n (Nm 3) Bx)) (Nm 1)) Bx))))) (zT.mk (bB h0 hr (by decide) rfl (aW (pv 0) (aW aY aX)))) (λ_ _=>rfl)))) Jt) ?_
 rintro D U H ⟨st,a,jD,um,ds,m,wy,rfl,S,h1,h2⟩;refine⟨_,rfl,rfl,_,rfl,ig (λc=>?_) (λc=>h2 (cn c))⟩;have h1:=h1 (ci c);have l0:=S.r0.length;have:=S.len;have lus:(jD++[um]).length<=30:=by simp only[aiG,aiF,aiZ];omega
 refine⟨sm 0,λp0 hp0=>?_⟩;have e0:=bw hp0 (.tup []);have k0:(upd H p0 (.tup [])) p0=some (.tup []):=bf;revert e0 k0;generalize upd H p0 (.tup [])=H0;intro e0 k0;refine⟨_,rfl,1,rfl,-1,rfl,a,_,rfl,dY.of (e0 _ _ S.ha),rJ _ _,λp1 hp1=>?_⟩;rw[CV];have e1:=bw hp1 (.tup jD);have k1:(upd H0 p1 (.tup jD)) p1=some (.tup jD):=bf;revert e1 k1;generalize upd H0 p1 (.tup jD)=H1;intro e1 k1;refine⟨_,rfl,_,rfl,sm 1,λp2 hp2=>?_⟩;have e2:=bw hp2 (.tup [um]);have k2:(upd H1 p2 (.tup [um])) p2=some (.tup [um]):=bf;revert e2 k2;generalize upd H1 p2 (.tup [um])=H2;intro e2 k2;refine⟨a,p2,jD++[um],[um],rfl,rfl,dY.of (e2 _ _ (e1 _ _ (e0 _ _ S.ha))),dY.of k2,by simp,aiv (Nat.add_le_add lus (aio 1)) (sm 31),λe=>(by cases e),λ_ p3 hp3=>?_⟩;have e3:=bw hp3 (.tup (jD++[um]++[um]));have k3:(upd H2 p3 (.tup (jD++[um]++[um]))) p3=some (.tup (jD++[um]++[um])):=bf;revert e3 k3;generalize upd H2 p3 (.tup (jD++[um]++[um]))=H3;intro e3 k3;refine⟨_,rfl,sm 1,λp4 hp4=>?_⟩;have e4:=bw hp4 (.tup [um]);have k4:(upd H3 p4 (.tup [um])) p4=some (.tup [um]):=bf;revert e4 k4;generalize upd H3 p4 (.tup [um])=H4;intro e4 k4;have e04:=(((e0.trans e1).trans e2).trans e3).trans e4;refine⟨_,rfl,p4,a,[um],jD++[um],rfl,rfl,dY.of k4,dY.of (e04 _ _ S.ha),by simp,aiv (Nat.add_le_add (aio 1) lus) (sm 31),λe=>(by simp at e),λ_ p5 hp5=>?_⟩;have e5:=bw hp5 (.tup ([um]++(jD++[um])));have k5:(upd H4 p5 (.tup ([um]++(jD++[um])))) p5=some (.tup ([um]++(jD++[um]))):=bf;revert e5 k5;generalize upd H4 p5 (.tup ([um]++(jD++[um])))=H5;intro e5 k5;refine⟨sm 4,λpl rW=>?_⟩;have e6:=bw rW (.lst [V.ref p0, .ref p1, .ref p3, .ref p5]);have k6:(upd H5 pl (.lst [V.ref p0, .ref p1, .ref p3, .ref p5])) pl=some (.lst [V.ref p0, .ref p1, .ref p3, .ref p5]):=bf;have nl:pl≠st:=fZ (S.ok.same (e04.trans e5)) rW;revert e6 k6;show Same _ (upd H5 pl (.lst [V.ref p0, .ref p1, .ref p3, .ref p5]))->_;generalize upd H5 pl (.lst [V.ref p0, .ref p1, .ref p3, .ref p5])=H6;intro e6 k6;have e06:=(e04.trans e5).trans e6;have ok6:=S.ok.same e06;refine⟨_,rfl,st,4,rfl,ok6,by decide,by decide,λd H7 d0 d1 g=>?_⟩;have gg:cP st H H7:=(cH S.ok e06).trans g;have k6':=g.1 _ _ nl k6;have tp:∀{p:Addr} {xs:List V} {ts:List T},H6 p=some (.tup xs)->cB H xs ts->Rep H7 (.ref p) (.tup ts):=λk r=>.tup (g.tups ok6 _ _ k) ((r.same e06).grow g ok6);have rr:=S.r0.append (.cons S.rm .nil);have wm:=S.w;have:d=0\/d=1\/d=2\/d=3:=by omega
 rcases this with rfl|rfl|rfl|rfl
 ·exact⟨pl,_,_,_,rfl,rfl,dX.of k6',rfl,h1 _ [] _ (tp (e6 _ _ (e5 _ _ (e4 _ _ (e3 _ _ (e2 _ _ (e1 _ _ k0)))))) .nil) (za (λt ht=>by cases ht) rfl (aiP _)) gg⟩
 ·refine⟨pl,_,_,_,rfl,rfl,dX.of k6',rfl,h1 _ ds _ (tp (e6 _ _ (e5 _ _ (e4 _ _ (e3 _ _ (e2 _ _ k1))))) S.r0) (za S.trd ?_ (by omega)) gg⟩
  rcases List.eq_nil_or_concat ds with e|⟨l,x,e⟩
  ·rw[e];rfl
  ·have hx:x∈ds:=by rw[e];simp
   rw[e,List.concat_eq_append];exact yJ (Gz (S.dg x hx).b)
 ·refine⟨pl,_,_,_,rfl,rfl,dX.of k6',rfl,h1 _ (ds++[m]++[m]) _ (tp (e6 _ _ (e5 _ _ (e4 _ _ k3))) (rr.append (.cons S.rm .nil))) (za (lE (lE S.trd (pL S.mg.tr)) (pL S.mg.tr)) (yK (d:=m) (by simp) (GC S.mg.b)) ?_) gg⟩
  rw[dh,dh,gJ];omega
 ·refine⟨pl,_,_,_,rfl,rfl,dX.of k6',rfl,h1 _ ([m]++(ds++[m])) _ (tp (e6 _ _ k5) (cB.append (.cons S.rm .nil) rr)) (za (lE (pL S.mg.tr) (lE S.trd (pL S.mg.tr))) ?_ ?_) gg⟩
  ·rw[<-aiD]
   exact yK (d:=m) (by simp) (GC S.mg.b)
  ·rw[dh,dh,gJ];omega
end
theorem GF {τ:Dm}{ρ:Nat->T}(h:Jl τ=false):gw (inst ρ τ)=false:=by
 cases e:gw (inst ρ τ) with
 |false=>rfl
 |true=>rw[Gu τ e]at h;cases h
theorem Rq {p:T}(h:gw p=false):lA (.tup [.str "main",p])=false:=by
 show(_&&(_&&gw p))=false;rw[h,aja,aja]
theorem adR:fV (.str "fun"):=qT (by decide+kernel)
theorem YW:fV (.str "main"):=qT (by decide+kernel)
theorem agp:fV (.str "x"):=iD (by decide+kernel)
theorem abh {l:List T}(h:∀t∈l,Tr 19 t):Tr 20 (.tup l):=.tp h
structure afF (x:T):Prop where
 no:lA x=false
 tr:Tr 20 x
 w:iT (iC x)<=12000
theorem YX {p:T}(hp:Tr 19 p)(hw:iT (iC (.tup [.str "main",p]))<=5794):∀x∈[T.tup [.str "main"], .tup [.str "main",p,p], .tup [.str "main", .tup [.str "fun", .str "x"]], .tup [.str "main", .str "main"]],afF x:=by
 intro x hx;simp only[aiB,aiz,or_false]at hx;have t1:∀{n},Tr n (.str "main"):=λ{n}=>.at YW;rw[gq,mq,gJ]at hw;rcases hx with rfl|rfl|rfl|rfl
 ·exact⟨rfl,abh λt ht=>(by rw[List.mem_singleton.mp ht];exact t1),by decide+kernel⟩
 ·refine⟨rfl,abh λt ht=>?_,?_⟩
  ·simp only[aiB,aiz,or_false]at ht
   rcases ht with rfl|rfl|rfl
   ·exact t1
   ·exact hp
   ·exact hp
  ·rw[gq,mq,mq,gJ];omega
 ·refine⟨Rq (GF (ρ:=λ_=>.int 0) (τ:=.cons (.s "fun") (.cons (.s "x") .nil)) (by decide+kernel)),abh λt ht=>?_,by decide+kernel⟩
  simp only[aiB,aiz,or_false]at ht;rcases ht with rfl|rfl
  ·exact t1
  ·refine(Tr.tp (n:=1) λt ht=>?_).mono (by decide)
   simp only[aiB,aiz,or_false]at ht;rcases ht with rfl|rfl
   ·exact .at adR
   ·exact .at agp
 ·refine⟨Rq (GF (ρ:=λ_=>.int 0) (τ:=.s "main") (by decide+kernel)),abh λt ht=>?_,by decide+kernel⟩
  simp only[aiB,aiz,or_false]at ht;rcases ht with rfl|rfl<;>exact t1
theorem YZ {ds:List T}{x:T}(h:∀t∈ds,Tr 20 t)(w:iT (cW ds)<=5794)(b:afF x):GD (ds++[x]) :=
 za (lE h (pL b.tr)) (yJ b.no) (by have:=b.w;rw[dh,gJ];omega)
section
variable {P:Program}{w:World}{K:PySem.W.Frag}{mg:Str->Option Value}{aN:Heap}{f:Addr}{fd:FuncData}{cX:Value}{A:Around}{aM:List Env}{s:Shared}{H:Hp}{E:XK}
theorem adS (hr:jL 8 (A.deeper (envOfC "_law_spoilt" (bA tX) s.heap.objs.size f cX)))(h0:Has P w K mg aN 1 "_law_next" ["_law_state","_law_many"] eE):Tc (XS P w K mg aN f cX A aM s H E) (sp 4) (tSp 2):=by
 unfold sp;refine BJ (abg (bL cN (pv 2) aY (bM _))
   (acM (aeZ (i:=4) Dt.nd rfl (Or.inl rfl) (abL (x_t (LK K rfl (N:=nSp) rfl hvS 30) (x_b (Nq (Lh K) (Nm 3) (zT.mk (cL (slT K) (pv 3) (cR aY) dF))) (x_t (LK K rfl (N:=nSp) rfl hvS 30) (x_t (LK K rfl (N:=nSp) rfl hvS 30) Bx))))) Tg)
   (Qt (Ko (Nq ((Lh K).or (X6 K)) (zT.mk (cL (slT K) (pv 1) dF (cR (pN lK aY)))) (Km (x_s (ae1 (Zr K) (Nm 4) (zT.mk (bB h0 hr (by decide) rfl (aW (pv 0) (aW aY aX)))) (λ_ _=>rfl)) Bx)))))) Jt) ?_
 rintro D U H ⟨st,a,jD,um,ds,m,wy,rfl,S,h1,h2⟩;refine⟨_,rfl,rfl,_,rfl,ig (λc=>?_) (λc=>h2 (cn c))⟩;have h1:=h1 (ci c);have l0:=S.r0.length;have:=S.len;have wm:=S.w;obtain⟨p,rfl,hp⟩:=Rm S.mg.b;have trp:Tr 19 p:=by
  cases S.mg.tr with
  |«at» a=>exact absurd rfl (a.nt _)
  |tp h=>exact h p (by simp)
 have rm:=S.rm;cases rm with
 |@tup am xs _ hm rx=>
 cases rx with
 |@cons x1 _ xs _ rx1 rx=>
 cases rx with
 |@cons x2 _ xs _ rx2 rx=>
 cases rx;refine⟨λ_=>p,_,_, .cons (.s "main") .nil,uP,(⟨rfl,λk l hk=>by rcases k with _|_|_|_|_|_|k<;>cases hk⟩:lD _ [none,none,none,none,none,none] _ _).Em,rfl,λv1 H1 e1 r1=>?_⟩;refine⟨_,rfl,_,rfl,1,rfl,am,_,rfl,dY.of (e1 _ _ hm),Bh (by simp),λp2 hp2=>?_⟩;rw[acG,show List.drop 1 [x1,x2]=[x2] from rfl];have e2:=bw hp2 (.tup [x2]);have k2:(upd H1 p2 (.tup [x2])) p2=some (.tup [x2]):=bf;revert e2 k2;generalize upd H1 p2 (.tup [x2])=H2;intro e2 k2;refine⟨am,p2,[x1,x2],[x2],rfl,rfl,dY.of (e2 _ _ (e1 _ _ hm)),dY.of k2,by simp,sm 3,λe=>(by cases e),λ_ p3 hp3=>?_⟩;have e3:=bw hp3 (.tup ([x1,x2]++[x2]));have k3:(upd H2 p3 (.tup ([x1,x2]++[x2]))) p3=some (.tup ([x1,x2]++[x2])):=bf;revert e3 k3;generalize upd H2 p3 (.tup ([x1,x2]++[x2]))=H3;intro e3 k3;refine⟨λ_=>p,_,_, .cons (.s "main") (.cons (.cons (.s "fun") (.cons (.s "x") .nil)) .nil),uP,(⟨rfl,λk l hk=>by rcases k with _|_|_|_|_|_|k<;>cases hk⟩:lD _ [none,none,none,none,none,none] _ _).Em,rfl,λv4 H4 e4 r4=>?_⟩;refine⟨λ_=>p,_,_, .cons (.s "main") (.cons (.s "main") .nil),uP,(⟨rfl,λk l hk=>by rcases k with _|_|_|_|_|_|k<;>cases hk⟩:lD _ [none,none,none,none,none,none] _ _).Em,rfl,λv5 H5 e5 r5=>?_⟩;refine⟨sm 4,λpl rW=>?_⟩;have e05:=(((e1.trans e2).trans e3).trans e4).trans e5;have e6:=bw rW (.lst [v1, .ref p3,v4,v5]);have k6:(upd H5 pl (.lst [v1, .ref p3,v4,v5])) pl=some (.lst [v1, .ref p3,v4,v5]):=bf;have nl:pl≠st:=fZ (S.ok.same e05) rW;revert e6 k6;generalize upd H5 pl (.lst [v1, .ref p3,v4,v5])=H6;intro e6 k6;have e06:=e05.trans e6;have s34:=(e4.trans e5).trans e6;have rs:cB H6 [v1, .ref p3,v4,v5] [T.tup [.str "main"], .tup [.str "main",p,p], .tup [.str "main", .tup [.str "fun", .str "x"]], .tup [.str "main", .str "main"]] :=
  .cons (Rep.same (((e2.trans e3).trans s34)) r1) (.cons (.tup (s34 _ _ k3) (.cons (rx1.same (((e1.trans e2).trans e3).trans s34)) (.cons (rx2.same (((e1.trans e2).trans e3).trans s34)) (.cons (rx2.same (((e1.trans e2).trans e3).trans s34)) .nil)))) (.cons (Rep.same (e5.trans e6) r4) (.cons (Rep.same e6 r5) .nil)))
 have bm:=YX trp (by omega);refine⟨_,rfl,1,rfl,-1,rfl,a,_,rfl,dY.of (e06 _ _ S.ha),rJ _ _,λp7 hp7=>?_⟩;rw[CV];have e7:=bw hp7 (.tup jD);have k7:(upd H6 p7 (.tup jD)) p7=some (.tup jD):=bf;have nl7:p7≠pl:=λe=>by rw[e,k6]at hp7;cases hp7
 revert e7 k7;generalize upd H6 p7 (.tup jD)=H7;intro e7 k7;have e07:=e06.trans e7;have ok7:=S.ok.same e07;refine⟨_,rfl,_,rfl,st,4,rfl,ok7,by decide,by decide,λd H8 d0 d1 g=>?_⟩;obtain⟨x,xa,xb⟩:=wQ (vs:=[v1, .ref p3,v4,v5]) d0 (by simpa using d1);obtain⟨t,ht,rt⟩:=yH rs xb;refine⟨pl,_,d,x,rfl,rfl,dX.of (g.1 _ _ nl (e7 _ _ k6)),xa,sm 1,λp9 hp9=>?_⟩;have e9:=bw hp9 (.tup [x]);have k9:(upd H8 p9 (.tup [x])) p9=some (.tup [x]):=bf;revert e9 k9;generalize upd H8 p9 (.tup [x])=H9;intro e9 k9;have g9:cP st H H9:=((cH S.ok e07).trans g).trans (cH g.ok e9);have rt9:Rep H9 x t:=((rt.same e7).grow g ok7).same e9;have r09:cB H9 jD ds:=S.r0.grow g9 S.ok;have k79:=e9 _ _ (g.tups ok7 _ _ k7);have BP:=YZ S.trd (by omega) (bm t ht);cases jD with
 |nil=>
  cases r09;exact .inr ⟨p7,p9,[x],rfl,rfl,dY.of k79,dY.of k9,h1 _ ([]++[t]) _ (.tup k9 (.cons rt9 .nil)) BP g9⟩
 |cons u us=>
  refine .inl ⟨p7,p9,u::us,[x],rfl,rfl,dY.of k79,dY.of k9,by simp,?_,λe=>(by cases e),λ_ p10 afG=>?_⟩
  ·refine aiv (m:=100) ?_ (sm 100)
   simp only[aiF,aiZ]at l0 ⊢;omega
  ·exact h1 _ (ds++[t]) _ (.tup bf ((r09.append (.cons rt9 .nil)).same (bw afG _))) BP (g9.trans (cG g9.ok afG))
end
theorem Ju {X:Cx}{st:Stmt}{t t':TS}(h:PS X st t)(k:∀D U H,t' D U H->t D U H):PS X st t':=λaZ s U H D I q=>h aZ s U H D I (k D U H q)
section
variable {P:Program}{w:World}{K:PySem.W.Frag}{mg:Str->Option Value}{aN:Heap}{f:Addr}{fd:FuncData}{cX:Value}{A:Around}{aM:List Env}{s:Shared}{H:Hp}{E:XK}
def agq:TS:=λD U H=>∃(st a:Addr) (jD:List V) (um:V) (ds:List T) (m:T) (wy:Int) (k:Nat),U=[some (.ref st),some (.ref a),some (.int wy),some um,none,some (.int k)]/\SpP st a jD um ds m H/\k<=ds.length/\SpR st H D.rt
set_option maxHeartbeats 1000000 in
theorem adT (hr:jL 8 (A.deeper (envOfC "_law_spoilt" (bA tX) s.heap.objs.size f cX)))(h1:Has P w K mg aN 8 "_law_bad" ["_law_state"] Ds):Tc (XS P w K mg aN f cX A aM s H E) (sp 7) agq:=by
 unfold sp;refine BJ (Ko (Nq (Lh K) (Nq ((Lh K).or (X6 K)) (zT.mk (cL (slT K) (pv 1) dF (cR (pv 5)))) (Km (x_c (zT.mk (bB h1 hr (by decide) rfl (aW (pv 0) aX))) Bx))) (zT.mk (cL ((slT K).or (slW K)) (pv 1) (cR (pv 5)) dF)))) ?_;rintro D U H ⟨st,a,jD,um,ds,m,wy,k,rfl,S,hk,q⟩;have l0:=S.r0.length;have hl:=S.len;have lus:(jD++[um]).length=ds.length+1:=by simp only[aiG,aiF,aiZ];omega
 have tk:(jD++[um]).take k=jD.take k:=List.take_append_of_le_length (by omega);have dk:(jD++[um]).drop k=jD.drop k++[um]:=List.drop_append_of_le_length (by omega);refine⟨_,rfl,_,rfl,(k:Int),rfl,a,_,rfl,dY.of S.ha,Pk (by omega),λp1 hp1=>?_⟩;rw[adJ _ _ (by omega),tk];have e1:=bw hp1 (.tup (jD.take k));have k1:(upd H p1 (.tup (jD.take k))) p1=some (.tup (jD.take k)):=bf;revert e1 k1;generalize upd H p1 (.tup (jD.take k))=H1;intro e1 k1;have ok1:=S.ok.same e1;refine⟨_,rfl,st,rfl,ok1,λbv bd H2 hb rb g2=>⟨sm 1,λp3 hp3=>?_⟩⟩;have e3:=bw hp3 (.tup [bv]);have k3:(upd H2 p3 (.tup [bv])) p3=some (.tup [bv]):=bf;revert e3 k3;generalize upd H2 p3 (.tup [bv])=H3;intro e3 k3;have g3:cP st H H3:=((cH S.ok e1).trans g2).trans (cH g2.ok e3);have k13:=e3 _ _ (g2.tups ok1 _ _ k1);have ha3:=g3.tups S.ok _ _ S.ha;have rb3:=rb.same e3;have r03:=(S.r0.append (.cons S.rm .nil)).grow g3 S.ok;have BP:GD ((ds.take k++[bd]++ds.drop k)++[m]):=by
  refine za (lE (lE (lE (λt ht=>S.trd t (List.mem_of_mem_take ht)) (pL (hb.tr.mono (by decide)))) (λt ht=>S.trd t (List.mem_of_mem_drop ht))) (pL S.mg.tr)) (yK (d:=bd) (by simp) hb.no) ?_;have e:=dh (ds.take k) (ds.drop k);rw[ajd]at e;have:=hb.w;have:=S.w;rw[dh,dh,dh,gJ,gJ];omega
 have key:∀{b:Addr} {H4:Hp},Same H3 H4->H4 b=some (.tup (jD.take k++[bv]))->(Zk (λx lo hi H Q=>Ak K x lo hi H Q\/adE K x lo hi H Q) (jE 1) (uK (jE 5)) lW) [some (.ref st),some (.ref a),some (.int wy),some um,none,some (.int (k:Int))] H4 λy H5=>yN K (.ref b) y H5 D.rt:=by
  intro b H4 e4 kb;have key2:∀{c:Addr} {H5:Hp},Same H4 H5->H5 c=some (.tup (jD.drop k++[um]))->yN K (.ref b) (.ref c) H5 D.rt:=by
   intro c H5 e5 kc;refine⟨b,c,_,_,rfl,rfl,dY.of (e5 _ _ kb),dY.of kc,by simp,aiv (m:=100) ?_ (sm 100),λe=>(by simp at e),λ_ p hp=>?_⟩
   ·simp only[aiG,aiF,aiZ,aiW,ai5];omega
   ·have s5:=(e4.trans e5).trans (bw hp (.tup (jD.take k++[bv]++(jD.drop k++[um]))))
    refine q _ ((ds.take k++[bd]++ds.drop k)++[m]) _ (.tup bf ?_) BP (g3.trans (cH g3.ok s5));rw[aiD (ds.take k++[bd])];have ra:=(S.r0.grow g3 S.ok).same s5;exact((cB.take k ra).append (.cons (rb3.same s5) .nil)).append ((ra.drop k).append (.cons ((S.rm.grow g3 S.ok).same s5) .nil))
  refine⟨_,rfl,_,rfl,(k:Int),rfl,?_⟩;by_cases c0:k=0
  ·have f:=zc (xs:=jD++[um]) (k:=k) (by omega)
   refine .inr ⟨a,_,rfl,dY.of (e4 _ _ ha3),by rw[f.1];exact c0,f.2,key2 (Same.refl _) ?_⟩;rw[<-dk,c0];exact e4 _ _ ha3
  ·have f:=zc (xs:=jD++[um]) (k:=k) (by omega)
   refine .inl ⟨a,_,rfl,dY.of (e4 _ _ ha3),λcc=>?_,λp hp=>key2 (bw hp _) ?_⟩
   ·rw[f.1]at cc;exact c0 cc.1
   ·rw[YS _ _ (by omega),dk];exact bf
 cases hu:jD.take k with
 |nil=>
  rw[hu]at k13 key;exact .inr ⟨p1,p3,[bv],rfl,rfl,dY.of k13,dY.of k3,key (Same.refl _) k3⟩
 |cons x xs=>
  rw[hu]at k13 key;refine .inl ⟨p1,p3,x::xs,[bv],rfl,rfl,dY.of k13,dY.of k3,by simp,aiv (m:=100) ?_ (sm 100),λe=>(by cases e),λ_ p hp=>key (bw hp _) bf⟩;have:=congrArg List.length hu;simp only[aiW,aiF,aiZ]at this ⊢;omega
theorem adU (F:eV K "_law_spoilt" "_law_spoilt" tX f fd)(ml:mg "len"=none)(h0:Has P w K mg aN 1 "_law_next" ["_law_state","_law_many"] eE)(h1:Has P w K mg aN 8 "_law_bad" ["_law_state"] Ds):
  cj P w K mg aN eY 9 f fd ["_law_state","_law_program_here"] Rn:=by
 refine F.ok Dt (λcX A aM s H vs Q E hr h=>?_);rw[YT];refine⟨_,bx (st:=sp 0) (t:=λD U H=>∃(st:Addr) (v:V),U=[some (.ref st),some v,none,none,none,none]/\gj H st/\∀(d:Int) H',0<=d->d<9->cP st H H'->D.nx [some (.ref st),some v,some (.int d),none,none,none] H') ?_ (bx (st:=sp 1) (t:=λD U H=>∃(st a:Addr) (jD:List V) (um:V) (d:Int),U=[some (.ref st),some (.ref a),some (.int d),none,none,none]/\H a=some (.tup (jD++[um]))/\D.nx [some (.ref st),some (.ref a),some (.int d),some um,none,none] H) ?_
  (bx (unx (adQ hr h0)) (bx (unx adO) (bx (unx (adS hr h0)) (bx (unx adP) (bx (st:=sp 6) (t:=λD U H=>∃(st a:Addr) (us:List V) (d:Int) (um:V),U=[some (.ref st),some (.ref a),some (.int d),some um,none,none]/\H a=some (.tup us)/\1<=us.length/\us.length<=100/\gj H st/\∀(k:Int) H',0<=k->k<us.length->cP st H H'->D.nx [some (.ref st),some (.ref a),some (.int d),some um,none,some (.int k)] H') ?_ (bh (unx (adT hr h1))))))))),?_⟩
 ·unfold sp
  refine Ju (kO 2 Dt.nd (bB h0 hr (by decide) rfl (aW (pv 0) (aW aY aX)))) ?_;rintro D U H ⟨st,v,rfl,hs,q⟩;exact⟨_,rfl,st,9,rfl,hs,by decide,by decide,λd H1 d0 d1 g=>q d H1 d0 d1 g⟩
 ·unfold sp
  refine Ju (kO 3 Dt.nd (bU (ixT K) (pv 1) (pN lK aY))) ?_;rintro D U H ⟨st,a,jD,um,d,rfl,ha,q⟩;exact⟨_,rfl,1,rfl,a,_,-1,um,rfl,rfl,dY.of ha,vM jD um,q⟩
 ·unfold sp
  refine Ju (kO 5 Dt.nd (bB h0 hr (by decide) rfl (aW (pv 0) (aW (bH bO rfl ml PySem.boot_len (aW (pv 1) aX)) aX)))) ?_;rintro D U H ⟨st,a,us,d,um,rfl,ha,l1,l2,hs,q⟩;exact⟨_,rfl,_,rfl,a,us,rfl, .inr (dY.of ha),st,_,rfl,hs,by omega,by omega,λk H1 k0 k1 g=>q k H1 k0 k1 g⟩
 obtain⟨st,v,ts,rfl,hs,rv,pk,hw,q⟩:=h;obtain⟨ds,m,rfl,hl,dg,mgd⟩:=pk;cases rv with
 |@tup a us _ ha ru=>
 obtain⟨jD,ds',um,m',rfl,e,r0,rm⟩:=ru.snoc_inv (by intro e;rw[e]at ru;cases ru':ds<;>(rw[ru']at ru;cases ru));obtain⟨rfl,rfl⟩:ds=ds'/\m=m':=by
  obtain⟨a,b⟩:=akb e rfl;exact⟨a,by simpa using b⟩
 rw[gq,dh,gJ]at hw;refine⟨st,_,rfl,hs,λwy H1 w0 w1 g1=>⟨st,a,jD,um,wy,rfl,g1.tups hs _ _ ha,?_⟩⟩;have S:SpP st a jD um ds m H1:=⟨g1.ok,g1.tups hs _ _ ha,r0.grow g1 hs,rm.grow g1 hs,hl,dg,mgd,by omega⟩;have qq:SpR st H1 Q:=λv' ts' H' r b g=>q v' ts' H' r b (g1.trans g);refine⟨st,a,jD,um,ds,m,wy,rfl,S,λ_=>qq,λn0=>⟨st,a,jD,um,ds,m,wy,rfl,S,λ_=>qq,λn1=>⟨st,a,jD,um,ds,m,wy,rfl,S,λ_=>qq,λn2=>⟨st,a,jD,um,ds,m,wy,rfl,S,λ_=>qq,λn3=>?_⟩⟩⟩⟩;have l0:=S.r0.length;have lus:(jD++[um]).length=ds.length+1:=by simp only[aiG,aiF,aiZ];omega
 refine⟨st,a,_,wy,um,rfl,S.ha,by omega,by omega,S.ok,λk H2 k0 k1 g2=>?_⟩;obtain⟨k,rfl⟩:∃n:Nat,k=n:=⟨k.toNat,by omega⟩;exact⟨st,a,jD,um,ds,m,wy,k,rfl,⟨g2.ok,g2.tups S.ok _ _ S.ha,S.r0.grow g2 S.ok,S.rm.grow g2 S.ok,hl,dg,mgd,S.w⟩,by omega,λv' ts' H' r b g=>q v' ts' H' r b ((g1.trans g2).trans g)⟩
end
abbrev Y0:Stmt:=top 120
abbrev nL:List Str:=["_law_script","_law_state","_law_due","_law_good","_law_k","_law_bad_here"]
inductive LQ (K:PySem.W.Frag)(vs:List V)(H:Hp)(Q:VK)(E_:XK):Prop where
 |mk (a:Addr) (ns:List Int):vs=[.ref a]->dX K H a (ns.map V.int)->ns.length<=63->(∀H',Q (.bl true) H')->LQ K vs H Q E_
theorem slL (K:PySem.W.Frag){X:Cx}(h:X.K=K:=by rfl):UL X (aeL K):=h ▸ PX
theorem ab4 {P:Program}{w:World}{X:Cx}:Passes (xM P w) X E0:=λ_ _ _ _ _ _ _ h=>by
 obtain⟨_,_,_,_,_,z⟩:=h;exact False.elim z
theorem Jv (us:List V)(u:V):HT.fD (us++[u]).length 0 (some (-1))=us.length/\HT.fD (us++[u]).length (us++[u]).length none=us.length+1:=by
 have e:(us++[u]).length=us.length+1:=by simp
 rw[e];exact⟨by unfold HT.fD;simp;omega,by unfold HT.fD;rfl⟩
theorem Y4 (us:List V)(u:V):lF (us++[u]) (some (-1)) none=[u]:=by
 unfold lF;rw[(Jv us u).1,(Jv us u).2];simp
theorem jz.last {ds:List T}{m:T}(h:jz (ds++[m])):jz [m]:=by
 obtain⟨ds',m',e,_,_,g⟩:=h;obtain⟨_,b⟩:=akb e rfl;have b:m=m':=by simpa using b
 exact⟨[],m,rfl,aiP _,λt ht=>(by cases ht),by rw[b];exact g⟩
section
variable {P:Program}{w:World}{K:PySem.W.Frag}{mg:Str->Option Value}{aN:Heap}{f CN:Addr}{fd:FuncData}
theorem tY:bG nL ["_law_script"] (bA Y0):=⟨rfl,rfl,rfl,by decide+kernel,rfl,by decide+kernel,by decide+kernel⟩
set_option maxHeartbeats 4000000 in
theorem adV (F:eV K "law" "law" Y0 f fd)(mr:mg "range"=none)(ml:mg "len"=none)(h0:Has P w K mg aN 1 "_law_drawn" ["_law_script"] (Hv K))(h2:Has P w K mg aN 24 "_law_program" ["_law_state"] yD)
  (h3:Has P w K mg aN 22 "_law_pieces" ["_law_thing"] (TV 21)) (h4:Has P w K mg aN 3 "_law_written" ["_law_state","_law_pieces_here"] aao) (h5:Has P w K mg aN 22 "_law_same" ["_law_told","_law_due"] (Cg 21)) (h6:BX P w K mg aN 21 "read" ["text"] (Gy CN))
  (h7:Has P w K mg aN 9 "_law_spoilt" ["_law_state","_law_program_here"] Rn) (h8:Has P w K mg aN 22 "_law_refused" ["_law_text"] Rk):
  cj P w K mg aN eY 25 f fd ["_law_script"] (LQ K):=by
 refine F.ok tY (λcX A aM s H vs Q E hr h=>?_);obtain⟨a,ns,rfl,ha,hl,q⟩:=h;obtain⟨f6,g6,G6,b6,k6,m6⟩:=h6;refine⟨_,bx (kO 1 tY.nd (bB h0 hr (by decide) rfl (aW (pv 0) aX)))
  (bx (kO 2 tY.nd (bB h2 hr (by decide) rfl (aW (pv 1) aX)))
  (bx (cF (bL rP (bH gW rfl ml PySem.boot_len (aW (WL.pe (Ig aiJ ajo ajp zV zU (aW (bB h3 hr (by decide) rfl (aW (pv 2) aX)) aX))) aX)) aY (bM _))
   (bh (cZ (i:=2) tY.nd rfl (Or.inl rfl) (cL ((slT K).or (slW K)) (pv 2) (cR (pN lK aY)) dF))) bK)
  (bx (cF (bL rP (bH gW rfl ml PySem.boot_len (aW (WL.pe (Ig aiJ ajo ajp zV zU (aW (bB h3 hr (by decide) rfl (aW (pv 2) aX)) aX))) aX)) aY (bM _))
   (bh (cZ (i:=2) tY.nd rfl (Or.inl rfl) (cO (aW (cO (aW bQ (aW aY aX))) aX)))) bK)
  (bx (kO 3 tY.nd (bB h4 hr (by decide) rfl (aW (pv 1) (aW (cL (slL K) (bB h3 hr (by decide) rfl (aW (pv 2) aX)) (cR aY) (cR (pN lK aY))) aX))))
  (bx (jR PassesOwn.never rfl (dw rfl mr (aW aY aX)) (eO (i:=4) tY.nd rfl (Or.inl rfl))
   (bx (cF (dZ (cT (bB h5 hr (by decide) rfl (aW (qG G6 (hr.mono (by decide)) rfl m6 k6 b6 .nil ab4 (aW (pv 3) aX)) (aW (pv 2) aX))))) (bh (bD lG)) bK)
   (bx (kO 5 tY.nd (bB h7 hr (by decide) rfl (aW (pv 1) (aW (pv 2) aX))))
   (bh (cF (dZ (cT (bB h8 hr (by decide) rfl (aW (bB h4 hr (by decide) rfl (aW (pv 1) (aW (cL (slL K) (bB h3 hr (by decide) rfl (aW (pv 5) aX)) (cR aY) (cR (pN lK aY))) aX))) aX)))) (bh (bD lG)) bK)))))
  (bh (bD (bB h5 hr (by decide) rfl (aW (qG G6 (hr.mono (by decide)) rfl m6 k6 b6 .nil ab4 (aW (pv 3) aX)) (aW (pv 2) aX)))))))))),?_⟩
 refine⟨_,rfl,a,ns,rfl,ha,hl,λst H1 e1 aic hs=>?_⟩;refine⟨_,rfl,st,rfl,hs,λv ts H3 rv pk hw g3=>?_⟩;dsimp only[oW,Ends.to]
 let Pv:L2.St->Hp->Prop:=λU H'=>∃v ts,U=[some (V.ref a),some (.ref st),some v,none,none,none]/\Rep H' v (.tup ts)/\jz ts/\iT (iC (.tup ts))<=5802/\gj H' st
 refine wJ (D:=Ends.of Q) Pv (λN hN=>?_) λU1 H4 h4'=>?_
 ·have j1:=wI pk.tr
  have e2:=Dl (iC (.tup ts));refine⟨rfl,_,rfl,v, .tup ts,rfl,rv,pk.tr,by omega,λpl H4 s4 hp hp1=>⟨" ",pl,iC (.tup ts),rfl,rfl,hp1,?_,_,rfl,big (by omega),_,_,rfl,rfl,_,rfl,ig (λc2=>?_) (λc2=>?_)⟩⟩
  ·show _+_*1<=_
   omega
  ·obtain⟨ds,m,rfl,hl',dg,mgd⟩:=id pk
   cases rv with
   |@tup b us _ hb ru=>
   obtain⟨jD,ds',um,m',rfl,e,r0,rm⟩:=ru.snoc_inv (by intro e;rw[e]at ru;cases ru':ds<;>(rw[ru']at ru;cases ru));obtain⟨rfl,rfl⟩:ds=ds'/\m=m':=by
    obtain⟨a,b⟩:=akb e rfl;exact⟨a,by simpa using b⟩
   have wl:iT (iC (.tup [m]))<=5802:=by
    rw[gq,dh]at hw;rw[gq];omega
   refine⟨_,rfl,1,rfl,-1,rfl,?_⟩;obtain⟨f1,f2⟩:=Jv jD um;by_cases c0:jD.length=0
   ·have c0:jD=[]:=List.length_eq_zero_iff.mp c0
    subst c0;cases r0;exact .inr ⟨b,_,rfl,dY.of (s4 _ _ hb),f1,f2,hN _ _ ⟨_,[m],rfl, .tup (s4 _ _ hb) (.cons (rm.same s4) .nil),pk.last,wl,g3.ok.same s4⟩⟩
   ·refine .inl ⟨b,_,rfl,dY.of (s4 _ _ hb),λc=>c0 (by rw[f1]at c;exact c.1),λp hp=>?_⟩
    rw[Y4];have sn:=s4.trans (bw hp (.tup [um]));exact hN _ _ ⟨_,[m],rfl, .tup bf (.cons (rm.same sn) .nil),pk.last,wl,g3.ok.same sn⟩
  ·exact hN _ _ ⟨v,ts,rfl,rv.same s4,pk,hw,g3.ok.same s4⟩
 obtain⟨v,ts,rfl,rv,pk,hw,hs4⟩:=h4';refine wJ (D:=Ends.of Q) Pv (λN hN=>?_) λU1 H5 h5'=>?_
 ·have j1:=wI pk.tr
  have e2:=Dl (iC (.tup ts));refine⟨rfl,_,rfl,v, .tup ts,rfl,rv,pk.tr,by omega,λpl H5 s5 hp hp1=>⟨" ",pl,iC (.tup ts),rfl,rfl,hp1,?_,_,rfl,big (by omega),_,_,rfl,rfl,_,rfl,ig (λc2=>?_) (λc2=>?_)⟩⟩
  ·show _+_*1<=_
   omega
  ·refine⟨sm 2,λp hp=>⟨sm 1,λp2 hp2=>?_⟩⟩
   have sn:=(s5.trans (bw hp (.tup [V.str "main", .int 7]))).trans (bw hp2 (.tup [V.ref p]));exact hN _ _ ⟨_,[.tup [.str "main", .int 7]],rfl, .tup bf (.cons (.tup ((bw hp2 _) _ _ bf) (.cons (.str _ (by decide+kernel)) (.cons (.int 7) .nil))) .nil),jz.seven,by decide+kernel,hs4.same sn⟩
  ·exact hN _ _ ⟨v,ts,rfl,rv.same s5,pk,hw,hs4.same s5⟩
 obtain⟨v,ts,rfl,rv,pk,hw,hs5⟩:=h5';have Y5:=pk.tr;have tr:∀t∈ts,Tr 20 t:=by
  cases Y5 with
  |«at» A=>exact absurd A.th (by intro h;cases h)
  |tp h=>exact h
 have szT:=(Je Y5).1;have wt8:=gq ts;have pks:=Ly tr;refine⟨_,rfl,_,rfl,v, .tup ts,rfl,rv,Y5,by omega,λpl H6 e6 rW hl6=>?_⟩;have hs6:=hs5.same e6;refine⟨1,rfl,1,rfl,-1,rfl,pl,_,rfl,dX.of hl6,λu hu=>?_⟩;have cm:∀l:List T,lF ((iC (.tup l)).map V.str) (some 1) (some (-1))=(cW l).map V.str:=λl=>by
  rw[iC,aiR,aiV];exact abb _ _ _
 have eu:=bw hu (.lst (lF ((iC (.tup ts)).map V.str) (some 1) (some (-1))));refine⟨st,u,cW ts,rfl,hs6.same eu,fZ hs6 hu,by rw[bf,cm],λp hp=>(pks p hp).1,by omega,λz H7 ho lz g7=>?_⟩;have r7:Rep H7 v (.tup ts):=((rv.same e6).same eu).grow g7 (hs6.same eu);have ep:=uN ho;have sz:d9 ts<100000:=by
  simp only[T.sz]at szT;omega
 have good:∀(H':Hp) (W:VK),(∀v Tv,Same H' Tv->Rep Tv v (.tup ts)->W v Tv)->Gy CN ([.str z]++[]) H' W E0:=λH' W hW=>
  ⟨z,ts,rfl,by omega,ep,tr,sz,λ_ _=>hW,λno=>(no.elim (λh=>absurd h (by omega)) λh=>absurd pk.prog (by rw[h];exact aip))⟩
 refine⟨3,rfl,by decide,by decide,fW (n:=(3:Int).toNat) (λi U H'=>(∃x y,U=[some (.ref a),some (.ref st),some v,some (.str z),x,y])/\Rep H' v (.tup ts)/\gj H' st) ⟨⟨_,_,rfl⟩,r7,g7.ok⟩ ?_ ?_⟩
 ·rintro i U H8 hi ⟨⟨x,y,rfl⟩,r8,hs8⟩
  refine⟨_,rfl,good _ _ λv1 H9 e9 r9=>⟨_,rfl,v1,v, .tup ts,rfl,r9,r8.same e9,Y5,by omega,λH10 e10=>⟨_,rfl,dW ?_⟩⟩⟩;have abj:=e9.trans e10;refine⟨_,rfl,_,rfl,st,v,ts,rfl,hs8.same abj,r8.same abj,pk,hw,λvb tb H11 rb hb Zu=>?_⟩;have trb:Tr 21 (.tup tb):=.tp hb.tr;have wb:=hb.w;refine⟨_,rfl,_,rfl,vb, .tup tb,rfl,rb,trb,by omega,λpb H12 e12 hpb agr=>?_⟩;have Ux:=Zu.ok.same e12;refine⟨1,rfl,1,rfl,-1,rfl,pb,_,rfl,dX.of agr,λub hub=>?_⟩;have eub:=bw hub (.lst (lF ((iC (.tup tb)).map V.str) (some 1) (some (-1))));have wb8:=gq tb;have szb:=(Je trb).1;have pkb:=Ly hb.tr;refine⟨st,ub,cW tb,rfl,Ux.same eub,fZ Ux hub,by rw[bf,cm],λp hp=>(pkb p hp).1,by omega,λzb H13 hob lzb g13=>?_⟩;refine⟨zb,tb,rfl,by omega,uN hob,hb.tr,(by simp only[T.sz]at szb;omega),hb.no,λH14 e14=>⟨_,rfl,dW ?_⟩⟩;exact⟨⟨_,_,rfl⟩,((((((r8.same abj).grow Zu (hs8.same abj)).same e12).same eub).grow g13 (Ux.same eub)).same e14),g13.ok.same e14⟩
 ·rintro U H8 ⟨⟨x,y,rfl⟩,r8,hs8⟩
  exact⟨_,rfl,good _ _ λv1 H9 e9 r9=>⟨_,rfl,v1,v, .tup ts,rfl,r9,r8.same e9,Y5,by omega,λH10 e10=>q H10⟩⟩
end
def bW (K:PySem.W.Frag)(x:Str)(st:Stmt):Prop:=∃f fd,PySem.W.nsIn K mainGlobals x=some (some (.ref f))/\eV K x x st f fd
theorem adW {K:PySem.W.Frag}{x:Str}{st:Stmt}{f:Addr}{oc:Value}{od an:Option Addr}{osl:Array (Option Value)}{kV vK pm cX ct:Value}(a:PySem.W.nsIn K mainGlobals x=some (some (.ref f)))
  (l:K.lookup f=some ⟨oc,od, .func (PySem.W.fnOf x x (uc st) (gZ st) (bA st) .none kV vK pm an cX ct),osl⟩) (c:PySem.W.codeIn K cX x=true) (k:PySem.W.keepIn K (.ref f)=true):bW K x st:=⟨f,_,a,acC l c k⟩
theorem abk {K:PySem.W.Frag}{x z y:Str}{t:Tok}(a:PySem.W.nsIn K mainGlobals x=some (some (.str z t)))(e:z=y):∃t,PySem.W.nsIn K mainGlobals x=some (some (.str y t)):=⟨t,by rw[<-e];exact a⟩
theorem abl {K:PySem.W.Frag}{x:Str}{i j:Int}{t:Tok}(a:PySem.W.nsIn K mainGlobals x=some (some (.int i t)))(e:i=j):∃t,PySem.W.nsIn K mainGlobals x=some (some (.int j t)):=⟨t,by rw[<-e];exact a⟩
theorem abm {x:V}{u:Value}(h:Vd u=some x):RelV x u:=by
 cases u<;>simp only[Vd,Option.some.injEq,reduceCtorEq]at h
 all_goals first
  |(subst h;exact rfl)
  |(subst h;exact⟨_,rfl⟩)
theorem LR:∀{xs:List V} {us:List Value},us.map Vd=xs.map some->Vals xs us
 |[],[],_=>.nil
 |x::xs,u::us,h=>by
  simp only[aiR,List.cons.injEq]at h;exact .cons (abm h.1) (LR h.2)
 |[],_::_,h=>by simp at h
 |_::_,[],h=>by simp at h
theorem abn {K:PySem.W.Frag}{x:Str}{xs:List V}{a:Addr}{oc:Value}{od:Option Addr}{aU:Array Value}{n:Nat}{sl:Array (Option Value)}(h1:PySem.W.nsIn K mainGlobals x=some (some (.ref a)))(h2:K.lookup a=some ⟨oc,od, .seq aU n,sl⟩)
  (h3:oc=.type "tuple") (h4:aU.size<=sizeLine) (h5:aU.toList.map Vd=xs.map some):∃a,PySem.W.nsIn K mainGlobals x=some (some (.ref a))/\∀H,dY K H a xs:=⟨a,h1,λH=>.inr ⟨_,aU,n,h2,h3,rfl,h4,LR h5⟩⟩
theorem Uz {K:PySem.W.Frag}{x:Str}{st:Stmt}{f:Addr}{fd:FuncData}{p:Str}(F:eV K x x st f fd)(h:∀(kV vK pm:Value) (an:Option Addr) (cX ct:Value) (s:Shared) (v:Value),BindsTo s (PySem.W.fnOf x x (uc st) (gZ st) (bA st) .none kV vK pm an cX ct) ⟨[v],[]⟩ [(p,v)]):
  ∀(s:Shared) (v:Value),BindsTo s fd ⟨[v],[]⟩ [(p,v)]:=by
 obtain⟨oc,od,kV,vK,pm,an,cX,ct,osl,rfl,lk,Du⟩:=F.ex;exact h kV vK pm an cX ct
structure Rr (K:PySem.W.Frag)(w:World)(df x0 x1 x2 x3 x4 x5 x6:Addr):Prop where
 nm:PySem.W.nsIn K mainGlobals "PHRASE_FORMS"=some (some (.ref df))
 n0:PySem.W.nsIn K mainGlobals "named_within"=some (some (.ref x0))
 n1:PySem.W.nsIn K mainGlobals "two_within"=some (some (.ref x1))
 n2:PySem.W.nsIn K mainGlobals "let_within"=some (some (.ref x2))
 n3:PySem.W.nsIn K mainGlobals "ring_within"=some (some (.ref x3))
 n4:PySem.W.nsIn K mainGlobals "case_within"=some (some (.ref x4))
 n5:PySem.W.nsIn K mainGlobals "make_within"=some (some (.ref x5))
 n6:PySem.W.nsIn K mainGlobals "three_within"=some (some (.ref x6))
 dict:oX K w df [("fun", .ref x0),("call", .ref x1),("let", .ref x2),("ring", .ref x3),("case", .ref x4),("make", .ref x5),("pick", .ref x0),("plus", .ref x1),("minus", .ref x1),("times", .ref x1),("less", .ref x1),("if", .ref x6)]
theorem Y6 {K:PySem.W.Frag}{w:World}{df x0 x1 x2 x3 x4 x5 x6:Addr}{oc:Value}{od:Option Addr}{es:Array DictEntry}{n:Nat}{sl:Array (Option Value)}(nm:PySem.W.nsIn K mainGlobals "PHRASE_FORMS"=some (some (.ref df)))(n0:PySem.W.nsIn K mainGlobals "named_within"=some (some (.ref x0)))(n1:PySem.W.nsIn K mainGlobals "two_within"=some (some (.ref x1)))(n2:PySem.W.nsIn K mainGlobals "let_within"=some (some (.ref x2)))(n3:PySem.W.nsIn K mainGlobals "ring_within"=some (some (.ref x3)))(n4:PySem.W.nsIn K mainGlobals "case_within"=some (some (.ref x4)))(n5:PySem.W.nsIn K mainGlobals "make_within"=some (some (.ref x5)))(n6:PySem.W.nsIn K mainGlobals "three_within"=some (some (.ref x6)))(l:K.lookup df=some ⟨oc,od, .dict es n,sl⟩)(hs:(df==sysModules)=false)(hx:Obj.ExactDict ⟨oc,od, .dict es n,sl⟩)(hp:Paired (vP w) [("fun", .ref x0),("call", .ref x1),("let", .ref x2),("ring", .ref x3),("case", .ref x4),("make", .ref x5),("pick", .ref x0),("plus", .ref x1),("minus", .ref x1),("times", .ref x1),("less", .ref x1),("if", .ref x6)] es.toList):∃df x0 x1 x2 x3 x4 x5 x6,Rr K w df x0 x1 x2 x3 x4 x5 x6:=⟨df,x0,x1,x2,x3,x4,x5,x6,nm,n0,n1,n2,n3,n4,n5,n6,hs,_,es,n,l,hx,rfl,hp⟩
def fnOf (x0 x1 x2 x3 x4 x5 x6:Addr):Nat->Addr
 |0=>x0
 |1=>x1
 |2=>x2
 |3=>x3
 |4=>x4
 |5=>x5
 |_=>x6
structure Rt (K:PySem.W.Frag)(w:World)(df x0 x1 x2 x3 x4 x5:Addr):Prop where
 nm:PySem.W.nsIn K mainGlobals "DECLARATION_FORMS"=some (some (.ref df))
 n0:PySem.W.nsIn K mainGlobals "is_kind_declaration"=some (some (.ref x0))
 n1:PySem.W.nsIn K mainGlobals "is_record_declaration"=some (some (.ref x1))
 n2:PySem.W.nsIn K mainGlobals "is_face_declaration"=some (some (.ref x2))
 n3:PySem.W.nsIn K mainGlobals "is_part_declaration"=some (some (.ref x3))
 n4:PySem.W.nsIn K mainGlobals "is_maker_declaration"=some (some (.ref x4))
 n5:PySem.W.nsIn K mainGlobals "is_apply_declaration"=some (some (.ref x5))
 dict:oX K w df [("kind", .ref x0),("record", .ref x1),("face", .ref x2),("part", .ref x3),("maker", .ref x4),("apply", .ref x5)]
theorem Y7 {K:PySem.W.Frag}{w:World}{df x0 x1 x2 x3 x4 x5:Addr}{oc:Value}{od:Option Addr}{es:Array DictEntry}{n:Nat}{sl:Array (Option Value)}(nm:PySem.W.nsIn K mainGlobals "DECLARATION_FORMS"=some (some (.ref df)))(n0:PySem.W.nsIn K mainGlobals "is_kind_declaration"=some (some (.ref x0)))(n1:PySem.W.nsIn K mainGlobals "is_record_declaration"=some (some (.ref x1)))(n2:PySem.W.nsIn K mainGlobals "is_face_declaration"=some (some (.ref x2)))(n3:PySem.W.nsIn K mainGlobals "is_part_declaration"=some (some (.ref x3)))(n4:PySem.W.nsIn K mainGlobals "is_maker_declaration"=some (some (.ref x4)))(n5:PySem.W.nsIn K mainGlobals "is_apply_declaration"=some (some (.ref x5)))(l:K.lookup df=some ⟨oc,od, .dict es n,sl⟩)(hs:(df==sysModules)=false)(hx:Obj.ExactDict ⟨oc,od, .dict es n,sl⟩)(hp:Paired (vP w) [("kind", .ref x0),("record", .ref x1),("face", .ref x2),("part", .ref x3),("maker", .ref x4),("apply", .ref x5)] es.toList):∃df x0 x1 x2 x3 x4 x5,Rt K w df x0 x1 x2 x3 x4 x5:=⟨df,x0,x1,x2,x3,x4,x5,nm,n0,n1,n2,n3,n4,n5,hs,_,es,n,l,hx,rfl,hp⟩
def ags (x0 x1 x2 x3 x4 x5:Addr):Nat->Addr
 |0=>x0
 |1=>x1
 |2=>x2
 |3=>x3
 |4=>x4
 |_=>x5
abbrev bmV:List Value:=[.type "ValueError", .type "Exception", .type "BaseException", .type "object"]
def ab5 (K:PySem.W.Frag)(x:Str)(CT CX:Addr):Prop:=∀(aN:Heap) (mg:Str->Option Value),K.In aN->mg x=some (.ref CT)->OwnCls x CT bmV "ValueError.__new__" mg aN/\HN aN CT CX
theorem Y8 {K:PySem.W.Frag}{x:Str}{CT CX N N':Addr}{nm q nm' q':Str}{bs bm bs' bm':List Value}{hd hd':Bool}{sn sn':List Str}{sub sub':List Value}{ab Zq:Bool}{col col':Option Bool}{dd dd':Option Addr}{k0 k1 k2 k3 k5 j0 j1 j2 j3 j5:Option Value}{nid:String}
  (l1:K.lookup CT=some ⟨.type "type",dd, .cls ⟨nm,bs, .ref CT::bm,N,q,hd,sn,sub,ab,col,false⟩,#[k0,k1,k2,k3,some (.builtin "ValueError.__new__"),k5]⟩) (n1:PySem.W.nsOkIn K N=true) (n2:PySem.W.nsIn K N "__init__"=some none) (t1:PySem.W.tailIn K bmV bm=true)
  (l2:K.lookup CX=some ⟨.type "type",dd', .cls ⟨nm',bs', .ref CX::bm',N',q',hd',sn',sub',Zq,col',false⟩,#[j0,j1,j2,j3,some (.builtin nid),j5]⟩) (b1:bm'.contains (.type "BaseException")=true) (b2:(Value.ref CT::bm).contains (.ref CX)=true):ab5 K x CT CX:=λaN mg X m=>
 ⟨⟨m,bm,N,nm,q,bs,hd,sn,sub,ab,col,dd,k0,k1,k2,k3,k5,_,X _ _ l1, .of_isNs (PySem.W.isNs_of_in X n1),PySem.W.nsMap_none_of_in X n1 n2,PySem.W.tail_of_in X t1⟩,
  nm,q,nm',q',N,N',bs,bm,bs',bm',hd,hd',sn,sn',sub,sub',ab,Zq,col,col',dd,dd',k0,k1,k2,k3,k5,j0,j1,j2,j3,j5,_,nid,X _ _ l1,X _ _ l2,b1,b2⟩
theorem adX {K:PySem.W.Frag}{C:Addr}{c0:Value}{d0:Option Addr}{cd:ClassData}{sl:Array (Option Value)}(g0:PySem.W.findIn K (.ref C) "__getattribute__"=some (some (.builtin "BaseException.__getattribute__")))(g1:PySem.W.findIn K (.ref C) "__getattr__"=some none)(gb:PySem.W.mroIn K C (.type "BaseException")=some true)(g2:PySem.W.findIn K (.ref C) "__class__"=some (some (.builtin "object.__class__")))(g3:PySem.W.specialIn K (.builtin "object.__class__") "__get__"=some (some (.builtin "getset_descriptor.__get__")))
  (g4:PySem.W.takesIn K (.builtin "object.__class__")=some true) (g5:PySem.W.mroIn K C (.type "object")=some true) (lk:K.lookup C=some ⟨c0,d0, .cls cd,sl⟩):u6 K C:=⟨g0,g1,gb,g2,g3,g4,g5,_,_,_,_,lk⟩
theorem jD {C:List Value->Prop}(us:List Value)(h:us.length=0)(k:C []):C us:=List.eq_nil_of_length_eq_zero h ▸ k
theorem uss {n:Nat}{C:List Value->Prop}(us:List Value)(h:us.length=n+1)(k:∀a r,r.length=n->C (a::r)):C us:=by
 cases us with
 |nil=>exact absurd h.symm (Nat.succ_ne_zero n)
 |cons a r=>exact k a r (Nat.succ.inj h)
@[elab_as_elim] theorem j9 {C:List Value->Prop} (us:List Value) (h:us.length=1) (k:∀a0,C [a0]):C us:=uss us h λa r h=>jD (C:=λr=>C (a::r)) r h (k a)
@[elab_as_elim] theorem Jz {C:List Value->Prop} (us:List Value) (h:us.length=2) (k:∀a0 a1,C [a0,a1]):C us:=uss us h λa r h=>j9 (C:=λr=>C (a::r)) r h (k a)
@[elab_as_elim] theorem us3 {C:List Value->Prop} (us:List Value) (h:us.length=3) (k:∀a0 a1 a2,C [a0,a1,a2]):C us:=uss us h λa r h=>Jz (C:=λr=>C (a::r)) r h (k a)
@[elab_as_elim] theorem us4 {C:List Value->Prop} (us:List Value) (h:us.length=4) (k:∀a0 a1 a2 a3,C [a0,a1,a2,a3]):C us:=uss us h λa r h=>us3 (C:=λr=>C (a::r)) r h (k a)
@[elab_as_elim] theorem us5 {C:List Value->Prop} (us:List Value) (h:us.length=5) (k:∀a0 a1 a2 a3 a4,C [a0,a1,a2,a3,a4]):C us:=uss us h λa r h=>us4 (C:=λr=>C (a::r)) r h (k a)
def afH (l:PySem.W.OpenLaw)(w:World)(K:PySem.W.Frag)(mg:Str->Option Value)(fa:Addr):Prop:=∃fd:FuncData,(∀(s:Shared) (v:Value),BindsTo s fd ⟨[v],[]⟩ [("_law_script",v)])/\∀aN:Heap,K.In aN->aN.Ns mainGlobals mg->cj l.prog w K mg aN eY 25 fa fd ["_law_script"] (LQ K)
set_option maxHeartbeats 2000000 in
theorem all_mk {l:PySem.W.OpenLaw}{w:World}{K:PySem.W.Frag}{h:Heap}{mg:Str->Option Value}{fa CN CX C1 C2 C3 C4 C5 C6 C7 D1 D2 D3 D4 D5:Addr}(X:K.In h)(G:h.Ns mainGlobals mg)(hfa:mg "law"=some (.ref fa))
  (Y9:PySem.W.nsIn K mainGlobals "len"=some none)
  (Za:PySem.W.nsIn K mainGlobals "all"=some none)
  (rM:PySem.W.nsIn K mainGlobals "isinstance"=some none)
  (Zb:PySem.W.nsIn K mainGlobals "str"=some none)
  (Jw:PySem.W.nsIn K mainGlobals "tuple"=some none)
  (Pn:PySem.W.nsIn K mainGlobals "list"=some none)
  (Jx:PySem.W.nsIn K mainGlobals "range"=some none)
  (Zc:PySem.W.nsIn K mainGlobals "int"=some none)
  (Pq:PySem.W.nsIn K mainGlobals "bool"=some none)
  (Zd:PySem.W.nsIn K mainGlobals "zip"=some none)
  (Ze:PySem.W.nsIn K mainGlobals "abs"=some none)
  (rN:PySem.W.nsIn K mainGlobals "ValueError"=some none)
  (v1:∃t,PySem.W.nsIn K mainGlobals "SMALL_LETTERS"=some (some (.str gH t)))
  (v2:∃t,PySem.W.nsIn K mainGlobals "GREAT_LETTERS"=some (some (.str jt t)))
  (v3:∃t,PySem.W.nsIn K mainGlobals "FIGURES"=some (some (.str xP t)))
  (v6:∃t,PySem.W.nsIn K mainGlobals "ARROW"=some (some (.str "->" t)))
  (v4:∃t,PySem.W.nsIn K mainGlobals "MOST_LETTERS"=some (some (.int 8 t)))
  (v7:∃t,PySem.W.nsIn K mainGlobals "MOST_FIGURES"=some (some (.int 30 t)))
  (v8:∃t,PySem.W.nsIn K mainGlobals "MOST_SIGNS"=some (some (.int 6000 t)))
  (v9:∃t,PySem.W.nsIn K mainGlobals "MOST_BRACKETS"=some (some (.int 20 t)))
  (vd:∃t,PySem.W.nsIn K mainGlobals "MOST_DECLARATIONS"=some (some (.int 24 t)))
  (vi:∃t,PySem.W.nsIn K mainGlobals "MOST_ITEMS"=some (some (.int 24 t)))
  (vg:∃t,PySem.W.nsIn K mainGlobals "MOST_GIVERS"=some (some (.int 2 t)))
  (v5:∃a,PySem.W.nsIn K mainGlobals "KEPT"=some (some (.ref a))/\∀H,dY K H a (ju.map V.str))
  (fo:∃df x0 x1 x2 x3 x4 x5 x6,Rr K w df x0 x1 x2 x3 x4 x5 x6)
  (fd:∃df x0 x1 x2 x3 x4 x5,Rt K w df x0 x1 x2 x3 x4 x5)
  (qCN:PySem.W.nsIn K mainGlobals "NoText"=some (some (.ref CN)))
  (qCX:PySem.W.nsIn K mainGlobals "FaceError"=some (some (.ref CX)))
  (qC1:PySem.W.nsIn K mainGlobals "Twice"=some (some (.ref C1)))
  (qC2:PySem.W.nsIn K mainGlobals "NoName"=some (some (.ref C2)))
  (qC3:PySem.W.nsIn K mainGlobals "NoCount"=some (some (.ref C3)))
  (qC4:PySem.W.nsIn K mainGlobals "NoKind"=some (some (.ref C4)))
  (qC5:PySem.W.nsIn K mainGlobals "NoFace"=some (some (.ref C5)))
  (qC6:PySem.W.nsIn K mainGlobals "Stuck"=some (some (.ref C6)))
  (qC7:PySem.W.nsIn K mainGlobals "TooGreat"=some (some (.ref C7)))
  (qD1:PySem.W.nsIn K mainGlobals "TooLong"=some (some (.ref D1)))
  (qD2:PySem.W.nsIn K mainGlobals "TooDeep"=some (some (.ref D2)))
  (qD3:PySem.W.nsIn K mainGlobals "NoTie"=some (some (.ref D3)))
  (qD4:PySem.W.nsIn K mainGlobals "NoRow"=some (some (.ref D4)))
  (qD5:PySem.W.nsIn K mainGlobals "NoProgram"=some (some (.ref D5)))
  (xc:u6 K CN)
  (xi:ab5 K "NoText" CN CX)
  (kN:PySem.W.kitOne K (.ref CN) (.ref CN)=some true)
  (kV:PySem.W.kitOne K (.ref CN) (.type "ValueError")=some true)
  (kA:PySem.W.kitAny K (.ref CN) ([C1,C2,C3,C4,C5,C6,C7].map Value.ref)=some false)
  (kB:PySem.W.kitAny K (.ref CN) ([D1,D2,D3,D4,D5].map Value.ref)=some false)
  (d23:bW K "all_of" Bl)
  (d24:bW K "is_small" uZ)
  (d25:bW K "is_name" xH)
  (d26:bW K "is_great" u0)
  (d27:bW K "is_path" xJ)
  (d28:bW K "is_variable" pF)
  (d29:bW K "is_word" xO)
  (d30:bW K "is_whole" vo)
  (d31:bW K "is_number" tK)
  (d32:bW K "is_number_text" HX)
  (d36:bW K "pieces_of" QC)
  (d37:bW K "thing_of" WQ)
  (d38:bW K "begin_bracket" WR)
  (d39:bW K "end_bracket" s_end)
  (d40:bW K "things_of" WX)
  (d45:bW K "has_length" qW)
  (d46:bW K "all_are" nQ)
  (d47:bW K "is_list" ur)
  (d48:bW K "all_fit" xX)
  (d49:bW K "kinds_within" nZ)
  (d50:bW K "is_kind" xY)
  (d51:bW K "two_within" qX)
  (d52:bW K "three_within" oA)
  (d53:bW K "named_within" oE)
  (d54:bW K "let_within" qY)
  (d55:bW K "make_within" pH)
  (d56:bW K "is_function_form" jU)
  (d57:bW K "ring_within" lY)
  (d58:bW K "is_arm_form" pI)
  (d59:bW K "case_within" lZ)
  (d61:bW K "phrases_within" lQ)
  (d62:bW K "is_phrase" tL)
  (d63:bW K "is_tag_row" qZ)
  (d64:bW K "is_field_row" oH)
  (d65:bW K "is_sort_declaration" jd)
  (d66:bW K "is_kind_declaration" je)
  (d67:bW K "is_record_declaration" gO)
  (d68:bW K "is_given_face" mU)
  (d69:bW K "is_giver" vB)
  (d70:bW K "is_hide_count" mW)
  (d71:bW K "is_item" yd)
  (d72:bW K "is_face_declaration" jf)
  (d73:bW K "is_body_item" oJ)
  (d74:bW K "is_body" yg)
  (d75:bW K "is_part_declaration" jg)
  (d76:bW K "is_maker_declaration" iG)
  (d77:bW K "is_apply_declaration" iH)
  (d79:bW K "is_declaration" lU)
  (d80:bW K "is_main" yt)
  (d81:bW K "is_program" rH)
  (d82:bW K "read" adK)
  (d84:bW K "_law_next" M9)
  (d85:bW K "_law_drawn" Hx)
  (d86:bW K "_law_kept" Nb)
  (d87:bW K "_law_letters" xK)
  (d88:bW K "_law_small" Hy)
  (d89:bW K "_law_great" Hz)
  (d90:bW K "_law_path" Ng)
  (d91:bW K "_law_variable" u5)
  (d92:bW K "_law_number" Bu)
  (d93:bW K "_law_kind_name" tM)
  (d94:bW K "_law_kind" CW)
  (d95:bW K "_law_leaf" Oq)
  (d96:bW K "_law_some" CZ)
  (d97:bW K "_law_ring" Jb)
  (d98:bW K "_law_case" Dc)
  (d99:bW K "_law_phrase" wD)
  (adY:bW K "_law_pieces" aam)
  (adZ:bW K "_law_gap" W9)
  (ad0:bW K "_law_written" ac1)
  (ad1:bW K "_law_given" Aa)
  (ad2:bW K "_law_givers" Di)
  (ad3:bW K "_law_some_variables" jH)
  (ad4:bW K "_law_some_kinds" nA)
  (ad5:bW K "_law_sort" Jh)
  (ad6:bW K "_law_face" Ox)
  (ad7:bW K "_law_body" Oz)
  (ad8:bW K "_law_declared" rK)
  (ad9:bW K "_law_program" yC)
  (ad':bW K "_law_fitted" Dn)
  (aea:bW K "_law_same" s_same)
  (aeb:bW K "_law_refused" Lz)
  (aec:bW K "_law_bad_sorts" jA)
  (aed:bW K "_law_bad_faces" jB)
  (aee:bW K "_law_bad_parts" jC)
  (aef:bW K "_law_bad" Gw)
  (aeg:bW K "_law_spoilt" tX)
  (aeh:bW K "law" Y0):
  afH l w K mg fa:=by
 obtain⟨f23,g23,a23,F23⟩:=d23;obtain⟨f24,g24,a24,F24⟩:=d24;obtain⟨f25,g25,a25,F25⟩:=d25;obtain⟨f26,g26,a26,F26⟩:=d26;obtain⟨f27,g27,a27,F27⟩:=d27;obtain⟨f28,g28,a28,F28⟩:=d28;obtain⟨f29,g29,a29,F29⟩:=d29;obtain⟨f30,g30,a30,F30⟩:=d30;obtain⟨f31,g31,a31,F31⟩:=d31;obtain⟨f32,g32,a32,F32⟩:=d32;obtain⟨f36,g36,a36,F36⟩:=d36;obtain⟨f37,g37,a37,F37⟩:=d37;obtain⟨f38,g38,a38,F38⟩:=d38;obtain⟨f39,g39,a39,F39⟩:=d39;obtain⟨f40,g40,a40,F40⟩:=d40;obtain⟨f45,g45,a45,F45⟩:=d45;obtain⟨U0,vQ,a46,F46⟩:=d46;obtain⟨U4,Lg,a47,F47⟩:=d47;obtain⟨f48,g48,a48,F48⟩:=d48;obtain⟨f49,g49,a49,F49⟩:=d49;obtain⟨f50,g50,a50,F50⟩:=d50;obtain⟨f51,g51,a51,F51⟩:=d51;obtain⟨f52,g52,a52,F52⟩:=d52;obtain⟨f53,g53,a53,F53⟩:=d53;obtain⟨f54,g54,a54,F54⟩:=d54;obtain⟨f55,g55,a55,F55⟩:=d55;obtain⟨f56,g56,a56,F56⟩:=d56;obtain⟨f57,g57,a57,F57⟩:=d57;obtain⟨f58,g58,a58,F58⟩:=d58;obtain⟨f59,g59,a59,F59⟩:=d59;obtain⟨f61,g61,a61,F61⟩:=d61;obtain⟨f62,g62,a62,F62⟩:=d62;obtain⟨f63,g63,a63,F63⟩:=d63;obtain⟨f64,g64,a64,F64⟩:=d64;obtain⟨f65,g65,a65,F65⟩:=d65;obtain⟨f66,g66,a66,F66⟩:=d66;obtain⟨f67,g67,a67,F67⟩:=d67;obtain⟨f68,g68,a68,F68⟩:=d68;obtain⟨f69,g69,a69,F69⟩:=d69;obtain⟨f70,g70,a70,F70⟩:=d70;obtain⟨f71,g71,a71,F71⟩:=d71;obtain⟨f72,g72,a72,F72⟩:=d72;obtain⟨f73,g73,a73,F73⟩:=d73;obtain⟨f74,g74,a74,F74⟩:=d74;obtain⟨f75,g75,a75,F75⟩:=d75;obtain⟨f76,g76,a76,F76⟩:=d76;obtain⟨f77,g77,a77,F77⟩:=d77;obtain⟨f79,g79,a79,F79⟩:=d79;obtain⟨f80,g80,a80,F80⟩:=d80;obtain⟨f81,g81,a81,F81⟩:=d81;obtain⟨f82,g82,a82,F82⟩:=d82;obtain⟨f84,g84,a84,F84⟩:=d84;obtain⟨f85,g85,a85,F85⟩:=d85;obtain⟨f86,g86,a86,F86⟩:=d86;obtain⟨f87,g87,a87,F87⟩:=d87;obtain⟨f88,g88,a88,F88⟩:=d88;obtain⟨f89,g89,a89,F89⟩:=d89;obtain⟨f90,g90,a90,F90⟩:=d90;obtain⟨f91,g91,a91,F91⟩:=d91;obtain⟨f92,g92,a92,F92⟩:=d92;obtain⟨f93,g93,a93,F93⟩:=d93;obtain⟨f94,g94,a94,F94⟩:=d94;obtain⟨f95,g95,a95,F95⟩:=d95;obtain⟨f96,g96,a96,F96⟩:=d96;obtain⟨f97,g97,a97,F97⟩:=d97;obtain⟨f98,g98,a98,F98⟩:=d98;obtain⟨f99,g99,a99,F99⟩:=d99;obtain⟨aie,aif,agt,F100⟩:=adY;obtain⟨agu,agv,agw,F101⟩:=adZ;obtain⟨agx,agy,agz,F102⟩:=ad0;obtain⟨agA,agB,agC,F103⟩:=ad1;obtain⟨afI,afJ,afK,F104⟩:=ad2;obtain⟨afL,afM,afN,F105⟩:=ad3;obtain⟨agD,agE,agF,F106⟩:=ad4;obtain⟨agG,agH,agI,F107⟩:=ad5;obtain⟨agJ,agK,agL,F108⟩:=ad6;obtain⟨agM,agN,agO,F109⟩:=ad7;obtain⟨agP,agQ,agR,F110⟩:=ad8;obtain⟨agS,agT,agU,F111⟩:=ad9;obtain⟨agV,agW,agX,F112⟩:=ad';obtain⟨aii,aij,agY,F113⟩:=aea;obtain⟨agZ,ag0,ag1,F114⟩:=aeb;obtain⟨ag2,ag3,ag4,F115⟩:=aec;obtain⟨ag5,ag6,ag7,F116⟩:=aed;obtain⟨ag8,ag9,ag',F117⟩:=aee;obtain⟨aha,ahb,ahc,F118⟩:=aef;obtain⟨ahd,ahe,ahf,F119⟩:=aeg;obtain⟨aik,ahg,ahh,F120⟩:=aeh;have e:=hfa.symm.trans (ail X G ahh);cases e;refine⟨ahg,Uz F120 λ_ _ _ _ _ _ _ _=>.of_eq rfl,λaN XB GB=>?_⟩;have j6:=aiO X G Y9;have ab6:=aiO X G Za;have nM:=aiO X G rM;have Zf:=aiO X G Zb;have fL:=aiO X G Jw;have aei:=aiO X G Pn;have fM:=aiO X G Jx;have zf:=aiO X G Zc;have Zg:=aiO X G Pq;have afO:=aiO X G Zd;have afP:=aiO X G Ze;have Jy:=aiO X G rN;have b23:=F23.binds (ps:=["text","signs"]) λ_ _ _ _ _ _ us hl=>Jz us hl λ_ _=>rfl;have b24:=F24.binds (ps:=["thing"]) λ_ _ _ _ _ _ us hl=>j9 us hl λ_=>rfl;have b25:=F25.binds (ps:=["thing"]) λ_ _ _ _ _ _ us hl=>j9 us hl λ_=>rfl;have b26:=F26.binds (ps:=["thing"]) λ_ _ _ _ _ _ us hl=>j9 us hl λ_=>rfl;have b27:=F27.binds (ps:=["thing"]) λ_ _ _ _ _ _ us hl=>j9 us hl λ_=>rfl;have b28:=F28.binds (ps:=["thing"]) λ_ _ _ _ _ _ us hl=>j9 us hl λ_=>rfl;have b29:=F29.binds (ps:=["thing"]) λ_ _ _ _ _ _ us hl=>j9 us hl λ_=>rfl;have b30:=F30.binds (ps:=["thing"]) λ_ _ _ _ _ _ us hl=>j9 us hl λ_=>rfl;have b31:=F31.binds (ps:=["thing"]) λ_ _ _ _ _ _ us hl=>j9 us hl λ_=>rfl;have b32:=F32.binds (ps:=["text"]) λ_ _ _ _ _ _ us hl=>j9 us hl λ_=>rfl;have b36:=F36.binds (ps:=["text"]) λ_ _ _ _ _ _ us hl=>j9 us hl λ_=>rfl;have b37:=F37.binds (ps:=["piece"]) λ_ _ _ _ _ _ us hl=>j9 us hl λ_=>rfl;have b38:=F38.binds (ps:=["levels"]) λ_ _ _ _ _ _ us hl=>j9 us hl λ_=>rfl;have b39:=F39.binds (ps:=["levels"]) λ_ _ _ _ _ _ us hl=>j9 us hl λ_=>rfl;have b40:=F40.binds (ps:=["text"]) λ_ _ _ _ _ _ us hl=>j9 us hl λ_=>rfl;have b45:=F45.binds (ps:=["thing","least","most"]) λ_ _ _ _ _ _ us hl=>us3 us hl λ_ _ _=>rfl;have U5:=F46.binds (ps:=["things","fits"]) λ_ _ _ _ _ _ us hl=>Jz us hl λ_ _=>rfl;have U9:=F47.binds (ps:=["thing","least","most","fits"]) λ_ _ _ _ _ _ us hl=>us4 us hl λ_ _ _ _=>rfl;have b48:=F48.binds (ps:=["thing","within"]) λ_ _ _ _ _ _ us hl=>Jz us hl λ_ _=>rfl;have b49:=F49.binds (ps:=["thing"]) λ_ _ _ _ _ _ us hl=>j9 us hl λ_=>rfl;have b50:=F50.binds (ps:=["thing"]) λ_ _ _ _ _ _ us hl=>j9 us hl λ_=>rfl;have b51:=F51.binds (ps:=["thing"]) λ_ _ _ _ _ _ us hl=>j9 us hl λ_=>rfl;have b52:=F52.binds (ps:=["thing"]) λ_ _ _ _ _ _ us hl=>j9 us hl λ_=>rfl;have b53:=F53.binds (ps:=["thing"]) λ_ _ _ _ _ _ us hl=>j9 us hl λ_=>rfl;have b54:=F54.binds (ps:=["thing"]) λ_ _ _ _ _ _ us hl=>j9 us hl λ_=>rfl;have b55:=F55.binds (ps:=["thing"]) λ_ _ _ _ _ _ us hl=>j9 us hl λ_=>rfl;have b56:=F56.binds (ps:=["thing"]) λ_ _ _ _ _ _ us hl=>j9 us hl λ_=>rfl;have b57:=F57.binds (ps:=["thing"]) λ_ _ _ _ _ _ us hl=>j9 us hl λ_=>rfl;have b58:=F58.binds (ps:=["thing"]) λ_ _ _ _ _ _ us hl=>j9 us hl λ_=>rfl;have b59:=F59.binds (ps:=["thing"]) λ_ _ _ _ _ _ us hl=>j9 us hl λ_=>rfl;have b61:=F61.binds (ps:=["thing"]) λ_ _ _ _ _ _ us hl=>j9 us hl λ_=>rfl;have b62:=F62.binds (ps:=["thing"]) λ_ _ _ _ _ _ us hl=>j9 us hl λ_=>rfl;have b63:=F63.binds (ps:=["thing"]) λ_ _ _ _ _ _ us hl=>j9 us hl λ_=>rfl;have b64:=F64.binds (ps:=["thing"]) λ_ _ _ _ _ _ us hl=>j9 us hl λ_=>rfl;have b65:=F65.binds (ps:=["thing","most","is_row"]) λ_ _ _ _ _ _ us hl=>us3 us hl λ_ _ _=>rfl;have b66:=F66.binds (ps:=["thing"]) λ_ _ _ _ _ _ us hl=>j9 us hl λ_=>rfl;have b67:=F67.binds (ps:=["thing"]) λ_ _ _ _ _ _ us hl=>j9 us hl λ_=>rfl;have b68:=F68.binds (ps:=["thing"]) λ_ _ _ _ _ _ us hl=>j9 us hl λ_=>rfl;have b69:=F69.binds (ps:=["thing"]) λ_ _ _ _ _ _ us hl=>j9 us hl λ_=>rfl;have b70:=F70.binds (ps:=["thing"]) λ_ _ _ _ _ _ us hl=>j9 us hl λ_=>rfl;have b71:=F71.binds (ps:=["thing"]) λ_ _ _ _ _ _ us hl=>j9 us hl λ_=>rfl;have b72:=F72.binds (ps:=["thing"]) λ_ _ _ _ _ _ us hl=>j9 us hl λ_=>rfl;have b73:=F73.binds (ps:=["thing"]) λ_ _ _ _ _ _ us hl=>j9 us hl λ_=>rfl;have b74:=F74.binds (ps:=["things"]) λ_ _ _ _ _ _ us hl=>j9 us hl λ_=>rfl;have b75:=F75.binds (ps:=["thing"]) λ_ _ _ _ _ _ us hl=>j9 us hl λ_=>rfl;have b76:=F76.binds (ps:=["thing"]) λ_ _ _ _ _ _ us hl=>j9 us hl λ_=>rfl;have b77:=F77.binds (ps:=["thing"]) λ_ _ _ _ _ _ us hl=>j9 us hl λ_=>rfl;have b79:=F79.binds (ps:=["thing"]) λ_ _ _ _ _ _ us hl=>j9 us hl λ_=>rfl;have b80:=F80.binds (ps:=["thing"]) λ_ _ _ _ _ _ us hl=>j9 us hl λ_=>rfl;have b81:=F81.binds (ps:=["things"]) λ_ _ _ _ _ _ us hl=>j9 us hl λ_=>rfl;have b82:=F82.binds (ps:=["text"]) λ_ _ _ _ _ _ us hl=>j9 us hl λ_=>rfl;have b84:=F84.binds (ps:=["_law_state","_law_many"]) λ_ _ _ _ _ _ us hl=>Jz us hl λ_ _=>rfl;have b85:=F85.binds (ps:=["_law_script"]) λ_ _ _ _ _ _ us hl=>j9 us hl λ_=>rfl;have b86:=F86.binds (ps:=[]) λ_ _ _ _ _ _ us hl=>by cases us with|nil=>rfl|cons a r=>cases hl
 have b87:=F87.binds (ps:=["_law_state","_law_long"]) λ_ _ _ _ _ _ us hl=>Jz us hl λ_ _=>rfl;have b88:=F88.binds (ps:=["_law_state"]) λ_ _ _ _ _ _ us hl=>j9 us hl λ_=>rfl;have b89:=F89.binds (ps:=["_law_state"]) λ_ _ _ _ _ _ us hl=>j9 us hl λ_=>rfl;have b90:=F90.binds (ps:=["_law_state"]) λ_ _ _ _ _ _ us hl=>j9 us hl λ_=>rfl;have b91:=F91.binds (ps:=["_law_state"]) λ_ _ _ _ _ _ us hl=>j9 us hl λ_=>rfl;have b92:=F92.binds (ps:=["_law_state"]) λ_ _ _ _ _ _ us hl=>j9 us hl λ_=>rfl;have b93:=F93.binds (ps:=["_law_state"]) λ_ _ _ _ _ _ us hl=>j9 us hl λ_=>rfl;have b94:=F94.binds (ps:=["_law_state","_law_deep"]) λ_ _ _ _ _ _ us hl=>Jz us hl λ_ _=>rfl;have b95:=F95.binds (ps:=["_law_state","_law_way"]) λ_ _ _ _ _ _ us hl=>Jz us hl λ_ _=>rfl;have b96:=F96.binds (ps:=["_law_state","_law_deep","_law_left","_law_many"]) λ_ _ _ _ _ _ us hl=>us4 us hl λ_ _ _ _=>rfl;have b97:=F97.binds (ps:=["_law_state","_law_deep","_law_left"]) λ_ _ _ _ _ _ us hl=>us3 us hl λ_ _ _=>rfl;have b98:=F98.binds (ps:=["_law_state","_law_deep","_law_left"]) λ_ _ _ _ _ _ us hl=>us3 us hl λ_ _ _=>rfl;have b99:=F99.binds (ps:=["_law_state","_law_deep","_law_left"]) λ_ _ _ _ _ _ us hl=>us3 us hl λ_ _ _=>rfl;have ahi:=F100.binds (ps:=["_law_thing"]) λ_ _ _ _ _ _ us hl=>j9 us hl λ_=>rfl;have ahj:=F101.binds (ps:=["_law_state","_law_least"]) λ_ _ _ _ _ _ us hl=>Jz us hl λ_ _=>rfl;have ahk:=F102.binds (ps:=["_law_state","_law_pieces_here"]) λ_ _ _ _ _ _ us hl=>Jz us hl λ_ _=>rfl;have ahl:=F103.binds (ps:=["_law_state"]) λ_ _ _ _ _ _ us hl=>j9 us hl λ_=>rfl;have afQ:=F104.binds (ps:=["_law_state","_law_least"]) λ_ _ _ _ _ _ us hl=>Jz us hl λ_ _=>rfl;have afR:=F105.binds (ps:=["_law_state","_law_most"]) λ_ _ _ _ _ _ us hl=>Jz us hl λ_ _=>rfl;have ahm:=F106.binds (ps:=["_law_state","_law_many"]) λ_ _ _ _ _ _ us hl=>Jz us hl λ_ _=>rfl;have ahn:=F107.binds (ps:=["_law_state"]) λ_ _ _ _ _ _ us hl=>j9 us hl λ_=>rfl;have aho:=F108.binds (ps:=["_law_state"]) λ_ _ _ _ _ _ us hl=>j9 us hl λ_=>rfl;have ahp:=F109.binds (ps:=["_law_state","_law_left"]) λ_ _ _ _ _ _ us hl=>Jz us hl λ_ _=>rfl;have b110:=F110.binds (ps:=["_law_state","_law_left"]) λ_ _ _ _ _ _ us hl=>Jz us hl λ_ _=>rfl;have ahq:=F111.binds (ps:=["_law_state"]) λ_ _ _ _ _ _ us hl=>j9 us hl λ_=>rfl;have ahr:=F112.binds (ps:=["_law_program_here"]) λ_ _ _ _ _ _ us hl=>j9 us hl λ_=>rfl;have ahs:=F113.binds (ps:=["_law_told","_law_due"]) λ_ _ _ _ _ _ us hl=>Jz us hl λ_ _=>rfl;have aht:=F114.binds (ps:=["_law_text"]) λ_ _ _ _ _ _ us hl=>j9 us hl λ_=>rfl;have ahu:=F115.binds (ps:=["_law_v","_law_x","_law_t","_law_odd","_law_kind_here"]) λ_ _ _ _ _ _ us hl=>us5 us hl λ_ _ _ _ _=>rfl;have ahv:=F116.binds (ps:=["_law_x","_law_t","_law_odd","_law_kind_here"]) λ_ _ _ _ _ _ us hl=>us4 us hl λ_ _ _ _=>rfl;have ahw:=F117.binds (ps:=["_law_v","_law_x","_law_t","_law_odd","_law_kind_here"]) λ_ _ _ _ _ _ us hl=>us5 us hl λ_ _ _ _ _=>rfl;have ahx:=F118.binds (ps:=["_law_state"]) λ_ _ _ _ _ _ us hl=>j9 us hl λ_=>rfl;have ahy:=F119.binds (ps:=["_law_state","_law_program_here"]) λ_ _ _ _ _ _ us hl=>Jz us hl λ_ _=>rfl;have B:Gb K mg:=⟨j6,ab6,nM,Zf,fL,aei,fM,(by obtain⟨t,h⟩:=v1;exact⟨t,ail X G h⟩),(by obtain⟨t,h⟩:=v2;exact⟨t,ail X G h⟩),(by obtain⟨t,h⟩:=v4;exact⟨t,ail X G h⟩),(by obtain⟨a,h,q⟩:=v5;exact⟨a,ail X G h,q⟩)⟩;have H23:Has l.prog w K mg aN 1 "all_of" ["text","signs"] vR:=⟨f23,g23,Ss F23 B,b23,F23.kp,(ail X G a23)⟩;have H24:Has l.prog w K mg aN 2 "is_small" ["thing"] (spT (onStr eG)):=⟨f24,g24,Kc F24 B H23,b24,F24.kp,(ail X G a24)⟩;have H25:Has l.prog w K mg aN 3 "is_name" ["thing"] (spT (onStr nameB)):=⟨f25,g25,Bm F25 B H24,b25,F25.kp,(ail X G a25)⟩;have H26:Has l.prog w K mg aN 2 "is_great" ["thing"] (spT (onStr bJ)):=⟨f26,g26,yQ F26 B H23,b26,F26.kp,(ail X G a26)⟩;have H27:Has l.prog w K mg aN 4 "is_path" ["thing"] (spT (onStr dN)):=⟨f27,g27,M8 F27 B H25 H26,b27,F27.kp,(ail X G a27)⟩;have H28:Has l.prog w K mg aN 3 "is_variable" ["thing"] (spT (onStr iz)):=⟨f28,g28,sY F28 B H24,b28,F28.kp,(ail X G a28)⟩;have H29:Has l.prog w K mg aN 5 "is_word" ["thing"] (spS qe):=⟨f29,g29,Nt F29 (by obtain⟨t,h⟩:=v6;exact⟨t,ail X G h⟩) H24 H26 H27 H28,b29,F29.kp,(ail X G a29)⟩;have H32:Has l.prog w K mg aN 2 "is_number_text" ["text"] (spS Qu):=⟨f32,g32,WD F32 j6 (by obtain⟨t,h⟩:=v3;exact⟨t,ail X G h⟩) (by obtain⟨t,h⟩:=v7;exact⟨t,ail X G h⟩) H23,b32,F32.kp,(ail X G a32)⟩;have H36:acQ l.prog w K mg aN 1 "pieces_of" ["text"] QD:=⟨f36,g36,acR F36,b36,F36.kp,(ail X G a36)⟩;obtain⟨OS,CO⟩:=xi aN mg XB (ail X G qCN);have H37:BX l.prog w K mg aN 6 "thing_of" ["piece"] (Ks CN):=⟨f37,g37,acV F37 OS ai9 zf H32 H29,b37,F37.kp,(ail X G a37)⟩;have H38:BX l.prog w K mg aN 1 "begin_bracket" ["levels"] (Ku CN):=⟨f38,g38,acW F38 OS ai9 j6 (by obtain⟨t,h⟩:=v9;exact⟨t,ail X G h⟩),b38,F38.kp,(ail X G a38)⟩;have H39:BX l.prog w K mg aN 1 "end_bracket" ["levels"] (Kv CN):=⟨f39,g39,acX F39 OS ai9 j6 fL,b39,F39.kp,(ail X G a39)⟩;have H40:BX l.prog w K mg aN 7 "things_of" ["text"] (QF CN):=⟨f40,g40,acY F40 OS ai9 j6 fL (by obtain⟨t,h⟩:=v8;exact⟨t,ail X G h⟩) H36 H38 H39 H37,b40,F40.kp,(ail X G a40)⟩;have H30:Has l.prog w K mg aN 1 "is_whole" ["thing"] (spT xW):=⟨f30,g30,K1 F30 B zf Zg,b30,F30.kp,(ail X G a30)⟩;have H31:Has l.prog w K mg aN 2 "is_number" ["thing"] (spT uF):=⟨f31,g31,Im F31 afP H30,b31,F31.kp,(ail X G a31)⟩;have GJ:Has l.prog w K mg aN 1 "has_length" ["thing","least","most"] f9:=⟨f45,g45,DR F45 B,b45,F45.kp,(ail X G a45)⟩;have Znm:=Has.z H25;have Zgr:=Has.z H26;have Zvr:=Has.z H28;have Znu:=Has.z H31;have Kkw:=zu (P:=l.prog) (w:=w) (aN:=aN) F49 B (by obtain⟨t,h⟩:=v6;exact⟨t,ail X G h⟩) H28 H25 H27;have AFK:Has l.prog w K mg aN 6 "all_fit" ["thing","within"] (sV jw f49):=⟨f48,g48,Ci Fq F48 B Kkw F49.kp b49,b48,F48.kp,(ail X G a48)⟩;have ab7:=afi Fq (NZ F50 (ail X G a49) AFK);have H50:Has l.prog w K mg aN 7 "is_kind" ["thing"] (oG kindB):=⟨f50,g50,ab7,b50,F50.kp,(ail X G a50)⟩;have ahz:=uH (P:=l.prog) (w:=w) (aN:=aN) F56 H25 GJ;have ahA:Has l.prog w K mg aN 5 "all_are" ["things","fits"] (ou jN f56):=⟨U0,vQ,vq F46 B ahz F56.kp b56,U5,F46.kp,(ail X G a46)⟩;have ahB:Has l.prog w K mg aN 6 "is_list" ["thing","least","most","fits"] (vm jN f56):=⟨U4,Lg,vA F47 GJ ahA,U9,F47.kp,(ail X G a47)⟩;have afS:=Bm (P:=l.prog) (w:=w) (aN:=aN) F25 B H24;have ab8:Has l.prog w K mg aN 4 "all_are" ["things","fits"] (ou (onStr nameB) f25):=⟨U0,vQ,vq F46 B afS F25.kp b25,U5,F46.kp,(ail X G a46)⟩;have aia:Has l.prog w K mg aN 5 "is_list" ["thing","least","most","fits"] (vm (onStr nameB) f25):=⟨U4,Lg,vA F47 GJ ab8,U9,F47.kp,(ail X G a47)⟩;have ahC:=Cw F58 (ail X G a25) H26 GJ ab8;have ahD:Has l.prog w K mg aN 6 "all_are" ["things","fits"] (ou tG f58):=⟨U0,vQ,vq F46 B ahC F58.kp b58,U5,F46.kp,(ail X G a46)⟩;have ahE:Has l.prog w K mg aN 7 "is_list" ["thing","least","most","fits"] (vm tG f58):=⟨U4,Lg,vA F47 GJ ahD,U9,F47.kp,(ail X G a47)⟩;obtain⟨df,x0,x1,x2,x3,x4,x5,x6,hnm,n0,n1,n2,n3,n4,n5,n6,D⟩:=fo;have e0:x0=f53:=by have z:=n0.symm.trans a53;injection z with z;injection z with z;injection z
 have e1:x1=f51:=by have z:=n1.symm.trans a51;injection z with z;injection z with z;injection z
 have e2:x2=f54:=by have z:=n2.symm.trans a54;injection z with z;injection z with z;injection z
 have e3:x3=f57:=by have z:=n3.symm.trans a57;injection z with z;injection z with z;injection z
 have e4:x4=f59:=by have z:=n4.symm.trans a59;injection z with z;injection z with z;injection z
 have e5:x5=f55:=by have z:=n5.symm.trans a55;injection z with z;injection z with z;injection z
 have e6:x6=f52:=by have z:=n6.symm.trans a52;injection z with z;injection z with z;injection z
 have Kpw:=wA (P:=l.prog) (w:=w) (aN:=aN) (fn:=fnOf x0 x1 x2 x3 x4 x5 x6) F61 B (ail X G hnm) D (λn hn=>by
  match n,hn with
  |0,_=>exact⟨g53,by show cj _ _ _ _ _ _ _ x0 _ _ _;rw[e0];exact(zB F53 B H25).mono (by decide),b53,by show PySem.W.keepIn K (.ref x0)=true;rw[e0];exact F53.kp⟩
  |1,_=>exact⟨g51,by show cj _ _ _ _ _ _ _ x1 _ _ _;rw[e1];exact(DX F51 B).mono (by decide),b51,by show PySem.W.keepIn K (.ref x1)=true;rw[e1];exact F51.kp⟩
  |2,_=>exact⟨g54,by show cj _ _ _ _ _ _ _ x2 _ _ _;rw[e2];exact(Ea F54 B H25).mono (by decide),b54,by show PySem.W.keepIn K (.ref x2)=true;rw[e2];exact F54.kp⟩
  |3,_=>exact⟨g57,by show cj _ _ _ _ _ _ _ x3 _ _ _;rw[e3];exact(Cr F57 B (ail X G a56) ahB).mono (by decide),b57,by show PySem.W.keepIn K (.ref x3)=true;rw[e3];exact F57.kp⟩
  |4,_=>exact⟨g59,by show cj _ _ _ _ _ _ _ x4 _ _ _;rw[e4];exact(Cz F59 (ail X G a58) ahE).mono (by decide),b59,by show PySem.W.keepIn K (.ref x4)=true;rw[e4];exact F59.kp⟩
  |5,_=>exact⟨g55,by show cj _ _ _ _ _ _ _ x5 _ _ _;rw[e5];exact(Cp F55 B H25).mono (by decide),b55,by show PySem.W.keepIn K (.ref x5)=true;rw[e5];exact F55.kp⟩
  |6,_=>exact⟨g52,by show cj _ _ _ _ _ _ _ x6 _ _ _;rw[e6];exact(zy F52 B).mono (by decide),b52,by show PySem.W.keepIn K (.ref x6)=true;rw[e6];exact F52.kp⟩
  |n+7,h=>exact absurd h (by omega)) H31 H25 H27 H26
 have AFP:Has l.prog w K mg aN 10 "all_fit" ["thing","within"] (sV ql f61):=⟨f48,g48,Ci Ga F48 B Kpw F61.kp b61,b48,F48.kp,(ail X G a48)⟩;have H62:Has l.prog w K mg aN 11 "is_phrase" ["thing"] (oG gw):=⟨f62,g62,afi Ga (Ir F62 (ail X G a61) AFP),b62,F62.kp,(ail X G a62)⟩;have Akd:Has l.prog w K mg aN 8 "all_are" ["things","fits"] (lR kindB f50):=⟨U0,vQ,nj F46 B ab7 F50.kp b50,U5,F46.kp,(ail X G a46)⟩;have Lkd:Has l.prog w K mg aN 9 "is_list" ["thing","least","most","fits"] (dU kindB f50):=⟨U4,Lg,kY F47 GJ Akd,U9,F47.kp,(ail X G a47)⟩;have Kgr:=fz (yQ (P:=l.prog) (w:=w) (aN:=aN) F26 B H23);have Agr:Has l.prog w K mg aN 3 "all_are" ["things","fits"] (lR vC f26):=⟨U0,vQ,nj F46 B Kgr F26.kp b26,U5,F46.kp,(ail X G a46)⟩;have Lgr:Has l.prog w K mg aN 4 "is_list" ["thing","least","most","fits"] (dU vC f26):=⟨U4,Lg,kY F47 GJ Agr,U9,F47.kp,(ail X G a47)⟩;have Kvr:=fz (sY (P:=l.prog) (w:=w) (aN:=aN) F28 B H24);have Avr:Has l.prog w K mg aN 4 "all_are" ["things","fits"] (lR K3 f28):=⟨U0,vQ,nj F46 B Kvr F28.kp b28,U5,F46.kp,(ail X G a46)⟩;have Lvr:Has l.prog w K mg aN 5 "is_list" ["thing","least","most","fits"] (dU K3 f28):=⟨U4,Lg,kY F47 GJ Avr,U9,F47.kp,(ail X G a47)⟩;have ahF:=Ec F63 GJ Zgr Akd (ail X G a50);have ahG:Has l.prog w K mg aN 10 "all_are" ["things","fits"] (lR zE f63):=⟨U0,vQ,nj F46 B ahF F63.kp b63,U5,F46.kp,(ail X G a46)⟩;have ahH:Has l.prog w K mg aN 11 "is_list" ["thing","least","most","fits"] (dU zE f63):=⟨U4,Lg,kY F47 GJ ahG,U9,F47.kp,(ail X G a47)⟩;have ahI:=(zH F64 GJ Znm H50).mono (show 8<=9 by decide);have ahJ:Has l.prog w K mg aN 10 "all_are" ["things","fits"] (lR oK f64):=⟨U0,vQ,nj F46 B ahI F64.kp b64,U5,F46.kp,(ail X G a46)⟩;have ahK:Has l.prog w K mg aN 11 "is_list" ["thing","least","most","fits"] (dU oK f64):=⟨U4,Lg,kY F47 GJ ahJ,U9,F47.kp,(ail X G a47)⟩;have H68:Has l.prog w K mg aN 5 "is_given_face" ["thing"] (oG iJ):=⟨f68,g68,yp F68 Zgr Lgr (ail X G a26),b68,F68.kp,(ail X G a68)⟩;have ahL:=K5 F69 GJ Zgr H68;have ahM:Has l.prog w K mg aN 7 "all_are" ["things","fits"] (lR jV f69):=⟨U0,vQ,nj F46 B ahL F69.kp b69,U5,F46.kp,(ail X G a46)⟩;have afT:Has l.prog w K mg aN 8 "is_list" ["thing","least","most","fits"] (dU jV f69):=⟨U4,Lg,kY F47 GJ ahM,U9,F47.kp,(ail X G a47)⟩;have H70:Has l.prog w K mg aN 3 "is_hide_count" ["thing"] (oG Gg):=⟨f70,g70,yr F70 Znu,b70,F70.kp,(ail X G a70)⟩;have Kit:=Oa F71 GJ Znm H70 H50;have Ait:Has l.prog w K mg aN 9 "all_are" ["things","fits"] (lR rT f71):=⟨U0,vQ,nj F46 B Kit F71.kp b71,U5,F46.kp,(ail X G a46)⟩;have Lit:Has l.prog w K mg aN 10 "is_list" ["thing","least","most","fits"] (dU rT f71):=⟨U4,Lg,kY F47 GJ Ait,U9,F47.kp,(ail X G a47)⟩;have Kbi:=zK F73 j6 GJ Znm Lvr (ail X G a28) H50 H62;have Abi:Has l.prog w K mg aN 13 "all_are" ["things","fits"] (lR eN f73):=⟨U0,vQ,nj F46 B Kbi F73.kp b73,U5,F46.kp,(ail X G a46)⟩;have Lbi:Has l.prog w K mg aN 14 "is_list" ["thing","least","most","fits"] (dU eN f73):=⟨U4,Lg,kY F47 GJ Abi,U9,F47.kp,(ail X G a47)⟩;have H74:Has l.prog w K mg aN 15 "is_body" ["things"] (oG CK):=⟨f74,g74,Oc F74 Lbi (ail X G a73) (by obtain⟨t,h⟩:=vi;exact⟨t,ail X G h⟩),b74,F74.kp,(ail X G a74)⟩;have Hsk:Has l.prog w K mg aN 12 "is_sort_declaration" ["thing","most","is_row"] (CQ zE f63):=⟨f65,g65,kZ (k:=6) F65 j6 Znm Lvr (ail X G a28) ahH,b65,F65.kp,(ail X G a65)⟩;have Hsr:Has l.prog w K mg aN 12 "is_sort_declaration" ["thing","most","is_row"] (CQ oK f64):=⟨f65,g65,kZ (k:=6) F65 j6 Znm Lvr (ail X G a28) ahK,b65,F65.kp,(ail X G a65)⟩;obtain⟨dd,y0,y1,y2,y3,y4,y5,hdm,c0,c1,c2,c3,c4,c5,DD⟩:=fd;have q0:y0=f66:=by have z:=c0.symm.trans a66;injection z with z;injection z with z;injection z
 have q1:y1=f67:=by have z:=c1.symm.trans a67;injection z with z;injection z with z;injection z
 have q2:y2=f72:=by have z:=c2.symm.trans a72;injection z with z;injection z with z;injection z
 have q3:y3=f75:=by have z:=c3.symm.trans a75;injection z with z;injection z with z;injection z
 have q4:y4=f76:=by have z:=c4.symm.trans a76;injection z with z;injection z with z;injection z
 have q5:y5=f77:=by have z:=c5.symm.trans a77;injection z with z;injection z with z;injection z
 have ahN:=wC (P:=l.prog) (w:=w) (aN:=aN) (fn:=ags y0 y1 y2 y3 y4 y5) F79 B (ail X G hdm) DD (λn hn=>by
  match n,hn with
  |0,_=>exact⟨g66,by show cj _ _ _ _ _ _ _ y0 _ _ _;rw[q0];exact(rB F66 Hsk (ail X G a63)).mono (by decide),b66,by show PySem.W.keepIn K (.ref y0)=true;rw[q0];exact F66.kp⟩
  |1,_=>exact⟨g67,by show cj _ _ _ _ _ _ _ y1 _ _ _;rw[q1];exact(pK F67 Hsr (ail X G a64)).mono (by decide),b67,by show PySem.W.keepIn K (.ref y1)=true;rw[q1];exact F67.kp⟩
  |2,_=>exact⟨g72,by show cj _ _ _ _ _ _ _ y2 _ _ _;rw[q2];exact(rE F72 j6 Zgr afT (ail X G a69) Lit (ail X G a71) (by obtain⟨t,h⟩:=vg;exact⟨t,ail X G h⟩) (by obtain⟨t,h⟩:=vi;exact⟨t,ail X G h⟩)).mono (by decide),b72,by show PySem.W.keepIn K (.ref y2)=true;rw[q2];exact F72.kp⟩
  |3,_=>exact⟨g75,by show cj _ _ _ _ _ _ _ y3 _ _ _;rw[q3];exact(rG F75 j6 Zgr H68 H74).mono (by decide),b75,by show PySem.W.keepIn K (.ref y3)=true;rw[q3];exact F75.kp⟩
  |4,_=>exact⟨g76,by show cj _ _ _ _ _ _ _ y4 _ _ _;rw[q4];exact(qp F76 j6 Zgr afT (ail X G a69) H68 H74 (by obtain⟨t,h⟩:=vg;exact⟨t,ail X G h⟩)).mono (by decide),b76,by show PySem.W.keepIn K (.ref y4)=true;rw[q4];exact F76.kp⟩
  |5,_=>exact⟨g77,by show cj _ _ _ _ _ _ _ y5 _ _ _;rw[q5];exact(qw F77 Lgr (ail X G a26)).mono (by decide),b77,by show PySem.W.keepIn K (.ref y5)=true;rw[q5];exact F77.kp⟩
  |n+6,h=>exact absurd h (by omega))
 have ahO:Has l.prog w K mg aN 18 "all_are" ["things","fits"] (lR dJ f79):=⟨U0,vQ,nj F46 B ahN F79.kp b79,U5,F46.kp,(ail X G a46)⟩;have ahP:Has l.prog w K mg aN 19 "is_list" ["thing","least","most","fits"] (dU dJ f79):=⟨U4,Lg,kY F47 GJ ahO,U9,F47.kp,(ail X G a47)⟩;have H80:Has l.prog w K mg aN 12 "is_main" ["thing"] (oG lA):=⟨f80,g80,Oe F80 GJ H62,b80,F80.kp,(ail X G a80)⟩;have H81:Has l.prog w K mg aN 20 "is_program" ["things"] Og:=⟨f81,g81,Ef F81 j6 H80 ahP (ail X G a79) (by obtain⟨t,h⟩:=vd;exact⟨t,ail X G h⟩),b81,F81.kp,(ail X G a81)⟩;have H82:BX l.prog w K mg aN 21 "read" ["text"] (Gy CN):=⟨f82,g82,afE F82 OS ai9 H40 H81,b82,F82.kp,(ail X G a82)⟩;have Dv:Has l.prog w K mg aN 1 "_law_next" ["_law_state","_law_many"] eE:=⟨f84,g84,Z5 F84 j6,b84,F84.kp,(ail X G a84)⟩;have H85:Has l.prog w K mg aN 1 "_law_drawn" ["_law_script"] (Hv K):=⟨f85,g85,Wi F85 j6,b85,F85.kp,(ail X G a85)⟩;have H86:Has l.prog w K mg aN 1 "_law_kept" [] Hw:=⟨f86,g86,Z6 F86,b86,F86.kp,(ail X G a86)⟩;have H87:Has l.prog w K mg aN 2 "_law_letters" ["_law_state","_law_long"] p8:=⟨f87,g87,Nf F87 fM Dv,b87,F87.kp,(ail X G a87)⟩;have Zh:Has l.prog w K mg aN 3 "_law_small" ["_law_state"] (dD λz=>nameB z=true):=⟨f88,g88,Wj F88 Dv H87 H86,b88,F88.kp,(ail X G a88)⟩;have Zi:Has l.prog w K mg aN 3 "_law_great" ["_law_state"] (dD λz=>bJ z=true):=⟨f89,g89,Wk F89 Dv H87,b89,F89.kp,(ail X G a89)⟩;have H90:Has l.prog w K mg aN 4 "_law_path" ["_law_state"] (dD λz=>dN z=true):=⟨f90,g90,Z7 F90 Zi Zh,b90,F90.kp,(ail X G a90)⟩;have H91:Has l.prog w K mg aN 3 "_law_variable" ["_law_state"] (dD λz=>iz z=true):=⟨f91,g91,Kh F91 Dv H87,b91,F91.kp,(ail X G a91)⟩;have H92:Has l.prog w K mg aN 2 "_law_number" ["_law_state"] Wd:=⟨f92,g92,SN F92 fM Dv,b92,F92.kp,(ail X G a92)⟩;have H93:Has l.prog w K mg aN 5 "_law_kind_name" ["_law_state"] (dD λz=>iR z=true):=⟨f93,g93,IV F93 Dv Zh H90,b93,F93.kp,(ail X G a93)⟩;have H94:=yu (P:=l.prog) (w:=w) (aN:=aN) F94 b94 (ail X G a94) fM fL Dv H91 Zh H90 H93 3;have H95:Has l.prog w K mg aN 5 "_law_leaf" ["_law_state","_law_way"] Ja:=⟨f95,g95,aay F95 H92 Zh H90 Zi,b95,F95.kp,(ail X G a95)⟩;have HP:=yW (P:=l.prog) (w:=w) (aN:=aN) F99 b99 (ail X G a99) F96 b96 (ail X G a96) F97 b97 (ail X G a97) F98 b98 (ail X G a98) fM fL Dv Zh Zi H95;have afU:Has l.prog w K mg aN 22 "_law_pieces" ["_law_thing"] (TV 21):=ac0 F100 nM fL Zf ahi F100.kp (ail X G agt) 22;have ahQ:Has l.prog w K mg aN 2 "_law_gap" ["_law_state","_law_least"] QG:=⟨agu,agv,ac2 F101 fM Dv,ahj,F101.kp,(ail X G agw)⟩;have ahR:Has l.prog w K mg aN 3 "_law_written" ["_law_state","_law_pieces_here"] aao:=⟨agx,agy,afd F102 zf ahQ,ahk,F102.kp,(ail X G agz)⟩;have ahS:Has l.prog w K mg aN 22 "_law_same" ["_law_told","_law_due"] (Cg 21):=Xe F113 ahs F113.kp (ail X G agY) nM fL Zf zf Zg j6 ab6 afO 22;have aej:Has l.prog w K mg aN 4 "_law_given" ["_law_state"] (Zv iJ 1 4):=⟨agA,agB,XD F103 fM fL Dv Zi,ahl,F103.kp,(ail X G agC)⟩;have ahT:Has l.prog w K mg aN 5 "_law_givers" ["_law_state","_law_least"] (tR 0):=⟨afI,afJ,Gp F104 fM fL Dv Zi aej,afQ,F104.kp,(ail X G afK)⟩;have ahU:Has l.prog w K mg aN 5 "_law_givers" ["_law_state","_law_least"] (tR 1):=⟨afI,afJ,Gp F104 fM fL Dv Zi aej,afQ,F104.kp,(ail X G afK)⟩;have ahV:Has l.prog w K mg aN 4 "_law_some_variables" ["_law_state","_law_most"] (Dj 2):=⟨afL,afM,pq (by decide) F105 fM fL Dv H91,afR,F105.kp,(ail X G afN)⟩;have ahW:Has l.prog w K mg aN 4 "_law_some_variables" ["_law_state","_law_most"] (Dj 3):=⟨afL,afM,pq (by decide) F105 fM fL Dv H91,afR,F105.kp,(ail X G afN)⟩;have ahX:Has l.prog w K mg aN 9 "_law_some_kinds" ["_law_state","_law_many"] Jf:=⟨agD,agE,Ei F106 fM fL H94,ahm,F106.kp,(ail X G agF)⟩;have ahY:Has l.prog w K mg aN 10 "_law_sort" ["_law_state"] (Zv dJ 20 90500):=⟨agG,agH,aaK F107 fM fL zf Dv Zh Zi ahW ahX H94,ahn,F107.kp,(ail X G agI)⟩;have ahZ:Has l.prog w K mg aN 9 "_law_face" ["_law_state"] (Zv dJ 20 90500):=⟨agJ,agK,aaN F108 fM fL zf Dv Zh Zi ahT H94,aho,F108.kp,(ail X G agL)⟩;have ah0:Has l.prog w K mg aN 19 "_law_body" ["_law_state","_law_left"] OD:=⟨agM,agN,aaO F109 fM fL zf Dv Zh ahV H94 (HP 4),ahp,F109.kp,(ail X G agO)⟩;have ah1:Has l.prog w K mg aN 20 "_law_declared" ["_law_state","_law_left"] OJ:=⟨agP,agQ,Lf F110 fM fL Dv Zi ahY ahZ aej ahU ah0,b110,F110.kp,(ail X G agR)⟩;have ah2:Has l.prog w K mg aN 23 "_law_fitted" ["_law_program_here"] Yd:=⟨agV,agW,Us F112 j6 afU,ahr,F112.kp,(ail X G agX)⟩;have ah3:Has l.prog w K mg aN 24 "_law_program" ["_law_state"] yD:=⟨agS,agT,O1 F111 fM fL zf j6 Dv Zh Zi ah1 (HP 5) ah2,ahq,F111.kp,(ail X G agU)⟩;have HK2:=yu (P:=l.prog) (w:=w) (aN:=aN) F94 b94 (ail X G a94) fM fL Dv H91 Zh H90 H93 2;have ah4:Has l.prog w K mg aN 1 "_law_bad_sorts" ["_law_v","_law_x","_law_t","_law_odd","_law_kind_here"] Lw:=⟨ag2,ag3,afr F115,ahu,F115.kp,(ail X G ag4)⟩;have ah5:Has l.prog w K mg aN 1 "_law_bad_faces" ["_law_x","_law_t","_law_odd","_law_kind_here"] YG:=⟨ag5,ag6,afs F116,ahv,F116.kp,(ail X G ag7)⟩;have ah6:Has l.prog w K mg aN 1 "_law_bad_parts" ["_law_v","_law_x","_law_t","_law_odd","_law_kind_here"] Lw:=⟨ag8,ag9,aft F117,ahw,F117.kp,(ail X G ag')⟩;have ah7:Has l.prog w K mg aN 8 "_law_bad" ["_law_state"] Ds:=⟨aha,ahb,adC F118 j6 Dv H91 Zh Zi H90 H86 HK2 ah4 ah5 ah6,ahx,F118.kp,(ail X G ahc)⟩;have ah8:Has l.prog w K mg aN 9 "_law_spoilt" ["_law_state","_law_program_here"] Rn:=⟨ahd,ahe,adU F119 j6 Dv ah7,ahy,F119.kp,(ail X G ahf)⟩;have ZN:afD K mg CN CX C1 C2 C3 C4 C5 C6 C7 D1 D2 D3 D4 D5:=⟨(ail X G qCX),(ail X G qCN),(ail X G qC1),(ail X G qC2),(ail X G qC3),(ail X G qC4),(ail X G qC5),(ail X G qC6),(ail X G qC7),(ail X G qD1),(ail X G qD2),(ail X G qD3),(ail X G qD4),(ail X G qD5),Jy,nM,xc,kN,kV,kA,kB⟩;have ah9:Has l.prog w K mg aN 22 "_law_refused" ["_law_text"] Rk:=⟨agZ,ag0,adM F114 ZN CO H82,aht,F114.kp,(ail X G ag1)⟩;exact adV F120 fM j6 H85 ah3 afU ahR ahS H82 ah8 ah9
theorem walk {l:PySem.W.OpenLaw}{q:Program}{loose:List Str}{XP:(Str->Option Value)->Heap->Prop}{YP:World->Heap->Prop}{d:DefRec}{K:Params->PySem.W.Frag}(hn:l.most=some 63)(hdf:d.params.defaults=[])
  (hY:∀(w:World) (h:Heap),YP w h->(K w.params).In h)
  (F:∀(w:World) (mg:Str->Option Value) (fa:Addr) (h:Heap),(K w.params).In h->h.Ns mainGlobals mg->mg d.name=some (.ref fa)->
   ∃fd:FuncData,(∀(s:Shared) (u:Value),BindsTo s fd ⟨[u],[]⟩ [("_law_script",u)])/\∀aN:Heap,(K w.params).In aN->aN.Ns mainGlobals mg->cj l.prog w (K w.params) mg aN eY 25 fa fd ["_law_script"] (LQ (K w.params))):
  PySem.W.WalkO q loose XP YP l.row.toRowW d [] (λf vs=>PySem.call f vs) :=
 L2.ZS (n:=63) (k:=25) (x:="_law_script") (CX:=λ_=>eY) (sp:=λw=>LQ (K w.params)) hn (by decide) hdf ⟨rfl,by decide,by decide⟩ hY F (λ_ _ a ns hl _ hS=>⟨a,ns,rfl,hS,hl,λ_=>rfl⟩) λ_ _ _ _ _ z=>z
end Fw
open PySem PySem.W PyProof.Rows
structure PySem.W.Fast:Prop where(tw18242459011870283028 tw13747730391829228295 tw6799938499021447911 tw17228562044709219687 tw4744593273838808061 tw2862802254187491315 tw3714667354943308904 tw9119605631960347177 tw6572745203569595199 tw7512111232085633053 tw17129644714414217096 tw18020659193934324104 tw9655183043653859867 tw17090436623419962371 tw15753084158300230045 tw10971696585357854831 tw3921903133168802572 tw17068678214614517474 tw3421617405347124511 tw2118073555990285028 tw4574096765500945443 tw13470801800267571576 tw10067846676901567732 tw6593413726674017693 tw11487809691758069084 tw11147241201941510438 tw13934978004192107974 tw5931783454229355861 tw7932779375724305823 tw5145398552202251466 tw12911994145336718000 tw4046030115742539212 tw16516887719492418253 tw15161987968092686567 tw15256957756991192618 tw4244633628209810178 tw458341289923451085 tw10333957455808900152 tw9444508520658432592 tw13822887382859347335 tw6210958589908010908 tw4405581071687110549 tw4705350436164807379 tw17918092833583534661 tw10553306108142413720 tw3240529137297800310 tw2326536493382871749 tw17144104169692370156 tw17684392217677211638 tw10202755475304561276 tw6693483640050607686 tw14629632782088768052 tw9476925297058418638 tw7968190269254766254 tw355294596281524646 tw8588967251673900849 tw7688509434636257229 tw16772675373065601870 tw16457977832791518172 tw14900067613017682481 tw1938710264973539063 tw2520673412014526969 tw18376911839657331438 tw17087147495824450222 tw9223894952466711247 tw8867928668096310991 tw12677996806280209788 tw12943237855974992140 tw5909380573405585447 tw2773339853584037433 tw12413107866526665060 tw17314961405018831192 tw4531554411340241863 tw17041580753735048335 tw16262289309399229631 tw11938552117164863639 tw16471481591939466614 tw5946744606630286075 tw27792495958787070 tw16439211547567022096 tw15650856766672542565 tw14464623843887699900 tw10196190970708383739 tw3358635386647476184 tw10964259274140541703 tw7386348680770301233 tw7532611242277400275 tw3804836132478466241 tw6169493708312944973 tw6029113735106264420 tw562945022887419293 tw18100982342868286629 tw17273089320078538692 tw9610231540977085139 tw9016944516495093678 tw8527525150869968056 tw4375516263931796966 tw2583429388132735290 tw16774717311712988056 tw16289918889591882082 tw14052534642025345599 tw13629529666236253717 tw13167384723533715962 tw10984801793762007455 tw10663431539684102932 tw11608081568462741232 tw9383506573628816059 tw8787527614971859638 tw2692388795879089240 tw18357463959704481853 tw18022487616793387969 tw8686071120071708834 tw7467746195417587200 tw18384394976019138475 tw2618341136380615602 tw223150014359997937 tw1919618728643686908 tw10867246729145075394 tw1256672831449977711 tw7939088308621969838 tw14179672247634418634 tw182267481957863466 tw12167817455636113605 tw9748329884157691577 tw9477892514107961402 tw8965075451514779826 tw822141163717071857 tw817825967657992932 tw5263373546056979907 tw4937645874737852352 tw471515153798133339 tw4250675927058746132 tw1664043996105962479 tw1439071301731586408 tw13813339210622230888 tw12833349698083327018 tw7150338072173387765 tw15450401728066166990 tw5620010477407042219 tw4822328860680508357 tw8229401383664688910 tw7469711827006977302 tw14317747630653190187 tw13852842644930575765 tw11781467975227397675 tw11080349447518295342 tw13815614601606336869 tw10571580903982802643 tw10064429978244872876 tw6621118369961903335 tw2896227283791578293 tw2894527323432945302 tw8963214131962989620 tw17986239988911171202 tw998707159791057814 tw9551518608372716970 tw9378112776749856555 tw9112811386407219859 tw8804599893749493723 tw8798806802612959158 tw8731491228009548969 tw8678739274524670915 tw865591385099489393 tw8612869123082948602 tw8578236565788810230 tw8440534370932843556 tw75438466131732210 tw7317114441480500183 tw6668207957660429239 tw6578244454055190442 tw655042933862051590 tw6531897941832651111 tw6525161462069671000 tw6371247669536885273 tw6293496591257616719 tw6229680782508258869 tw6082521938846482235 tw5847702417901012007 tw5846770702210311283 tw5791570990066086248 tw5752055551367956781 tw5653146431065799241 tw5553316163162528032 tw5332607033532499448 tw5074587053194769416 tw4989679867180803076 tw4589250880865601989 tw449312152515641210 tw403296182878564013 tw3661263236069762991 tw3194861564586107401 tw3005119415810856777 tw2669452907564761493 tw2442480183925325431 tw2413121755795118211 tw2345432045325533576 tw192028417717536320 tw18379515017191767062 tw17682865681842581894 tw1716372059517095889 tw16937687956994734050 tw1680379757668303977 tw16781106843097139517 tw16514854094055152976 tw16472032303315313013 tw16385286544424495174 tw16266781468966471311 tw16178541706514340458 tw15845563538036946625 tw15834889483558948874 tw15146979460169026242 tw15017402379815450747 tw147665682254657229 tw14584918148767325660 tw1404920624482472834 tw1387521443420542105 tw13722019401204115525 tw13167544500531382215 tw13069522491450405304 tw12698421152284163966 tw12529434923316344163 tw12482376426020727173 tw11674877256981227439 tw11488908664701393947 tw11487904390475552187 tw113191096010472781 tw11231940074291356072 tw10786561013388629227 tw10621932375460553146 tw10472445819331455659 tw10424432027275781352 tw10329447813682399069 tw10033220717368324462 tw9414102375506619229 tw6024492079909679354 tw16463721305929935981 tw15276925957214685185 tw15737167647283997617 tw8806617409665660366 tw13527151650408015188 tw8135633464460990153 tw18310933048173263642 tw15330005356489217928 tw15172488864484537784 tw13538623915444084565 tw11202488459568444587 tw14104903252214259250 tw8540970902088413597 tw7560373921401709798 tw7234115397760024075 tw18241670776562027459 tw14138439899912856939 tw15722365930927076088 tw6867569270776304780 tw3699108189512361231 tw17902444266567730012 tw14442852261322054944 tw11866955290100322661 tw6238459325110390974 tw9165310552523128577 tw6756442326508934176 tw656055506900256263 tw5601336632504719434 tw5332202239216145011 tw5311953174810803200 tw4871731834667899585 tw4641959240650257065 tw3574100354561579840 tw18269781809575061692 tw17894209809134486491 tw1788536391397703107 tw15638062261392364664 tw15277879516510605660 tw14866731558262051797 tw14819216730678360255 tw14745279479021751318 tw13920596005102970419 tw11759203866099446024 tw1123712162112488121 tw6506774745411882534 tw4500985471535803214 tw3207182462924385187 tw15658632776275380509 tw14603499558903972743 tw12378563547490544963 tw1100413532638775387 tw8342107413913498799 tw3692029757832374195 tw2363305549099598801 tw13579456764599579695 tw13372310168573213143 tw11326241706039278622 tw11114038899250033817 tw10909737524935476504 tw9978231678581424019 tw7701400773787634397 tw6879777410575299765 tw6075184965334575954 tw5636659083186222650 tw5469432112005688902 tw3202666041678653215 tw2895061599823738626 tw2803690515196798410 tw2147337185964338429 tw18335731012486636805 tw16129426198219217433 tw15673970499042735264 tw15073421277106955784 tw14900992163747307299 tw14730507342942929218 tw14726676451318746657 tw14308295668671880836 tw12945756600733299471 tw12385284385580088763 tw11920141494612806941 tw1139658530554952706 tw11054456908543263179 tw1095279132742290243 tw10365303499427278847 tw10233410908008488798 tw10151589412075499699 tw6209896790281468978 tw12892177894961648714 tw7484563496582595238 tw7442271626299972122 tw2754666974546399686 tw17854063768760849328 tw17595501366569722102 tw14361297586797636064 tw1414214124369798756 tw13257917208753197098 tw12663035733601549424 tw9212844091183883506 tw8163125586028804891 tw5845798378962842733 tw4879636173174717257 tw4502218809280262130 tw16519726809889201445 tw11910035332750306777 tw11026950837659109489 tw98835996997522046 tw9582133229743562563 tw936787379289285895 tw9296759659286039336 tw9273826342830393207 tw9263007096712092120 tw9209423442240049656 tw9120181225153258692 tw9093263928118930481 tw9025576819129331327 tw8629765588599895832 tw8625582806205958570 tw8495128400880338632 tw8420107317965060532 tw8338939198522174612 tw8334694861081064162 tw8323856433092203415 tw8261702036685318019 tw8206992591178908115 tw8145634921286543065 tw8042756953324939418 tw8039279763323800413 tw7811954448374446226 tw7783236577756549794 tw7775295153007092536 tw7700511397058648741 tw7388854918480745928 tw724880494091279150 tw7245742083346572777 tw7203987857247826661 tw7024059417193337576 tw6795479095207791433 tw6696903961070486560 tw6561189030286189172 tw6454592143902765895 tw640844073221945207 tw6377948561980429524 tw6344865430406112714 tw6114935044568394782 tw6074838603121955512 tw6036723016353541579 tw595416863402027184 tw5945697217240137537 tw5889827652053046280 tw5775763228701104115 tw5760671800274804573 tw5756018522804865417 tw5545118834926131628 tw5460892862075104910 tw5448572045359308613 tw5255746166893341842 tw5190176447410607645 tw5041532644991522579 tw5035314592234062678 tw5013819735759477219 tw4923690695668065404 tw4809850777348081321 tw4792279908484209612 tw4775909624471670804 tw4667574651488116093 tw4607685737122905208 tw4571882383007649236 tw4430404262042452605 tw4264900330966536932 tw4264121709707326059 tw4251279493229512130 tw4170524137817493312 tw3966813385102175631 tw3856348057365135986 tw3743436216450053735 tw3721113482775499175 tw3686680913339100508 tw3535138581695203968 tw351505436958723598 tw3414625032138659739 tw3376986962407271093 tw336797807945912565 tw3310576394744668797 tw3307556318610856567 tw3051099771624954944 tw3033542339795599074 tw2852567188892205991 tw2792942275758730026 tw2766638715846729880 tw2560805376829709037 tw2522632372865813738 tw2378921606328674576 tw2353986498708472989 tw2304330432132776716 tw2221634223749812805 tw2178440741328116268 tw2177648684514913972 tw2090650671070728103 tw2026338059103717799 tw1937391301412161538 tw1916516058746892755 tw18347909711702262681 tw18139304039244411933 tw18113939836610057929 tw18060850006863130472 tw17957491887752000149 tw17881533005173307257 tw17879353720921654152 tw1784866771201230891 tw17769655000739043338 tw17633777613494616720 tw17522047406490842247 tw17418900524165219832 tw17160142164304190865 tw17128130797746100211 tw17120123315096948775 tw17016969934106030500 tw16936479529623487793 tw1691044941355361931 tw1675120336012959000 tw1652853879237304637 tw164852741565822527 tw16441145458538152221 tw16163599402758487466 tw16144137335231961454 tw159511846245261994 tw15836031369682654668 tw15691629980134220208 tw15688493041315806492 tw15535950374141605837 tw15459649965490321297 tw15441291517156704713 tw15398888288619894345 tw15209258747607721648 tw15204249851736608808 tw15150031765017884365 tw15095950889479929867 tw15044874323011880715 tw14645774709791914176 tw1459527824291718646 tw14585177587776773849 tw14503643135760106420 tw14470462986584251470 tw14354846670810539611 tw14349352951708980981 tw1424034969779583339 tw14129633972527541738 tw14087089325059975555 tw140186697258796040 tw13848194600226752469 tw13820937226439233132 tw13636635260094875628 tw1353583183222305678 tw13450827129005558434 tw1344374896693564150 tw13396334689395733864 tw13215209411828269499 tw12841069630261525683 tw12800382549860729327 tw12631022367755897786 tw12595136235221528409 tw1258677903751926900 tw1254043210324102317 tw12516385171879358607 tw12466601948114362499 tw12111614076715840775 tw11751022895830126557 tw11646465511942979592 tw11633647183374312015 tw11501308574913302986 tw11328650996281198397 tw11046319732173038380 tw11045328376725840996 tw11000848594613091099 tw1078518617649697290 tw10749056318621930130 tw10597225765119128451 tw10387032384559657185 tw10341507530219537005 tw10324664065482928315 tw10297621382407266061 tw10285722566787820734 tw10222975002106749876 tw10195796086923173439 tw10176966330489973251 tw10106450804977455688 tw8195592854529346047 tw5041412574494687083 tw3089595430660520268 tw1936140666301771059 tw1753647738055468152 tw17524783613686759179 tw15670999245291179097 tw14042449755180214507 tw1376403426186709637 tw12953882542627838661 tw12795531575877848071 tw996402378296106244 tw9930855025699043532 tw987036361485024916 tw9767825478625074571 tw9668318671134521948 tw9615421976506781966 tw9393041551076755716 tw9372135508060822294 tw925483586341414316 tw924611542537886758 tw9228503875902921862 tw9141474364371766726 tw9113392767723181135 tw9107042919860883985 tw9066746777248082436 tw8988469023000632487 tw8836099702636183766 tw8821536618967052485 tw8806108479541800246 tw863099961979314743 tw8509596134128420015 tw8456715117812576577 tw8455854994495520856 tw8454257290954292050 tw8397256742603301605 tw830966967870447657 tw8244119619724934467 tw802631530755970416 tw7985761044785623728 tw7966033554685338455 tw7653484455578319020 tw7577880233255263208 tw7555038767016467635 tw7550959953959917148 tw7534772358624057290 tw7451455722554028180 tw7389620743936941944 tw7314076346836540168 tw7187515581142602854 tw7119677294078908199 tw6944629964534749660 tw6530297667628382138 tw6347334851782434317 tw6087741624823851574 tw6080270482057153669 tw6070149168327434039 tw6005967192519457125 tw5917684312303236754 tw5894585799794184082 tw5853401393732362225 tw5572495776980494192 tw5525786561672978747 tw549743836596815199 tw5442200144582546591 tw5360935315891705768 tw5301726073902831393 tw5226023205573330422 tw511239194704673519 tw5059824992725529150 tw4993650181437865245 tw4897202037456019691 tw477057271587071857 tw4572090229901950016 tw4564085280487946608 tw4495037654884861018 tw4459584703293159729 tw4339700907177412767 tw4305332371991117091 tw3975644858074408556 tw3853808643138412357 tw3804010959541565914 tw3777084014926580157 tw3768863569734109194 tw3747786654063831583 tw3706864189823901749 tw3706823876267039532 tw3651299869225244154 tw3577870745963375155 tw3461865118260680751 tw3415357763323692021 tw3351162337401751805 tw3339585869031017596 tw3222824026043715787 tw3222207525492492951 tw3037698875859069995 tw2974824363536354294 tw2956273099614516541 tw278377814124727744 tw2655904099081893817 tw2588456292907678794 tw2455006920731848443 tw2254428648923896070 tw2229529024541203885 tw2101860999445791680 tw2078343694916141781 tw2039830863512849981 tw1940927967326815080 tw1892670107732027445 tw18394138690974472798 tw18390356123186509691 tw18245275507143350286 tw18229691851135151462 tw18139774495398448794 tw18097308992386294077 tw17816505496521442414 tw17720456461586983301 tw17645756816737347343 tw17638775329762579983 tw17619660501255295467 tw17614153830556621745 tw17533639308174782427 tw17362056565694899216 tw17336458837093937460 tw17312084187138296939 tw17294226161559261126 tw17139919981525665704 tw17104101041048129768 tw17087084358609463533 tw17069965946228509091 tw16937486467661435212 tw16884045007216099331 tw16855486426311472712 tw16799614607363519269 tw16784378167404396847 tw16747683797499727597 tw16601572784952450660 tw16567523895050128813 tw16399349802861292854 tw16310557398973034282 tw16310279315659846983 tw16108316517981634569 tw16079048223417009069 tw16078171676233782968 tw16013005892371608537 tw1582873198528144967 tw15729234819535222713 tw15657955068724896097 tw15621895526814444849 tw15602664453112294759 tw15601160482404145311 tw15571818390635669908 tw1548008774327207835 tw15434456305236293779 tw15372968991215306832 tw15294396547235382968 tw15240758364888571176 tw15111335344609371930 tw1499776519058212305 tw14959591631368690682 tw14870010280428611485 tw14828558206479694826 tw14631270661431539130 tw14509600293345370651 tw14475302215537771870 tw14469203552771025058 tw14461267259927755456 tw14445556044270586075 tw1428962037291385276 tw14228745443937490057 tw14155419545732318841 tw14124865762943325413 tw14088436681494889690 tw14076599427633938338 tw14030483616285126581 tw13868693259725913006 tw13700793857240700284 tw13565690281950432726 tw13342715600762762271 tw13267906462731562408 tw13254204223000629070 tw13222852965352463415 tw13044401006764972600 tw12965011541511699261 tw12936516320527966572 tw12921408524606689819 tw12752683027945663362 tw12698365333323456705 tw1268318472625470262 tw12683124969974314513 tw12676968284874379798 tw12398798346012613905 tw12254212416258262397 tw12027279870938658761 tw11956019199763519682 tw11901376845383976911 tw11778610781734409020 tw11750418287113255163 tw1171260401229096306 tw11657595239954196732 tw11457027476394148823 tw11448699823319514937 tw11389803330133218262 tw11388703297365260939 tw11331408805385117570 tw11235375109942300272 tw11097691409153463518 tw11009303400593375278 tw10739400028557564695 tw10726721574225763964 tw1068530500987458077 tw10650685245060571314 tw1064408103413832988 tw10585011006150282040 tw10579474466486380310 tw10464702561446515923 tw10399682966882513941 tw10344144094418685255 tw1025589120880130559 tw10233602190624791297 tw10217778253248437613 tw10175859826750728691 tw10152621879110820139 tw10099886305045950914 tw100131212113896171:True)
set_option maxRecDepth 100000 in
set_option maxHeartbeats 0 in
theorem PySem.Challenge.cw_facework_k06_programs_refused_holds : PySem.Challenge.rw_facework_k06_programs_refused.Holds := by
 w_on;o_law;k_head;(case hw=>w_witness2)
 k_fill
 refine Fw.walk (l:=PySem.Challenge.rw_facework_k06_programs_refused) rfl rfl (fun w h Y=>PySem.W.kIn_of Y) ?F
 case F=>
  intro w mg fa h KX G hmg
  refine' Fw.all_mk KX G hmg ?Y9 ?Za ?rM ?Zb ?Jw ?Pn ?Jx ?Zc ?Pq ?Zd ?Ze ?rN ?v1 ?v2 ?v3 ?v6 ?v4 ?v7 ?v8 ?v9 ?vd ?vi ?vg ?v5 ?fo ?fd ?qCN ?qCX ?qC1 ?qC2 ?qC3 ?qC4 ?qC5 ?qC6 ?qC7 ?qD1 ?qD2 ?qD3 ?qD4 ?qD5 ?xc ?xi ?kN ?kV ?kA ?kB ?d23 ?d24 ?d25 ?d26 ?d27 ?d28 ?d29 ?d30 ?d31 ?d32 ?d36 ?d37 ?d38 ?d39 ?d40 ?d45 ?d46 ?d47 ?d48 ?d49 ?d50 ?d51 ?d52 ?d53 ?d54 ?d55 ?d56 ?d57 ?d58 ?d59 ?d61 ?d62 ?d63 ?d64 ?d65 ?d66 ?d67 ?d68 ?d69 ?d70 ?d71 ?d72 ?d73 ?d74 ?d75 ?d76 ?d77 ?d79 ?d80 ?d81 ?d82 ?d84 ?d85 ?d86 ?d87 ?d88 ?d89 ?d90 ?d91 ?d92 ?d93 ?d94 ?d95 ?d96 ?d97 ?d98 ?d99 ?adY ?adZ ?ad0 ?ad1 ?ad2 ?ad3 ?ad4 ?ad5 ?ad6 ?ad7 ?ad8 ?ad9 ?ad' ?aea ?aeb ?aec ?aed ?aee ?aef ?aeg ?aeh
  (case Y9|Za|rM|Zb|Jw|Pn|Jx|Zc|Pq|Zd|Ze|rN|qCN|qCX|qC1|qC2|qC3|qC4|qC5|qC6|qC7|qD1|qD2|qD3|qD4|qD5=>k_is)
  (case v1|v2|v3|v6=>refine' Fw.abk ?a ?e;(case a=>k_is);(case e=>decide+kernel))
  (case v4|v7|v8|v9|vd|vi|vg=>refine' Fw.abl ?a ?e;(case a=>k_is);(case e=>decide+kernel))
  (case v5=>refine' Fw.abn ?a ?b ?c ?d ?e;(case a=>k_is);(case b=>k_is);(case c=>rfl);(case d=>decide+kernel);(case e=>decide+kernel))
  (case fo=>refine' Fw.Y6 ?a ?a0 ?a1 ?a2 ?a3 ?a4 ?a5 ?a6 ?dl ?ds ?dx ?dp;(case a=>k_is);(case a0=>k_is);(case a1=>k_is);(case a2=>k_is);(case a3=>k_is);(case a4=>k_is);(case a5=>k_is);(case a6=>k_is);(case dl=>k_is);(case ds=>decide+kernel);(case dx=>exact⟨rfl,rfl,rfl⟩);(case dp=>exact .cons ⟨rfl,⟨_,rfl⟩,rfl⟩ (.cons ⟨rfl,⟨_,rfl⟩,rfl⟩ (.cons ⟨rfl,⟨_,rfl⟩,rfl⟩ (.cons ⟨rfl,⟨_,rfl⟩,rfl⟩ (.cons ⟨rfl,⟨_,rfl⟩,rfl⟩ (.cons ⟨rfl,⟨_,rfl⟩,rfl⟩ (.cons ⟨rfl,⟨_,rfl⟩,rfl⟩ (.cons ⟨rfl,⟨_,rfl⟩,rfl⟩ (.cons ⟨rfl,⟨_,rfl⟩,rfl⟩ (.cons ⟨rfl,⟨_,rfl⟩,rfl⟩ (.cons ⟨rfl,⟨_,rfl⟩,rfl⟩ (.cons ⟨rfl,⟨_,rfl⟩,rfl⟩ .nil)))))))))))))
  (case fd=>refine' Fw.Y7 ?a ?a0 ?a1 ?a2 ?a3 ?a4 ?a5 ?dl ?ds ?dx ?dp;(case a=>k_is);(case a0=>k_is);(case a1=>k_is);(case a2=>k_is);(case a3=>k_is);(case a4=>k_is);(case a5=>k_is);(case dl=>k_is);(case ds=>decide+kernel);(case dx=>exact⟨rfl,rfl,rfl⟩);(case dp=>exact .cons ⟨rfl,⟨_,rfl⟩,rfl⟩ (.cons ⟨rfl,⟨_,rfl⟩,rfl⟩ (.cons ⟨rfl,⟨_,rfl⟩,rfl⟩ (.cons ⟨rfl,⟨_,rfl⟩,rfl⟩ (.cons ⟨rfl,⟨_,rfl⟩,rfl⟩ (.cons ⟨rfl,⟨_,rfl⟩,rfl⟩ .nil)))))))
  (case xc=>refine' Fw.adX ?xc0 ?xc1 ?xcb ?xc2 ?xc3 ?xc4 ?xc5 ?xcl;(case xc0=>k_is);(case xc1=>k_is);(case xcb=>k_is);(case xc2=>k_is);(case xc3=>k_is);(case xc4=>k_is);(case xc5=>k_is);(case xcl=>k_is))
  (case xi=>refine' Fw.Y8 ?l1 ?n1 ?n2 ?t1 ?l2 ?b1 ?b2;(case l1=>k_is);(case n1=>kernel_rfl);(case n2=>k_is);(case t1=>kernel_rfl);(case l2=>k_is);(case b1=>decide+kernel);(case b2=>decide+kernel))
  (case kN|kV|kA|kB=>kernel_rfl)
  (case d23|d24|d25|d26|d27|d28|d29|d30|d31|d32|d36|d37|d38|d39|d40|d45|d46|d47|d48|d49|d50|d51|d52|d53|d54|d55|d56|d57|d58|d59|d61|d62|d63|d64|d65|d66|d67|d68|d69|d70|d71|d72|d73|d74|d75|d76|d77|d79|d80|d81|d82|d84|d85|d86|d87|d88|d89|d90|d91|d92|d93|d94|d95|d96|d97|d98|d99|adY|adZ|ad0|ad1|ad2|ad3|ad4|ad5|ad6|ad7|ad8|ad9|ad'|aea|aeb|aec|aed|aee|aef|aeg|aeh=>refine' Fw.adW ?a ?l ?c ?k;(case a=>k_is);(case l=>k_is);(case c=>k_is);(case k=>k_is))
