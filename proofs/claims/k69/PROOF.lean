import PyProof.Rows.All
import Wide.All
import OpenK.AllK
import Wide.FinOn
import Lean
import PyProof.EqAt
import PyProof.EqKinds
import PyProof.TupleCall
import PyProof.StationsW
import OpenK.KOwn
import PyProof.ExcBaseAll.ValueError
import PyProof.NsDelKeeps
import PyProof.RulesAs
import KE.KLam
import KE.KNest
import KE.KIsAll
import PyProof.ExcArgs
import PyProof.CompUse
import KE.KRevIter
import PyProof.CollectWalk
import PyProof.TupleOfSeq
import KE.KDictList
import PyProof.FitsBits
import PyProof.TupleOfGen
import PyProof.Rows.CountFlat
import PyProof.FactsAll.list_3
import PyProof.FitsInt
import PyProof.ZipIter
import PyProof.EnumFor
import PyProof.Draws
import PySem.Challenge.RW_facework_k69_rows_that_are_stuck
set_option bootstrap.genMatcherCode false
set_option genSizeOf false
noncomputable section
open PySem.W(Frag nsIn keepIn kitOne findIn fnOf mroIn instObj hideAll takesIn specialIn codeIn makesIn plainGet kitAny lookIn hasDictIn)
set_option Elab.async false
set_option linter.all false
set_option maxRecDepth 100000
def abI:=@PySem.wpAny_bind
def afV:=@PySem.wpAny_pure
def afW:=@decide_eq_false
def afX:=@if_pos
def afY:=@if_neg
def afZ:=@of_decide_eq_true
def af0:=@decide_eq_true
def af2:=@Ne.symm
def af3:=@or_false
def af4:=@Option.some.injEq
def af5:=@Option.some.inj
def af6:=@PySem.boot_len
def af7:=@False.elim
def af8:=@PySem.wpAny_field
def af9:=@PySem.wpAny_holding
theorem aga {α}{l:List α}{i a}:l[i]?=some a->∃h:i<l.length,l[i]=a:=List.getElem?_eq_some_iff.mp
def adV:=@List.length_append
def adW:=@List.length_singleton
def adX:=@List.getElem?_eq_getElem
def adY:=@PySem.Heap.get?_push_of_some
def adZ:=@Nat.le_refl
def ad0:=@List.mem_cons_of_mem
def ad1:=@PySem.Heap.lt_size
def ad2:=@Nat.le_trans
def ad3:=@List.mem_cons_self
def ad4:=@Nat.lt_of_lt_of_le
def ad5:=@List.mem_append_right
def ad6:=@List.getElem?_append_left
def ad7:=@List.size_toArray
def ad8:=@List.append_assoc
def ad9:=@Nat.le_add_right
def ad':=@PySem.Heap.get?_push_size
def aea:=@Bool.false_ne_true
def aeb:=@List.length_map
def aec:=@List.mem_singleton
def aed:=@Nat.lt_irrefl
def aee:=@List.getElem?_map
def aef:=@List.getElem?_append_right
def aeg:=@PySem.F.excBase_ValueError
def aeh:=@List.length_take
def aei:=@List.map_cons
def aej:=@List.not_mem_nil
def aek:=@List.lookup_cons
def ael:=@Nat.add_assoc
def aem:=@List.dropLast_concat
def aen:=@Nat.ne_of_lt
def aeo:=@Nat.lt_of_lt_of_eq
def aep:=@List.append_nil
def aer:=@List.find?_cons
def aes:=@List.map_append
def aeu:=@List.mem_append
def aev:=@List.mem_cons
def aew:=@List.mem_append_left
def aex:=@PySem.W.kia_one
def aey:=@Nat.lt_succ_self
def aez:=@List.length_reverse
def aeA:=@PySem.F.plainAttrs_list
def aeB:=@List.length_cons
def aeC:=@List.drop_eq_getElem_cons
def aeD:=@Option.map_some
def aeE:=@Nat.le_add_left
def aeF:=@Nat.le_of_lt
def aeG:=@Nat.zero_le
def aeH:=@List.cons_append
def aeI:=@Nat.le_succ
def aeJ:=@List.mem_of_getElem?
def aeK:=@Nat.add_sub_cancel_left
def aeL:=@Int.toNat_natCast
def aeM:=@PySem.Heap.get?_update_other
def aeN:=@PySem.Heap.size_push
def aeO:=@PySem.Heap.get?_update_self
def aeP:=@Bool.false_eq_true
def aeQ:=@PySem.F.slot_list_index
def aeR:=@List.mem_map_of_mem
def aeS:=@Nat.le_max_right
def aeT:=@Nat.le_antisymm
def aeU:=@Nat.le_max_left
def aeV:=@List.reverse_cons
def aeW:=@List.take_add_one
def aeX:=@List.getElem?_set_ne
def aeY:=@List.reverse_reverse
def aeZ:=@List.nodup_nil
def ae0:=@Nat.le_of_eq
def ae1:=@Bool.and_eq_true
def ae2:=@List.take_length
def ae3:=@PySem.W.hideAll_get
def ae4:=@List.filterMap_cons
def ae5:=@PySem.W.of_hideAll
def ae6:=@PySem.W.callWith_K
def ae7:=@Nat.lt_of_le_of_lt
def ae8:=@Nat.not_lt_zero
def ae9:=@List.getElem?_set_self
def ae':=@Nat.le_of_succ_le_succ
def afa:=@Nat.le_succ_of_le
def afb:=@List.length_replicate
def afc:=@PySem.W.looks_findIn
def afd:=@List.length_drop
def afe:=@List.getElem_toArray
def afg:=@List.getElem_mem
def afh:=@List.any_cons
def afi:=@Bool.eq_iff_iff
def afj:=@List.length_set
def afk:=@List.append_cancel_left
def afl:=@PySem.F.type_list_index
def afm:=@PySem.W.cellsFrom_some
def afn:=@List.take_of_length_le
def afo:=@List.drop_eq_nil_of_le
def afp:=@List.take_append_drop
def afq:=@List.getElem?_eq_none
def afr:=@List.of_mem_zip
def afs:=@Nat.sub_self
def aft:=@List.nil_append
def afu:=@List.nodup_cons
def afv:=@Array.length_toList
def afw:=@PySem.W.plainGet_of
def afx:=@List.reverse_append
def afy:=@Bool.false_or
def afz:=@Bool.or_false
def afA:=@List.perm_append_singleton
def afB:=@List.getD_eq_getElem?_getD
def afC:=@Nat.lt_succ_of_lt
def afD:=@List.getLast?_eq_getElem?
def afE:=@List.getElem?_eq_none_iff
def afF:=@PySem.F.args_list_index_2
def afG:=@Nat.succ_le_succ
def afH:=@PySem.F.args_tuple_add_2
def afI:=@List.map_nil
def afJ:=@Nat.lt_trans
def afK:=@PySem.F.entry_list_index
def afL:=@List.getElem?_replicate
def afM:=@PySem.F.entry_tuple_add
def afN:=@Int.eq_ofNat_of_zero_le
def afO:=@PySem.F.slot_list_count
def afP:=@List.forIn_cons
def afQ:=@Nat.min_eq_left
def afR:=@List.foldl_cons
def afS:=@List.take_zero
def afT:=@List.foldl_nil
def afU:=@List.sum_cons
open PySem PySem.Spec PyProof.Rows
abbrev aj:=Addr
abbrev ak:=Value
abbrev ao:=Shared
abbrev aq:=Around
abbrev aA:=Program
abbrev aG:=World
abbrev aH:=Expr
abbrev aJ:=Stmt
abbrev aK:=Heap
abbrev aN:=Frag
abbrev aO(α:Type):=Option α
abbrev aP(α:Type):=List α
namespace L2
abbrev Key:=Sum Int Str
noncomputable def yu:Key->ak->Bool
 |.inl k,v=>Value.isInt k v
 |.inr x,v=>Value.isStrOf x v
noncomputable def aci (w:aG):Key->Int
 |.inl k=>hashInt k
 |.inr x=>hashStr w x
theorem gw:∀{k:Key} {v:ak},yu k v=true->(∃i t,k=Sum.inl i/\v=Value.int i t)\/(∃x t,k=Sum.inr x/\v=Value.str x t)
 |.inl i,v,h=>by
  obtain⟨t,e⟩:=Value.isInt_shape (k:=i) (v:=v) h;exact .inl ⟨i,t,rfl,e⟩
 |.inr x,v,h=>by
  obtain⟨t,e⟩:=Value.isStrOf_shape (x:=x) (v:=v) h;exact .inr ⟨x,t,rfl,e⟩
theorem JL (i:Int)(t:Tok):yu (.inl i) (.int i t)=true:=by simp[yu,Value.isInt]
theorem JM (x:Str)(t:Tok):yu (.inr x) (.str x t)=true:=by simp[yu,Value.isStrOf]
theorem Xr (a b:Int):decide ((Sum.inl a:Key)=Sum.inl b)=(a==b):=by
 by_cases e:a=b
 ·subst e;simp
 ·have h:¬(Sum.inl a:Key)=Sum.inl b:=λq=>e (Sum.inl.inj q)
  rw[afW h];exact(beq_eq_false_iff_ne.mpr e).symm
theorem Xu (a b:Str):decide ((Sum.inr a:Key)=Sum.inr b)=decide (a=b):=by
 by_cases e:a=b
 ·subst e;simp
 ·have h:¬(Sum.inr a:Key)=Sum.inr b:=λq=>e (Sum.inr.inj q)
  rw[afW h,afW e]
theorem Xv (a:Int)(b:Str):decide ((Sum.inl a:Key)=Sum.inr b)=false:=afW (λq=>nomatch q)
theorem Xw (a:Str)(b:Int):decide ((Sum.inr a:Key)=Sum.inl b)=false:=afW (λq=>nomatch q)
noncomputable def gZ (prog:aA)(w:aG):PySem.KeyKind prog w Key where
 is:=yu
 hash:=aci w
 inj:=λv a b ha hb=>by
  rcases gw ha with ⟨i,t,rfl,rfl⟩|⟨x,t,rfl,rfl⟩
  ·rcases gw hb with ⟨j,u,rfl,e⟩|⟨y,u,rfl,e⟩
   ·injection e with e1 _;rw[e1]
   ·exact nomatch e
  ·rcases gw hb with ⟨j,u,rfl,e⟩|⟨y,u,rfl,e⟩
   ·exact nomatch e
   ·injection e with e1 _;rw[e1]
 byValue:=λk v h=>by
  rcases gw h with ⟨i,t,rfl,rfl⟩|⟨x,t,rfl,rfl⟩<;>rfl
 pyHash:=λhv h=>by
  rcases gw hv with ⟨i,t,rfl,rfl⟩|⟨x,t,rfl,rfl⟩
  ·exact wpAny_pyHash_int h
  ·exact wpAny_pyHash_str h
 eqBool:=λhu hv h=>by
  rcases gw hu with ⟨i,t,rfl,rfl⟩|⟨x,t,rfl,rfl⟩
  ·rcases gw hv with ⟨j,u,rfl,rfl⟩|⟨y,u,rfl,rfl⟩
   ·rw[Xr]at h;exact wpAny_eqBool_int h
   ·rw[Xv]at h;exact SeqAt.EqAt.int_str i t y u _ _ _ _ h
  ·rcases gw hv with ⟨j,u,rfl,rfl⟩|⟨y,u,rfl,rfl⟩
   ·rw[Xw]at h;exact SeqAt.EqAt.str_int x t j u _ _ _ _ h
   ·rw[Xu]at h;exact wpAny_eqBool_str h
 «strs»:=λk x t v h=>by
  rcases gw h with ⟨i,u,rfl,e⟩|⟨y,u,rfl,e⟩
  ·exact nomatch e
  ·injection e with e1 _
   subst e1;cases v<;>rfl
theorem Cg (prog:aA)(w:aG)(i:Int)(t:Tok):(gZ prog w).is (.inl i) (.int i t)=true:=JL i t
theorem Ci (prog:aA)(w:aG)(x:Str)(t:Tok):(gZ prog w).is (.inr x) (.str x t)=true:=JM x t
inductive V where
 |non|bl (b:Bool)|int (i:Int)|str (x:Str)|JN (b:Array UInt8)|flt (b:UInt64)|ref (a:aj)|ty (n:String)
 deriving DecidableEq
def RelV:V->ak->Prop
 |.non,u=>u=Value.none
 |.bl b,u=>u=Value.bool b
 |.int i,u=>∃t,u=Value.int i t
 |.str x,u=>∃t,u=Value.str x t
 |.JN b,u=>∃t,u=Value.bytes b t
 |.flt b,u=>∃t,u=Value.float b t
 |.ref a,u=>u=Value.ref a
 |.ty n,u=>u=Value.type n
abbrev Vals:List V->List ak->Prop:=Paired RelV
theorem Vals.length {xs:aP V}{us:aP ak}(r:Vals xs us):xs.length=us.length:=Paired.length r
theorem Vals.get {xs:List V}{us:List ak}{i:Nat}{x:V}(h:Vals xs us)(e:xs[i]?=some x):∃u,us[i]?=some u/\RelV x u:=by
 induction h generalizing i with
 |nil=>simp at e
 |cons r _ ih=>cases i with
  |zero=>cases e;exact⟨_,rfl,r⟩
  |succ i=>exact(ih (i:=i) e:)
theorem Vals.set {x:V}{u:ak}(r:RelV x u){xs:List V}{us:List ak}(i:Nat)(h:Vals xs us):Vals (xs.set i x) (us.set i u):=by
 induction h generalizing i with
 |nil=>exact .nil
 |cons q t ih=>cases i with
  |zero=>exact .cons r t
  |succ i=>exact .cons q<|ih i
theorem Vals.append {xs ys:List V}{us ws:List ak}(h:Vals xs us)(s:Vals ys ws):Vals (xs++ys) (us++ws):=by
 induction h with
 |nil=>exact s
 |cons r _ ih=>exact .cons r ih
theorem Vals.take {xs:List V}{us:List ak}(n:Nat)(h:Vals xs us):Vals (xs.take n) (us.take n):=by
 induction h generalizing n with
 |nil=>cases n<;>exact .nil
 |cons r _ ih=>cases n with
  |zero=>exact .nil
  |succ n=>exact .cons r<|ih n
theorem Vals.drop {xs:List V}{us:List ak}(n:Nat)(h:Vals xs us):Vals (xs.drop n) (us.drop n):=by
 induction h generalizing n with
 |nil=>cases n<;>exact .nil
 |cons r t ih=>cases n with
  |zero=>exact .cons r t
  |succ n=>exact ih n
def nj:Option V->Option ak->Prop
 |some v,some u=>RelV v u
 |none,none=>True
 |_,_=>False
def KV {κ:Type}:List (κ×V)->List (κ×ak)->Prop:=Paired λ(p:κ×V) (q:κ×ak)=>p.1=q.1/\RelV p.2 q.2
noncomputable def kV:Key->V
 |.inl i=>.int i
 |.inr x=>.str x
inductive HO where
 |lst (xs:List V)
 |tup (xs:List V)
 |dK (cD:List (Key×V))|dT (cD:List (List Key×V))
 |set (S:Int->Bool) (n:Nat)
 |ins (C dx:aj) (fs:List (Str×V))
 |own (x:aj)
 |xd (fs:List (Str×V))
 |met (f x:aj)
 |rng (lo hi:Int)
 |FT (o:Obj) (u:HO)
 |Wg (ps:Array ak)
 |ext (φ:aK->Prop)
abbrev Hp:=aj->Option HO
noncomputable def upd (H:Hp)(a:aj)(o:HO):Hp:=λb=>if b=a then some o else H b
theorem bA {H:Hp}{a:aj}{o:HO}:upd H a o a=some o:=by unfold upd;rw[afX rfl]
theorem bR {H:Hp}{a b:aj}{o:HO}(h:b≠a):upd H a o b=H b:=by unfold upd;rw[afY h]
theorem nQ {H:Hp}{a:aj}{o u:HO}:upd (upd H a o) a u=upd H a u:=by
 funext b;unfold upd;split<;>rfl
theorem jg {H:Hp}{a b:aj}{o u:HO}(h:H a=some o)(h':H b=some u)(d:o≠u):a≠b:=by
 intro e;subst e;rw[h]at h';exact d<|af5 h'
theorem bU {H:Hp}{a b:aj}{o:HO}(h:H a=some o)(h':H b=none):a≠b:=by
 intro e;subst e;rw[h]at h';cases h'
section
variable (P:aA)(w:aG)
def fO (H:Hp)(h:aK)(a:aj):HO->Prop
 |.lst xs=>xs.length<=sizeLine/\∃(bh:List ak) (n:Nat),Vals xs bh/\h.get? a=some {cls:=.type "list",data:=.seq bh.toArray n}
 |.tup xs=>xs.length<=sizeLine/\∃bh:List ak,Vals xs bh/\IsTup h a bh.toArray
 |.dK cD=>cD.length<=sizeLine/\(a==sysModules)=false/\∃vs,KV cD vs/\h.DictOf (gZ P w) a vs
 |.dT cD=>cD.length<=sizeLine/\(a==sysModules)=false/\∃xs:List (List Key×aj×ak),
   Paired (λ(p:List Key×V) (q:List Key×aj×ak)=>p.1=q.1/\H q.2.1=some (.tup<|p.1.map kV)/\RelV p.2 q.2.2) cD xs/\
   ∃o es ep,h.get? a=some o/\o.ExactDict/\o.data=.dict es ep/\es.toList=xs.map (entryOfKey<|tupleKind (gZ P w))/\(xs.map (·.1)).Nodup
 |.set S n=>h.SetOf (intKind P w) a S n
 |.ins C dx fs=>H dx=some (.own a)/\fs.length<=1000/\dx≠a/\h.get? a=some (instObj C dx)/\
   ∃mA,h.Ns1 dx mA/\(∀f,nj (fs.lookup f)<|mA f)/\PySem.Within mA (fs.map (·.1))
 |.own _=>∃o,h.get? a=some o
 |.xd fs=>∃mA,h.Ns1 a mA/\∀f,nj (fs.lookup f) (mA f)
 |.rng lo hi=>∃t u v,h.get? a=some {cls:=.type "range",data:=.fields #[.int lo t, .int hi u, .int 1 v]}
 |.FT o u=>h.get? a=some o/\fO H h a u
 |.Wg ps=>h.get? a=some {cls:=.none,data:=.fields ps}
 |.met f x=>h.get? a=some (PySem.W.methodObj (.ref f)<|.ref x)
 |.ext φ=>φ h/\(∃o,h.get? a=some o)/\∀h1 h2:aK,φ h1->(∀o,h1.get? a=some o->h2.get? a=some o)->φ h2
def mK (H:Hp)(h:aK):Prop:=∀a o,H a=some o->fO P w H h a o
end
section
variable {P:aA}{w:aG}{H H':Hp}{h h':aK}{a:aj}{o:HO}
theorem fO.lt (x:fO P w H h a o):a<h.objs.size:=by
 cases o with
 |lst xs=>obtain⟨_,_,_,_,e⟩:=x;exact ad1 e
 |tup xs=>obtain⟨_,_,_,p⟩:=x;exact p.lt
 |dK cD=>obtain⟨_,_,_,_,o,_,_,e,_⟩:=x;exact ad1 e
 |dT cD=>obtain⟨_,_,_,_,o,_,_,e,_⟩:=x;exact ad1 e
 |set S n=>obtain⟨o,_,_,_,e,_⟩:=x;exact ad1 e
 |ins C dx fs=>obtain⟨_,_,_,e,_⟩:=x;exact ad1 e
 |own y=>obtain⟨_,e⟩:=x;exact ad1 e
 |xd fs=>obtain⟨_,⟨_,_,_,e,_⟩,_⟩:=x;exact ad1 e
 |rng lo hi=>obtain⟨_,_,_,e⟩:=x;exact ad1 e
 |FT ob u=>obtain⟨e,_⟩:=x;exact ad1 e
 |Wg ps=>exact ad1<|show h.get? a=some _ from x
 |met f y=>exact ad1<|show h.get? a=some _ from x
 |ext φ=>obtain⟨_,⟨_,e⟩,_⟩:=x;exact ad1 e
theorem Paired.aaB {α β:Type}{F G:α->β->Prop}{l₁:List α}{l₂:List β}(h:Paired F l₁ l₂)(f:∀a b,F a b->G a b):Paired G l₁ l₂:=by
 induction h with
 |nil=>exact .nil
 |cons r _ ih=>exact .cons (f _ _ r) ih
theorem fO.stay (x:fO P w H h a o)(k:∀b u,(b=a\/H b=some (.own a))->h.get? b=some u->h'.get? b=some u)
  (ho:∀b,H b=some (.own a)->H' b=some (.own a)) (ht:∀b xs,H b=some (.tup xs)->H' b=some (.tup xs)):fO P w H' h' a o:=by
 induction o with
 |lst xs=>obtain⟨z,bh,n,r,e⟩:=x;exact⟨z,bh,n,r,k _ _ (.inl rfl) e⟩
 |tup xs=>obtain⟨z,bh,r,ob,e,c⟩:=x;exact⟨z,bh,r,ob,k _ _ (.inl rfl) e,c⟩
 |dK cD=>obtain⟨z,y,vs,r,ob,es,ep,e,c⟩:=x;exact⟨z,y,vs,r,ob,es,ep,k _ _ (.inl rfl) e,c⟩
 |dT cD=>
  obtain⟨z,y,xs,r,ob,es,ep,e,c⟩:=x;exact⟨z,y,xs,Paired.aaB r λp q z=>⟨z.1,ht _ _ z.2.1,z.2.2⟩,ob,es,ep,k _ _ (.inl rfl) e,c⟩
 |set S n=>obtain⟨ob,es,ep,t,e,c⟩:=x;exact⟨ob,es,ep,t,k _ _ (.inl rfl) e,c⟩
 |ins C dx fs=>
  obtain⟨d,z,ne,e,mA,⟨od,es,ep,e2,c⟩,r⟩:=x;exact⟨ho _ d,z,ne,k _ _ (.inl rfl) e,mA,⟨od,es,ep,k _ _ (.inr d) e2,c⟩,r⟩
 |own y=>obtain⟨ob,e⟩:=x;exact⟨ob,k _ _ (.inl rfl) e⟩
 |xd fs=>obtain⟨mA,⟨od,es,ep,e,c⟩,r⟩:=x;exact⟨mA,⟨od,es,ep,k _ _ (.inl rfl) e,c⟩,r⟩
 |rng lo hi=>obtain⟨t,u,v,e⟩:=x;exact⟨t,u,v,k _ _ (.inl rfl) e⟩
 |FT ob u ih=>obtain⟨e,q⟩:=x;exact⟨k _ _ (.inl rfl) e,ih q⟩
 |Wg ps=>
  have e:h.get? a=some {cls:=.none,data:=.fields ps}:=x;show h'.get? a=some {cls:=.none,data:=.fields ps};exact k a _ (.inl rfl) e
 |met f y=>
  have e:h.get? a=some (PySem.W.methodObj (.ref f)<|.ref y):=x;show h'.get? a=some (PySem.W.methodObj (.ref f)<|.ref y);exact k a _ (.inl rfl) e
 |ext φ=>obtain⟨p,⟨o,e⟩,st⟩:=x;exact⟨st _ _ p λo q=>k _ _ (.inl rfl) q,⟨o,k _ _ (.inl rfl) e⟩,st⟩
theorem mK.lt (x:mK P w H h)(e:H a=some o):a<h.objs.size:=(x a o e).lt
theorem mK.fresh (x:mK P w H h)(e:h.objs.size<=a):H a=none:=by
 cases q:H a with
 |none=>rfl
 |some u=>exact absurd (ad4 (x.lt q) e)<|aed _
theorem mK.kept (x:mK P w H h)(k:∀b u,h.get? b=some u->h'.get? b=some u):mK P w H h':=λa o e=>
 (x a o e).stay (λb u _ q=>k b u q) (λ_ q=>q) λ_ _ q=>q
theorem mK.laid (x:mK P w H h)(k:∀b u,h.get? b=some u->h'.get? b=some u)(hp:h.objs.size<=a)(new:fO P w (upd H a o) h' a o):mK P w (upd H a o) h':=λb u e=>by
 have hn:=x.fresh hp;by_cases hb:b=a
 ·subst hb;rw[bA]at e;cases e;exact new
 ·rw[bR hb]at e
  exact(x b u e).stay (λc v _ q=>k c v q) (λc q=>by rw[bR (bU q hn)];exact q) λc xs q=>by rw[bR (bU q hn)];exact q
end
def Rd (H:Hp)(a:aj)(u:HO):Prop:=H a=some u\/∃o,H a=some (.FT o u)
theorem Rd.ok {P:aA}{w:aG}{H:Hp}{h:aK}{a:aj}{u:HO}(r:Rd H a u)(x:mK P w H h):fO P w H h a u:=by
 rcases r with r|⟨o,r⟩
 ·exact x a u r
 ·obtain⟨_,q⟩:=x a _ r
  exact q
def Mut:Option HO->Prop
 |some (.lst _)=>True
 |some (.dK _)=>True
 |some (.dT _)=>True
 |some (.set _ _)=>True
 |some (.ins _ _ _)=>True
 |some (.ext _)=>True
 |_=>False
section
variable {P:aA}{w:aG}{H:Hp}{h h':aK}{x e:aj}{o':HO}
theorem mK.write (ok:mK P w H h)(mu:Mut (H x))(he:e=x\/H e=some (.own x))(k:∀b u,b≠e->h.get? b=some u->h'.get? b=some u)(heo:∃u,h'.get? e=some u)
  (new:fO P w (upd H x o') h' x o'):mK P w (upd H x o') h':=λb u q=>by
 have FW:∀c y,H c=some (.own y)->c≠x:=λc y r z=>by subst z;rw[r]at mu;exact mu
 have acj:∀c xs,H c=some (.tup xs)->c≠x:=λc xs r z=>by subst z;rw[r]at mu;exact mu
 by_cases hb:b=x
 ·subst hb;rw[bA]at q;cases q;exact new
 ·rw[bR hb]at q
  by_cases hbe:b=e
  ·have q':H b=some (.own x):=by
    rcases he with z|z
    ·exact absurd (hbe.trans z) hb
    ·rw[hbe];exact z
   rw[q]at q';cases q';obtain⟨v,hv⟩:=heo;exact⟨v,by rw[hbe];exact hv⟩
  ·refine(ok b u q).stay (λc v hc r=>k c v ?_ r) (λc r=>by rw[bR (FW c b r)];exact r) λc xs r=>by rw[bR (acj c xs r)];exact r
   rcases hc with rfl|hc
   ·exact hbe
   ·rintro rfl
    rcases he with z|z
    ·exact FW c b hc z
    ·rw[hc]at z;cases z;exact hb rfl
end
structure Un (fs ex:List aj)(H H':Hp)(h h':aK):Prop where
 keep:∀b o,h.get? b=some o->H b=none->b∉fs->b∉ex->h'.get? b=some o
 slot:∀b o,h.get? b=some o->H b=none->b∈fs->b∉ex->∃sl,h'.get? b=some {o with slots:=sl}
 free:∀b o,h.get? b=some o->H b=none->b∉ex->H' b=none
 there:∀b o,h.get? b=some o->b∉ex->∃o',h'.get? b=some o'
 tups:∀b xs,H b=some (.tup xs)->H' b=some (.tup xs)
 rD:∀b o u,H b=some (.FT o u)->H' b=some (.FT o u)
 sW:∀b ps,H b=some (.Wg ps)->∃more,H' b=some (.Wg<|ps++more)
section
variable {fs fs' ex ex':List aj}{H H1 H2:Hp}{h h1 h2 h':aK}{a x e:aj}{o:HO}
theorem Un.any (u:Un fs ex H H1 h h1){b:aj}{ob:Obj}(q:h.get? b=some ob)(n:H b=none)(hx:b∉ex):∃sl,h1.get? b=some {ob with slots:=sl}:=by
 by_cases hb:b∈fs
 ·exact u.slot b ob q n hb hx
 ·exact⟨ob.slots,u.keep b ob q n hb hx⟩
theorem Un.kept (k:∀b u,h.get? b=some u->h'.get? b=some u):Un fs ex H H h h' :=
 ⟨λb ob q _ _ _=>k b ob q,λb ob q _ _ _=>⟨ob.slots,k b ob q⟩,λ_ _ _ n _=>n,λb ob q _=>⟨ob,k b ob q⟩,λ_ _ q=>q,λ_ _ _ q=>q,λ_ ps q=>⟨#[],by rw[q];simp⟩⟩
theorem Un.refl:Un fs ex H H h h:=Un.kept λ_ _ q=>q
theorem Un.laid (k:∀b u,h.get? b=some u->h'.get? b=some u)(hp:h.objs.size<=a)(hn:H a=none):Un fs ex H (upd H a o) h h' where
 keep:=λb u q _ _ _=>k b u q
 slot:=λb u q _ _ _=>⟨u.slots,k b u q⟩
 free:=λb u q n _=>by rw[bR (aen<|ad4 (ad1 q) hp)];exact n
 there:=λb u q _=>⟨u,k b u q⟩
 tups:=λb xs q=>by rw[bR (bU q hn)];exact q
 rD:=λb u xs q=>by rw[bR (bU q hn)];exact q
 sW:=λb ps q=>⟨#[],by rw[bR (bU q hn),q];simp⟩
theorem Un.write (mu:Mut (H x))(he:e=x\/H e=some (.own x))(k:∀b u,b≠e->h.get? b=some u->h'.get? b=some u)(heo:∃u,h'.get? e=some u):Un fs ex H (upd H x o) h h':=by
 have hx:∀b,H b=none->b≠x:=λb n z=>by subst z;rw[n]at mu;exact mu
 have hb:∀b,H b=none->b≠e:=λb n z=>by
  subst z;rcases he with r|r
  ·exact hx b n r
  ·rw[n]at r;cases r
 have hm:∀b u,H b=some u->¬Mut (some u)->b≠x:=λb u q nm z=>by subst z;rw[q]at mu;exact nm mu
 refine⟨λb u q n _ _=>k b u (hb b n) q,λb u q n _ _=>⟨u.slots,k b u (hb b n) q⟩,λb u q n _=>by rw[bR (hx b n)];exact n,λb u q _=>?_,
  λb xs q=>by rw[bR (hm b _ q λz=>z)];exact q,λb u xs q=>by rw[bR (hm b _ q λz=>z)];exact q,λb ps q=>⟨#[],by rw[bR (hm b _ q λz=>z),q];simp⟩⟩
 by_cases hbe:b=e
 ·subst hbe;exact heo
 ·exact⟨u,k b u hbe q⟩
end
noncomputable def trk (h:aK)(H:Hp):List aj:=(List.range h.objs.size).filter λa=>(H a).isSome
def zy (h:aK)(H:Hp):aK:=hideAll h (trk h H)
theorem JQ (h:aK)(H:Hp):(zy h H).objs.size=h.objs.size:=PySem.W.hideAll_size _ _
theorem MP {h:aK}{H:Hp}{b:aj}{o:Obj}(e:h.get? b=some o)(n:H b=none):(zy h H).get? b=some o :=
 ae3 _ e λhm=>by
  have q:(H b).isSome=true:=(List.mem_filter.mp hm).2;rw[n]at q;simp at q
theorem R4 {h:aK}{H:Hp}{b:aj}{o:Obj}(e:(zy h H).get? b=some o):h.get? b=some o/\H b=none:=by
 have e':h.get? b=some o:=ae5 (trk h H) e;refine⟨e',?_⟩;cases q:H b with
 |none=>rfl
 |some x=>
  have hm:b∈trk h H:=List.mem_filter.mpr ⟨List.mem_range.mpr<|ad1 e',by simp[q]⟩;have z:(zy h H).get? b=none:=PySem.W.hideAll_none (trk h H) hm;rw[z]at e;cases e
noncomputable def R5 (g h:aK)(L:aj):List (aj×Obj):=(List.range h.objs.size).filterMap λa=>if a=L\/(g.get? a).isSome=true then none else(h.get? a).map λo=>(a,o)
noncomputable def rest (g h:aK)(L d:aj):List (aj×Obj):=(R5 g h L).filter λp=>decide (p.1≠d)
structure Mod (K:aN)(mg:Str->Option ak)(aV:aK):Prop where
 JR:K.In aV
 glob:aV.Ns mainGlobals mg
 blt:∃mb,aV.Ns builtinsNs mb/\∀x:Str,x≠"__name__"->mb x=bootBuiltins x
 nolimit:aV.NoLimit
structure Cx where
 prog:aA
 w:aG
 K:aN
 mg:Str->Option ak
 base:aK
 A:aq
 N:List Str
 s₀:ao
 H₀:Hp
 env:Env
 outer:List Env
 stack:List Env
 ex:List aj
 fn:Str->Bool
 calm:Bool
 pn:List (aj×Obj)
 xe:ak->ao->Prop
noncomputable def frs (l:List Env):List aj:=l.filterMap (·.frame)
abbrev Cx.fs (X:Cx):List aj:=frs X.outer
def Vis (sc:Scope)(x:Str):Prop:=sc.names.lookup x=some .local\/sc.names.lookup x=some .cell\/sc.names.lookup x=some .free
def Loc (sc:Scope)(x:Str):Prop:=sc.names.lookup x=some .local\/sc.names.lookup x=some .cell
def Look (env:Env)(h:aK)(m:Str->Option ak)(x:Str)(u:ak):Prop :=
 (env.kindOf x=some .local/\m x=some u)\/((env.kindOf x=some .cell\/env.kindOf x=some .free)/\∃c,env.cells.lookup x=some c/\h.IsCell c (some u))
structure Cx.Ok (X:Cx):Prop where
 mod:Mod X.K X.mg X.base
 kind:X.env.scope.kind=.function
 glob:X.env.globals=mainGlobals
 blt:X.env.builtins=builtinsNs
 above:X.s₀.heap.objs.size<=X.env.locals
 inj:∀x y c,X.env.cells.lookup x=some c->X.env.cells.lookup y=some c->x=y
 has:∀x,(X.env.kindOf x=some .cell\/X.env.kindOf x=some .free)->∃c,X.env.cells.lookup x=some c
 cab:∀x c,X.fn x=true->X.env.cells.lookup x=some c->X.s₀.heap.objs.size<=c
 hd:X.calm=true->X.A.handled=none
 frames:X.A.frames=some X.stack
 stk:X.stack=X.outer\/(X.stack=X.env::X.outer/\X.env.frame=some X.env.locals)
 R6:∀b∈X.ex,b≠X.env.locals/\∀x c,X.env.cells.lookup x=some c->c≠b
 bs:∀b o,X.base.get? b=some o->X.s₀.heap.get? b=some o/\X.H₀ b=none
 BL:X.base.objs.size<=X.s₀.heap.objs.size
 uD:∀b o,X.base.get? b=some o->b∉X.ex
 vq:∀b∈X.ex,b∉X.fs
 mO:X.s₀.heap.FunFrames X.base X.outer
 Fq:∀b∈X.fs,X.H₀ b=none
structure Inv (X:Cx)(bG:List (aj×Obj))(U:List (Option V))(H:Hp)(s:ao):Prop where
 ok:X.Ok
 os:s.os=X.s₀.os
 bare:AllBare s.gens
 base:Un X.fs X.ex X.H₀ H X.s₀.heap s.heap
 loc:∃m,s.heap.Ns X.env.locals m/\∀(i:Nat) (x:Str) (v:V),X.N[i]?=some x->U[i]?=some (some v)->Vis X.env.scope x->∃u,RelV v u/\Look X.env s.heap m x u
 cell:∀x c,X.env.cells.lookup x=some c->∃v,s.heap.IsCell c v
 free:H X.env.locals=none
 jh:∀x c,X.env.cells.lookup x=some c->H c=none
 pin:∀p∈X.pn++bG,s.heap.get? p.1=some p.2/\H p.1=none/\p.1≠X.env.locals/\p.1∉X.fs/\∀v,p.2.data≠.cell v
 hok:mK X.prog X.w H s.heap
 len:U.length=X.N.length
section
variable {X:Cx}{bG:List (aj×Obj)}{U:List (Option V)}{H H':Hp}{s:ao}{h':aK}
theorem Cx.Ok.M5 (ok:X.Ok){b:aj}{o:Obj}(e:X.base.get? b=some o):b∉X.fs:=λhb=>by
 have:=(ok.mO.mem hb).1;rw[e]at this;cases this
theorem Inv.bs (I:Inv X bG U H s):∀b o,X.base.get? b=some o->s.heap.get? b=some o/\H b=none:=λb o e=>
 ⟨I.base.keep b o (I.ok.bs b o e).1 (I.ok.bs b o e).2 (I.ok.M5 e)<|I.ok.uD b o e,I.base.free b o (I.ok.bs b o e).1 (I.ok.bs b o e).2<|I.ok.uD b o e⟩
theorem Inv.bk (I:Inv X bG U H s):∀b o,X.base.get? b=some o->s.heap.get? b=some o:=λb o e=>(I.bs b o e).1
theorem Inv.mod (I:Inv X bG U H s):Mod X.K X.mg X.base:=I.ok.mod
theorem Inv.qt (I:Inv X bG U H s):X.K.In s.heap:=I.ok.mod.JR.keeps I.bk
theorem Inv.lt (I:Inv X bG U H s):X.env.locals<s.heap.objs.size:=let ⟨_,hn,_⟩:=I.loc;hn.lt
theorem Inv.sz (I:Inv X bG U H s):X.s₀.heap.objs.size<=s.heap.objs.size:=ad2 I.ok.above (aeF I.lt)
theorem Inv.R7 (I:Inv X bG U H s){a:aj}(h:s.heap.objs.size<=a):a∉X.fs:=λhb=>by
 obtain⟨_,o,ho,_⟩:=I.ok.mO.mem hb;exact absurd (ad4 (ad1 ho)<|ad2 I.sz h)<|aed _
theorem Inv.R8 (I:Inv X bG U H s):∀x c,X.env.cells.lookup x=some c->c≠X.env.locals:=λx c e z=>by
 obtain⟨v,o,ho,hd⟩:=I.cell x c e;obtain⟨m,⟨o',es,ep,ho',hd',_⟩,_⟩:=I.loc;rw[z,ho']at ho;cases ho;rw[hd']at hd;cases hd
theorem Inv.mO (I:Inv X bG U H s):s.heap.FunFrames X.base X.outer:=by
 have all:∀(l:List Env),(∀b∈frs l,b∈X.fs)->X.s₀.heap.FunFrames X.base l->s.heap.FunFrames X.base l:=by
  intro l
  induction l with
  |nil=>intro _ _;trivial
  |cons env r ih=>
   intro hs hl;obtain⟨hk,⟨L,o,hf,hn,ho,hd⟩,hr⟩:=hl;have hL:L∈X.fs:=hs L (by unfold frs;rw[ae4,hf];exact ad3);obtain⟨sl,e⟩:=I.base.slot L o ho (I.ok.Fq L hL) hL λz=>I.ok.vq L z hL;exact⟨hk,⟨L,_,hf,hn,e,hd⟩,ih (λb hb=>hs b<|by unfold frs;rw[ae4,hf];exact ad0 _ hb) hr⟩
 exact all X.outer (λ_ hb=>hb) I.ok.mO
theorem Inv.stack (I:Inv X bG U H s):s.heap.FunFrames X.base X.stack:=by
 rcases I.ok.stk with e|⟨e,hf⟩
 ·rw[e];exact I.mO
 ·rw[e]
  obtain⟨m,hn,_⟩:=I.loc;refine .cons (by rw[I.ok.kind];decide) hf hn ?_ I.mO;exact Heap.get?_none_of_le<|ad2 I.ok.BL I.ok.above
theorem Inv.jC (I:Inv X bG U H s):∀b∈frs X.stack,b∈X.env.locals::X.fs:=λb hb=>by
 rcases I.ok.stk with e|⟨e,hf⟩
 ·rw[e]at hb;exact ad0 _ hb
 ·rw[e]at hb
  unfold frs at hb;rw[ae4,hf]at hb;exact hb
theorem Inv.nR (I:Inv X bG U H s):∀b∈frs X.stack,H b=none:=λb hb=>by
 rcases aev.mp (I.jC b hb) with e|hb
 ·rw[e];exact I.free
 ·obtain⟨_,o,ho,_⟩:=I.ok.mO.mem hb
  exact I.base.free b o ho (I.ok.Fq b hb) λz=>I.ok.vq b z hb
theorem Inv.step {g':Array GenState}{t':Nat}{d':Drawn}{ch:aP aj}(I:Inv X bG U H s)
  (hch:∀b∈ch,(b∈X.ex\/X.s₀.heap.objs.size<=b)/\b≠X.env.locals/\(∀x c,X.env.cells.lookup x=some c->c≠b)/\∀p∈X.pn++bG,p.1≠b)
  (keep:∀b o,b≠X.env.locals->b∉X.fs->b∉ch->s.heap.get? b=some o->H b=none->h'.get? b=some o)
  (slot:∀b o,b≠X.env.locals->b∈X.fs->b∉ch->s.heap.get? b=some o->H b=none->∃sl,h'.get? b=some {o with slots:=sl}) (free:∀b o,b∉ch->s.heap.get? b=some o->H b=none->H' b=none)
  (there:∀b o,b∉ch->s.heap.get? b=some o->∃o',h'.get? b=some o')
  (tups:∀b xs,H b=some (.tup xs)->H' b=some (.tup xs)) (rD:∀b o u,H b=some (.FT o u)->H' b=some (.FT o u)) (sW:∀b ps,H b=some (.Wg ps)->∃more,H' b=some (.Wg<|ps++more))
  (ns:∀m,s.heap.Ns X.env.locals m->h'.Ns X.env.locals m) (hok:mK X.prog X.w H' h') (hg:AllBare g'):
  Inv X bG U H' {s with heap:=h',gens:=g',drawn:=d',toks:=t'}:=by
 have neL:∀b o,X.s₀.heap.get? b=some o->b≠X.env.locals:=λb o e=>aen (ad4 (ad1 e) I.ok.above);have neC:∀b o,X.s₀.heap.get? b=some o->b∉X.ex->b∉ch:=λb o e hx hb=>by
  rcases(hch b hb).1 with z|z
  ·exact hx z
  ·exact absurd (ad4 (ad1 e) z)<|aed _
 have cellK:∀x c,X.env.cells.lookup x=some c->∀v,s.heap.IsCell c v->h'.IsCell c v:=λx c e v ⟨o,ho,hd⟩=>by
  have nch:c∉ch:=λz=>(hch c z).2.2.1 x c e rfl;by_cases hc:c∈X.fs
  ·obtain⟨sl,q⟩:=slot c o (I.R8 x c e) hc nch ho (I.jh x c e)
   exact⟨_,q,hd⟩
  ·exact⟨o,keep c o (I.R8 x c e) hc nch ho<|I.jh x c e,hd⟩
 refine⟨I.ok,I.os,hg,⟨λb o e n hb hx=>?_,λb o e n hb hx=>?_,λb o e n hx=>?_,λb o e hx=>?_,λb xs e=>tups b xs<|I.base.tups b xs e,λb o xs e=>rD b o xs<|I.base.rD b o xs e,λb ps e=>?_⟩,?_,λx c e=>?_,?_,λx c e=>?_,λp hp=>?_,hok,I.len⟩
 ·exact keep b o (neL b o e) hb (neC b o e hx) (I.base.keep b o e n hb hx)<|I.base.free b o e n hx
 ·obtain⟨sl,e1⟩:=I.base.slot b o e n hb hx
  obtain⟨sl',e2⟩:=slot b _ (neL b o e) hb (neC b o e hx) e1 (I.base.free b o e n hx);exact⟨sl',e2⟩
 ·obtain⟨o',e1⟩:=I.base.there b o e hx
  exact free b o' (neC b o e hx) e1<|I.base.free b o e n hx
 ·obtain⟨o',e1⟩:=I.base.there b o e hx
  exact there b o' (neC b o e hx) e1
 ·obtain⟨m1,e1⟩:=I.base.sW b ps e
  obtain⟨m2,e2⟩:=sW b _ e1;exact⟨m1++m2,by rw[e2,Array.append_assoc]⟩
 ·obtain⟨m,hn,hl⟩:=I.loc
  refine⟨m,ns m hn,λi x v e1 e2 e3=>?_⟩;obtain⟨u,r,l⟩:=hl i x v e1 e2 e3;refine⟨u,r,?_⟩;rcases l with l|⟨k,c,e,z⟩
  ·exact .inl l
  ·exact .inr ⟨k,c,e,cellK x c e _ z⟩
 ·obtain⟨v,z⟩:=I.cell x c e
  exact⟨v,cellK x c e v z⟩
 ·obtain⟨m,⟨o,_,_,ho,_⟩,_⟩:=I.loc
  exact free _ o (λz=>(hch _ z).2.1 rfl) ho I.free
 ·obtain⟨v,o,ho,hd⟩:=I.cell x c e
  exact free c o (λz=>(hch c z).2.2.1 x c e rfl) ho<|I.jh x c e
 ·obtain⟨e,n,ne,nf,d⟩:=I.pin p hp
  have nch:p.1∉ch:=λz=>(hch p.1 z).2.2.2 p hp rfl;exact⟨keep p.1 p.2 ne nf nch e n,free p.1 p.2 nch e n,ne,nf,d⟩
theorem Inv.un {t':Nat}(I:Inv X bG U H s)(u:Un X.fs [] H H' s.heap h')(hok:mK X.prog X.w H' h'):Inv X bG U H' {s with heap:=h',toks:=t'}:=by
 obtain⟨m,⟨o,es,ep,ho,r⟩,_⟩:=id I.loc;obtain⟨sl,hL⟩:=u.any ho I.free (by simp);exact I.step (g':=s.gens) (d':=s.drawn) (ch:=[]) (λ_ z=>nomatch z) (λb o _ hb _ e n=>u.keep b o e n hb<|by simp) (λb o _ hb _ e n=>u.slot b o e n hb<|by simp) (λb o _ e n=>u.free b o e n<|by simp) (λb o _ e=>u.there b o e<|by simp) u.tups u.rD u.sW (λm' hm=>by
  obtain⟨o',es',ep',ho',r'⟩:=hm;rw[ho]at ho';cases ho';exact⟨_,es',ep',hL,r'⟩) hok I.bare
theorem Inv.call {g':Array GenState}{t':Nat}{d':Drawn}{ch:aP aj}(I:Inv X bG U H s)(u:Un (frs X.stack) ch H H' s.heap h')(hok:mK X.prog X.w H' h')(hg:AllBare g')
  (hch:∀b∈ch,(b∈X.ex\/X.s₀.heap.objs.size<=b)/\b≠X.env.locals/\(∀x c,X.env.cells.lookup x=some c->c≠b)/\∀p∈X.pn++bG,p.1≠b):
  Inv X bG U H' {s with heap:=h',gens:=g',drawn:=d',toks:=t'}:=by
 obtain⟨m,⟨o,es,ep,ho,r⟩,_⟩:=id I.loc;obtain⟨sl,hL⟩:=u.any ho I.free λz=>(hch _ z).2.1 rfl;exact I.step (ch:=ch) hch (λb o hL hb hc e n=>u.keep b o e n (λz=>(aev.mp<|I.jC b z).elim hL hb) hc) (λb o _ _ hc e n=>u.any e n hc) (λb o hc e n=>u.free b o e n hc) (λb o hc e=>u.there b o e hc) u.tups u.rD u.sW (λm' hm=>by
  obtain⟨o',es',ep',ho',r'⟩:=hm;rw[ho]at ho';cases ho';exact⟨_,es',ep',hL,r'⟩) hok hg
theorem Inv.turned {t':Nat}{it:aj}(I:Inv X bG U H s)(k:∀b o,b≠it->s.heap.get? b=some o->h'.get? b=some o)(hn:H it=none)(hL:it≠X.env.locals)
  (h1:it∈X.ex\/X.s₀.heap.objs.size<=it) (h2:∀x c,X.env.cells.lookup x=some c->c≠it) (h3:∀p∈X.pn++bG,p.1≠it):Inv X bG U H {s with heap:=h',toks:=t'}:=by
 have nit:∀b u,H b=some u->b≠it:=λb u e z=>by rw[z,hn]at e;cases e
 refine I.step (g':=s.gens) (d':=s.drawn) (ch:=[it]) (λb hb=>?_) (λb o _ _ hc e _=>k b o (λz=>hc<|by simp[z]) e) (λb o _ _ hc e _=>⟨o.slots,k b o (λz=>hc<|by simp[z]) e⟩) (λ_ _ _ _ n=>n)
  (λb o hc e=>⟨o,k b o (λz=>hc<|by simp[z]) e⟩) (λ_ _ e=>e) (λ_ _ _ e=>e) (λb ps e=>⟨#[],by rw[e];simp⟩) (λm hm=>?_) (λb u e=>?_) I.bare
 ·have e:b=it:=by simpa using hb
  subst e;exact⟨h1,hL,h2,h3⟩
 ·obtain⟨o,es,ep,ho,r⟩:=hm
  exact⟨o,es,ep,k _ o (af2 hL) ho,r⟩
 ·refine(I.hok b u e).stay (λc v hc q=>k c v ?_ q) (λ_ q=>q) λ_ _ q=>q
  rcases hc with z|z
  ·rw[z];exact nit b u e
  ·exact nit c _ z
theorem Inv.tok (I:Inv X bG U H s)(t:Nat):Inv X bG U H {s with toks:=t}:=I.un (h':=s.heap) (t':=t) Un.refl I.hok
theorem Inv.kept {t':Nat}(I:Inv X bG U H s)(k:∀b u,s.heap.get? b=some u->h'.get? b=some u):Inv X bG U H {s with heap:=h',toks:=t'}:=I.un (Un.kept k) (I.hok.kept k)
theorem Inv.laid {a:aj}{o:HO}{t':Nat}(I:Inv X bG U H s)(k:∀b u,s.heap.get? b=some u->h'.get? b=some u)(hp:s.heap.objs.size<=a)(new:fO X.prog X.w (upd H a o) h' a o):
  Inv X bG U (upd H a o) {s with heap:=h',toks:=t'}:=I.un (Un.laid k hp<|I.hok.fresh hp) (I.hok.laid k hp new)
theorem Inv.write {x e:aj}{o:HO}{t':Nat}(I:Inv X bG U H s)(mu:Mut (H x))(he:e=x\/H e=some (.own x))(k:∀b u,b≠e->s.heap.get? b=some u->h'.get? b=some u)(heo:∃u,h'.get? e=some u)
  (new:fO X.prog X.w (upd H x o) h' x o):Inv X bG U (upd H x o) {s with heap:=h',toks:=t'}:=I.un (Un.write mu he k heo) (I.hok.write mu he k heo new)
theorem Inv.uM {Wh:aP (aj×Obj)}(I:Inv X bG U H s)(h:∀p∈Wh,s.heap.get? p.1=some p.2/\H p.1=none/\p.1≠X.env.locals/\p.1∉X.fs/\∀v,p.2.data≠.cell v):Inv X Wh U H s :=
 ⟨I.ok,I.os,I.bare,I.base,I.loc,I.cell,I.free,I.jh,λp hp=>(aeu.mp hp).elim (λz=>I.pin p<|aew _ z)<|h p,I.hok,I.len⟩
theorem Cj {N:aP Str}(hN:N.Nodup){i j:Nat}{x:Str}(a:N[i]?=some x)(b:N[j]?=some x):i=j:=by
 obtain⟨h1,e1⟩:=aga a;obtain⟨h2,e2⟩:=aga b;exact(List.getElem_inj hN).mp<|e1.trans e2.symm
theorem JT {M:Model}{A:aq}{E:ak->ao->Prop}{i:Nat}{x:Str}{v:V}{u:ak}{Q:Unit->ao->Prop}(I:Inv X bG U H s)(hN:X.N.Nodup)(hi:X.N[i]?=some x)(hx:Loc X.env.scope x)(r:RelV v u)
  (h:∀s',Inv X bG (U.set i<|some v) H s'->(∃a,Heap.SameBut a s.heap s'.heap/\(a=X.env.locals\/X.env.cells.lookup x=some a))->Q () s') (hf:X.fn x=true\/X.env.scope.names.lookup x=some .local:=by first|exact .inl rfl|exact .inr rfl|assumption):wpAny M A (storeName X.env x u) Q E s:=by
 obtain⟨m,hn,hl⟩:=id I.loc;have hcls:(X.env.scope.kind==.class||(X.env.scope.kind==.module&&X.env.locals !=X.env.globals))=false:=by rw[I.ok.kind];rfl
 have aaC:i<U.length:=by rw[I.len];exact(aga hi).1
 have R8:=I.R8;have tracked:∀{a:aj} {h':aK},(∃o,s.heap.get? a=some o/\H a=none)->Heap.SameBut a s.heap h'->mK X.prog X.w H h':=λ{a h'} ha hs b ob e=>by
  obtain⟨_,_,hfree⟩:=ha;refine(I.hok b ob e).stay (λc w' hc q=>(hs.2 c ?_).trans q) (λ_ q=>q) λ_ _ q=>q;rintro rfl;rcases hc with rfl|hc
  ·rw[hfree]at e;cases e
  ·rw[hfree]at hc;cases hc
 rcases hx with hk|hk
 ·refine wpAny_storeName_local hk hn (λh' hn' hs=>?_) hcls
  obtain⟨oL,_,_,hoL,_⟩:=id hn;refine h _ ⟨I.ok,I.os,I.bare,⟨λb o e n hb hx=>?_,λb o e n hb hx=>?_,I.base.free,λb o e hx=>?_,I.base.tups,I.base.rD,I.base.sW⟩,⟨_,hn',λj y v' e1 e2 e3=>?_⟩,λy c e=>?_,I.free,I.jh,λp hp=>?_,tracked ⟨oL,hoL,I.free⟩ hs,by simpa using I.len⟩ ⟨_,hs, .inl rfl⟩
  ·exact(hs.2 b<|aen (ad4 (ad1 e) I.ok.above)).trans<|I.base.keep b o e n hb hx
  ·obtain⟨sl,e1⟩:=I.base.slot b o e n hb hx
   exact⟨sl,(hs.2 b<|aen (ad4 (ad1 e) I.ok.above)).trans e1⟩
  ·obtain⟨o',e1⟩:=I.base.there b o e hx
   exact⟨o',(hs.2 b<|aen (ad4 (ad1 e) I.ok.above)).trans e1⟩
  ·by_cases hj:j=i
   ·subst hj
    rw[hi]at e1;cases e1;rw[ae9 aaC]at e2;cases e2;exact⟨u,r, .inl ⟨hk,by simp⟩⟩
   ·rw[aeX (af2 hj)]at e2
    obtain⟨u',r',q⟩:=hl j y v' e1 e2 e3;refine⟨u',r',?_⟩;rcases q with ⟨k,e⟩|⟨k,c,e,z⟩
    ·refine .inl ⟨k,?_⟩
     have:y≠x:=λe=>hj (Cj hN e1<|e ▸ hi);simp[this,e]
    ·exact .inr ⟨k,c,e,z.sameBut hs<|R8 y c e⟩
  ·obtain⟨w',z⟩:=I.cell y c e
   exact⟨w',z.sameBut hs<|R8 y c e⟩
  ·obtain⟨e,n,ne,nf,d⟩:=I.pin p hp
   exact⟨(hs.2 p.1 ne).trans e,n,ne,nf,d⟩
 ·have hfn:X.fn x=true:=by
   rcases hf with z|z
   ·exact z
   ·rw[z]at hk;cases hk
  obtain⟨c,hc⟩:=I.ok.has x (.inl hk);obtain⟨w',z⟩:=I.cell x c hc;refine wpAny_storeName_cell I.ok.kind hk hc z λh' hc' hs=>?_;obtain⟨oc,hoc,acn⟩:=id z;refine h {s with heap:=h'} ⟨I.ok,I.os,I.bare,⟨λb o e n hb hx=>?_,λb o e n hb hx=>?_,I.base.free,λb o e hx=>?_,I.base.tups,I.base.rD,I.base.sW⟩,⟨m,hn.sameBut hs<|af2 (R8 x c hc),λj y v' e1 e2 e3=>?_⟩,λy c' e=>?_,I.free,I.jh,λp hp=>?_,tracked ⟨oc,hoc,I.jh x c hc⟩ hs,by simpa using I.len⟩ ⟨c,hs, .inr hc⟩
  ·exact(hs.2 b<|aen (ad4 (ad1 e)<|I.ok.cab x c hfn hc)).trans<|I.base.keep b o e n hb hx
  ·obtain⟨sl,e1⟩:=I.base.slot b o e n hb hx
   exact⟨sl,(hs.2 b<|aen (ad4 (ad1 e)<|I.ok.cab x c hfn hc)).trans e1⟩
  ·obtain⟨o',e1⟩:=I.base.there b o e hx
   exact⟨o',(hs.2 b<|aen (ad4 (ad1 e)<|I.ok.cab x c hfn hc)).trans e1⟩
  ·by_cases hj:j=i
   ·subst hj
    rw[hi]at e1;cases e1;rw[ae9 aaC]at e2;cases e2;exact⟨u,r, .inr ⟨.inl hk,c,hc,hc'⟩⟩
   ·rw[aeX (af2 hj)]at e2
    obtain⟨u',r',q⟩:=hl j y v' e1 e2 e3;refine⟨u',r',?_⟩;rcases q with q|⟨k,c',e,z'⟩
    ·exact .inl q
    ·refine .inr ⟨k,c',e,z'.sameBut hs ?_⟩
     rintro rfl;exact hj<|Cj hN e1 (I.ok.inj _ _ _ e hc ▸ hi)
  ·by_cases hcc:c'=c
   ·subst hcc;exact⟨_,hc'⟩
   ·obtain⟨w2,z2⟩:=I.cell y c' e
    exact⟨w2,z2.sameBut hs hcc⟩
  ·obtain⟨e,n,ne,nf,d⟩:=I.pin p hp
   refine⟨(hs.2 p.1 ?_).trans e,n,ne,nf,d⟩;intro q;rw[q,hoc]at e;have q':oc=p.2:=af5 e;exact d w' (by rw[<-q'];exact acn)
theorem vA {M:Model}{A:aq}{E:ak->ao->Prop}{i:Nat}{x:Str}{v:V}{u:ak}{Q:Unit->ao->Prop}(I:Inv X bG U H s)(hN:X.N.Nodup)(hi:X.N[i]?=some x)(hx:Loc X.env.scope x)(r:RelV v u)
  (h:∀s',Inv X bG (U.set i<|some v) H s'->Q () s') (hf:X.fn x=true\/X.env.scope.names.lookup x=some .local:=by first|exact .inl rfl|exact .inr rfl|assumption):wpAny M A (storeName X.env x u) Q E s :=
 JT I hN hi hx r (λs' I' _=>h s' I') hf
theorem Inv.call' {s':ao}{ch:aP aj}(I:Inv X bG U H s)(ho:s'.os=s.os)(u:Un (frs X.stack) ch H H' s.heap s'.heap)(hok:mK X.prog X.w H' s'.heap)(hg:AllBare s'.gens)
  (hch:∀b∈ch,(b∈X.ex\/X.s₀.heap.objs.size<=b)/\b≠X.env.locals/\(∀x c,X.env.cells.lookup x=some c->c≠b)/\∀p∈X.pn++bG,p.1≠b):Inv X bG U H' s':=by
 obtain⟨h',g',d',t',o'⟩:=s';have e:o'=s.os:=ho;subst e;exact I.call (g':=g') (t':=t') (d':=d') u hok hg hch
end
abbrev XK:=ak->Option aj->Hp->Prop
abbrev St:=List (Option V)
abbrev VK:=V->Hp->Prop
abbrev TE:=St->Hp->VK->Prop
abbrev TT:=St->Hp->(Bool->Hp->Prop)->Prop
abbrev TA:=St->Hp->(List V->Hp->Prop)->Prop
structure Ends where
 nx:St->Hp->Prop
 rt:VK
 bk:St->Hp->Prop:=λ_ _=>False
 ct:St->Hp->Prop:=λ_ _=>False
abbrev TS:=Ends->St->Hp->Prop
def Ends.of (Q:VK):Ends:={nx:=λ_ H'=>Q .non H',rt:=Q}
def Ends.lp (D:Ends)(n:St->Hp->Prop):Ends:={D with nx:=n,ct:=n,bk:=D.nx}
def EP (X:Cx)(bG:List (aj×Obj))(U:St)(Q:VK)(u:ak)(s':ao):Prop:=∃v H',Inv X bG U H' s'/\RelV v u/\Q v H'
def TP (X:Cx)(bG:List (aj×Obj))(U:St)(Q:Bool->Hp->Prop)(b:Bool)(s':ao):Prop:=∃H',Inv X bG U H' s'/\Q b H'
def AP (X:Cx)(bG:List (aj×Obj))(U:St)(Q:List V->Hp->Prop)(us:List ak)(s':ao):Prop:=∃vs H',Inv X bG U H' s'/\Vals vs us/\Q vs H'
def SP (X:Cx)(bG:List (aj×Obj))(D:Ends)(f:Flow)(s':ao):Prop :=
 match f with
 |.next=>∃U' H',Inv X bG U' H' s'/\D.nx U' H'
 |.brk=>∃U' H',Inv X bG U' H' s'/\D.bk U' H'
 |.cont=>∃U' H',Inv X bG U' H' s'/\D.ct U' H'
 |.ret u=>∃v U' H',Inv X bG U' H' s'/\RelV v u/\D.rt v H'
def PE (X:Cx)(e:aH)(t:TE):Prop :=
 ∀(bG:List (aj×Obj)) (s:ao) (U:St) (H:Hp) (Q:VK),Inv X bG U H s->t U H Q->wpAny (model X.prog X.w) X.A (eval e X.env) (EP X bG U Q) X.xe s
def PT (X:Cx)(e:aH)(t:TT):Prop :=
 ∀(bG:List (aj×Obj)) (s:ao) (U:St) (H:Hp) (Q:Bool->Hp->Prop),Inv X bG U H s->t U H Q->wpAny (model X.prog X.w) X.A (isTrue e X.env<|eval e X.env) (TP X bG U Q) X.xe s
def PW (X:Cx)(e:aH)(t:TT):Prop :=
 ∀(whole:Sem ak) (bG:List (aj×Obj)) (s:ao) (U:St) (H:Hp) (Q:Bool->Hp->Prop),Inv X bG U H s->t U H Q->wpAny (model X.prog X.w) X.A (isTrue e X.env whole) (TP X bG U Q) X.xe s
theorem PW.pt {X:Cx}{e:aH}{t:TT}(h:PW X e t):PT X e t:=h _
def PA (X:Cx)(es:List aH)(t:TA):Prop :=
 ∀(pos:Pos) (bG:List (aj×Obj)) (s:ao) (U:St) (H:Hp) (Q:List V->Hp->Prop),Inv X bG U H s->t U H Q->wpAny (model X.prog X.w) X.A (spliced<|backTo pos (starEach es X.env)) (AP X bG U Q) X.xe s
def PS (X:Cx)(st:aJ)(t:TS):Prop :=
 ∀(bG:List (aj×Obj)) (s:ao) (U:St) (H:Hp) (D:Ends),Inv X bG U H s->t D U H->wpAny (model X.prog X.w) X.A (exec st X.env) (SP X bG D) X.xe s
def xU (X:Cx)(st:List aJ)(t:TS):Prop :=
 ∀(bG:List (aj×Obj)) (s:ao) (U:St) (H:Hp) (D:Ends),Inv X bG U H s->t D U H->wpAny (model X.prog X.w) X.A (execs st X.env) (SP X bG D) X.xe s
theorem gk {α:Type}{t:Sem α}{Q Q':α->ao->Prop}{M:Model}{A:aq}{E:ak->ao->Prop}{s:ao}(h:wpAny M A t Q E s)(hQ:∀a s,Q a s->Q' a s):wpAny M A t Q' E s:=wpAny_mono h hQ λ_ _ x=>x
section
variable {X:Cx}
inductive Wj (i:Nat)(U:St)(H:Hp)(Q:VK):Prop where
 |mk (v):(U[i]?=some (some v))->(Q v H)->Wj i U H Q
def jr (i:Nat):TE:=Wj i
def tC (v:V):TE:=λ_ H Q=>Q v H
theorem Xx {i:Nat}{x:Str}{pos:Pos}(hN:X.N[i]?=some x)(hv:Vis X.env.scope x)(hd:(x==("__debug__":Str))=false:=by decide)(xV:(x==("__classdict__":Str))=false:=by decide):PE X (.Name x pos) (jr i):=by
 intro bG s U H Q I h;obtain⟨v,e,h⟩:=h;obtain⟨m,hn,hl⟩:=I.loc;obtain⟨u,r,l⟩:=hl i x v hN e hv;have fin:EP X bG U Q u s:=⟨v,H,I,r,h⟩;rcases l with ⟨hk,hm⟩|⟨hk,c,hc,hcell⟩
 ·exact wpAny_Name (wpAny_loadName_local I.ok.kind hk hn hm fin) hd
 ·rcases hk with hk|hk
  ·exact wpAny_Name (wpAny_loadName_cell I.ok.kind hk hc hcell fin) hd
  ·exact wpAny_Name (wpAny_loadName_free I.ok.kind hk hc hcell fin xV) hd
theorem bK {i j pos}:PE X (.Constant (.int i) j pos) (tC<|.int i):=λ_ _ _ H _ I h=>wpAny_Constant_int ⟨.int i,H,I.tok _,⟨_,rfl⟩,h⟩
theorem HB {b j pos}:PE X (.Constant (.bool b) j pos) (tC<|.bl b):=λ_ _ _ H _ I h=>Constant_bool ⟨.bl b,H,I,rfl,h⟩
theorem vB {j pos}:PE X (.Constant .none j pos) (tC .non):=λ_ _ _ H _ I h=>Constant_none ⟨.non,H,I,rfl,h⟩
theorem bV {x j pos}:PE X (.Constant (.str x) j pos) (tC<|.str x):=λ_ _ _ H _ I h=>Calls.Constant_str ⟨.str x,H,I.tok _,⟨_,rfl⟩,h⟩
def Gl (X:Cx)(x:Str):Prop:=X.env.kindOf x=some .globalImplicit
theorem lZ {E:ak->ao->Prop}{bG:aP (aj×Obj)}{s:ao}{U:St}{H:Hp}{x:Str}{u:ak}{pos:Pos}{Q:ak->ao->Prop}(I:Inv X bG U H s)(hg:Gl X x)(hm:X.mg x=some u)(h:Q u s)
  (hd:(x==("__debug__":Str))=false:=by decide):wpAny (model X.prog X.w) X.A (eval (.Name x pos) X.env) Q E s :=
 Calls.Name_function_global I.ok.kind hg (Calls.loadGlobal_global (by rw[I.ok.glob];exact I.mod.glob.keeps I.bk) hm h) hd
theorem qN {E:ak->ao->Prop}{bG:aP (aj×Obj)}{s:ao}{U:St}{H:Hp}{x:Str}{u:ak}{pos:Pos}{Q:ak->ao->Prop}(I:Inv X bG U H s)(hg:Gl X x)(hm:X.mg x=none)(hv:bootBuiltins x=some u)(h:Q u s)
  (hn:x≠"__name__":=by decide) (hd:(x==("__debug__":Str))=false:=by decide):wpAny (model X.prog X.w) X.A (eval (.Name x pos) X.env) Q E s:=by
 obtain⟨mb,h1,h2⟩:=I.mod.blt;exact Calls.Name_function_global I.ok.kind hg (Calls.loadGlobal_builtin (by rw[I.ok.glob];exact I.mod.glob.keeps I.bk) hm (by rw[I.ok.blt];exact h1.keeps I.bk) ((h2 x hn).trans hv) h) hd
theorem jo {x:Str}{v:V}{u:ak}{pos:Pos}(hg:Gl X x)(hm:X.mg x=some u)(r:RelV v u)(hd:(x==("__debug__":Str))=false:=by decide):PE X (.Name x pos) (tC v) :=
 λ_ _ _ H _ I h=>lZ I hg hm ⟨v,H,I,r,h⟩ hd
theorem iU {x:Str}{v:V}{u:ak}{pos:Pos}(hg:Gl X x)(hm:X.mg x=none)(hv:bootBuiltins x=some u)(r:RelV v u)(hn:x≠"__name__":=by decide)(hd:(x==("__debug__":Str))=false:=by decide):PE X (.Name x pos) (tC v) :=
 λ_ _ _ H _ I h=>qN I hg hm hv ⟨v,H,I,r,h⟩ hn hd
variable {a b:aH}{ta tb:TE}{pos:Pos}
def PC (X:Cx)(op:CmpOp)(a b:aH)(t:TE):Prop :=
 ∀(bG:List (aj×Obj)) (s:ao) (U:St) (H:Hp) (Q:VK),Inv X bG U H s->t U H Q->
  wpAny (model X.prog X.w) X.A (eval a X.env) (λv eE=>wpAny (model X.prog X.w) X.A (eval b X.env) (λu s₂=>wpAny (model X.prog X.w) X.A (compareOp op v u) (EP X bG U Q) X.xe s₂) X.xe eE) X.xe s
def aaD (ta:TE):TE:=λU H Q=>ta U H λx H1=>Q (.bl (!decide (x=.non))) H1
theorem RelV.M6 {x:V}{v:ak}(r:RelV x v):(v==Value.none)=decide (x=.non):=by
 cases x with
 |non=>cases r;rfl
 |bl _=>cases r;rfl
 |int _=>obtain⟨t,rfl⟩:=r;rfl
 |str _=>obtain⟨t,rfl⟩:=r;rfl
 |JN _=>obtain⟨t,rfl⟩:=r;rfl
 |flt _=>obtain⟨t,rfl⟩:=r;rfl
 |ref _=>cases r;rfl
 |ty _=>cases r;rfl
theorem R9 {j nU}(ha:PE X a ta):PC X .IsNot a (.Constant .none j nU) (aaD ta):=by
 intro bG s U H Q I h;refine gk (ha bG s U H _ I h) λv s1 ⟨x,H1,I1,r1,q1⟩=>?_;exact Constant_none (isnot_none_gen ⟨.bl _,H1,I1,by rw[r1.M6];rfl,q1⟩)
def tB (t:TE):TT:=λU H Q=>t U H λx H1=>∃c,x=.bl c/\Q c H1
theorem Xy {op:CmpOp}{t:TE}(h:PC X op a b t)(h1:behindInMarks op b=false):PT X (.Compare a [op] [b] pos) (tB t):=by
 intro bG s U H Q I hw;refine wpAny_isTrue_Compare1 (gk (h bG s U H _ I hw) λv s1 h1=>gk h1 λu s2 h2=>gk h2 λc s3 ⟨x,H1,I1,r1,q1⟩=>?_) h1;obtain⟨d,rfl,q⟩:=q1;cases r1;exact wpAny_truthy_bool ⟨H1,I1,q⟩
theorem jD {e:aH}{t:TE}(h:PE X e t)(he:∀whole,isTrue e X.env whole=(do let v <-whole;standAt e.pos;holding [v] (truthy v)):=by intro _;rfl):PT X e (tB t):=by
 intro bG s U H Q I hw;refine isTrue_plain (gk (h bG s U H _ I hw) λv s1 ⟨x,H1,I1,r1,q1⟩=>?_)<|he _;obtain⟨d,rfl,q⟩:=q1;cases r1;exact wpAny_truthy_bool ⟨H1,I1,q⟩
variable {tA tB':TT}{rest:List aH}
def aco (t u:TT):TT:=λU H Q=>t U H λc H1=>if c=true then u U H1 Q else Q false H1
def tOr (t u:TT):TT:=λU H Q=>t U H λc H1=>if c=true then Q true H1 else u U H1 Q
def acp (t:TT):TT:=λU H Q=>t U H λc H1=>Q (!c) H1
theorem HD (ha:PT X a tA):PW X (.BoolOp .And [a] pos) tA:=by
 intro wh bG s U H Q I h;refine isTrue_and<|gk (ha bG s U H Q I h) λc s1 e=>?_;cases c with
 |true=>exact isTrue_and_nil e
 |false=>exact e
theorem vC (ha:PT X a tA):PW X (.BoolOp .Or [a] pos) tA:=by
 intro wh bG s U H Q I h;refine isTrue_or<|gk (ha bG s U H Q I h) λc s1 e=>?_;cases c with
 |false=>exact isTrue_or_nil e
 |true=>exact e
theorem FZ (ha:PT X a tA)(hb:PW X (.BoolOp .And (b::rest) pos) tB'):PW X (.BoolOp .And (a::b::rest) pos) (aco tA tB'):=by
 intro wh bG s U H Q I h;refine isTrue_and<|gk (ha bG s U H _ I h) λc s1 ⟨H1,I1,q1⟩=>?_;cases c with
 |true=>exact hb wh bG s1 U H1 Q I1 q1
 |false=>exact⟨H1,I1,q1⟩
theorem Ck (ha:PT X a tA)(hb:PW X (.BoolOp .Or (b::rest) pos) tB'):PW X (.BoolOp .Or (a::b::rest) pos) (tOr tA tB'):=by
 intro wh bG s U H Q I h;refine isTrue_or<|gk (ha bG s U H _ I h) λc s1 ⟨H1,I1,q1⟩=>?_;cases c with
 |true=>exact⟨H1,I1,q1⟩
 |false=>exact hb wh bG s1 U H1 Q I1 q1
theorem jO (ha:PT X a tA):PT X (.UnaryOp .Not a pos) (acp tA):=by
 intro bG s U H Q I h;exact isTrue_not<|ha bG s U H (λc H1=>Q (!c) H1) I h
def aaE (ta tb:TE):TE:=λU H Q=>ta U H λx H1=>∃c,x=.bl c/\if c=true then tb U H1 Q else Q (.bl false) H1
def aaF (ta:TE):TE:=λU H Q=>ta U H λx H1=>∃c,x=.bl c/\Q (.bl (!c)) H1
theorem M8 {op}{t:TE}(h:PE X a t):PE X (.BoolOp op [a] pos) t:=λbG s U H Q I hw=>BoolOp_one (h bG s U H Q I hw)
theorem M9 (ha:PE X a ta)(hb:PE X (.BoolOp .And (b::rest) pos) tb):PE X (.BoolOp .And (a::b::rest) pos) (aaE ta tb):=by
 intro bG s U H Q I h;refine BoolOp_and<|gk (ha bG s U H _ I h) λv s1 ⟨x,H1,I1,r1,q1⟩=>?_;obtain⟨c,rfl,q1⟩:=q1;cases r1;refine wpAny_truthy_bool ?_;cases c with
 |true=>exact hb bG s1 U H1 Q I1 q1
 |false=>exact⟨.bl false,H1,I1,rfl,q1⟩
theorem Xz (ha:PE X a ta):PE X (.UnaryOp .Not a pos) (aaF ta):=by
 intro bG s U H Q I h;refine UnaryOp_<|gk (ha bG s U H _ I h) λv s1 ⟨x,H1,I1,r1,q1⟩=>?_;obtain⟨c,rfl,q1⟩:=q1;cases r1;exact not_of<|wpAny_truthy_bool ⟨.bl (!c),H1,I1,rfl,q1⟩
def tIf (t:TT)(ta tb:TE):TE:=λU H Q=>t U H λc H1=>if c=true then ta U H1 Q else tb U H1 Q
theorem Nb {c:aH}(hc:PT X c tA)(ha:PE X a ta)(hb:PE X b tb):PE X (.IfExp c a b pos) (tIf tA ta tb):=by
 intro bG s U H Q I h;refine wpAny_IfExp<|gk (hc bG s U H _ I h) λd s1 ⟨H1,I1,q1⟩=>?_;cases d with
 |true=>exact ha bG s1 U H1 Q I1 q1
 |false=>exact hb bG s1 U H1 Q I1 q1
end
def dM (K:aN)(H:Hp)(a:aj)(xs:List V):Prop :=
 Rd H a (.lst xs)\/
  ∃(o:Obj) (bh:Array ak) (n:Nat),K.lookup a=some o/\o.cls=.type "list"/\o.dict=none/\o.data=.seq bh n/\bh.size<=sizeLine/\Vals xs bh.toList
def iW (K:aN)(H:Hp)(a:aj)(xs:List V):Prop :=
 Rd H a (.tup xs)\/
  ∃(o:Obj) (bh:Array ak) (n:Nat),K.lookup a=some o/\o.cls=.type "tuple"/\o.data=.seq bh n/\bh.size<=sizeLine/\Vals xs bh.toList
noncomputable def acq:ak->Option V
 |.none=>some .non
 |.bool b=>some (.bl b)
 |.int i _=>some (.int i)
 |.str x _=>some (.str x)
 |.bytes b _=>some (.JN b)
 |.float b _=>some (.flt b)
 |.ref a=>some (.ref a)
 |.type n=>some (.ty n)
 |_=>none
theorem RelV.abs {x:V}{u:ak}(r:RelV x u):acq u=some x:=by
 cases x with
 |non=>cases r;rfl
 |bl _=>cases r;rfl
 |int _=>obtain⟨t,rfl⟩:=r;rfl
 |str _=>obtain⟨t,rfl⟩:=r;rfl
 |JN _=>obtain⟨t,rfl⟩:=r;rfl
 |flt _=>obtain⟨t,rfl⟩:=r;rfl
 |ref _=>cases r;rfl
 |ty _=>cases r;rfl
theorem RelV.inj {x y:V}{u:ak}(r:RelV x u)(q:RelV y u):x=y:=af5 (r.abs.symm.trans q.abs)
theorem Vals.inj {xs ys:List V}{us:List ak}(h:Vals xs us)(k:Vals ys us):xs=ys:=by
 induction h generalizing ys with
 |nil=>cases k;rfl
 |cons r _ ih=>cases k with
  |cons q t=>rw[r.inj q,ih t]
section
variable {X:Cx}{bG:List (aj×Obj)}{U:St}{H:Hp}{s:ao}{a:aj}{xs ys:List V}
theorem dM.of {K:aN}(h:H a=some (.lst xs)):dM K H a xs:=.inl (.inl h)
theorem iW.of {K:aN}(h:H a=some (.tup xs)):iW K H a xs:=.inl (.inl h)
theorem Inv.list (I:Inv X bG U H s)(h:dM X.K H a xs):∃bh:aP ak,Vals xs bh/\PlainL s.heap a bh.toArray/\xs.length<=sizeLine:=by
 rcases h with h|⟨o,bh,n,hk,hc,hd,hs,hz,r⟩
 ·obtain⟨z,bh,n,r,e⟩:=h.ok I.hok
  exact⟨bh,r,⟨_,n,e,rfl,rfl,rfl⟩,z⟩
 ·refine⟨bh.toList,r,⟨o,n,I.qt a o hk,hc,hd,by simpa using hs⟩,?_⟩
  have e:=r.length;simp only[afv]at e;omega
theorem Inv.tuple (I:Inv X bG U H s)(h:iW X.K H a xs):∃bh:aP ak,Vals xs bh/\IsTup s.heap a bh.toArray/\xs.length<=sizeLine:=by
 rcases h with h|⟨o,bh,n,hk,hc,hs,hz,r⟩
 ·obtain⟨z,bh,r,p⟩:=h.ok I.hok
  exact⟨bh,r,p,z⟩
 ·refine⟨bh.toList,r,⟨o,I.qt a o hk,hc,n,by simpa using hs⟩,?_⟩
  have e:=r.length;simp only[afv]at e;omega
theorem Inv.Nf (I:Inv X bG U H s)(h:dM X.K H a xs)(h':dM X.K H a ys):xs=ys:=by
 obtain⟨bh,r,⟨o,n,e,_,_,d⟩,_⟩:=I.list h;obtain⟨its',r',⟨o',n',e',_,_,d'⟩,_⟩:=I.list h';rw[e]at e';cases e';rw[d]at d';injection d' with d1 _;have:bh=its':=by simpa using congrArg Array.toList d1
 subst this;exact r.inj r'
theorem Inv.JV (I:Inv X bG U H s)(h:iW X.K H a xs)(h':iW X.K H a ys):xs=ys:=by
 obtain⟨bh,r,⟨o,e,_,n,d⟩,_⟩:=I.tuple h;obtain⟨its',r',⟨o',e',_,n',d'⟩,_⟩:=I.tuple h';rw[e]at e';cases e';rw[d]at d';injection d' with d1 _;have:bh=its':=by simpa using congrArg Array.toList d1
 subst this;exact r.inj r'
end
abbrev Cx.wish (X:Cx)(E:ak->ao->Prop):Cx:={X with xe:=E}
abbrev Cx.JW (X:Cx):Cx:=X.wish λ_ _=>False
theorem Cx.Ok.wish {X:Cx}(ok:X.Ok)(E:ak->ao->Prop):(X.wish E).Ok :=
 ⟨ok.mod,ok.kind,ok.glob,ok.blt,ok.above,ok.inj,ok.has,ok.cab,ok.hd,ok.frames,ok.stk,ok.R6,ok.bs,ok.BL,ok.uD,ok.vq,ok.mO,ok.Fq⟩
theorem Cx.Ok.oW {X:Cx}{E:ak->ao->Prop}(ok:(X.wish E).Ok):X.Ok :=
 ⟨ok.mod,ok.kind,ok.glob,ok.blt,ok.above,ok.inj,ok.has,ok.cab,ok.hd,ok.frames,ok.stk,ok.R6,ok.bs,ok.BL,ok.uD,ok.vq,ok.mO,ok.Fq⟩
section
variable {X:Cx}{bG:List (aj×Obj)}{U:St}{H:Hp}{s:ao}{E:ak->ao->Prop}
theorem Inv.wish (I:Inv X bG U H s)(E:ak->ao->Prop):Inv (X.wish E) bG U H s:=⟨I.ok.wish E,I.os,I.bare,I.base,I.loc,I.cell,I.free,I.jh,I.pin,I.hok,I.len⟩
theorem Inv.oW (I:Inv (X.wish E) bG U H s):Inv X bG U H s:=⟨I.ok.oW,I.os,I.bare,I.base,I.loc,I.cell,I.free,I.jh,I.pin,I.hok,I.len⟩
theorem SP.oW {D:Ends}{f:Flow}{s':ao}(h:SP (X.wish E) bG D f s'):SP X bG D f s':=by
 cases f with
 |next=>obtain⟨U',H',I,q⟩:=h;exact⟨U',H',I.oW,q⟩
 |brk=>obtain⟨U',H',I,q⟩:=h;exact⟨U',H',I.oW,q⟩
 |cont=>obtain⟨U',H',I,q⟩:=h;exact⟨U',H',I.oW,q⟩
 |ret u=>obtain⟨v,U',H',I,r,q⟩:=h;exact⟨v,U',H',I.oW,r,q⟩
theorem xU.JW {st:aP aJ}{t:TS}(h:xU X.JW st t):xU X st t:=λbG s U H D I hw=>
 wpAny_mono (h bG s U H D (I.wish _) hw) (λ_ _ q=>q.oW) λ_ _ z=>af7 z
end
section
variable {X:Cx}{st:aJ}{rest:List aJ}{t u:TS}{e:aH}{te:TE}{pos:Pos}
def fH:TS:=λD U H=>D.nx U H
def Ends.to (D:Ends)(n:St->Hp->Prop):Ends:={D with nx:=n}
def iY (t u:TS):TS:=λD U H=>t (D.to<|u D) U H
theorem cN:xU X [] fH:=λ_ _ U H _ I h=>wpAny_execs_nil ⟨U,H,I,h⟩
theorem bJ (h1:PS X st t)(h2:xU X rest u):xU X (st::rest) (iY t u):=by
 intro bG s U H D I h;refine wpAny_execs_cons<|gk (h1 bG s U H {D with nx:=u D} I h) λf s1 q=>?_;cases f with
 |next=>
  obtain⟨U',H',I',q⟩:=q;exact h2 bG s1 U' H' D I' q
 |ret v=>exact q
 |brk=>exact q
 |cont=>exact q
theorem bO (h1:PS X st t):xU X [st] t:=by
 intro bG s U H D I h;refine wpAny_execs_cons<|gk (h1 bG s U H D I h) λf s1 q=>?_;cases f with
 |next=>exact wpAny_execs_nil q
 |ret v=>exact q
 |brk=>exact q
 |cont=>exact q
theorem Inv.quiet {bG:aP (aj×Obj)}{U:St}{H:Hp}{s:ao}(I:Inv X bG U H s):interactive X.env=false:=by simp[interactive,I.ok.kind]
def Wk (te:TE):TS:=λD U H=>te U H λ_ H1=>D.nx U H1
theorem cg (he:PE X e te)(hs:swapsWith e none pos.line X.env=pure false:=by rfl):PS X (.Expr e pos) (Wk te):=by
 intro bG s U H D I h;exact wpAny_Expr_any (gk (he bG s U H _ I h) λv s1 ⟨x,H1,I1,r1,q1⟩=>⟨U,H1,I1,q1⟩) I.quiet hs
def XD (te:TE):TS:=λD U H=>te U H D.rt
theorem cQ (he:PE X e te):PS X (.Return (some e) pos) (XD te):=by
 intro bG s U H D I h;exact wpAny_Return_some<|gk (he bG s U H _ I h) λv s1 ⟨x,H1,I1,r1,q1⟩=>⟨x,U,H1,I1,r1,q1⟩
def aaG:TS:=λD _ H=>D.rt .non H
theorem Sd:PS X (.Return none pos) aaG:=λ_ _ U H _ I h=>wpAny_Return_none ⟨.non,U,H,I,rfl,h⟩
def dh (c:TT)(t u:TS):TS:=λD U H=>c U H λb H1=>if b=true then t D U H1 else u D U H1
theorem dz {c:aH}{a b:List aJ}{tc:TT}(hc:PT X c tc)(ha:xU X a t)(hb:xU X b u):PS X (.If c a b pos) (dh tc t u):=by
 intro bG s U H D I h;refine wpAny_If<|gk (hc bG s U H _ I h) λd s1 ⟨H1,I1,q1⟩=>?_;cases d with
 |true=>exact ha bG s1 U H1 D I1 q1
 |false=>exact hb bG s1 U H1 D I1 q1
def XF:TS:=λ_ _ _=>False
theorem Ng:PS X st XF:=λ_ _ _ _ _ _ h=>h.elim
end
abbrev TG:=V->St->Hp->(St->Hp->Prop)->Prop
abbrev RQ:=List V->St->Hp->(St->Hp->Prop)->Prop
def PG (X:Cx)(target:aH)(t:TG):Prop :=
 ∀(bG:List (aj×Obj)) (s:ao) (U:St) (H:Hp) (v:V) (u:ak) (Q:St->Hp->Prop),Inv X bG U H s->RelV v u->t v U H Q->
  wpAny (model X.prog X.w) X.A (assign target X.env u) (λ_ s'=>∃U' H',Inv X bG U' H' s'/\Q U' H') X.xe s
def PGs (X:Cx)(ts:List aH)(t:RQ):Prop :=
 ∀(bG:List (aj×Obj)) (s:ao) (U:St) (H:Hp) (vs:List V) (us:List ak) (Q:St->Hp->Prop),Inv X bG U H s->Vals vs us->t vs U H Q->
  wpAny (model X.prog X.w) X.A (assignInOrder ((assignEach ts X.env).map (·.2)) us) (λ_ s'=>∃U' H',Inv X bG U' H' s'/\Q U' H') X.xe s
abbrev XH:=V->V->V->Hp->(Hp->Prop)->Prop
def aaH (X:Cx)(t:XH):Prop :=
 ∀(bG:List (aj×Obj)) (s:ao) (U:St) (H:Hp) (o i v:V) (ov iv u:ak) (Q:Hp->Prop),Inv X bG U H s->RelV o ov->RelV i iv->RelV v u->t o i v H Q->
  wpAny (model X.prog X.w) X.A (setItem ov iv u) (λ_ s'=>∃H',Inv X bG U H' s'/\Q H') X.xe s
section
variable {X:Cx}{pos:Pos}
def nq (i:Nat):TG:=λv U H Q=>Q (U.set i<|some v) H
theorem fY {i:Nat}{x:Str}(hN:X.N.Nodup)(hi:X.N[i]?=some x)(hx:Loc X.env.scope x)(hf:X.fn x=true\/X.env.scope.names.lookup x=some .local:=by first|exact .inl rfl|exact .inr rfl|assumption):PG X (.Name x pos) (nq i):=by
 intro bG s U H v u Q I r h;exact wpAny_assign_Name<|vA I hN hi hx r (λs' I'=>⟨_,H,I',h⟩) hf
inductive Wm (vs:List V)(U:St)(H:Hp)(Q:St->Hp->Prop):Prop where
 |mk:(vs=[])->(Q U H)->Wm vs U H Q
def aaI:RQ:=Wm
inductive Nh (t:TG)(u:RQ)(vs:List V)(U:St)(H:Hp)(Q:St->Hp->Prop):Prop where
 |mk (v) (r):(vs=v::r)->(t v U H λU' H'=>u r U' H' Q)->Nh t u vs U H Q
def Ni (t:TG)(u:RQ):RQ:=Nh t u
theorem uN:PGs X [] aaI:=by
 intro bG s U H vs us Q I r h;obtain⟨e,h⟩:=h;subst e;cases r;exact assignInOrder_nil ⟨U,H,I,h⟩
theorem jT {e:aH}{es:List aH}{t:TG}{u:RQ}(h1:PG X e t)(h2:PGs X es u)
  (hs:(assignEach (e::es) X.env).map (·.2)=assign e X.env::(assignEach es X.env).map (·.2):=by rfl):PGs X (e::es) (Ni t u):=by
 intro bG s U H vs us Q I r h;obtain⟨v,vr,e1,h⟩:=h;subst e1;cases r with
 |cons r rr=>
  rw[hs];refine assignInOrder_cons<|gk (h1 bG s U H _ _ _ I r h) λ_ s1 ⟨U1,H1,I1,q1⟩=>?_;exact h2 bG s1 U1 H1 _ _ Q I1 rr q1
inductive Wn (K:aN)(n:Nat)(t:RQ)(v:V)(U:St)(H:Hp)(Q:St->Hp->Prop):Prop where
 |mk (a) (xs):(v=.ref a)->(iW K H a xs)->(xs.length=n)->(t xs U H Q)->Wn K n t v U H Q
def XJ (K:aN)(n:Nat)(t:RQ):TG:=Wn K n t
theorem XM {es:aP aH}{k:Nat}{t:RQ}{n:Nat}(hc:X.calm=true)(h:PGs X es t)
  (hn:(assignEach es X.env).length=n:=by rfl) (lg:(assignEach es X.env).findIdx? (·.1)=none:=by rfl):PG X (.Tuple es k pos) (XJ X.K n t):=by
 intro bG s U H v u Q I r hw;obtain⟨a,xs,e1,hq,hl,hw⟩:=hw;subst e1;cases r;obtain⟨bh,rv,ht,hz⟩:=I.tuple hq;refine assign_Tuple_tuple (I.ok.hd hc) ht (by simp[hn,<-hl,rv.length]) lg λh' hx=>?_;have I1:Inv X bG U H {s with heap:=h'}:=I.kept (t':=s.toks) λb o e=>hx b o (aen<|ad1 e) e;exact h bG _ U H xs _ Q I1 (by simpa using rv) hw
def acr (to ti:TE)(t:XH):TG:=λv U H Q=>to U H λo H1=>ti U H1 λi H2=>t o i v H2 λH3=>Q U H3
theorem sX {o i:aH}{to ti:TE}{t:XH}(ho:PE X o to)(hi:PE X i ti)(hs:aaH X t)
  (ha:∀v,assign (.Subscript o i pos) X.env v=(do
   let ov <-holding [v] (eval o X.env)
   let iv <-holding [v,ov] (eval i X.env)
   standAt pos
   holding [v,ov,iv] (setItem ov iv v)
   release [v,ov,iv] []):=by intro _;rfl):PG X (.Subscript o i pos) (acr to ti t):=by
 intro bG s U H v u Q I r h;rw[ha];refine abI<|af9 (gk (ho bG s U H _ I h) λov s1 ⟨x,H1,I1,r1,q1⟩=>?_);refine abI<|af9 (gk (hi bG s1 U H1 _ I1 q1) λiv s2 ⟨y,H2,I2,r2,q2⟩=>?_);refine abI<|wpAny_standAt (abI<|af9 (gk (hs bG s2 U H2 x y v ov iv u _ I2 r1 r2 r q2) λ_ s3 ⟨H3,I3,q3⟩=>?_));exact wpAny_release ⟨U,H3,I3,q3⟩
def zA (te:TE)(g:TG):TS:=λD U H=>te U H λx H1=>g x U H1 D.nx
theorem qO {tg e:aH}{te:TE}{g:TG}(he:PE X e te)(hg:PG X tg g)(hs:swapsWithSole [tg] e pos.line X.env=pure false:=by rfl)(hw:swappedStores [tg] e X.env=pure none:=by rfl)
  (h1:(assignEach [tg] X.env).map (·.2)=[assign tg X.env]:=by rfl):PS X (.Assign [tg] e pos) (zA te g):=by
 intro bG s U H D I h;refine wpAny_Assign_stores (gk (he bG s U H _ I h) λv s1 ⟨x,H1,I1,r1,q1⟩=>?_) hs hw;rw[h1];exact gk (hg bG s1 U H1 x v _ I1 r1 q1) λ_ s2 q=>q
theorem oX {i:Nat}{x:Str}{e:aH}{te:TE}{nU:Pos}(hN:X.N.Nodup)(hi:X.N[i]?=some x)(hx:Loc X.env.scope x)(he:PE X e te)(hs:swapsWith e (some<|.Name x nU) pos.line X.env=pure false:=by rfl)(hf:X.fn x=true\/X.env.scope.names.lookup x=some .local:=by first|exact .inl rfl|exact .inr rfl|assumption):
  PS X (.Assign [.Name x nU] e pos) (zA te<|nq i):=by
 intro bG s U H D I h;refine wpAny_Assign_Name (gk (he bG s U H _ I h) λv s1 ⟨y,H1,I1,r1,q1⟩=>?_) hs;exact vA I1 hN hi hx r1 (λs2 I2=>⟨_,H1,I2,q1⟩) hf
inductive aaJ (i:Nat)(j:Nat)(D:Ends)(U:St)(vs:List V)(H1:Hp):Prop where
 |mk (v) (w):(vs=[v,w])->(D.nx ((U.set i<|some v).set j<|some w) H1)->aaJ i j D U vs H1
end
section
variable {X:Cx}{pos:Pos}
def XQ (c:TT)(tb:TS):TS:=λD U H=>∃W:Nat->St->Hp->Prop,(∃m,W m U H)/\∀m U H,W m U H->
 c U H λb H1=>if b=true then ∃N:St->Hp->Prop,(∀U' H',N U' H'->∃m',m'<m/\W m' U' H')/\tb (D.lp N) U H1 else D.nx U H1
theorem Cm {c:aH}{body:List aJ}{tc:TT}{tb:TS}(hp:PassesOwn (model X.prog X.w) X.A X.env X.xe)(hc:PT X c tc)(hb:xU X body tb):PS X (.While c body [] pos) (XQ tc tb):=by
 intro bG s U H D I h;obtain⟨W,⟨m0,w0⟩,turn⟩:=h;refine wpAny_While<|codeAny_whileLoop (λn s'=>∃U' H',Inv X bG U' H' s'/\W n U' H') ?_ m0 ⟨U,H,I,w0⟩;rintro n s1 ⟨U1,H1,I1,w1⟩;refine wpAny_passesOwn hp<|gk (hc bG s1 U1 H1 _ I1<|turn n U1 H1 w1) λb s2 ⟨H2,I2,q2⟩=>?_;cases b with
 |true=>
  obtain⟨N,hN,q2⟩:=q2;rw[afX rfl];refine wpAny_passesOwn hp<|gk (hb bG s2 U1 H2 _ I2 q2) λf s3 q3=>?_;cases f with
  |next=>
   obtain⟨U3,H3,I3,n3⟩:=q3;obtain⟨m',hm,w3⟩:=hN U3 H3 n3;exact⟨m',hm,U3,H3,I3,w3⟩
  |cont=>
   obtain⟨U3,H3,I3,n3⟩:=q3;obtain⟨m',hm,w3⟩:=hN U3 H3 n3;exact⟨m',hm,U3,H3,I3,w3⟩
  |brk=>exact q3
  |ret v=>exact q3
 |false=>
  rw[afY aea];exact wpAny_execs_nil ⟨U1,H2,I2,q2⟩
end
structure It where
 go:Nat->Hp->Prop
 Wo:Nat->Hp->V->Hp->Prop
 stop:Nat->Hp->Prop
def vD (X:Cx)(bG:List (aj×Obj))(H:Hp)(b:aj):Prop :=
 H b=none/\b≠X.env.locals/\b∉X.fs/\(b∈X.ex\/X.s₀.heap.objs.size<=b)/\(∀x c,X.env.cells.lookup x=some c->c≠b)/\∀p∈X.pn++bG,p.1≠b
theorem Inv.zB {X:Cx}{bG:aP (aj×Obj)}{U:St}{H H':Hp}{s:ao}{b:aj}(I:Inv X bG U H s)(hb:s.heap.objs.size<=b)(hn:H' b=none):vD X bG H' b:=by
 refine⟨hn,Nat.ne_of_gt<|ad4 I.lt hb,I.R7 hb, .inr<|ad2 I.sz hb,λx c e z=>?_,λp hp z=>?_⟩
 ·obtain⟨v,q⟩:=I.cell x c e
  exact absurd (ad4 q.lt<|by rw[z];exact hb)<|aed _
 ·exact absurd (ad4 (ad1 (I.pin p hp).1)<|by rw[z];exact hb)<|aed _
structure Turn (P:aA)(w:aG)(K:aN)(tg:aH)(J:It)(fp:List aj)(it:aj)(tn:Nat->aK->Prop):Prop where
 mem:it∈fp
 obj:∀i h,tn i h->∀b∈fp,∃o,h.get? b=some o/\∀v,o.data≠.cell v
 keep:∀i h h',tn i h->(∀b∈fp,∀o,h.get? b=some o->h'.get? b=some o)->tn i h'
 item:∀(X:Cx),X.prog=P->X.w=w->X.K=K->X.calm=true->∀(i:Nat) (bG:List (aj×Obj)) (s:ao) (U:St) (H:Hp) (E:ak->ao->Prop),Inv X bG U H s->(∀b∈fp,vD X bG H b)->tn i s.heap->J.go i H->
  wpAny (model P w) X.A (pyNext<|.ref it) (λr s1=>∃u,r=some u/\
   wpAny (model P w) X.A (letOwnedTupleGo tg (.ref it) u) (λ_ s2=>∃x H',Inv X bG U H' s2/\RelV x u/\J.Wo i H x H'/\tn (i+1) s2.heap/\∀b∈fp,H' b=none) E s1) E s
 done:∀(X:Cx),X.prog=P->X.w=w->X.K=K->X.calm=true->∀(i:Nat) (bG:List (aj×Obj)) (s:ao) (U:St) (H:Hp) (E:ak->ao->Prop),Inv X bG U H s->(∀b∈fp,vD X bG H b)->tn i s.heap->J.stop i H->
  wpAny (model P w) X.A (pyNext<|.ref it) (λr s1=>r=none/\Inv X bG U H s1) E s
 self:∀(A:aq) (i:Nat) (s:ao) (Q:ak->ao->Prop) (E:ak->ao->Prop),tn i s.heap->Q (.ref it) s->wpAny (model P w) A (pyIter<|.ref it) Q E s
abbrev TI:=St->Hp->(It->Hp->Prop)->Prop
def PIE (X:Cx)(bG:List (aj×Obj))(U:St)(tg:aH)(R:It->Hp->Prop)(itv:ak)(s2:ao):Prop :=
 ∃(it:aj) (fp:List aj) (tn:Nat->aK->Prop) (J:It) (H':Hp),itv=.ref it/\Inv X bG U H' s2/\Turn X.prog X.w X.K tg J fp it tn/\tn 0 s2.heap/\(∀b∈fp,vD X bG H' b)/\R J H'
def PI (X:Cx)(tg dZ:aH)(wi:TI):Prop :=
 ∀(bG:List (aj×Obj)) (s:ao) (U:St) (H:Hp) (R:It->Hp->Prop),Inv X bG U H s->wi U H R->
  wpAny (model X.prog X.w) X.A (eval dZ X.env) (λv s1=>wpAny (model X.prog X.w) X.A (pyIter v) (PIE X bG U tg R) X.xe s1) X.xe s
theorem Nj {M:Model}{A:aq}{E:ak->ao->Prop}{s:ao}{tg:aH}{it:aj}{u:ak}{o:Obj}{n:String}{vs:Array ak}{Q:Unit->ao->Prop}(ho:s.heap.get? it=some o)(hc:o.cls=.type n)(hd:o.data=.fields vs)
  (hn:["enumerate","zip","dict_itemiterator","dict_reverseitemiterator","odict_iterator","itertools.zip_longest","itertools.pairwise"].contains n=false) (hQ:Q () s):wpAny M A (letOwnedTupleGo tg (.ref it) u) Q E s:=by
 unfold letOwnedTupleGo;cases tg<;>first
  |exact afV hQ
  |(cases u<;>first
    |exact afV hQ
    |(refine abI (wpAny_load ho ?_)
      rw[hc,hd];show wpAny M A (if(["enumerate","zip","dict_itemiterator","dict_reverseitemiterator","odict_iterator","itertools.zip_longest","itertools.pairwise"].contains n&&vs[0]?==some (rawInt _))=true then _ else _) Q E s;rw[afY (by intro h;rw[hn,Bool.false_and]at h;cases h)];exact afV hQ))
def Itl (K:aN)(a:aj):It :=
 ⟨λi H=>∃xs x,dM K H a xs/\xs[i]?=some x,λi H x H'=>H'=H/\∀xs,dM K H a xs->xs[i]?=some x,λi H=>∃xs,dM K H a xs/\xs.length<=i⟩
def Itt (K:aN)(a:aj):It :=
 ⟨λi H=>∃xs x,iW K H a xs/\xs[i]?=some x,λi H x H'=>H'=H/\∀xs,iW K H a xs->xs[i]?=some x,λi H=>∃xs,iW K H a xs/\xs.length<=i⟩
def XR (lo:Int)(n:Nat):It:=⟨λi _=>i<n,λi H x H'=>H'=H/\x=.int (lo+i),λi _=>n<=i⟩
theorem JX {P:aA}{w:aG}{K:aN}{tg:aH}(a it:aj):Turn P w K tg (Itl K a) [it] it (λi h=>h.IsListIter it a i) where
 mem:=by simp
 obj:=λi h st b hb=>by
  have e:b=it:=by simpa using hb
  subst e;obtain⟨o,e,c,d⟩:=st;exact⟨o,e,λv z=>by rw[d]at z;cases z⟩
 keep:=λi h h' st k=>st.at λo e=>k it (by simp) o e
 item:=by
  intro X hP hw hK hc i bG s U H E I hf st hg;subst hP hw hK;obtain⟨xs,x,hq,hx⟩:=hg;obtain⟨bh,rv,p,hz⟩:=I.list hq;obtain⟨u,hu,ru⟩:=rv.get hx;obtain⟨f0,f1,f2,f3,f4,f5⟩:=hf it (by simp);refine wpAny_pyNext_list_item st p.isList (x:=u) (by simpa using hu) λh' st' sb=>?_;have I1:Inv X bG U H {s with heap:=h'}:=I.turned (t':=s.toks) (λb o hb e=>(sb.2 b hb).trans e) f0 f1 f3 f4 f5;obtain⟨o,e,c,d⟩:=id st';exact⟨u,rfl,Nj (s:={s with heap:=h'}) e c d (by decide) ⟨x,H,I1,ru,⟨rfl,λys hy=>by rw[I.Nf hy hq];exact hx⟩,st',λb hb=>(hf b hb).1⟩⟩
 done:=by
  intro X hP hw hK hc i bG s U H E I hf st hg;subst hP hw hK;obtain⟨xs,hq,hx⟩:=hg;obtain⟨bh,rv,p,hz⟩:=I.list hq;obtain⟨f0,f1,f2,f3,f4,f5⟩:=hf it (by simp);have hl:=rv.length;exact wpAny_pyNext_list_end (I.ok.hd hc) st p.isList (by simp;exact ad2 (ae0 hl.symm) hx) λh' eb=>⟨rfl,I.turned (t':=s.toks) (λb o hb e=>eb b o hb e) f0 f1 f3 f4 f5⟩
 self:=λ_ _ _ _ _ st h=>wpAny_pyIter_listiter st h
theorem Ga {P:aA}{w:aG}{K:aN}{tg:aH}(a it:aj):Turn P w K tg (Itt K a) [it] it (λi h=>h.IsTupleIter it a i) where
 mem:=by simp
 obj:=λi h st b hb=>by
  have e:b=it:=by simpa using hb
  subst e;obtain⟨o,e,c,d⟩:=st;exact⟨o,e,λv z=>by rw[d]at z;cases z⟩
 keep:=λi h h' st k=>st.at λo e=>k it (by simp) o e
 item:=by
  intro X hP hw hK hc i bG s U H E I hf st hg;subst hP hw hK;obtain⟨xs,x,hq,hx⟩:=hg;obtain⟨bh,rv,p,hz⟩:=I.tuple hq;obtain⟨u,hu,ru⟩:=rv.get hx;obtain⟨f0,f1,f2,f3,f4,f5⟩:=hf it (by simp);refine wpAny_pyNext_tuple_item st (show s.heap.IsTuple a bh.toArray from p) (x:=u) (by simpa using hu) λh' st' sb=>?_;have I1:Inv X bG U H {s with heap:=h'}:=I.turned (t':=s.toks) (λb o hb e=>(sb.2 b hb).trans e) f0 f1 f3 f4 f5;obtain⟨o,e,c,d⟩:=id st';exact⟨u,rfl,Nj (s:={s with heap:=h'}) e c d (by decide) ⟨x,H,I1,ru,⟨rfl,λys hy=>by rw[I.JV hy hq];exact hx⟩,st',λb hb=>(hf b hb).1⟩⟩
 done:=by
  intro X hP hw hK hc i bG s U H E I hf st hg;subst hP hw hK;obtain⟨xs,hq,hx⟩:=hg;obtain⟨bh,rv,p,hz⟩:=I.tuple hq;obtain⟨f0,f1,f2,f3,f4,f5⟩:=hf it (by simp);have hl:=rv.length;exact wpAny_pyNext_tuple_end (I.ok.hd hc) st (show s.heap.IsTuple a bh.toArray from p) (by simp;exact ad2 (ae0 hl.symm) hx) λh' eb=>⟨rfl,I.turned (t':=s.toks) (λb o hb e=>eb b o hb e) f0 f1 f3 f4 f5⟩
 self:=λ_ _ _ _ _ st h=>wpAny_pyIter_tupleiter st h
theorem Gb {P:aA}{w:aG}{K:aN}{tg:aH}(it:aj)(lo:Int)(n:Nat):Turn P w K tg (XR lo n) [it] it (λi h=>IsRangeIter h it (lo+(i:Nat)*1) ((n:Int)-(i:Nat)) 1) where
 mem:=by simp
 obj:=λi h st b hb=>by
  have e:b=it:=by simpa using hb
  subst e;exact⟨_,st,λv z=>by
   have z':Data.fields _=Data.cell v:=z;cases z'⟩
 keep:=λi h h' st k=>k it (by simp) _ st
 item:=by
  intro X hP hw hK hc i bG s U H E I hf st hg;subst hP hw hK;obtain⟨f0,f1,f2,f3,f4,f5⟩:=hf it (by simp);have W:=Walks.range (prog:=X.prog) (w:=X.w) (I.ok.hd hc) it lo 1 n;refine W.item i s _ _ hg st λv h' tk hv st' kk=>?_;obtain⟨t,rfl⟩:=hv;have I1:Inv X bG U H {s with heap:=h',toks:=tk}:=I.turned (λb o hb e=>kk b o (by simpa using hb) e) f0 f1 f3 f4 f5;refine⟨_,rfl,Nj (s:={s with heap:=h',toks:=tk}) (n:="range_iterator") st' rfl rfl (by decide) ⟨.int<|lo+i,H,I1,⟨t,?_⟩,⟨rfl,rfl⟩,st',λb hb=>(hf b hb).1⟩⟩;rw[Int.mul_one]
 done:=by
  intro X hP hw hK hc i bG s U H E I hf st hg;subst hP hw hK;obtain⟨f0,f1,f2,f3,f4,f5⟩:=hf it (by simp);exact wpAny_pyNext_range_end (I.ok.hd hc) st (by have:n<=i:=hg;omega) λh' eb=>⟨rfl,I.turned (t':=s.toks) (λb o hb e=>eb b o hb e) f0 f1 f3 f4 f5⟩
 self:=λ_ _ _ _ _ st h=>wpAny_pyIter_rangeiter st h
section
variable {X:Cx}{tg:aH}
inductive Nk (K:aN)(R:It->Hp->Prop)(x:V)(H1:Hp):Prop where
 |mk (a):(x=.ref a)->((∃xs,dM K H1 a xs))->(R (Itl K a) H1)->Nk K R x H1
def Wq (K:aN)(tl:TE):TI:=λU H R=>tl U H (Nk K R)
inductive Ws (K:aN)(R:It->Hp->Prop)(x:V)(H1:Hp):Prop where
 |mk (a):(x=.ref a)->((∃xs,iW K H1 a xs))->(R (Itt K a) H1)->Ws K R x H1
def aaK (K:aN)(tl:TE):TI:=λU H R=>tl U H (Ws K R)
theorem Sg {l:aH}{tl:TE}(hl:PE X l tl):PI X tg l (Wq X.K tl):=by
 intro bG s U H R I h;refine gk (hl bG s U H _ I h) λv s1 ⟨x,H1,I1,r1,q1⟩=>?_;obtain⟨a,e,⟨xs,hq⟩,q⟩:=q1;subst e;cases r1;obtain⟨bh,rv,p,hz⟩:=I1.list hq;refine wpAny_pyIter_list p.isList ?_;refine⟨s1.heap.objs.size,[s1.heap.objs.size],_,_,H1,rfl,I1.kept (t':=s1.toks) λb o e=>adY _ e,JX a _,⟨_,ad' _ rfl,rfl,rfl⟩,λb hb=>?_,q⟩;have e:b=s1.heap.objs.size:=by simpa using hb
 subst e;exact I1.zB (adZ _)<|I1.hok.fresh (adZ _)
theorem XS {l:aH}{tl:TE}(hl:PE X l tl):PI X tg l (aaK X.K tl):=by
 intro bG s U H R I h;refine gk (hl bG s U H _ I h) λv s1 ⟨x,H1,I1,r1,q1⟩=>?_;obtain⟨a,e,⟨xs,hq⟩,q⟩:=q1;subst e;cases r1;obtain⟨bh,rv,p,hz⟩:=I1.tuple hq;refine wpAny_pyIter_tuple (show s1.heap.IsTuple a bh.toArray from p) ?_;refine⟨s1.heap.objs.size,[s1.heap.objs.size],_,_,H1,rfl,I1.kept (t':=s1.toks) λb o e=>adY _ e,Ga a _,⟨_,ad' _ rfl,rfl,rfl⟩,λb hb=>?_,q⟩;have e:b=s1.heap.objs.size:=by simpa using hb
 subst e;exact I1.zB (adZ _)<|I1.hok.fresh (adZ _)
theorem Nm {bG:aP (aj×Obj)}{U:St}{H:Hp}{s:ao}{R:It->Hp->Prop}{E:ak->ao->Prop}{lo hi:Int}{t u v:Tok}{tk:Nat}(I:Inv X bG U H s)(h1: -(2^62)<=lo)(h2:lo<2^62)(h3: -(2^62)<=hi)(h4:hi<2^62)
  (q:R (XR lo (hi-lo).toNat) H):wpAny (model X.prog X.w) X.A (pyIter<|.ref s.heap.objs.size) (PIE X bG U tg R) E {s with heap:=s.heap.push {cls:=.type "range",data:=.fields #[.int lo t, .int hi u, .int 1 v]},toks:=tk}:=by
 refine wpAny_pyIter_range (IsRange.new ..) (small_one h1 h2 h3 h4) ?_;have I1:Inv X bG U H {s with heap:=s.heap.push {cls:=.type "range",data:=.fields #[.int lo t, .int hi u, .int 1 v]},toks:=tk}:=I.kept λb o e=>adY _ e;refine⟨(s.heap.push {cls:=.type "range",data:=.fields #[.int lo t, .int hi u, .int 1 v]}).objs.size,[(s.heap.push {cls:=.type "range",data:=.fields #[.int lo t, .int hi u, .int 1 v]}).objs.size],_,_,H,rfl,
  I1.kept (t':=tk) λb o e=>adY _ e,Gb _ lo (hi-lo).toNat,?_,λb hb=>?_,q⟩
 ·have e1:lo+((0:Nat):Int)*1=lo:=by simp
  have e2:(((hi-lo).toNat:Nat):Int)-((0:Nat):Int)=Builtin.Range.rangeSize lo hi 1:=by rw[rangeSize_one];split<;>omega
  show IsRangeIter _ _ (lo+((0:Nat):Int)*1) ((((hi-lo).toNat:Nat):Int)-((0:Nat):Int)) 1;rw[e1,e2];exact ad' _ rfl
 ·have e:b=(s.heap.push {cls:=.type "range",data:=.fields #[.int lo t, .int hi u, .int 1 v]}).objs.size:=by simpa using hb
  subst e;exact I1.zB (adZ _)<|I1.hok.fresh (adZ _)
inductive Np (R:It->Hp->Prop)(vs:List V)(H1:Hp):Prop where
 |mk (j:Int):(vs=[.int j])->(-(2^62)<=j)->(j<2^62)->(R (XR 0 j.toNat) H1)->Np R vs H1
def aaL (ta:TA):TI:=λU H R=>ta U H (Np R)
theorem pU {a:aH}{ta:TA}{p pos:Pos}(hg:Gl X "range")(hm:X.mg "range"=none)(ha:PA X [a] ta)(hs:starEach [a] X.env=[(false,eval a X.env)]:=by rfl):PI X tg (.Call (.Name "range" p) [a] [] pos) (aaL ta):=by
 intro bG s U H R I h;refine Call_<|qN I hg hm boot_range (PyProof.Rows.callWith_type1 (gk (ha pos bG s U H _ I h) λus s1 ⟨vs,H1,I1,r1,q1⟩=>?_) hs rfl);obtain⟨j,e,q1,q2,q⟩:=q1;subst e;cases r1 with
 |cons r rr=>
  cases rr;obtain⟨t,rfl⟩:=r;exact call_range_1 (Nm I1 (by omega) (by omega) q1 q2<|by simpa using q)
def aaM (wi:TI)(g:TG)(tb:TS):TS:=λD U H=>wi U H λJ H1=>∃W:Nat->Nat->St->Hp->Prop,(∃m,W 0 m U H1)/\∀i m U H,W i m U H->
 (J.stop i H/\D.nx U H)\/(J.go i H/\∃N:St->Hp->Prop,(∀U' H',N U' H'->∃m',m'<m/\W (i+1) m' U' H')/\∀x H',J.Wo i H x H'->g x U H' λU2 H2=>tb (D.lp N) U2 H2)
noncomputable def vG (fp:List aj)(h:aK):List (aj×Obj):=fp.filterMap λb=>(h.get? b).map λo=>(b,o)
theorem nW {fp:aP aj}{h:aK}{b:aj}{o:Obj}(hb:b∈fp)(e:h.get? b=some o):(b,o)∈vG fp h:=List.mem_filterMap.mpr ⟨b,hb,by rw[e];rfl⟩
theorem JZ {fp:List aj}{h:aK}{p:aj×Obj}(hp:p∈vG fp h):p.1∈fp/\h.get? p.1=some p.2:=by
 obtain⟨b,hb,e⟩:=List.mem_filterMap.mp hp;cases q:h.get? b with
 |none=>rw[q]at e;cases e
 |some o=>
  rw[q]at e;have e':(b,o)=p:=af5 e;subst e';exact⟨hb,q⟩
theorem Inv.pinned {bG:aP (aj×Obj)}{U:St}{H:Hp}{s:ao}{fp:aP aj}(I:Inv X bG U H s)(hf:∀b∈fp,vD X bG H b)(ho:∀b∈fp,∃o,s.heap.get? b=some o/\∀v,o.data≠.cell v):Inv X (bG++vG fp s.heap) U H s :=
 I.uM λp hp=>(aeu.mp hp).elim (λz=>I.pin p<|ad5 _ z) λz=>by
  obtain⟨hb,e⟩:=JZ z;obtain⟨f0,f1,f2,_⟩:=hf p.1 hb;obtain⟨o,e',d⟩:=ho p.1 hb;rw[e]at e';cases e';exact⟨e,f0,f1,f2,d⟩
theorem Inv.jU {bG pl:aP (aj×Obj)}{U:St}{H:Hp}{s:ao}(I:Inv X (bG++pl) U H s):Inv X bG U H s:=I.uM λp hp=>I.pin p (ad5 _<|aew _ hp)
theorem oY {dZ:aH}{body:List aJ}{wi:TI}{g:TG}{tb:TS}{pos:Pos}(hp:PassesOwn (model X.prog X.w) X.A X.env X.xe)(hc:X.calm=true)(hi:PI X tg dZ wi)(hg:PG X tg g)(hb:xU X body tb)
  (hs:∀x,foldedSetIterable dZ X.env x=pure x:=by intro _;rfl):PS X (.For tg dZ body [] pos) (aaM wi g tb):=by
 intro bG s U H D I h;refine wpAny_For (gk (hi bG s U H _ I h) λv s1 h1=>gk h1 λitv s2 h2=>?_) hs;obtain⟨it,fp,tn,J,H2,e,I2,T,st2,f2,W,⟨m0,w0⟩,turn⟩:=h2;subst e;have stat:∀{H':Hp},(∀b∈fp,H' b=none)->∀b∈fp,vD X bG H' b:=λhn b hb=>⟨hn b hb,(f2 b hb).2⟩;refine codeAny_forLoop_any (λn s'=>∃i U' H',Inv X bG U' H' s'/\tn i s'.heap/\(∀b∈fp,H' b=none)/\W i n U' H') ?_ m0 ⟨0,U,H2,I2,st2,λb hb=>(f2 b hb).1,w0⟩;rintro n s3 ⟨i,U3,H3,I3,st3,fr3,w3⟩;rcases turn i n U3 H3 w3 with ⟨stop,qn⟩|⟨go,N,hN,step⟩
 ·refine wpAny_passesOwn hp (gk (T.done X rfl rfl rfl hc i bG s3 U3 H3 X.xe I3 (stat fr3) st3 stop) λr s4 ⟨hr,I4⟩=>?_)
  subst hr;exact wpAny_execs_nil ⟨U3,H3,I4,qn⟩
 ·refine wpAny_passesOwn hp (gk (T.item X rfl rfl rfl hc i bG s3 U3 H3 X.xe I3 (stat fr3) st3 go) λr s4 ⟨u,hr,h4⟩=>?_)
  subst hr;refine wpAny_passesOwn hp<|gk h4 λ_ s5 ⟨x,H5,I5,r5,y5,RT,fr5⟩=>?_;have I5':=I5.pinned (stat fr5) (T.obj _ _ RT);refine wpAny_passesOwn hp<|gk (hg _ s5 U3 H5 x u _ I5' r5<|step x H5 y5) λ_ s6 ⟨U6,H6,I6,q6⟩=>?_;refine wpAny_passesOwn hp<|gk (hb _ s6 U6 H6 _ I6 q6) λf s7 q7=>?_;have again:∀{U7:St} {H7:Hp},Inv X (bG++vG fp s5.heap) U7 H7 s7->N U7 H7->∃m,m<n/\∃i U' H',Inv X bG U' H' s7/\tn i s7.heap/\(∀b∈fp,H' b=none)/\W i m U' H':=λ{U7 H7} I7 n7=>by
   obtain⟨m',hm,w7⟩:=hN U7 H7 n7;refine⟨m',hm,i+1,U7,H7,I7.jU,T.keep _ _ _ RT λb hb o e=>(I7.pin (b,o)<|ad5 _ (ad5 _<|nW hb e)).1,λb hb=>?_,w7⟩;obtain⟨o,e,d⟩:=T.obj _ _ RT b hb;exact(I7.pin (b,o)<|ad5 _ (ad5 _<|nW hb e)).2.1
  cases f with
  |next=>obtain⟨U7,H7,I7,n7⟩:=q7;exact again I7 n7
  |cont=>obtain⟨U7,H7,I7,n7⟩:=q7;exact again I7 n7
  |brk=>obtain⟨U7,H7,I7,q7⟩:=q7;exact⟨U7,H7,I7.jU,q7⟩
  |ret v=>obtain⟨x7,U7,H7,I7,r7,q7⟩:=q7;exact⟨x7,U7,H7,I7.jU,r7,q7⟩
end
theorem Cp {K:aN}{a:aj}{xs:aP V}{g:TG}{tb:TS}{D:Ends}{U:St}{H:Hp}(Pv:Nat->St->Hp->Prop)(h0:Pv 0 U H)(hl:∀i U H,i<=xs.length->Pv i U H->dM K H a xs)
  (hs:∀i x U H,xs[i]?=some x->Pv i U H->g x U H λU2 H2=>tb (D.lp<|Pv (i+1)) U2 H2) (hd:∀U H,Pv xs.length U H->D.nx U H):
  ∃W:Nat->Nat->St->Hp->Prop,(∃m,W 0 m U H)/\∀i m U H,W i m U H->
   ((Itl K a).stop i H/\D.nx U H)\/((Itl K a).go i H/\∃N:St->Hp->Prop,(∀U' H',N U' H'->∃m',m'<m/\W (i+1) m' U' H')/\∀x H',(Itl K a).Wo i H x H'->g x U H' λU2 H2=>tb (D.lp N) U2 H2):=by
 refine⟨λi m U H=>m=xs.length-i/\i<=xs.length/\Pv i U H,⟨xs.length,by simp,aeG _,h0⟩,?_⟩;rintro i m U H ⟨rfl,hi,p⟩;have q:=hl i U H hi p;by_cases jX:i<xs.length
 ·refine .inr ⟨⟨xs,xs[i],q,by simp[jX]⟩,Pv<|i+1,λU' H' p'=>⟨xs.length-(i+1),by omega,rfl,jX,p'⟩,λx H' y=>?_⟩
  obtain⟨e,y⟩:=y;subst e;exact hs i x U _ (y xs q) p
 ·have e:i=xs.length:=by exact aeT hi (Nat.not_lt.mp jX)
  subst e;exact .inl ⟨⟨xs,q,adZ _⟩,hd U H p⟩
theorem HF {K:aN}{a:aj}{xs:aP V}{g:TG}{tb:TS}{D:Ends}{U:St}{H:Hp}(Pv:Nat->St->Hp->Prop)(h0:Pv 0 U H)(hl:∀i U H,i<=xs.length->Pv i U H->iW K H a xs)
  (hs:∀i x U H,xs[i]?=some x->Pv i U H->g x U H λU2 H2=>tb (D.lp<|Pv (i+1)) U2 H2) (hd:∀U H,Pv xs.length U H->D.nx U H):
  ∃W:Nat->Nat->St->Hp->Prop,(∃m,W 0 m U H)/\∀i m U H,W i m U H->
   ((Itt K a).stop i H/\D.nx U H)\/((Itt K a).go i H/\∃N:St->Hp->Prop,(∀U' H',N U' H'->∃m',m'<m/\W (i+1) m' U' H')/\∀x H',(Itt K a).Wo i H x H'->g x U H' λU2 H2=>tb (D.lp N) U2 H2):=by
 refine⟨λi m U H=>m=xs.length-i/\i<=xs.length/\Pv i U H,⟨xs.length,by simp,aeG _,h0⟩,?_⟩;rintro i m U H ⟨rfl,hi,p⟩;have q:=hl i U H hi p;by_cases jX:i<xs.length
 ·refine .inr ⟨⟨xs,xs[i],q,by simp[jX]⟩,Pv<|i+1,λU' H' p'=>⟨xs.length-(i+1),by omega,rfl,jX,p'⟩,λx H' y=>?_⟩
  obtain⟨e,y⟩:=y;subst e;exact hs i x U _ (y xs q) p
 ·have e:i=xs.length:=by exact aeT hi (Nat.not_lt.mp jX)
  subst e;exact .inl ⟨⟨xs,q,adZ _⟩,hd U H p⟩
theorem sY {lo:Int}{n:Nat}{g:TG}{tb:TS}{D:Ends}{U:St}{H:Hp}(Pv:Nat->St->Hp->Prop)(h0:Pv 0 U H)
  (hs:∀i U H,i<n->Pv i U H->g (.int<|lo+i) U H λU2 H2=>tb (D.lp<|Pv (i+1)) U2 H2) (hd:∀U H,Pv n U H->D.nx U H):
  ∃W:Nat->Nat->St->Hp->Prop,(∃m,W 0 m U H)/\∀i m U H,W i m U H->
   ((XR lo n).stop i H/\D.nx U H)\/((XR lo n).go i H/\∃N:St->Hp->Prop,(∀U' H',N U' H'->∃m',m'<m/\W (i+1) m' U' H')/\∀x H',(XR lo n).Wo i H x H'->g x U H' λU2 H2=>tb (D.lp N) U2 H2):=by
 refine⟨λi m U H=>m=n-i/\i<=n/\Pv i U H,⟨n,by simp,aeG _,h0⟩,?_⟩;rintro i m U H ⟨rfl,hi,p⟩;by_cases jX:i<n
 ·refine .inr ⟨jX,Pv<|i+1,λU' H' p'=>⟨n-(i+1),by omega,rfl,jX,p'⟩,λx H' y=>?_⟩
  obtain⟨e,y⟩:=y;subst e y;exact hs i U _ jX p
 ·have e:i=n:=by exact aeT hi (Nat.not_lt.mp jX)
  subst e;exact .inl ⟨adZ _,hd U H p⟩
abbrev R2:=V->V->Hp->VK->Prop
def ud (X:Cx)(f:ak->ak->Sem ak)(r:R2):Prop :=
 ∀(bG:List (aj×Obj)) (s:ao) (U:St) (H:Hp) (x y:V) (v u:ak) (Q:VK),Inv X bG U H s->RelV x v->RelV y u->r x y H Q->
  wpAny (model X.prog X.w) X.A (f v u) (EP X bG U Q) X.xe s
def UnR (X:Cx)(f:ak->Sem ak)(r:V->Hp->VK->Prop):Prop :=
 ∀(bG:List (aj×Obj)) (s:ao) (U:St) (H:Hp) (x:V) (v:ak) (Q:VK),Inv X bG U H s->RelV x v->r x H Q->
  wpAny (model X.prog X.w) X.A (f v) (EP X bG U Q) X.xe s
def jw (X:Cx)(f:ak)(r:List V->Hp->VK->Prop):Prop :=
 ∀(bG:List (aj×Obj)) (s:ao) (U:St) (H:Hp) (xs:List V) (us:List ak) (Q:VK),Inv X bG U H s->Vals xs us->r xs H Q->
  wpAny (model X.prog X.w) X.A (call f us) (EP X bG U Q) X.xe s
def Fv (r:R2)(ta tb:TE):TE:=λU H Q=>ta U H λx H1=>tb U H1 λy H2=>r x y H2 Q
def tUn (r:V->Hp->VK->Prop)(ta:TE):TE:=λU H Q=>ta U H λx H1=>r x H1 Q
inductive rI_ (C:Int->Int->Prop)(g:Int->Int->V)(x:V)(y:V)(H:Hp)(Q:VK):Prop where
 |mk (i) (j):(x=.int i)->(y=.int j)->(C i j)->(Q (g i j) H)->rI_ C g x y H Q
def rI (C:Int->Int->Prop)(g:Int->Int->V):R2:=rI_ C g
inductive aaN (g:Int->Int->V)(x:V)(y:V)(H:Hp)(Q:VK):Prop where
 |mk (i) (j):(x=.int i)->(y=.int j)->(Q (g i j) H)->aaN g x y H Q
def Wt (g:Int->Int->V):R2:=aaN g
def rU (g:Int->V):V->Hp->VK->Prop:=λx H Q=>∃i,x=.int i/\Q (g i) H
section
variable {X:Cx}{a b c:aH}{ta tb tc:TE}{pos:Pos}
theorem X3 (ha:PE X a ta)(hb:PE X b tb){bG:aP (aj×Obj)}{s:ao}{U:St}{H:Hp}{R:V->V->Hp->Prop}(I:Inv X bG U H s)
  (h:ta U H λx H1=>tb U H1 λy H2=>R x y H2) {Q:ak->ao->Prop} {f:ak->ak->Sem ak}
  (hf:∀v u s2 x y H2,Inv X bG U H2 s2->RelV x v->RelV y u->R x y H2->wpAny (model X.prog X.w) X.A (f v u) Q X.xe s2):
  wpAny (model X.prog X.w) X.A (eval a X.env) (λv eE=>wpAny (model X.prog X.w) X.A (eval b X.env) (λu s₂=>wpAny (model X.prog X.w) X.A (f v u) Q X.xe s₂) X.xe eE) X.xe s:=by
 refine gk (ha bG s U H _ I h) λv s1 ⟨x,H1,I1,r1,q1⟩=>?_;refine gk (hb bG s1 U H1 _ I1 q1) λu s2 ⟨y,H2,I2,r2,q2⟩=>?_;exact hf v u s2 x y H2 I2 r1 r2 q2
theorem dN {op:Operator}{r:R2}(ho:ud X (binaryOp op) r)(ha:PE X a ta)(hb:PE X b tb):PE X (.BinOp a op b pos) (Fv r ta tb):=by
 intro bG s U H Q I h;exact wpAny_BinOp<|X3 ha hb I h λv u s2 x y H2 I2 rx ry q=>ho bG s2 U H2 x y v u Q I2 rx ry q
theorem aaO {op:UnaryOp}{r:V->Hp->VK->Prop}(ho:UnR X (unaryOp op) r)(ha:PE X a ta):PE X (.UnaryOp op a pos) (tUn r ta):=by
 intro bG s U H Q I h;exact UnaryOp_<|gk (ha bG s U H _ I h) λv s1 ⟨x,H1,I1,r1,q1⟩=>ho bG s1 U H1 x v Q I1 r1 q1
theorem opI {f:ak->ak->Sem ak}{C:Int->Int->Prop}{g:Int->Int->Int}
  (rule:∀(i j:Int) (t u:Tok) (s:ao) (Q:ak->ao->Prop) (E:ak->ao->Prop),C i j->Q (.int (g i j) s.toks) {s with toks:=s.toks+1}->wpAny (model X.prog X.w) X.A (f (.int i t)<|.int j u) Q E s):
  ud X f (rI C λi j=>.int<|g i j):=by
 intro bG s U H x y v u Q I rx ry h;obtain⟨i,j,rfl,rfl,hc,q⟩:=h;obtain⟨t,rfl⟩:=rx;obtain⟨t',rfl⟩:=ry;exact rule i j t t' s _ _ hc ⟨.int<|g i j,H,I.tok _,⟨_,rfl⟩,q⟩
theorem aaP {f:ak->ak->Sem ak}{g:Int->Int->Int}
  (rule:∀(i j:Int) (t u:Tok) (s:ao) (Q:ak->ao->Prop) (E:ak->ao->Prop),Q (.int (g i j) s.toks) {s with toks:=s.toks+1}->wpAny (model X.prog X.w) X.A (f (.int i t)<|.int j u) Q E s):
  ud X f (Wt λi j=>.int<|g i j):=by
 intro bG s U H x y v u Q I rx ry h;obtain⟨i,j,rfl,rfl,q⟩:=h;obtain⟨t,rfl⟩:=rx;obtain⟨t',rfl⟩:=ry;exact rule i j t t' s _ _ ⟨.int<|g i j,H,I.tok _,⟨_,rfl⟩,q⟩
theorem Sh {f:ak->ak->Sem ak}{g:Int->Int->Bool}
  (rule:∀(i j:Int) (t u:Tok) (s:ao) (Q:ak->ao->Prop) (E:ak->ao->Prop),Q (.bool<|g i j) s->wpAny (model X.prog X.w) X.A (f (.int i t)<|.int j u) Q E s):
  ud X f (Wt λi j=>.bl<|g i j):=by
 intro bG s U H x y v u Q I rx ry h;obtain⟨i,j,rfl,rfl,q⟩:=h;obtain⟨t,rfl⟩:=rx;obtain⟨t',rfl⟩:=ry;exact rule i j t t' s _ _ ⟨.bl<|g i j,H,I,rfl,q⟩
def acs (i j:Int):Prop:=0<j/\j<1073741824
def acu (i j:Int):Prop:=0<=j/\j<=1000000/\i.natAbs<2^64
def X4 (i j:Int):Prop:=(-(2^64)<i/\i<2^64)\/(-(2^64)<j/\j<2^64)
theorem X4.ok {i j:Int}(h:X4 i j):IntMulOk i j:=by
 rcases h with ⟨h1,h2⟩|⟨h1,h2⟩
 ·exact .of_left<|intBits_le_64 h1 h2
 ·exact .of_right<|intBits_le_64 h1 h2
theorem jt:ud X (binaryOp .Add) (Wt λi j=>.int<|i+j):=aaP λ_ _ _ _ _ _ _ q=>add_int q
theorem zE:ud X (binaryOp .Sub) (Wt λi j=>.int<|i-j):=aaP λ_ _ _ _ _ _ _ q=>sub_int q
theorem Gd:ud X (binaryOp .Mult) (rI X4 λi j=>.int<|i*j):=opI λ_ _ _ _ _ _ _ hc q=>mul_int q hc.ok
theorem zF:ud X (binaryOp .FloorDiv) (rI acs λi j=>.int<|i / j):=opI λi j _ _ _ _ _ hc q=>by
 have h1:(0:Int)<j:=hc.1;have h2:j<1073741824:=hc.2;exact floordiv_int (by omega) (by rw[Int.fdiv_eq_ediv_of_nonneg i (by omega)];exact q) (.inl (PyProof.noPylong_small<|by omega))
theorem sZ:ud X (binaryOp .Mod) (rI (λ_ j=>0<j) λi j=>.int<|i%j):=opI λi j _ _ _ _ _ hc q=>by
 have h1:(0:Int)<j:=hc;exact mod_int' (by omega) (by rw[Int.fmod_eq_emod_of_nonneg i (by omega)];exact q)
theorem zG:ud X (binaryOp .Pow) (rI acu λi j=>.int<|i^j.toNat):=opI λ_ _ _ _ _ _ _ hc q=>pow_int_small hc.1 hc.2.1 hc.2.2 q
theorem unI {f:ak->Sem ak}{g:Int->Int}
  (rule:∀(i:Int) (t:Tok) (s:ao) (Q:ak->ao->Prop) (E:ak->ao->Prop),Q (.int (g i) s.toks) {s with toks:=s.toks+1}->wpAny (model X.prog X.w) X.A (f<|.int i t) Q E s):
  UnR X f (rU λi=>.int<|g i):=by
 intro bG s U H x v Q I rx h;obtain⟨i,rfl,q⟩:=h;obtain⟨t,rfl⟩:=rx;exact rule i t s _ _ ⟨.int<|g i,H,I.tok _,⟨_,rfl⟩,q⟩
theorem X5:UnR X (unaryOp .USub) (rU λi=>.int (-i)):=unI λ_ _ _ _ _ q=>neg_int q
end
noncomputable def X6:V->V->Bool
 |.non, .non=>true|.non, .int _=>true|.int _, .non=>true|.non, .bl _=>true|.bl _, .non=>true|.non, .str _=>true|.str _, .non=>true
 |.int _, .int _=>true|.bl _, .bl _=>true|.str _, .str _=>true|.JN _, .JN _=>true
 |.int _, .str _=>true|.str _, .int _=>true|.bl _, .str _=>true|.str _, .bl _=>true
 |_,_=>false
inductive aaQ (x:V)(y:V)(H:Hp)(Q:VK):Prop where
 |mk:(X6 x y=true)->(Q (.bl<|decide (x=y)) H)->aaQ x y H Q
def rEq:R2:=aaQ
inductive aaR (x:V)(y:V)(H:Hp)(Q:VK):Prop where
 |mk:(X6 x y=true)->(Q (.bl (!decide (x=y))) H)->aaR x y H Q
def rNe:R2:=aaR
theorem HJ {i j:Int}:decide (V.int i=V.int j)=(i==j):=by
 rw[afi];simp
theorem Nq {i j:Bool}:decide (V.bl i=V.bl j)=(i==j):=by
 rw[afi];simp
theorem HN {i j:Str}:decide (V.str i=V.str j)=(i==j):=by
 rw[afi];simp
theorem HS {i j:Array UInt8}:decide (V.JN i=V.JN j)=(i.toList==j.toList):=by
 rw[afi];cases i;cases j;simp
section
variable {X:Cx}{a b c:aH}{ta tb tc:TE}{pos:Pos}
theorem dW {bG:aP (aj×Obj)}{U:St}{H:Hp}{s:ao}{Q:VK}{k k':Bool}(I:Inv X bG U H s)(q:Q (.bl k) H)(e:k=k'):EP X bG U Q (.bool k') s:=by
 subst e;exact⟨.bl k,H,I,rfl,q⟩
theorem eG:ud X (compareOp .Eq) rEq:=by
 intro bG s U H x y v u Q I rx ry h;obtain⟨hs,q⟩:=h;cases x with
 |non=>
  cases rx;cases y with
  |non=>cases ry;exact PySem.EqNone.eq_none_none (dW I q<|by simp)
  |bl j=>cases ry;exact PySem.EqNone.eq_none_bool (dW I q<|by simp)
  |int j=>obtain⟨t',rfl⟩:=ry;exact PySem.EqNone.eq_none_int (dW I q<|by simp)
  |str j=>obtain⟨t',rfl⟩:=ry;exact PySem.EqNone.eq_none_str (dW I q<|by simp)
  |_=>exact absurd (show false=true from hs) aea
 |bl i=>
  cases rx;cases y with
  |non=>cases ry;exact PySem.EqNone.eq_bool_none (dW I q<|by simp)
  |bl j=>cases ry;exact eq_bool<|dW I q Nq
  |str j=>obtain⟨t',rfl⟩:=ry;exact PySem.EqMixed.eq_bool_str (dW I q<|by simp)
  |_=>exact absurd (show false=true from hs) aea
 |int i=>
  obtain⟨t,rfl⟩:=rx;cases y with
  |non=>cases ry;exact PySem.EqNone.eq_int_none (dW I q<|by simp)
  |int j=>obtain⟨t',rfl⟩:=ry;exact eq_int<|dW I q HJ
  |str j=>obtain⟨t',rfl⟩:=ry;exact PySem.EqMixed.eq_int_str (dW I q<|by simp)
  |_=>exact absurd (show false=true from hs) aea
 |str i=>
  obtain⟨t,rfl⟩:=rx;cases y with
  |non=>cases ry;exact PySem.EqNone.eq_str_none (dW I q<|by simp)
  |bl j=>cases ry;exact PySem.EqMixed.eq_str_bool (dW I q<|by simp)
  |int j=>obtain⟨t',rfl⟩:=ry;exact PySem.EqMixed.eq_str_int (dW I q<|by simp)
  |str j=>obtain⟨t',rfl⟩:=ry;exact eq_str<|dW I q HN
  |_=>exact absurd (show false=true from hs) aea
 |JN i=>
  obtain⟨t,rfl⟩:=rx;cases y with
  |JN j=>obtain⟨t',rfl⟩:=ry;exact PySem.W.eq_bytes<|dW I q HS
  |_=>exact absurd (show false=true from hs) aea
 |_=>cases y<;>exact absurd (show false=true from hs) aea
theorem Cq:ud X (compareOp .NotEq) rNe:=by
 intro bG s U H x y v u Q I rx ry h;obtain⟨hs,q⟩:=h;cases x with
 |non=>
  cases rx;cases y with
  |non=>cases ry;exact PySem.EqNone.ne_none_none (dW I q<|by simp)
  |bl j=>cases ry;exact PySem.EqNone.ne_none_bool (dW I q<|by simp)
  |int j=>obtain⟨t',rfl⟩:=ry;exact PySem.EqNone.ne_none_int (dW I q<|by simp)
  |str j=>obtain⟨t',rfl⟩:=ry;exact PySem.EqNone.ne_none_str (dW I q<|by simp)
  |_=>exact absurd (show false=true from hs) aea
 |bl i=>
  cases rx;cases y with
  |non=>cases ry;exact PySem.EqNone.ne_bool_none (dW I q<|by simp)
  |bl j=>cases ry;exact ne_bool<|dW I q (congrArg not Nq)
  |str j=>obtain⟨t',rfl⟩:=ry;exact PySem.EqMixed.ne_bool_str (dW I q<|by simp)
  |_=>exact absurd (show false=true from hs) aea
 |int i=>
  obtain⟨t,rfl⟩:=rx;cases y with
  |non=>cases ry;exact PySem.EqNone.ne_int_none (dW I q<|by simp)
  |int j=>obtain⟨t',rfl⟩:=ry;exact ne_int<|dW I q (congrArg not HJ)
  |str j=>obtain⟨t',rfl⟩:=ry;exact PySem.EqMixed.ne_int_str (dW I q<|by simp)
  |_=>exact absurd (show false=true from hs) aea
 |str i=>
  obtain⟨t,rfl⟩:=rx;cases y with
  |non=>cases ry;exact PySem.EqNone.ne_str_none (dW I q<|by simp)
  |bl j=>cases ry;exact PySem.EqMixed.ne_str_bool (dW I q<|by simp)
  |int j=>obtain⟨t',rfl⟩:=ry;exact PySem.EqMixed.ne_str_int (dW I q<|by simp)
  |str j=>obtain⟨t',rfl⟩:=ry;exact ne_str<|dW I q (congrArg not HN)
  |_=>exact absurd (show false=true from hs) aea
 |JN i=>
  obtain⟨t,rfl⟩:=rx;cases y with
  |JN j=>obtain⟨t',rfl⟩:=ry;exact PySem.W.ne_bytes<|dW I q (congrArg not HS)
  |_=>exact absurd (show false=true from hs) aea
 |_=>cases y<;>exact absurd (show false=true from hs) aea
theorem vH:ud X (compareOp .Lt) (Wt λi j=>.bl<|decide (i<j)):=Sh λ_ _ _ _ _ _ _ q=>lt_int q
theorem Wu:ud X (compareOp .LtE) (Wt λi j=>.bl<|decide (i<=j)):=Sh λ_ _ _ _ _ _ _ q=>le_int q
theorem Cr:ud X (compareOp .Gt) (Wt λi j=>.bl<|decide (j<i)):=Sh λ_ _ _ _ _ _ _ q=>gt_int q
theorem Ww:ud X (compareOp .GtE) (Wt λi j=>.bl<|decide (j<=i)):=Sh λ_ _ _ _ _ _ _ q=>ge_int q
theorem Nr (b:aH){op:CmpOp}(h:op≠.In:=by decide)(h2:op≠.NotIn:=by decide):behindInMarks op b=false:=by
 have e1:(op==CmpOp.In)=false:=by cases op<;>first|rfl|exact absurd rfl h
 have e2:(op==CmpOp.NotIn)=false:=by cases op<;>first|rfl|exact absurd rfl h2
 cases b<;>simp[behindInMarks,e1,e2]
theorem rE {op:CmpOp}{r:R2}(ho:ud X (compareOp op) r)(ha:PE X a ta)(hb:PE X b tb)(hm:behindInMarks op b=false:=by exact Nr _):PE X (.Compare a [op] [b] pos) (Fv r ta tb):=by
 intro bG s U H Q I h;exact wpAny_Compare1 (X3 ha hb I h λv u s2 x y H2 I2 rx ry q=>ho bG s2 U H2 x y v u Q I2 rx ry q) hm
inductive Nt (Q:Bool->Hp->Prop)(x:V)(H':Hp):Prop where
 |mk (k):(x=.bl k)->(Q k H')->Nt Q x H'
def HW (t:TE):TT:=λU H Q=>t U H (Nt Q)
theorem cH {op:CmpOp}{r:R2}(ho:ud X (compareOp op) r)(ha:PE X a ta)(hb:PE X b tb)(hm:behindInMarks op b=false:=by exact Nr _):PT X (.Compare a [op] [b] pos) (HW<|Fv r ta tb):=by
 intro bG s U H Q I h;refine wpAny_isTrue_Compare1 (gk (ha bG s U H _ I h) λv s1 ⟨x,H1,I1,r1,q1⟩=>gk (hb bG s1 U H1 _ I1 q1) λu s2 ⟨y,H2,I2,r2,q2⟩=>
  gk (ho bG s2 U H2 x y v u _ I2 r1 r2 q2) λc s3 ⟨z,H3,I3,r3,k,e,q3⟩=>?_) hm
 subst e;cases r3;exact wpAny_truthy_bool ⟨H3,I3,q3⟩
def X7 (r r':R2)(ta tb tc:TE):TE:=λU H Q=>ta U H λx H1=>tb U H1 λy H2=>r x y H2 λz H3=>∃k,z=.bl k/\
 (if k=true then tc U H3 λw' H4=>r' y w' H4 Q else Q (.bl false) H3)
theorem Cu {op op':CmpOp}{r r':R2}(ho:ud X (compareOp op) r)(ho':ud X (compareOp op') r')(ha:PE X a ta)(hb:PE X b tb)(hc:PE X c tc)
  (hm:lastMarks [op,op'] [b,c]=false:=by with_unfolding_all rfl):PT X (.Compare a [op,op'] [b,c] pos) (HW<|X7 r r' ta tb tc):=by
 intro bG s U H Q I h;refine isTrue_chain (gk (ha bG s U H _ I h) λv s1 ⟨x,H1,I1,r1,q1⟩=>test_link (gk (hb bG s1 U H1 _ I1 q1) λu s2 ⟨y,H2,I2,r2,q2⟩=>
  gk (ho bG s2 U H2 x y v u _ I2 r1 r2 q2) λd s3 ⟨z,H3,I3,r3,k,e,q3⟩=>?_)) hm
 subst e;cases r3;refine wpAny_truthy_bool ?_;cases k with
 |false=>
  obtain⟨k',e',q'⟩:=q3;cases e';exact ite_ff ⟨H3,I3,q'⟩
 |true=>
  refine ite_tt<|test_last (gk (hc bG s3 U H3 _ I3 q3) λw' s4 ⟨z',H4,I4,r4,q4⟩=>gk (ho' bG s4 U H4 y z' u w' _ I4 r2 r4 q4) λd' s5 ⟨z2,H5,I5,r5,k2,e2,q5⟩=>?_);subst e2;cases r5;exact wpAny_truthy_bool ⟨H5,I5,q5⟩
theorem nY:(sizeLine:Nat)<2^63:=by rw[sizeLine_eq];decide
inductive rF (x:V)(y:V)(H:Hp)(Q:VK):Prop where
 |mk (i) (j):(x=.str i)->(y=.str j)->(i.length+j.length<=sizeLine)->(Q (.str<|i++j) H)->rF x y H Q
theorem Ge:ud X (binaryOp .Add) rF:=by
 intro bG s U H x y v u Q I rx ry h;obtain⟨i,j,rfl,rfl,hz,q⟩:=h;obtain⟨t,rfl⟩:=rx;obtain⟨t',rfl⟩:=ry;exact add_str (λt' tk=>⟨.str<|i++j,H,I.tok _,⟨_,rfl⟩,q⟩) hz
theorem vals1 {x:V}{us:List ak}(r:Vals [x] us):∃u,us=[u]/\RelV x u:=by
 cases r with
 |cons r1 r2=>cases r2;exact⟨_,rfl,r1⟩
theorem vals2 {x y:V}{us:List ak}(r:Vals [x,y] us):∃u w',us=[u,w']/\RelV x u/\RelV y w':=by
 cases r with
 |cons r1 r2=>
  cases r2 with
  |cons r3 r4=>cases r4;exact⟨_,_,rfl,r1,r3⟩
theorem Cw:jw X (.builtin "abs") (λxs H Q=>∃i,xs=[.int i]/\Q (.int<|if i<0 then -i else i) H):=by
 intro bG s U H xs us Q I r h;obtain⟨i,rfl,q⟩:=h;obtain⟨u,rfl,t,rfl⟩:=vals1 r;exact call_abs_int λu tk=>⟨.int<|if i<0 then -i else i,H,I.tok _,⟨_,rfl⟩,q⟩
theorem J3 (hc:X.calm=true):jw X (.builtin "max") (λxs H Q=>∃i j,xs=[.int i, .int j]/\Q (.int<|if j>i then j else i) H):=by
 intro bG s U H xs us Q I r h;obtain⟨i,j,rfl,q⟩:=h;obtain⟨u,w',rfl,⟨t,rfl⟩,⟨t',rfl⟩⟩:=vals2 r;refine max_two_ints (I.ok.hd hc) λh' tk k=>⟨_,H,I.kept k,?_,q⟩;by_cases hj:j>i
 ·rw[afX hj,afX hj];exact⟨_,rfl⟩
 ·rw[afY hj,afY hj];exact⟨_,rfl⟩
theorem J4 (hc:X.calm=true):jw X (.builtin "min") (λxs H Q=>∃i j,xs=[.int i, .int j]/\Q (.int<|if j<i then j else i) H):=by
 intro bG s U H xs us Q I r h;obtain⟨i,j,rfl,q⟩:=h;obtain⟨u,w',rfl,⟨t,rfl⟩,⟨t',rfl⟩⟩:=vals2 r;refine min_two_ints (I.ok.hd hc) λh' tk k=>⟨_,H,I.kept k,?_,q⟩;by_cases hj:j<i
 ·rw[afX hj,afX hj];exact⟨_,rfl⟩
 ·rw[afY hj,afY hj];exact⟨_,rfl⟩
theorem pW:jw X (.type "int") (λxs H Q=>(∃i,xs=[.int i]/\Q (.int i) H)\/∃k,xs=[.bl k]/\Q (.int<|if k then 1 else 0) H):=by
 intro bG s U H xs us Q I r h;rcases h with ⟨i,rfl,q⟩|⟨k,rfl,q⟩
 ·obtain⟨u,rfl,t,rfl⟩:=vals1 r
  exact call_int_int ⟨.int i,H,I,⟨_,rfl⟩,q⟩
 ·obtain⟨u,rfl,r1⟩:=vals1 r
  cases r1;exact call_int_bool ⟨.int<|if k then 1 else 0,H,I.tok _,⟨_,rfl⟩,q⟩
inductive oZ (xs:List V)(H:Hp)(Q:VK):Prop where
 |mk (i):(xs=[.int i])->(i.natAbs.log2<1920)->(Q (.str<|toString i) H)->oZ xs H Q
theorem rG:jw X (.type "str") oZ:=by
 intro bG s U H xs us Q I r h;obtain⟨i,rfl,hz,q⟩:=h;obtain⟨u,rfl,t,rfl⟩:=vals1 r;exact PySem.P.str_of_int hz ⟨.str _,H,I.tok _,⟨_,rfl⟩,q⟩
end
structure Gf (h:aK)(x dx C:aj)(mA:Str->Option ak):Prop where
 obj:h.get? x=some (instObj C dx)
 ns:h.Ns1 dx mA
 ne:dx≠x
theorem Ka {h:aK}{dx:aj}{mA:Str->aO ak}(n:h.Ns1 dx mA):∃od,h.get? dx=some od/\∀name,lookIn name od=some (mA name):=by
 obtain⟨o,es,ep,ho,hd,hk,_,hm⟩:=n;refine⟨o,ho,λname=>?_⟩;have e:=hm name;unfold nsFind findBy at e;rw[<-Array.find?_toList]at e;unfold lookIn;rw[hd];dsimp only;split
 ·rename_i y q
  rw[q]at e;exact congrArg some e
 ·rename_i q
  rw[q]at e;have a:es.toList.any (·.refKey)=false:=by
   rw[List.any_eq_false];intro y hy;obtain⟨z,t,hkey⟩:=hk y (Array.mem_toList_iff.mp hy);simp[DictEntry.refKey,hkey]
  have a':¬es.toList.any (·.refKey)=true:=by rw[a];exact aea
  rw[afY a'];exact congrArg some e
theorem Gf.look {h:aK}{x dx C:aj}{mA:Str->aO ak}(I:Gf h x dx C mA):∃od,PySem.W.InstAt h x (instObj C dx) C (some od)/\∀name,lookIn name od=some (mA name) :=
 let ⟨od,ho,hl⟩:=Ka I.ns
 ⟨od,⟨I.obj,rfl,rfl,ho⟩,hl⟩
section
variable {prog:aA}{w:aG}{A:aq}{E:ak->ao->Prop}{s:ao}{K:aN}{x dx C f:aj}{mA:Str->Option ak}{name:Str}{v:ak}
theorem get_map {expr:Bool}{Q:ak->ao->Prop}(X:K.In s.heap)(I:Gf s.heap x dx C mA)(hg:plainGet K C name=true)(hh:hasDictIn K C=true)
  (ha:findIn K (.ref C) name=some none) (hv:mA name=some v) (hv':PySem.W.handedIn v=true) (h:Q v {s with toks:=s.toks+1}):
  wpAny (model prog w) A (getAttr (.ref x) name expr) Q E s:=by
 obtain⟨od,J,hl⟩:=I.look;exact PySem.W.get_value X J (afw hg).1 (PySem.W.findObj_own hh ha rfl (by rw[hl,hv])) hv' h
theorem Nu {pl:Sem Bool}{Q:ak×aP ak->ao->Prop}(X:K.In s.heap)(I:Gf s.heap x dx C mA)(hg:plainGet K C name=true)
  (hf:findIn K (.ref C) name=some (some<|.ref f)) (ht:PySem.W.isFn K (.ref f)=true) (hv:mA name=none) (h:Q (.ref f,[.ref x]) s):
  wpAny (model prog w) A (getMethod (.ref x) name pl) Q E s:=by
 obtain⟨od,J,hl⟩:=I.look;exact PySem.W.method_fn X J (afw hg).1 (afw hg).2 hf (beq_iff_eq.mp ht) (by show(lookIn name od).map (·.isSome)=some false;rw[hl,hv];rfl) h
theorem Sq {ns:aP Str}{Q:Unit->ao->Prop}(X:K.In s.heap)(I:Gf s.heap x dx C mA)
  (hs:findIn K (.ref C) "__setattr__"=some (some<|.builtin "object.__setattr__")) (hp:PySem.W.plainOver K C=true) (ht:PySem.W.takerIn K C name=some none) (hh:hasDictIn K C=true)
  (hw:PySem.Within mA ns) (hsz:ns.length<=sizeLine)
  (h:∀h',Gf h' x dx C (λy=>if y=name then some v else mA y)->Heap.SameBut dx s.heap h'->Q () {s with heap:=h',toks:=s.toks+2}):
  wpAny (model prog w) A (setAttr (.ref x) name v) Q E s:=by
 obtain⟨od,J,hl⟩:=I.look;refine PySem.W.set_plain X J hs<|PySem.W.osa_open (s:={s with toks:=s.toks+1}) (r:=none) X J hp ht λb=>?_;obtain⟨cd,hc,hd'⟩:=PySem.W.any_some hh;have hx:s.heap.get? x=some ⟨.ref C,some dx, .plain,#[]⟩:=I.obj;refine abI<|afV (abI<|abI (wpAny_loadPart hx<|abI (PySem.W.Looks.here (s:={s with toks:=s.toks+1}) (PySem.W.looks_clsIn X hc) ?_)));rw[hd'];refine afV (a:=some dx)<|abI (afV<|abI ?_);refine wpAny_nsSet1 (s:={s with toks:=s.toks+1}) I.ns λh' hn2 hs2=>?_;obtain⟨oD,esD,epD,hoD,hdD,hcD⟩:=hn2.count (PySem.Within.cons name v hw);refine abI (wpAny_lookBehind hoD (by rw[hdD];exact pastItsLine_dict (ad2 hcD<|by rw[aeB];exact afG hsz)) ?_);exact afV<|h _ ⟨(hs2.2 _<|af2 I.ne).trans I.obj,hn2,I.ne⟩ hs2
theorem Nv {R:Result->ao->Prop}{vs:aP ak}{kw:aP (Str×ak)}(X:K.In s.heap)(hm:makesIn K C=true)
  (hi:findIn K (.ref C) "__init__"=some (some<|.ref f)) (hf:PySem.W.typeIn K (.ref f)=some (.type "function"))
  (h:codeAny (model prog w) (A.under<|.builtin "type.__call__" ⟨.ref C::vs,kw⟩) (.call (.ref f) ⟨.ref (s.heap.objs.size+1)::vs,kw⟩) (PySem.W.InitBack (s.heap.objs.size+1) R)
   {s with heap:=(s.heap.push PySem.W.emptyDict).push (instObj C s.heap.objs.size)}):
  codeAny (model prog w) A (.call (.ref C) ⟨vs,kw⟩) R s:=by
 obtain⟨hh,g,d,t,os⟩:=s;exact PySem.W.make_core (PySem.W.makes_of X hm) (afc X hi) (λself=>PySem.W.bind_fn X self hf) (.inl rfl) h
end
noncomputable def jd (f:Str)(v:V):List (Str×V)->List (Str×V)
 |[]=>[(f,v)]
 |(g,x)::r=>if g=f then(g,v)::r else(g,x)::jd f v r
theorem uf (f g:Str)(v:V):∀fs:List (Str×V),(jd f v fs).lookup g=if g=f then some v else fs.lookup g
 |[]=>by
  show List.lookup g [(f,v)]=_;by_cases h:g=f
  ·have hb:(g==f)=true:=beq_iff_eq.mpr h
   simp only[List.lookup,hb,afX h]
  ·have hb:(g==f)=false:=beq_eq_false_iff_ne.mpr h
   simp only[List.lookup,hb,afY h]
 |(k,x)::r=>by
  have ih:=uf f g v r;rw[show jd f v ((k,x)::r)=(if k=f then(k,v)::r else(k,x)::jd f v r) from rfl];by_cases hk:k=f
  ·rw[afX hk]
   by_cases h:g=k
   ·have hb:(g==k)=true:=beq_iff_eq.mpr h
    simp only[List.lookup,hb,afX (h.trans hk)]
   ·have hb:(g==k)=false:=beq_eq_false_iff_ne.mpr h
    simp only[List.lookup,hb,afY (λe:g=f=>h<|e.trans hk.symm)]
  ·rw[afY hk]
   by_cases h:g=k
   ·have hb:(g==k)=true:=beq_iff_eq.mpr h
    simp only[List.lookup,hb,afY (λe:g=f=>hk<|h.symm.trans e)]
   ·have hb:(g==k)=false:=beq_eq_false_iff_ne.mpr h
    simp only[List.lookup,hb];exact ih
theorem tD (f:Str)(v:V):∀fs:List (Str×V),f∈(jd f v fs).map (·.1)/\∀g,g∈fs.map (·.1)->g∈(jd f v fs).map (·.1)
 |[]=>⟨by simp[jd],λg h=>by simp at h⟩
 |(k,x)::r=>by
  obtain⟨i1,i2⟩:=tD f v r;rw[show jd f v ((k,x)::r)=(if k=f then(k,v)::r else(k,x)::jd f v r) from rfl];by_cases hk:k=f
  ·rw[afX hk]
   subst hk;exact⟨by simp,λg h=>by simpa using h⟩
  ·rw[afY hk]
   refine⟨?_,λg h=>?_⟩
   ·rw[aei]
    exact ad0 _ i1
   ·rw[aei]at h ⊢
    rcases aev.mp h with e|e
    ·exact aev.mpr<|.inl e
    ·exact ad0 _<|i2 g e
theorem ug (f:Str)(v:V):∀fs:List (Str×V),(jd f v fs).length<=fs.length+1
 |[]=>by simp[jd]
 |(k,x)::r=>by
  have ih:=ug f v r;rw[show jd f v ((k,x)::r)=(if k=f then(k,v)::r else(k,x)::jd f v r) from rfl];by_cases hk:k=f
  ·rw[afX hk,aeB,aeB];exact aeI _
  ·rw[afY hk,aeB,aeB];exact afG ih
theorem nj.some_of {v:V}{o:Option ak}(r:nj (some v) o):∃u,o=some u/\RelV v u:=by
 cases o with
 |none=>exact(show False from r).elim
 |some u=>exact⟨u,rfl,r⟩
theorem nj.none_of {o:Option ak}(r:nj none o):o=none:=by
 cases o with
 |none=>rfl
 |some u=>exact(show False from r).elim
theorem Kc {v:V}{u:ak}(r:RelV v u):PySem.W.handedIn u=true:=by
 cases v with
 |non=>cases(show u=Value.none from r);rfl
 |bl b=>cases(show u=Value.bool b from r);rfl
 |int i=>obtain⟨t,e⟩:=(show ∃t,u=Value.int i t from r);cases e;rfl
 |str x=>obtain⟨t,e⟩:=(show ∃t,u=Value.str x t from r);cases e;rfl
 |JN b=>obtain⟨t,e⟩:=(show ∃t,u=Value.bytes b t from r);cases e;rfl
 |flt b=>obtain⟨t,e⟩:=(show ∃t,u=Value.float b t from r);cases e;rfl
 |ref a=>cases(show u=Value.ref a from r);rfl
 |ty n=>cases(show u=Value.type n from r);rfl
section
variable {P:aA}{w:aG}{H H':Hp}{h h':aK}{a C dx:aj}{fs fs':List (Str×V)}
theorem uO (hok:mK P w H h)(e:H a=some (.ins C dx fs)):∃mA,Gf h a dx C mA/\(∀f,nj (fs.lookup f)<|mA f)/\PySem.Within mA (fs.map (·.1))/\fs.length<=1000/\H dx=some (.own a):=by
 obtain⟨d,z,ne,ob,mA,n,r,q⟩:=(show fO P w H h a (.ins C dx fs) from hok a _ e);exact⟨mA,⟨ob,n,ne⟩,r,q,z,d⟩
end
structure Cls (K:aN)(C:aj):Prop where
 pg:plainGet K C Str.empty=true
 hd:hasDictIn K C=true
 po:PySem.W.plainOver K C=true
 sa:findIn K (.ref C) "__setattr__"=some (some<|.builtin "object.__setattr__")
theorem Cls.get {K:aN}{C:aj}(c:Cls K C)(f:Str):plainGet K C f=true:=c.pg
def dH (K:aN)(C:aj)(f:Str):Prop:=findIn K (.ref C) f=some none
theorem dH.taker {K:aN}{C:aj}{f:Str}(n:dH K C f):PySem.W.takerIn K C f=some none:=by
 unfold PySem.W.takerIn;rw[show findIn K (.ref C) f=some none from n]
 rfl
structure Meth (K:aN)(C:aj)(m:Str)(f:aj):Prop where
 at_:findIn K (.ref C) m=some (some<|.ref f)
 fn:PySem.W.isFn K (.ref f)=true
 kp:keepIn K (.ref f)=true
section
variable {X:Cx}{bG:List (aj×Obj)}{U:St}{H:Hp}{s:ao}{a C dx:aj}{fs:List (Str×V)}{f:Str}{v:V}{A:aq}{E:ak->ao->Prop}
theorem Gg {b:Bool}{Q:ak->ao->Prop}(I:Inv X bG U H s)(e:H a=some (.ins C dx fs))(c:Cls X.K C)(n:dH X.K C f)(l:fs.lookup f=some v)
  (h:∀u s',Inv X bG U H s'->RelV v u->Q u s'):wpAny (model X.prog X.w) A (getAttr (.ref a) f b) Q E s:=by
 obtain⟨mA,O,r,_,_,_⟩:=uO I.hok e;obtain⟨u,hu,ru⟩:=nj.some_of (v:=v) (o:=mA f) (by rw[<-l];exact r f);exact get_map I.qt O (c.get f) c.hd n hu (Kc ru)<|h u _ (I.tok _) ru
theorem Gh {m:Str}{g:aj}{pl:Sem Bool}{Q:ak×aP ak->ao->Prop}(I:Inv X bG U H s)(e:H a=some (.ins C dx fs))(c:Cls X.K C)(k:Meth X.K C m g)(l:fs.lookup m=none)
  (h:Q (.ref g,[.ref a]) s):wpAny (model X.prog X.w) A (getMethod (.ref a) m pl) Q E s:=by
 obtain⟨mA,O,r,_,_,_⟩:=uO I.hok e;have hn:mA m=none:=nj.none_of (by rw[<-l];exact r m);exact Nu I.qt O (c.get m) k.at_ k.fn hn h
theorem Gi {y:V}{u:ak}{Q:Unit->ao->Prop}(I:Inv X bG U H s)(e:H a=some (.ins C dx fs))(c:Cls X.K C)(n:dH X.K C f)(hl:fs.length<1000)(ry:RelV y u)
  (h:∀s',Inv X bG U (upd H a<|.ins C dx (jd f y fs)) s'->Q () s'):wpAny (model X.prog X.w) A (setAttr (.ref a) f u) Q E s:=by
 obtain⟨mA,O,r,wi,_,ho⟩:=uO I.hok e;have hz:(fs.map (·.1)).length<=sizeLine:=by rw[aeb,sizeLine_eq];omega
 refine Sq I.qt O c.sa c.po n.taker c.hd wi hz λh' O' sb=>h _ ?_;have hd:∃o,h'.get? dx=some o:=let ⟨o,_,_,e',_⟩:=O'.ns;⟨o,e'⟩;refine I.write (x:=a) (e:=dx) (by rw[e];exact True.intro) (.inr ho) (λb q hb z=>(sb.2 b hb).trans z) hd ?_;refine⟨by rw[bR O.ne];exact ho,?_,O.ne,O'.obj,_,O'.ns,λg=>?_,λg hg=>?_⟩
 ·have:=ug f y fs;exact ad2 this hl
 ·show nj ((jd f y fs).lookup g) (if g=f then some u else mA g)
  rw[uf];by_cases q:g=f
  ·rw[afX q,afX q];exact ry
  ·rw[afY q,afY q];exact r g
 ·by_cases q:g=f
  ·rw[q];exact(tD f y fs).1
  ·refine(tD f y fs).2 g (wi g λz=>hg ?_)
   show(if g=f then some u else mA g)=none;rw[afY q];exact z
theorem Inv.made (I:Inv X bG U H s):Inv X bG U (upd (upd H s.heap.objs.size<|.own (s.heap.objs.size+1)) (s.heap.objs.size+1)<|.ins C s.heap.objs.size [])
  {s with heap:=(s.heap.push PySem.W.emptyDict).push (instObj C s.heap.objs.size)}:=by
 have e1:(s.heap.push PySem.W.emptyDict).get? s.heap.objs.size=some PySem.W.emptyDict:=ad' s.heap rfl;have e2:((s.heap.push PySem.W.emptyDict).push<|instObj C s.heap.objs.size).get? (s.heap.objs.size+1)=some (instObj C s.heap.objs.size):=by
  have:=ad' (s.heap.push PySem.W.emptyDict) (o:=instObj C s.heap.objs.size) rfl
  rwa [aeN]at this
 have e3:(s.heap.push PySem.W.emptyDict).Ns s.heap.objs.size (λ_=>none):=⟨PySem.W.emptyDict,#[],_,e1,rfl,(λe he=>absurd he<|by simp),λ_=>rfl⟩;have I1:=I.laid (a:=s.heap.objs.size) (o:=.own<|s.heap.objs.size+1) (h':=s.heap.push PySem.W.emptyDict) (t':=s.toks) (λb u q=>adY _ q) (adZ _) ⟨_,e1⟩;refine I1.laid (a:=s.heap.objs.size+1) (o:=.ins C s.heap.objs.size []) (t':=s.toks) (λb u q=>adY _ q) (ae0<|aeN _ _) ?_;have ne:s.heap.objs.size≠s.heap.objs.size+1:=aen (aey _);refine⟨by rw[bR ne,bA],aeG _,ne,e2,λ_=>none,(Heap.Ns1.of_empty e3).at λo q=>adY _ q,λ_=>True.intro,λy hy=>absurd rfl hy⟩
theorem Ss {prog:aA}{w:aG}{env:Env}{e:aH}{f:Str}{pos:Pos}{s:ao}{Q:ak->ao->Prop}(hb:attributeBase e f env (eval e env)=eval e env)
  (h:wpAny (model prog w) A (eval e env) (λo eE=>wpAny (model prog w) A (getAttr o f true) Q E eE) E s):wpAny (model prog w) A (eval (.Attribute e f pos) env) Q E s :=
 Attribute_any_ h (by rw[arm_eval_Attribute,hb])
end
inductive Wx (K:aN)(f:Str)(Q:VK)(x:V)(H1:Hp):Prop where
 |mk (a) (C) (dx) (fs) (v):(x=.ref a)->(H1 a=some (.ins C dx fs))->(Cls K C)->(dH K C f)->(fs.lookup f=some v)->(Q v H1)->Wx K f Q x H1
def Sv (K:aN)(ta:TE)(f:Str):TE:=λU H Q=>ta U H (Wx K f Q)
inductive Wy (K:aN)(f:Str)(D:Ends)(U:St)(y:V)(x:V)(H2:Hp):Prop where
 |mk (a) (C) (dx) (fs):(x=.ref a)->(H2 a=some (.ins C dx fs))->(Cls K C)->(dH K C f)->(fs.length<1000)->(D.nx U<|upd H2 a (.ins C dx<|jd f y fs))->Wy K f D U y x H2
def aaS (K:aN)(ta tv:TE)(f:Str):TS:=λD U H=>tv U H λy H1=>ta U H1 (Wy K f D U y)
section
variable {X:Cx}{o e value:aH}{f:Str}{pos nU tpos:Pos}{ta tv:TE}
theorem X8 (he:PE X e ta)(hb:attributeBase e f X.env (eval e X.env)=eval e X.env):PE X (.Attribute e f pos) (Sv X.K ta f):=by
 intro bG s U H Q I h;refine Ss hb<|gk (he bG s U H _ I h) λu s1 ⟨x,H1,I1,rx,a,C,dx,fs,v,ex,ea,c,n,l,q⟩=>?_;subst ex;obtain rfl:u=Value.ref a:=rx;exact Gg I1 ea c n l λu' s2 I2 ru=>⟨v,H1,I2,ru,q⟩
theorem Yb (ha:PE X o ta)(hv:PE X value tv)(hs:swapsWith value (some<|.Attribute o f nU) pos.line X.env=pure false):PS X (.Assign [.Attribute o f nU] value pos) (aaS X.K ta tv f):=by
 intro bG s U H D I h;refine plainObj_wpAny_Assign_Attribute (gk (hv bG s U H _ I h) λu s1 ⟨y,H1,I1,ry,q⟩=>gk (ha bG s1 U H1 _ I1 q) λov s2 ⟨x,H2,I2,rx,a,C,dx,fs,ex,ea,c,n,l,q2⟩=>?_) hs;subst ex;obtain rfl:ov=Value.ref a:=rx;exact Gi I2 ea c n l ry λs3 I3=>⟨U,_,I3,q2⟩
end
section
variable {X:Cx}{bG:List (aj×Obj)}{U:St}{H:Hp}{s:ao}{A:aq}{E:ak->ao->Prop}{Q:ak->ao->Prop}{c:ak}{b:Bool}
inductive o9 (K:aN)(H:Hp):V->ak->Prop where
 |non:o9 K H .non (.type "NoneType")
 |bl (x:Bool):o9 K H (.bl x) (.type "bool")
 |int (i:Int):o9 K H (.int i) (.type "int")
 |str (x:Str):o9 K H (.str x) (.type "str")
 |flt (x:UInt64):o9 K H (.flt x) (.type "float")
 |lst {a:aj} {xs:List V} (e:H a=some (.lst xs)):o9 K H (.ref a) (.type "list")
 |FT {a:aj} {o:Obj} {xs:List V} (e:H a=some (.FT o<|.lst xs)):o9 K H (.ref a) (.type "list")
 |tup {a:aj} {xs:List V} (e:H a=some (.tup xs)):o9 K H (.ref a) (.type "tuple")
 |dK {a:aj} {cD:List (Key×V)} (e:H a=some (.dK cD)):o9 K H (.ref a) (.type "dict")
 |dT {a:aj} {cD:List (List Key×V)} (e:H a=some (.dT cD)):o9 K H (.ref a) (.type "dict")
 |ins {a C dx:aj} {fs:List (Str×V)} (e:H a=some (.ins C dx fs)) (cl:Cls K C) (ha:findIn K (.ref C) "__class__"=some (some<|.builtin "object.__class__"))
   (hn:specialIn K (.builtin "object.__class__") "__get__"=some (some<|.builtin "getset_descriptor.__get__")) (htk:takesIn K (.builtin "object.__class__")=some true)
   (hm:mroIn K C (.type "object")=some true):o9 K H (.ref a) (.ref C)
theorem yw {x:V}{u t:ak}(I:Inv X bG U H s)(rx:RelV x u)(ty:o9 X.K H x t)(e:kitOne X.K t c=some b)(h:∀tk,Q (.bool b) {s with toks:=tk}):
  wpAny (model X.prog X.w) A (call (.builtin "isinstance") [u,c]) Q E s:=by
 cases ty with
 |non=>cases(show u=Value.none from rx);exact aex PySem.W.kitx_none I.qt True.intro e (λz=>nomatch z) h
 |bl y=>cases(show u=Value.bool y from rx);exact aex PySem.W.kitx_bool I.qt True.intro e (λz=>nomatch z) h
 |int i=>obtain⟨t,q⟩:=(show ∃t,u=Value.int i t from rx);cases q;exact aex PySem.W.kitx_int I.qt True.intro e (λz=>nomatch z) h
 |str y=>obtain⟨t,q⟩:=(show ∃t,u=Value.str y t from rx);cases q;exact aex PySem.W.kitx_str I.qt True.intro e (λz=>nomatch z) h
 |flt y=>obtain⟨t,q⟩:=(show ∃t,u=Value.float y t from rx);cases q;exact aex PySem.W.kitx_float I.qt True.intro e (λz=>nomatch z) h
 |@lst a xs ea=>
  cases(show u=Value.ref a from rx);obtain⟨_,_,n,_,h1⟩:=(show fO X.prog X.w H s.heap a (.lst xs) from I.hok a _ ea);exact aex PySem.W.kitx_list I.qt ⟨_,h1,rfl⟩ e (λz=>nomatch z) h
 |@FT a ob xs ea=>
  cases(show u=Value.ref a from rx);obtain⟨_,_,_,n,_,h1⟩:=(show fO X.prog X.w H s.heap a (.FT ob<|.lst xs) from I.hok a _ ea);exact aex PySem.W.kitx_list I.qt ⟨_,h1,rfl⟩ e (λz=>nomatch z) h
 |@tup a xs ea=>
  cases(show u=Value.ref a from rx);obtain⟨_,_,_,p⟩:=(show fO X.prog X.w H s.heap a (.tup xs) from I.hok a _ ea);obtain⟨o,h1,h2,_⟩:=p;exact aex PySem.W.kitx_tuple I.qt ⟨o,h1,h2⟩ e (λz=>nomatch z) h
 |@dK a cD ea=>
  cases(show u=Value.ref a from rx);obtain⟨_,_,vs,_,p⟩:=(show fO X.prog X.w H s.heap a (.dK cD) from I.hok a _ ea);obtain⟨o,es,ep,h1,h2,_⟩:=p;exact aex PySem.W.kitx_dict I.qt ⟨o,h1,h2.1⟩ e (λz=>nomatch z) h
 |@dT a cD ea=>
  cases(show u=Value.ref a from rx);obtain⟨_,_,xs,_,o,es,ep,h1,h2,_⟩:=(show fO X.prog X.w H s.heap a (.dT cD) from I.hok a _ ea);exact aex PySem.W.kitx_dict I.qt ⟨o,h1,h2.1⟩ e (λz=>nomatch z) h
 |@ins a C dx fs ea cl ha hn htk hm=>
  cases(show u=Value.ref a from rx);obtain⟨mA,O,_⟩:=uO I.hok ea;obtain⟨od,J,_⟩:=O.look;exact aex (PySem.W.kitx_own (cl.get _) cl.hd ha hn htk hm) I.qt J e (λz=>nomatch z) h
end
structure gA (k:Nat)(A:aq):Prop where
 hd:A.handled=none
 dp:A.depth+3*k+5<recursionLimit
 un:A.units+16*k+200<cLine
theorem gA.mono {j k:Nat}{A:aq}(r:gA k A)(h:j<=k):gA j A:=⟨r.hd,by have:=r.dp;omega,by have:=r.un;omega⟩
theorem gA.deeper {k:Nat}{A:aq}(r:gA (k+1) A)(env:Env):gA k (A.deeper env) :=
 ⟨r.hd,by have:=r.dp;show A.depth+1+3*k+5<_;omega,by have:=r.un;show A.units+3+16*k+200<_;omega⟩
theorem Gj {A:aq}{C:aj}{us:aP ak}{kw:aP (Str×ak)}:(A.under<|.builtin "type.__call__" ⟨.ref C::us,kw⟩).depth=A.depth+1:=by
 first|rfl|simp[Around.under,Code.weight,Code.isCreation,Code.isGuard,Code.isCaller,Code.frames,Code.isFrame,guardIds]
theorem Gk {A:aq}{C:aj}{us:aP ak}{kw:aP (Str×ak)}:(A.under<|.builtin "type.__call__" ⟨.ref C::us,kw⟩).units=A.units+1:=by
 first|rfl|simp[Around.under,Code.cUnits,Code.frames,Code.isFrame]
theorem gA.make {k:Nat}{A:aq}(r:gA (k+1) A)(C:aj)(us:aP ak)(kw:aP (Str×ak)):gA k (A.under<|.builtin "type.__call__" ⟨.ref C::us,kw⟩) :=
 ⟨r.hd,by have:=r.dp;rw[Gj];omega,by have:=r.un;rw[Gk];omega⟩
theorem gA.depth {k:Nat}{A:aq}(r:gA k A):A.depth<recursionLimit:=by have:=r.dp;omega
theorem gA.units {k:Nat}{A:aq}(r:gA k A):A.units+64<cLine:=by have:=r.un;omega
def tE:TA:=λ_ H Q=>Q [] H
def gQ (ta:TE)(tr:TA):TA:=λU H Q=>ta U H λx H1=>tr U H1 λxs H2=>Q (x::xs) H2
section
variable {X:Cx}{e:aH}{es:List aH}{te:TE}{t:TA}{pos:Pos}
theorem bH:PA X [] tE:=λ_ _ _ _ H Q I h=>Calls.spliced_nil ⟨[],H,I, .nil,h⟩
theorem bx (ha:PE X e te)(hr:PA X es t)(hs:starEach (e::es) X.env=(false,eval e X.env)::starEach es X.env:=by rfl):PA X (e::es) (gQ te t):=by
 intro pos bG s U H Q I h;rw[hs];show wpAny _ _ (spliced ((false,eval e X.env)::backTo pos (starEach es X.env))) _ _ s;refine Calls.spliced_cons<|gk (ha bG s U H _ I h) λu s1 ⟨x,H1,I1,r1,q1⟩=>?_;exact gk (hr pos bG s1 U H1 _ I1 q1) λus s2 ⟨xs,H2,I2,r2,q2⟩=>⟨x::xs,H2,I2, .cons r1 r2,q2⟩
inductive HX (Q:VK)(xs:List V)(H1:Hp):Prop where
 |mk:(xs.length<=sizeLine)->(∀p,H1 p=none->Q (.ref p) (upd H1 p<|.tup xs))->HX Q xs H1
def Kd (t:TA):TE:=λU H Q=>t U H (HX Q)
inductive Wz (Q:VK)(xs:List V)(H1:Hp):Prop where
 |mk:(xs.length<=sizeLine)->(∀p,H1 p=none->Q (.ref p) (upd H1 p<|.lst xs))->Wz Q xs H1
def Yc (t:TA):TE:=λU H Q=>t U H (Wz Q)
theorem eO {x1}(h:PA X es t):PE X (.Tuple es x1 pos) (Kd t):=by
 intro bG s U H Q I hq;refine wpAny_Tuple_spliced (gk (h pos bG s U H _ I hq) λus s1 ⟨xs,H1,I1,r,z,q⟩=>⟨by rw[<-r.length];exact z,?_⟩);have hf:H1 s1.heap.objs.size=none:=I1.hok.fresh (adZ _);refine⟨.ref s1.heap.objs.size,upd H1 s1.heap.objs.size<|.tup xs,I1.laid (t':=s1.toks) (λb u e=>adY _ e) (adZ _) ?_,rfl,q _ hf⟩;exact⟨z,us,r,⟨_,ad' _ rfl,rfl,_,rfl⟩⟩
theorem gJ (h:PA X es t):PE X (.List es pos) (Yc t):=by
 intro bG s U H Q I hq;refine wpAny_List_spliced (gk (h pos bG s U H _ I hq) λus s1 ⟨xs,H1,I1,r,z,q⟩=>⟨by rw[<-r.length];exact z,?_⟩);have hf:H1 s1.heap.objs.size=none:=I1.hok.fresh (adZ _);refine⟨.ref s1.heap.objs.size,upd H1 s1.heap.objs.size<|.lst xs,I1.laid (t':=s1.toks) (λb u e=>adY _ e) (adZ _) ?_,rfl,q _ hf⟩;exact⟨z,us,0,r,ad' _ rfl⟩
end
abbrev Sp:=List V->Hp->VK->XK->Prop
abbrev HY:=List Env->Hp->ao->XK->ak->ao->Prop
structure xW (P:aA)(w:aG)(K:aN)(mg:Str->Option ak)(aV:aK)(A:aq)(aU:List Env)(s:ao)(H:Hp):Prop where
 frames:A.frames=some aU
 mod:Mod K mg aV
 bs:∀b o,aV.get? b=some o->s.heap.get? b=some o/\H b=none
 BL:aV.objs.size<=s.heap.objs.size
 mO:s.heap.FunFrames aV aU
 Fq:∀b∈frs aU,H b=none
 hok:mK P w H s.heap
 bare:AllBare s.gens
def CE (aU:List Env)(P:aA)(w:aG)(H:Hp)(s:ao)(Q:VK)(u:ak)(s':ao):Prop :=
 ∃v H',s'.os=s.os/\AllBare s'.gens/\Un (frs aU) [] H H' s.heap s'.heap/\mK P w H' s'.heap/\RelV v u/\Q v H'
def CR (CX:HY)(aU:List Env)(P:aA)(w:aG)(H:Hp)(s:ao)(Q:VK)(E:XK)(r:Result)(s':ao):Prop :=
 match r with
 |.ok (.ret u)=>CE aU P w H s Q u s'
 |.ok _=>False
 |.error e=>CX aU H s E e s'
structure cP (P:aA)(w:aG)(K:aN)(mg:Str->Option ak)(aV:aK)(CX:HY)(k:Nat)(f:aj)(fd:FuncData)(ps:List Str)(sp:Sp):Prop where
 len:∀vs H Q E,sp vs H Q E->vs.length=ps.length
 run:∀(A:aq) (aU:List Env) (s:ao) (H:Hp) (args:Args) (us:List ak) (vs:List V) (Q:VK) (E:XK),gA k A->xW P w K mg aV A aU s H->BindsTo s fd args (ps.zip us)->Vals vs us->sp vs H Q E->
  codeAny (model P w) A (.call (.ref f) args) (CR CX aU P w H s Q E) s
theorem xW.make {P:aA}{w:aG}{K:aN}{mg:Str->aO ak}{aV:aK}{A:aq}{aU:aP Env}{s:ao}{H:Hp}(e:xW P w K mg aV A aU s H)(C:aj)(us:aP ak)(kw:aP (Str×ak)):
  xW P w K mg aV (A.under<|.builtin "type.__call__" ⟨.ref C::us,kw⟩) aU s H:=⟨by first|exact e.frames|(simpa[Around.under,Code.envs,Code.isFrame,pushEnvs] using e.frames),e.mod,e.bs,e.BL,e.mO,e.Fq,e.hok,e.bare⟩
section
variable {X:Cx}{bG:List (aj×Obj)}{U:St}{H:Hp}{s s':ao}
theorem Inv.env0 (I:Inv X bG U H s):xW X.prog X.w X.K X.mg X.base X.A X.stack s H :=
 ⟨I.ok.frames,I.ok.mod,I.bs,ad2 I.ok.BL I.sz,I.stack,I.nR,I.hok,I.bare⟩
theorem Inv.after {Q:VK}{u:ak}(I:Inv X bG U H s)(h:CE X.stack X.prog X.w H s Q u s'):EP X bG U Q u s':=by
 obtain⟨v,H',os,bare,un,hok,r,q⟩:=h;obtain⟨hh,g,d,t,os'⟩:=s';obtain rfl:os'=s.os:=os;exact⟨v,H',I.call (h':=hh) (g':=g) (d':=d) (t':=t) (ch:=[]) un hok bare (λb z=>absurd z<|by simp),r,q⟩
end
def Cy (sp:Sp)(xR:List V)(E:XK)(t:TA):TE:=λU H Q=>t U H λvs H1=>sp (vs++xR) H1 Q E
inductive Ny (C:aj)(m:Str)(sp:Sp)(xR:List V)(E:XK)(t:TA)(U:St)(Q:VK)(x:V)(H1:Hp):Prop where
 |mk (a) (dx) (fs):(x=.ref a)->(H1 a=some (.ins C dx fs))->(fs.lookup m=none)->(t U H1 λvs H2=>sp (x::(vs++xR)) H2 Q E)->Ny C m sp xR E t U Q x H1
def aaT (C:aj)(m:Str)(sp:Sp)(xR:List V)(E:XK)(ta:TE)(t:TA):TE:=λU H Q=>ta U H (Ny C m sp xR E t U Q)
def aaU (C:aj)(sp:Sp)(xR:List V)(E:XK)(t:TA):TE:=λU H Q=>t U H λvs H1=>∀x dx,H1 x=none->H1 dx=none->dx≠x->
 sp (.ref x::(vs++xR)) (upd (upd H1 dx<|.own x) x<|.ins C dx []) (λv H2=>v=.non/\Q (.ref x) H2) E
def Binds (K:aN)(fd:FuncData)(ps:List Str)(ds:List ak):Prop :=
 ∀(s:ao) (us:List ak),K.In s.heap->(us++ds).length=ps.length->BindsTo s fd ⟨us,[]⟩ (ps.zip<|us++ds)
theorem Binds.all {K:aN}{fd:FuncData}{ps:aP Str}(h:∀us:aP ak,us.length=ps.length->bindArgs fd ⟨us,[]⟩=pure (ps.zip us)):Binds K fd ps []:=λs us _ hl=>by
 rw[aep]at hl ⊢;exact .of_eq<|h us hl
def Passes (CX:HY)(X:Cx)(E:XK):Prop:=∀(bG:List (aj×Obj)) (U:St) (H:Hp) (s:ao) (e:ak) (s':ao),Inv X bG U H s->CX X.stack H s E e s'->X.xe e s'
section
variable {X:Cx}{CX:HY}{k:Nat}{f C:aj}{fd:FuncData}{ps:List Str}{sp:Sp}{xR:List V}{ds:List ak}{E:XK}{x m:Str}{p pos lJ:Pos}{e o:aH}{es:List aH}{ta:TE}{t:TA}
theorem Gm {bG:List (aj×Obj)}{U:St}{H:Hp}{s:ao}{Q:VK}{us:List ak}{vs:List V}(F:cP X.prog X.w X.K X.mg X.base CX k f fd ps sp)(hr:gA k X.A)(hb:Binds X.K fd ps ds)(hd:Vals xR ds)(hx:Passes CX X E)
  (I:Inv X bG U H s) (r:Vals vs us) (h:sp (vs++xR) H Q E):wpAny (model X.prog X.w) X.A (call (.ref f) us) (EP X bG U Q) X.xe s:=by
 have r2:Vals (vs++xR) (us++ds):=r.append hd;have hl:(us++ds).length=ps.length:=by rw[<-r2.length];exact F.len _ _ _ _ h
 refine wpAny_call<|codeAny_mono (F.run X.A X.stack s H ⟨us,[]⟩ (us++ds) (vs++xR) Q E hr I.env0 (hb s us I.qt hl) r2 h) λr s' hq=>?_;cases r with
 |error e=>exact hx bG U H s e s' I hq
 |ok fl=>
  cases fl with
  |ret u=>exact I.after hq
  |next=>exact af7 hq
  |brk=>exact af7 hq
  |cont=>exact af7 hq
theorem eF (F:cP X.prog X.w X.K X.mg X.base CX k f fd ps sp)(hr:gA k X.A)(hg:Gl X x)(hm:X.mg x=some (.ref f))(hk:keepIn X.K (.ref f)=true)(hb:Binds X.K fd ps ds)(hd:Vals xR ds)(hx:Passes CX X E)
  (ha:PA X (e::es) t) (hdb:(x==("__debug__":Str))=false:=by decide) (he:starEach (e::es) X.env=(false,eval e X.env)::starEach es X.env:=by rfl) (iH:(backTo pos<|starEach es X.env).any (·.1)=false:=by rfl):
  PE X (.Call (.Name x p) (e::es) [] pos) (Cy sp xR E t):=by
 intro bG s U H Q I h;refine wpAny_Call_Name_kw<|lZ I hg hm ?_ hdb;refine ae6 (h₀:=X.base) I.ok.mod.JR hk (gk (ha pos bG s U H _ I h) λus s1 ⟨vs,H1,I1,r,q⟩=>⟨I1.qt,?_⟩) he iH;exact Gm F hr hb hd hx I1 r q
theorem Cz {pl:Sem Bool}(he:PE X o ta)(c:Cls X.K C)(hm:Meth X.K C m f)(F:cP X.prog X.w X.K X.mg X.base CX k f fd ps sp)(hr:gA k X.A)(hb:Binds X.K fd ps ds)(hd:Vals xR ds)(hx:Passes CX X E)
  (ht:eval (.Call (.Attribute o m lJ) [] [] pos) X.env=(do
   let ov <-eval o X.env
   standAt lJ.atName
   let (f,first) <-holding [ov] (getMethod ov m pl)
   callWith pos f first (backTo pos<|starEach [] X.env) (backToKw pos<|keywordEach [] X.env)):=by rfl):
  PE X (.Call (.Attribute o m lJ) [] [] pos) (aaT C m sp xR E ta tE):=by
 intro bG s U H Q I h;refine PySem.W.methodCall_KW (pl:=pl) (gk (he bG s U H _ I h) λu s1 ⟨x,H1,I1,rx,a,dx,fs,ex,ea,l,q⟩=>?_) ht;subst ex;obtain rfl:u=Value.ref a:=rx;refine Gh I1 ea c hm l ?_;exact PySem.W.callWith_K0 (first:=[.ref a]) I1.qt hm.kp<|Gm (us:=[.ref a]) (vs:=[.ref a]) F hr hb hd hx I1 (.cons rfl .nil) q
structure Mk (K:aN)(C f:aj):Prop where
 makes:makesIn K C=true
 init:findIn K (.ref C) "__init__"=some (some<|.ref f)
 fn:PySem.W.isFn K (.ref f)=true
 kp:keepIn K (.ref C)=true
theorem Nz {bG:List (aj×Obj)}{U:St}{H:Hp}{s:ao}{Q:VK}{us:List ak}{vs:List V}(M:Mk X.K C f)(F:cP X.prog X.w X.K X.mg X.base CX k f fd ps sp)(hr:gA (k+1) X.A)(hb:Binds X.K fd ps ds)(hd:Vals xR ds)
  (hx:Passes CX X E) (I:Inv X bG U H s) (r:Vals vs us)
  (h:∀x dx,H x=none->H dx=none->dx≠x->sp (.ref x::(vs++xR)) (upd (upd H dx<|.own x) x<|.ins C dx []) (λv H2=>v=.non/\Q (.ref x) H2) E):
  wpAny (model X.prog X.w) X.A (call (.ref C) us) (EP X bG U Q) X.xe s:=by
 have hq:=h (s.heap.objs.size+1) s.heap.objs.size (I.hok.fresh<|aeI _) (I.hok.fresh<|adZ _) (aen<|aey _);have I2:=Inv.made (C:=C) I;have r2:Vals (V.ref (s.heap.objs.size+1)::(vs++xR)) (Value.ref (s.heap.objs.size+1)::(us++ds)):=.cons rfl (r.append hd);have hl:(Value.ref (s.heap.objs.size+1)::us++ds).length=ps.length:=by
  have e:=r2.length;rw[F.len _ _ _ _ hq]at e;exact e.symm
 refine wpAny_call (Nv (f:=f) I.qt M.makes M.init (beq_iff_eq.mp M.fn) (codeAny_mono (F.run _ X.stack _ _ ⟨Value.ref (s.heap.objs.size+1)::us,[]⟩ (Value.ref (s.heap.objs.size+1)::(us++ds)) _ _ E (hr.make C us [])
  (I2.env0.make C us []) (hb _ (Value.ref (s.heap.objs.size+1)::us) I2.qt hl) r2 hq) λr s' hq'=>?_))
 cases r with
 |error e=>exact hx bG U _ _ e s' I2 hq'
 |ok fl=>
  cases fl with
  |ret u=>
   obtain⟨v,H',I3,rv,ev,q3⟩:=I2.after hq';subst ev;exact⟨rv,⟨V.ref<|s.heap.objs.size+1,H',I3,rfl,q3⟩⟩
  |next=>exact af7 hq'
  |brk=>exact af7 hq'
  |cont=>exact af7 hq'
theorem rH (M:Mk X.K C f)(F:cP X.prog X.w X.K X.mg X.base CX k f fd ps sp)(hr:gA (k+1) X.A)(hg:Gl X x)(hm:X.mg x=some (.ref C))(hb:Binds X.K fd ps ds)(hd:Vals xR ds)(hx:Passes CX X E)
  (ha:PA X (e::es) t) (hdb:(x==("__debug__":Str))=false:=by decide) (he:starEach (e::es) X.env=(false,eval e X.env)::starEach es X.env:=by rfl) (iH:(backTo pos<|starEach es X.env).any (·.1)=false:=by rfl):
  PE X (.Call (.Name x p) (e::es) [] pos) (aaU C sp xR E t):=by
 intro bG s U H Q I h;refine wpAny_Call_Name_kw<|lZ I hg hm ?_ hdb;refine ae6 (h₀:=X.base) I.ok.mod.JR M.kp (gk (ha pos bG s U H _ I h) λus s1 ⟨vs,H1,I1,r,q⟩=>⟨I1.qt,?_⟩) he iH;exact Nz M F hr hb hd hx I1 r q
end
section
variable {X:Cx}{CX:HY}{k:Nat}{f C:aj}{fd:FuncData}{ps ks:List Str}{sp:Sp}{E:XK}{x m:Str}{p pos lJ kpos:Pos}{e o:aH}{es:List aH}{kws:List Keyword}{te ta:TE}{t tk:TA}{nm:Option Str}
variable {g:List ak->List ak->List ak}{gV:List V->List V->List V}
end
structure bZ (N P:List Str)(sc:Scope):Prop where
 kind:sc.kind=.function:=by rfl
 co:sc.isCoroutine=false:=by rfl
 gen:sc.isGenerator=false:=by rfl
 nd:N.Nodup:=by decide+kernel
 pre:N.take P.length=P:=by rfl
 par:∀x∈P,sc.names.lookup x=some .local\/sc.names.lookup x=some .cell:=by decide+kernel
 Yd:∀y∈sc.names,y.2≠.free:=by decide+kernel
theorem yx {kindOf:Str->Option NameKind}{x:Str}:∀{binds:List (Str×ak)} {m:Str->Option ak},(∀v,(x,v)∉binds)->bindL kindOf binds m x=m x
 |[],_,_=>rfl
 |(n,v)::r,m,h=>by
  unfold bindL;rw[yx λw hw=>h w (ad0 _ hw)];split
  ·have:x≠n:=by rintro rfl;exact h v ad3
   simp[this]
  ·rfl
theorem yC {kindOf:Str->Option NameKind}{x:Str}:∀{binds:List (Str×ak)} {m:Str->Option ak},(∀v,(x,v)∉binds)->bindC kindOf binds m x=m x
 |[],_,_=>rfl
 |(n,v)::r,m,h=>by
  unfold bindC;rw[yC λw hw=>h w (ad0 _ hw)];split
  ·rfl
  ·have:x≠n:=by rintro rfl;exact h v ad3
   simp[this]
theorem Kf {kindOf:Str->Option NameKind}{x:Str}{v:ak}{P:List Str}{vs:List ak}{i:Nat}{m:Str->Option ak}(nd:P.Nodup)(h1:P[i]?=some x)(h2:vs[i]?=some v)(hk:kindOf x=some .local):
  bindL kindOf (P.zip vs) m x=some v:=by
 induction P generalizing vs i m with
 |nil=>simp at h1
 |cons p P ih=>cases vs with
  |nil=>simp at h2
  |cons w vs=>
   show bindL kindOf ((p,w)::P.zip vs) m x=_;unfold bindL;cases i with
   |zero=>
    cases h1;cases h2;rw[yx λv hv=>(afu.mp nd).1 (afr hv).1,afX hk];simp
   |succ i=>exact ih (i:=i) (afu.mp nd).2 h1 h2
theorem Kg {kindOf:Str->Option NameKind}{x:Str}{v:ak}{P:List Str}{vs:List ak}{i:Nat}{m:Str->Option ak}(nd:P.Nodup)(h1:P[i]?=some x)(h2:vs[i]?=some v)(hk:kindOf x≠some .local):
  bindC kindOf (P.zip vs) m x=some v:=by
 induction P generalizing vs i m with
 |nil=>simp at h1
 |cons p P ih=>cases vs with
  |nil=>simp at h2
  |cons w vs=>
   show bindC kindOf ((p,w)::P.zip vs) m x=_;unfold bindC;cases i with
   |zero=>
    cases h1;cases h2;rw[yC λv hv=>(afu.mp nd).1 (afr hv).1,afY hk];simp
   |succ i=>exact ih (i:=i) (afu.mp nd).2 h1 h2
noncomputable def start (N:List Str)(vs:List V):St:=vs.map some++List.replicate (N.length-vs.length) none
noncomputable def dX (CX:HY)(P:aA)(w:aG)(K:aN)(mg:Str->Option ak)(aV:aK)(N:List Str)(bf:Str)(aZ:Scope)(f:aj)(cd:ak)(A:aq)(aU:List Env)(s:ao)(H:Hp)(E:XK):Cx where
 prog:=P
 w:=w
 K:=K
 mg:=mg
 base:=aV
 A:=A.deeper (envOfC bf aZ s.heap.objs.size f cd)
 N:=N
 s₀:=s
 H₀:=H
 env:=envOfC bf aZ s.heap.objs.size f cd
 outer:=aU
 stack:=envOfC bf aZ s.heap.objs.size f cd::aU
 ex:=[]
 calm:=true
 fn:=λ_=>true
 pn:=[]
 xe:=λe s'=>wpAny (model P w) (A.deeper<|envOfC bf aZ s.heap.objs.size f cd) (leaving (envOfC bf aZ s.heap.objs.size f cd) e) (λ_ s''=>CX aU H s E e s'') (λe' s''=>CX aU H s E e' s'') s'
theorem CG {sc:Scope}{n:Nat}{x:Str}(h:sc.names.lookup x=some .cell):∃c,(cellsFrom n sc.names []).lookup x=some c:=by
 have q:=afm sc.names n [] (.inl h);exact Option.isSome_iff_exists.mp q
theorem yD {CX:HY}{P:aA}{w:aG}{K:aN}{mg:Str->aO ak}{aV:aK}{N ps:aP Str}{bf:Str}{aZ:Scope}{f:aj}{cd:ak}{A:aq}{aU:aP Env}{s s1:ao}{H:Hp}{E:XK}{us:aP ak}{vs:aP V}
  (S:bZ N ps aZ) (hd:A.handled=none) (e0:xW P w K mg aV A aU s H) (hl:vs.length=ps.length) (r:Vals vs us)
  (x:InCallC s s.heap.objs.size (bindL (envOfC bf aZ s.heap.objs.size f cd).kindOf (ps.zip us) λ_=>none) (cellsFrom (s.heap.objs.size+1) aZ.names []) (bindC (envOfC bf aZ s.heap.objs.size f cd).kindOf (ps.zip us) λ_=>none) s1):
  Inv (dX CX P w K mg aV N bf aZ f cd A aU s H E) [] (start N vs) H s1:=by
 have iH:ps.length<=N.length:=by have:=congrArg List.length S.pre;rw[aeh]at this;omega
 obtain⟨h1,tk,rfl,hk⟩:=x.done;have noA:∀b:aj,b∉(dX CX P w K mg aV N bf aZ f cd A aU s H E).ex:=λb z=>absurd (show b∈([]:aP aj) from z) (by simp);refine⟨⟨e0.mod,S.kind,rfl,rfl,adZ _,λy z c h1 h2=>?_,λy hy=>?_,λy c _ h=>?_,λ_=>hd,Around.frames_deeper e0.frames, .inr ⟨rfl,rfl⟩,λb z=>absurd z<|noA b,e0.bs,e0.BL,λb _ _=>noA b,λb z=>absurd z<|noA b,e0.mO,e0.Fq⟩,
  rfl,e0.bare,Un.kept hk,⟨_,x.toInCall.ns,λi y v h1 h2 h3=>?_⟩,λy c h=>⟨_,x.cell y c h⟩,e0.hok.fresh<|adZ _,λy c h=>?_,λp hp=>absurd (show p∈([]:aP (aj×Obj)) from hp) (by simp),e0.hok.kept hk,?_⟩
 ·exact name_of_addr x.apart (PySem.mem_of_lookup h1)<|PySem.mem_of_lookup h2
 ·have hy:aZ.names.lookup y=some .cell\/aZ.names.lookup y=some .free:=hy
  rcases hy with hy|hy
  ·exact CG hy
  ·exact absurd rfl (S.Yd _<|PySem.mem_of_lookup hy)
 ·exact aeF<|x.above y c (PySem.mem_of_lookup h)
 ·have hi:i<vs.length:=by
   unfold start at h2;by_cases hi:i<vs.length
   ·exact hi
   ·rw[aef (by simpa using hi)]at h2
    rw[afL]at h2;split at h2<;>cases h2
  have ha:vs[i]?=some v:=by
   unfold start at h2;rw[ad6 (by simpa using hi),aee]at h2;cases e:vs[i]? with
   |none=>rw[e]at h2;cases h2
   |some a=>rw[e]at h2;cases h2;rfl
  obtain⟨u,hu,rv⟩:=r.get ha;have hp:ps[i]?=some y:=by
   rw[<-S.pre,List.getElem?_take_of_lt (by exact aeo hi hl)];exact h1
  have ndP:ps.Nodup:=by rw[<-S.pre];exact S.nd.sublist<|List.take_sublist _ _
  refine⟨u,rv,?_⟩;rcases S.par y (aeJ hp) with k|k
  ·exact .inl ⟨k,Kf ndP hp hu k⟩
  ·obtain⟨c,e⟩:=CG (n:=s.heap.objs.size+1) k
   refine .inr ⟨.inl k,c,e,?_⟩;have q:=x.cell y c e;rw[Kg ndP hp hu (by show aZ.names.lookup y≠_;rw[k];decide)]at q;exact q
 ·exact e0.hok.fresh<|aeF (x.above y c<|PySem.mem_of_lookup h)
 ·unfold start
  show _=N.length;rw[adV,aeb,afb];omega
theorem NK {CX:HY}{P:aA}{w:aG}{K:aN}{mg:Str->Option ak}{aV:aK}{k:Nat}{f:aj}{name bf:Str}{params:Arguments}{body:List aJ}{aZ:Scope}{dV kV mZ pm dF ct oc:ak}{an od:Option aj}
  {osl:Array (Option ak)} {N ps:List Str} {sp:Sp} (lk:K.lookup f=some ⟨oc,od, .func<|fnOf name bf params body aZ dV kV mZ pm an dF ct,osl⟩) (xV:codeIn K dF bf=true) (S:bZ N ps aZ)
  (len:∀vs H Q E,sp vs H Q E->vs.length=ps.length)
  (hbody:∀(A:aq) (aU:List Env) (s:ao) (H:Hp) (vs:List V) (Q:VK) (E:XK),gA k (A.deeper<|envOfC bf aZ s.heap.objs.size f dF)->sp vs H Q E->
   ∃t,xU (dX CX P w K mg aV N bf aZ f dF A aU s H E) body t/\t (Ends.of Q) (start N vs) H):
  cP P w K mg aV CX (k+1) f (fnOf name bf params body aZ dV kV mZ pm an dF ct) ps sp:=by
 refine⟨len,λA aU s H args us vs Q E hr e0 hb r hsp=>?_⟩;have hl:=len _ _ _ _ hsp;have KX:K.In s.heap:=e0.mod.JR.keeps λb o e=>(e0.bs b o e).1;have lim:s.heap.NoLimit:=e0.mod.nolimit.keeps λb o e=>(e0.bs b o e).1;have hkind:∀y∈ps.zip us,aZ.names.lookup y.1=some .local\/(aZ.names.lookup y.1=some .cell/\((cellsFrom (s.heap.objs.size+1) aZ.names []).lookup y.1).isSome=true):=λ⟨n,v⟩ hy=>by
  rcases S.par n (afr hy).1 with q|q
  ·exact .inl q
  ·exact .inr ⟨q,afm _ _ _<|.inl q⟩
 refine codeAny_call_function hr.depth (KX _ _ lk) rfl S.co S.gen rfl (PySem.W.codeRec_of KX xV) (hb _ _ _ _ ?_);refine wpAny_newFunctionEnv_cells S.kind hkind λenv he s1 x=>?_;subst he;refine⟨lim.keeps x.toInCall.keep,codeAny_func ?_⟩;obtain⟨t,ht,hq⟩:=hbody A aU s H vs Q E (hr.deeper _) hsp;have I:Inv (dX CX P w K mg aV N bf aZ f dF A aU s H E) [] (start N vs) H s1:=yD S hr.hd e0 hl r x;refine wpAny_mono (ht [] s1 (start N vs) H _ I hq) (λfl s' hs=>?_) λe s' hs=>hs;have fin:∀{U':St} {H':Hp} {v:V} {u:ak},Inv (dX CX P w K mg aV N bf aZ f dF A aU s H E) [] U' H' s'->RelV v u->Q v H'->CE aU P w H s Q u s' :=
  λ{U' H' v u} J rv q=>⟨v,H',J.os,J.bare,J.base,J.hok,rv,q⟩
 cases fl with
 |ret u=>
  obtain⟨v,U',H',J,rv,q⟩:=hs;exact fin J rv q
 |next=>
  obtain⟨U',H',J,q⟩:=hs;exact fin (v:=V.non) (u:=Value.none) J rfl q
 |brk=>
  obtain⟨_,_,_,q⟩:=hs;exact af7 q
 |cont=>
  obtain⟨_,_,_,q⟩:=hs;exact af7 q
section
variable {X:Cx}{x:Str}{p pos:Pos}{e:aH}{es:List aH}{t:TA}{id T:String}{r:List V->Hp->VK->Prop}
def tCB (r:List V->Hp->VK->Prop)(t:TA):TE:=λU H Q=>t U H λvs H1=>r vs H1 Q
theorem cu (hc:jw X (.builtin id) r)(hg:Gl X x)(hm:X.mg x=none)(hv:bootBuiltins x=some (.builtin id))(ha:PA X (e::es) t)(hn:x≠"__name__":=by decide)(hdb:(x==("__debug__":Str))=false:=by decide)
  (he:starEach (e::es) X.env=(false,eval e X.env)::starEach es X.env:=by rfl) (iH:(backTo pos<|starEach es X.env).any (·.1)=false:=by rfl):PE X (.Call (.Name x p) (e::es) [] pos) (tCB r t):=by
 intro bG s U H Q I h;refine wpAny_Call_Name_kw<|qN I hg hm hv ?_ hn hdb;exact PyProof.Rows.callWith_builtin1 (gk (ha pos bG s U H _ I h) λus s1 ⟨vs,H1,I1,r1,q1⟩=>hc bG s1 U H1 vs us Q I1 r1 q1) he iH
theorem eU (hc:jw X (.type T) r)(hg:Gl X x)(hm:X.mg x=none)(hv:bootBuiltins x=some (.type T))(ha:PA X (e::es) t)(hn:x≠"__name__":=by decide)(hdb:(x==("__debug__":Str))=false:=by decide)
  (he:starEach (e::es) X.env=(false,eval e X.env)::starEach es X.env:=by rfl) (iH:(backTo pos<|starEach es X.env).any (·.1)=false:=by rfl):PE X (.Call (.Name x p) (e::es) [] pos) (tCB r t):=by
 intro bG s U H Q I h;refine wpAny_Call_Name_kw<|qN I hg hm hv ?_ hn hdb;exact PyProof.Rows.callWith_type1 (gk (ha pos bG s U H _ I h) λus s1 ⟨vs,H1,I1,r1,q1⟩=>hc bG s1 U H1 vs us Q I1 r1 q1) he iH
end
end L2
namespace HT
open PySem PyProof.Rows
section
open PySem.SeqAt
open PySem.AutoSeq1 (wpAny_loadPart')
open PySem.MeetsSeq PySem.MeetsSeq2 PySem.MeetsSeq3
end
section
variable {prog:aA}{w:aG}{A:aq}{E:ak->ao->Prop}{s:ao}
theorem Sw {t b:aj}{vs ws:aP ak}{Q:ak->ao->Prop}(ht:IsTup s.heap t vs.toArray)(hb:IsTup s.heap b ws.toArray)(hv:vs≠[])
  (h1:ws=[]->Q (.ref t) s) (h2:ws≠[]->Q (.ref s.heap.objs.size) {s with heap:=s.heap.push {cls:=.type "tuple",data:=.seq (vs++ws).toArray}})
  (hsz:vs.length+ws.length<=sizeLine):wpAny (model prog w) A (binaryOp .Add (.ref t)<|.ref b) Q E s:=by
 obtain⟨⟨cls,dd,data,sl⟩,ho,hc,n,hd⟩:=id ht;obtain⟨⟨cls2,dd2,data2,sl2⟩,ho2,hc2,n2,hd2⟩:=id hb;simp only at hc hd hc2 hd2;subst hc hd hc2 hd2;have e:vs.toArray++ws.toArray=(vs++ws).toArray:=by simp
 by_cases hw:ws=[]
 ·exact concat_meets ⟨_,ho,rfl⟩ ⟨_,ho2,rfl⟩ noFill_tuple_add seq_tuple_add PySem.F.slot_tuple_add afM (afH _ _)
   (tuple_addW1 t b vs.toArray ws.toArray n n2 dd dd2 sl sl2 (by simpa using hv)<|by simp[hw]) ⟨ho,ho2,h1 hw⟩
 ·refine concat_meets ⟨_,ho,rfl⟩ ⟨_,ho2,rfl⟩ noFill_tuple_add seq_tuple_add PySem.F.slot_tuple_add afM (afH _ _)
   (tuple_addW2 t b vs.toArray ws.toArray n n2 dd dd2 sl sl2 (by simpa using hv) (by simpa using hw)<|by rw[ad7,ad7];exact hsz) ⟨ho,ho2,?_⟩
  rw[e];exact h2 hw
noncomputable def ni (n d:Nat):Option Int->Nat
 |none=>d
 |some v=>if v<0 then(v+(n:Int)).toNat else min v.toNat n
theorem NP (n d:Nat):ni n d none=d:=rfl
theorem Ia (n d k:Nat):ni n d (some (k:Int))=min k n:=by
 show(if(k:Int)<0 then((k:Int)+(n:Int)).toNat else min (k:Int).toNat n)=min k n;rw[afY (by omega),aeL]
theorem Ye (n d:Nat)(hd:d<=n)(o:Option Int):ni n d o<=n:=by
 cases o with
 |none=>exact hd
 |some v=>
  show(if v<0 then(v+(n:Int)).toNat else min v.toNat n)<=n;by_cases hv:v<0
  ·rw[afX hv];omega
  ·rw[afY hv];exact Nat.min_le_right _ _
theorem Ib (v:Int)(n d:Nat):(if v<0 then max (v+(n:Int)) 0 else min v (n:Int))=((ni n d (some v):Nat):Int):=by
 show(if v<0 then max (v+(n:Int)) 0 else min v (n:Int))=(((if v<0 then(v+(n:Int)).toNat else min v.toNat n):Nat):Int);by_cases hv:v<0
 ·simp only[afX hv];omega
 ·simp only[afY hv];omega
theorem Gn (lo hi:Option Int)(n:Nat):Builtin.Slice.sliceAdjust lo hi 1 (n:Int)=(((ni n 0 lo:Nat):Int),((ni n n hi:Nat):Int)):=by
 have h1:¬((1:Int)<0):=by omega
 unfold Builtin.Slice.sliceAdjust;simp only[h1,if_false];refine Prod.ext ?_ ?_
 ·cases lo with
  |none=>rfl
  |some v=>exact Ib v n 0
 ·cases hi with
  |none=>rfl
  |some v=>exact Ib v n n
theorem Gp (i j:Nat):Builtin.Slice.slicePlaces (i:Int) (j:Int) 1=j-i:=by
 unfold Builtin.Slice.slicePlaces;have h1:(1:Int)>0:=by omega
 simp only[h1,if_true,Int.ediv_one];split<;>omega
theorem vI {v:ak}{o:Option Int}{Q:Option Int->ao->Prop}(p:IsPart v o)(h:Q o s):wpAny (model prog w) A (Builtin.Slice.slicePartIndex v) Q E s:=by
 cases p with
 |none=>exact slicePart_none h
 |int i t=>exact slicePart_int h
theorem tG {sl:aj}{vl vu:ak}{lo hi:aO Int}{n:Nat}{Q:Int×Int×Nat->ao->Prop}(hs:s.heap.IsSliceOf sl vl vu .none)(pl:IsPart vl lo)(pu:IsPart vu hi)
  (h:Q (((ni n 0 lo:Nat):Int),1,ni n n hi-ni n 0 lo) s):wpAny (model prog w) A (Builtin.Slice.sliceApplied (.ref sl)<|pure (n:Int)) Q E s:=by
 obtain⟨os,hos,hcs,hds⟩:=id hs;unfold Builtin.Slice.sliceApplied Builtin.Slice.sliceFields;refine abI<|abI (af8 hos hds (x:=vl) rfl (abI<|af8 hos hds (x:=vu) rfl (abI<|af8 hos hds (x:=.none) rfl (afV ?_))));refine abI<|slicePart_none ?_;show wpAny _ _ (if((1:Int)==0)=true then _ else _) _ _ s;rw[afY (by decide)];refine abI<|vI pl (abI<|vI pu (abI<|afV ?_));show wpAny _ _ (match Builtin.Slice.sliceAdjust lo hi 1 (n:Int) with|(lo,hi)=>pure (lo,(1:Int),Builtin.Slice.slicePlaces lo hi 1)) _ _ s;rw[Gn lo hi n];show wpAny _ _ (pure (((ni n 0 lo:Nat):Int),(1:Int),Builtin.Slice.slicePlaces ((ni n 0 lo:Nat):Int) ((ni n n hi:Nat):Int) 1)) _ _ s;rw[Gp];exact afV h
theorem NQ (xs:Array ak)(i k:Nat):((List.range k).filterMap λ(m:Nat)=>xs[((i:Int)+(m:Int)*1).toNat]?).toArray=((xs.toList.drop i).take k).toArray:=by
 have e:(λ(m:Nat)=>xs[((i:Int)+(m:Int)*1).toNat]?)=λm=>xs[i+m]?:=by
  funext m;have:((i:Int)+(m:Int)*1).toNat=i+m:=by omega
  rw[this]
 rw[e];have:=pick_run xs i k;rw[List.filterMap_map]at this;have e2:((λx=>xs[x]?)∘λx=>i+x)=λm=>xs[i+m]?:=rfl;rw[e2]at this;rw[this]
theorem rJ {t sl:aj}{items:Array ak}{vl vu:ak}{lo hi:Option Int}{Q:ak->ao->Prop}(ht:IsTup s.heap t items)(hs:s.heap.IsSliceOf sl vl vu .none)(pl:IsPart vl lo)(pu:IsPart vu hi)
  (hw:¬(ni items.size 0 lo=0/\ni items.size items.size hi=items.size))
  (h:Q (.ref s.heap.objs.size) {s with heap:=s.heap.push {cls:=.type "tuple",data:=.seq ((items.toList.drop<|ni items.size 0 lo).take<|ni items.size items.size hi-ni items.size 0 lo).toArray}})
  (hsz:items.size<=sizeLine):wpAny (model prog w) A (getItem (.ref t)<|.ref sl) Q E s:=by
 have Ie:sizeOk (.seq ((items.toList.drop<|ni items.size 0 lo).take<|ni items.size items.size hi-ni items.size 0 lo).toArray):=by
  show((items.toList.drop<|ni items.size 0 lo).take<|ni items.size items.size hi-ni items.size 0 lo).toArray.size<=sizeLine;rw[ad7,aeh,afd,afv];omega
 have hj:ni items.size items.size hi<=items.size:=Ye _ _ (adZ _) hi;obtain⟨os,hos,hcs,hds⟩:=id hs;have hTs:s.TypeIs (.ref sl) "slice":=⟨os,hos,hcs⟩;unfold getItem
 try with_reducible refine af9 ?_
 first|refine abI (afV ?_)|skip
 refine abI (wpAny_sequenceKey ht.typeIs (by decide) ?_);refine abI (wpAny_callSpecial?_slot (name:=Str.ofString "__getitem__") ht.typeIs PyProof.Rows.slot_tuple_getitem
  (wpAny_call_entry PyProof.Rows.slot_tuple_getitem ht.typeIs entry_tuple_getitem ?_<|args_tuple_getitem _ _))
 show wpAny _ _ (Builtin.Tuple.tupleItemsOf (.ref t)>>=_) _ _ s;refine abI<|tupleItemsOf_ ht ?_;refine abI<|wpAny_typeOf hTs ?_;rw[afX (by decide)];refine abI<|tG hs pl pu ?_;have hno:¬((((ni items.size 0 lo:Nat):Int)==0&&(1:Int)==1&&(ni items.size items.size hi-ni items.size 0 lo)==items.size)=true):=by
  intro q;rw[ae1,ae1]at q;have q1:((ni items.size 0 lo:Nat):Int)=0:=eq_of_beq q.1.1;have q2:ni items.size items.size hi-ni items.size 0 lo=items.size:=eq_of_beq q.2;exact hw ⟨by omega,by omega⟩
 show wpAny _ _ (if(((ni items.size 0 lo:Nat):Int)==0&&(1:Int)==1&&(ni items.size items.size hi-ni items.size 0 lo)==items.size)=true then _ else _) _ _ s;rw[afY hno,NQ]
 first
  |exact abI (m:=Builtin.Tuple.tupleExact _)<|wpAny_newObj_type (afV ⟨_,rfl,afV h⟩) Ie
  |exact abI (m:=Builtin.Tuple.tupleExact _)<|wpAny_newObj_type (abI<|afV (afV ⟨_,rfl,afV h⟩)) Ie
  |exact abI<|abI (m:=Builtin.Tuple.tupleExact _) (wpAny_newObj_type (afV<|afV ⟨_,rfl,afV h⟩) Ie)
  |exact abI<|abI (m:=Builtin.Tuple.tupleExact _) (wpAny_newObj_type (afV ⟨_,rfl,afV h⟩) Ie)
end
end HT
namespace L2
abbrev TO:=St->Hp->(Option Int->Hp->Prop)->Prop
def PO (X:Cx)(e:Option aH)(t:TO):Prop :=
 ∀(bG:List (aj×Obj)) (s:ao) (U:St) (H:Hp) (Q:Option Int->Hp->Prop),Inv X bG U H s->t U H Q->
  wpAny (model X.prog X.w) X.A (evalPart e X.env) (λu s'=>∃o H',Inv X bG U H' s'/\IsPart u o/\Q o H') X.xe s
def Sx:TO:=λ_ H Q=>Q none H
inductive NT (Q:Option Int->Hp->Prop)(x:V)(H1:Hp):Prop where
 |mk (i):(x=.int i)->(Q (some i) H1)->NT Q x H1
def aaV (t:TE):TO:=λU H Q=>t U H (NT Q)
section
variable {X:Cx}{e:aH}{te:TE}{lo hi:Option aH}{tl th:TO}{pos p2:Pos}
theorem Sy:PO X none Sx:=by
 intro bG s U H Q I h;rw[evalPart_none];exact afV ⟨none,H,I, .none,h⟩
theorem SJ (h:PE X e te):PO X (some e) (aaV te):=by
 intro bG s U H Q I hw;rw[evalPart_some];refine gk (h bG s U H _ I hw) λu s1 ⟨x,H1,I1,r1,q1⟩=>?_;obtain⟨i,rfl,q⟩:=q1;obtain⟨t,rfl⟩:=r1;exact⟨some i,H1,I1, .int i t,q⟩
def SlR (X:Cx)(r:V->Option Int->Option Int->Hp->VK->Prop):Prop :=
 ∀(bG:List (aj×Obj)) (s:ao) (U:St) (H:Hp) (x:V) (v vl vu:ak) (lo hi:Option Int) (sl:aj) (Q:VK),Inv X bG U H s->RelV x v->s.heap.IsSliceOf sl vl vu .none->IsPart vl lo->IsPart vu hi->r x lo hi H Q->
  ∃T id,typeLookup (.type T) "__getitem__"=pure (some<|.builtin id)/\s.TypeIs v T/\wpAny (model X.prog X.w) X.A (getItem v<|.ref sl) (EP X bG U Q) X.xe s
def tSl (r:V->Option Int->Option Int->Hp->VK->Prop)(te:TE)(tl th:TO):TE:=λU H Q=>te U H λx H1=>tl U H1 λl H2=>th U H2 λu H3=>r x l u H3 Q
theorem NZ {r:V->aO Int->aO Int->Hp->VK->Prop}(hr:SlR X r)(he:PE X e te)(hl:PO X lo tl)(hu:PO X hi th):PE X (.Subscript e (.Slice lo hi none p2) pos) (tSl r te tl th):=by
 intro bG s U H Q I h;refine Subscript_<|gk (he bG s U H _ I h) λv s1 ⟨x,H1,I1,r1,q1⟩=>?_;refine wpAny_Slice<|gk (hl bG s1 U H1 _ I1 q1) λvl s2 ⟨l,H2,I2,pl,q2⟩=>gk (hu bG s2 U H2 _ I2 q2) λvu s3 ⟨u,H3,I3,pu,q3⟩=>?_;rw[evalPart_none];refine afV ?_;have I4:Inv X bG U H3 {s3 with heap:=s3.heap.push {cls:=.type "slice",data:=.fields #[vl,vu, .none]}}:=I3.kept (t':=s3.toks) λb ob q=>adY _ q;obtain⟨T,id,hT,ht,hg⟩:=hr bG {s3 with heap:=s3.heap.push {cls:=.type "slice",data:=.fields #[vl,vu, .none]}} U H3 x v vl vu l u s3.heap.objs.size Q I4 r1 (Heap.IsSliceOf.new ..) pl pu q3;show wpAny (model X.prog X.w) X.A (subscriptTail e (.Slice lo hi none p2) v<|.ref s3.heap.objs.size) (EP X bG U Q) X.xe {s3 with heap:=s3.heap.push {cls:=.type "slice",data:=.fields #[vl,vu, .none]}};exact tail_any (ops:=[.ref s3.heap.objs.size,v]) ht hT hg (by with_unfolding_all rfl)
noncomputable def Kh (xs:List V)(lo hi:Option Int):List V:=(xs.drop<|HT.ni xs.length 0 lo).take (HT.ni xs.length xs.length hi-HT.ni xs.length 0 lo)
theorem CJ (xs:aP V)(lo hi:aO Int):(Kh xs lo hi).length<=xs.length:=by
 unfold Kh;rw[aeh,afd];omega
inductive WD (K:aN)(x:V)(lo:Option Int)(hi:Option Int)(H:Hp)(Q:VK):Prop where
 |mk (a) (xs):(x=.ref a)->(iW K H a xs)->(¬(HT.ni xs.length 0 lo=0/\HT.ni xs.length xs.length hi=xs.length))->(∀p,H p=none->Q (.ref p) (upd H p<|.tup (Kh xs lo hi)))->WD K x lo hi H Q
def aaW (K:aN):V->Option Int->Option Int->Hp->VK->Prop:=WD K
theorem Yg:SlR X (aaW X.K):=by
 intro bG s U H x v vl vu lo hi sl Q I rx hs pl pu h;obtain⟨a,xs,rfl,hx,hw,q⟩:=h;cases rx;obtain⟨bh,r,ht,hz⟩:=I.tuple hx;have jY:bh.toArray.size=xs.length:=by rw[ad7];exact r.length.symm
 refine⟨"tuple",_,PyProof.Rows.slot_tuple_getitem.lookup,ht.typeIs,?_⟩;refine HT.rJ ht hs pl pu (by rw[jY];exact hw) ?_ (by rw[jY];exact hz);rw[jY];refine⟨.ref s.heap.objs.size,_,I.laid (t':=s.toks) (o:=.tup<|Kh xs lo hi) (λb ob q=>adY _ q) (adZ _) ?_,rfl,q _<|I.hok.fresh (adZ _)⟩;exact⟨ad2 (CJ xs lo hi) hz,_,(r.drop<|HT.ni xs.length 0 lo).take<|HT.ni xs.length xs.length hi-HT.ni xs.length 0 lo,IsTup.new _ _⟩
inductive N5 (K:aN)(x:V)(y:V)(H:Hp)(Q:VK):Prop where
 |mk (a) (b) (xs) (ys):(x=.ref a)->(y=.ref b)->(iW K H a xs)->(iW K H b ys)->(xs≠[])->(xs.length+ys.length<=sizeLine)->((ys=[]->Q (.ref a) H))->((ys≠[]->∀p,H p=none->Q (.ref p) (upd H p<|.tup (xs++ys))))->N5 K x y H Q
def WK (K:aN):R2:=N5 K
theorem Vals.zH {xs:List V}{us:List ak}(r:Vals xs us):us=[]↔xs=[]:=by
 cases r with
 |nil=>simp
 |cons _ _=>simp
theorem SM:ud X (binaryOp .Add) (WK X.K):=by
 intro bG s U H x y v u Q I rx ry h;obtain⟨a,b,xs,ys,rfl,rfl,ha,hb,hx,hz,q1,q2⟩:=h;cases rx;cases ry;obtain⟨bh,r1,p1,_⟩:=I.tuple ha;obtain⟨xX,r2,p2,_⟩:=I.tuple hb;refine HT.Sw p1 p2 (λz=>hx<|r1.zH.mp z) (λz=>⟨.ref a,H,I,rfl,q1<|r2.zH.mp z⟩) (λz=>?_) (by rw[<-r1.length,<-r2.length];exact hz);refine⟨.ref s.heap.objs.size,_,I.laid (t':=s.toks) (o:=.tup<|xs++ys) (λb ob q=>adY _ q) (adZ _) ?_,rfl,q2 (λw=>z<|r2.zH.mpr w) _<|I.hok.fresh (adZ _)⟩;exact⟨by rw[adV];exact hz,_,r1.append r2,IsTup.new _ _⟩
end
noncomputable def SN (n:Nat)(i:Int):Option Nat:=if 0<=i then(if i<n then some i.toNat else none) else if -(n:Int)<=i then some (i+n).toNat else none
noncomputable def atI {α:Type}(xs:List α)(i:Int):Option α:=(SN xs.length i).bind λj=>xs[j]?
theorem Ig {n:Nat}{i:Int}{j:Nat}(h:SN n i=some j):seqIndex? i n=some j/\j<n/\-(n:Int)<=i/\i<n:=by
 unfold SN at h;by_cases h0:0<=i
 ·rw[afX h0]at h
  by_cases h1:i<n
  ·rw[afX h1]at h
   have e:i.toNat=j:=af5 h;exact⟨by rw[seqIndex_of h0 h1,e],by omega,by omega,h1⟩
  ·rw[afY h1]at h;cases h
 ·rw[afY h0]at h
  by_cases h1: -(n:Int)<=i
  ·rw[afX h1]at h
   have e:(i+n).toNat=j:=af5 h;exact⟨by rw[seqIndex_neg (by omega) h1,e],by omega,h1,by omega⟩
  ·rw[afY h1]at h;cases h
theorem Ih {α:Type}{xs:List α}{i:Int}{v:α}(h:atI xs i=some v):∃j,seqIndex? i xs.length=some j/\xs[j]?=some v/\j<xs.length/\-(xs.length:Int)<=i/\i<xs.length:=by
 unfold atI at h;cases e:SN xs.length i with
 |none=>rw[e]at h;cases h
 |some j=>
  rw[e]at h;obtain⟨h1,h2,h3,h4⟩:=Ig e;exact⟨j,h1,h,h2,h3,h4⟩
theorem cI {α:Type}{xs:aP α}{j:Nat}{v:α}(h:xs[j]?=some v):atI xs (j:Int)=some v:=by
 have hj:j<xs.length:=(aga h).1;have e:SN xs.length (j:Int)=some j:=by
  unfold SN;rw[afX (by omega),afX (by omega)];simp
 unfold atI;rw[e];exact h
def zJ (b:aH):Prop:=∀o i,subscripted b false o i=operate [o,i] (getItem o i)
def Yh (X:Cx)(r:R2):Prop :=
 ∀(value slice:aH) (bG:List (aj×Obj)) (s:ao) (U:St) (H:Hp) (x y:V) (v u:ak) (Q:VK),Inv X bG U H s->RelV x v->RelV y u->r x y H Q->
  subscripted slice false v u=operate [v,u] (getItem v u)->wpAny (model X.prog X.w) X.A (subscriptTail value slice v u) (EP X bG U Q) X.xe s
def MtR (X:Cx)(id:String)(r:V->List V->Hp->VK->Prop):Prop :=
 ∀(bG:List (aj×Obj)) (s:ao) (U:St) (H:Hp) (x:V) (xs:List V) (v:ak) (us:List ak) (Q:VK),Inv X bG U H s->RelV x v->Vals xs us->r x xs H Q->
  wpAny (model X.prog X.w) X.A (call (.builtin id) (v::us)) (EP X bG U Q) X.xe s
section
variable {X:Cx}{a b:aH}{ta tb:TE}{pos:Pos}
theorem bY {r:R2}(hr:Yh X r)(ha:PE X a ta)(hb:PE X b tb)(hs:zJ b:=by intro _ _;rfl):PE X (.Subscript a b pos) (Fv r ta tb):=by
 intro bG s U H Q I h;exact Subscript_<|X3 ha hb I h λv u s2 x y H2 I2 rx ry q=>hr a b bG s2 U H2 x y v u Q I2 rx ry q (hs _ _)
inductive WL (K:aN)(x:V)(y:V)(H:Hp)(Q:VK):Prop where
 |mk (p) (xs) (i) (v):(x=.ref p)->(y=.int i)->(dM K H p xs)->(atI xs i=some v)->(Q v H)->WL K x y H Q
def CK (K:aN):R2:=WL K
inductive WM (K:aN)(x:V)(y:V)(H:Hp)(Q:VK):Prop where
 |mk (p) (xs) (i) (v):(x=.ref p)->(y=.int i)->(iW K H p xs)->(atI xs i=some v)->(Q v H)->WM K x y H Q
def SQ (K:aN):R2:=WM K
theorem SX:Yh X (CK X.K):=by
 intro value slice bG s U H x y v u Q I rx ry h hs;obtain⟨p,xs,i,z,rfl,rfl,hq,he,q⟩:=h;cases rx;obtain⟨t,rfl⟩:=ry;obtain⟨bh,r,pl,hz⟩:=I.list hq;obtain⟨j,h1,h2,h3,h4,h5⟩:=Ih he;obtain⟨w,ew,N6⟩:=r.get h2;have hl:=r.length;have hn:=nY;have fin:EP X bG U Q w s:=⟨z,H,I,N6,q⟩;by_cases h0:0<=i
 ·have hj:i.toNat=j:=by
   rw[seqIndex_of h0 h5]at h1;exact af5 h1
  exact item_listR pl.isList h0 (by omega) (by rw[hj];simpa using ew) fin hs
 ·have hj:(i+(bh.toArray.size:Int)).toNat=j:=by
   rw[seqIndex_neg (by omega) h4]at h1;rw[ad7,<-hl];exact af5 h1
  exact subscriptTail_builtinR (x:=w) pl.isList.typeIs slot_list_getitem.lookup
   (wpAny_getItem_list_neg (Q:=λr s'=>r=w/\EP X bG U Q r s') pl.isList (by omega) (by rw[ad7]<;>omega) (by omega) (by rw[hj];simpa using ew) ⟨rfl,fin⟩) hs
theorem Yi:Yh X (SQ X.K):=by
 intro value slice bG s U H x y v u Q I rx ry h hs;obtain⟨p,xs,i,z,rfl,rfl,hq,he,q⟩:=h;cases rx;obtain⟨t,rfl⟩:=ry;obtain⟨bh,r,pl,hz⟩:=I.tuple hq;obtain⟨j,h1,h2,h3,h4,h5⟩:=Ih he;obtain⟨w,ew,N6⟩:=r.get h2;have hl:=r.length;have hn:=nY;have fin:EP X bG U Q w s:=⟨z,H,I,N6,q⟩;exact subscriptTail_builtinR (x:=w) pl.typeIs slot_tuple_getitem.lookup
  (getItem_tuple (j:=j) (Q:=λr s'=>r=w/\EP X bG U Q r s') pl (by omega) (by omega) (by rw[ad7,<-hl];exact h1) (by simpa using ew) ⟨rfl,fin⟩) hs
theorem Gq (bh:aP ak)(n j:Nat)(u:ak):Obj.mapSeq (·.setIfInBounds j u) {cls:=.type "list",data:=.seq bh.toArray n}={cls:=.type "list",data:=.seq (bh.set j u).toArray n}:=by
 simp[Obj.mapSeq]
theorem Inv.lst {bG:aP (aj×Obj)}{U:St}{H:Hp}{s:ao}{p:aj}{xs:aP V}(I:Inv X bG U H s)(h:H p=some (.lst xs)):
  ∃(bh:aP ak) (n:Nat),Vals xs bh/\s.heap.get? p=some {cls:=.type "list",data:=.seq bh.toArray n}/\xs.length<=sizeLine:=by
 obtain⟨z,bh,n,r,e⟩:=I.hok p _ h;exact⟨bh,n,r,e,z⟩
theorem Inv.Yj {bG:aP (aj×Obj)}{U:St}{H:Hp}{s:ao}{p:aj}{xs ys:aP V}{bh its':aP ak}{n n':Nat}{f:Obj->Obj}(I:Inv X bG U H s)(h:H p=some (.lst xs))
  (ho:s.heap.get? p=some {cls:=.type "list",data:=.seq bh.toArray n}) (hf:f {cls:=.type "list",data:=.seq bh.toArray n}={cls:=.type "list",data:=.seq its'.toArray n'}) (r:Vals ys its') (hz:ys.length<=sizeLine) (t:Nat):
  Inv X bG U (upd H p<|.lst ys) {s with heap:=s.heap.update p f,toks:=t}:=by
 have e:(s.heap.update p f).get? p=some {cls:=.type "list",data:=.seq its'.toArray n'}:=by
  rw[aeO f ho (by rw[hf]<;>rfl),hf]
 refine I.write (x:=p) (e:=p) (by rw[h];trivial) (.inl rfl) (λb u hb q=>(aeM _ _<|af2 hb).trans q) ⟨_,e⟩ ?_;exact⟨hz,its',n',r,e⟩
inductive N7 (o:V)(i:V)(v:V)(H:Hp)(Q:Hp->Prop):Prop where
 |mk (p) (xs) (k) (j):(o=.ref p)->(i=.int k)->(H p=some (.lst xs))->(SN xs.length k=some j)->(Q<|upd H p (.lst<|xs.set j v))->N7 o i v H Q
def aaX:V->V->V->Hp->(Hp->Prop)->Prop:=N7
theorem set_list:aaH X aaX:=by
 intro bG s U H o i v ov iv u Q I ro ri rv h;obtain⟨p,xs,k,j,rfl,rfl,hp,hj,q⟩:=h;cases ro;obtain⟨t,rfl⟩:=ri;obtain⟨bh,n,r,ho,hz⟩:=I.lst hp;obtain⟨h1,h2,h3,h4⟩:=Ig hj;have hl:=r.length;have hn:=nY;have I':Inv X bG U (upd H p<|.lst (xs.set j v)) {s with heap:=s.heap.update p (Obj.mapSeq (·.setIfInBounds j u))} :=
  I.Yj hp ho (Gq bh n j u) (r.set rv j) (by rw[afj];exact hz) s.toks
 by_cases h0:0<=k
 ·have hk:k.toNat=j:=by
   rw[seqIndex_of h0 h4]at h1;exact af5 h1
  exact PySem.W.ki_setAt ho h0 (by omega) (by rw[ad7,<-hl];exact h4) (by rw[hk];exact⟨_,I',q⟩)
 ·have hk:(k+(bh.toArray.size:Int)).toNat=j:=by
   rw[seqIndex_neg (by omega) h3]at h1;rw[ad7,<-hl];exact af5 h1
  exact PySem.W.ki_setBack ho (by omega) (by rw[ad7,<-hl];exact h3) (by omega) (by rw[hk];exact⟨_,I',q⟩)
noncomputable def WQ:V->Bool
 |.non=>true
 |.bl _=>true
 |.int _=>true
 |.str _=>true
 |_=>false
noncomputable def eqV:V->V->Bool
 |.non, .non=>true
 |.bl a, .bl b=>a==b
 |.bl a, .int b=>(if a then 1 else 0)==b
 |.int a, .bl b=>a==(if b then 1 else 0)
 |.int a, .int b=>a==b
 |.str a, .str b=>a==b
 |_,_=>false
noncomputable def inV (x:V)(xs:List V):Bool:=xs.any λy=>eqV y x
inductive acv (K:aN)(neg:Bool)(x:V)(y:V)(H:Hp)(Q:VK):Prop where
 |mk (p) (xs):(y=.ref p)->((dM K H p xs\/iW K H p xs))->(WQ x=true)->(xs.all WQ=true)->(Q (.bl<|if neg then !inV x xs else inV x xs) H)->acv K neg x y H Q
inductive lK (K:aN)(xs:List V)(H:Hp)(Q:VK):Prop where
 |mk (p) (ys):(xs=[.ref p])->((dM K H p ys\/iW K H p ys))->(Q (.int ys.length) H)->lK K xs H Q
theorem zK:jw X (.builtin "len") (lK X.K):=by
 intro bG s U H xs us Q I r h;obtain⟨p,ys,rfl,hq,q⟩:=h;obtain⟨u,rfl,rx⟩:=vals1 r;cases rx;have hn:=nY;rcases hq with hq|hq
 ·obtain⟨bh,r',pl,hz⟩:=I.list hq
  have jY:=r'.length;exact Calls.call_len_list pl.isList (by simp only[ad7]<;>omega) ⟨.int ys.length,H,I.tok _,⟨s.toks+1,by rw[ad7,jY]⟩,q⟩
 ·obtain⟨bh,r',pl,hz⟩:=I.tuple hq
  have jY:=r'.length;exact len_tuple pl (by simp only[ad7]<;>omega) ⟨.int ys.length,H,I.tok _,⟨s.toks+1,by rw[ad7,jY]⟩,q⟩
theorem zL:jw X (.builtin "len") (λxs H Q=>∃z,xs=[.str z]/\z.length<=sizeLine/\Q (.int z.length) H):=by
 intro bG s U H xs us Q I r h;obtain⟨z,rfl,hz,q⟩:=h;obtain⟨u,rfl,t,rfl⟩:=vals1 r;have hn:=nY;exact len_str (by omega) ⟨.int z.length,H,I.tok _,⟨_,rfl⟩,q⟩
inductive lM (K:aN)(xs:List V)(H:Hp)(Q:VK):Prop where
 |mk (p) (ys):(xs=[.ref p])->((dM K H p ys\/iW K H p ys))->(∀l,H l=none->Q (.ref l) (upd H l<|.lst ys))->lM K xs H Q
theorem zM:jw X (.type "list") (lM X.K):=by
 intro bG s U H xs us Q I r h;obtain⟨p,ys,rfl,hq,q⟩:=h;obtain⟨u,rfl,rx⟩:=vals1 r;cases rx;have fin:∀(bh:aP ak),Vals ys bh->ys.length<=sizeLine->∀(h':aK) (c':Nat),(∀b o',s.heap.get? b=some o'->h'.get? b=some o')->
   h'.get? s.heap.objs.size=some {cls:=.type "list",dict:=none,data:=.seq bh.toArray c',slots:=#[]}->EP X bG U Q (.ref s.heap.objs.size) {s with heap:=h'}:=λbh r' hz h' c' kp e=>
  ⟨.ref s.heap.objs.size,_,I.laid (t':=s.toks) kp (adZ _)<|show fO X.prog X.w _ h' _ (.lst ys) from⟨hz,bh,c',r',e⟩,rfl,q _<|I.hok.fresh (adZ _)⟩
 rcases hq with hq|hq
 ·obtain⟨bh,r',pl,hz⟩:=I.list hq
  have jY:=r'.length;obtain⟨o,ho,hc,n,hd⟩:=pl.isList;exact call_list_seq p (.inl rfl) ho hc hd (λh' c' kp e=>fin bh r' hz h' c' kp e) (by simp only[ad7]<;>omega)
 ·obtain⟨bh,r',pl,hz⟩:=I.tuple hq
  have jY:=r'.length;obtain⟨o,ho,hc,n,hd⟩:=pl;exact call_list_seq p (.inr rfl) ho hc hd (λh' c' kp e=>fin bh r' hz h' c' kp e) (by simp only[ad7]<;>omega)
inductive jZ (K:aN)(xs:List V)(H:Hp)(Q:VK):Prop where
 |mk (p) (ys):(xs=[.ref p])->(((dM K H p ys/\∀l,H l=none->Q (.ref l) (upd H l<|.tup ys))\/(iW K H p ys/\Q (.ref p) H)))->jZ K xs H Q
theorem xY:jw X (.type "tuple") (jZ X.K):=by
 intro bG s U H xs us Q I r h;obtain⟨p,ys,rfl,h⟩:=h;obtain⟨u,rfl,rx⟩:=vals1 r;cases rx;rcases h with ⟨hq,q⟩|⟨hq,q⟩
 ·obtain⟨bh,r',pl,hz⟩:=I.list hq
  have jY:=r'.length;refine call_tuple_list pl.isList (λh' kp=>?_) (by simp only[ad7]<;>omega);have I1:Inv X bG U H {s with heap:=h'}:=I.kept (t':=s.toks) kp;have I2:Inv X bG U (upd H h'.objs.size<|.tup ys) {s with heap:=h'.push {cls:=.type "tuple",data:=.seq bh.toArray}} :=
   I1.laid (t':=s.toks) (λb o e=>adY _ e) (adZ _) (show fO X.prog X.w _ _ _ (.tup ys) from⟨hz,bh,r',IsTup.new _ _⟩)
  exact⟨.ref h'.objs.size,_,I2,rfl,q _<|I1.hok.fresh (adZ _)⟩
 ·obtain⟨bh,r',pl,hz⟩:=I.tuple hq
  exact call_tuple_same pl ⟨.ref p,H,I,rfl,q⟩
def tyV (K:aN)(T:String)(x:V)(H:Hp):Prop:=match x with
 |.str _=>T="str"
 |.int _=>T="int"
 |.ref p=>(T="list"/\∃xs,dM K H p xs)\/(T="tuple"/\∃o,K.lookup p=some o/\o.cls=.type "tuple"/\o.dict=none)\/
   (T="dict"/\((∃cD,H p=some (.dK cD))\/∃cD,H p=some (.dT cD)))\/(T="set"/\∃S n,H p=some (.set S n))
 |_=>False
theorem N8 {bG:List (aj×Obj)}{U:St}{H:Hp}{s:ao}{T:String}{x:V}{v:ak}(I:Inv X bG U H s)(r:RelV x v)(ty:tyV X.K T x H):
  s.TypeIs v T/\∀a,v=.ref a->∃ob,s.heap.get? a=some ob/\ob.dict=none:=by
 cases x with
 |str z=>
  obtain⟨t,rfl⟩:=r;cases(show T="str" from ty);exact⟨typeIs_str s z t,λ_ e=>nomatch e⟩
 |int i=>
  obtain⟨t,rfl⟩:=r;cases(show T="int" from ty);exact⟨typeIs_int s i t,λ_ e=>nomatch e⟩
 |ref p=>
  cases r;rcases ty with ⟨rfl,xs,hq⟩|⟨rfl,o,hk,hc,hd⟩|⟨rfl,hk⟩|⟨rfl,S,n,hk⟩
  ·obtain⟨bh,_,pl,_⟩:=I.list hq
   refine⟨pl.isList.typeIs,λa e=>?_⟩;cases e;obtain⟨o,n,e,c,hd,_⟩:=pl;exact⟨o,e,hd⟩
  ·refine⟨⟨o,I.qt p o hk,hc⟩,λa e=>?_⟩
   cases e;exact⟨o,I.qt _ o hk,hd⟩
  ·have z:∃o,s.heap.get? p=some o/\o.ExactDict:=by
    rcases hk with ⟨cD,hk⟩|⟨cD,hk⟩
    ·obtain⟨_,_,_,_,o,_,_,e,ex,_⟩:=I.hok p _ hk
     exact⟨o,e,ex⟩
    ·obtain⟨_,_,_,_,o,_,_,e,ex,_⟩:=I.hok p _ hk
     exact⟨o,e,ex⟩
   obtain⟨o,e,ex⟩:=z;refine⟨⟨o,e,ex.1⟩,λa e2=>?_⟩;cases e2;exact⟨o,e,ex.2.1⟩
  ·obtain⟨o,_,_,_,e,ex,_⟩:=I.hok p _ hk
   refine⟨⟨o,e,ex.1⟩,λa e2=>?_⟩;cases e2;exact⟨o,e,ex.2.1⟩
 |_=>exact af7 ty
inductive WR (K:aN)(T:String)(r:V->List V->Hp->VK->Prop)(Q:VK)(x:V)(H1:Hp):Prop where
 |mk:(tyV K T x H1)->(r x [] H1 Q)->WR K T r Q x H1
def aaY (K:aN)(T:String)(r:V->List V->Hp->VK->Prop)(to:TE):TE:=λU H Q=>to U H (WR K T r Q)
inductive aaZ (K:aN)(T:String)(r:V->List V->Hp->VK->Prop)(t:TA)(U:St)(Q:VK)(x:V)(H1:Hp):Prop where
 |mk:(tyV K T x H1)->(t U H1 λxs H2=>r x xs H2 Q)->aaZ K T r t U Q x H1
def tBM (K:aN)(T:String)(r:V->List V->Hp->VK->Prop)(to:TE)(t:TA):TE:=λU H Q=>to U H (aaZ K T r t U Q)
variable {o e:aH}{es:List aH}{to:TE}{t:TA}{name:Str}{lJ gK:Pos}{T id:String}{r:V->List V->Hp->VK->Prop}
theorem Oa (pa:PlainAttrs T)(slot:Slot T name id)(hty:typeOf (.builtin id)=pure (.type "method_descriptor"))(hm:MtR X id r)(ho:PE X o to)
  (nA:attributeBase o name X.env (eval o X.env)=eval o X.env:=by rfl) (hline:(lJ.endLine==gK.line)=true:=by rfl):PE X (.Call (.Attribute o name lJ) [] [] gK) (aaY X.K T r to):=by
 intro bG s U H Q I h;refine wpAny_Call_method0_late nA hline<|gk (ho bG s U H _ I h) λv s1 ⟨x,H1,I1,r1,ty,q1⟩=>?_;obtain⟨h1,h2⟩:=N8 I1 r1 ty;exact⟨T,id,pa,slot,hty,h1,h2,Calls.callWith_builtin rfl (PySem.evalArgs_none<|hm bG s1 U H1 x [] v [] Q I1 r1 .nil q1)⟩
theorem yE (pa:PlainAttrs T)(slot:Slot T name id)(hty:typeOf (.builtin id)=pure (.type "method_descriptor"))(hm:MtR X id r)(ho:PE X o to)(ha:PA X (e::es) t)
  (nA:attributeBase o name X.env (eval o X.env)=eval o X.env:=by rfl)
  (hfew:((backTo gK<|starEach (e::es) X.env).all (λx=>!x.1)&&(backToKw gK<|keywordEach [] X.env).all (λx=>x.1.isSome)
   &&decide ((e::es).length+([]:aP Keyword).length+(if([]:aP Keyword).isEmpty then 0 else 1)<30))=true:=by rfl)
  (hline:(lJ.endLine==gK.line)=true:=by rfl) (hs:starEach (e::es) X.env=(false,eval e X.env)::starEach es X.env:=by rfl) (hplain:(backTo gK<|starEach es X.env).any (·.1)=false:=by rfl):
  PE X (.Call (.Attribute o name lJ) (e::es) [] gK) (tBM X.K T r to t):=by
 intro bG s U H Q I h;refine wpAny_Call_method_late nA hfew hline rfl (gk (ho bG s U H _ I h) λv s1 ⟨x,H1,I1,r1,ty,q1⟩=>?_);obtain⟨h1,h2⟩:=N8 I1 r1 ty;refine⟨T,id,pa,slot,hty,h1,h2,?_⟩;have hA:=ha gK bG s1 U H1 _ I1 q1;rw[hs]at hA ⊢;refine Calls.callWith_builtin (by show(false||(backTo gK<|starEach es X.env).any (·.1))=false;rw[hplain]<;>rfl)<|Calls.evalArgs_plain ?_;exact gk hA λus s2 ⟨vs,H2,I2,r2,q2⟩=>hm bG s2 U H2 x vs v us Q I2 r1 r2 q2
end
def Yk (X:Cx)(id:String)(r:V->List V->Hp->VK->Prop):Prop :=
 ∀(bG:List (aj×Obj)) (s:ao) (U:St) (H:Hp) (x:V) (xs:List V) (v:ak) (us:List ak) (Q:VK),Inv X bG U H s->RelV x v->Vals xs us->r x xs H Q->
  wpAny (model X.prog X.w) X.A (call (.builtin id) (v::us)) (EP X bG U Q) X.xe s
theorem Vals.one {x:V}{us:List ak}(h:Vals [x] us):∃u,us=[u]/\RelV x u:=by
 cases h with
 |cons r t=>cases t;exact⟨_,rfl,r⟩
theorem Vals.zero:∀{us:List ak},Vals [] us->us=[]
 |_, .nil=>rfl
theorem Vals.dropLast {xs:List V}{us:List ak}(h:Vals xs us):Vals xs.dropLast us.dropLast:=by
 induction h with
 |nil=>exact .nil
 |cons r t ih=>
  cases t with
  |nil=>exact .nil
  |cons q t'=>exact .cons r ih
theorem Vals.reverse {xs:List V}{us:List ak}(h:Vals xs us):Vals xs.reverse us.reverse:=by
 induction h with
 |nil=>exact .nil
 |cons r t ih=>rw[aeV,aeV];exact Vals.append ih<|.cons r .nil
theorem Gr {α:Type}(l:List α):l.eraseIdx (l.length-1)=l.dropLast:=by
 induction l with
 |nil=>rfl
 |cons a r ih=>
  cases r with
  |nil=>rfl
  |cons b r=>
   have e:(a::b::r).length-1=((b::r).length-1)+1:=by
    have h1:(a::b::r).length=r.length+2:=rfl;have h2:(b::r).length=r.length+1:=rfl;exact rfl
   rw[e,List.eraseIdx_cons_succ,ih]
   all_goals rfl
section
variable {X:Cx}{bG:List (aj×Obj)}{U:St}{H:Hp}{s:ao}{l b:aj}{xs ys zs:List V}
theorem Inv.S5 {bh its':aP ak}{n:Nat}{f:Array ak->Array ak}{t':Nat}(I:Inv X bG U H s)(hH:H l=some (.lst xs))
  (e:s.heap.get? l=some {cls:=.type "list",data:=.seq bh.toArray n}) (hf:f bh.toArray=its'.toArray) (hv:Vals ys its') (hz:ys.length<=sizeLine):
  Inv X bG U (upd H l<|.lst ys) {s with heap:=s.heap.update l<|Obj.mapSeq f,toks:=t'}:=by
 have q:=PySem.IsL.update e f;rw[hf]at q;refine I.write (x:=l) (e:=l) (by rw[hH];exact trivial) (.inl rfl) (λb' u hb hu=>(aeM s.heap (Obj.mapSeq f)<|af2 hb).trans hu) ⟨_,q⟩ ?_;exact⟨hz,its',_,hv,q⟩
theorem Inv.acw {bh:aP ak}{t':Nat}(I:Inv X bG U H s)(hv:Vals ys bh)(hz:ys.length<=sizeLine):
  Inv X bG U (upd H s.heap.objs.size<|.lst ys) {s with heap:=s.heap.push {cls:=.type "list",data:=.seq bh.toArray},toks:=t'} :=
 I.laid (λ_ _ q=>adY _ q) (adZ _) ⟨hz,bh,0,hv,ad' _ rfl⟩
theorem Inv.fresh (I:Inv X bG U H s):H s.heap.objs.size=none:=I.hok.fresh (adZ _)
theorem Inv.zO (I:Inv X bG U H s)(hH:H l=some (.lst xs)):xs.length<=sizeLine/\∃(bh:aP ak) (n:Nat),Vals xs bh/\xs.length=bh.length/\s.heap.get? l=some {cls:=.type "list",data:=.seq bh.toArray n}:=by
 obtain⟨z,bh,n,r,e⟩:=I.hok l _ hH;exact⟨z,bh,n,r,r.length,e⟩
theorem Ob {n:Nat}(h:n<=sizeLine):Builtin.List.listTooLong n=false:=by
 unfold Builtin.List.listTooLong;exact afW (by exact Nat.not_lt.mpr h)
end
section
variable {X:Cx}
inductive CN (x:V)(vs:List V)(H:Hp)(Q:VK):Prop where
 |mk (l) (xs) (y):(x=.ref l)->(vs=[y])->(H l=some (.lst xs))->(xs.length<sizeLine)->(Q .non<|upd H l (.lst<|xs++[y]))->CN x vs H Q
def uP:V->List V->Hp->VK->Prop:=CN
theorem Kl:Yk X "list.append" uP:=by
 intro bG s U H x vs v us Q I rx rv h;obtain⟨l,xs,y,rfl,rfl,hH,hz,q⟩:=h;cases rx;obtain⟨u,rfl,ru⟩:=rv.one;obtain⟨z,bh,n,r,hl,e⟩:=I.zO hH;refine call_meets F.slot_list_append ⟨_,e,rfl⟩ F.entry_list_append (F.args_list_append_2 _ _) (PySem.list_append l bh.toArray n u<|by rw[ad7];omega) ⟨e,?_⟩;refine⟨.non,_,I.S5 (its':=bh++[u]) hH e (by simp) (r.append<|.cons ru .nil) ?_,rfl,q⟩;rw[adV,adW];exact hz
inductive Oc (x:V)(vs:List V)(H:Hp)(Q:VK):Prop where
 |mk (l) (b) (xs) (zs):(x=.ref l)->(vs=[.ref b])->(H l=some (.lst xs))->(H b=some (.lst zs))->(xs.length+zs.length<=sizeLine)->(Q .non<|upd H l (.lst<|xs++zs))->Oc x vs H Q
inductive WT (x:V)(vs:List V)(H:Hp)(Q:VK):Prop where
 |mk (l) (xs) (y):(x=.ref l)->(vs=[])->(H l=some (.lst xs))->(xs[xs.length-1]?=some y)->(Q y<|upd H l (.lst xs.dropLast))->WT x vs H Q
def aa0:V->List V->Hp->VK->Prop:=WT
theorem Yl:Yk X "list.pop" aa0:=by
 intro bG s U H x vs v us Q I rx rv h;obtain⟨l,xs,y,rfl,rfl,hH,hy,q⟩:=h;cases rx;have hus:=rv.zero;subst hus;obtain⟨z,bh,n,r,hl,e⟩:=I.zO hH;obtain⟨u,hu,ru⟩:=r.get hy;have hy':bh.toArray[bh.toArray.size-1]?=some u:=by
  show bh.toArray[bh.length-1]?=some u;rw[<-Array.getElem?_toList,<-hl];exact hu
 refine call_meets F.slot_list_pop ⟨_,e,rfl⟩ F.entry_list_pop (F.args_list_pop_1 _) (MeetsSeq.list_pop_last l bh.toArray n u hy'<|by rw[ad7];omega) ⟨e,?_⟩;refine⟨y,_,I.S5 (its':=bh.dropLast) hH e ?_ r.dropLast ?_,ru,q⟩
 ·show bh.toArray.eraseIdxIfInBounds (bh.toArray.size-1)=bh.dropLast.toArray
  rw[ad7,List.eraseIdxIfInBounds_toArray,Gr]
 ·rw[List.length_dropLast]
  omega
inductive yF (x:V)(vs:List V)(H:Hp)(Q:VK):Prop where
 |mk (l) (xs):(x=.ref l)->(vs=[])->(H l=some (.lst xs))->(Q .non<|upd H l (.lst xs.reverse))->yF x vs H Q
def Oe:V->List V->Hp->VK->Prop:=yF
theorem Gs:Yk X "list.reverse" Oe:=by
 intro bG s U H x vs v us Q I rx rv h;obtain⟨l,xs,rfl,rfl,hH,q⟩:=h;cases rx;have hus:=rv.zero;subst hus;obtain⟨z,bh,n,r,hl,e⟩:=I.zO hH;refine call_meets F.slot_list_reverse ⟨_,e,rfl⟩ F.entry_list_reverse (F.args_list_reverse_1 _) (AutoSeq1.list_reverse_list_0 l bh.toArray n<|by rw[ad7];omega) ⟨e,?_⟩;refine⟨.non,_,I.S5 (its':=bh.reverse) hH e (by simp) r.reverse ?_,rfl,q⟩;rw[aez];exact z
inductive WW (x:V)(y:V)(H:Hp)(Q:VK):Prop where
 |mk (l) (b) (xs) (zs):(x=.ref l)->(y=.ref b)->(H l=some (.lst xs))->(H b=some (.lst zs))->(xs.length+zs.length<=sizeLine)->(∀p,H p=none->Q (.ref p) (upd H p<|.lst (xs++zs)))->WW x y H Q
def acy:R2:=WW
theorem vJ:ud X (binaryOp .Add) acy:=by
 intro bG s U H x y v u Q I rx ry h;obtain⟨l,b,xs,zs,rfl,rfl,hH,hB,hz,q⟩:=h;cases rx;cases ry;obtain⟨z,bh,n,r,hl,e⟩:=I.zO hH;obtain⟨z2,xX,n2,r2,hl2,e2⟩:=I.zO hB;refine PySem.P.add_list e e2 ?_ (by rw[ad7,ad7];omega);have ea:bh.toArray++xX.toArray=(bh++xX).toArray:=by simp
 rw[ea];exact⟨.ref _,_,I.acw (t':=s.toks) (r.append r2) (by rw[adV];exact hz),rfl,q _ I.fresh⟩
inductive aa1 (x:V)(y:V)(H:Hp)(Q:VK):Prop where
 |mk (l) (k) (xs):(x=.ref l)->(y=.int k)->(H l=some (.lst xs))->(-(2^63)<=k)->(k<2^63)->(xs.length*k.toNat<=sizeLine)->(∀p,H p=none->Q (.ref p) (upd H p<|.lst (List.replicate k.toNat xs).flatten))->aa1 x y H Q
end
section
variable {prog:aA}{w:aG}{A:aq}{E:ak->ao->Prop}{s:ao}
end
section
variable {X:Cx}
end
end L2
namespace Att
open PySem PySem.W PySem.Calls PyProof.Rows
theorem uE {P:Params}{h:aK}:∀(ns:List Int) (vs:List ak),WellAll P h vs (ns.map WData.int)->IntsAre vs ns:=by
 intro ns
 induction ns with
 |nil=>
  intro vs w;rw[afI]at w;cases w;exact .nil
 |cons n ns ih=>
  intro vs w;rw[aei]at w;cases w with
  |cons a b=>
   cases a;exact .cons _ _<|ih _ b
theorem Km {l:OpenLaw}{n:Nat}(hn:l.most=some n){P:Params}{h:aK}{args:List WData}{vals:List ak}
  (hpre:l.row.toRowW.claim.pre args=true) (hwl:WellAll P h vals args):
  ∃a vs ns,vals=[Value.ref a]/\args=[WData.list (ns.map WData.int)]/\h.get? a=some {cls:=.type "list",data:=.seq vs.toArray}/\IntsAre vs ns/\ns.length<=n:=by
 have hsh:WShape.hasAll [] args [.list .int]=true:=(pre_splitW hpre).1;have hc:l.pre.holds [] {args:=args}=true:=(pre_splitW hpre).2;obtain⟨d,r,rfl,h1,h2⟩:=hasAllW_cons hsh;obtain rfl:=hasAllW_nil h2;obtain⟨xs,rfl,h3⟩:=hasW_list h1;obtain⟨ns,rfl⟩:=items_int h3;have jY:ns.length<=n:=by
  unfold OpenLaw.pre at hc;have h4:(WTm.not<|.lt (.lit<|.int (n:Int)) (.len<|.arg 0)).holds [] {args:=[.list (ns.map .int)]}=true:=by
   have h4:=(holds_andW hc).1;rw[hn]at h4;exact h4
  have h5:=condW_of h4 (w_not<|w_lt w_lit (w_len_list<|w_arg rfl));rw[aeb]at h5;refine Nat.le_of_not_lt λq=>?_;have q':(n:Int)<((ns.length:Nat):Int):=by omega
  first
   |(rw[af0 q']at h5;exact absurd h5<|by decide)
   |(simp at h5;omega)
 cases hwl with
 |cons w1 w2=>
  cases w2;cases w1 with
  |list ho hall=>exact⟨_,_,ns,rfl,rfl,ho,uE ns _ hall,jY⟩
theorem Ko (l:OpenLaw)(args:aP WData):l.row.toRowW.claim.post args (.bool true) args=true :=
 postW_of (r:=l.row.toRowW) (X:=(true==true))
  (show WShape.has [] (.bool true) .bool=true by first|rfl|decide|simp[WShape.has,WShape.arms,WShape.armsAll])
  (show(WTm.eq .res<|.lit (.bool true)).value [] {args:=args,res:=some<|.bool true,after:=args}=some (.bool<|true==true) from w_eq_bool (w_res rfl) w_lit) rfl
theorem CP {l:OpenLaw}{n:Nat}{q:aA}{loose:aP Str}{XP:(Str->aO ak)->aK->Prop}{YP:aG->aK->Prop}{d:DefRec}
  (hn:l.most=some n) (hdf:d.params.defaults=[])
  (call:∀(w:aG) (s₀ eE:ao) (mg mb:Str->aO ak) (fa:aj) (o:Obj) (pm cd mZ:ak) (a:aj) (vs:aP ak) (ns:aP Int),
   Ground q loose [] XP w s₀ mg mb eE.heap->YP w eE.heap->
   eE.heap.get? fa=some o->o.data=.func (docDef d.name d.params d.body d.scope pm cd mZ)->eE.heap.CodeRec cd d.name->mg d.name=some (.ref fa)->
   eE.heap.get? a=some {cls:=.type "list",data:=.seq vs.toArray}->IntsAre vs ns->ns.length<=n->eE.gens=#[]->
   codeAny (model l.prog w) callerA (.call (.ref fa) ⟨[.ref a],[]⟩) (λr s'=>r=.ok (.ret<|.bool true)/\OldK eE.heap s'.heap/\s'.os=eE.os/\AllBare s'.gens) eE):
  WalkO q loose XP YP l.row.toRowW d [] (λf vs=>PySem.call f vs):=by
 intro w s₀ eE mg mb G Y fa o pm cd mZ dV kV ho hd xV hD hmg hg args vals as hpre hlay hrd hwl rK;obtain rfl:dV=.none:=Dflts.none hD hdf;obtain rfl:kV=.none:=Dflts.noKw hD;obtain⟨a,vs,ns,rfl,rfl,hobj,hints,jY⟩:=Km hn hpre hwl;refine enter_call<|codeAny_mono (call w s₀ eE mg mb fa o pm cd mZ a vs ns G Y ho (fd_plain hd) xV hmg hobj hints jY hg) λr s' hq=>?_;obtain⟨rfl,h2,h3,h4⟩:=hq;exact⟨.inl ⟨.bool true, .bool true,[],rfl,λ_=>rfl, .bool true,Ko l _,λ_=>⟨List.Pairwise.nil,λ_ hm=>(nomatch hm)⟩⟩,h2,h3,h4⟩
section
variable {prog:aA}{w:aG}{A:aq}{E:ak->ao->Prop}{s:ao}{K:aN}
end
end Att
namespace L2
theorem yG:∀{vs:List ak} {ns:List Int},IntsAre vs ns->Vals (ns.map V.int) vs
 |_,_, .nil=>.nil
 |_,_, .cons n t h=>.cons ⟨t,rfl⟩ (yG h)
def Only (H:Hp):Prop:=∀b,H b=none\/∃o xs,H b=some (.FT o<|.lst xs)
theorem Og {P:aA}{w:aG}{K:aN}{mg mb:Str->Option ak}{CX:HY}{k:Nat}{fa a:aj}{fd:FuncData}{x:Str}{sp:Sp}{eE:ao}{vs:List ak}{ns:List Int}
  (KX:K.In eE.heap) (hns:eE.heap.Ns mainGlobals mg) (hb:eE.heap.Ns builtinsNs mb) (hbb:∀x:Str,x≠"__name__"->mb x=bootBuiltins x) (hlim:eE.heap.NoLimit) (hg:eE.gens=#[])
  (ha:eE.heap.get? a=some {cls:=.type "list",data:=.seq vs.toArray}) (hi:IntsAre vs ns) (hl:ns.length<=sizeLine) (hr:gA k callerA)
  (F:∀aV:aK,K.In aV->aV.Ns mainGlobals mg->cP P w K mg aV CX k fa fd [x] sp) (hbind:∀(s:ao) (u:ak),BindsTo s fd ⟨[u],[]⟩ [(x,u)])
  (hsp:∀H:Hp,Only H->dM K H a (ns.map V.int)->sp [.ref a] H (λv _=>v=.bl true) λ_ _ _=>False)
  (hCX:∀H e s',CX [] H eE (λ_ _ _=>False) e s'->False):
  codeAny (model P w) callerA (.call (.ref fa) ⟨[.ref a],[]⟩) (λr s'=>r=.ok (.ret<|.bool true)/\OldK eE.heap s'.heap/\s'.os=eE.os/\AllBare s'.gens) eE:=by
 have rv:=yG hi;have lenV:=hi.length;have core:∀H:Hp,Only H->dM K H a (ns.map V.int)->mK P w H eE.heap->(∀b,H b≠none->b=a)->(H a≠none->K.lookup a=none)->
   codeAny (model P w) callerA (.call (.ref fa) ⟨[.ref a],[]⟩) (λr s'=>r=.ok (.ret<|.bool true)/\OldK eE.heap s'.heap/\s'.os=eE.os/\AllBare s'.gens) eE:=by
  intro H hO hS hok hA hK;have Ii:∀{b:aj} {o:Obj},eE.heap.get? b=some o->H b=none->(zy eE.heap H).get? b=some o:=λe n=>MP e n;have noA:∀{b:aj} {o:Obj} {es:Array DictEntry} {ep:Nat},eE.heap.get? b=some o->o.data=.dict es ep->H b=none:=λ{b o es ep} e d=>by
   cases q:H b with
   |none=>rfl
   |some u=>
    have e':b=a:=hA b (by rw[q];simp);subst e';rw[ha]at e;cases e;have d':Data.seq vs.toArray _=Data.dict es ep:=d;cases d'
  have nsK:∀{b:aj} {m:Str->Option ak},eE.heap.Ns b m->(zy eE.heap H).Ns b m:=λ{b m} ⟨o,es,ep,e,d,r⟩=>⟨o,es,ep,Ii e<|noA e d,d,r⟩;have hKb:K.In (zy eE.heap H):=λb o e=>Ii (KX b o e) (by
   cases q:H b with
   |none=>rfl
   |some u=>
    have e':b=a:=hA b (by rw[q];simp);subst e';rw[hK (by rw[q];simp)]at e;cases e)
  have hM:Mod K mg (zy eE.heap H):=⟨hKb,nsK hns,⟨mb,nsK hb,hbb⟩,let ⟨mc,h1,h2⟩:=hlim;⟨mc,nsK h1,h2⟩⟩;have e0:xW P w K mg (zy eE.heap H) callerA [] eE H:=⟨rfl,hM,λb o e=>R4 e,ae0<|JQ _ _,trivial,λb hb=>absurd (show b∈([]:List aj) from hb) (by simp),hok, .of_eq hg⟩;refine codeAny_mono ((F _ hKb<|nsK hns).run callerA [] eE H ⟨[.ref a],[]⟩ [.ref a] [.ref a] _ _ hr e0 (hbind eE<|.ref a) (.cons rfl .nil) (hsp H hO hS)) λr s' h=>?_;cases r with
  |error e=>exact(hCX H e s' h).elim
  |ok fl=>
   cases fl with
   |next=>exact af7 h
   |brk=>exact af7 h
   |cont=>exact af7 h
   |ret u=>
    obtain⟨v,H',os,bare,un,hok',r',q⟩:=h;have q':v=.bl true:=q;subst q';obtain rfl:u=Value.bool true:=r';refine⟨rfl,OldK.of_keep λb o e=>?_,os,bare⟩;cases q:H b with
    |none=>exact un.keep b o e q (by intro z;exact absurd (show b∈([]:List aj) from z)<|by simp) (by simp)
    |some u=>
     rcases hO b with z|⟨ob,xs,z⟩
     ·rw[q]at z;cases z
     ·have z2:=un.rD b ob _ z
      obtain⟨e1,_⟩:=hok b _ z;obtain⟨e2,_⟩:=hok' b _ z2;rw[e]at e1;cases e1;exact e2
 cases hk:K.lookup a with
 |some o=>
  have e:=KX a o hk;rw[ha]at e;cases e;refine core (λ_=>none) (λ_=>.inl rfl) (.inr ⟨_,vs.toArray,_,hk,rfl,rfl,rfl,by rw[ad7,lenV];exact hl,by simpa using rv⟩) (λb u z=>by have z':(none:Option HO)=some u:=z;cases z') (λb z=>absurd rfl z) λz=>absurd rfl z
 |none=>
  refine core (λb=>if b=a then some (.FT {cls:=.type "list",data:=.seq vs.toArray} (.lst<|ns.map V.int)) else none) (λb=>?_) (.inl<|.inr ⟨{cls:=.type "list",data:=.seq vs.toArray},afX rfl⟩) (λb u z=>?_) (λb z=>?_) λ_=>hk
  ·by_cases hb:b=a
   ·exact .inr ⟨_,_,afX hb⟩
   ·exact .inl<|afY hb
  ·by_cases hb:b=a
   ·have z':=(afX hb).symm.trans z
    cases z';subst hb;exact⟨ha,by rw[aeb];exact hl,vs,_,rv,ha⟩
   ·have z':=(afY hb).symm.trans z
    cases z'
  ·by_cases hb:b=a
   ·exact hb
   ·exact absurd (afY hb) z
theorem S6 {l:PySem.W.OpenLaw}{n k:Nat}{q:aA}{loose:aP Str}{XP:(Str->aO ak)->aK->Prop}{YP:aG->aK->Prop}{d:DefRec}{K:Params->aN}{CX:aG->HY}{sp:aG->Sp}{x:Str}
  (hn:l.most=some n) (hn2:n<=sizeLine) (hdf:d.params.defaults=[]) (hr:gA k callerA)
  (hY:∀(w:aG) (h:aK),YP w h->(K w.params).In h)
  (F:∀(w:aG) (mg:Str->aO ak) (fa:aj) (h:aK),(K w.params).In h->h.Ns mainGlobals mg->mg d.name=some (.ref fa)->
   ∃fd:FuncData,(∀(s:ao) (u:ak),BindsTo s fd ⟨[u],[]⟩ [(x,u)])/\
    ∀aV:aK,(K w.params).In aV->aV.Ns mainGlobals mg->cP l.prog w (K w.params) mg aV (CX w) k fa fd [x] (sp w))
  (hsp:∀(w:aG) (H:Hp) (a:aj) (ns:aP Int),ns.length<=n->Only H->dM (K w.params) H a (ns.map V.int)->sp w [.ref a] H (λv _=>v=.bl true) λ_ _ _=>False)
  (hCX:∀(w:aG) (H:Hp) (s:ao) (e:ak) (s':ao),CX w [] H s (λ_ _ _=>False) e s'->False):
  PySem.W.WalkO q loose XP YP l.row.toRowW d [] (λf vs=>PySem.call f vs):=by
 refine Att.CP hn hdf λw s₀ eE mg mb fa o pm cd mZ a vs ns G Y ho hd xV hmg hobj hints jY hg=>?_;have KX:=hY w _ Y;obtain⟨fd,hb,hF⟩:=F w mg fa _ KX G.T.g hmg;exact Og KX G.T.g G.T.b G.T.builtins G.T.nolimit hg hobj hints (ad2 jY hn2) hr hF hb (λH hO hS=>hsp w H a ns jY hO hS) λH e s'=>hCX w H eE e s'
noncomputable def inClass (s:aJ)(j:Nat):aJ:=match s with
 |.ClassDef _ _ _ body _ _ _ _ _ _ _=>body.getD j (.Pass ⟨0,0,0,0⟩)
 |_=>.Pass ⟨0,0,0,0⟩
noncomputable def jq (s:aJ):Arguments:=match s with
 |.FunctionDef _ a _ _ _ _ _ _ _ _=>a
 |_=>{posonlyargs:=[],args:=[],vararg:=none,kwonlyargs:=[],kw_defaults:=[],kwarg:=none,defaults:=[]}
noncomputable def cT (s:aJ):List aJ:=match s with
 |.FunctionDef _ _ b _ _ _ _ _ _ _=>b
 |_=>[]
noncomputable def bQ (s:aJ):Scope:=match s with
 |.FunctionDef _ _ _ _ _ _ sc _ _ _=>sc
 |_=>{kind:=.function,names:=[],isGenerator:=false,isCoroutine:=false}
abbrev jV:HY:=λ_ _ _ _ _ _=>False
abbrev E0:XK:=λ_ _ _=>False
theorem vK {X:Cx}:Passes jV X E0:=λ_ _ _ _ _ _ _ h=>h.elim
structure iz (K:aN)(x bf:Str)(st:aJ)(f:aj)(fd:FuncData):Prop where
 ex:∃(oc:ak) (od:Option aj) (kV mZ pm:ak) (an:Option aj) (dF ct:ak) (osl:Array (Option ak)),
  fd=fnOf x bf (jq st) (cT st) (bQ st) .none kV mZ pm an dF ct/\K.lookup f=some ⟨oc,od, .func fd,osl⟩/\codeIn K dF bf=true
 kp:keepIn K (.ref f)=true
section
variable {P:aA}{w:aG}{K:aN}{mg:Str->Option ak}{aV:aK}
theorem iz.ok {x bf:Str}{st:aJ}{f:aj}{fd:FuncData}{N ps:aP Str}{k:Nat}{sp:Sp}(F:iz K x bf st f fd)(S:bZ N ps (bQ st))
  (hbody:∀(dF:ak) (A:aq) (aU:aP Env) (s:ao) (H:Hp) (vs:aP V) (Q:VK) (E:XK),gA k (A.deeper<|envOfC bf (bQ st) s.heap.objs.size f dF)->sp vs H Q E->
   ∃t,xU (dX jV P w K mg aV N bf (bQ st) f dF A aU s H E).JW (cT st) t/\t (Ends.of Q) (start N vs) H) (len:∀vs H Q E,sp vs H Q E->vs.length=ps.length:=by rintro _ _ _ _ ⟨⟩;subst_vars;rfl):cP P w K mg aV jV (k+1) f fd ps sp:=by
 obtain⟨oc,od,kV,mZ,pm,an,dF,ct,osl,rfl,lk,xV⟩:=F.ex;refine NK lk xV S len λA aU s H vs Q E hr hsp=>?_;obtain⟨t,h,q⟩:=hbody dF A aU s H vs Q E hr hsp;exact⟨t,h.JW,q⟩
theorem iz.binds {x bf:Str}{st:aJ}{f:aj}{fd:FuncData}{ps:aP Str}(F:iz K x bf st f fd)
  (h:∀(kV mZ pm:ak) (an:aO aj) (dF ct:ak) (us:aP ak),us.length=ps.length->bindArgs (fnOf x bf (jq st) (cT st) (bQ st) .none kV mZ pm an dF ct) ⟨us,[]⟩=pure (ps.zip us)):Binds K fd ps []:=by
 obtain⟨oc,od,kV,mZ,pm,an,dF,ct,osl,rfl,lk,xV⟩:=F.ex;exact .all<|h kV mZ pm an dF ct
theorem Oh {x bf:Str}{st:aJ}{f:aj}{oc:ak}{od an:aO aj}{osl:Array (aO ak)}{kV mZ pm dF ct:ak}(l:K.lookup f=some ⟨oc,od, .func<|fnOf x bf (jq st) (cT st) (bQ st) .none kV mZ pm an dF ct,osl⟩)
  (c:codeIn K dF bf=true) (k:keepIn K (.ref f)=true):iz K x bf st f (fnOf x bf (jq st) (cT st) (bQ st) .none kV mZ pm an dF ct):=⟨⟨oc,od,kV,mZ,pm,an,dF,ct,osl,rfl,l,c⟩,k⟩
end
theorem qD {A:aq}{k:Nat}(hr:gA k A):A.units+1<cLine:=ae7 (Nat.add_le_add_left (by decide:1<=64) _) hr.units
section
variable {X:Cx}
theorem pv (i:Nat){x:Str}{pos:Pos}(hN:X.N[i]?=some x:=by rfl)(hv:Vis X.env.scope x:=by first|exact Or.inl rfl|exact Or.inr (Or.inl rfl)|exact Or.inr<|Or.inr rfl)(hd:(x==("__debug__":Str))=false:=by decide)
  (xV:(x==("__classdict__":Str))=false:=by decide):PE X (.Name x pos) (jr i):=Xx hN hv hd xV
end
theorem lU {A B:Prop}(h:B):if false=true then A else B:=by
 rw[afY aea];exact h
theorem jK {A B:Prop}(h:A):if true=true then A else B:=by
 rw[afX rfl];exact h
theorem gU {c A B:Prop}[Decidable c](h1:c->A)(h2:¬c->B):if c then A else B:=by
 by_cases h:c
 ·rw[afX h]
  exact h1 h
 ·rw[afY h]
  exact h2 h
def Same (H H':Hp):Prop:=∀b o,H b=some o->H' b=some o
theorem Same.refl (H:Hp):Same H H:=λ_ _ h=>h
theorem Same.trans {H H1 H2:Hp}(a:Same H H1)(b:Same H1 H2):Same H H2:=λc o h=>b c o (a c o h)
theorem Same.free {H H':Hp}(e:Same H H'){l:aj}(h:H' l=Option.none):H l=Option.none:=by
 cases q:H l with
 |none=>rfl
 |some o=>
  rw[e l o q]at h;cases h
theorem Same.seq {K:aN}{H H':Hp}{a:aj}{xs:aP V}(e:Same H H')(h:dM K H a xs):dM K H' a xs:=by
 rcases h with (h|⟨o,h⟩)|h
 ·exact .inl<|.inl (e _ _ h)
 ·exact .inl<|.inr ⟨o,e _ _ h⟩
 ·exact .inr h
noncomputable def jN (cells:List (Str×aj)):List (Str×NameKind)->List (Str×aj)->List (Str×aj)
 |[],jP=>jP
 |(n,k)::r,jP=>if k==.free then(match cells.lookup n with|some c=>jN cells r ((n,c)::jP)|none=>jN cells r jP) else jN cells r jP
theorem CQ {env:Env}:∀(names:List (Str×NameKind)) (jP:List (Str×aj)),(∀p∈names,p.2=.free->∃c,env.cells.lookup p.1=some c)->
  (forIn names jP λ(x:Str×NameKind) (r:List (Str×aj))=>(if(x.2==NameKind.free)=true then(do let a <-cellOf env x.1;pure (ForInStep.yield ((x.1,a)::r))) else pure (ForInStep.yield r):Sem (ForInStep<|List (Str×aj))))=pure (jN env.cells names jP):=by
 intro names
 induction names with
 |nil=>intro jP _;rfl
 |cons p r ih=>
  intro jP h;obtain⟨n,k⟩:=p;rw[afP];cases hk:k==NameKind.free with
  |false=>
   simp only[hk,aeP,if_false,pure_bind,jN];exact ih jP λq hq=>h q (ad0 _ hq)
  |true=>
   have e:k=.free:=by simpa using hk
   obtain⟨c,hc⟩:=h (n,k) ad3 e;simp only[hk,if_true,jN,cellOf,hc,pure_bind];exact ih _ λq hq=>h q (ad0 _ hq)
theorem Oi {aZ:Scope}{env:Env}(h:∀p∈aZ.names,p.2=.free->∃c,env.cells.lookup p.1=some c):closureFor aZ env=pure (jN env.cells aZ.names []):=by
 have q:=CQ (env:=env) aZ.names [] h;simp only[closureFor]
 first
  |exact q
  |(rw[<-q];simp)
  |simpa using q
theorem Gu {cells:List (Str×aj)}:∀(names:List (Str×NameKind)) (jP:List (Str×aj)) (y:Str) (c:aj),(jN cells names jP).lookup y=some c->cells.lookup y=some c\/jP.lookup y=some c:=by
 intro names
 induction names with
 |nil=>intro jP y c h;exact .inr h
 |cons p r ih=>
  intro jP y c h;obtain⟨n,k⟩:=p;unfold jN at h;split at h
  ·split at h
   ·rename_i c' hc
    rcases ih _ y c h with q|q
    ·exact .inl q
    ·rw[aek]at q
     cases e:y==n with
     |true=>
      rw[e]at q;have e':y=n:=by simpa using e
      subst e';have q':some c'=some c:=q;rw[<-q'];exact .inl hc
     |false=>rw[e]at q;exact .inr q
   ·exact ih _ y c h
  ·exact ih _ y c h
theorem Kq {cells:List (Str×aj)}:∀(names:List (Str×NameKind)) (jP:List (Str×aj)) (y:Str),(∃c,jP.lookup y=some c)->∃c,(jN cells names jP).lookup y=some c:=by
 intro names
 induction names with
 |nil=>intro jP y h;exact h
 |cons p r ih=>
  intro jP y h;obtain⟨n,k⟩:=p;unfold jN;split
  ·split
   ·refine ih _ y ?_
    rw[aek];cases e:y==n with
    |true=>exact⟨_,rfl⟩
    |false=>exact h
   ·exact ih _ y h
  ·exact ih _ y h
theorem yH {cells:List (Str×aj)}:∀(names:List (Str×NameKind)) (jP:List (Str×aj)) (y:Str),(y,NameKind.free)∈names->(∃c,cells.lookup y=some c)->∃c,(jN cells names jP).lookup y=some c:=by
 intro names
 induction names with
 |nil=>intro jP y h _;cases h
 |cons p r ih=>
  intro jP y h hc;obtain⟨n,k⟩:=p;unfold jN;rcases aev.mp h with e|h
  ·cases e
   obtain⟨c,hc⟩:=hc;simp only[beq_self_eq_true,if_true,hc];exact Kq _ _ _ ⟨c,by rw[aek,beq_self_eq_true]⟩
  ·split
   ·split
    ·exact ih _ y h hc
    ·exact ih _ y h hc
   ·exact ih _ y h hc
noncomputable def fU (X:Cx)(N':List Str)(aZ:Scope)(C:aj)(s₀:ao)(H₀:Hp)(ex:List aj):Cx :=
 {X with N:=N',s₀:=s₀,H₀:=H₀,env:=compEnvC aZ (jN X.env.cells aZ.names []) C X.env,outer:=X.stack,stack:=X.stack,ex:=ex,fn:=λ_=>false,xe:=λ_ _=>False}
noncomputable def fZ (X:Cx)(N':List Str)(aZ:Scope)(C:aj)(s₀:ao)(H₀:Hp)(ex:List aj)(XE:aj->ao->Hp->List aj->ak->ao->Prop):Cx:={fU X N' aZ C s₀ H₀ ex with xe:=XE C s₀ H₀ ex}
def noX:aj->ao->Hp->List aj->ak->ao->Prop:=λ_ _ _ _ _ _=>False
theorem tH (X:Cx)(N':aP Str)(aZ:Scope)(C:aj)(s₀:ao)(H₀:Hp)(ex:aP aj):fZ X N' aZ C s₀ H₀ ex noX=fU X N' aZ C s₀ H₀ ex:=rfl
def S7 (X:Cx)(ifs:List aH)(t:TT):Prop :=
 ∀(bG:List (aj×Obj)) (s:ao) (U:St) (H:Hp) (Q:Bool->Hp->Prop),Inv X bG U H s->t U H Q->
  wpAny (model X.prog X.w) X.A (forIn ifs true λc r=>if r=true then do let ok <-isTrue c X.env (eval c X.env);pure (ForInStep.yield ok) else pure (ForInStep.yield r)) (TP X bG U Q) X.xe s
def CV:TT:=λ_ H Q=>Q true H
theorem pX {X:Cx}:S7 X [] CV:=λ_ _ _ H _ I h=>wpAny_tests_nil ⟨H,I,h⟩
section
variable {prog:aA}{w:aG}{A:aq}{R:Result->ao->Prop}{s:ao}
theorem CW {oM target dZ:aH}{ifs:List aH}{aZ:Scope}{pos:Pos}{it jP:ak}{env:Env}(I:Nat->ao->Prop)(E':ak->ao->Prop)(hE:∀e s,E' e s->notedBy (model prog w) A env (λx s'=>R (.error x) s') e s)
  (turn:∀n s,I n s->wpAny (model prog w) A (pyNext it) (λr eE=>match r with
   |none=>R (.ok .next) eE
   |some v=>wpAny (model prog w) A (letOwnedTupleGo target it v) (λ_ s₀=>wpAny (model prog w) A (assign target env v) (λ_ s₂=>
     wpAny (model prog w) A (forIn ifs true λc r=>if r=true then do let ok <-isTrue c env (eval c env);pure (ForInStep.yield ok) else pure (ForInStep.yield r)) (λok s₃=>
      if ok=true then wpAny (model prog w) A (eval oM env) (λx s₄=>
       wpAny (model prog w) A (call (.builtin "list.append") [jP,x]) (λ_ s₅=>∃m,m<n/\I m s₅) E' s₄) E' s₃
      else ∃m,m<n/\I m s₃) E' s₂) E' s₀) E' eE) E' s)
  (n:Nat) (h:I n s):
  codeAny (model prog w) A (.compLoop (.ListComp oM [⟨target,dZ,ifs,0⟩] aZ pos) 0 it jP env) R s:=by
 refine codeAny_loop rfl I (λn s hI=>?_) n h;show wpAny _ A ((compTurn (.ListComp oM [⟨target,dZ,ifs,0⟩] aZ pos) 0 it jP env).onRaise λx=>do noteFrame x env;theTreesLotGoes x) _ _ s;refine wpAny_noted ?_;rw[compTurn_list];refine abI<|wpAny_standAt (abI<|wpAny_mono (turn n s hI) (λr eE tK=>?_) hE);cases r with
 |none=>exact afV tK
 |some v=>
  refine abI<|wpAny_mono tK (λ_ s₀ h₀=>?_) hE;refine abI<|wpAny_mono h₀ (λ_ s₂ h₂=>abI<|wpAny_mono h₂ (λok s₃ h₃=>?_) hE) hE;cases ok with
  |false=>exact afV ⟨rfl,h₃⟩
  |true=>
   exact abI<|abI (wpAny_mono h₃ (λx s₄ h₄=>abI<|wpAny_mono h₄ (λ_ s₅ h₅=>afV<|afV ⟨rfl,h₅⟩) hE) hE)
end
structure pY (X:Cx)(x:Str)(cA:List Str)(jA:List Nat)(aZ:Scope):Prop where
 kind:aZ.kind=.function
 tL:∀y∈aZ.names,y.2≠.cell
 loc:∀y∈aZ.names,y.2=.local->aZ.names.lookup y.1=some .local
 tgt:aZ.names.lookup x=some .local
 nd:(x::cA).Nodup
 fr:∀y∈aZ.names,y.2=.free->X.env.kindOf y.1=some .cell\/X.env.kindOf y.1=some .free
 ix:∀(j:Nat) (y:Str),cA[j]?=some y->∃k,jA[j]?=some k/\X.N[k]?=some y
 len:jA.length=cA.length
 cl:∀y∈cA,(y,NameKind.free)∈aZ.names
noncomputable def outs (U:St)(jA:List Nat):St:=jA.map λk=>(U[k]?).join
def CZ (J:It)(tt:TT)(te:TE)(U':St)(Q:VK)(H1:Hp):Prop:=∃W:Nat->Nat->List V->Hp->Prop,(∃m,W 0 m [] H1)/\∀i m vs H2,W i m vs H2->
 vs.length<sizeLine/\((J.stop i H2/\∀l,H2 l=none->Q (.ref l) (upd H2 l<|.lst vs))\/
  (J.go i H2/\∀x H3,J.Wo i H2 x H3->tt (some x::U') H3 λb H4=>if b=true then te (some x::U') H4 λv H5=>∃m',m'<m/\W (i+1) m' (vs++[v]) H5 else ∃m',m'<m/\W (i+1) m' vs H4))
def uh (jA:List Nat)(wi:TI)(tt:TT)(te:TE):TE:=λU H Q=>wi U H λJ H1=>CZ J tt te (outs U jA) Q H1
theorem Vals.snoc {xs:aP V}{us:aP ak}{x:V}{u:ak}(h:Vals xs us)(r:RelV x u):Vals (xs++[x]) (us++[u]):=Vals.append h (.cons r .nil)
theorem jE {α β:Type}[BEq α][LawfulBEq α]{l:List (α×β)}{x:α}{b:β}(h:l.lookup x=some b):(x,b)∈l:=by
 induction l with
 |nil=>simp at h
 |cons p r ih=>
  obtain⟨n,k⟩:=p;rw[aek]at h;cases e:x==n with
  |true=>
   rw[e]at h;have e':x=n:=by simpa using e
   have h':k=b:=af5 h;subst e' h';exact ad3
  |false=>rw[e]at h;exact ad0 _<|ih h
theorem zP {aZ:Scope}{env:Env}{y:Str}(h:(relabel aZ env).names.lookup y=some .cell\/(relabel aZ env).names.lookup y=some .free)(hc:∀y∈aZ.names,y.2≠.cell):(y,NameKind.free)∈aZ.names:=by
 have q:∃k,(y,k)∈(relabel aZ env).names/\(k=.cell\/k=.free):=by
  rcases h with h|h
  ·exact⟨_,jE h, .inl rfl⟩
  ·exact⟨_,jE h, .inr rfl⟩
 obtain⟨k,hm,hk⟩:=q;obtain⟨⟨n,k'⟩,hm',e⟩:=List.mem_map.mp hm;dsimp only at e;split at e
 ·rename_i hf
  cases e;have:k'=.free:=by
   simp only[ae1,beq_iff_eq]at hf;exact hf.1.1
  subst this;exact hm'
 ·cases e
  rcases hk with rfl|rfl
  ·exact absurd rfl (hc _ hm')
  ·exact hm'
theorem kY {env:Env}:∀{names:List (Str×NameKind)} {x:Str},names.lookup x=some .free->
  ((names.map λ(n,k)=>if(k==NameKind.free&&env.scope.kind==.function&&env.kindOf n==some .cell) then(n,NameKind.cell) else(n,k)).lookup x=some .cell\/
   (names.map λ(n,k)=>if(k==NameKind.free&&env.scope.kind==.function&&env.kindOf n==some .cell) then(n,NameKind.cell) else(n,k)).lookup x=some .free)
 |[],_,h=>by simp at h
 |(n,k)::r,x,h=>by
  have ih:=@kY env r x;rw[aei];cases hx:x==n with
  |true=>
   simp only[aek,hx]at h;have hk:k=.free:=af5 h;subst hk;by_cases hc:(NameKind.free==NameKind.free&&env.scope.kind==.function&&env.kindOf n==some .cell)=true
   ·left
    simp only[hc,if_true,aek,hx]
   ·right
    simp only[hc,if_false,aek,hx,aeP]
  |false=>
   simp only[aek,hx]at h;by_cases hc:(k==NameKind.free&&env.scope.kind==.function&&env.kindOf n==some .cell)=true
   ·simp only[hc,if_true,aek,hx];exact ih h
   ·simp only[hc,if_false,aek,hx,aeP];exact ih h
theorem Inv.track {X:Cx}{bG:aP (aj×Obj)}{U:St}{H:Hp}{s:ao}{D:aj}{vs:aP V}{bh:aP ak}{k:Nat}(I:Inv X bG U H s)(hD:H D=none)(hz:vs.length<=sizeLine)(hv:Vals vs bh)
  (e:s.heap.get? D=some {cls:=.type "list",data:=.seq bh.toArray k}) (h1:D∈X.ex\/X.s₀.heap.objs.size<=D) (h2:D≠X.env.locals) (h3:∀x c,X.env.cells.lookup x=some c->c≠D) (h4:∀p∈X.pn++bG,p.1≠D):
  Inv X bG U (upd H D<|.lst vs) s:=by
 obtain⟨hh,g,d,t,o⟩:=s;have nD:∀b u,H b=some u->b≠D:=λb u q z=>by rw[z,hD]at q;cases q
 refine I.step (g':=g) (d':=d) (t':=t) (h':=hh) (ch:=[D]) (λb hb=>?_) (λb o _ _ _ q _=>q) (λb o _ _ _ q _=>⟨o.slots,q⟩) (λb o hb q n=>?_) (λb o _ q=>⟨o,q⟩)
  (λb xs q=>by rw[bR (nD b _ q)];exact q) (λb o u q=>by rw[bR (nD b _ q)];exact q) (λb ps q=>⟨#[],by rw[bR (nD b _ q),q];simp⟩) (λm q=>q) (λb u q=>?_) I.bare
 ·have z:b=D:=by simpa using hb
  subst z;exact⟨h1,h2,h3,h4⟩
 ·rw[bR (by simpa using hb)];exact n
 ·by_cases z:b=D
  ·subst z
   rw[bA]at q;cases q;exact⟨hz,bh,k,hv,e⟩
  ·rw[bR z]at q
   exact(I.hok b u q).stay (λ_ _ _ q=>q) (λc q=>by rw[bR (nD c _ q)];exact q) λc xs q=>by rw[bR (nD c _ q)];exact q
structure nZ (X:Cx)(cA:List Str)(jA:List Nat)(aZ:Scope):Prop where
 kind:aZ.kind=.function
 tL:∀y∈aZ.names,y.2≠.cell
 loc:∀y∈aZ.names,y.2=.local->aZ.names.lookup y.1=some .local
 fr:∀y∈aZ.names,y.2=.free->X.env.kindOf y.1=some .cell\/X.env.kindOf y.1=some .free
 ix:∀(j:Nat) (y:Str),cA[j]?=some y->∃k,jA[j]?=some k/\X.N[k]?=some y
 len:jA.length=cA.length
 cl:∀y∈cA,(y,NameKind.free)∈aZ.names
def Oj (n:Nat)(J:It)(g:TG)(tt:TT)(te:TE)(U':St)(Q:VK)(H1:Hp):Prop:=∃W:Nat->Nat->List V->Hp->Prop,(∃m,W 0 m [] H1)/\∀i m vs H2,W i m vs H2->
 vs.length<sizeLine/\((J.stop i H2/\∀l,H2 l=none->Q (.ref l) (upd H2 l<|.lst vs))\/
  (J.go i H2/\∀(τ:St) x H3,τ.length=n->J.Wo i H2 x H3->g x (τ++U') H3 λU1 H4=>(∃τ':St,U1=τ'++U'/\τ'.length=n)/\
   tt U1 H4 λb H5=>if b=true then te U1 H5 λv H6=>∃m',m'<m/\W (i+1) m' (vs++[v]) H6 else ∃m',m'<m/\W (i+1) m' vs H5))
def tM (n:Nat)(jA:List Nat)(wi:TI)(g:TG)(tt:TT)(te:TE):TE:=λU H Q=>wi U H λJ H1=>Oj n J g tt te (outs U jA) Q H1
theorem tQ {X:Cx}{oM dZ tg:aH}{M:aP Str}{g:TG}{pos p1:Pos}{ifs:aP aH}{aZ:Scope}{cA:aP Str}{jA:aP Nat}{wi:TI}{tt:TT}{te:TE}{XE:aj->ao->Hp->aP aj->ak->ao->Prop}
  (hc:X.calm=true) (S:nZ X cA jA aZ) (hfl:∀y∈cA,aZ.names.lookup y=some .free) (hi:PI X tg dZ wi) (hg:∀C s₀ H₀ ex,PG (fZ X (M++cA) aZ C s₀ H₀ ex XE) tg g)
  (ht:∀C s₀ H₀ ex,S7 (fZ X (M++cA) aZ C s₀ H₀ ex XE) ifs tt) (he:∀C s₀ H₀ ex,PE (fZ X (M++cA) aZ C s₀ H₀ ex XE) oM te)
  (hs:∀v,foldedSetIterable dZ X.env v=pure v) {use:aO (ak->Sem Unit)} {Q':ak->ao->Prop} {bG:aP (aj×Obj)} {s:ao} {U:St} {H:Hp} {Q:VK} (I:Inv X bG U H s) (h:tM M.length jA wi g tt te U H Q)
  (hxe:∀C s2 H2 ex D,Inv X bG U H2 s2->(∀b∈ex,vD X bG H2 b)->s2.heap.objs.size<=C->D≠C->∀e s',XE C s2 H2 ex e s'->notedBy (model X.prog X.w) X.A (compEnvC aZ (jN X.env.cells aZ.names []) C X.env) (λx s''=>compPost (model X.prog X.w) X.A X.xe use Q' (.ref D) C (.error x) s'') e s')
  (hpost:∀(D C:aj) (H':Hp) m4 (s4:ao),s4.heap.Ns C m4->(∀h',Heap.SameBut C s4.heap h'->Inv X bG U H' {s4 with heap:=h'})->H' C=none->C≠X.env.locals->C∉X.fs->X.s₀.heap.objs.size<=C->(∀z c,X.env.cells.lookup z=some c->c≠C)->(∀p∈X.pn++bG,p.1≠C)->Q (.ref D) H'->
   compPost (model X.prog X.w) X.A X.xe use Q' (.ref D) C (.ok .next) s4):
  wpAny (model X.prog X.w) X.A (comprehension (.ListComp oM [⟨tg,dZ,ifs,0⟩] aZ pos) aZ X.env p1 (newList []) (firstAsync [⟨tg,dZ,ifs,0⟩]) (firstIter [⟨tg,dZ,ifs,0⟩] X.env) use) Q' X.xe s:=by
 have hclos:=Oi (aZ:=aZ) (env:=X.env) λp hp hf=>I.ok.has p.1 (S.fr p hp hf);refine wpAny_comprehension_free (use:=use) rfl hs hclos S.kind S.loc (gk (hi bG s U H _ I h) λv s1 h1=>gk h1 λitv s2 h2=>?_);obtain⟨it,fp,tn,J,H2,rfl,I2,T,st2,f2,W,⟨m0,w0⟩,turn⟩:=h2;refine wpAny_newObj_type (wpAny_newFunctionEnv S.tL (by intro y hy;simp at hy) (λtK hns₁ hsb₁=>?_) S.kind);dsimp only at hns₁ hsb₁ ⊢;generalize hH2:s2.heap.push {cls:=.type "list",dict:=none,data:=.seq ([]:aP ak).toArray}=G2 at hns₁ hsb₁ ⊢;have hCe:G2.objs.size=s2.heap.objs.size+1:=by rw[<-hH2,aeN]
 generalize hC:G2.objs.size=C at hns₁ hsb₁ hCe ⊢;have hCle:s2.heap.objs.size<=C:=by omega
 have hDC:s2.heap.objs.size≠C:=by omega
 have below:∀b,b<s2.heap.objs.size->b≠C:=λb hb=>by omega
 have old:∀b o,s2.heap.get? b=some o->tK.get? b=some o:=λb o e=>hsb₁.extBut b o (below b<|ad1 e) (adY _<|hH2 ▸ adY _ e);have hacc:∃k,tK.get? s2.heap.objs.size=some {cls:=.type "list",data:=.seq ([]:aP ak).toArray k}:=⟨_,hsb₁.extBut _ _ hDC<|adY _ (hH2 ▸ ad' _ rfl)⟩;have look:∀y c,(jN X.env.cells aZ.names []).lookup y=some c->X.env.cells.lookup y=some c:=λy c e=>by
  rcases Gu _ _ y c e with q|q
  ·exact q
  ·cases q
 have fpD:∀b∈fp,b<s2.heap.objs.size:=λb hb=>by
  obtain⟨o,e,_⟩:=T.obj _ _ st2 b hb;exact ad1 e
 have ok':(fZ X (M++cA) aZ C s2 H2 fp XE).Ok:={
  mod:=I2.ok.mod
  kind:=S.kind
  glob:=I2.ok.glob
  blt:=I2.ok.blt
  above:=hCle
  inj:=λy z c e1 e2=>I2.ok.inj y z c (look y c e1) (look z c e2)
  has:=λy hy=>by
   have q:=zP (aZ:=aZ) (env:=X.env) hy S.tL;exact yH _ _ y q<|I2.ok.has y (S.fr _ q rfl)
  cab:=λy c hf=>by cases hf
  hd:=I2.ok.hd
  frames:=I2.ok.frames
  stk:=.inl rfl
  R6:=λb hb=>⟨below b<|fpD b hb,λy c e=>(f2 b hb).2.2.2.2.1 y c<|look y c e⟩
  bs:=I2.bs
  BL:=ad2 I2.ok.BL I2.sz
  uD:=λb o e hb=>by
   rcases(f2 b hb).2.2.2.1 with z|z
   ·exact I2.ok.uD b o e z
   ·exact absurd (ad4 (ad1 e)<|ad2 I2.ok.BL z)<|aed _
  vq:=λb hb hf=>by
   rcases aev.mp (I2.jC b hf) with z|z
   ·exact(f2 b hb).2.1 z
   ·exact(f2 b hb).2.2.1 z
  mO:=I2.stack
  Fq:=I2.nR}
 have Dfs:s2.heap.objs.size∉frs X.stack:=λhb=>by
  rcases aev.mp (I2.jC _ hb) with z|z
  ·have q:=I2.lt
   rw[<-z]at q;exact aed _ q
  ·exact I2.R7 (adZ _) z
 have WX:∀y c,X.env.cells.lookup y=some c->c≠s2.heap.objs.size:=λy c e z=>by
  obtain⟨v,q⟩:=I2.cell y c e;have q':=q.lt;rw[z]at q';exact aed _ q'
 have aa2:∀p∈X.pn++bG,p.1≠s2.heap.objs.size:=λp hp z=>by
  have q':=ad1 (I2.pin p hp).1;rw[z]at q';exact aed _ q'
 have I3:Inv (fZ X (M++cA) aZ C s2 H2 fp XE) bG (List.replicate M.length none++outs U jA) H2 {s2 with heap:=tK,toks:=s2.toks+([]:aP (Str×ak)).length}:={
  ok:=ok'
  os:=rfl
  bare:=I2.bare
  base:=Un.kept old
  loc:=by
   refine⟨_,hns₁,λi y v e1 e2 e3=>?_⟩;by_cases hi':i<M.length
   ·rw[ad6 (by rw[afb];exact hi'),afL,afX hi']at e2
    cases e2
   ·obtain⟨j,rfl⟩:∃j,i=M.length+j:=⟨i-M.length,by omega⟩
    have e1':cA[j]?=some y:=by
     have aa3:(M++cA)[M.length+j]?=some y:=e1;rw[aef (ad9 _ _),aeK]at aa3;exact aa3
    have e2':(outs U jA)[j]?=some (some v):=by
     rw[aef (by rw[afb];exact ad9 _ _),afb,aeK]at e2;exact e2
    obtain⟨k,hk,hN⟩:=S.ix j y e1';have hy:y∈cA:=aeJ e1';have e4:U[k]?=some (some v):=by
     unfold outs at e2';rw[aee,hk]at e2';have e5:(U[k]?).join=some v:=af5 e2';cases q:U[k]? with
     |none=>rw[q]at e5;cases e5
     |some o=>rw[q]at e5;exact congrArg some e5
    obtain⟨m,hn,hl⟩:=I2.loc;have JR:=S.fr _ (S.cl y hy) rfl;have vis:Vis X.env.scope y:=by
     rcases JR with z|z
     ·exact .inr<|.inl z
     ·exact .inr<|.inr z
    obtain⟨u,r,l⟩:=hl k y v hN e4 vis;refine⟨u,r, .inr ⟨kY (env:=X.env)<|hfl y hy,?_⟩⟩;rcases l with ⟨z,_⟩|⟨_,c,ec,ic⟩
    ·rcases JR with z'|z'
     ·have z'':X.env.kindOf y=some .cell:=z'
      rw[z]at z'';cases z''
     ·have z'':X.env.kindOf y=some .free:=z'
      rw[z]at z'';cases z''
    ·obtain⟨c',ec'⟩:=yH (cells:=X.env.cells) aZ.names [] y (S.cl y hy) ⟨c,ec⟩
     have:c'=c:=af5 ((look y c' ec').symm.trans ec);subst this;obtain⟨o,ho,hd⟩:=ic;exact⟨c',ec',o,old _ _ ho,hd⟩
  cell:=λy c e=>by
   obtain⟨v,o,ho,hd⟩:=I2.cell y c (look y c e);exact⟨v,o,old _ _ ho,hd⟩
  free:=I2.hok.fresh hCle
  jh:=λy c e=>I2.jh y c (look y c e)
  pin:=λp hp=>by
   obtain⟨e,n,ne,nf,d⟩:=I2.pin p hp;refine⟨old _ _ e,n,below _<|ad1 e,λhb=>?_,d⟩;rcases aev.mp (I2.jC _ hb) with z|z
   ·exact ne z
   ·exact nf z
  hok:=I2.hok.kept old
  len:=by simp[fZ,fU,outs,S.len]}
 have fok:∀{pp:aP (aj×Obj)} {H':Hp},(∀b∈fp,H' b=none)->(∀p∈pp,p.1=s2.heap.objs.size)->∀b∈fp,vD (fZ X (M++cA) aZ C s2 H2 fp XE) (bG++pp) H' b:=λ{pp H'} hn hp b hb=>by
  obtain⟨_,f1,f2',f3,f4,f5⟩:=f2 b hb;refine⟨hn b hb,below b<|fpD b hb,λhf=>?_, .inl hb,λy c e=>f4 y c<|look y c e,λp hpp z=>?_⟩
  ·rcases aev.mp (I2.jC b hf) with z|z
   ·exact f1 z
   ·exact f2' z
  ·have aa4:p∈X.pn++(bG++pp):=hpp
   rw[<-ad8]at aa4;rcases aeu.mp aa4 with q|q
   ·exact f5 p q z
   ·have q':=fpD b hb
    rw[<-z,hp p q]at q';exact aed _ q'
 have loop:∀s3:ao,s3={s2 with heap:=tK,toks:=s2.toks+([]:aP (Str×ak)).length}->
   codeAny (model X.prog X.w) X.A (.compLoop (.ListComp oM [⟨tg,dZ,ifs,0⟩] aZ pos) 0 (.ref it) (.ref s2.heap.objs.size)<|compEnvC aZ (jN X.env.cells aZ.names []) C X.env)
    (compPost (model X.prog X.w) X.A X.xe use Q' (.ref s2.heap.objs.size) C) s3:=by
  rintro s3 rfl;obtain⟨k0,hacc⟩:=hacc;refine CW (λn s'=>∃i τ vs H' bh k,(τ:St).length=M.length/\Inv (fZ X (M++cA) aZ C s2 H2 fp XE) bG (τ++outs U jA) H' s'/\tn i s'.heap/\(∀b∈fp,H' b=none)/\H' s2.heap.objs.size=none/\
   s'.heap.get? s2.heap.objs.size=some {cls:=.type "list",data:=.seq bh.toArray k}/\Vals vs bh/\W i n vs H') (XE C s2 H2 fp) (hxe C s2 H2 fp s2.heap.objs.size I2 f2 hCle hDC) ?_ m0
   ⟨0,List.replicate M.length none,[],H2,[],k0,by simp,I3,T.keep _ _ _ st2 λb _ o e=>old b o e,λb hb=>(f2 b hb).1,I2.hok.fresh<|adZ _,hacc, .nil,w0⟩
  rintro n s' ⟨i,τ,vs,H',bh,k,lτ,I',st',fr',hD',hg',hv',w'⟩;obtain⟨jY,alt⟩:=turn i n vs H' w';have IP:Inv (fZ X (M++cA) aZ C s2 H2 fp XE) (bG++[(s2.heap.objs.size,{cls:=.type "list",data:=.seq bh.toArray k})]) (τ++outs U jA) H' s' :=
   I'.uM λp hp=>(aeu.mp hp).elim (λz=>I'.pin p<|ad5 _ z) λz=>by
    have z':p=(s2.heap.objs.size,{cls:=.type "list",data:=.seq bh.toArray k}):=by simpa using z
    subst z';exact⟨hg',hD',hDC,Dfs,λv q=>by cases q⟩
  have FP:=fok (pp:=[(s2.heap.objs.size,{cls:=.type "list",data:=.seq bh.toArray k})]) fr' (λp hp=>by
   have z':p=(s2.heap.objs.size,{cls:=.type "list",data:=.seq bh.toArray k}):=by simpa using hp
   rw[z'])
  rcases alt with ⟨stop,qn⟩|⟨go,step⟩
  ·refine gk (T.done (fZ X (M++cA) aZ C s2 H2 fp XE) rfl rfl rfl hc i _ s' _ H' (XE C s2 H2 fp) IP FP st' stop) λr s4 ⟨hr,I4⟩=>?_
   subst hr;obtain⟨m4,hn4,_⟩:=id I4.loc;refine hpost s2.heap.objs.size C (upd H' s2.heap.objs.size<|.lst vs) m4 s4 hn4 (λh' hsb=>?_) (by rw[bR (af2 hDC)];exact I4.free) (λz=>by have q:=I2.lt;rw[<-z]at q;exact aed _<|ad4 q hCle) (I2.R7 hCle) (ad2 I2.sz hCle) (λz c e zz=>by
    obtain⟨v,q⟩:=I2.cell z c e;have q':=q.lt;rw[zz]at q';exact aed _<|ad4 q' hCle) (λp hp zz=>by
    have q':=ad1 (I2.pin p hp).1;rw[zz]at q';exact aed _<|ad4 q' hCle)<|qn _ hD'
   have gD:s4.heap.get? s2.heap.objs.size=some {cls:=.type "list",data:=.seq bh.toArray k}:=(I4.pin (s2.heap.objs.size,_)<|ad5 _ (ad5 _<|aec.mpr rfl)).1;have hx:∀b o,b≠C->s4.heap.get? b=some o->h'.get? b=some o:=λb o hb e=>(hsb.2 b hb).trans e;have J1:Inv X bG U H' {s4 with heap:=h'}:=by
    refine I2.call' (ch:=fp) I4.os ⟨λb o e n hb hx'=>?_,λb o e n hb hx'=>?_,I4.base.free,λb o e hx'=>?_,I4.base.tups,I4.base.rD,I4.base.sW⟩ (λb u e=>?_) I4.bare λb hb=>?_
    ·exact hx b o (below b<|ad1 e)<|I4.base.keep b o e n hb hx'
    ·obtain⟨sl,q⟩:=I4.base.slot b o e n hb hx'
     exact⟨sl,hx b _ (below b<|ad1 e) q⟩
    ·obtain⟨o',q⟩:=I4.base.there b o e hx'
     exact⟨o',hx b _ (below b<|ad1 e) q⟩
    ·refine(I4.hok b u e).stay (λc v hcc q=>hx c v ?_ q) (λ_ q=>q) λ_ _ q=>q
     rintro rfl;rcases hcc with z|z
     ·rw[<-z]at e
      have:=I4.free;rw[show H' c=none from this]at e;cases e
     ·have:=I4.free
      rw[show H' c=none from this]at z;cases z
    ·obtain⟨_,f1,f2',f3,f4,f5⟩:=f2 b hb
     exact⟨f3,f1,f4,f5⟩
   exact J1.track hD' (aeF jY) hv' (hx _ _ hDC gD) (.inr I2.sz) (λz=>by have q:=I2.lt;rw[<-z]at q;exact aed _ q) WX aa2
  ·refine gk (T.item (fZ X (M++cA) aZ C s2 H2 fp XE) rfl rfl rfl hc i _ s' _ H' (XE C s2 H2 fp) IP FP st' go) λr s4 ⟨u,hr,h4⟩=>?_
   subst hr;refine gk h4 λ_ s5 ⟨xv,H5,I5,r5,y5,RT,fr5⟩=>?_;have I5':=I5.pinned (fok (pp:=[(s2.heap.objs.size,{cls:=.type "list",data:=.seq bh.toArray k})]) fr5 (λp hp=>by
    have z':p=(s2.heap.objs.size,{cls:=.type "list",data:=.seq bh.toArray k}):=by simpa using hp
    rw[z'])) (T.obj _ _ RT)
   have q6:=step τ xv H5 lτ y5;refine gk (hg C s2 H2 fp _ s5 _ H5 xv _ _ I5' r5 q6) λ_ s6 ⟨U6,H6,I6,⟨τ6,e6,l6⟩,q6'⟩=>?_;subst e6;refine gk (ht C s2 H2 fp _ s6 _ H6 _ I6 q6') λb s7 ⟨H7,I7,q7⟩=>?_;have WY:∀{s8:ao} {U8:St} {H8:Hp},Inv (fZ X (M++cA) aZ C s2 H2 fp XE) ((bG++[(s2.heap.objs.size,{cls:=.type "list",data:=.seq bh.toArray k})])++vG fp s5.heap) U8 H8 s8->
     tn (i+1) s8.heap/\(∀b∈fp,H8 b=none)/\H8 s2.heap.objs.size=none/\s8.heap.get? s2.heap.objs.size=some {cls:=.type "list",data:=.seq bh.toArray k}:=λ{s8 U8 H8} I8=>by
    refine⟨T.keep _ _ _ RT λb hb o e=>(I8.pin (b,o)<|ad5 _ (ad5 _<|nW hb e)).1,λb hb=>?_,?_,?_⟩
    ·obtain⟨o,e,d⟩:=T.obj _ _ RT b hb
     exact(I8.pin (b,o)<|ad5 _ (ad5 _<|nW hb e)).2.1
    ·exact(I8.pin (s2.heap.objs.size,_)<|ad5 _ (aew _<|ad5 _ (aec.mpr rfl))).2.1
    ·exact(I8.pin (s2.heap.objs.size,_)<|ad5 _ (aew _<|ad5 _ (aec.mpr rfl))).1
   cases b with
   |false=>
    rw[afY aea]at q7 ⊢;obtain⟨m',hm,w7⟩:=q7;obtain⟨a1,a2,a3,a4⟩:=WY I7;exact⟨m',hm,i+1,τ6,vs,H7,bh,k,l6,I7.jU.jU,a1,a2,a3,a4,hv',w7⟩
   |true=>
    rw[afX rfl]at q7 ⊢;refine gk (he C s2 H2 fp _ s7 _ H7 _ I7 q7) λu8 s8 ⟨v8,H8,I8,r8,m',hm,w8⟩=>?_;obtain⟨a1,a2,a3,a4⟩:=WY I8;refine wpAny_list_append_plain (items:=bh.toArray) ⟨k,a4⟩ (λh9 pl sb=>?_) (by rw[ad7,<-hv'.length];exact aeF jY);obtain⟨k9,e9⟩:=pl;have ne:∀b∈fp,b≠s2.heap.objs.size:=λb hb=>aen (fpD b hb);have I9:Inv (fZ X (M++cA) aZ C s2 H2 fp XE) bG (τ6++outs U jA) H8 {s8 with heap:=h9} :=
     I8.jU.jU.turned (t':=s8.toks) (λb o hb e=>(sb.2 b hb).trans e) a3 hDC (.inr<|adZ _) (λy c e=>WX y c<|look y c e) aa2
    refine⟨m',hm,i+1,τ6,vs++[v8],H8,bh++[u8],k9,l6,I9,T.keep _ _ _ a1 λb hb o e=>(sb.2 b<|ne b hb).trans e,a2,a3,?_,hv'.snoc r8,w8⟩;rw[List.push_toArray]at e9;exact e9
 exact codeAny_compStart_list (loop _ rfl)<|T.self _ 0 _ _ _ (T.keep _ _ _ st2 λb _ o e=>old b o e) (loop _ rfl)
theorem yI {X:Cx}{oM dZ tg:aH}{M:aP Str}{g:TG}{pos:Pos}{ifs:aP aH}{aZ:Scope}{cA:aP Str}{jA:aP Nat}{wi:TI}{tt:TT}{te:TE}
  (hc:X.calm=true) (S:nZ X cA jA aZ) (hfl:∀y∈cA,aZ.names.lookup y=some .free) (hi:PI X tg dZ wi) (hg:∀C s₀ H₀ ex,PG (fU X (M++cA) aZ C s₀ H₀ ex) tg g)
  (ht:∀C s₀ H₀ ex,S7 (fU X (M++cA) aZ C s₀ H₀ ex) ifs tt) (he:∀C s₀ H₀ ex,PE (fU X (M++cA) aZ C s₀ H₀ ex) oM te)
  (hs:∀v,foldedSetIterable dZ X.env v=pure v:=by intro _;rfl):PE X (.ListComp oM [⟨tg,dZ,ifs,0⟩] aZ pos) (tM M.length jA wi g tt te):=by
 intro bG s U H Q I h;rw[eval_ListComp];exact tQ (M:=M) (g:=g) (XE:=noX) (use:=none) (Q':=EP X bG U Q) hc S hfl hi (λC s₀ H₀ ex=>by rw[tH];exact hg C s₀ H₀ ex) (λC s₀ H₀ ex=>by rw[tH];exact ht C s₀ H₀ ex) (λC s₀ H₀ ex=>by rw[tH];exact he C s₀ H₀ ex) hs I h (λ_ _ _ _ _ _ _ _ _ _ _ (z:False)=>z.elim) λD C H' m4 s4 hn hJ _ _ _ _ _ _ q=>by
  show ∃m,s4.heap.Ns C m/\∀h',Heap.SameBut C s4.heap h'->EP X bG U Q (.ref D) {s4 with heap:=h'};exact⟨m4,hn,λh' hsb=>⟨.ref D,H',hJ h' hsb,rfl,q⟩⟩
theorem S8 {J:It}{tt:TT}{te:TE}{U':St}{Q:VK}{H1:Hp}:Oj 1 J (nq 0) tt te U' Q H1=CZ J tt te U' Q H1:=by
 refine propext ⟨λ⟨W,h0,h⟩=>⟨W,h0,λi m vs H2 w=>?_⟩,λ⟨W,h0,h⟩=>⟨W,h0,λi m vs H2 w=>?_⟩⟩
 ·obtain⟨l,h⟩:=h i m vs H2 w
  exact⟨l,h.imp id λ⟨go,st⟩=>⟨go,λx H3 y=>(st [none] x H3 rfl y).2⟩⟩
 ·obtain⟨l,h⟩:=h i m vs H2 w
  refine⟨l,h.imp id λ⟨go,st⟩=>⟨go,λτ x H3 lτ y=>?_⟩⟩
  match τ,lτ with
  |[o],_=>exact⟨⟨[some x],rfl,rfl⟩,st x H3 y⟩
theorem zQ {jA:aP Nat}{wi:TI}{tt:TT}{te:TE}:tM 1 jA wi (nq 0) tt te=uh jA wi tt te:=by
 funext U H Q;unfold tM uh;exact congrArg (wi U H) (funext λJ=>funext λH1=>S8)
theorem Ol {X:Cx}{oM dZ:aH}{x:Str}{px pos:Pos}{ifs:aP aH}{aZ:Scope}{cA:aP Str}{jA:aP Nat}{wi:TI}{tt:TT}{te:TE}
  (hc:X.calm=true) (S:pY X x cA jA aZ) (hfl:∀y∈cA,aZ.names.lookup y=some .free) (hi:PI X (.Name x px) dZ wi)
  (ht:∀C s₀ H₀ ex,S7 (fU X (x::cA) aZ C s₀ H₀ ex) ifs tt) (he:∀C s₀ H₀ ex,PE (fU X (x::cA) aZ C s₀ H₀ ex) oM te)
  (hs:∀v,foldedSetIterable dZ X.env v=pure v:=by intro _;rfl):PE X (.ListComp oM [⟨.Name x px,dZ,ifs,0⟩] aZ pos) (uh jA wi tt te):=by
 have h:=yI (M:=[x]) (g:=nq 0) (pos:=pos) hc ⟨S.kind,S.tL,S.loc,S.fr,S.ix,S.len,S.cl⟩ hfl hi (λC s₀ H₀ ex=>fY (i:=0) S.nd rfl (.inl<|lookup_relabel_local S.tgt) (.inr<|lookup_relabel_local S.tgt)) ht he hs;exact zQ ▸ h
section
variable {X:Cx}
theorem iu:jw X (.builtin "isinstance") (λxs H Q=>∃x t T b,xs=[x, .ty T]/\o9 X.K H x t/\kitOne X.K t (.type T)=some b/\Q (.bl b) H):=by
 intro bG s U H xs us Q I r h;obtain⟨x,t,T,b,rfl,ty,e,q⟩:=h;obtain⟨u,w',rfl,rx,ry⟩:=vals2 r;cases(show w'=Value.type T from ry);exact yw I rx ty e λtk=>⟨.bl b,H,I.tok tk,rfl,q⟩
end
noncomputable def vL (tR:Scope)(N:List Str)(x:Str)(cA:List Str)(jA:List Nat)(aZ:Scope):Bool :=
 aZ.kind==.function&&(aZ.names.all (λy=>y.2 !=.cell)&&(aZ.names.all (λy=>y.2 !=.local||aZ.names.lookup y.1==some .local)&&(aZ.names.all (λy=>y.2 !=.free||(tR.names.lookup y.1==some .cell||tR.names.lookup y.1==some .free))&&
 (aZ.names.lookup x==some .local&&(decide (x::cA).Nodup&&(jA.length==cA.length&&((jA.zip cA).all (λp=>N[p.1]?==some p.2)&&cA.all (λy=>aZ.names.lookup y==some .free))))))))
theorem zip_get {α β:Type}{l:List α}{r:List β}{j:Nat}{y:β}(e:l.length=r.length)(h:r[j]?=some y):∃k,l[j]?=some k/\(k,y)∈l.zip r:=by
 induction l generalizing r j with
 |nil=>cases r with
  |nil=>simp at h
  |cons=>cases e
 |cons a l ih=>cases r with
  |nil=>cases e
  |cons b r=>cases j with
   |zero=>cases h;exact⟨a,rfl,by simp⟩
   |succ j=>
    obtain⟨k,h1,h2⟩:=ih (j:=j) (Nat.succ.inj e) h;exact⟨k,h1,ad0 _ h2⟩
theorem oh {X:Cx}{tR:Scope}{N:aP Str}{x:Str}{cA:aP Str}{jA:aP Nat}{aZ:Scope}(h:vL tR N x cA jA aZ=true)(ho:X.env.scope=tR)(hN:X.N=N):
  pY X x cA jA aZ/\∀y∈cA,aZ.names.lookup y=some .free:=by
 unfold vL at h;simp only[ae1,List.all_eq_true,Bool.or_eq_true,bne_iff_ne,beq_iff_eq,decide_eq_true_eq]at h;obtain⟨h1,h2,h3,h4,h5,h6,h7,h8,h9⟩:=h;have fl:∀y∈cA,aZ.names.lookup y=some .free:=λy hy=>h9 y hy;refine⟨⟨h1,h2,λy hy e=>?_,h5,h6,λy hy e=>?_,λj y hj=>?_,h7,λy hy=>jE<|fl y hy⟩,fl⟩
 ·rcases h3 y hy with q|q
  ·exact absurd e q
  ·exact q
 ·have q:tR.names.lookup y.1=some .cell\/tR.names.lookup y.1=some .free:=by
   rcases h4 y hy with q|q
   ·exact absurd e q
   ·exact q
  rw[<-ho]at q;exact q
 ·obtain⟨k,e1,e2⟩:=zip_get h7 hj
  exact⟨k,e1,by rw[hN];exact h8 (k,y) e2⟩
theorem Om {X:Cx}{oM dZ:aH}{x:Str}{px pos:Pos}{ifs:aP aH}{aZ:Scope}{wi:TI}{tt:TT}{te:TE}(tR:Scope)(N:aP Str)(cA:aP Str)(jA:aP Nat)
  (hk:vL tR N x cA jA aZ=true) (hi:PI X (.Name x px) dZ wi)
  (ht:∀C s₀ H₀ ex,S7 (fU X (x::cA) aZ C s₀ H₀ ex) ifs tt) (he:∀C s₀ H₀ ex,PE (fU X (x::cA) aZ C s₀ H₀ ex) oM te)
  (ho:X.env.scope=tR:=by rfl) (hN:X.N=N:=by rfl) (hc:X.calm=true:=by rfl) (hs:∀v,foldedSetIterable dZ X.env v=pure v:=by intro _;rfl):PE X (.ListComp oM [⟨.Name x px,dZ,ifs,0⟩] aZ pos) (uh jA wi tt te):=by
 obtain⟨S,fl⟩:=oh (X:=X) hk ho hN;exact Ol hc S fl hi ht he hs
def Nx (n i:Nat)(p:Prop):Prop:=∃m',m'<n-i/\m'=n-(i+1)/\i+1<=n/\p
theorem nx {n i:Nat}{p:Prop}(h:i<n)(q:p):Nx n i p:=⟨n-(i+1),by omega,rfl,h,q⟩
theorem Gv {lo:Int}{n:Nat}{tt:TT}{te:TE}{U':St}{Q:VK}{H:Hp}(Pv:Nat->aP V->Hp->Prop)(h0:Pv 0 [] H)(jY:∀i vs H2,i<=n->Pv i vs H2->vs.length<sizeLine)
  (hs:∀i vs H2,i<n->Pv i vs H2->tt (some (.int<|lo+i)::U') H2 λb H4=>if b=true then te (some (.int<|lo+i)::U') H4 λv H5=>Nx n i (Pv (i+1) (vs++[v]) H5) else Nx n i (Pv (i+1) vs H4))
  (hd:∀vs H2,Pv n vs H2->∀l,H2 l=none->Q (.ref l) (upd H2 l<|.lst vs)):CZ (XR lo n) tt te U' Q H:=by
 refine⟨λi m vs H=>m=n-i/\i<=n/\Pv i vs H,⟨n,by simp,aeG _,h0⟩,?_⟩;rintro i m vs H2 ⟨rfl,hi,p⟩;refine⟨jY i vs H2 hi p,?_⟩;by_cases jX:i<n
 ·refine .inr ⟨jX,?_⟩
  rintro v H3 ⟨rfl,rfl⟩;exact hs i vs H3 jX p
 ·have e:i=n:=by exact aeT hi (Nat.not_lt.mp jX)
  subst e;exact .inl ⟨adZ _,hd vs H2 p⟩
def rM (w:aG)(p:Str×V)(e:DictEntry):Prop:=e.hash=hashStr w p.1/\(∃t,e.key=.str p.1 t)/\RelV p.2 e.val
def pZ (K:aN)(w:aG)(a:aj)(fs:List (Str×V)):Prop :=
 (a==sysModules)=false/\∃o es ep,K.lookup a=some o/\o.ExactDict/\o.data=.dict es ep/\Paired (rM w) fs es.toList
theorem zR {w:aG}{P:aA}{fs:List (Str×V)}{es:List DictEntry}(k:Str)(hh:Paired (rM w) fs es):nj (fs.lookup k) ((es.find? λe=>(strKind P w).is k e.key).map (·.val)):=by
 induction hh with
 |nil=>trivial
 |@cons p e _ _ h t ih=>
  obtain⟨h1,⟨t',h2⟩,h3⟩:=h;obtain⟨x,v⟩:=p;rw[aek,aer];have q:(strKind P w).is k e.key=(k==x):=by
   show Value.isStrOf k e.key=_;rw[h2];show Value.isStrOf k (.str x t')=_;rw[afi];simp[Value.isStrOf]
   first|done|(constructor<;>intro z<;>first|exact z|exact z.symm)
  rw[q];cases k==x with
  |true=>exact h3
  |false=>exact ih
section
variable {X:Cx}{bG:List (aj×Obj)}{U:St}{H:Hp}{s:ao}
theorem Inv.S9 {a:aj}{fs:aP (Str×V)}(I:Inv X bG U H s)(d:pZ X.K X.w a fs):∃f,s.heap.MapOf (strKind X.prog X.w) a f/\∀k,nj (fs.lookup k) (f k):=by
 obtain⟨_,o,es,ep,h1,h2,h3,h4⟩:=d;refine⟨λk=>findBy (strKind X.prog X.w).is es k,⟨o,es,ep,I.qt _ _ h1,h2,h3,λe he=>?_,λk=>rfl⟩,λk=>?_⟩
 ·have key:∀{fs:aP (Str×V)} {l:aP DictEntry},Paired (rM X.w) fs l->e∈l->∃k,(strKind X.prog X.w).is k e.key=true/\e.hash=(strKind X.prog X.w).hash k:=by
   intro fs l p
   induction p with
   |nil=>intro hm;cases hm
   |@cons p e' l₁ l₂ h t ih=>
    intro hm;rcases aev.mp hm with rfl|hm
    ·obtain⟨q1,⟨t',q2⟩,_⟩:=h
     refine⟨p.1,?_,q1⟩;show Value.isStrOf p.1 e.key=true;rw[q2];simp[Value.isStrOf]
    ·exact ih hm
  exact key h4<|Array.mem_toList_iff.mpr he
 ·have q:=zR (P:=X.prog) k h4
  show nj (fs.lookup k) ((Array.find? (λe=>(strKind X.prog X.w).is k e.key) es).map (·.val));rw[<-Array.find?_toList];exact q
theorem Ij:Yh X (λx y H Q=>∃z a fs v,x=.ref a/\y=.str z/\pZ X.K X.w a fs/\fs.lookup z=some v/\Q v H):=by
 intro value slice bG s U H x y v u Q I rx ry h hs;obtain⟨z,a,fs,r,rfl,rfl,d,hl,q⟩:=h;cases rx;obtain⟨t,rfl⟩:=ry;obtain⟨f,hm,hf⟩:=I.S9 d;have:=hf z;rw[hl]at this;obtain⟨w',e,N6⟩:=nj.some_of this;exact tail_any (ops:=[.ref a, .str z t]) hm.typeIs PySem.F.slot_dict_getitem.lookup (wpAny_getItem_of (knd:=strKind X.prog X.w) (k:=z) (by show Value.isStrOf z (.str z t)=true;simp[Value.isStrOf]) hm e ⟨r,H,I.tok _,N6,q⟩) hs
theorem Dc {CX:HY}{func:aH}{tf:TE}{pos:Pos}{e:aH}{es:aP aH}{t:TA}{E:XK}(ok:aj->Sp->Prop)
  (hok:∀f sp,ok f sp->∃k fd ps,cP X.prog X.w X.K X.mg X.base CX k f fd ps sp/\gA k X.A/\keepIn X.K (.ref f)=true/\Binds X.K fd ps []) (hf:PE X func tf) (hx:Passes CX X E)
  (ha:PA X (e::es) t) (hev:eval (.Call func (e::es) [] pos) X.env=(do callWith pos (<-eval func X.env) [] (backTo pos<|starEach (e::es) X.env) (backToKw pos<|keywordEach [] X.env)):=by rfl)
  (he:starEach (e::es) X.env=(false,eval e X.env)::starEach es X.env:=by rfl) (iH:(backTo pos<|starEach es X.env).any (·.1)=false:=by rfl):
  PE X (.Call func (e::es) [] pos) (λU H Q=>tf U H λx H1=>∃f sp,x=.ref f/\ok f sp/\Cy sp [] E t U H1 Q):=by
 intro bG s U H Q I h;refine Call_ (gk (hf bG s U H _ I h) λu s1 ⟨x,H1,I1,r1,f,sp,ex,hfo,q⟩=>?_) hev;subst ex;cases r1;obtain⟨k,fd,ps,F,hr,hk,hb⟩:=hok f sp hfo;refine ae6 (h₀:=X.base) I1.ok.mod.JR hk (gk (ha pos bG s1 U H1 _ I1 q) λus s2 ⟨vs,H2,I2,r,q2⟩=>⟨I2.qt,?_⟩) he iH;exact Gm F hr hb .nil hx I2 r q2
end
section
variable {X:Cx}
end
end L2
namespace Fw
open L2
inductive T where
 |int (i:Int)
 |str (x:Str)
 |tup (l:List T)
mutual
noncomputable def T.sz:T->Nat
 |.int _=>1
 |.str _=>1
 |.tup l=>1+szs l
noncomputable def szs:List T->Nat
 |[]=>0
 |t::r=>t.sz+szs r
end
mutual
inductive Rep (H:Hp):V->T->Prop where
 |int (i:Int):Rep H (.int i) (.int i)
 |str (x:Str) (h:x.length<=100000):Rep H (.str x) (.str x)
 |tup {a:aj} {vs:List V} {ts:List T} (h:H a=some (.tup vs)) (r:Tc H vs ts):Rep H (.ref a) (.tup ts)
inductive Tc (H:Hp):List V->List T->Prop where
 |nil:Tc H [] []
 |cons {v:V} {t:T} {vs:List V} {ts:List T} (r:Rep H v t) (q:Tc H vs ts):Tc H (v::vs) (t::ts)
end
theorem Same.tups {H H':Hp}(e:Same H H'):∀b xs,H b=some (.tup xs)->H' b=some (.tup xs):=λb xs h=>e b _ h
theorem bI {H:Hp}{p:aj}(h:H p=none)(o:HO):Same H (upd H p o):=λb u q=>by rw[bR (bU q h)];exact q
section
variable (kids:T->Option (List T))
inductive Good:T->Prop where
 |mk {t:T} {l:List T} (h:kids t=some l) (q:∀k∈l,Good k):Good t
inductive Bad:T->Prop where
 |none {t:T} (h:kids t=none):Bad t
 |kid {t:T} {l:List T} {k:T} (h:kids t=some l) (m:k∈l) (q:Bad k):Bad t
end
def Has (P:aA)(w:aG)(K:aN)(mg:Str->Option ak)(aV:aK)(k:Nat)(x:Str)(ps:List Str)(sp:Sp):Prop :=
 ∃f fd,cP P w K mg aV jV k f fd ps sp/\Binds K fd ps []/\keepIn K (.ref f)=true/\mg x=some (.ref f)
theorem dG {X:Cx}{k j:Nat}{x:Str}{ps:aP Str}{sp:Sp}{p pos:Pos}{e:aH}{es:aP aH}{t:TA}(h:Has X.prog X.w X.K X.mg X.base k x ps sp)(hr:gA j X.A)(hkj:k<=j)(hg:Gl X x)(ha:PA X (e::es) t)
  (hdb:(x==("__debug__":Str))=false:=by decide) (he:starEach (e::es) X.env=(false,eval e X.env)::starEach es X.env:=by rfl) (iH:(backTo pos<|starEach es X.env).any (·.1)=false:=by rfl):
  PE X (.Call (.Name x p) (e::es) [] pos) (Cy sp [] E0 t):=by
 obtain⟨f,fd,h1,h2,h3,h4⟩:=h;exact eF h1 (hr.mono hkj) hg h4 h3 h2 .nil vK ha hdb he iH
theorem tt1 {U:L2.St}{H:Hp}{Q:Bool->Hp->Prop}(h:Q true H):CV U H Q:=h
theorem small {n:Nat}(h:n<=1000000):n<=sizeLine:=ad2 h (by decide)
theorem dB {n:Nat}(h:n<=1000000):n<sizeLine:=ae7 h (by decide)
theorem dO (n:Nat)(h:n<=1000000:=by decide):n<=sizeLine:=small h
theorem n4 {n:Nat}(h:n<4):n=0\/n=1\/n=2\/n=3:=by
 have k:∀n,n<4->(n=0\/n=1\/n=2\/n=3):=by decide
 exact k n h
theorem n5 {n:Nat}(h:n<5):n=0\/n=1\/n=2\/n=3\/n=4:=by
 have k:∀n,n<5->(n=0\/n=1\/n=2\/n=3\/n=4):=by decide
 exact k n h
theorem n6 {n:Nat}(h:n<6):n=0\/n=1\/n=2\/n=3\/n=4\/n=5:=by
 have k:∀n,n<6->(n=0\/n=1\/n=2\/n=3\/n=4\/n=5):=by decide
 exact k n h
theorem n7 {n:Nat}(h:n<7):n=0\/n=1\/n=2\/n=3\/n=4\/n=5\/n=6:=by
 have k:∀n,n<7->(n=0\/n=1\/n=2\/n=3\/n=4\/n=5\/n=6):=by decide
 exact k n h
theorem i4 {e:Int}(h0:0<=e)(h:e<4):e=0\/e=1\/e=2\/e=3:=by
 obtain⟨n,rfl⟩:=afN h0;rcases n4 (n:=n) (Int.ofNat_lt.mp h) with rfl|rfl|rfl|rfl<;>simp
theorem i7 {e:Int}(h0:0<=e)(h:e<7):e=0\/e=1\/e=2\/e=3\/e=4\/e=5\/e=6:=by
 obtain⟨n,rfl⟩:=afN h0;rcases n7 (n:=n) (Int.ofNat_lt.mp h) with rfl|rfl|rfl|rfl|rfl|rfl|rfl<;>simp
section
variable {ta tb tc:TE}{t u:TT}{U:L2.St}{H:Hp}{v x y z:V}{c c1 c2:Bool}{K:aN}
end
end Fw
namespace L2
section
variable {X:Cx}
end
def aa5 (P:aA)(w:aG)(l:List Env)(H:Hp)(s:ao)(C ea:aj)(H':Hp)(s':ao):Prop :=
 s'.os=s.os/\AllBare s'.gens/\Un (frs l) [] H H' s.heap s'.heap/\mK P w H' s'.heap/\H' ea=none/\
 ∃(B:aK) (t:aj),Heap.FlyingW B l ea (.ref C) (.ref t) s'.heap/\∀b o,s'.heap.get? b=some o->b∉frs l->(H' b≠none\/∃o',s.heap.get? b=some o')->B.get? b=some o
def fP (P:aA)(w:aG):HY:=λl H s E e s'=>∃ea C H',e=.ref ea/\aa5 P w l H s C ea H' s'/\E (.ref C) (some ea) H'
section
variable {P:aA}{w:aG}{K:aN}{mg:Str->Option ak}{aV:aK}{N:List Str}{bf:Str}{aZ:Scope}{f:aj}{cd:ak}{A:aq}{aU:List Env}{s:ao}{H:Hp}{E:XK}{CX:HY}
theorem mK.W0 {H:Hp}{h h':aK}(ok:mK P w H h)(k:∀b u,H b≠none->h.get? b=some u->h'.get? b=some u):mK P w H h':=λa o e=>
 (ok a o e).stay (λb u hb q=>k b u (by
  rcases hb with z|z
  ·rw[z,e];simp
  ·rw[z];simp) q) (λ_ q=>q) λ_ _ q=>q
theorem fO.there {H:Hp}{h:aK}{a:aj}{o:HO}(x:fO P w H h a o):∃ob,h.get? a=some ob:=by
 cases o with
 |lst xs=>obtain⟨_,_,_,_,e⟩:=x;exact⟨_,e⟩
 |tup xs=>obtain⟨_,_,_,ob,e,_⟩:=x;exact⟨_,e⟩
 |dK cD=>obtain⟨_,_,_,_,o,_,_,e,_⟩:=x;exact⟨_,e⟩
 |dT cD=>obtain⟨_,_,_,_,o,_,_,e,_⟩:=x;exact⟨_,e⟩
 |set S n=>obtain⟨o,_,_,_,e,_⟩:=x;exact⟨_,e⟩
 |ins C dx fs=>obtain⟨_,_,_,e,_⟩:=x;exact⟨_,e⟩
 |own y=>exact x
 |xd fs=>obtain⟨mA,⟨o,es,ep,e,_⟩,_⟩:=x;exact⟨_,e⟩
 |rng lo hi=>obtain⟨_,_,_,e⟩:=x;exact⟨_,e⟩
 |FT o u=>exact⟨_,x.1⟩
 |Wg ps=>exact⟨_,x⟩
 |met f y=>exact⟨_,x⟩
 |ext φ=>exact x.2.1
theorem Df {X:Cx}{bG:aP (aj×Obj)}{U:St}{H1:Hp}{s1:ao}{h':aK}(hex:X.ex=[])(I:Inv X bG U H1 s1)
  (kp:∀b o,s1.heap.get? b=some o->b∉frs X.stack->(H1 b≠none\/∃o',X.s₀.heap.get? b=some o')->h'.get? b=some o)
  (sl:∀b o,b∈X.fs->s1.heap.get? b=some o->(∀vs,o.data≠.fields vs)->∃sl,h'.get? b=some {o with slots:=sl}):Un X.fs [] X.H₀ H1 X.s₀.heap h'/\mK X.prog X.w H1 h':=by
 have nx:∀b:aj,b∉X.ex:=λb z=>by rw[hex]at z;cases z
 have W2:∀{b o},X.s₀.heap.get? b=some o->b∉X.fs->b∉frs X.stack:=λ{b o} e hb z=>by
  rcases aev.mp (I.jC b z) with q|q
  ·have h1:=ad1 e
   have h2:=I.ok.above;rw[q]at h1;exact absurd (ad4 h1 h2)<|aed _
  ·exact hb q
 have trk:∀{b},H1 b≠none->b∉frs X.stack:=λ{b} n z=>n (I.nR b z);have frame:∀{b o},X.s₀.heap.get? b=some o->X.H₀ b=none->b∈X.fs->∃sl',h'.get? b=some {o with slots:=sl'}:=λ{b o} e n hb=>by
  obtain⟨s2,q⟩:=I.base.slot b o e n hb (nx b);obtain⟨_,o',ho',hnf⟩:=I.ok.mO.mem hb;rw[e]at ho';cases ho';obtain⟨s3,q3⟩:=sl b _ hb q hnf;exact⟨s3,q3⟩
 refine⟨⟨λb o e n hb _=>kp b o (I.base.keep b o e n hb<|nx b) (W2 e hb)<|.inr ⟨o,e⟩,λb o e n hb _=>frame e n hb,λb o e n _=>I.base.free b o e n<|nx b,λb o e _=>?_,I.base.tups,I.base.rD,I.base.sW⟩,I.hok.W0 λb u n q=>kp b u q (trk n)<|.inl n⟩;by_cases hb:b∈X.fs
 ·obtain⟨s3,q3⟩:=frame e (I.ok.Fq b hb) hb
  exact⟨_,q3⟩
 ·obtain⟨o',q⟩:=I.base.there b o e (nx b)
  exact⟨o',kp b o' q (W2 e hb)<|.inr ⟨o,e⟩⟩
theorem zT {X:Cx}{bG:aP (aj×Obj)}{U:St}{H1:Hp}{s1:ao}{h':aK}(hex:X.ex=[])(I:Inv X bG U H1 s1)
  (kp:∀b o,s1.heap.get? b=some o->b∉frs X.stack->(H1 b≠none\/∃o',X.s₀.heap.get? b=some o')->h'.get? b=some o)
  (sl:s1.heap.UpToSlots h'):Un X.fs [] X.H₀ H1 X.s₀.heap h'/\mK X.prog X.w H1 h':=Df hex I kp λb o _=>sl b o
theorem cX:Passes (fP P w) (dX (fP P w) P w K mg aV N bf aZ f cd A aU s H E) E:=by
 intro bG U H1 s1 e s' I h;obtain⟨ea,C,H',rfl,⟨os,bare,un,hok,vN,B,t,fl,mj⟩,hE⟩:=h;have J:Inv (dX (fP P w) P w K mg aV N bf aZ f cd A aU s H E) bG U H' s':=I.call' os un hok bare (λb z=>absurd z<|by simp);show wpAny _ _ (leaving _<|.ref ea) _ _ s';refine wpAny_leaves_onW I.ok.frames rfl fl λh' x1 x2=>?_;have kp:∀b o,s'.heap.get? b=some o->b∉frs (dX (fP P w) P w K mg aV N bf aZ f cd A aU s H E).stack->(H' b≠none\/∃o',s.heap.get? b=some o')->h'.get? b=some o:=λb o q hb hc=>x1.1 b o (mj b o q hb (by
  rcases hc with z|⟨o',z⟩
  ·exact .inl z
  ·exact .inr (I.base.there b o' z<|by intro q;cases q)))
 obtain⟨un',hok'⟩:=zT rfl J kp x2;refine⟨ea,C,H',rfl,⟨J.os,J.bare,un',hok',vN,B,t,x1,λb o q hb hc=>?_⟩,hE⟩;have Dg:b∉frs (dX (fP P w) P w K mg aV N bf aZ f cd A aU s H E).stack:=λz=>by
  rcases aev.mp (J.jC b z) with z1|z1
  ·rcases hc with z2|⟨o',z2⟩
   ·exact z2<|J.nR b z
   ·have h1:=ad1 z2
    have h2:=J.ok.above;rw[z1]at h1;exact absurd (ad4 h1 h2)<|aed _
  ·exact hb z1
 obtain⟨o2,q2⟩:∃o2,s'.heap.get? b=some o2:=by
  rcases hc with z|⟨o',z⟩
  ·cases hz:H' b with
   |none=>exact absurd hz z
   |some u=>exact(J.hok b u hz).there
  ·exact J.base.there b o' z (by intro q;cases q)
 have q3:=kp b o2 q2 Dg hc;rw[q]at q3;cases q3;refine mj b o q2 Dg ?_;rcases hc with z|⟨o',z⟩
 ·exact .inl z
 ·exact .inr (I.base.there b o' z<|by intro q;cases q)
end
section
variable {P:aA}{w:aG}{K:aN}{mg:Str->Option ak}{aV:aK}{N:List Str}{bf:Str}{aZ:Scope}{f:aj}{cd:ak}{A:aq}{aU:List Env}{s:ao}{H:Hp}{E:XK}
def Ym (C:aj)(E:XK)(t:TA):TS:=λ_ U H=>t U H λvs H1=>vs.length<=sizeLine/\∀ea,H1 ea=none->E (.ref C) (some ea) H1
theorem gG {x:Str}{C:aj}{np gK pos:Pos}{e₀:aH}{rest:List aH}{t:TA}{bm:List ak}{dD B d7:String}(O:OwnCls x C bm dD mg aV)(FB:ExcBaseFacts B dD d7 bm)
  (hg:Gl (dX (fP P w) P w K mg aV N bf aZ f cd A aU s H E) x) (ha:PA (dX (fP P w) P w K mg aV N bf aZ f cd A aU s H E) (e₀::rest) t) (hdb:(x==("__debug__":Str))=false:=by decide)
  (he:starEach (e₀::rest) (dX (fP P w) P w K mg aV N bf aZ f cd A aU s H E).env=(false,eval e₀ (dX (fP P w) P w K mg aV N bf aZ f cd A aU s H E).env)::starEach rest (dX (fP P w) P w K mg aV N bf aZ f cd A aU s H E).env:=by rfl)
  (iH:(backTo gK<|starEach rest (dX (fP P w) P w K mg aV N bf aZ f cd A aU s H E).env).any (·.1)=false:=by rfl):
  PS (dX (fP P w) P w K mg aV N bf aZ f cd A aU s H E) (.Raise (some<|.Call (.Name x np) (e₀::rest) [] gK) none pos) (Ym C E t):=by
 intro bG s1 U H1 D I h;obtain⟨tl,Nn,nm,q,bs,hdct,sn,sub,ab,col,dd,k0,k1,k2,k3,k5,mN,hC,hN,hni,T⟩:=O.obj;refine wpAny_Raise_call_subT (C:=C) (nm:=nm) (q:=q) (N:=Nn) (bs:=bs) (bm:=tl) (hdct:=hdct) (sn:=sn) (sub:=sub) (ab:=ab) (col:=col) (dd:=dd) (k0:=k0) (k1:=k1) (k2:=k2) (k3:=k3) (k5:=k5)
  FB (mN:=mN) (T.hasType FB.hasBase) (I.ok.hd rfl) (by rw[he];show(false||(backTo gK<|starEach rest _).any (·.1))=false;rw[iH];rfl) hni (lZ I hg O.bound ⟨rfl,?_⟩ hdb)
 have hA:=ha gK bG s1 U H1 _ I h;rw[he]at hA ⊢;refine Calls.evalArgs_plain (gk hA λus s2 ⟨vs,H2,I2,r,hl,hE⟩=>⟨rfl,by rw[<-r.length];exact hl,I2.bk _ _ hC,hN.keeps I2.bk,T.keeps I2.bk,λh' e hm=>?_⟩);show wpAny _ _ (leaving _<|.ref e) _ _ _;have hin:∀env∈(dX (fP P w) P w K mg aV N bf aZ f cd A aU s H E).stack,∀b,env.frame=some b->b∈frs (dX (fP P w) P w K mg aV N bf aZ f cd A aU s H E).stack:=λenv he b hb=>List.mem_filterMap.mpr ⟨env,he,hb⟩;have vN:H2 e=none:=by
  cases hz:H2 e with
  |none=>rfl
  |some u=>
   obtain⟨ob,q⟩:=(I2.hok e u hz).there;have:=hm.new;rw[q]at this;cases this
 refine wpAny_leaves_madeW (base:=hideAll s2.heap<|frs (dX (fP P w) P w K mg aV N bf aZ f cd A aU s H E).stack) (h:=s2.heap) I2.ok.frames rfl (λb o q=>ae5 _ q) (PySem.W.funFrames_hide I2.stack hin) hm λh'' t' x1 x2 x3 x4=>?_;have up:s2.heap.UpToSlots h'':=(Heap.UpToSlots.of_keeps hm.keeps).trans x4;have kp:∀b o,s2.heap.get? b=some o->b∉frs (dX (fP P w) P w K mg aV N bf aZ f cd A aU s H E).stack->h''.get? b=some o:=λb o q hb=>x1.1 b o (ae3 _ q hb);obtain⟨un',hok'⟩:=zT rfl I2 (λb o q hb _=>kp b o q hb) up;refine⟨e,C,H2,rfl,⟨I2.os,I2.bare,un',hok',vN,_,t',x1,λb o q hb hc=>?_⟩,hE e vN⟩;have Dg:b∉frs (dX (fP P w) P w K mg aV N bf aZ f cd A aU s H E).stack:=λz=>by
  rcases aev.mp (I2.jC b z) with z1|z1
  ·rcases hc with z2|⟨o',z2⟩
   ·exact z2<|I2.nR b z
   ·have h1:=ad1 z2
    have h2:=I2.ok.above;rw[z1]at h1;exact absurd (ad4 h1 h2)<|aed _
  ·exact hb z1
 obtain⟨o2,q2⟩:∃o2,s2.heap.get? b=some o2:=by
  rcases hc with z|⟨o',z⟩
  ·cases hz:H2 b with
   |none=>exact absurd hz z
   |some u=>exact(I2.hok b u hz).there
  ·exact I2.base.there b o' z (by intro q;cases q)
 have q3:=kp b o2 q2 Dg;rw[q]at q3;cases q3;exact ae3 _ q2 Dg
theorem iz.tU {x:Str}{st:aJ}{fd:FuncData}{ps:aP Str}{k:Nat}{sp:Sp}(F:iz K x bf st f fd)(S:bZ N ps (bQ st))
  (hbody:∀(dF:ak) (A:aq) (aU:aP Env) (s:ao) (H:Hp) (vs:aP V) (Q:VK) (E:XK),gA k (A.deeper<|envOfC bf (bQ st) s.heap.objs.size f dF)->sp vs H Q E->
   ∃t,xU (dX (fP P w) P w K mg aV N bf (bQ st) f dF A aU s H E) (cT st) t/\t (Ends.of Q) (start N vs) H) (len:∀vs H Q E,sp vs H Q E->vs.length=ps.length:=by rintro _ _ _ _ ⟨⟩;subst_vars;rfl):cP P w K mg aV (fP P w) (k+1) f fd ps sp:=by
 obtain⟨oc,od,kV,mZ,pm,an,dF,ct,osl,rfl,lk,xV⟩:=F.ex;exact NK lk xV S len λA aU s H vs Q E hr hsp=>hbody dF A aU s H vs Q E hr hsp
end
end L2
namespace PySem
theorem pA {M:Model}{A:aq}{E:ak->ao->Prop}{nm q nm' q':Str}{C N D N':aj}{bs bm bs' bm':aP ak}{hdct Ik:Bool}{sn Yn:aP Str}{sub sub':aP ak}{ab Yo:Bool}{col col':aO Bool}{dd Dh:aO aj}{k0 k1 k2 k3 k5 j0 j1 j2 j3 j5:aO ak}{dD je:String}
  {h:aK} {g:Array GenState} {d:Drawn} {t:Nat} {os:OsState} {e:aj} {oe:Obj} {Q:Bool->ao->Prop}
  (hC:h.get? C=some (excClassObj nm q C N bs bm hdct sn sub ab col dd k0 k1 k2 k3 k5 dD)) (hD:h.get? D=some (excClassObj nm' q' D N' bs' bm' Ik Yn sub' Yo col' Dh j0 j1 j2 j3 j5 je)) (he:h.get? e=some oe) (hcls:oe.cls=.ref C) (nA:bm'.contains (.type "BaseException")=true) (hsub:(Value.ref C::bm).contains (.ref D)=true)
  (hq:Q true ⟨h,g,d,t,os⟩):wpAny M A (excMatches (.ref e)<|.ref D) Q E ⟨h,g,d,t,os⟩:=by
 have hcB:(Value.ref D::bm').contains (.type "BaseException")=true:=by rw[List.contains_cons,nA,Bool.or_true]
 have f:=tc_notTuple;unfold excMatches
 repeat (first|(with_reducible refine wpAny_loadPart_at he ?_;rw[hcls])|with_reducible refine wpAny_loadPart_at hD ?_|(with_reducible refine wpAny_isSubtype_exc hD ?_;rw[hcB])|(with_reducible refine wpAny_isSubtype_exc hC ?_;rw[hsub])|wp_step)
 exact hq
end PySem
namespace L2
noncomputable def nF (X:Cx)(bG:List (aj×Obj))(xe:ak->ao->Prop):Cx:={X with pn:=X.pn++bG,xe:=xe}
section
variable {X:Cx}{bG p2:List (aj×Obj)}{U:St}{H:Hp}{s:ao}{xe:ak->ao->Prop}
theorem Oo (ok:X.Ok):(nF X bG xe).Ok:=⟨ok.mod,ok.kind,ok.glob,ok.blt,ok.above,ok.inj,ok.has,ok.cab,ok.hd,ok.frames,ok.stk,ok.R6,ok.bs,ok.BL,ok.uD,ok.vq,ok.mO,ok.Fq⟩
theorem Oq (ok:(nF X bG xe).Ok):X.Ok:=⟨ok.mod,ok.kind,ok.glob,ok.blt,ok.above,ok.inj,ok.has,ok.cab,ok.hd,ok.frames,ok.stk,ok.R6,ok.bs,ok.BL,ok.uD,ok.vq,ok.mO,ok.Fq⟩
theorem Inv.aa6 (I:Inv X bG U H s):Inv (nF X bG xe) [] U H s :=
 ⟨Oo I.ok,I.os,I.bare,I.base,I.loc,I.cell,I.free,I.jh,λp hp=>I.pin p (by
  have:p∈(X.pn++bG)++[]:=hp
  rwa [aep]at this),I.hok,I.len⟩
theorem Inv.vO (I:Inv (nF X bG xe) p2 U H s):Inv X bG U H s :=
 ⟨Oq I.ok,I.os,I.bare,I.base,I.loc,I.cell,I.free,I.jh,λp hp=>I.pin p<|aew _ hp,I.hok,I.len⟩
theorem Inv.stays {h':aK}(hex:X.ex=[])(I:Inv X bG U H s)
  (kp:∀b o,s.heap.get? b=some o->b∉frs X.stack->(H b≠none\/(∃o',X.s₀.heap.get? b=some o')\/b∈(X.pn++bG).map (·.1))->h'.get? b=some o) (sl:s.heap.UpToSlots h'):Inv X bG U H {s with heap:=h'}:=by
 obtain⟨un,hok⟩:=zT hex I (λb o q hb hc=>kp b o q hb<|hc.elim .inl λz=>.inr<|.inl z) sl;obtain⟨m,hn,hl⟩:=I.loc;have cel:∀{c v},s.heap.IsCell c v->h'.IsCell c v:=λ{c v} ⟨o,q,hd⟩=>by
  obtain⟨sl',q'⟩:=sl c o q (λvs z=>by rw[hd]at z;cases z);exact⟨_,q',hd⟩
 have un2:Un X.fs X.ex X.H₀ H X.s₀.heap h':=by rw[hex];exact un
 refine⟨I.ok,I.os,I.bare,un2,⟨m,sl.ns hn,λi x v q1 q2 q3=>?_⟩,λx c q=>?_,I.free,I.jh,λp hp=>?_,hok,I.len⟩
 ·obtain⟨u,r,l⟩:=hl i x v q1 q2 q3
  refine⟨u,r,?_⟩;rcases l with l|⟨l1,c,l2,l3⟩
  ·exact .inl l
  ·exact .inr ⟨l1,c,l2,cel l3⟩
 ·obtain⟨v,q'⟩:=I.cell x c q
  exact⟨v,cel q'⟩
 ·obtain⟨p1,p2,p3,p4,p5⟩:=I.pin p hp
  refine⟨kp _ _ p1 (λz=>?_)<|.inr (.inr<|aeR hp),p2,p3,p4,p5⟩;rcases aev.mp (I.jC _ z) with z1|z1
  ·exact p3 z1
  ·exact p4 z1
end
def XT (X:Cx)(bG:List (aj×Obj))(EX:St->XK):ak->ao->Prop:=λe s'=>∃ea C U H',e=.ref ea/\Inv X bG U H' s'/\H' ea=none/\
 (∃(B:aK) (t:aj),Heap.FlyingW B X.stack ea (.ref C) (.ref t) s'.heap/\(∀p∈X.pn++bG,p.1≠ea)/\∀b o,s'.heap.get? b=some o->b∉frs X.stack->(H' b≠none\/(∃o',X.s₀.heap.get? b=some o')\/b∈(X.pn++bG).map (·.1))->B.get? b=some o)/\EX U (.ref C) (some ea) H'
def Yp (sp:Sp)(EX:St->XK)(t:TA):TE:=λU H Q=>t U H λvs H1=>sp vs H1 Q (EX U)
noncomputable def rN (X:Cx)(ea:aj)(bG:List (aj×Obj)):Cx:={X with A:=X.A.mark<|some (.ref ea),calm:=false,pn:=X.pn++bG,xe:=λ_ _=>False}
section
variable {X:Cx}{bG p2:List (aj×Obj)}{U:St}{H:Hp}{s:ao}{ea:aj}
theorem Inv.Il (I:Inv X bG U H s):Inv (rN X ea bG) [] U H s :=
 ⟨⟨I.ok.mod,I.ok.kind,I.ok.glob,I.ok.blt,I.ok.above,I.ok.inj,I.ok.has,I.ok.cab,(λz=>by cases z),I.ok.frames,I.ok.stk,I.ok.R6,I.ok.bs,I.ok.BL,I.ok.uD,I.ok.vq,I.ok.mO,I.ok.Fq⟩,
  I.os,I.bare,I.base,I.loc,I.cell,I.free,I.jh,λp hp=>I.pin p (by
  have:p∈(X.pn++bG)++[]:=hp
  rwa [aep]at this),I.hok,I.len⟩
theorem Inv.uQ (hd:X.calm=true->X.A.handled=none)(I:Inv (rN X ea bG) p2 U H s):Inv X bG U H s :=
 ⟨⟨I.ok.mod,I.ok.kind,I.ok.glob,I.ok.blt,I.ok.above,I.ok.inj,I.ok.has,I.ok.cab,hd,I.ok.frames,I.ok.stk,I.ok.R6,I.ok.bs,I.ok.BL,I.ok.uD,I.ok.vq,I.ok.mO,I.ok.Fq⟩,
  I.os,I.bare,I.base,I.loc,I.cell,I.free,I.jh,λp hp=>I.pin p<|aew _ hp,I.hok,I.len⟩
theorem Inv.Te {o:Obj}(I:Inv X bG U H s)(e:s.heap.get? ea=some o)(n:H ea=none)(nl:ea≠X.env.locals)(nf:ea∉X.fs)(nc:∀v,o.data≠.cell v):Inv X (bG++[(ea,o)]) U H s :=
 ⟨I.ok,I.os,I.bare,I.base,I.loc,I.cell,I.free,I.jh,λp hp=>by
  rw[<-ad8]at hp;rcases aeu.mp hp with hp|hp
  ·exact I.pin p hp
  ·rw[aec]at hp
   subst hp;exact⟨e,n,nl,nf,nc⟩,I.hok,I.len⟩
theorem Inv.uR (I:Inv X (bG++p2) U H s):Inv X bG U H s :=
 ⟨I.ok,I.os,I.bare,I.base,I.loc,I.cell,I.free,I.jh,λp hp=>I.pin p (by rw[<-ad8];exact aew _ hp),I.hok,I.len⟩
theorem qb {M:Model}{A:aq}{E:ak->ao->Prop}{i:Nat}{n:Str}{pos:Pos}{Q:Unit->ao->Prop}(I:Inv X bG U H s)(hN:X.N.Nodup)(hi:X.N[i]?=some n)(hn:X.env.scope.names.lookup n=some .local)
  (h:∀s',Inv X bG (U.set i none) H s'->Q () s'):wpAny M A (do bindName X.env n .none;unbindBehindTheSuite X.env n pos) Q E s:=by
 obtain⟨m,hns,hl⟩:=I.loc;refine wpAny_nameGoes_keeps (m:=m) hn hns (by rw[I.ok.kind];rfl) λh' v hns' hsb=>h _ ?_;have same:∀{b},b≠X.env.locals->h'.get? b=s.heap.get? b:=λnb=>hsb.2 _ nb;have old:∀{b o},X.s₀.heap.get? b=some o->b≠X.env.locals:=λ{b o} e z=>by
  have h1:=ad1 e;have h2:=I.ok.above;rw[z]at h1;exact absurd (ad4 h1 h2)<|aed _
 have cel:∀{c u},c≠X.env.locals->s.heap.IsCell c u->h'.IsCell c u:=λnc ⟨o,q,hd⟩=>⟨o,(same nc).trans q,hd⟩;refine⟨I.ok,I.os,I.bare,⟨λb o e n' hb hx=>(same<|old e).trans<|I.base.keep b o e n' hb hx,λb o e n' hb hx=>?_,I.base.free,λb o e hx=>?_,I.base.tups,I.base.rD,I.base.sW⟩,⟨_,hns',λj y u e1 e2 e3=>?_⟩,λx c q=>?_,I.free,I.jh,λp hp=>?_,I.hok.W0 λb u nb q=>?_,by rw[afj];exact I.len⟩
 ·obtain⟨sl,q⟩:=I.base.slot b o e n' hb hx
  exact⟨sl,(same<|old e).trans q⟩
 ·obtain⟨o',q⟩:=I.base.there b o e hx
  exact⟨o',(same<|old e).trans q⟩
 ·have hji:j≠i:=λz=>by
   rw[z,List.getElem?_set]at e2;simp only[if_true]at e2;split at e2<;>cases e2
  rw[aeX (af2 hji)]at e2;have hyn:y≠n:=λz=>by
   rw[z]at e1;obtain⟨l1,q1⟩:=aga e1;obtain⟨l2,q2⟩:=aga hi;rcases Nat.lt_or_gt_of_ne hji with lt|lt
   ·exact List.pairwise_iff_getElem.mp hN _ _ l1 l2 lt<|q1.trans q2.symm
   ·exact List.pairwise_iff_getElem.mp hN _ _ l2 l1 lt<|q2.trans q1.symm
  obtain⟨w',r,l⟩:=hl j y u e1 e2 e3;refine⟨w',r,?_⟩;rcases l with ⟨l1,l2⟩|⟨l1,c,l2,l3⟩
  ·exact .inl ⟨l1,by show(if y=n then v else m y)=some w';rw[afY hyn];exact l2⟩
  ·exact .inr ⟨l1,c,l2,cel (I.R8 y c l2) l3⟩
 ·obtain⟨v',q'⟩:=I.cell x c q
  exact⟨v',cel (I.R8 x c q) q'⟩
 ·obtain⟨p1,p2',p3,p4,p5⟩:=I.pin p hp
  exact⟨(same p3).trans p1,p2',p3,p4,p5⟩
 ·exact(same λz=>nb<|by rw[z];exact I.free).trans q
end
def lA (h:aK)(C D:aj):Prop:=∃(nm q nm' q':Str) (N N':aj) (bs bm bs' bm':List ak) (hdct Ik:Bool) (sn Yn:List Str) (sub sub':List ak) (ab Yo:Bool) (col col':Option Bool) (dd Dh:Option aj) (k0 k1 k2 k3 k5 j0 j1 j2 j3 j5:Option ak) (dD je:String),
 h.get? C=some (excClassObj nm q C N bs bm hdct sn sub ab col dd k0 k1 k2 k3 k5 dD)/\h.get? D=some (excClassObj nm' q' D N' bs' bm' Ik Yn sub' Yo col' Dh j0 j1 j2 j3 j5 je)/\bm'.contains (.type "BaseException")=true/\(Value.ref C::bm).contains (.ref D)=true
def Di (i:Nat)(D:Ends):Ends:={nx:=λU H=>D.nx (U.set i none) H,rt:=D.rt,bk:=λU H=>D.bk (U.set i none) H,ct:=λU H=>D.ct (U.set i none) H}
def acz (i:Nat)(EX:St->XK)(tb:TS)(ts:aj->aj->TS):TS:=λD U H=>tb D U H/\∀U' C ea H',EX U' (.ref C) (some ea) H'->H' ea=none->ts ea C (Di i D) (U'.set i<|some (.ref ea)) H'
def pB (a:aj)(o:Obj):HO:=.ext λh=>h.get? a=some o
noncomputable def del (H:Hp)(c:aj):Hp:=λb=>if b=c then none else H b
section
variable {P:aA}{w:aG}{H H':Hp}{h h':aK}{a b c:aj}{o:Obj}
theorem Dj:del H c c=none:=afX rfl
theorem pD (n:b≠c):del H c b=H b:=afY n
theorem Tg (e:h.get? a=some o):fO P w H h a (pB a o):=⟨e,⟨o,e⟩,λh1 h2 q k=>k o q⟩
theorem uT (ok:mK P w H h)(q:H a=some (pB a o)):h.get? a=some o:=(ok a _ q).1
theorem Ot {y:aj}(e:H c=some (pB c o))(q:H b=some (.own y)):b≠c:=λz=>by
 rw[z,e]at q;have q':some (HO.ext _)=some (HO.own y):=q;cases q'
theorem Ou {xs:aP V}(e:H c=some (pB c o))(q:H b=some (.tup xs)):b≠c:=λz=>by
 rw[z,e]at q;have q':some (HO.ext _)=some (HO.tup xs):=q;cases q'
theorem mK.del (ok:mK P w H h)(e:H c=some (pB c o)):mK P w (L2.del H c) h:=λb u q=>by
 by_cases hb:b=c
 ·rw[hb,Dj]at q;cases q
 ·rw[pD hb]at q
  exact(ok b u q).stay (λ_ _ _ e=>e) (λd r=>by rw[pD (Ot e r)];exact r) λd xs r=>by rw[pD (Ou e r)];exact r
theorem mK.obj (ok:mK P w H h)(n:H c=none)(e:h.get? c=some o):mK P w (upd H c<|pB c o) h:=λb u q=>by
 by_cases hb:b=c
 ·subst hb;rw[bA]at q;cases q;exact Tg e
 ·rw[bR hb]at q
  exact(ok b u q).stay (λ_ _ _ e=>e) (λd r=>by rw[bR (bU r n)];exact r) λd xs r=>by rw[bR (bU r n)];exact r
theorem Un.lent {fs:aP aj}{H1:Hp}(un:Un fs [] (upd H c<|pB c o) H1 h h')(n:H c=none)(e:h.get? c=some o)(e':H1 c=some (pB c o))(k:h'.get? c=some o):Un fs [] H (L2.del H1 c) h h' where
 keep:=λb ob q m hb hx=>by
  by_cases z:b=c
  ·subst z;rw[e]at q;cases q;exact k
  ·exact un.keep b ob q (by rw[bR z];exact m) hb hx
 slot:=λb ob q m hb hx=>by
  by_cases z:b=c
  ·subst z;rw[e]at q;cases q;exact⟨o.slots,k⟩
  ·exact un.slot b ob q (by rw[bR z];exact m) hb hx
 free:=λb ob q m hx=>by
  by_cases z:b=c
  ·rw[z];exact Dj
  ·rw[pD z];exact un.free b ob q (by rw[bR z];exact m) hx
 there:=λb ob q hx=>un.there b ob q hx
 tups:=λb xs q=>by
  have z:=bU q n;rw[pD z];exact un.tups b xs (by rw[bR z];exact q)
 rD:=λb ob u q=>by
  have z:=bU q n;rw[pD z];exact un.rD b ob u (by rw[bR z];exact q)
 sW:=λb ps q=>by
  have z:=bU q n;rw[pD z];exact un.sW b ps (by rw[bR z];exact q)
end
open PySem.Builtin.Getset_descriptor
section
variable {K:aN}{M:Model}{h:aK}{x C:aj}{name:Str}{ax gx:ak}
theorem zU {ob:Obj}(e:h.get? x=some ob)(c:ob.cls=.ref C):PySem.W.Looks M h (typeOf<|.ref x) (.ref C):=by
 rw[<-c];exact(PySem.W.Looks.ld e).andThen .now
theorem Kr (X:K.In h)(h1:findIn K (.ref C) name=some (some ax))(h2:specialIn K ax "__get__"=some (some gx))(h3:takesIn K ax=some true):
  PySem.W.Looks M h (Builtin.ObjectAttr.find (.ref x) (.ref C) name) (.bind gx ax):=by
 have e1:=afc (M:=M) X h1;have e2:PySem.W.Looks M h (Builtin.ObjectAttr.getOf<|some ax) (some gx):=PySem.W.looks_specialIn X h2;have e3:PySem.W.Looks M h (Builtin.ObjectAttr.dataDescriptor? (some ax)<|some gx) (some (gx,ax)):=(PySem.W.looks_takesIn X h3).andThen .now;exact e1.andThen<|e2.andThen (e3.andThen<|.tag .now)
end
section
variable {prog:aA}{w:aG}{A:aq}{E:ak->ao->Prop}{s:ao}{K:aN}{x C:aj}{ob:Obj}
theorem xZ {R:Result->ao->Prop}{tp:ak}(X:K.In s.heap)(e:s.heap.get? x=some ob)(c:ob.cls=.ref C)(hm:mroIn K C (.type "object")=some true)(q:R (.ok<|.ret (.ref C)) s):
  codeAny (model prog w) A (.call (.builtin "getset_descriptor.__get__") ⟨[.builtin "object.__class__", .ref x,tp],[]⟩) R s:=by
 obtain⟨hp,gn,dr,tk,os⟩:=s;have y1:=zU (M:=model prog w) e c;have y2:=PySem.W.looks_mroIn (M:=model prog w) X hm;refine codeAny_call_builtin PySem.W.KF.slot_gs.plain PySem.W.KF.entry_gs ?_;refine PySem.W.KF.slot_gs.check _ _ _ _ _ _ _ _ PySem.W.KF.type_class (PySem.W.KF.args_gs _ _ _) ?_;unfold Builtin.«getset_descriptor.__get__»;unfold descrGet;rw[PySem.W.dga_obj];refine abI<|afV ?_;unfold descrGetter descrCheckInstance;unfold descrNameAndClass isInstance;simp only[PySem.W.KF.owner_class]
 repeat lk
 refine⟨Code.quiet_builtin _ (by decide+kernel),?_⟩;refine codeAny_builtin PySem.W.KF.entry_class ?_;unfold Builtin.«object.__class__»;unfold shownTypeOf
 repeat lk
 exact q
theorem Ks {Q:Unit->ao->Prop}{nameV:ak}(X:K.In s.heap)(e:s.heap.get? x=some ob)(c:ob.cls=.ref C)(gb:mroIn K C (.type "BaseException")=some true)(q:Q () s):
  wpAny (model prog w) A (checkBuiltinCall "BaseException.__getattribute__" ⟨[.ref x,nameV],[]⟩) Q E s:=by
 obtain⟨hp,gn,dr,tk,os⟩:=s;have y1:=zU (M:=model prog w) e c;have y2:=PySem.W.looks_mroIn (M:=model prog w) X gb;have k1:builtinKind "BaseException.__getattribute__"=some .slot:=by decide+kernel
 have k2:splitId "BaseException.__getattribute__"=some ("BaseException","__getattribute__"):=by decide+kernel
 have k3:=F.args_bexc_ga (.ref x) nameV;simp only[checkBuiltinCall,k1,k2];unfold isInstance;refine abI<|abI (y1.at<|y2.at ?_);rw[afY (by decide)];cases hz:Manifest.signature? "BaseException.__getattribute__" with
 |none=>exact afV q
 |some sig=>
  simp only[argsOk,hz]at k3;have k4:Bind.checkArgs "BaseException.__getattribute__" sig ⟨[.ref x,nameV],[]⟩=pure ():=k3;show wpAny _ _ (Bind.checkArgs "BaseException.__getattribute__" sig ⟨[.ref x,nameV],[]⟩) _ _ _;rw[k4];exact afV q
variable (g0:findIn K (.ref C) "__getattribute__"=some (some<|.builtin "BaseException.__getattribute__"))(g1:findIn K (.ref C) "__getattr__"=some none)(gb:mroIn K C (.type "BaseException")=some true)
 (g2:findIn K (.ref C) "__class__"=some (some<|.builtin "object.__class__")) (g3:specialIn K (.builtin "object.__class__") "__get__"=some (some<|.builtin "getset_descriptor.__get__"))
 (g4:takesIn K (.builtin "object.__class__")=some true) (g5:mroIn K C (.type "object")=some true)
include g0 g1 gb g2 g3 g4 g5
theorem Ku {Q:aO ak->ao->Prop}(X:K.In s.heap)(e:s.heap.get? x=some ob)(c:ob.cls=.ref C)(q:Q (some<|.ref C) {s with toks:=s.toks+1}):wpAny (model prog w) A (getAttr? (.ref x) "__class__") Q E s:=by
 obtain⟨hp,gn,dr,tk,os⟩:=s;have y1:=zU (M:=model prog w) e c;have y2:=afc (M:=model prog w) X g0;have y3:=afc (M:=model prog w) X g1;have y4:=Kr (M:=model prog w) (x:=x) X g2 g3 g4;unfold getAttr? getAttrBy?;unfold getAttrBy;refine abI<|wpAny_mkText ?_;refine abI<|wpAny_attempt (af9 ?_);refine abI<|y1.at ?_;refine abI<|y2.at ?_;show wpAny _ _ (getAttrByItsOwn _ _ _ _ _ _) _ _ _;unfold getAttrByItsOwn;refine abI<|(show PySem.W.Looks (model prog w) hp (hookBefore<|.ref C) none from y3).at ?_;refine abI<|wpAny_attempt (af9 ?_);show wpAny _ _ (boundAndCalled _ _ _) _ _ _;unfold boundAndCalled;rw[F.excAttr_ValueError.ga.bind];refine abI<|afV (wpAny_call<|codeAny_call_builtin F.excAttr_ValueError.ga.plain F.entry_bexc_ga (Ks X e c gb ?_));unfold Builtin.«object.__getattribute__»;refine abI<|afV (abI<|afV (abI<|y1.at (abI<|y4.at ?_)));show wpAny _ _ (holding [_] (call _ [_,_,_])>>=ret) _ _ _;refine abI<|af9 (wpAny_call<|xZ X e c g5 ?_);refine afV ?_;exact PySem.W.handed_on rfl (afV q)
end
structure mQ (K:aN)(C:aj):Prop where
 g0:findIn K (.ref C) "__getattribute__"=some (some<|.builtin "BaseException.__getattribute__")
 g1:findIn K (.ref C) "__getattr__"=some none
 gb:mroIn K C (.type "BaseException")=some true
 g2:findIn K (.ref C) "__class__"=some (some<|.builtin "object.__class__")
 g3:specialIn K (.builtin "object.__class__") "__get__"=some (some<|.builtin "getset_descriptor.__get__")
 g4:takesIn K (.builtin "object.__class__")=some true
 g5:mroIn K C (.type "object")=some true
 lk:∃c0 d0 cd sl,K.lookup C=some ⟨c0,d0, .cls cd,sl⟩
theorem vP {K:aN}{x C:aj}(S:mQ K C):PySem.W.KitX K (.ref x) (.ref C) (λh=>∃ob,h.get? x=some ob/\ob.cls=.ref C) where
 ty:=λ_ _ _ ⟨ob,e,c⟩=>zU e c
 it:=λM h X _=>by
  obtain⟨c0,d0,cd,sl,q⟩:=S.lk;intro A' Q' E' s' k z;unfold isType;unfold loadHead;exact abI<|wpAny_loadPart (k _ _<|X _ _ q) (afV z)
 ne:=λh tp dd bh n sl X e=>by
  obtain⟨c0,d0,cd,sl',q⟩:=S.lk;cases hz:(Value.ref C==Value.ref tp) with
  |false=>rfl
  |true=>
   have z:C=tp:=by simpa using hz
   have e2:=X _ _ q;rw[z,e]at e2;cases e2
 ca:=λ{prog w A E Q s} X ⟨ob,e,c⟩ k=>Ku S.g0 S.g1 S.gb S.g2 S.g3 S.g4 S.g5 X e c k
section
variable {X:Cx}
theorem qd:jw X (.builtin "isinstance") (λxs H Q=>∃ea ob C D b,xs=[.ref ea, .ref D]/\H ea=some (pB ea ob)/\ob.cls=.ref C/\mQ X.K C/\kitOne X.K (.ref C) (.ref D)=some b/\Q (.bl b) H):=by
 intro bG s U H xs us Q I r h;obtain⟨ea,ob,C,D,b,rfl,e,c,S,k,q⟩:=h;obtain⟨u,u',rfl,rx,ry⟩:=vals2 r;cases(show u=Value.ref ea from rx);cases(show u'=Value.ref D from ry);exact aex (vP S) I.qt ⟨ob,uT I.hok e,c⟩ k (λz=>nomatch z) λtk=>⟨.bl b,H,I.tok tk,rfl,q⟩
theorem Kv:jw X (.builtin "isinstance") (λxs H Q=>∃ea ob C T b,xs=[.ref ea, .ty T]/\H ea=some (pB ea ob)/\ob.cls=.ref C/\mQ X.K C/\kitOne X.K (.ref C) (.type T)=some b/\Q (.bl b) H):=by
 intro bG s U H xs us Q I r h;obtain⟨ea,ob,C,T,b,rfl,e,c,S,k,q⟩:=h;obtain⟨u,u',rfl,rx,ry⟩:=vals2 r;cases(show u=Value.ref ea from rx);cases(show u'=Value.type T from ry);exact aex (vP S) I.qt ⟨ob,uT I.hok e,c⟩ k (λz=>nomatch z) λtk=>⟨.bl b,H,I.tok tk,rfl,q⟩
theorem yJ:∀{ds:List aj} {us:List ak},Vals (ds.map V.ref) us->us=ds.map Value.ref
 |[],us,r=>by cases r;rfl
 |d::ds,us,r=>by
  cases r with
  |cons a b=>rw[aei,<-yJ b];cases(show _=Value.ref d from a);rfl
theorem Ky:jw X (.builtin "isinstance") (λxs H Q=>∃(ea:aj) (ob:Obj) (C tp:aj) (ds:aP aj) (b:Bool),xs=[.ref ea, .ref tp]/\H ea=some (pB ea ob)/\ob.cls=.ref C/\mQ X.K C/\H tp=some (.tup<|ds.map V.ref)/\kitAny X.K (.ref C) (ds.map Value.ref)=some b/\Q (.bl b) H):=by
 intro bG s U H xs us Q I r h;obtain⟨ea,ob,C,tp,ds,b,rfl,e,c,S,et,k,q⟩:=h;obtain⟨u,u',rfl,rx,ry⟩:=vals2 r;cases(show u=Value.ref ea from rx);cases(show u'=Value.ref tp from ry);obtain⟨_,bh,rv,o,ho,hc,n,hd⟩:=(show fO X.prog X.w H s.heap tp (.tup<|ds.map V.ref) from I.hok tp _ et);have ei:=yJ rv;subst ei;obtain⟨oc,od,dt,sl⟩:=o;have hc':oc=.type "tuple":=hc;have hd':dt=.seq (ds.map Value.ref).toArray n:=hd;subst hc' hd';exact PySem.W.kia_tup (vP S) I.qt ⟨ob,uT I.hok e,c⟩ ho k (λz=>nomatch z) λtk=>⟨.bl b,H,I.tok tk,rfl,q⟩
end
structure vQ (k:Nat)(A:aq):Prop where
 dp:A.depth+3*k+5<recursionLimit
 un:A.units+16*k+200<cLine
theorem gA.marked {k:Nat}{A:aq}{e:aO ak}(r:gA k A):vQ k (A.mark e):=⟨r.dp,r.un⟩
theorem vQ.deeper {k:Nat}{A:aq}(r:vQ (k+1) A)(env:Env):vQ k (A.deeper env) :=
 ⟨by have:=r.dp;show A.depth+1+3*k+5<_;omega,by have:=r.un;show A.units+3+16*k+200<_;omega⟩
structure Dk (P:aA)(w:aG)(K:aN)(mg:Str->Option ak)(aV:aK)(k:Nat)(f:aj)(fd:FuncData)(ps:List Str)(sp:Sp):Prop where
 len:∀vs H Q E,sp vs H Q E->vs.length=ps.length
 run:∀(A:aq) (aU:List Env) (s:ao) (H:Hp) (args:Args) (us:List ak) (vs:List V) (Q:VK) (E:XK),vQ k A->xW P w K mg aV A aU s H->BindsTo s fd args (ps.zip us)->Vals vs us->sp vs H Q E->
  codeAny (model P w) A (.call (.ref f) args) (CR jV aU P w H s Q E) s
noncomputable def W3 (P:aA)(w:aG)(K:aN)(mg:Str->Option ak)(aV:aK)(N:List Str)(bf:Str)(aZ:Scope)(f:aj)(cd:ak)(A:aq)(aU:List Env)(s:ao)(H:Hp):Cx :=
 {dX jV P w K mg aV N bf aZ f cd A aU s H E0 with calm:=false,xe:=λ_ _=>False}
theorem iz.okM {P:aA}{w:aG}{K:aN}{mg:Str->Option ak}{aV:aK}{x bf:Str}{st:aJ}{f:aj}{fd:FuncData}{N ps:List Str}{k:Nat}{sp:Sp}(F:iz K x bf st f fd)(S:bZ N ps (bQ st))
  (hbody:∀(dF:ak) (A:aq) (aU:List Env) (s:ao) (H:Hp) (vs:List V) (Q:VK) (E:XK),vQ k (A.deeper<|envOfC bf (bQ st) s.heap.objs.size f dF)->sp vs H Q E->
   ∃t,xU (W3 P w K mg aV N bf (bQ st) f dF A aU s H) (cT st) t/\t (Ends.of Q) (start N vs) H) (len:∀vs H Q E,sp vs H Q E->vs.length=ps.length:=by rintro _ _ _ _ ⟨⟩;subst_vars;rfl):Dk P w K mg aV (k+1) f fd ps sp:=by
 obtain⟨oc,od,kV,mZ,pm,an,dF,ct,osl,rfl,lk,xV⟩:=F.ex;refine⟨len,λA aU s H args us vs Q E hr e0 hb r hsp=>?_⟩;have hl:=len _ _ _ _ hsp;have KX:K.In s.heap:=e0.mod.JR.keeps λb o q=>(e0.bs b o q).1;have lim:s.heap.NoLimit:=e0.mod.nolimit.keeps λb o q=>(e0.bs b o q).1;have acA:A.depth<recursionLimit:=by have:=hr.dp;omega
 have kinds:∀y∈ps.zip us,(bQ st).names.lookup y.1=some .local\/((bQ st).names.lookup y.1=some .cell/\((cellsFrom (s.heap.objs.size+1) (bQ st).names []).lookup y.1).isSome=true):=λy hy=>by
  have hm:(y.1,y.2)∈ps.zip us:=hy;rcases S.par y.1 (afr hm).1 with z|z
  ·exact .inl z
  ·exact .inr ⟨z,afm _ _ _<|.inl z⟩
 refine codeAny_call_function acA (KX _ _ lk) rfl S.co S.gen rfl (PySem.W.codeRec_of KX xV) ?_;refine hb _ _ _ _ ?_;refine wpAny_newFunctionEnv_cells S.kind kinds λenv he s1 y=>?_;subst he;refine⟨lim.keeps y.toInCall.keep,?_⟩;refine codeAny_func ?_;obtain⟨t,ht,hq⟩:=hbody dF A aU s H vs Q E (hr.deeper _) hsp;have e1:xW P w K mg aV {A with handled:=none} aU s H:=⟨e0.frames,e0.mod,e0.bs,e0.BL,e0.mO,e0.Fq,e0.hok,e0.bare⟩;have I0:=yD (CX:=jV) (bf:=bf) (f:=f) (cd:=dF) (E:=E0) S (A:={A with handled:=none}) rfl e1 hl r y;have I:Inv (W3 P w K mg aV N bf (bQ st) f dF A aU s H) [] (start N vs) H s1 :=
  ⟨⟨I0.ok.mod,I0.ok.kind,I0.ok.glob,I0.ok.blt,I0.ok.above,I0.ok.inj,I0.ok.has,I0.ok.cab,(λz=>by cases z),Around.frames_deeper e0.frames,I0.ok.stk,I0.ok.R6,I0.ok.bs,I0.ok.BL,I0.ok.uD,I0.ok.vq,I0.ok.mO,I0.ok.Fq⟩,
   I0.os,I0.bare,I0.base,I0.loc,I0.cell,I0.free,I0.jh,I0.pin,I0.hok,I0.len⟩
 refine wpAny_mono (ht [] s1 (start N vs) H _ I hq) (λfl s' hs=>?_) λe s' z=>af7 z;cases fl with
 |ret u=>
  obtain⟨v,U',H',J,rv,q⟩:=hs;exact⟨v,H',J.os,J.bare,J.base,J.hok,rv,q⟩
 |next=>
  obtain⟨U',H',J,q⟩:=hs;exact⟨V.non,H',J.os,J.bare,J.base,J.hok,rfl,q⟩
 |brk=>
  obtain⟨_,_,_,q⟩:=hs;exact af7 q
 |cont=>
  obtain⟨_,_,_,q⟩:=hs;exact af7 q
def Gw (ea:aj)(oe:Obj)(sp:Sp)(t:TA):TE:=λU H Q=>t U H λvs H1=>H1 ea=none->sp vs (upd H1 ea<|pB ea oe) (λr H'=>H' ea=some (pB ea oe)/\Q r (del H' ea)) E0
theorem Dl {X:Cx}{k:Nat}{x:Str}{ps:List Str}{sp:Sp}{p pos:Pos}{e:aH}{es:List aH}{t:TA}{f ea:aj}{oe:Obj}{fd:FuncData}(F:Dk X.prog X.w X.K X.mg X.base k f fd ps sp)(hb:Binds X.K fd ps [])(hk:keepIn X.K (.ref f)=true)(hm:X.mg x=some (.ref f))(hr:vQ k X.A)(hg:Gl X x)
  (hp:(ea,oe)∈X.pn) (nb:X.base.get? ea=none) (ha:PA X (e::es) t)
  (hdb:(x==("__debug__":Str))=false:=by decide) (he:starEach (e::es) X.env=(false,eval e X.env)::starEach es X.env:=by rfl) (iH:(backTo pos<|starEach es X.env).any (·.1)=false:=by rfl):
  PE X (.Call (.Name x p) (e::es) [] pos) (Gw ea oe sp t):=by
 intro bG s U H Q I h;refine wpAny_Call_Name_kw<|lZ I hg hm ?_ hdb;refine ae6 (h₀:=X.base) I.ok.mod.JR hk (gk (ha pos bG s U H _ I h) λus s1 ⟨vs,H1,I1,r,q⟩=>⟨I1.qt,?_⟩) he iH;obtain⟨ho,n1,p3,p4,p5⟩:=I1.pin (ea,oe) (aew _ hp);have e0:xW X.prog X.w X.K X.mg X.base X.A X.stack s1 (upd H1 ea<|pB ea oe):=⟨I1.ok.frames,I1.ok.mod,λb o q=>⟨(I1.bs b o q).1,by
   rw[bR (λz=>by rw[z,nb]at q;cases q)];exact(I1.bs b o q).2⟩,ad2 I1.ok.BL I1.sz,I1.stack,λb hb'=>by
   have z:b≠ea:=λz=>by
    rcases aev.mp (I1.jC b hb') with z1|z1
    ·exact p3<|z.symm.trans z1
    ·exact p4<|z ▸ z1
   rw[bR z];exact I1.nR b hb',I1.hok.obj n1 ho,I1.bare⟩
 have q':=q n1;have hl':us.length=ps.length:=by rw[<-r.length];exact F.len _ _ _ _ q'
 have bt:BindsTo s1 fd ⟨us,[]⟩ (ps.zip us):=by
  have:=hb s1 us I1.qt (by rw[aep];exact hl');rw[aep]at this;exact this
 refine wpAny_call<|codeAny_mono (F.run X.A X.stack s1 _ ⟨us,[]⟩ us vs _ _ hr e0 bt r q') λr' s' hq=>?_;cases r' with
 |error e=>exact af7 hq
 |ok fl=>
  cases fl with
  |ret u'=>
   obtain⟨v',H',os,bare,un,hok,r2,q1,q2⟩:=hq;exact I1.after ⟨v',_,os,bare,un.lent n1 ho q1<|uT hok q1,hok.del q1,r2,q2⟩
  |next=>exact af7 hq
  |brk=>exact af7 hq
  |cont=>exact af7 hq
def HT (X:Cx)(bG:List (aj×Obj))(EX:St->XK):ak->ao->Prop:=λe s2=>∃(ea C:aj) (U:St) (H':Hp) (s1:ao) (B:aK) (t:aj) (h4:aK),e=.ref ea/\s2={s1 with heap:=h4}/\Inv X bG U H' s1/\H' ea=none/\
 Heap.HeldW B (X.env::X.outer) ea (.ref C) (.ref t) X.env.locals h4/\s1.heap.UpToSlots h4/\(∀p∈X.pn++bG,p.1≠ea)/\
 (∀b o,s1.heap.get? b=some o->b∉frs X.stack->(H' b≠none\/(∃o',X.s₀.heap.get? b=some o')\/b∈(X.pn++bG).map (·.1))->B.get? b=some o)/\EX U (.ref C) (some ea) H'
def LT (X:Cx)(bG:List (aj×Obj))(EX:St->XK):ak->ao->Prop:=λe s=>wpAny (model X.prog X.w) X.A (noteFrame e X.env) (λ_ s2=>HT X bG EX e s2) (λ_ _=>False) s
theorem aa7 {X:Cx}{bG:aP (aj×Obj)}{EX:St->XK}{e:ak}{s1:ao}(lg:X.stack=X.env::X.outer)(hfr:X.env.frame=some X.env.locals)(q:XT X bG EX e s1):LT X bG EX e s1:=by
 obtain⟨ea,C,U',H',rfl,J,vN,⟨B,t,fl,aa8,mj⟩,hE⟩:=q;have fl':Heap.FlyingW B (X.env::X.outer) ea (.ref C) (.ref t) s1.heap:=by rw[<-lg];exact fl
 have Yq:X.A.frames=some (X.env::X.outer):=by rw[<-lg];exact J.ok.frames
 exact wpAny_looks_onW Yq hfr fl' λh4 Im sm4=>⟨ea,C,U',H',s1,B,t,h4,rfl,rfl,J,vN,Im,sm4,aa8,mj,hE⟩
theorem yK {X:Cx}{kZ:List (aj×Obj)}{EX:St->XK}{k:Nat}{x:Str}{ps:List Str}{sp:Sp}{p pos:Pos}{e:aH}{es:List aH}{t:TA}{f:aj}{fd:FuncData}(lg:X.stack=X.env::X.outer)(hfr:X.env.frame=some X.env.locals)(hex:X.ex=[])(F:cP X.prog X.w X.K X.mg X.base (fP X.prog X.w) k f fd ps sp)(hb:Binds X.K fd ps [])(hk:keepIn X.K (.ref f)=true)(hm:X.mg x=some (.ref f))(hr:gA k X.A)(hg:Gl X x)
  (ha:PA (nF X kZ<|LT X kZ EX) (e::es) t) (hdb:(x==("__debug__":Str))=false:=by decide) (he:starEach (e::es) X.env=(false,eval e X.env)::starEach es X.env:=by rfl) (iH:(backTo pos<|starEach es X.env).any (·.1)=false:=by rfl):
  PE (nF X kZ<|LT X kZ EX) (.Call (.Name x p) (e::es) [] pos) (Yp sp EX t):=by
 intro bG s U H Q I h;refine wpAny_Call_Name_kw<|lZ I hg hm ?_ hdb;refine ae6 (h₀:=X.base) I.ok.mod.JR hk (gk (ha pos bG s U H _ I h) λus s1 ⟨vs,H1,I1,r,q⟩=>⟨I1.qt,?_⟩) he iH;have hl':us.length=ps.length:=by rw[<-r.length];exact F.len _ _ _ _ q
 have bt:BindsTo s1 fd ⟨us,[]⟩ (ps.zip us):=by
  have:=hb s1 us I1.qt (by rw[aep];exact hl');rw[aep]at this;exact this
 refine wpAny_call<|codeAny_mono (F.run X.A X.stack s1 H1 ⟨us,[]⟩ us vs Q (EX U) hr I1.env0 bt r q) λr' s' hq=>?_;cases r' with
 |error e=>
  obtain⟨ea,C,H',rfl,⟨os,bare,un,hok,vN,B,tt,fl,mj⟩,hE⟩:=hq;have J0:Inv (nF X kZ<|LT X kZ EX) bG U H' s':=I1.call' os un hok bare (λb z=>absurd z<|by simp);have J:=J0.vO;have I1':=I1.vO;have nfr:∀{b},b∈(X.pn++kZ).map (·.1)->b∉frs X.stack:=λ{b} hb z=>by
   obtain⟨p,hp,rfl⟩:=List.mem_map.mp hb;obtain⟨p1,p2,p3,p4,p5⟩:=I1'.pin p hp;rcases aev.mp (I1'.jC _ z) with z1|z1
   ·exact p3 z1
   ·exact p4 z1
  refine aa7 lg hfr ⟨ea,C,U,H',rfl,J,vN,⟨B,tt,fl,λp hp z=>?_,λb o q hb hc=>mj b o q hb ?_⟩,hE⟩
  ·obtain⟨p1,_⟩:=I1'.pin p hp
   have j1:=(J.pin p hp).1;have:=mj p.1 p.2 j1 (nfr<|aeR hp) (.inr ⟨_,p1⟩);rw[z,fl.2.1]at this;cases this
  ·rcases hc with z|⟨o',z⟩|z
   ·exact .inl z
   ·exact .inr (I1'.base.there b o' z<|by rw[hex];simp)
   ·obtain⟨p,hp,rfl⟩:=List.mem_map.mp z
    exact .inr ⟨_,(I1'.pin p hp).1⟩
 |ok fl=>
  cases fl with
  |ret u=>exact I1.after hq
  |next=>exact af7 hq
  |brk=>exact af7 hq
  |cont=>exact af7 hq
theorem Io {X:Cx}{body suite:List aJ}{b₀:aJ}{y n:Str}{np hpos pos:Pos}{tb:TS}{ts:aj->aj->TS}{EX:St->XK}{D:aj}{i:Nat}(hex:X.ex=[])(lg:X.stack=X.env::X.outer)(hfr:X.env.frame=some X.env.locals)
  (hN:X.N.Nodup) (hi:X.N[i]?=some n) (hn:X.env.scope.names.lookup n=some .local) (hg:Gl X y) (hm:X.mg y=some (.ref D)) (hcls:∀U C ea H',EX U (.ref C) ea H'->lA X.base C D)
  (hb:∀bG,xU (nF X bG<|LT X bG EX) body tb) (hs:∀ea C oe bG,(ea,oe)∈bG->oe.cls=.ref C->X.base.get? ea=none->xU (rN X ea bG) (b₀::suite) (ts ea C)) (hdb:(y==("__debug__":Str))=false:=by decide):
  PS X (.Try body [.ExceptHandler (some<|.Name y np) (some n) (b₀::suite) hpos] [] [] pos) (acz i EX tb ts):=by
 intro bG s U H De I h;obtain⟨h1,h2⟩:=h;refine wpAny_Try_except<|wpAny_mono (hb bG [] s U H De I.aa6 h1) (λf s1 q=>?_) (λe s1 q=>?_)
 ·cases f with
  |next=>obtain⟨U',H',J,q⟩:=q;exact wpAny_execs_nil ⟨U',H',J.vO,q⟩
  |ret u=>obtain⟨v,U',H',J,r,q⟩:=q;exact⟨v,U',H',J.vO,r,q⟩
  |brk=>obtain⟨U',H',J,q⟩:=q;exact⟨U',H',J.vO,q⟩
  |cont=>obtain⟨U',H',J,q⟩:=q;exact⟨U',H',J.vO,q⟩
 ·refine wpAny_mono q (λ_ s2 hq=>?_) (λ_ _ z=>z.elim)
  obtain⟨ea,C,U',H',s1,B,t,h4,rfl,rfl,J,vN,Im,sm4,aa8,mj,hE⟩:=hq;refine wpAny_landsW Im λh5 fl5 sm5=>?_;have J5:Inv X bG U' H' {s1 with heap:=h5}:=J.stays hex (λb o q hb hc=>fl5.1 b o<|mj b o q hb hc) (sm4.trans sm5);have rel:∀{b},(H' b≠none\/(∃o',X.s₀.heap.get? b=some o')\/b∈(X.pn++bG).map (·.1))->∃o1,s1.heap.get? b=some o1:=λ{b} hc=>by
   rcases hc with z|⟨o',z⟩|z
   ·cases hz:H' b with
    |none=>exact absurd hz z
    |some u=>exact(J.hok b u hz).there
   ·exact J.base.there b o' z (by rw[hex];simp)
   ·obtain⟨p,hp,rfl⟩:=List.mem_map.mp z
    exact⟨_,(J.pin p hp).1⟩
  obtain⟨oe,hoe,hoec⟩:=fl5.there;obtain⟨nm,q,nm',q',N,N',bs,bm,bs',bm',hdct,Ik,sn,Yn,sub,sub',ab,Yo,col,col',dd,Dh,k0,k1,k2,k3,k5,j0,j1,j2,j3,j5,dD,je,hC,hD,nA,hsub⟩:=hcls U' C _ H' hE;refine wpAny_handleBy_cons (codeAny_handlers_test<|lZ (X:=rN X ea bG) J5.Il hg hm ?_ hdb) (by intro q;cases q);refine pA (J5.bk _ _ hC) (J5.bk _ _ hD) hoe hoec nA hsub ?_;refine codeAny_handlers_suite_as ?_;refine lands_againW fl5 λh6 fl6 sm6=>?_;have J6:Inv X bG U' H' {s1 with heap:=h6}:=Inv.stays (s:={s1 with heap:=h5}) hex J5 (λb o q hb hc=>by
   obtain⟨o1,q1⟩:=rel hc;have k1':=mj b o1 q1 hb hc;have k2':=fl5.1 b o1 k1';have q':h5.get? b=some o:=q;rw[k2']at q';cases q';exact fl6.1 b o k1') sm6
  obtain⟨oe6,acB,aa9⟩:=fl6.there;obtain⟨_,_,_,Yr,ws7,_,_,_,Ys,adN,W4,_⟩:=fl6;have Dg:ea∉frs X.stack:=λz=>by
   obtain⟨_,o,ho,hnf⟩:=J6.stack.mem z;have e1:h6.get? ea=some Yr:=Ys;have e2:h6.get? ea=some o:=ho;rw[e1]at e2;cases e2;exact hnf _ W4
  have nl:ea≠X.env.locals:=λz=>Dg (by rw[lg,z];unfold frs;rw[ae4,hfr];exact ad3);have nf:ea∉X.fs:=λz=>Dg (by rw[lg];unfold frs;rw[ae4,hfr];exact ad0 _ z);have acC:Yr.cls=.ref C:=by
   have e1:h6.get? ea=some Yr:=Ys;have e2:h6.get? ea=some oe6:=acB;rw[e1]at e2;cases e2;exact aa9
  have nb:X.base.get? ea=none:=by
   cases hz:X.base.get? ea with
   |none=>rfl
   |some o=>
    have k1':=mj ea o (J.bk _ _ hz) Dg (.inr<|.inl ⟨o,(J.ok.bs _ _ hz).1⟩);rw[Im.2.1]at k1';cases k1'
  have Jp:Inv X (bG++[(ea,Yr)]) U' H' {s1 with heap:=h6}:=J6.Te Ys vN nl nf (λv z=>by rw[W4]at z;cases z);refine vA (X:=rN X ea<|bG++[(ea,Yr)]) Jp.Il hN hi (Or.inl hn) (v:=.ref ea) rfl (λs7 J7=>?_) (.inr hn);refine wpAny_mono (hs ea C Yr (bG++[(ea,Yr)]) (ad5 _ ad3) acC nb [] s7 (U'.set i<|some (.ref ea)) H' (Di i De) J7 (h2 U' C ea H' hE vN)) (λf s8 q8=>?_) λ_ _ z=>af7 z;cases f with
  |next=>
   obtain⟨U8,H8,J8,q⟩:=q8;exact qb (J8.uQ I.ok.hd).uR hN hi hn λs9 J9=>⟨_,H8,J9,q⟩
  |ret u=>
   obtain⟨v,U8,H8,J8,r,q⟩:=q8;exact qb (J8.uQ I.ok.hd).uR hN hi hn λs9 J9=>⟨v,_,H8,J9,r,q⟩
  |brk=>
   obtain⟨U8,H8,J8,q⟩:=q8;exact qb (J8.uQ I.ok.hd).uR hN hi hn λs9 J9=>⟨_,H8,J9,q⟩
  |cont=>
   obtain⟨U8,H8,J8,q⟩:=q8;exact qb (J8.uQ I.ok.hd).uR hN hi hn λs9 J9=>⟨_,H8,J9,q⟩
structure jL (X:Cx)(e:aH)(t:TE):Prop where
 h:PE X e t
structure Dp (X:Cx)(es:List aH)(t:TA):Prop where
 h:PA X es t
structure BP (X:Cx)(st:aJ)(t:TS):Prop where
 h:PS X st t
structure zV (X:Cx)(sts:List aJ)(t:TS):Prop where
 h:xU X sts t
section
variable {X:Cx}
theorem vR {es' es:aP aH}{x1}{p:Pos}{env:Env}:starEach (.Tuple es' x1 p::es) env=(false,eval (.Tuple es' x1 p) env)::starEach es env:=rfl
theorem Dq {v}{j}{es:aP aH}{p:Pos}{env:Env}:starEach (.Constant v j p::es) env=(false,eval (.Constant v j p) env)::starEach es env:=rfl
theorem Ov {a b:aH}{o:Operator}{es:aP aH}{p:Pos}{env:Env}:starEach (.BinOp a o b p::es) env=(false,eval (.BinOp a o b p) env)::starEach es env:=rfl
theorem Ow {x:Str}{es:aP aH}{p:Pos}{env:Env}:starEach (.Name x p::es) env=(false,eval (.Name x p) env)::starEach es env:=rfl
theorem Ox {g:aH}{es' es:aP aH}{ks:aP Keyword}{p:Pos}{env:Env}:starEach (.Call g es' ks p::es) env=(false,eval (.Call g es' ks p) env)::starEach es env:=rfl
theorem Oz {a b:aH}{es:aP aH}{p:Pos}{env:Env}:starEach (.Subscript a b p::es) env=(false,eval (.Subscript a b p) env)::starEach es env:=rfl
theorem jx {es:aP aH}{x1}{x:Str}{p p':Pos}{l}{env:Env}:swapsWith (.Tuple es x1 p) (some<|.Name x p') l env=pure false:=rfl
theorem cZ {es:aP aH}{x1}{p:Pos}{t:TA}(h:Dp X es t):jL X (.Tuple es x1 p) (Kd t):=⟨eO h.h⟩
theorem vU {es:aP aH}{p:Pos}{t:TA}(h:Dp X es t):jL X (.List es p) (Yc t):=⟨gJ h.h⟩
theorem cU:Dp X [] tE:=⟨bH⟩
theorem cY {x:Str}{j}{es:aP aH}{p:Pos}{t:TA}(hr:Dp X es t):Dp X (.Constant (.str x) j p::es) (gQ (tC<|.str x) t):=⟨bx bV hr.h Dq⟩
theorem mq {x:Int}{j}{es:aP aH}{p:Pos}{t:TA}(hr:Dp X es t):Dp X (.Constant (.int x) j p::es) (gQ (tC<|.int x) t):=⟨bx bK hr.h Dq⟩
theorem mG {es' es:aP aH}{x1}{p:Pos}{te:TE}{t:TA}(ha:jL X (.Tuple es' x1 p) te)(hr:Dp X es t):Dp X (.Tuple es' x1 p::es) (gQ te t):=⟨bx ha.h hr.h vR⟩
theorem x_b {a b:aH}{o:Operator}{es:aP aH}{p:Pos}{te:TE}{t:TA}(ha:jL X (.BinOp a o b p) te)(hr:Dp X es t):Dp X (.BinOp a o b p::es) (gQ te t):=⟨bx ha.h hr.h Ov⟩
theorem x_n {x:Str}{es:aP aH}{p:Pos}{te:TE}{t:TA}(ha:jL X (.Name x p) te)(hr:Dp X es t):Dp X (.Name x p::es) (gQ te t):=⟨bx ha.h hr.h Ow⟩
theorem x_c {g:aH}{es' es:aP aH}{ks:aP Keyword}{p:Pos}{te:TE}{t:TA}(ha:jL X (.Call g es' ks p) te)(hr:Dp X es t):Dp X (.Call g es' ks p::es) (gQ te t):=⟨bx ha.h hr.h Ox⟩
theorem x_s {a b:aH}{es:aP aH}{p:Pos}{te:TE}{t:TA}(ha:jL X (.Subscript a b p) te)(hr:Dp X es t):Dp X (.Subscript a b p::es) (gQ te t):=⟨bx ha.h hr.h Oz⟩
theorem jF (i:Nat){x:Str}{pos:Pos}(hN:X.N[i]?=some x:=by rfl)(hv:Vis X.env.scope x:=by first|exact Or.inl rfl|exact Or.inr (Or.inl rfl)|exact Or.inr<|Or.inr rfl)(hd:(x==("__debug__":Str))=false:=by decide)
  (xV:(x==("__classdict__":Str))=false:=by decide):jL X (.Name x pos) (jr i):=⟨pv i hN hv hd xV⟩
theorem pF {i:Nat}{x:Str}{e:aH}{te:TE}{nU pos:Pos}(hN:X.N.Nodup)(hi:X.N[i]?=some x)(hx:Loc X.env.scope x)(he:jL X e te)(hs:swapsWith e (some<|.Name x nU) pos.line X.env=pure false:=by rfl)
  (hf:X.fn x=true\/X.env.scope.names.lookup x=some .local:=by first|exact .inl rfl|exact .inr rfl|assumption):BP X (.Assign [.Name x nU] e pos) (zA te<|nq i):=⟨oX hN hi hx he.h hs hf⟩
theorem Dr {e:aH}{te:TE}{pos:Pos}(he:jL X e te):BP X (.Return (some e) pos) (XD te):=⟨cQ he.h⟩
theorem vV {st:aJ}{rest:aP aJ}{t u:TS}(h1:BP X st t)(h2:zV X rest u):zV X (st::rest) (iY t u):=⟨bJ h1.h h2.h⟩
theorem oN {st:aJ}{t:TS}(h1:BP X st t):zV X [st] t:=⟨bO h1.h⟩
theorem qP {b:aJ}{t t':TS}(h:BP X b t)(k:∀D U H,t' D U H->t D U H):BP X b t':=⟨λbG s U H D I q=>h.h bG s U H D I<|k D U H q⟩
theorem Ti {b:aP aJ}{t t':TS}(h:zV X b t)(k:∀D U H,t' D U H->t D U H):zV X b t':=⟨λbG s U H D I q=>h.h bG s U H D I<|k D U H q⟩
theorem aa' {tg dZ:aH}{body:aP aJ}{wi:TI}{g:TG}{tb:TS}{pos:Pos}(hp:PassesOwn (model X.prog X.w) X.A X.env X.xe)(hc:X.calm=true)(hi:PI X tg dZ wi)(hg:PG X tg g)(hb:zV X body tb)
  (hs:∀x,foldedSetIterable dZ X.env x=pure x:=by intro _;rfl):BP X (.For tg dZ body [] pos) (aaM wi g tb):=⟨oY hp hc hi hg hb.h hs⟩
theorem OJ {x:Int}{j}{p:Pos}:jL X (.Constant (.int x) j p) (tC<|.int x):=⟨bK⟩
end
section
variable {κ:Type}[DecidableEq κ]
noncomputable def fV (cD:List (κ×V))(k:κ):Option V:=(cD.find? λkv=>decide<|kv.1=k).map (·.2)
noncomputable def putK (cD:List (κ×V))(k:κ)(v:V):List (κ×V) :=
 if(cD.any λkv=>decide<|kv.1=k)=true then cD.map (λkv=>if kv.1=k then(kv.1,v) else kv) else cD++[(k,v)]
theorem iJ {p:κ×V}{r:aP (κ×V)}{k:κ}(e:p.1=k):fV (p::r) k=some p.2:=by simp[fV,aer,e]
theorem iK {p:κ×V}{r:aP (κ×V)}{k:κ}(e:¬p.1=k):fV (p::r) k=fV r k:=by simp[fV,aer,e]
theorem nG (k:κ):∀cD:List (κ×V),(cD.any λkv=>decide<|kv.1=k)=(fV cD k).isSome
 |[]=>rfl
 |p::r=>by
  rw[afh];by_cases e:p.1=k
  ·simp only[iJ e,af0 e,Bool.true_or,Option.isSome_some]
  ·rw[iK e,afW e,afy];exact nG k r
theorem Ds (k j:κ)(y:V):∀cD:List (κ×V),fV (cD.map λkv=>if kv.1=k then(kv.1,y) else kv) j=(fV cD j).map λx=>if j=k then y else x
 |[]=>rfl
 |p::r=>by
  have ih:=Ds k j y r;rw[aei];by_cases h:p.1=k
  ·rw[afX h]
   by_cases e:p.1=j
   ·rw[iJ (p:=(p.1,y)) e,iJ e,aeD,afX (e.symm.trans h)]
   ·rw[iK (p:=(p.1,y)) e,iK e,ih]
  ·rw[afY h]
   by_cases e:p.1=j
   ·rw[iJ (p:=p) e,iJ e,aeD,afY (λz=>h<|e.trans z)]
   ·rw[iK (p:=p) e,iK e,ih]
theorem yL (k j:κ)(y:V):∀cD:List (κ×V),fV cD k=none->fV (cD++[(k,y)]) j=if j=k then some y else fV cD j
 |[],_=>by
  by_cases e:k=j
  ·rw[afX e.symm];exact iJ (p:=(k,y)) e
  ·rw[afY (λz=>e z.symm)];exact iK (p:=(k,y)) e
 |p::r,hn=>by
  rw[aeH];have hk:¬p.1=k:=λz=>by rw[iJ z]at hn;cases hn
  rw[iK hk]at hn;have ih:=yL k j y r hn;by_cases e:p.1=j
  ·rw[iJ e,iJ e,afY (λz=>hk<|e.trans z)]
  ·rw[iK e,iK e,ih]
theorem rO (cD:List (κ×V))(k j:κ)(y:V):fV (putK cD k y) j=if j=k then some y else fV cD j:=by
 unfold putK;by_cases a:(cD.any λkv=>decide<|kv.1=k)=true
 ·rw[afX a,Ds]
  rw[nG]at a;by_cases e:j=k
  ·obtain⟨x,hx⟩:=Option.isSome_iff_exists.mp a
   rw[afX e,e,hx,aeD,afX rfl]
  ·rw[afY e]
   cases fV cD j with
   |none=>rfl
   |some x=>rw[aeD,afY e]
 ·rw[afY a]
  refine yL k j y cD ?_;rw[nG]at a;cases q:fV cD k with
  |none=>rfl
  |some x=>rw[q]at a;exact(a rfl).elim
theorem pG (cD:aP (κ×V))(k:κ)(v:V):(putK cD k v).length<=cD.length+1:=by
 unfold putK;split
 ·rw[aeb];exact aeI _
 ·rw[adV,aeB,List.length_nil];exact adZ _
theorem O1 {cD:aP (κ×V)}{k:κ}(v:V)(h:fV cD k=none):putK cD k v=cD++[(k,v)]:=by
 unfold putK;rw[nG,h];exact afY (by decide)
theorem nj.Kz {o:Option V}{u:Option ak}(r:nj o u):o.isSome=u.isSome:=by
 cases o with
 |none=>cases u with
  |none=>rfl
  |some _=>exact(show False from r).elim
 |some _=>cases u with
  |none=>exact(show False from r).elim
  |some _=>rfl
theorem KV.val {cD:List (κ×V)}{vs:List (κ×ak)}(r:KV cD vs)(k:κ):nj (fV cD k) (valueAt vs k):=by
 unfold KV at r
 induction r with
 |nil=>exact True.intro
 |@cons p q ps qs h t ih=>
  obtain⟨h1,h2⟩:=h;by_cases e:p.1=k
  ·have e':q.1=k:=h1.symm.trans e
   have b:valueAt (q::qs) k=some q.2:=by simp[valueAt,aer,e']
   rw[iJ e,b];exact h2
  ·have e':¬q.1=k:=λz=>e (h1.trans z)
   have b:valueAt (q::qs) k=valueAt qs k:=by simp[valueAt,aer,e']
   rw[iK e,b];exact ih
theorem KV.any {cD:List (κ×V)}{vs:List (κ×ak)}(r:KV cD vs)(k:κ):(cD.any λkv=>decide<|kv.1=k)=vs.any λkv=>decide (kv.1=k):=by
 unfold KV at r
 induction r with
 |nil=>rfl
 |cons h t ih=>rw[afh,afh,ih,h.1]
theorem KV.repl {cD:List (κ×V)}{vs:List (κ×ak)}(r:KV cD vs)(k:κ){y:V}{u:ak}(ry:RelV y u):
  KV (cD.map λkv=>if kv.1=k then(kv.1,y) else kv) (vs.map λkv=>if kv.1=k then(kv.1,u) else kv):=by
 unfold KV at r ⊢
 induction r with
 |nil=>exact .nil
 |@cons p q ps qs h t ih=>
  rw[aei,aei];refine .cons ?_ ih;obtain⟨h1,h2⟩:=h;by_cases e:p.1=k
  ·rw[afX e,afX (h1.symm.trans e)];exact⟨h1,ry⟩
  ·rw[afY e,afY (λz=>e<|h1.trans z)];exact⟨h1,h2⟩
theorem KV.put {cD:aP (κ×V)}{vs:aP (κ×ak)}(r:KV cD vs)(k:κ){y:V}{u:ak}(ry:RelV y u):KV (putK cD k y) (stored vs k u):=by
 unfold putK stored;rw[r.any k];by_cases e:(vs.any λkv=>decide<|kv.1=k)=true
 ·rw[afX e,afX e];exact r.repl k ry
 ·rw[afY e,afY e];exact Paired.snoc r ⟨rfl,ry⟩
theorem KV.length {cD:aP (κ×V)}{vs:aP (κ×ak)}(r:KV cD vs):cD.length=vs.length:=Paired.length r
end
theorem Ip {P:aA}{w:aG}{k:Key}{u:ak}(r:RelV (kV k) u):(gZ P w).is k u=true:=by
 cases k with
 |inl i=>obtain⟨t,e⟩:=(show ∃t,u=Value.int i t from r);subst e;exact Cg P w i t
 |inr x=>obtain⟨t,e⟩:=(show ∃t,u=Value.str x t from r);subst e;exact Ci P w x t
theorem yM {P:aA}{w:aG}:∀{ks:List Key} {us:List ak},Vals (ks.map kV) us->ItemsAre (gZ P w) ks us
 |[],_,r=>by rw[afI]at r;cases r;exact .nil
 |k::ks,_,r=>by
  rw[aei]at r;cases r with
  |cons h t=>exact .cons (Ip h)<|yM t
abbrev KT (H:Hp):List (List Key×V)->List (List Key×aj×ak)->Prop:=Paired λp q=>p.1=q.1/\H q.2.1=some (.tup<|p.1.map kV)/\RelV p.2 q.2.2
theorem KT.val {H:Hp}{cD:List (List Key×V)}{xs:List (List Key×aj×ak)}(r:KT H cD xs)(k:List Key):nj (fV cD k) ((atKey xs k).map (·.2)):=by
 induction r with
 |nil=>exact True.intro
 |@cons p q ps qs h t ih=>
  obtain⟨h1,_,h2⟩:=h;by_cases e:p.1=k
  ·have e':q.1=k:=h1.symm.trans e
   have b:atKey (q::qs) k=some q.2:=by simp[atKey,aer,e']
   rw[iJ e,b];exact h2
  ·have e':¬q.1=k:=λz=>e (h1.trans z)
   have b:atKey (q::qs) k=atKey qs k:=by simp[atKey,aer,e']
   rw[iK e,b];exact ih
theorem KT.repl {H:Hp}{cD:List (List Key×V)}{xs:List (List Key×aj×ak)}(r:KT H cD xs)(k:List Key){y:V}{u:ak}(ry:RelV y u):
  KT H (cD.map λkv=>if kv.1=k then(kv.1,y) else kv) (xs.map<|putAt k u):=by
 induction r with
 |nil=>exact .nil
 |@cons p q ps qs h t ih=>
  rw[aei,aei];refine .cons ?_ ih;obtain⟨h1,h2,h3⟩:=h;unfold putAt;by_cases e:p.1=k
  ·rw[afX e,afX (h1.symm.trans e)];exact⟨h1,h2,ry⟩
  ·rw[afY e,afY (λz=>e<|h1.trans z)];exact⟨h1,h2,h3⟩
theorem KT.put {H:Hp}{cD:aP (aP Key×V)}{xs:aP (aP Key×aj×ak)}(r:KT H cD xs)(k:aP Key){b:aj}{y:V}{u:ak}(hb:H b=some (.tup<|k.map kV))(ry:RelV y u):
  KT H (putK cD k y) (storedH xs k b u):=by
 have e:(cD.any λkv=>decide<|kv.1=k)=(atKey xs k).isSome:=by
  rw[nG,(r.val k).Kz,Option.isSome_map]
 unfold putK storedH;rw[e];by_cases q:(atKey xs k).isSome=true
 ·rw[afX q,afX q];exact r.repl k ry
 ·rw[afY q,afY q];exact Paired.snoc r ⟨rfl,hb,ry⟩
theorem KT.keeps {H H':Hp}{cD:aP (aP Key×V)}{xs:aP (aP Key×aj×ak)}(r:KT H cD xs)(ht:∀b ys,H b=some (.tup ys)->H' b=some (.tup ys)):KT H' cD xs :=
 Paired.aaB r λ_ _ z=>⟨z.1,ht _ _ z.2.1,z.2.2⟩
section
variable {P:aA}{w:aG}{H:Hp}{h:aK}{a:aj}
theorem W5 {u:HO}(ok:mK P w H h)(e:Rd H a u):fO P w H h a u:=e.ok ok
theorem Ir {cD:aP (Key×V)}(ok:mK P w H h)(e:Rd H a (.dK cD)):cD.length<=sizeLine/\(a==sysModules)=false/\∃vs,KV cD vs/\h.DictOf (gZ P w) a vs :=
 show fO P w H h a (.dK cD) from W5 ok e
theorem W6 {cD:aP (Key×V)}(ok:mK P w H h)(e:H a=some (.dK cD)):cD.length<=sizeLine/\(a==sysModules)=false/\∃vs,KV cD vs/\h.DictOf (gZ P w) a vs:=Ir ok (.inl e)
theorem Gx {ks:aP Key}(ok:mK P w H h)(e:H a=some (.tup<|ks.map kV)):(tupleKind<|gZ P w).is h ks a:=by
 obtain⟨_,bh,r,o,h1,h2,n,h3⟩:=(show fO P w H h a (.tup<|ks.map kV) from ok a _ e);exact⟨o,bh.toArray,n,h1,h2,h3,by simpa using yM r⟩
theorem O2 {cD:List (List Key×V)}(ok:mK P w H h)(e:Rd H a (.dT cD)):cD.length<=sizeLine/\(a==sysModules)=false/\
  ∃xs,KT H cD xs/\h.DictOfH (tupleKind<|gZ P w) a xs:=by
 obtain⟨z,y,xs,r,o,es,ep,h1,h2,h3,h4,h5⟩:=(show fO P w H h a (.dT cD) from W5 ok e);refine⟨z,y,xs,r,o,es,ep,h1,h2,h3,h4,λx hx=>?_,h5⟩;have all:∀{l:List (List Key×V)} {m:List (List Key×aj×ak)},KT H l m->∀x∈m,(tupleKind<|gZ P w).is h x.1 x.2.1:=by
  intro l m q
  induction q with
  |nil=>intro x hx;exact nomatch hx
  |@cons p q ps qs hq t ih=>
   intro x hx;rcases aev.mp hx with e|hx
   ·subst e
    exact Gx ok (by rw[<-hq.1];exact hq.2.1)
   ·exact ih x hx
 exact all r x hx
theorem abb {cD:aP (aP Key×V)}(ok:mK P w H h)(e:H a=some (.dT cD)):cD.length<=sizeLine/\(a==sysModules)=false/\
  ∃xs,KT H cD xs/\h.DictOfH (tupleKind<|gZ P w) a xs:=O2 ok (.inl e)
end
def Yt (H:Hp)(a:aj)(y:V)(r:Option V):Prop :=
 (∃cD k,Rd H a (.dK cD)/\y=kV k/\r=fV cD k)\/∃cD k b,Rd H a (.dT cD)/\y=.ref b/\H b=some (.tup<|k.map kV)/\r=fV cD k
def Dt (H:Hp)(a:aj)(y v:V)(H':Hp):Prop :=
 (∃cD k,H a=some (.dK cD)/\y=kV k/\cD.length<sizeLine/\H'=upd H a (.dK<|putK cD k v))\/
 ∃cD k b,H a=some (.dT cD)/\y=.ref b/\H b=some (.tup<|k.map kV)/\cD.length<sizeLine/\H'=upd H a (.dT<|putK cD k v)
theorem Dt.k {H:Hp}{a:aj}{cD:aP (Key×V)}{k:Key}{v:V}(e:H a=some (.dK cD))(hl:cD.length<sizeLine):Dt H a (kV k) v (upd H a<|.dK (putK cD k v)):=.inl ⟨cD,k,e,rfl,hl,rfl⟩
section
variable {X:Cx}{bG:List (aj×Obj)}{U:St}{H:Hp}{s:ao}{a:aj}{y v:V}{u r:ak}{o:Option V}{A:aq}{E:ak->ao->Prop}
theorem Inv.big (I:Inv X bG U H s):sysModules<s.heap.objs.size:=by
 have h:mainGlobals<s.heap.objs.size:=(I.mod.glob.keeps I.bk).lt;exact afJ (by decide) h
theorem KC {Q:ak->ao->Prop}(hu:A.units+1<cLine)(I:Inv X bG U H s)(g:Yt H a y (some v))(ry:RelV y u)(h:∀w' s',Inv X bG U H s'->RelV v w'->Q w' s'):
  wpAny (model X.prog X.w) A (getItem (.ref a) u) Q E s:=by
 rcases g with ⟨cD,k,e,ey,l⟩|⟨cD,k,b,e,ey,eb,l⟩
 ·subst ey
  obtain⟨z,hd,vs,rel,dd⟩:=Ir I.hok e;obtain⟨w',hw,N6⟩:=nj.some_of (v:=v) (o:=valueAt vs k) (by rw[l];exact rel.val k);exact wpAny_getItem_of (Ip ry) dd.mapOf hw<|h w' _ (I.tok _) N6
 ·subst ey
  cases(show u=Value.ref b from ry);obtain⟨z,hd,xs,rel,dd⟩:=O2 I.hok e;obtain⟨w',hw,N6⟩:=nj.some_of (v:=v) (o:=(atKey xs k).map (·.2)) (by rw[l];exact rel.val k);obtain⟨p,hp,hp2⟩:=Option.map_eq_some_iff.mp hw;refine wpAny_getItem_heap (tupleKind_room_in1 hu) (Gx I.hok eb) dd hp ?_;rw[hp2];exact h w' _ (I.tok _) N6
theorem zW {h':aK}{t':Nat}{ob:HO}(I:Inv X bG U H s)(mu:Mut (H a))(hs:Heap.SameBut a s.heap h')(he:∃q,h'.get? a=some q)(new:fO X.prog X.w (upd H a ob) h' a ob):
  Inv X bG U (upd H a ob) {s with heap:=h',toks:=t'} :=
 I.write (x:=a) (e:=a) mu (.inl rfl) (λb q hb z=>(hs.2 b hb).trans z) he new
theorem Gy {P:aA}{w:aG}{H':Hp}{h':aK}{cD:aP (Key×V)}{vs:aP (Key×ak)}(z:cD.length<=sizeLine)(hd:(a==sysModules)=false)(rel:KV cD vs)(dd:h'.DictOf (gZ P w) a vs):
  fO P w H' h' a (.dK cD):=⟨z,hd,vs,rel,dd⟩
theorem KD {H':Hp}{Q:Unit->ao->Prop}(hu:A.units+1<cLine)(I:Inv X bG U H s)(g:Dt H a y v H')(ry:RelV y u)(rv:RelV v r)(h:∀s',Inv X bG U H' s'->Q () s'):
  wpAny (model X.prog X.w) A (setItem (.ref a) u r) Q E s:=by
 rcases g with ⟨cD,k,e,ey,l,eH⟩|⟨cD,k,b,e,ey,eb,l,eH⟩
 ·subst ey eH
  obtain⟨z,hd,vs,rel,dd⟩:=W6 I.hok e;have hz:vs.length<=sizeLine:=by rw[<-rel.length];exact z
  have hl:(putK cD k v).length<=sizeLine:=by have:=pG cD k v;exact ad2 this l
  refine wpAny_setItem_pairs (hsz:=hz) (Ip ry) dd λh' Dh hs=>h _ ?_;have he:∃q,h'.get? a=some q:=let ⟨q,_,_,hq,_⟩:=Dh;⟨q,hq⟩;exact zW I (by rw[e];exact True.intro) hs he<|Gy hl hd (rel.put k rv) Dh
 ·subst ey eH
  cases(show u=Value.ref b from ry);obtain⟨z,hd,xs,rel,dd⟩:=abb I.hok e;have hz:xs.length<=sizeLine:=by rw[<-Paired.length rel];exact z
  have hl:(putK cD k v).length<=sizeLine:=by have:=pG cD k v;exact ad2 this l
  refine wpAny_setItem_heap (hsz:=hz) (tupleKind_room_in1 hu) (Gx I.hok eb) dd λh' Dh hs=>h _ ?_;obtain⟨q,es,ep,hq,h2,h3,h4,_,h5⟩:=Dh;refine zW I (by rw[e];exact True.intro) hs ⟨q,hq⟩ ⟨hl,hd,_,(rel.put k eb rv).keeps λc ys ec=>?_,q,es,ep,hq,h2,h3,h4,h5⟩;rw[bR (jg ec e λz=>nomatch z)];exact ec
end
section
variable {X:Cx}{bG:List (aj×Obj)}{U:St}{H:Hp}{s:ao}{a:aj}{cD:List (Key×V)}{k:Key}{u:ak}{A:aq}{E:ak->ao->Prop}
end
def abd (i:aH):Prop:=∀ov iv,subscripted i false ov iv=operate [ov,iv] (getItem ov iv)
theorem Tj {prog:aA}{w:aG}{A:aq}{E:ak->ao->Prop}{s:ao}{env:Env}{value slice:aH}{pos:Pos}{T id:String}{Q:ak->ao->Prop}
  (hl:typeLookup (.type T) "__getitem__"=pure (some<|.builtin id)) (hs:abd slice)
  (h:wpAny (model prog w) A (eval value env) (λo eE=>wpAny (model prog w) A (eval slice env) (λi s₂=>s₂.TypeIs o T/\wpAny (model prog w) A (getItem o i) Q E s₂) E eE) E s):
  wpAny (model prog w) A (eval (.Subscript value slice pos) env) Q E s:=by
 refine Subscript_<|wpAny_mono h (λo eE tK=>wpAny_mono tK (λi s₂ h₂=>?_) λ_ _ x=>x) λ_ _ x=>x;obtain⟨hT,h₂⟩:=h₂;unfold subscriptTail;refine abI ?_;rw[getitemInPython_of_ne hT.not_modules];refine abI<|wpAny_specialOf hT hl ?_;have fin:wpAny (model prog w) A (subscripted slice false o i) (λr s₃=>wpAny (model prog w) A (letTemporaryGo value o r>>=λ_=>pure r) Q E s₃) E s₂:=by
  rw[hs o i];exact wpAny_operating<|wpAny_mono h₂ (λr s₃ h₃=>abI<|wpAny_letTemporaryGo (afV h₃)) λ_ _ x=>x
 first
  |exact afV<|abI fin
  |exact abI<|afV (abI fin)
  |exact abI fin
theorem Du {X:Cx}{bG:aP (aj×Obj)}{U:St}{H:Hp}{s:ao}{a:aj}{y:V}{o:aO V}(I:Inv X bG U H s)(g:Yt H a y o):s.TypeIs (.ref a) "dict":=by
 rcases g with ⟨cD,k,e,_,_⟩|⟨cD,k,b,e,_,_,_⟩
 ·obtain⟨_,_,vs,_,dd⟩:=Ir I.hok e
  exact dd.typeIs
 ·obtain⟨_,_,xs,_,dd⟩:=O2 I.hok e
  exact dd.typeIs
inductive O4 (Q:VK)(x:V)(y:V)(H2:Hp):Prop where
 |mk (a) (v):(x=.ref a)->(Yt H2 a y<|some v)->(Q v H2)->O4 Q x y H2
def W7 (td ty:TE):TE:=λU H Q=>td U H λx H1=>ty U H1 (O4 Q x)
inductive O5 (D:Ends)(U:St)(v:V)(x:V)(y:V)(H3:Hp):Prop where
 |mk (a) (H4):(x=.ref a)->(Dt H3 a y v H4)->(D.nx U H4)->O5 D U v x y H3
def abe (td ty tv:TE):TS:=λD U H=>tv U H λv H1=>td U H1 λx H2=>ty U H2 (O5 D U v x)
section
variable {X:Cx}{o i e value:aH}{pos nU tpos:Pos}{td ty tv:TE}
theorem cO (hu:X.A.units+1<cLine)(ho:PE X o td)(hi:PE X i ty)(hs:abd i:=by intro _ _;rfl):PE X (.Subscript o i pos) (W7 td ty):=by
 intro bG s U H Q I h;refine Tj PySem.F.slot_dict_getitem.lookup hs<|gk (ho bG s U H _ I h) λu s1 ⟨x,H1,I1,rx,q1⟩=>gk (hi bG s1 U H1 _ I1 q1) λiv s2 ⟨y,H2,I2,ry,a,v,ex,g,q2⟩=>?_;subst ex;obtain rfl:u=Value.ref a:=rx;exact⟨Du I2 g,KC hu I2 g ry λw' s3 I3 N6=>⟨v,H2,I3,N6,q2⟩⟩
theorem uU (hu:X.A.units+1<cLine)(ho:PE X o td)(hi:PE X i ty)(hv:PE X value tv)(hs:swapsWith value (some<|.Subscript o i nU) pos.line X.env=pure false):
  PS X (.Assign [.Subscript o i nU] value pos) (abe td ty tv):=by
 intro bG s U H D I h;refine wpAny_Assign_Subscript (gk (hv bG s U H _ I h) λr s1 ⟨v,H1,I1,rv,q1⟩=>gk (ho bG s1 U H1 _ I1 q1) λu s2 ⟨x,H2,I2,rx,q2⟩=>gk (hi bG s2 U H2 _ I2 q2) λiv s3 ⟨y,H3,I3,ry,a,H4,ex,g,q3⟩=>?_) hs;subst ex;obtain rfl:u=Value.ref a:=rx;exact KD hu I3 g ry rv λs4 I4=>⟨U,H4,I4,q3⟩
end
theorem Dv {P:aA}{w:aG}{H:Hp}(h:aK)(hb:sysModules<h.objs.size):fO P w H (h.push {cls:=.type "dict",data:=.dict #[]}) h.objs.size (.dK []) :=
 ⟨aeG _,beq_eq_false_iff_ne.mpr<|af2 (aen hb),[], .nil,Heap.DictOf.new h⟩
def Yu:TE:=λ_ H Q=>∀p,H p=none->Q (.ref p) (upd H p<|.dK [])
section
variable {X:Cx}{pos:Pos}
theorem O6:PE X (.Dict [] [] pos) Yu:=λbG s U H Q I h=>
 wpAny_Dict_empty ⟨.ref s.heap.objs.size,_,I.laid (a:=s.heap.objs.size) (o:=.dK []) (t':=s.toks) (λ_ _ q=>adY _ q) (adZ _)<|Dv s.heap I.big,rfl,h _<|I.hok.fresh (adZ _)⟩
end
def Gz:List (TE×TE)->St->Hp->(List (V×V)->Hp->Prop)->Prop
 |[],_,H,Q=>Q [] H
 |(tk,tv)::r,U,H,Q=>tk U H λx H1=>tv U H1 λy H2=>Gz r U H2 λps H3=>Q ((x,y)::ps) H3
abbrev VV:List (V×V)->List (ak×ak)->Prop:=Paired λp q=>RelV p.1 q.1/\RelV p.2 q.2
def PPs (X:Cx)(pos:Pos)(keys:List (Option aH))(values:List aH)(Dw:List (TE×TE)):Prop :=
 ∀(bG:List (aj×Obj)) (s:ao) (U:St) (H:Hp) (Q:List (V×V)->Hp->Prop),Inv X bG U H s->Gz Dw U H Q->
  wpAny (model X.prog X.w) X.A (evalPairs<|pairTrees keys values X.env pos) (λvs s'=>∃ps H',Inv X bG U H' s'/\VV ps vs/\Q ps H') X.xe s
theorem Iu {X:Cx}{pos:Pos}:PPs X pos [] [] []:=λbG s U H Q I h=>pairTrees_nil_walk ⟨[],H,I, .nil,h⟩
theorem pH {X:Cx}{pos:Pos}{k v:aH}{ks:aP (aO aH)}{vs:aP aH}{tk tv:TE}{Dw:aP (TE×TE)}(hk:PE X k tk)(hv:PE X v tv)(hr:PPs X pos ks vs Dw):
  PPs X pos (some k::ks) (v::vs) ((tk,tv)::Dw):=λbG s U H Q I h=>
 pairTrees_cons_walk (gk (hk bG s U H _ I h) λu s1 ⟨x,H1,I1,rx,q1⟩=>gk (hv bG s1 U H1 _ I1 q1) λw2 s2 ⟨y,H2,I2,ry,q2⟩=>
  gk (hr bG s2 U H2 _ I2 q2) λws s3 ⟨ps,H3,I3,rel,q3⟩=>⟨(x,y)::ps,H3,I3, .cons ⟨rx,ry⟩ rel,q3⟩)
noncomputable def jG (cD more:List (Key×V)):List (Key×V):=more.foldl (λjP kv=>putK jP kv.1 kv.2) cD
theorem KV.merge:∀{more:List (Key×V)} {rs:List (Key×ak)} {cD:List (Key×V)} {vs:List (Key×ak)},KV more rs->KV cD vs->KV (jG cD more) (merged vs rs):=by
 intro more rs cD vs r;unfold KV at r
 induction r generalizing cD vs with
 |nil=>intro q;exact q
 |@cons p q ps qs h t ih=>
  intro r0;have e:KV (putK cD p.1 p.2) (stored vs q.1 q.2):=by
   have:=r0.put p.1 h.2;rw[<-h.1];exact this
  exact ih e
theorem qF:∀(more cD:List (Key×V)),(jG cD more).length<=cD.length+more.length
 |[],cD=>by show cD.length<=cD.length+0;exact adZ _
 |p::r,cD=>by
  have h1:=qF r (putK cD p.1 p.2);have h2:=pG cD p.1 p.2;show(jG (putK cD p.1 p.2) r).length<=_;rw[aeB];omega
theorem GJ {P:aA}{w:aG}{cD:List (Key×V)}{ws:List (ak×ak)}(r:VV (cD.map λkv=>(kV kv.1,kv.2)) ws):∃rs,Carries (gZ P w) ws rs/\KV cD rs:=by
 induction cD generalizing ws with
 |nil=>rw[afI]at r;cases r;exact⟨[],True.intro, .nil⟩
 |cons p cD ih=>
  rw[aei]at r;cases r with
  |@cons a b as bs h t=>
   obtain⟨rs,c,q⟩:=ih t;obtain⟨b1,b2⟩:=b;exact⟨(p.1,b2)::rs,⟨Ip h.1,rfl,c⟩, .cons ⟨rfl,h.2⟩ q⟩
def W8 (Dw:List (TE×TE)):TE:=λU H Q=>∀p,H p=none->Gz Dw U (upd H p<|.dK []) λps H2=>H2 p=some (.dK [])/\∃cD:List (Key×V),ps=cD.map (λkv=>(kV kv.1,kv.2))/\cD.length<=15/\Q (.ref p) (upd H2 p<|.dK (jG [] cD))
theorem Iv {X:Cx}{pos:Pos}{keys:aP (aO aH)}{values:aP aH}{Dw:aP (TE×TE)}(h:PPs X pos keys values Dw)(hall:keys.all (·.isSome)=true)(hl:keys.length=values.length)(h0:keys≠[])
  (h15:keys.length<=15):PE X (.Dict keys values pos) (W8 Dw):=by
 intro bG s U H Q I q;have hn:=I.hok.fresh (adZ s.heap.objs.size);have I1:=I.laid (a:=s.heap.objs.size) (o:=.dK []) (h':=s.heap.push {cls:=.type "dict",data:=.dict #[]}) (t':=s.toks) (λ_ _ q=>adY _ q) (adZ _) (Dv s.heap I.big);refine wpAny_Dict_walk (knd:=gZ X.prog X.w) hall hl h0 h15<|gk (h bG _ U _ _ I1<|q _ hn) λws s2 ⟨ps,H2,I2,rel,e,cD,ep,lk,q2⟩=>?_;subst ep;obtain⟨rs,c,rk⟩:=GJ (P:=X.prog) (w:=X.w) rel;obtain⟨z,hd,vs0,r0,dd⟩:=W6 I2.hok e;cases r0;refine⟨rs,c,dd,λh' Dh hs=>⟨.ref s.heap.objs.size,_,?_,rfl,q2⟩⟩;have hz:(jG [] cD).length<=sizeLine:=by
  have h1:=qF cD [];rw[List.length_nil]at h1;rw[sizeLine_eq];omega
 have he:∃q,h'.get? s.heap.objs.size=some q:=let ⟨q,_,_,hq,_⟩:=Dh;⟨q,hq⟩;exact zW I2 (by rw[e];exact True.intro) hs he<|Gy hz hd (rk.merge .nil) Dh
structure M1 (X:Cx)(o:aH)(m:Str)(lJ:Pos)(e:aH)(gK:Pos):Prop where
 base:attributeBase o m X.env (eval o X.env)=eval o X.env
 few:((backTo gK<|starEach [e] X.env).all (λx=>!x.1)&&(backToKw gK<|keywordEach [] X.env).all (λx=>x.1.isSome)
  &&decide (([e]:List aH).length+([]:List Keyword).length+(if([]:List Keyword).isEmpty then 0 else 1)<30))=true
 line:(lJ.endLine==gK.line)=true
 trees:backTo gK (starEach [e] X.env)=[(false,eval e X.env)]
structure M2 (X:Cx)(o:aH)(m:Str)(lJ:Pos)(e f:aH)(gK:Pos):Prop where
 base:attributeBase o m X.env (eval o X.env)=eval o X.env
 few:((backTo gK<|starEach [e,f] X.env).all (λx=>!x.1)&&(backToKw gK<|keywordEach [] X.env).all (λx=>x.1.isSome)
  &&decide (([e,f]:List aH).length+([]:List Keyword).length+(if([]:List Keyword).isEmpty then 0 else 1)<30))=true
 line:(lJ.endLine==gK.line)=true
 trees:backTo gK (starEach [e,f] X.env)=[(false,eval e X.env),(false,eval f X.env)]
section
variable {X:Cx}{bG:List (aj×Obj)}{U:St}{H:Hp}{s:ao}{a:aj}{y d:V}{u r:ak}{o:Option V}{A:aq}{E:ak->ao->Prop}
end
section
variable {X:Cx}{o e f:aH}{lJ gK:Pos}{td ty tx:TE}
end
section
variable {X:Cx}{bG:List (aj×Obj)}{U:St}{H:Hp}{s:ao}{a:aj}{cD:List (Key×V)}{A:aq}{E:ak->ao->Prop}
theorem O7 {Q:ak->ao->Prop}(I:Inv X bG U H s)(e:Rd H a (.dK cD))(h:∀p s',H p=none->Inv X bG U (upd H p<|.dK cD) s'->Q (.ref p) s'):wpAny (model X.prog X.w) A (call (.type "dict") [.ref a]) Q E s:=by
 obtain⟨z,hd,vs,rel,dd⟩:=Ir I.hok e;refine kt_call_dict hd dd (by rw[<-rel.length];exact z) λh' Dh hs=>?_;refine h _ _ (I.hok.fresh<|adZ _)<|I.laid (a:=s.heap.objs.size) (o:=.dK cD) (t':=s.toks) (λb q hq=>?_) (adZ _) (Gy z (beq_eq_false_iff_ne.mpr<|af2 (aen I.big)) rel Dh);exact(hs.2 b<|aen (ad1 hq)).trans<|adY _ hq
end
section
variable {X:Cx}{bG:List (aj×Obj)}{U:St}{H:Hp}{s:ao}{a:aj}{y:V}{u:ak}{A:aq}{E:ak->ao->Prop}
end
section
variable {X:Cx}
end
section
variable {κ:Type}[DecidableEq κ]
theorem oA:∀{l:List κ} {k:κ},l.Nodup->¬k∈l->(l++[k]).Nodup
 |[],k,_,_=>by simp
 |a::r,k,h,hk=>by
  obtain⟨h1,h2⟩:=afu.mp h;show(a::(r++[k])).Nodup;refine afu.mpr ⟨λm=>?_,oA h2 λm=>hk<|aev.mpr (Or.inr m)⟩;rcases aeu.mp m with q|q
  ·exact h1 q
  ·exact hk<|aev.mpr (Or.inl (aec.mp q).symm)
end
section
variable {X:Cx}
structure Tn (X:Cx)(pos:Pos)(keys:List (Option aH))(values:List aH)(Dw:List (TE×TE)):Prop where
 h:PPs X pos keys values Dw
theorem O8 {pos:Pos}:Tn X pos [] [] []:=⟨Iu⟩
theorem rP {pos p:Pos}{z:Str}{j}{v:aH}{ks:aP (aO aH)}{vs:aP aH}{tv:TE}{Dw:aP (TE×TE)}(hv:jL X v tv)(hr:Tn X pos ks vs Dw):Tn X pos (some (.Constant (.str z) j p)::ks) (v::vs) ((tC<|.str z,tv)::Dw):=⟨pH bV hv.h hr.h⟩
theorem O9 {pos:Pos}{keys:aP (aO aH)}{values:aP aH}{Dw:aP (TE×TE)}(h:Tn X pos keys values Dw)(hall:keys.all (·.isSome)=true)(hl:keys.length=values.length)(h0:keys≠[])(h15:keys.length<=15):jL X (.Dict keys values pos) (W8 Dw):=⟨Iv h.h hall hl h0 h15⟩
theorem GK {ks:aP (aO aH)}{vs:aP aH}{x:Str}{p p':Pos}{l}{env:Env}:swapsWith (.Dict ks vs p) (some<|.Name x p') l env=pure false:=rfl
theorem Pj {a b:aH}{op:Operator}{pos:Pos}{ta tb:TE}{r:R2}(ho:ud X (binaryOp op) r)(ha:jL X a ta)(hb:jL X b tb):jL X (.BinOp a op b pos) (Fv r ta tb):=⟨dN ho ha.h hb.h⟩
theorem KH {a b:aH}{op:Operator}{x:Str}{p p':Pos}{l}{env:Env}:swapsWith (.BinOp a op b p) (some<|.Name x p') l env=pure false:=rfl
theorem KJ {es:aP aH}{x:Str}{p p':Pos}{l}{env:Env}:swapsWith (.List es p) (some<|.Name x p') l env=pure false:=rfl
theorem Yv {a b:aH}{pos:Pos}{ta tb:TE}{r:R2}(hr:Yh X r)(ha:jL X a ta)(hb:jL X b tb)(hs:zJ b):jL X (.Subscript a b pos) (Fv r ta tb):=⟨bY hr ha.h hb.h hs⟩
end
section
variable {K:aN}{i:Nat}{w z:Str}{t u e:TS}{D:Ends}{U:St}{H:Hp}{a:aj}{xs:List V}
abbrev iB (K:aN)(i:Nat)(w:Str):TT:=HW (Fv rEq (Fv (SQ K) (jr i)<|tC (.int 0))<|tC (.str w))
theorem cR (h0:U[i]?=some (some<|.ref a))(ha:H a=some (.tup (.str z::xs)))(ne:z≠w)(q:e D U H):dh (iB K i w) t e D U H :=
 ⟨_,h0,a,_,0,_,rfl,rfl,iW.of ha,cI (j:=0) rfl,rfl,_,rfl,gU (λc=>absurd (V.str.inj<|afZ c) ne) λ_=>q⟩
theorem mU (h0:U[i]?=some (some<|.ref a))(ha:H a=some (.tup (.str w::xs)))(q:t D U H):dh (iB K i w) t e D U H :=
 ⟨_,h0,a,_,0,_,rfl,rfl,iW.of ha,cI (j:=0) rfl,rfl,_,rfl,gU (λ_=>q) λc=>absurd (af0 rfl) c⟩
theorem dR (h0:U[i]?=some (some<|.ref a))(ha:H a=some (.tup (.str z::xs)))(ne:z≠w)(q:u D U H):iY (dh (iB K i w) t fH) u D U H:=cR (e:=fH) h0 ha ne q
theorem lC (h0:U[i]?=some (some<|.ref a))(ha:H a=some (.tup (.str w::xs)))(q:∀nx,t ⟨nx,D.rt,D.bk,D.ct⟩ U H):iY (dh (iB K i w) t fH) u D U H:=mU (e:=fH) h0 ha (q<|u D)
theorem tn2 {w1 w2:Str}{t1 t2:TS}(h0:U[i]?=some (some<|.ref a))(ha:H a=some (.tup (.str z::xs)))(n1:z≠w1)(n2:z≠w2)(q:u D U H):(iY (dh (iB K i w1) t1 fH)<|iY (dh (iB K i w2) t2 fH) u) D U H:=dR h0 ha n1 (dR h0 ha n2 q)
theorem te2 {w1 w2:Str}{t1 t2:TS}(h0:U[i]?=some (some<|.ref a))(ha:H a=some (.tup (.str z::xs)))(n1:z≠w1)(n2:z≠w2)(q:e D U H):(dh (iB K i w1) t1<|dh (iB K i w2) t2 e) D U H:=cR h0 ha n1 (cR h0 ha n2 q)
theorem tn3 {w1 w2 w3:Str}{t1 t2 t3:TS}(h0:U[i]?=some (some<|.ref a))(ha:H a=some (.tup (.str z::xs)))(n1:z≠w1)(n2:z≠w2)(n3:z≠w3)(q:u D U H):(iY (dh (iB K i w1) t1 fH)<|iY (dh (iB K i w2) t2 fH) (iY (dh (iB K i w3) t3 fH) u)) D U H:=dR h0 ha n1 (dR h0 ha n2<|dR h0 ha n3 q)
theorem te3 {w1 w2 w3:Str}{t1 t2 t3:TS}(h0:U[i]?=some (some<|.ref a))(ha:H a=some (.tup (.str z::xs)))(n1:z≠w1)(n2:z≠w2)(n3:z≠w3)(q:e D U H):(dh (iB K i w1) t1<|dh (iB K i w2) t2 (dh (iB K i w3) t3 e)) D U H:=cR h0 ha n1 (cR h0 ha n2<|cR h0 ha n3 q)
theorem tn4 {w1 w2 w3 w4:Str}{t1 t2 t3 t4:TS}(h0:U[i]?=some (some<|.ref a))(ha:H a=some (.tup (.str z::xs)))(n1:z≠w1)(n2:z≠w2)(n3:z≠w3)(n4:z≠w4)(q:u D U H):(iY (dh (iB K i w1) t1 fH)<|iY (dh (iB K i w2) t2 fH) (iY (dh (iB K i w3) t3 fH)<|iY (dh (iB K i w4) t4 fH) u)) D U H:=dR h0 ha n1 (dR h0 ha n2<|dR h0 ha n3 (dR h0 ha n4 q))
theorem te4 {w1 w2 w3 w4:Str}{t1 t2 t3 t4:TS}(h0:U[i]?=some (some<|.ref a))(ha:H a=some (.tup (.str z::xs)))(n1:z≠w1)(n2:z≠w2)(n3:z≠w3)(n4:z≠w4)(q:e D U H):(dh (iB K i w1) t1<|dh (iB K i w2) t2 (dh (iB K i w3) t3<|dh (iB K i w4) t4 e)) D U H:=cR h0 ha n1 (cR h0 ha n2<|cR h0 ha n3 (cR h0 ha n4 q))
theorem tn5 {w1 w2 w3 w4 w5:Str}{t1 t2 t3 t4 t5:TS}(h0:U[i]?=some (some<|.ref a))(ha:H a=some (.tup (.str z::xs)))(n1:z≠w1)(n2:z≠w2)(n3:z≠w3)(n4:z≠w4)(n5:z≠w5)(q:u D U H):(iY (dh (iB K i w1) t1 fH)<|iY (dh (iB K i w2) t2 fH) (iY (dh (iB K i w3) t3 fH)<|iY (dh (iB K i w4) t4 fH) (iY (dh (iB K i w5) t5 fH) u))) D U H:=dR h0 ha n1 (dR h0 ha n2<|dR h0 ha n3 (dR h0 ha n4<|dR h0 ha n5 q))
theorem te5 {w1 w2 w3 w4 w5:Str}{t1 t2 t3 t4 t5:TS}(h0:U[i]?=some (some<|.ref a))(ha:H a=some (.tup (.str z::xs)))(n1:z≠w1)(n2:z≠w2)(n3:z≠w3)(n4:z≠w4)(n5:z≠w5)(q:e D U H):(dh (iB K i w1) t1<|dh (iB K i w2) t2 (dh (iB K i w3) t3<|dh (iB K i w4) t4 (dh (iB K i w5) t5 e))) D U H:=cR h0 ha n1 (cR h0 ha n2<|cR h0 ha n3 (cR h0 ha n4<|cR h0 ha n5 q))
theorem tn6 {w1 w2 w3 w4 w5 w6:Str}{t1 t2 t3 t4 t5 t6:TS}(h0:U[i]?=some (some<|.ref a))(ha:H a=some (.tup (.str z::xs)))(n1:z≠w1)(n2:z≠w2)(n3:z≠w3)(n4:z≠w4)(n5:z≠w5)(n6:z≠w6)(q:u D U H):(iY (dh (iB K i w1) t1 fH)<|iY (dh (iB K i w2) t2 fH) (iY (dh (iB K i w3) t3 fH)<|iY (dh (iB K i w4) t4 fH) (iY (dh (iB K i w5) t5 fH)<|iY (dh (iB K i w6) t6 fH) u))) D U H:=dR h0 ha n1 (dR h0 ha n2<|dR h0 ha n3 (dR h0 ha n4<|dR h0 ha n5 (dR h0 ha n6 q)))
theorem te6 {w1 w2 w3 w4 w5 w6:Str}{t1 t2 t3 t4 t5 t6:TS}(h0:U[i]?=some (some<|.ref a))(ha:H a=some (.tup (.str z::xs)))(n1:z≠w1)(n2:z≠w2)(n3:z≠w3)(n4:z≠w4)(n5:z≠w5)(n6:z≠w6)(q:e D U H):(dh (iB K i w1) t1<|dh (iB K i w2) t2 (dh (iB K i w3) t3<|dh (iB K i w4) t4 (dh (iB K i w5) t5<|dh (iB K i w6) t6 e))) D U H:=cR h0 ha n1 (cR h0 ha n2<|cR h0 ha n3 (cR h0 ha n4<|cR h0 ha n5 (cR h0 ha n6 q)))
theorem tn7 {w1 w2 w3 w4 w5 w6 w7:Str}{t1 t2 t3 t4 t5 t6 t7:TS}(h0:U[i]?=some (some<|.ref a))(ha:H a=some (.tup (.str z::xs)))(n1:z≠w1)(n2:z≠w2)(n3:z≠w3)(n4:z≠w4)(n5:z≠w5)(n6:z≠w6)(n7:z≠w7)(q:u D U H):(iY (dh (iB K i w1) t1 fH)<|iY (dh (iB K i w2) t2 fH) (iY (dh (iB K i w3) t3 fH)<|iY (dh (iB K i w4) t4 fH) (iY (dh (iB K i w5) t5 fH)<|iY (dh (iB K i w6) t6 fH) (iY (dh (iB K i w7) t7 fH) u)))) D U H:=dR h0 ha n1 (dR h0 ha n2<|dR h0 ha n3 (dR h0 ha n4<|dR h0 ha n5 (dR h0 ha n6<|dR h0 ha n7 q)))
theorem te7 {w1 w2 w3 w4 w5 w6 w7:Str}{t1 t2 t3 t4 t5 t6 t7:TS}(h0:U[i]?=some (some<|.ref a))(ha:H a=some (.tup (.str z::xs)))(n1:z≠w1)(n2:z≠w2)(n3:z≠w3)(n4:z≠w4)(n5:z≠w5)(n6:z≠w6)(n7:z≠w7)(q:e D U H):(dh (iB K i w1) t1<|dh (iB K i w2) t2 (dh (iB K i w3) t3<|dh (iB K i w4) t4 (dh (iB K i w5) t5<|dh (iB K i w6) t6 (dh (iB K i w7) t7 e)))) D U H:=cR h0 ha n1 (cR h0 ha n2<|cR h0 ha n3 (cR h0 ha n4<|cR h0 ha n5 (cR h0 ha n6<|cR h0 ha n7 q)))
theorem te8 {w1 w2 w3 w4 w5 w6 w7 w8:Str}{t1 t2 t3 t4 t5 t6 t7 t8:TS}(h0:U[i]?=some (some<|.ref a))(ha:H a=some (.tup (.str z::xs)))(n1:z≠w1)(n2:z≠w2)(n3:z≠w3)(n4:z≠w4)(n5:z≠w5)(n6:z≠w6)(n7:z≠w7)(n8:z≠w8)(q:e D U H):(dh (iB K i w1) t1<|dh (iB K i w2) t2 (dh (iB K i w3) t3<|dh (iB K i w4) t4 (dh (iB K i w5) t5<|dh (iB K i w6) t6 (dh (iB K i w7) t7<|dh (iB K i w8) t8 e)))) D U H:=cR h0 ha n1 (cR h0 ha n2<|cR h0 ha n3 (cR h0 ha n4<|cR h0 ha n5 (cR h0 ha n6<|cR h0 ha n7 (cR h0 ha n8 q))))
theorem te9 {w1 w2 w3 w4 w5 w6 w7 w8 w9:Str}{t1 t2 t3 t4 t5 t6 t7 t8 t9:TS}(h0:U[i]?=some (some<|.ref a))(ha:H a=some (.tup (.str z::xs)))(n1:z≠w1)(n2:z≠w2)(n3:z≠w3)(n4:z≠w4)(n5:z≠w5)(n6:z≠w6)(n7:z≠w7)(n8:z≠w8)(n9:z≠w9)(q:e D U H):(dh (iB K i w1) t1<|dh (iB K i w2) t2 (dh (iB K i w3) t3<|dh (iB K i w4) t4 (dh (iB K i w5) t5<|dh (iB K i w6) t6 (dh (iB K i w7) t7<|dh (iB K i w8) t8 (dh (iB K i w9) t9 e))))) D U H:=cR h0 ha n1 (cR h0 ha n2<|cR h0 ha n3 (cR h0 ha n4<|cR h0 ha n5 (cR h0 ha n6<|cR h0 ha n7 (cR h0 ha n8<|cR h0 ha n9 q))))
theorem dI (h:∀nx:St->Hp->Prop,(∀U' H',u D U' H'->nx U' H')->t ⟨nx,D.rt,D.bk,D.ct⟩ U H):iY t u D U H:=h (u D) λ_ _ h=>h
theorem cV {j:Nat}{v:V}{Q:VK}(h0:U[i]?=some (some<|.ref a))(ha:H a=some (.tup xs))(hj:xs[j]?=some v)(q:Q v H):Fv (SQ K) (jr i) (tC<|.int (j:Int)) U H Q:=⟨_,h0,a,_,_,_,rfl,rfl,iW.of ha,cI (j:=j) hj,q⟩
theorem dY {key:Str}{cD:aP (Key×V)}{v:V}{Q:VK}(h0:U[i]?=some (some<|.ref a))(h:H a=some (.dK cD))(g:fV cD (Sum.inr key)=some v)(q:Q v H):W7 (jr i) (tC<|.str key) U H Q:=⟨_,h0,a,_,rfl, .inl ⟨cD,Sum.inr key,(by first|exact h|exact .inl h),rfl,g.symm⟩,q⟩
end
section
variable {X:Cx}
theorem fG (K:aN)(h:X.K=K:=by rfl):Yh X (SQ K):=h ▸ Yi
theorem yc (K:aN)(h:X.K=K:=by rfl):Yh X (CK K):=h ▸ SX
theorem mV (K:aN)(h:X.K=K:=by rfl):jw X (.builtin "len") (lK K):=h ▸ zK
theorem piL (K:aN){tg l:aH}{tl:TE}(hl:PE X l tl)(h:X.K=K:=by rfl):PI X tg l (Wq K tl):=h ▸ Sg hl
theorem piT (K:aN){tg l:aH}{tl:TE}(hl:PE X l tl)(h:X.K=K:=by rfl):PI X tg l (aaK K tl):=h ▸ XS hl
theorem fQ (K:aN){e:aH}{f:Str}{pos:Pos}{ta:TE}(he:PE X e ta)(hb:attributeBase e f X.env (eval e X.env)=eval e X.env)(h:X.K=K:=by rfl):PE X (.Attribute e f pos) (Sv K ta f):=h ▸ X8 he hb
theorem iw (K:aN){o value:aH}{f:Str}{pos nU:Pos}{ta tv:TE}(ha:PE X o ta)(hv:PE X value tv)(hs:swapsWith value (some<|.Attribute o f nU) pos.line X.env=pure false)(h:X.K=K:=by rfl):PS X (.Assign [.Attribute o f nU] value pos) (aaS K ta tv f):=h ▸ Yb ha hv hs
theorem pgT (K:aN){es:aP aH}{k:Nat}{t:RQ}{n:Nat}{pos:Pos}(hc:X.calm=true)(hq:PGs X es t)(hn:(assignEach es X.env).length=n:=by rfl)(lg:(assignEach es X.env).findIdx? (·.1)=none:=by rfl)(h:X.K=K:=by rfl):PG X (.Tuple es k pos) (XJ K n t):=h ▸ XM hc hq hn lg
theorem Tp (K:aN)(h:X.K=K:=by rfl):jw X (.type "tuple") (jZ K):=h ▸ xY
theorem W9 (K:aN)(h:X.K=K:=by rfl):jw X (.type "list") (lM K):=h ▸ zM
theorem ji (K:aN){o e:aH}{es:aP aH}{lJ gK:Pos}{to:TE}{t:TA}(ho:PE X o to)(ha:PA X (e::es) t)(nA:attributeBase o "append" X.env (eval o X.env)=eval o X.env:=by rfl)
  (hfew:((backTo gK<|starEach (e::es) X.env).all (λx=>!x.1)&&(backToKw gK<|keywordEach [] X.env).all (λx=>x.1.isSome)&&decide ((e::es).length+([]:aP Keyword).length+(if([]:aP Keyword).isEmpty then 0 else 1)<30))=true:=by rfl)
  (hline:(lJ.endLine==gK.line)=true:=by rfl) (hs:starEach (e::es) X.env=(false,eval e X.env)::starEach es X.env:=by rfl) (hplain:(backTo gK<|starEach es X.env).any (·.1)=false:=by rfl) (h:X.K=K:=by rfl):
  PE X (.Call (.Attribute o "append" lJ) (e::es) [] gK) (tBM K "list" uP to t):=h ▸ yE aeA PySem.F.slot_list_append PySem.F.type_list_append Kl ho ha nA hfew hline hs hplain
theorem zX (K:aN){o:aH}{lJ gK:Pos}{to:TE}(ho:PE X o to)(nA:attributeBase o "pop" X.env (eval o X.env)=eval o X.env:=by rfl)(hline:(lJ.endLine==gK.line)=true:=by rfl)(h:X.K=K:=by rfl):
  PE X (.Call (.Attribute o "pop" lJ) [] [] gK) (aaY K "list" aa0 to):=h ▸ Oa aeA PySem.F.slot_list_pop PySem.F.type_list_pop Yl ho nA hline
theorem iy (i:Nat){x:Str}{e:aH}{te:TE}{pos nU:Pos}(hN:X.N.Nodup)(he:PE X e te)(hi:X.N[i]?=some x:=by rfl)(hx:Loc X.env.scope x:=by exact Or.inl rfl)(hs:swapsWith e (some<|.Name x nU) pos.line X.env=pure false:=by rfl)(hf:X.fn x=true\/X.env.scope.names.lookup x=some .local:=by first|exact .inl rfl|exact .inr rfl):
  PS X (.Assign [.Name x nU] e pos) (zA te<|nq i):=oX hN hi hx he hs hf
end
noncomputable def zY (tR:Scope)(N:List Str)(cA:List Str)(jA:List Nat)(aZ:Scope):Bool :=
 aZ.kind==.function&&(aZ.names.all (λy=>y.2 !=.cell)&&(aZ.names.all (λy=>y.2 !=.local||aZ.names.lookup y.1==some .local)&&(aZ.names.all (λy=>y.2 !=.free||(tR.names.lookup y.1==some .cell||tR.names.lookup y.1==some .free))&&
 (jA.length==cA.length&&((jA.zip cA).all (λp=>N[p.1]?==some p.2)&&cA.all (λy=>aZ.names.lookup y==some .free))))))
theorem yd {X:Cx}{tR:Scope}{N:aP Str}{cA:aP Str}{jA:aP Nat}{aZ:Scope}(h:zY tR N cA jA aZ=true)(ho:X.env.scope=tR)(hN:X.N=N):
  nZ X cA jA aZ/\∀y∈cA,aZ.names.lookup y=some .free:=by
 unfold zY at h;simp only[ae1,List.all_eq_true,Bool.or_eq_true,bne_iff_ne,beq_iff_eq,decide_eq_true_eq]at h;obtain⟨h1,h2,h3,h4,h7,h8,h9⟩:=h;have fl:∀y∈cA,aZ.names.lookup y=some .free:=λy hy=>h9 y hy;refine⟨⟨h1,h2,λy hy e=>?_,λy hy e=>?_,λj y hj=>?_,h7,λy hy=>jE<|fl y hy⟩,fl⟩
 ·rcases h3 y hy with q|q
  ·exact absurd e q
  ·exact q
 ·have q:tR.names.lookup y.1=some .cell\/tR.names.lookup y.1=some .free:=by
   rcases h4 y hy with q|q
   ·exact absurd e q
   ·exact q
  rw[<-ho]at q;exact q
 ·obtain⟨k,e1,e2⟩:=zip_get h7 hj
  exact⟨k,e1,by rw[hN];exact h8 (k,y) e2⟩
theorem Yw {X:Cx}{oM dZ tg:aH}{pos:Pos}{ifs:aP aH}{aZ:Scope}{wi:TI}{g:TG}{tt:TT}{te:TE}(tR:Scope)(N:aP Str)(M cA:aP Str)(jA:aP Nat)
  (hk:zY tR N cA jA aZ=true) (hi:PI X tg dZ wi) (hg:∀C s₀ H₀ ex,PG (fU X (M++cA) aZ C s₀ H₀ ex) tg g)
  (ht:∀C s₀ H₀ ex,S7 (fU X (M++cA) aZ C s₀ H₀ ex) ifs tt) (he:∀C s₀ H₀ ex,PE (fU X (M++cA) aZ C s₀ H₀ ex) oM te)
  (ho:X.env.scope=tR:=by rfl) (hN:X.N=N:=by rfl) (hc:X.calm=true:=by rfl) (hs:∀v,foldedSetIterable dZ X.env v=pure v:=by intro _;rfl):PE X (.ListComp oM [⟨tg,dZ,ifs,0⟩] aZ pos) (tM M.length jA wi g tt te):=by
 obtain⟨S,fl⟩:=yd (X:=X) hk ho hN;exact yI hc S fl hi hg ht he hs
theorem KN {X:Cx}{oM dZ tg:aH}{M:aP Str}{g gy:TG}{y:Str}{py pos Dy:Pos}{ifs:aP aH}{aZ:Scope}{cA:aP Str}{jA:aP Nat}{wi:TI}{tt:TT}{te:TE}
  (hc:X.calm=true) (S:nZ X cA jA aZ) (hfl:∀y∈cA,aZ.names.lookup y=some .free) (hi:PI X tg dZ wi) (hgy:PG X (.Name y py) gy) (hg:∀C s₀ H₀ ex,PG (fU X (M++cA) aZ C s₀ H₀ ex) tg g)
  (ht:∀C s₀ H₀ ex,S7 (fU X (M++cA) aZ C s₀ H₀ ex) ifs tt) (he:∀C s₀ H₀ ex,PE (fU X (M++cA) aZ C s₀ H₀ ex) oM te)
  (hsw:swapsWith (.ListComp oM [⟨tg,dZ,ifs,0⟩] aZ pos) (some<|.Name y py) Dy.line X.env=pure true)
  (hs:∀v,foldedSetIterable dZ X.env v=pure v:=by intro _;rfl):PS X (.Assign [.Name y py] (.ListComp oM [⟨tg,dZ,ifs,0⟩] aZ pos) Dy) (zA (tM M.length jA wi g tt te) gy):=by
 intro bG s U H D I h;rw[exec_Assign_Name_used _ _ _ _ hsw];refine abI<|wpAny_standAt ?_;refine abI ?_;show wpAny _ _ (comprehension (.ListComp oM [⟨tg,dZ,ifs,0⟩] aZ pos) aZ X.env _ (newList []) _ _ (some<|assign (.Name y py) X.env)>>=λ_=>pure ()) _ _ s;refine abI<|wpAny_mono (Q:=λ_ s'=>∃U' H',Inv X bG U' H' s'/\D.nx U' H') ?_ (λ_ s' h'=>afV<|afV h') λ_ _ h'=>h';refine tQ (M:=M) (g:=g) (XE:=noX) (use:=some<|assign (.Name y py) X.env) (Q':=λ_ s'=>∃U' H',Inv X bG U' H' s'/\D.nx U' H') hc S hfl hi (λC s₀ H₀ ex=>by rw[tH];exact hg C s₀ H₀ ex) (λC s₀ H₀ ex=>by rw[tH];exact ht C s₀ H₀ ex) (λC s₀ H₀ ex=>by rw[tH];exact he C s₀ H₀ ex) hs I h (λ_ _ _ _ _ _ _ _ _ _ _ (z:False)=>z.elim) λDd C H' m4 s4 hn4 hJ HC nC nfC szC acD acE q=>?_;show wpAny _ _ (assign (.Name y py) X.env<|.ref Dd) _ _ s4;have I5:=hJ s4.heap ⟨rfl,λ_ _=>rfl⟩;obtain⟨oC,es,ep,gC,rC⟩:=id hn4;have IPn:Inv X (bG++[(C,oC)]) U H' s4:=I5.uM λp hp=>(aeu.mp hp).elim (λz=>I5.pin p<|ad5 _ z) λz=>by
  have z':p=(C,oC):=by simpa using z
  subst z';exact⟨gC,HC,nC,nfC,λv q=>by have q2:oC.data=.cell v:=q;have q3:=rC.1;rw[q2]at q3;cases q3⟩
 refine gk (hgy _ s4 U _ (.ref Dd) _ _ IPn rfl q) λ_ s6 ⟨U6,H6,I6,q6⟩=>?_;have pC:=I6.pin (C,oC) (ad5 _<|ad5 _ (aec.mpr rfl));exact⟨m4,hn4.at' (λo e=>by rw[gC]at e;cases e;exact pC.1),λh'' sb=>⟨U6,H6,I6.jU.turned (t':=s6.toks) (λb o hb e=>(sb.2 b hb).trans e) pC.2.1 nC (.inr szC) acD acE,q6⟩⟩
theorem Pk {X:Cx}{oM dZ:aH}{x y:Str}{px py pos Dy:Pos}{ifs:aP aH}{aZ:Scope}{cA:aP Str}{jA:aP Nat}{wi:TI}{tt:TT}{te:TE}{g:TG}
  (hc:X.calm=true) (S:pY X x cA jA aZ) (hfl:∀y∈cA,aZ.names.lookup y=some .free) (hi:PI X (.Name x px) dZ wi) (hgy:PG X (.Name y py) g)
  (ht:∀C s₀ H₀ ex,S7 (fU X (x::cA) aZ C s₀ H₀ ex) ifs tt) (he:∀C s₀ H₀ ex,PE (fU X (x::cA) aZ C s₀ H₀ ex) oM te)
  (hsw:swapsWith (.ListComp oM [⟨.Name x px,dZ,ifs,0⟩] aZ pos) (some<|.Name y py) Dy.line X.env=pure true)
  (hs:∀v,foldedSetIterable dZ X.env v=pure v:=by intro _;rfl):PS X (.Assign [.Name y py] (.ListComp oM [⟨.Name x px,dZ,ifs,0⟩] aZ pos) Dy) (zA (uh jA wi tt te) g):=by
 have h:=KN (M:=[x]) (g:=nq 0) hc ⟨S.kind,S.tL,S.loc,S.fr,S.ix,S.len,S.cl⟩ hfl hi hgy (λC s₀ H₀ ex=>fY (i:=0) S.nd rfl (.inl<|lookup_relabel_local S.tgt) (.inr<|lookup_relabel_local S.tgt)) ht he hsw hs;exact zQ ▸ h
theorem abf {X:Cx}{oM dZ:aH}{x y:Str}{px py pos Dy:Pos}{ifs:aP aH}{aZ:Scope}{wi:TI}{tt:TT}{te:TE}{g:TG}(tR:Scope)(N:aP Str)(cA:aP Str)(jA:aP Nat)
  (hk:vL tR N x cA jA aZ=true) (hi:PI X (.Name x px) dZ wi) (hgy:PG X (.Name y py) g)
  (ht:∀C s₀ H₀ ex,S7 (fU X (x::cA) aZ C s₀ H₀ ex) ifs tt) (he:∀C s₀ H₀ ex,PE (fU X (x::cA) aZ C s₀ H₀ ex) oM te)
  (hsw:swapsWith (.ListComp oM [⟨.Name x px,dZ,ifs,0⟩] aZ pos) (some<|.Name y py) Dy.line X.env=pure true)
  (ho:X.env.scope=tR:=by rfl) (hN:X.N=N:=by rfl) (hc:X.calm=true:=by rfl) (hs:∀v,foldedSetIterable dZ X.env v=pure v:=by intro _;rfl):
  PS X (.Assign [.Name y py] (.ListComp oM [⟨.Name x px,dZ,ifs,0⟩] aZ pos) Dy) (zA (uh jA wi tt te) g):=by
 obtain⟨S,fl⟩:=oh (X:=X) hk ho hN;exact Pk hc S fl hi hgy ht he hsw hs
end L2
namespace PySem
open PyProof.Rows
namespace F
end F
section
variable {prog:aA}{w:aG}{A:aq}{E:ak->ao->Prop}{s:ao}
end
end PySem
namespace PySem
open PyProof.Rows
section
variable {prog:aA}{w:aG}{A:aq}{E:ak->ao->Prop}{s:ao}
end
section
variable {prog:aA}{w:aG}{A:aq}{s:ao}{R:Result->ao->Prop}
end
section
variable {prog:aA}{w:aG}{A:aq}{E:ak->ao->Prop}{s:ao}
end
end PySem
namespace L2
section
variable {X:Cx}
theorem Pn:bootBuiltins "reversed"=some (.type "reversed"):=PyProof.Rows.boot_reversed
theorem Vals.of_get:∀{xs:List V} {us:List ak},xs.length=us.length->(∀(i:Nat) (x:V) (u:ak),xs[i]?=some x->us[i]?=some u->RelV x u)->Vals xs us
 |[],[],_,_=>.nil
 |[],_::_,h,_=>by simp at h
 |_::_,[],h,_=>by simp at h
 |x::xs,u::us,h,g=>.cons (g 0 x u rfl rfl) (Vals.of_get (by simpa using h) λi a b e f=>g (i+1) a b (by simpa using e)<|by simpa using f)
end
open PySem.W
inductive yg (xs:List V)(H:Hp)(Q:VK):Prop where
 |mk (a) (cD):(xs=[V.ref a])->(H a=some (.dK cD))->(∀l,H l=none->Q (.ref l) (upd H l<|.lst (cD.map λkv=>kV kv.1)))->yg xs H Q
end L2
namespace Fw
open L2
noncomputable def top (i:Nat):aJ:=PySem.Challenge.pw_facework_k69_rows_that_are_stuck.main.body.getD i (.Pass ⟨0,0,0,0⟩)
noncomputable def Iw:Int:=10^60
theorem Pq:Iw<2^200:=by unfold Iw;decide
theorem Iz {i:Int}(h1: -(2^200)<i)(h2:i<2^200):Builtin.Int.intBits i<=2^20:=by
 have hb:Builtin.Int.intBits i<=200:=by
  unfold Builtin.Int.intBits;by_cases h0:i=0
  ·subst h0;decide
  ·have hz:(i==0)=false:=by simpa using h0
   rw[hz];have hn:i.natAbs≠0:=by omega
   have:=(Nat.log2_lt hn (k:=200)).mpr (by omega);show i.natAbs.log2+1<=200;exact this
 exact ad2 hb (by decide)
theorem Pr {i j:Int}(h1: -Iw<i)(h2:i<Iw)(h3: -Iw<j)(h4:j<Iw):IntMulOk i j:=by
 have:=Pq;exact IntMulOk.of_bits (Iz (by omega)<|by omega) (Iz (by omega)<|by omega)
end Fw
namespace L2
theorem IK {X:Cx}:ud X (binaryOp .Mult) (rI (λi j=>IntMulOk i j) λi j=>.int<|i*j):=opI λ_ _ _ _ _ _ _ hc q=>mul_int q hc
end L2
variable {P:aA}{w:aG}{K:aN}{mg:Str->Option ak}{aV:aK}{f:aj}{fd:FuncData}
namespace Fw
open L2
structure Xa (K:aN)(C:aj):Prop where
 i1:findIn K (.ref C) "__class__"=some (some<|.builtin "object.__class__")
 i2:specialIn K (.builtin "object.__class__") "__get__"=some (some<|.builtin "getset_descriptor.__get__")
 i3:takesIn K (.builtin "object.__class__")=some true
 i4:mroIn K C (.type "object")=some true
 i5:kitOne K (.ref C) (.ref C)=some true
 i6:kitOne K (.ref C) (.type "int")=some false
 i7:kitOne K (.ref C) (.type "tuple")=some false
 i8:kitOne K (.type "int") (.ref C)=some false
 i9:kitOne K (.type "tuple") (.ref C)=some false
inductive iM (CL:aj)(H:Hp):V->Prop where
 |tup {r:aj} {xs:List V}:H r=some (.tup xs)->iM CL H (.ref r)
 |ins {r dx:aj} {fs:List (Str×V)}:H r=some (.ins CL dx fs)->iM CL H (.ref r)
inductive pI (CL:aj)(H:Hp):V->Prop where
 |int (i:Int):pI CL H (.int i)
 |ins {r dx:aj} {fs:List (Str×V)}:H r=some (.ins CL dx fs)->pI CL H (.ref r)
inductive zZ (H:Hp):V->Prop where
 |int (i:Int):zZ H (.int i)
 |tup {r:aj} {xs:List V}:H r=some (.tup xs)->zZ H (.ref r)
theorem iM.kp {CL:aj}{H H':Hp}{v:V}(h:iM CL H v)(k:∀r o,v=.ref r->H r=some o->H' r=some o):iM CL H' v:=by
 cases h with
 |tup h=>exact .tup<|k _ _ rfl h
 |ins h=>exact .ins<|k _ _ rfl h
theorem zZ.kp {H H':Hp}{v:V}(h:zZ H v)(k:∀r o,v=.ref r->H r=some o->H' r=some o):zZ H' v:=by
 cases h with
 |int i=>exact .int i
 |tup h=>exact .tup<|k _ _ rfl h
theorem oE (K:aN):kitOne K (.type "int") (.type "int")=some true:=by first|rfl|kernel_rfl
theorem Dz (K:aN):kitOne K (.type "int") (.type "bool")=some false:=by first|rfl|kernel_rfl
theorem vW (K:aN):kitOne K (.type "tuple") (.type "int")=some false:=by first|rfl|kernel_rfl
theorem GP (K:aN):kitOne K (.type "int") (.type "tuple")=some false:=by first|rfl|kernel_rfl
theorem iM.ty {K:aN}{CL:aj}{H:Hp}{v:V}(IC:Xa K CL)(cl:Cls K CL)(h:iM CL H v):∃t,o9 K H v t/\kitOne K t (.type "int")=some false:=by
 cases h with
 |tup h=>exact⟨_, .tup h,vW K⟩
 |ins h=>exact⟨_, .ins h cl IC.i1 IC.i2 IC.i3 IC.i4,IC.i6⟩
theorem pI.ty {K:aN}{CL:aj}{H:Hp}{v:V}(IC:Xa K CL)(cl:Cls K CL)(h:pI CL H v):∃t,o9 K H v t/\kitOne K t (.type "tuple")=some false:=by
 cases h with
 |int i=>exact⟨_, .int i,GP K⟩
 |ins h=>exact⟨_, .ins h cl IC.i1 IC.i2 IC.i3 IC.i4,IC.i7⟩
theorem zZ.ty {K:aN}{CL:aj}{H:Hp}{v:V}(IC:Xa K CL)(h:zZ H v):∃t,o9 K H v t/\kitOne K t (.ref CL)=some false:=by
 cases h with
 |int i=>exact⟨_, .int i,IC.i8⟩
 |tup h=>exact⟨_, .tup h,IC.i9⟩
def GQ (P:aA)(w:aG)(K:aN)(mg:Str->Option ak)(aV:aK)(k:Nat)(x:Str)(ps:List Str)(sp:Sp):Prop :=
 ∃f fd,cP P w K mg aV (fP P w) k f fd ps sp/\Binds K fd ps []/\keepIn K (.ref f)=true/\mg x=some (.ref f)
inductive uV (CL:aj)(vs:List V)(H:Hp)(Q:VK)(E_:XK):Prop where
 |mk (i:Int):vs=[.int i]->Q (.bl true) H->uV CL vs H Q E_
 |no (v:V):vs=[v]->iM CL H v->Q (.bl false) H->uV CL vs H Q E_
inductive vX (CL CS:aj)(vs:List V)(H:Hp)(Q:VK)(E:XK):Prop where
 |mk (i:Int):vs=[.int i]->(∀H',Same H H'->Q (.int i) H')->vX CL CS vs H Q E
 |no (v:V):vs=[v]->iM CL H v->(∀ea H',Same H H'->E (.ref CS) (some ea) H')->vX CL CS vs H Q E
noncomputable def rk (w:Nat)(i j:Int):Int:=match w with
 |0=>i+j
 |1=>i-j
 |2=>i*j
 |_=>if i<j then 1 else 0
def kh (i:Int):Prop:=-Iw<i/\i<Iw
inductive yh (w:Nat)(vs:List V)(H:Hp)(Q:VK)(E_:XK):Prop where
 |mk (i j:Int):vs=[.int i, .int j]->kh i->kh j->Q (.int<|rk w i j) H->yh w vs H Q E_
section
theorem vY:bootBuiltins "bool"=some (.type "bool"):=by decide+kernel
abbrev Aa:aJ:=top 11
theorem Pu:bZ ["thing"] ["thing"] (bQ Aa):={}
theorem Px {CL:aj}(F:iz K "is_whole" "is_whole" Aa f fd)(IC:Xa K CL)(cl:Cls K CL)(mi:mg "isinstance"=none)(mI:mg "int"=none)(mB:mg "bool"=none):cP P w K mg aV jV 1 f fd ["thing"] (uV CL):=by
 refine F.ok Pu (λdF A aU s H vs Q E hr h=>?_) (by rintro _ _ _ _ ⟨⟩<;>subst_vars<;>rfl);refine⟨_,bO<|cQ (M9 (cu iu rfl mi boot_isinstance (bx (pv 0)<|bx (iU (v:=.ty "int") rfl mI boot_int rfl) bH))<|M8 (Xz<|cu iu rfl mi boot_isinstance (bx (pv 0)<|bx (iU (v:=.ty "bool") rfl mB vY rfl) bH))),?_⟩;rcases h with ⟨i,rfl,q⟩|⟨v,rfl,hn,q⟩
 ·refine⟨_,rfl,_,_,_,_,rfl, .int i,oE K,_,rfl,jK ?_⟩
  exact⟨_,rfl,_,_,_,_,rfl, .int i,Dz K,_,rfl,q⟩
 ·obtain⟨t,ty,e⟩:=hn.ty IC cl
  exact⟨_,rfl,_,_,_,_,rfl,ty,e,_,rfl,lU q⟩
abbrev s_num:aJ:=top 19
theorem Yx:bZ ["value"] ["value"] (bQ s_num):={}
theorem Yy {CL CS:aj}{bm:aP ak}{dD B d7:String}(F:iz K "number_of" "number_of" s_num f fd)(O:OwnCls "Stuck" CS bm dD mg aV)(FB:ExcBaseFacts B dD d7 bm)(h1:Has P w K mg aV 1 "is_whole" ["thing"] (uV CL)):cP P w K mg aV (fP P w) 2 f fd ["value"] (vX CL CS):=by
 refine F.tU Yx (λdF A aU s H vs Q E hr h=>?_) (by rintro _ _ _ _ ⟨⟩<;>subst_vars<;>rfl);refine⟨_,bJ (dz (jO (jD (dG h1 hr (by decide) rfl (bx (pv 0) bH)))) (bO<|gG O FB rfl (bx bV bH)) cN)<|bO (cQ<|pv 0),?_⟩;rcases h with ⟨i,rfl,q⟩|⟨v,rfl,hn,q⟩
 ·exact⟨_,rfl, .mk i rfl ⟨true,rfl,lU ⟨_,rfl,q H<|Same.refl _⟩⟩⟩
 ·exact⟨_,rfl, .no v rfl hn ⟨false,rfl,jK ⟨dO 1,λea _=>q ea H<|Same.refl _⟩⟩⟩
abbrev uF (n:Nat):aJ:=top (14+n)
theorem Yz:bZ ["one","other"] ["one","other"] (bQ<|uF 0):={}
theorem YB:bZ ["one","other"] ["one","other"] (bQ<|uF 1):={}
theorem YC:bZ ["one","other"] ["one","other"] (bQ<|uF 2):={}
theorem YD:bZ ["one","other"] ["one","other"] (bQ<|uF 3):={}
theorem Ab {n:Nat}:∀vs H Q E,yh n vs H Q E->vs.length=(["one","other"]:aP Str).length:=λvs H Q E h=>by
 obtain⟨i,j,rfl,_⟩:=h
 rfl
theorem YF (F:iz K "sum_of" "sum_of" (uF 0) f fd):cP P w K mg aV jV 1 f fd ["one","other"] (yh 0):=by
 refine F.ok Yz (λdF A aU s H vs Q E hr h=>?_) Ab;obtain⟨i,j,rfl,_,_,q⟩:=h;exact⟨_,bO<|cQ (dN jt (pv 0)<|pv 1),_,rfl,_,rfl,i,j,rfl,rfl,q⟩
theorem YG (F:iz K "difference_of" "difference_of" (uF 1) f fd):cP P w K mg aV jV 1 f fd ["one","other"] (yh 1):=by
 refine F.ok YB (λdF A aU s H vs Q E hr h=>?_) Ab;obtain⟨i,j,rfl,_,_,q⟩:=h;exact⟨_,bO<|cQ (dN zE (pv 0)<|pv 1),_,rfl,_,rfl,i,j,rfl,rfl,q⟩
theorem YH (F:iz K "product_of" "product_of" (uF 2) f fd):cP P w K mg aV jV 1 f fd ["one","other"] (yh 2):=by
 refine F.ok YC (λdF A aU s H vs Q E hr h=>?_) Ab;obtain⟨i,j,rfl,h1,h2,q⟩:=h;exact⟨_,bO<|cQ (dN IK (pv 0)<|pv 1),_,rfl,_,rfl,i,j,rfl,rfl,Pr h1.1 h1.2 h2.1 h2.2,q⟩
theorem YJ (F:iz K "is_less" "is_less" (uF 3) f fd):cP P w K mg aV jV 1 f fd ["one","other"] (yh 3):=by
 refine F.ok YD (λdF A aU s H vs Q E hr h=>?_) Ab;obtain⟨i,j,rfl,_,_,q⟩:=h;refine⟨_,bO<|cQ (Nb (cH vH (pv 0)<|pv 1) bK bK),_,rfl,_,rfl,i,j,rfl,rfl,_,rfl,gU (λc=>?_) λc=>?_⟩
 ·have c1:i<j:=afZ c
  show Q (.int 1) H;have e:rk 3 i j=1:=afX c1;rw[e]at q;exact q
 ·have c1:¬i<j:=λz=>c (af0 z)
  show Q (.int 0) H;have e:rk 3 i j=0:=afY c1;rw[e]at q;exact q
end
noncomputable def wordOf:Nat->Str
 |0=>"plus"
 |1=>"minus"
 |2=>"times"
 |_=>"less"
noncomputable def Tq (fr:Nat->aj):List (Str×V):=[("plus", .ref<|fr 0),("minus", .ref<|fr 1),("times", .ref<|fr 2),("less", .ref<|fr 3)]
theorem lN:("minus":Str)≠"plus"/\("times":Str)≠"plus"/\("times":Str)≠"minus"/\("less":Str)≠"plus"/\("less":Str)≠"minus"/\("less":Str)≠"times":=by decide+kernel
theorem IV (fr:Nat->aj):∀k,k<=3->(Tq fr).lookup (wordOf k)=some (.ref<|fr k)
 |0,_=>by first|rfl|(unfold Tq wordOf;simp[aek])
 |1,_=>by
  have h:=lN;have b:∀{x y:Str},x≠y->(x==y)=false:=λn=>by simpa using n
  show(Tq fr).lookup ("minus":Str)=_;unfold Tq;simp only[aek,b h.1,beq_self_eq_true]
 |2,_=>by
  have h:=lN;have b:∀{x y:Str},x≠y->(x==y)=false:=λn=>by simpa using n
  show(Tq fr).lookup ("times":Str)=_;unfold Tq;simp only[aek,b h.2.1,b h.2.2.1,beq_self_eq_true]
 |3,_=>by
  have h:=lN;have b:∀{x y:Str},x≠y->(x==y)=false:=λn=>by simpa using n
  show(Tq fr).lookup ("less":Str)=_;unfold Tq;simp only[aek,b h.2.2.2.1,b h.2.2.2.2.1,b h.2.2.2.2.2,beq_self_eq_true]
 |n+4,h=>by omega
inductive Ac (CL CS CT:aj)(vs:List V)(H:Hp)(Q:VK)(E:XK):Prop where
 |mk (k:Nat) (i j:Int):vs=[.str (wordOf k), .int i, .int j]->k<=3->kh i->kh j->(kh (rk k i j)->∀H',Same H H'->Q (.int<|rk k i j) H')->(¬kh (rk k i j)->∀ea H',Same H H'->E (.ref CT) (some ea) H')->Ac CL CS CT vs H Q E
 |no (k:Nat) (v u:V):vs=[.str (wordOf k),v,u]->k<=3->(iM CL H v\/(∃i,v=.int i)/\iM CL H u)->(∀ea H',Same H H'->E (.ref CS) (some ea) H')->Ac CL CS CT vs H Q E
theorem PB (n:Int):(Iw<=if n<0 then -n else n)↔¬kh n:=by
 unfold kh;split<;>omega
section
abbrev GR:aJ:=top 20
theorem IW:bZ ["word","one","other","number"] ["word","one","other"] (bQ GR):={}
theorem yN:bootBuiltins "abs"=some (.builtin "abs"):=by decide+kernel
set_option maxHeartbeats 1000000 in
theorem Tr {CL CS CT dr:aj}{fr:Nat->aj}{bm:aP ak}{dD B d7:String}(F:iz K "reckoned" "reckoned" GR f fd)(O:OwnCls "TooGreat" CT bm dD mg aV)(FB:ExcBaseFacts B dD d7 bm)(ma:mg "abs"=none)(hR:mg "RECKONINGS"=some (.ref dr))(D:pZ K w dr (Tq fr))
  (hF:∀n,n<=3->∃fd,cP P w K mg aV jV 1 (fr n) fd ["one","other"] (yh n)/\keepIn K (.ref<|fr n)=true/\Binds K fd ["one","other"] []) (h1:GQ P w K mg aV 2 "number_of" ["value"] (vX CL CS)):
  cP P w K mg aV (fP P w) 3 f fd ["word","one","other"] (Ac CL CS CT):=by
 refine F.tU IW (λdF A aU s H vs Q E hr h=>?_) (by rintro _ _ _ _ ⟨⟩<;>subst_vars<;>rfl);obtain⟨fN,gN,GN,bN,kN,mN⟩:=h1;refine⟨_,bJ (iy 3 IW.nd (Dc (E:=E0) (λf sp=>∃n,n<=3/\f=fr n/\sp=yh n) (λf sp ⟨n,hn,e1,e2⟩=>by
    obtain⟨fd',G,kp,b⟩:=hF n hn;rw[e1,e2];exact⟨1,fd',_,G,hr.mono (by decide),kp,b⟩) (bY Ij (jo (v:=.ref dr) rfl hR rfl)<|pv 0) vK
   (bx (eF GN (hr.mono<|by decide) rfl mN kN bN .nil cX (bx (pv 1) bH)) (bx (eF GN (hr.mono<|by decide) rfl mN kN bN .nil cX (bx (pv 2) bH)) bH))))
  (bJ (dz (cH Ww (cu Cw rfl ma yN (bx (pv 3) bH))<|dN zG bK bK) (bO<|gG O FB rfl (bx bV bH)) cN)
  (bO<|cQ (pv 3))),?_⟩
 rcases h with ⟨k,i,j,rfl,hk,hi,hj,q1,q2⟩|⟨k,v,u,rfl,hk,hn,q⟩
 ·refine⟨_,rfl,wordOf k,dr,_, .ref<|fr k,rfl,rfl,D,IV fr k hk,fr k,yh k,rfl,⟨k,hk,rfl,rfl⟩,_,rfl, .mk i rfl λH1 s1=>⟨_,rfl, .mk j rfl λH2 s2=>⟨i,j,rfl,hi,hj,?_⟩⟩⟩
  have s12:=s1.trans s2;refine⟨_,rfl,_,rfl,10,60,rfl,rfl,⟨by decide,by decide,by decide⟩,_,_,rfl,rfl,_,rfl,gU (λc=>?_) λc=>?_⟩
  ·have c1:Iw<=if rk k i j<0 then -(rk k i j) else rk k i j:=afZ c
   exact⟨(dO 1),λea _=>q2 ((PB _).mp c1) ea H2 s12⟩
  ·have c1:¬(Iw<=if rk k i j<0 then -(rk k i j) else rk k i j):=λz=>c (af0 z)
   have c2:kh (rk k i j):=by
    by_cases z:kh (rk k i j)
    ·exact z
    ·exact absurd ((PB _).mpr z) c1
   exact⟨_,rfl,q1 c2 H2 s12⟩
 ·refine⟨_,rfl,wordOf k,dr,_, .ref<|fr k,rfl,rfl,D,IV fr k hk,fr k,yh k,rfl,⟨k,hk,rfl,rfl⟩,_,rfl,?_⟩
  rcases hn with hn|⟨⟨i,rfl⟩,hn⟩
  ·exact .no v rfl hn q
  ·exact .mk i rfl λH1 s1=>⟨_,rfl, .no u rfl (hn.kp λr o _ h=>s1 r o h) λea H2 s2=>q ea H2<|s1.trans s2⟩
end
end Fw
namespace PySem
open PyProof.Rows
namespace F
theorem yj:Slot "list_reverseiterator" "__length_hint__" "list_reverseiterator.__length_hint__" :=
 .of (owner:="list_reverseiterator") (n:="__length_hint__") (by rw[typeLookup_type,builtinLookup_eq_fast];kernel_rfl) (by decide+kernel) (by decide+kernel) (by decide+kernel)
  (by first|exact .inl (by decide+kernel)|exact .inr<|by decide+kernel) (by rw[isSubtype_type];kernel_rfl)
theorem KQ:typeLookup (.type "list_reverseiterator") "__len__"=pure none:=by rw[typeLookup_type,builtinLookup_eq_fast];kernel_rfl
end F
section
variable {prog:aA}{w:aG}{A:aq}{s:ao}{R:Result->ao->Prop}
theorem tV (hh:A.handled=none)(S I l:aj)(res:ak)(c₀:Nat){xs:Array ak}(hn:xs.size<=sizeLine)(hlI:l≠I)(hSI:S≠I)(hSl:S≠l)(oV:s.heap.IsRevIter I l ((xs.size:Int)-1))(hl:s.heap.IsList l xs)
  (hS:s.heap.get? S=some {cls:=.type "list",data:=.seq #[] c₀})
  (hR:∀s' acc' c',Moved [S,I] (λa b=>a=b) s s'->s'.heap.get? S=some {cls:=.type "list",dict:=none,data:=.seq acc' c',slots:=#[]}->ItemsOf (λi v=>xs[xs.size-1-i]?=some v) acc' xs.size->R (.ok<|.ret res) s'):
  wpAny (model prog w) A.in1 (Builtin.List.listExtendWith (.ref S) (.ref I) res)
   (λfin s'=>match fin with|.done f=>R (.ok f) s'|.again c'=>c'.quiet=true/\codeAny (model prog w) A c' R s') (λe s'=>R (.error e) s') s:=by
 have l63:=L2.nY;have hz:(xs.size:Int)<2^63:=by omega
 have W:=(Walks.listRev (prog:=prog) (w:=w) (A:=A.in1) hh I l hlI xs).toS;have hSf:S∉[I,l]:=by simp[hSI,hSl]
 unfold Builtin.List.listExtendWith;refine abI<|wpAny_typeOf oV.typeIs ?_;have h1:Builtin.List.listSameRef (.ref S) (.ref I)=false:=by simp[Builtin.List.listSameRef,hSI]
 have h2:(Value.type "list_reverseiterator"==Value.type "list")=false:=by decide
 have h3:(Value.type "list_reverseiterator"==Value.type "tuple")=false:=by decide
 simp only[h1,h2,h3,afz,aeP,if_false];refine abI<|wpAny_pyIter_revIter oV ?_;refine abI<|af9 ?_;unfold Builtin.List.listLengthHint;refine abI<|wpAny_specialOf oV.typeIs F.KQ ?_;show wpAny _ A.in1 (specialOf (Value.ref I) (Str.ofString "__length_hint__")>>=_) _ _ _;refine abI<|wpAny_specialOf oV.typeIs F.yj.lookup ?_
 (generalize hid:("list_reverseiterator.__length_hint__":String)=id0;(fail_if_success (clear hid id0));wp_delta;rw[show splitId id0=some ("list_reverseiterator","__length_hint__") from by subst hid;decide+kernel];subst hid)
 refine abI (wpAny_isInstance (b:=true) oV.typeIs (by rw[isSubtype_type];kernel_rfl) ?_);rw[afY (by decide)];dsimp only;rw[afX (by decide+kernel),afY (by decide+kernel)];refine afV ?_;have key:∀(h':aK) (c₁:Nat),h'.get? S=some {cls:=.type "list",data:=.seq #[] c₁}->(∀b o,b≠S->s.heap.get? b=some o->h'.get? b=some o)->
   codeAny (model prog w) A (.builtin "list.extend.loop" ⟨[.ref S, .ref I,res],[]⟩) R {s with heap:=h'}:=λh' c₁ hS' kp=>by
  have st:(λ(i:Nat) (s:ao)=>i<=xs.size/\s.heap.IsRevIter I l ((xs.size:Int)-1-(i:Int))/\s.heap.IsList l xs) 0 {s with heap:=h'}:=by
   refine⟨aeG _,?_,?_⟩
   ·have e:(xs.size:Int)-1-((0:Nat):Int)=(xs.size:Int)-1:=by omega
    show Heap.IsRevIter h' I l ((xs.size:Int)-1-((0:Nat):Int));rw[e];exact oV.at λo e=>kp I _ (af2 hSI) e
   ·exact hl.at λo e=>kp l _ (af2 hSl) e
  refine codeAny_extend_loopS W hn S hSf res xs.size 0 _ #[] c₁ rfl (aeG _) st hS' (ItemsOf.nil _) λs' acc' c' hm hS'' hacc=>?_;exact hR s' acc' c' ⟨λb o hb e=>hm.heap b o hb (kp b o (λz=>hb<|by simp[z]) e),hm.gens.symm,hm.drawn,hm.os,hm.toks⟩ hS'' hacc
 split
 ·refine abI (wpAny_rule ?_)
  refine abI ?_;show wpAny _ A.in1 (updateSeq S (·.push .none)>>=λ_=>updateSeq S (·.pop)) _ _ _;clear l63 hz hn;refine abI<|wpAny_updateSeq hS rfl ?_;have hS₂:=aeO (Obj.mapSeq (·.push Value.none)) hS rfl;refine wpAny_updateSeq (hz:=by seq_fits) hS₂ rfl ?_;have hS₃:=aeO (Obj.mapSeq (·.pop)) hS₂ rfl;exact afV ⟨plainId_quiet F.plain_extend_loop _,key _ _ hS₃ λb o hb e=>(aeM _ _<|af2 hb).trans<|(aeM _ _<|af2 hb).trans e⟩
 ·exact afV ⟨plainId_quiet F.plain_extend_loop _,key _ _ hS λb o _ e=>e⟩
end
section
variable {prog:aA}{w:aG}{A:aq}{E:ak->ao->Prop}{s:ao}
theorem rQ {Q:aP ak->ao->Prop}(hh:A.handled=none)(I l:aj){xs:Array ak}(hn:xs.size<=sizeLine)(hlI:l≠I)(oV:s.heap.IsRevIter I l ((xs.size:Int)-1))(hl:s.heap.IsList l xs)
  (hQ:∀s' jP,s.heap.objs.size<s'.heap.objs.size->Moved [s.heap.objs.size,I] (λa b=>a=b) s s'->ItemsOf (λi v=>xs[xs.size-1-i]?=some v) jP xs.size->Q jP.toList s'):wpAny (model prog w) A (collect<|.ref I) Q E s:=by
 have hSI:s.heap.objs.size≠I:=λe=>by
  obtain⟨o,ho,_⟩:=oV;have:=ad1 ho;rw[<-e]at this;exact aed _ this
 have hSl:s.heap.objs.size≠l:=λe=>by
  obtain⟨o,ho,_⟩:=hl;have:=ad1 ho;rw[<-e]at this;exact aed _ this
 unfold collect;refine abI<|wpAny_runValue ?_;generalize hR:(λr s'=>_:Result->ao->Prop)=R;refine codeAny_builtin F.entry_proto_collect ?_;rw[Around.under_plainId F.plain_proto_collect _];show wpAny _ A.in1 (newList []>>=λl=>again<|.builtin "list.__iadd__" ⟨[l, .ref I],[]⟩) _ _ s;refine abI<|wpAny_newObj_type ?_;refine afV ⟨plainId_quiet F.plain_list_iadd _,codeAny_builtin F.entry_list_iadd ?_⟩;rw[Around.under_plainId F.plain_list_iadd _];show wpAny _ A.in1 (Builtin.List.listExtendWith (.ref s.heap.objs.size) (.ref I)<|.ref s.heap.objs.size) _ _ _;refine tV (A:=A) (s:={s with heap:=s.heap.push {cls:=.type "list",data:=.seq ([]:aP ak).toArray}}) hh s.heap.objs.size I l (.ref s.heap.objs.size) _ hn hlI hSI hSl (oV.at λo e=>adY _ e) (hl.at λo e=>adY _ e) (ad' _ rfl) λs' acc' c' hm hS' hacc=>?_;subst hR;show wpAny _ A (load s.heap.objs.size>>=_) _ _ s';refine abI<|wpAny_load hS' ?_;exact afV<|hQ s' acc' (ad1 hS') ⟨λb o hb e=>hm.heap b o hb<|adY _ e,hm.gens,hm.drawn,hm.os,hm.toks⟩ hacc
theorem qQ {Q₁:ak->ao->Prop}(hh:A.handled=none)(I l:aj){xs:Array ak}(hn:xs.size<=sizeLine)(hlI:l≠I)(oV:s.heap.IsRevIter I l ((xs.size:Int)-1))(hl:s.heap.IsList l xs)
  (h:∀s' jP,s.heap.objs.size<s'.heap.objs.size->Moved [s.heap.objs.size,I] (λa b=>a=b) s s'->ItemsOf (λi v=>xs[xs.size-1-i]?=some v) jP xs.size->Q₁ (.ref s'.heap.objs.size) {s' with heap:=s'.heap.push {cls:=.type "tuple",data:=.seq jP}}):
  codeAny (model prog w) A (.call (.builtin "tuple.__new__") ⟨[.type "tuple", .ref I],[]⟩) (wants Q₁ E) s:=by
 refine codeAny_of_tree ?_;show wpAny _ A.in1 (do checkBuiltinCall "tuple.__new__" ⟨[.type "tuple", .ref I],[]⟩;again (.builtin "tuple.__new__" ⟨[.type "tuple", .ref I],[]⟩)) _ _ s;refine abI<|wpAny_of_eq (F.newCall_tuple_1 _) (afV ⟨plainId_quiet F.plain_tuple_new _,codeAny_builtin F.entry_tuple_new ?_⟩);rw[Around.under_plainId F.plain_tuple_new _];have hsub:=sub_tuple_self;have hinit:=init_tuple_lookup;have hmh:=madeHere_tuple;have hTI:=oV.typeIs
 wp_walk using wpAny_typeOf hTI,rQ (A:=A.in1) hh I l hn hlI oV hl
 intro s' jP jX hm hacc;show wpAny _ _ (Builtin.Tuple.tupleExact jP.toList.toArray>>=λv=>ret v) _ _ _;unfold Builtin.Tuple.tupleExact;refine abI (wpAny_newObj_type ?_<|by show jP.toList.toArray.size<=sizeLine;simp only[Array.toArray_toList];rw[hacc.1];exact hn);refine afV ?_;have e:jP.toList.toArray=jP:=by simp
 rw[e];exact h s' jP jX hm hacc
theorem vZ {Q:ak->ao->Prop}(hh:A.handled=none)(I l:aj){xs:Array ak}(hn:xs.size<=sizeLine)(hlI:l≠I)(oV:s.heap.IsRevIter I l ((xs.size:Int)-1))(hl:s.heap.IsList l xs)
  (hQ:∀s' jP,s.heap.objs.size<s'.heap.objs.size->Moved [s.heap.objs.size,I] (λa b=>a=b) s s'->ItemsOf (λi v=>xs[xs.size-1-i]?=some v) jP xs.size->Q (.ref s'.heap.objs.size) {s' with heap:=s'.heap.push {cls:=.type "tuple",data:=.seq jP}}):
  wpAny (model prog w) A (call (.type "tuple") [.ref I]) Q E s:=by
 refine callType_codes (Q₁:=λobj eE=>eE.TypeIs obj "tuple"/\Q obj eE) F.called_tuple (F.typeCall_tuple_1 _) F.entry_object_init
  (qQ (A:=A.in1) hh I l hn hlI oV hl λs' jP jX hm hacc=>⟨⟨_,ad' _ rfl,rfl⟩,hQ s' jP jX hm hacc⟩) λobj eE tK=>?_
 exact⟨tK.1,F.args_object_init_2 obj _,object_init_meets F.called_tuple.init.lookup F.called_tuple.made (by decide) prog w A.in1 _ eE ⟨tK.1,rfl,tK.2⟩⟩
end
end PySem
namespace L2
section
variable {X:Cx}
def Tv (K:aN)(te:TE):TE:=λU H Q=>te U H λx H1=>∃a xs,x=.ref a/\dM K H1 a xs/\∀l,H1 l=none->Q (.ref l) (upd H1 l<|.tup xs.reverse)
theorem KR {e:aH}{te:TE}{p pos p2 pos2:Pos}(hc:X.calm=true)(hgl:Gl X "tuple")(hml:X.mg "tuple"=none)(hgr:Gl X "reversed")(hmr:X.mg "reversed"=none)(he:PE X e te)
  (hs1:starEach [Expr.Call (.Name "reversed" p2) [e] [] pos2] X.env=[(false,eval (Expr.Call (.Name "reversed" p2) [e] [] pos2) X.env)]:=by rfl) (hs2:starEach [e] X.env=[(false,eval e X.env)]:=by rfl):
  PE X (.Call (.Name "tuple" p) [.Call (.Name "reversed" p2) [e] [] pos2] [] pos) (Tv X.K te):=by
 intro bG s U H Q I h;refine wpAny_Call_Name_kw (qN I hgl hml PyProof.Rows.boot_tuple ?_ (by decide)<|by decide);refine PyProof.Rows.callWith_type1 ?_ hs1 rfl;rw[hs1];refine Calls.spliced_cons ?_;refine wpAny_Call_Name_kw (qN I hgr hmr Pn ?_ (by decide)<|by decide);refine PyProof.Rows.callWith_type1 ?_ hs2 rfl;rw[hs2];refine Calls.spliced_cons<|gk (he bG s U H _ I h) λu s1 ⟨x,H1,I1,r1,q1⟩=>?_;refine Calls.spliced_nil ?_;obtain⟨a,xs,rfl,hq,q⟩:=q1;cases r1;obtain⟨bh,rv,pt,hz⟩:=I1.list hq;have jY:=rv.length;have h63:=nY;refine call_reversed_list pt.isList ?_;refine Calls.spliced_nil ?_;have ha:a<s1.heap.objs.size:=by obtain⟨o,ho,_⟩:=pt.isList;exact ad1 ho
 have hl:Heap.IsList (s1.heap.push<|revObj a ((bh.toArray.size:Int)-1)) a bh.toArray:=pt.isList.at λo e=>adY _ e;refine vZ (s:={s1 with heap:=s1.heap.push (revObj a<|(bh.toArray.size:Int)-1)}) (I1.ok.hd hc) s1.heap.objs.size a (xs:=bh.toArray) (by simp;omega) (aen ha) ⟨_,ad' _ rfl,rfl,rfl⟩ hl λs' jP jX hm hacc=>?_;obtain⟨h',g',d',t',o'⟩:=s';have eg:s1.gens=g':=hm.gens;have ed:d'=s1.drawn:=hm.drawn;have eo:o'=s1.os:=hm.os;subst eg ed eo;have sz:(s1.heap.push<|revObj a (((bh.toArray).size:Int)-1)).objs.size=s1.heap.objs.size+1:=aeN ..;have hlt':s1.heap.objs.size+1<h'.objs.size:=by rw[<-sz];exact jX
 have kp:∀b o,s1.heap.get? b=some o->(h'.push {cls:=.type "tuple",data:=.seq jP}).get? b=some o:=λb o e=>by
  have hb:=ad1 e;refine adY _<|hm.heap b o ?_ (adY _ e);simp only[aev,aej,af3,not_or];exact⟨aen (ad4 hb (aeF<|by rw[sz];exact aey _)),aen hb⟩
 have va:Vals xs.reverse jP.toList:=by
  refine Vals.of_get (by rw[aez,jY];have:=hacc.1;simp at this;simp[this]) λi x u e f=>?_;have hi:i<xs.length:=by have:=(aga e).1;simpa using this
  rw[List.getElem?_reverse hi]at e;have f':jP[i]?=some u:=by simpa using f
  have g:=hacc.2 i u f';have g':bh[xs.length-1-i]?=some u:=by
   have:bh.toArray[bh.toArray.size-1-i]?=some u:=g;simp only[ad7,List.getElem?_toArray]at this;rw[jY];exact this
  obtain⟨u',hu',ru⟩:=rv.get e;rw[g']at hu';cases hu';exact ru
 have ea:jP.toList.toArray=jP:=by simp
 have hle:s1.heap.objs.size<=h'.objs.size:=aeF (afJ (aey _) hlt');have hz':xs.reverse.length<=sizeLine:=by simpa using hz
 refine⟨.ref _,_,I1.laid (t':=t') kp (a:=h'.objs.size) hle<|show fO X.prog X.w _ _ _ (.tup xs.reverse) from⟨hz',jP.toList,va,_,ad' _ rfl,rfl,?_⟩,rfl,q _<|I1.hok.fresh hle⟩;exact⟨_,by rw[ea]⟩
end
end L2
namespace Fw
open L2
def yp (pl:aj)(H H':Hp):Prop:=∀b o,b≠pl->H b=some o->H' b=some o
inductive rR (vs:List V)(H:Hp)(Q:VK)(E_:XK):Prop where
 |mk (pl:aj) (p a:List V) (n:Nat):vs=[.ref pl, .int (n:Int)]->H pl=some (.lst<|p++a)->a.length=n->n<=100->(∀t H',H t=none->H' t=some (.tup a)->H' pl=some (.lst p)->yp pl H H'->Q (.ref t) H')->rR vs H Q E_
section
variable {CM CF CC:aj}
abbrev uW:aJ:=top 21
noncomputable abbrev nT:List Str:=["pile","count","told"]
theorem DG:bZ nT ["pile","count"] (bQ uW):={}
theorem PJ {a:aP V}{i:Nat}(hi:i<a.length):∃v,(a.take<|a.length-i).getLast?=some v/\(a.take<|a.length-i).dropLast=a.take (a.length-(i+1))/\a.reverse.take i++[v]=a.reverse.take (i+1):=by
 have h1:a.length-1-i<a.length:=by omega
 refine⟨a[a.length-1-i],?_,?_,?_⟩
 ·rw[afD,aeh,List.getElem?_take]
  have e:min (a.length-i) a.length-1=a.length-1-i:=by rw[afQ (Nat.sub_le _ _)];exact Nat.sub_right_comm _ _ _
  rw[e,afX (by omega)];exact adX h1
 ·rw[List.dropLast_eq_take,aeh,List.take_take,afQ<|Nat.sub_le _ _,afQ<|Nat.sub_le _ _,Nat.sub_sub]
 ·rw[aeW,List.getElem?_reverse hi,adX h1]
  rfl
theorem PK (F:iz K "taken_off" "taken_off" uW f fd)(mt:mg "tuple"=none)(mr:mg "reversed"=none)(mg':mg "range"=none):cP P w K mg aV jV 1 f fd ["pile","count"] rR:=by
 refine F.ok DG λdF A aU s H vs Q E hr h=>?_;obtain⟨pl,p,a,n,rfl,hp,la,ln,q⟩:=h;subst la;have hz:=sizeLine_eq;refine⟨_,bJ (abf (bQ uW) nT ["pile"] [0] (by decide+kernel) (pU rfl mg' (bx (pv 1) bH)) (fY (i:=2) DG.nd rfl (Or.inl rfl)) (λC s₀ H₀ ex=>pX)
   (λC s₀ H₀ ex=>zX K<|pv 1) (by with_unfolding_all rfl))
  (bO<|cQ (KR rfl rfl mt rfl mr (pv 2))),?_⟩
 refine⟨_,rfl,(a.length:Int),rfl,by omega,by omega,?_⟩;rw[aeL];refine Gv (n:=a.length) (λi vs H'=>vs=a.reverse.take i/\H' pl=some (.lst<|p++a.take (a.length-i))/\yp pl H H'/\(∀b,b≠pl->H' b=H b)) ⟨rfl,?_,λb o _ h=>h,λ_ _=>rfl⟩ ?_ ?_ ?_
 ·rw[Nat.sub_zero,ae2]
  exact hp
 ·rintro i vs H' hi ⟨rfl,_⟩
  rw[aeh,aez];omega
 ·rintro i vs H' hi ⟨rfl,hp',kp,ke⟩
  obtain⟨v,e1,e2,e3⟩:=PJ hi;refine⟨_,rfl, .inl ⟨rfl,_,dM.of hp'⟩,pl,_,v,rfl,rfl,hp',?_,nx hi ⟨e3,?_,λb o nb hb=>?_,λb nb=>?_⟩⟩
  ·rw[<-afD,List.getLast?_append,e1]
   rfl
  ·have ne:a.take (a.length-i)≠[]:=λz=>by rw[z]at e1;cases e1
   rw[bA,List.dropLast_append_of_ne_nil ne,e2]
  ·rw[bR nb]
   exact kp b o nb hb
  ·rw[bR nb]
   exact ke b nb
 ·rintro vs H' ⟨rfl,hp',kp,ke⟩ l hl
  have lpl:l≠pl:=λz=>by rw[z,hp']at hl;cases hl
  rw[afs,afS,aep]at hp';have e1:a.reverse.take a.length=a.reverse:=afn (by rw[aez];exact adZ _);rw[e1];refine⟨_,rfl,l,a.reverse,rfl,dM.of bA,λt ht=>?_⟩;rw[aeY];have tl:t≠l:=λz=>by rw[z,bA]at ht;cases ht
  rw[bR tl]at ht;have tpl:t≠pl:=λz=>by rw[z,hp']at ht;cases ht
  refine q t _ (by rw[<-ke t tpl];exact ht) bA (by rw[bR (af2 tpl),bR (af2 lpl)];exact hp') λb o nb hb=>?_;have h1:=kp b o nb hb;rw[bR (λz=>by rw[z,ht]at h1;cases h1),bR (λz=>by rw[z,hl]at h1;cases h1)];exact h1
end
noncomputable def v7 (cl pl fr gY st:aj)(ah:V):List (Str×V):=[("calls", .ref cl),("pile", .ref pl),("frame", .ref fr),("outer_frames", .ref gY),("stored", .ref st),("ahead",ah)]
noncomputable def Mq (own:aj)(be:V):List (Str×V):=[("own", .ref own),("behind",be)]
noncomputable def uX (most begun under:V):List (Str×V):=[("most",most),("begun",begun),("under_way",under)]
noncomputable def Tw (to:V)(k:aj):List (Str×V):=[("to",to),("kept", .ref k)]
structure uY (K:aN)(CM CF CC CL:aj):Prop where
 cm:Cls K CM
 m1:dH K CM "calls"
 m2:dH K CM "pile"
 m3:dH K CM "frame"
 m4:dH K CM "outer_frames"
 m5:dH K CM "stored"
 m6:dH K CM "ahead"
 cf:Cls K CF
 f1:dH K CF "own"
 f2:dH K CF "behind"
 cc:Cls K CC
 c1:dH K CC "most"
 c2:dH K CC "begun"
 c3:dH K CC "under_way"
 cl:Cls K CL
 l1:dH K CL "to"
 l2:dH K CL "kept"
section
variable (cl pl fr gY st:aj)(ah v:V)
theorem mf1:(v7 cl pl fr gY st ah).lookup ("calls":Str)=some (V.ref cl):=by kernel_rfl
theorem mf2:(v7 cl pl fr gY st ah).lookup ("pile":Str)=some (V.ref pl):=by kernel_rfl
theorem YK:(v7 cl pl fr gY st ah).lookup ("frame":Str)=some (V.ref fr):=by kernel_rfl
theorem mf4:(v7 cl pl fr gY st ah).lookup ("outer_frames":Str)=some (V.ref gY):=by kernel_rfl
theorem mf5:(v7 cl pl fr gY st ah).lookup ("stored":Str)=some (V.ref st):=by kernel_rfl
theorem mf6:(v7 cl pl fr gY st ah).lookup ("ahead":Str)=some ah:=by kernel_rfl
theorem YL:jd "ahead" v (v7 cl pl fr gY st ah)=v7 cl pl fr gY st v:=by kernel_rfl
theorem mp3 (fr':aj):jd "frame" (V.ref fr') (v7 cl pl fr gY st ah)=v7 cl pl fr' gY st ah:=by kernel_rfl
theorem ff1:(Mq pl v).lookup ("own":Str)=some (V.ref pl):=by kernel_rfl
theorem ff2:(Mq pl v).lookup ("behind":Str)=some v:=by kernel_rfl
theorem cf1 (x y z:V):(uX x y z).lookup ("most":Str)=some x:=by kernel_rfl
theorem cf2 (x y z:V):(uX x y z).lookup ("begun":Str)=some y:=by kernel_rfl
theorem cf3 (x y z:V):(uX x y z).lookup ("under_way":Str)=some z:=by kernel_rfl
theorem cp2 (x y z:V):jd "begun" v (uX x y z)=uX x v z:=by kernel_rfl
theorem cp3 (x y z:V):jd "under_way" v (uX x y z)=uX x y v:=by kernel_rfl
theorem lf1:(Tw v pl).lookup ("to":Str)=some v:=by kernel_rfl
theorem lf2:(Tw v pl).lookup ("kept":Str)=some (V.ref pl):=by kernel_rfl
end
structure MA where
 (m dx pl gY cl KY st:aj)
structure Fm where
 (fr qe own:aj)
 vs:List V
 be:V
structure kj where
 pile:List V
 cur:Fm
 outer:List Fm
 uG:List V
 ah:V
 (most begun under:Int)
structure MS (CM CF CC:aj)(H:Hp)(a:MA)(s:kj):Prop where
 ob:H a.m=some (.ins CM a.dx<|v7 a.cl a.pl s.cur.fr a.gY a.st s.ah)
 hp:H a.pl=some (.lst s.pile)
 hf:H a.gY=some (.lst<|s.outer.map λf=>V.ref f.fr)
 hc:H a.cl=some (.ins CC a.KY<|uX (.int s.most) (.int s.begun) (.int s.under))
 hs:H a.st=some (.lst s.uG)
 fs:∀f∈s.cur::s.outer,H f.fr=some (.ins CF f.qe<|Mq f.own f.be)/\H f.own=some (.lst f.vs)
 nd:(a.pl::a.gY::a.st::(s.cur::s.outer).map (·.own)).Nodup
def Mu (a:MA)(s:kj)(b:aj):Prop:=b=a.m\/b=a.cl\/b∈a.pl::a.gY::a.st::(s.cur::s.outer).map (·.own)
def Ext (a:MA)(s:kj)(H:Hp)(s':kj)(H':Hp):Prop:=∀b o,¬Mu a s b->H b=some o->¬Mu a s' b/\H' b=some o
theorem Ext.trans {a:MA}{s s1 s2:kj}{H H1 H2:Hp}(x:Ext a s H s1 H1)(y:Ext a s1 H1 s2 H2):Ext a s H s2 H2:=λb o n h=>y b o (x b o n h).1 (x b o n h).2
theorem Same.ext {a:MA}{s:kj}{H H':Hp}(e:Same H H'):Ext a s H s H':=λb o n h=>⟨n,e b o h⟩
theorem cW {H:Hp}{a b:aj}{o x:HO}(h:H a=some o)(n:a≠b):(upd H b x) a=some o:=by rw[bR n];exact h
theorem obl {H:Hp}{a b C dx:aj}{fs:aP (Str×V)}{xs:aP V}(h:H a=some (.ins C dx fs))(q:H b=some (.lst xs)):a≠b:=jg h q (by intro z;cases z)
theorem obo {H:Hp}{a b C dx C' dx':aj}{fs fs':aP (Str×V)}(h:H a=some (.ins C dx fs))(q:H b=some (.ins C' dx' fs'))(n:fs.length≠fs'.length):a≠b:=jg h q (by intro z;injection z with _ _ e;exact n<|congrArg List.length e)
noncomputable def kj.fj (s:kj)(p:List V):kj:={s with pile:=p}
noncomputable def kj.qR (s:kj)(o:List V):kj:={s with cur:={s.cur with vs:=o}}
noncomputable def kj.PL (s:kj)(o:List V):kj:={s with uG:=o}
noncomputable def kj.lV (s:kj)(v:V):kj:={s with ah:=v}
noncomputable def kj.setC (s:kj)(b u:Int):kj:={s with begun:=b,under:=u}
section
variable {CM CF CC:aj}{H H':Hp}{a:MA}{s:kj}
theorem MS.fc (M:MS CM CF CC H a s):H s.cur.fr=some (.ins CF s.cur.qe<|Mq s.cur.own s.cur.be):=(M.fs _ ad3).1
theorem MS.ho (M:MS CM CF CC H a s):H s.cur.own=some (.lst s.cur.vs):=(M.fs _ ad3).2
theorem MS.same (M:MS CM CF CC H a s)(e:Same H H'):MS CM CF CC H' a s:=⟨e _ _ M.ob,e _ _ M.hp,e _ _ M.hf,e _ _ M.hc,e _ _ M.hs,λf hf=>⟨e _ _ (M.fs f hf).1,e _ _ (M.fs f hf).2⟩,M.nd⟩
theorem MS.Xb (M:MS CM CF CC H a s):a.pl∉a.gY::a.st::(s.cur::s.outer).map (·.own):=(afu.mp M.nd).1
theorem MS.nof (M:MS CM CF CC H a s):a.gY∉a.st::(s.cur::s.outer).map (·.own):=(afu.mp (afu.mp M.nd).2).1
theorem MS.Dg (M:MS CM CF CC H a s):a.st∉(s.cur::s.outer).map (·.own):=(afu.mp (afu.mp (afu.mp M.nd).2).2).1
theorem MS.now (M:MS CM CF CC H a s):s.cur.own∉s.outer.map (·.own):=(afu.mp (afu.mp (afu.mp (afu.mp M.nd).2).2).2).1
theorem MS.Tz (M:MS CM CF CC H a s):a.gY≠a.pl:=λe=>M.Xb (e ▸ ad3)
theorem MS.YM (M:MS CM CF CC H a s):a.st≠a.pl:=λe=>M.Xb (e ▸ ad0 _ ad3)
theorem MS.YQ (M:MS CM CF CC H a s):a.st≠a.gY:=λe=>M.nof (e ▸ ad3)
theorem MS.fpl (M:MS CM CF CC H a s){f:Fm}(hf:f∈s.cur::s.outer):f.own≠a.pl:=λe=>M.Xb (e ▸ ad0 _ (ad0 _<|aeR hf))
theorem MS.fof (M:MS CM CF CC H a s){f:Fm}(hf:f∈s.cur::s.outer):f.own≠a.gY:=λe=>M.nof (e ▸ ad0 _ (aeR hf))
theorem MS.fst (M:MS CM CF CC H a s){f:Fm}(hf:f∈s.cur::s.outer):f.own≠a.st:=λe=>M.Dg (e ▸ aeR hf)
theorem MS.fow (M:MS CM CF CC H a s){f:Fm}(hf:f∈s.outer):f.own≠s.cur.own:=λe=>M.now (e ▸ aeR hf)
theorem MS.mcl (M:MS CM CF CC H a s):a.m≠a.cl:=obo M.ob M.hc (by show ¬((6:Nat)=3);decide)
theorem MS.fm (M:MS CM CF CC H a s){f:Fm}(hf:f∈s.cur::s.outer):f.fr≠a.m:=obo (M.fs f hf).1 M.ob (by show ¬((2:Nat)=6);decide)
theorem MS.fcl (M:MS CM CF CC H a s){f:Fm}(hf:f∈s.cur::s.outer):f.fr≠a.cl:=obo (M.fs f hf).1 M.hc (by show ¬((2:Nat)=3);decide)
theorem MS.fj (M:MS CM CF CC H a s)(p:aP V):MS CM CF CC (upd H a.pl<|.lst p) a (s.fj p) :=
 ⟨cW M.ob<|obl M.ob M.hp,bA,cW M.hf M.Tz,cW M.hc<|obl M.hc M.hp,cW M.hs M.YM,λf hf=>⟨cW (M.fs f hf).1<|obl (M.fs f hf).1 M.hp,cW (M.fs f hf).2<|M.fpl hf⟩,M.nd⟩
theorem MS.PL (M:MS CM CF CC H a s)(p:aP V):MS CM CF CC (upd H a.st<|.lst p) a (s.PL p) :=
 ⟨cW M.ob<|obl M.ob M.hs,cW M.hp<|af2 M.YM,cW M.hf<|af2 M.YQ,cW M.hc<|obl M.hc M.hs,bA,λf hf=>⟨cW (M.fs f hf).1<|obl (M.fs f hf).1 M.hs,cW (M.fs f hf).2<|M.fst hf⟩,M.nd⟩
theorem MS.qR (M:MS CM CF CC H a s)(p:aP V):MS CM CF CC (upd H s.cur.own<|.lst p) a (s.qR p):=by
 have hm:s.cur∈s.cur::s.outer:=ad3;refine⟨cW M.ob<|obl M.ob M.ho,cW M.hp<|af2 (M.fpl hm),cW M.hf<|af2 (M.fof hm),cW M.hc<|obl M.hc M.ho,cW M.hs<|af2 (M.fst hm),λf hf=>?_,M.nd⟩;rcases aev.mp hf with rfl|hf'
 ·exact⟨cW M.fc<|obl M.fc M.ho,bA⟩
 ·have h:=M.fs f (ad0 _ hf')
  exact⟨cW h.1<|obl h.1 M.ho,cW h.2<|M.fow hf'⟩
theorem MS.lV (M:MS CM CF CC H a s)(v:V):MS CM CF CC (upd H a.m<|.ins CM a.dx (v7 a.cl a.pl s.cur.fr a.gY a.st v)) a (s.lV v) :=
 ⟨bA,cW M.hp<|af2 (obl M.ob M.hp),cW M.hf<|af2 (obl M.ob M.hf),cW M.hc<|af2 M.mcl,cW M.hs<|af2 (obl M.ob M.hs),λf hf=>⟨cW (M.fs f hf).1<|M.fm hf,cW (M.fs f hf).2<|af2 (obl M.ob (M.fs f hf).2)⟩,M.nd⟩
theorem MS.setC (M:MS CM CF CC H a s)(b u:Int):MS CM CF CC (upd H a.cl<|.ins CC a.KY (uX (.int s.most) (.int b)<|.int u)) a (s.setC b u) :=
 ⟨cW M.ob M.mcl,cW M.hp<|af2 (obl M.hc M.hp),cW M.hf<|af2 (obl M.hc M.hf),bA,cW M.hs<|af2 (obl M.hc M.hs),λf hf=>⟨cW (M.fs f hf).1<|M.fcl hf,cW (M.fs f hf).2<|af2 (obl M.hc (M.fs f hf).2)⟩,M.nd⟩
theorem Fx {x:HO}{p:aP V}:Ext a s H (s.fj p) (upd H a.pl x):=λb o n h=>⟨n,cW h λe=>by subst e;exact n<|.inr (.inr ad3)⟩
theorem xtS {x:HO}{p:aP V}:Ext a s H (s.PL p) (upd H a.st x):=λb o n h=>⟨n,cW h λe=>by subst e;exact n<|.inr (.inr<|ad0 _ (ad0 _ ad3))⟩
theorem xtO {x:HO}{p:aP V}:Ext a s H (s.qR p) (upd H s.cur.own x):=λb o n h=>⟨n,cW h λe=>by subst e;exact n<|.inr (.inr<|ad0 _ (ad0 _<|ad0 _ ad3))⟩
theorem xtA {x:HO}{v:V}:Ext a s H (s.lV v) (upd H a.m x):=λb o n h=>⟨n,cW h λe=>by subst e;exact n<|.inl rfl⟩
theorem xtC {x:HO}{i j:Int}:Ext a s H (s.setC i j) (upd H a.cl x):=λb o n h=>⟨n,cW h λe=>by subst e;exact n<|.inr (.inl rfl)⟩
theorem MS.qu (M:MS CM CF CC H a s){r:aj}{xs:aP V}(h:H r=some (.tup xs)):¬Mu a s r:=by
 rintro(rfl|rfl|hm)
 ·rw[M.ob]at h;cases h
 ·rw[M.hc]at h;cases h
 ·rcases aev.mp hm with rfl|hm
  ·rw[M.hp]at h;cases h
  ·rcases aev.mp hm with rfl|hm
   ·rw[M.hf]at h;cases h
   ·rcases aev.mp hm with rfl|hm
    ·rw[M.hs]at h;cases h
    ·obtain⟨f,hf,rfl⟩:=List.mem_map.mp hm
     rw[(M.fs f hf).2]at h;cases h
theorem MS.Ja (M:MS CM CF CC H a s){r:aj}(h:H r=none):¬Mu a s r:=by
 rintro(rfl|rfl|hm)
 ·rw[M.ob]at h;cases h
 ·rw[M.hc]at h;cases h
 ·rcases aev.mp hm with rfl|hm
  ·rw[M.hp]at h;cases h
  ·rcases aev.mp hm with rfl|hm
   ·rw[M.hf]at h;cases h
   ·rcases aev.mp hm with rfl|hm
    ·rw[M.hs]at h;cases h
    ·obtain⟨f,hf,rfl⟩:=List.mem_map.mp hm
     rw[(M.fs f hf).2]at h;cases h
theorem yp.xt {p':aP V}(k:yp a.pl H H'):Ext a s H (s.fj p') H':=λb o n h=>⟨n,k b o (λe=>by subst e;exact n<|.inr (.inr ad3)) h⟩
theorem MS.kp1 (M:MS CM CF CC H a s){p':aP V}(k:yp a.pl H H')(hp:H' a.pl=some (.lst p')):MS CM CF CC H' a (s.fj p') :=
 ⟨k _ _ (obl M.ob M.hp) M.ob,hp,k _ _ M.Tz M.hf,k _ _ (obl M.hc M.hp) M.hc,k _ _ M.YM M.hs,λf hf=>⟨k _ _ (obl (M.fs f hf).1 M.hp) (M.fs f hf).1,k _ _ (M.fpl hf) (M.fs f hf).2⟩,M.nd⟩
end
noncomputable def nm:Nat->Str
 |0=>"number"|1=>"local"|2=>"global"|3=>"keep"|4=>"drop"|5=>"store"|10=>"unless"|11=>"jump"|_=>"back"
def RS (n:Nat)(args:List V)(s s':kj):Prop:=match n with
 |0=>∃v,args=[v]/\s'=s.fj (s.pile++[v])
 |1=>∃(j:Nat) (v:V),args=[.int (j:Int)]/\s.cur.vs[j]?=some v/\s'=s.fj (s.pile++[v])
 |2=>∃(j:Nat) (v:V),args=[.int (j:Int)]/\s.uG[j]?=some v/\s'=s.fj (s.pile++[v])
 |3=>∃(p:List V) (v:V),args=[]/\s.pile=p++[v]/\s'=(s.fj p).qR (s.cur.vs++[v])
 |4=>∃(o u:List V) (n:Nat),args=[.int (n:Int)]/\s.cur.vs=o++u/\u.length=n/\s'=s.qR o
 |5=>∃(p:List V) (v:V),args=[]/\s.pile=p++[v]/\s'=(s.fj p).PL (s.uG++[v])
 |10=>∃(p:List V) (t:V) (i:Int),args=[t]/\s.pile=p++[.int i]/\s'=if i=0 then(s.fj p).lV t else s.fj p
 |11=>∃t,args=[t]/\s'=s.lV t
 |_=>args=[]/\s.outer=[]/\s'=s.lV .non
inductive pJ (CM CF CC:aj)(n:Nat)(vs:List V)(H:Hp)(Q:VK)(E_:XK):Prop where
 |mk (a:MA) (s s':kj) (r:aj) (args:List V):vs=[.ref a.m, .ref r]->MS CM CF CC H a s->H r=some (.tup (.str (nm n)::args))->RS n args s s'->s.pile.length<=500->s.cur.vs.length<=500->s.uG.length<=500->(∀H',MS CM CF CC H' a s'->Ext a s H s' H'->Q .non H')->pJ CM CF CC n vs H Q E_
section
variable {CM CF CC CL:aj}
theorem mH {n:Nat}:∀vs H Q E,pJ CM CF CC n vs H Q E->vs.length=(["machine","row"]:aP Str).length:=λvs H Q E h=>by
 obtain⟨a,s,s',r,args,rfl,_⟩:=h
 rfl
abbrev lD (n:Nat):aJ:=top (28+n)
theorem YS:bZ ["machine","row"] ["machine","row"] (bQ<|lD 0):={}
theorem YT:bZ ["machine","row"] ["machine","row"] (bQ<|lD 1):={}
theorem YW:bZ ["machine","row"] ["machine","row"] (bQ<|lD 2):={}
theorem YX:bZ ["machine","row"] ["machine","row"] (bQ<|lD 3):={}
theorem PN:bZ ["machine","row","place"] ["machine","row"] (bQ<|lD 4):={}
theorem YZ:bZ ["machine","row"] ["machine","row"] (bQ<|lD 5):={}
theorem Y0:bZ ["machine","row"] ["machine","row"] (bQ<|lD 7):={}
theorem Y4:bZ ["machine","row"] ["machine","row"] (bQ<|lD 8):={}
theorem Y5 (F:iz K "do_number" "do_number" (lD 0) f fd)(Tx:uY K CM CF CC CL):cP P w K mg aV (fP P w) 1 f fd ["machine","row"] (pJ CM CF CC 0):=by
 refine F.tU YS (λdF A aU s H vs Q E hr h=>?_) mH;obtain⟨a,s,s',r,args,rfl,M,oO,⟨v,rfl,rfl⟩,lp,lo,ls,q⟩:=h;refine⟨_,bO<|cg (ji K (fQ K (pv 0) rfl)<|bx (bY (fG K) (pv 1) bK) bH),?_⟩;refine⟨_,rfl,a.m,CM,a.dx,_, .ref a.pl,rfl,M.ob,Tx.cm,Tx.m2,mf2 _ _ _ _ _ _, .inl ⟨rfl,_,dM.of M.hp⟩,_,rfl,r,_,1,v,rfl,rfl,iW.of oO,cI (j:=1) rfl,a.pl,s.pile,v,rfl,rfl,M.hp,dB (by exact ad2 lp<|by decide),?_⟩;exact q _ (M.fj _) Fx
theorem Y6 (F:iz K "do_local" "do_local" (lD 1) f fd)(Tx:uY K CM CF CC CL):cP P w K mg aV (fP P w) 1 f fd ["machine","row"] (pJ CM CF CC 1):=by
 refine F.tU YT (λdF A aU s H vs Q E hr h=>?_) mH;obtain⟨a,s,s',r,args,rfl,M,oO,⟨j,v,rfl,hv,rfl⟩,lp,lo,ls,q⟩:=h;refine⟨_,bO<|cg (ji K (fQ K (pv 0) rfl)<|bx (bY (yc K) (fQ K (fQ K (pv 0) rfl) rfl)<|bY (fG K) (pv 1) bK) bH),?_⟩;refine⟨_,rfl,a.m,CM,a.dx,_, .ref a.pl,rfl,M.ob,Tx.cm,Tx.m2,mf2 _ _ _ _ _ _, .inl ⟨rfl,_,dM.of M.hp⟩,_,rfl,a.m,CM,a.dx,_, .ref s.cur.fr,rfl,M.ob,Tx.cm,Tx.m3,YK _ _ _ _ _ _,s.cur.fr,CF,s.cur.qe,_, .ref s.cur.own,rfl,M.fc,Tx.cf,Tx.f1,ff1 _ _,_,rfl,r,_,1, .int j,rfl,rfl,iW.of oO,cI (j:=1) rfl,s.cur.own,_,j,v,rfl,rfl,dM.of M.ho,cI (j:=j) hv,a.pl,s.pile,v,rfl,rfl,M.hp,dB (by exact ad2 lp<|by decide),?_⟩;exact q _ (M.fj _) Fx
theorem Y7 (F:iz K "do_global" "do_global" (lD 2) f fd)(Tx:uY K CM CF CC CL):cP P w K mg aV (fP P w) 1 f fd ["machine","row"] (pJ CM CF CC 2):=by
 refine F.tU YW (λdF A aU s H vs Q E hr h=>?_) mH;obtain⟨a,s,s',r,args,rfl,M,oO,⟨j,v,rfl,hv,rfl⟩,lp,lo,ls,q⟩:=h;refine⟨_,bO<|cg (ji K (fQ K (pv 0) rfl)<|bx (bY (yc K) (fQ K (pv 0) rfl)<|bY (fG K) (pv 1) bK) bH),?_⟩;refine⟨_,rfl,a.m,CM,a.dx,_, .ref a.pl,rfl,M.ob,Tx.cm,Tx.m2,mf2 _ _ _ _ _ _, .inl ⟨rfl,_,dM.of M.hp⟩,_,rfl,a.m,CM,a.dx,_, .ref a.st,rfl,M.ob,Tx.cm,Tx.m5,mf5 _ _ _ _ _ _,_,rfl,r,_,1, .int j,rfl,rfl,iW.of oO,cI (j:=1) rfl,a.st,_,j,v,rfl,rfl,dM.of M.hs,cI (j:=j) hv,a.pl,s.pile,v,rfl,rfl,M.hp,dB (by exact ad2 lp<|by decide),?_⟩;exact q _ (M.fj _) Fx
theorem Y8 (F:iz K "do_keep" "do_keep" (lD 3) f fd)(Tx:uY K CM CF CC CL):cP P w K mg aV (fP P w) 1 f fd ["machine","row"] (pJ CM CF CC 3):=by
 refine F.tU YX (λdF A aU s H vs Q E hr h=>?_) mH;obtain⟨a,s,s',r,args,rfl,M,oO,⟨p,v,rfl,hp,rfl⟩,lp,lo,ls,q⟩:=h;refine⟨_,bO<|cg (ji K (fQ K (fQ K (pv 0) rfl) rfl)<|bx (zX K<|fQ K (pv 0) rfl) bH),?_⟩;have M1:=M.fj p;have iH:=M.hp;rw[hp]at iH;refine⟨_,rfl,a.m,CM,a.dx,_, .ref s.cur.fr,rfl,M.ob,Tx.cm,Tx.m3,YK _ _ _ _ _ _,s.cur.fr,CF,s.cur.qe,_, .ref s.cur.own,rfl,M.fc,Tx.cf,Tx.f1,ff1 _ _, .inl ⟨rfl,_,dM.of M.ho⟩,_,rfl,a.m,CM,a.dx,_, .ref a.pl,rfl,M.ob,Tx.cm,Tx.m2,mf2 _ _ _ _ _ _, .inl ⟨rfl,_,dM.of M.hp⟩,a.pl,_,v,rfl,rfl,iH,by simp,?_⟩;rw[aem];exact⟨s.cur.own,s.cur.vs,v,rfl,rfl,M1.ho,dB (by exact ad2 lo<|by decide),q _ (M1.qR _)<|Fx.trans xtO⟩
theorem drop_one {o u:aP V}{i n:Nat}(l:u.length=n)(h:i<n):∃v,o++u.take (n-i)=(o++u.take (n-(i+1)))++[v]:=by
 have hl:n-(i+1)<u.length:=by omega
 refine⟨u[n-(i+1)],?_⟩;rw[ad8,show n-i=n-(i+1)+1 by omega,aeW,adX hl]
 rfl
theorem Y9 (F:iz K "do_drop" "do_drop" (lD 4) f fd)(Tx:uY K CM CF CC CL)(mr:mg "range"=none):cP P w K mg aV (fP P w) 1 f fd ["machine","row"] (pJ CM CF CC 4):=by
 refine F.tU PN (λdF A aU s H vs Q E hr h=>?_) mH;obtain⟨a,s,s',r,args,rfl,M,oO,⟨o,u,n,rfl,hv,lu,rfl⟩,lp,lo,ls,q⟩:=h;have ln:n<=500:=by rw[hv,adV]at lo;omega
 refine⟨_,bO<|oY PassesOwn.leaving rfl (pU rfl mr (bx (bY (fG K) (pv 1) bK) bH)) (fY (i:=2) PN.nd rfl (Or.inl rfl)) (bO<|cg (zX K<|fQ K (fQ K (pv 0) rfl) rfl)),?_⟩;refine⟨_,rfl,r,_,1, .int (n:Int),rfl,rfl,iW.of oO,cI (j:=1) rfl,(n:Int),rfl,by omega,by omega,?_⟩;refine sY (n:=n) (λi U H'=>(∃z,U=[some (.ref a.m),some<|.ref r,z])/\MS CM CF CC H' a (s.qR<|o++u.take (n-i))/\Ext a s H (s.qR o) H') ⟨⟨none,rfl⟩,?_,λb o n h=>⟨n,h⟩⟩ ?_ ?_
 ·rw[Nat.sub_zero,<-lu,ae2,<-hv]
  exact M
 ·rintro i U H' hi ⟨⟨z,rfl⟩,M',x⟩
  obtain⟨v,e⟩:=drop_one (o:=o) lu hi;rw[e]at M';have iH:H' s.cur.own=some (.lst<|(o++u.take (n-(i+1)))++[v]):=M'.ho;refine⟨_,rfl,a.m,CM,a.dx,_, .ref s.cur.fr,rfl,M'.ob,Tx.cm,Tx.m3,YK _ _ _ _ _ _,s.cur.fr,CF,s.cur.qe,_, .ref s.cur.own,rfl,M'.fc,Tx.cf,Tx.f1,ff1 _ _, .inl ⟨rfl,_,dM.of M'.ho⟩,s.cur.own,_,v,rfl,rfl,iH,by simp,⟨_,rfl⟩,?_,?_⟩
  ·rw[aem]
   exact M'.qR _
  ·exact x.trans<|xtO (s:=s.qR o) (p:=o)
 ·rintro U H' ⟨_,M',x⟩
  rw[afs,afS,aep]at M';exact q _ M' x
theorem Za (F:iz K "do_store" "do_store" (lD 5) f fd)(Tx:uY K CM CF CC CL):cP P w K mg aV (fP P w) 1 f fd ["machine","row"] (pJ CM CF CC 5):=by
 refine F.tU YZ (λdF A aU s H vs Q E hr h=>?_) mH;obtain⟨a,s,s',r,args,rfl,M,oO,⟨p,v,rfl,hp,rfl⟩,lp,lo,ls,q⟩:=h;refine⟨_,bO<|cg (ji K (fQ K (pv 0) rfl)<|bx (zX K<|fQ K (pv 0) rfl) bH),?_⟩;have M1:=M.fj p;have iH:=M.hp;rw[hp]at iH;refine⟨_,rfl,a.m,CM,a.dx,_, .ref a.st,rfl,M.ob,Tx.cm,Tx.m5,mf5 _ _ _ _ _ _, .inl ⟨rfl,_,dM.of M.hs⟩,_,rfl,a.m,CM,a.dx,_, .ref a.pl,rfl,M.ob,Tx.cm,Tx.m2,mf2 _ _ _ _ _ _, .inl ⟨rfl,_,dM.of M.hp⟩,a.pl,_,v,rfl,rfl,iH,by simp,?_⟩;rw[aem];exact⟨a.st,s.uG,v,rfl,rfl,M1.hs,dB (by exact ad2 ls<|by decide),q _ (M1.PL _)<|Fx.trans xtS⟩
theorem Zb (F:iz K "do_jump" "do_jump" (lD 8) f fd)(Tx:uY K CM CF CC CL):cP P w K mg aV (fP P w) 1 f fd ["machine","row"] (pJ CM CF CC 11):=by
 refine F.tU Y4 (λdF A aU s H vs Q E hr h=>?_) mH;obtain⟨a,s,s',r,args,rfl,M,oO,⟨t,rfl,rfl⟩,lp,lo,ls,q⟩:=h;refine⟨_,bO<|iw K (pv 0) (bY (fG K) (pv 1) bK) rfl,?_⟩;refine⟨_,rfl,r,_,1,t,rfl,rfl,iW.of oO,cI (j:=1) rfl,_,rfl,a.m,CM,a.dx,_,rfl,M.ob,Tx.cm,Tx.m6,(by show 6<1000;decide),?_⟩;rw[YL];exact q _ (M.lV _) xtA
theorem iM.upd {H:Hp}{v:V}{pl:aj}{xs:List V}{o:HO}(h:iM CL H v)(hl:H pl=some (.lst xs)):iM CL (upd H pl o) v:=by
 cases h with
 |tup h=>exact .tup (cW h (jg h hl<|by intro z;cases z))
 |ins h=>exact .ins (cW h (jg h hl<|by intro z;cases z))
end
inductive v9 (CM CF CC CL CS:aj)(vs:List V)(H:Hp)(Q:VK)(E:XK):Prop where
 |ok:pJ CM CF CC 10 vs H Q E->v9 CM CF CC CL CS vs H Q E
 |no (a:MA) (s:kj) (r:aj) (p:List V) (v:V):vs=[.ref a.m, .ref r]->MS CM CF CC H a s->s.pile=p++[v]->iM CL H v->(∀ea H',(∀b o,¬Mu a s b->H b=some o->H' b=some o)->E (.ref CS) (some ea) H')->v9 CM CF CC CL CS vs H Q E
section
variable {CM CF CC CL CS:aj}
theorem Zc (F:iz K "do_unless" "do_unless" (lD 7) f fd)(Tx:uY K CM CF CC CL)(h1:GQ P w K mg aV 2 "number_of" ["value"] (vX CL CS)):cP P w K mg aV (fP P w) 3 f fd ["machine","row"] (v9 CM CF CC CL CS):=by
 refine F.tU Y0 (λdF A aU s H vs Q E hr h=>?_) (by
  rintro _ _ _ _ (h|⟨_,_,_,_,_,rfl,_⟩)
  ·exact mH _ _ _ _ h
  ·rfl)
 obtain⟨fN,gN,GN,bN,kN,mN⟩:=h1;refine⟨_,bO (dz (cH eG (eF GN (hr.mono<|by decide) rfl mN kN bN .nil cX (bx (zX K<|fQ K (pv 0) rfl) bH)) bK) (bO<|iw K (pv 0) (bY (fG K) (pv 1) bK) rfl) cN),?_⟩;rcases h with h|⟨a,s,r,p,v,rfl,M,hp,hn,q⟩
 ·obtain⟨a,s,s',r,args,rfl,M,oO,⟨p,t,i,rfl,hp,rfl⟩,lp,lo,ls,q⟩:=h
  have iH:=M.hp;rw[hp]at iH;refine⟨_,rfl,a.m,CM,a.dx,_, .ref a.pl,rfl,M.ob,Tx.cm,Tx.m2,mf2 _ _ _ _ _ _, .inl ⟨rfl,_,dM.of M.hp⟩,a.pl,_, .int i,rfl,rfl,iH,by simp,?_⟩;rw[aem];refine .mk i rfl λH1 s1=>⟨rfl,_,rfl,?_⟩;have M1:=(M.fj p).same s1;have k1:Ext a s H (s.fj p) H1:=Fx.trans (Same.ext s1);refine gU (λc=>?_) λc=>?_
  ·have c1:V.int i=V.int 0:=afZ c
   have c2:i=0:=by injection c1
   rw[afX c2]at q;have hr1:=(k1 r _ (M.qu oO) oO).2;refine(cV (a:=r) (j:=1) rfl hr1 rfl ⟨_,rfl,a.m,CM,a.dx,_,rfl,M1.ob,Tx.cm,Tx.m6,(by show 6<1000;decide),?_⟩);rw[YL];exact q _ (M1.lV t)<|k1.trans xtA
  ·have c2:¬i=0:=λz=>c (by rw[z];rfl)
   rw[afY c2]at q;exact q _ M1 k1
 ·have iH:=M.hp
  rw[hp]at iH;refine⟨_,rfl,a.m,CM,a.dx,_, .ref a.pl,rfl,M.ob,Tx.cm,Tx.m2,mf2 _ _ _ _ _ _, .inl ⟨rfl,_,dM.of M.hp⟩,a.pl,_,v,rfl,rfl,iH,by simp,?_⟩;rw[aem];refine .no v rfl (hn.upd M.hp) λea H1 s1=>q ea H1 λb o n h=>?_;have x1:Ext a s H (s.fj p) (upd H a.pl<|.lst p):=Fx;exact s1 b o (x1 b o n h).2
end
inductive pK (CM CF CC CL CS CT:aj)(vs:List V)(H:Hp)(Q:VK)(E:XK):Prop where
 |mk (a:MA) (s:kj) (r:aj) (p:List V) (k:Nat) (i j:Int):vs=[.ref a.m, .ref r]->MS CM CF CC H a s->s.pile=p++[.int i, .int j]->H r=some (.tup [.str (wordOf k)])->k<=3->p.length<=500->kh i->kh j->(kh (rk k i j)->∀H',MS CM CF CC H' a (s.fj<|p++[.int (rk k i j)])->Ext a s H (s.fj<|p++[.int (rk k i j)]) H'->Q .non H')->(¬kh (rk k i j)->∀ea H',(∀b o,¬Mu a s b->H b=some o->H' b=some o)->E (.ref CT) (some ea) H')->pK CM CF CC CL CS CT vs H Q E
 |no (a:MA) (s:kj) (r:aj) (p:List V) (k:Nat) (v u:V):vs=[.ref a.m, .ref r]->MS CM CF CC H a s->s.pile=p++[v,u]->H r=some (.tup [.str (wordOf k)])->k<=3->p.length<=500->(iM CL H v\/(∃i,v=.int i)/\iM CL H u)->(∀c,v=.ref c->¬Mu a s c)->(∀c,u=.ref c->¬Mu a s c)->(∀ea H',(∀b o,¬Mu a s b->H b=some o->H' b=some o)->E (.ref CS) (some ea) H')->pK CM CF CC CL CS CT vs H Q E
section
variable {CM CF CC CL CS CT:aj}
abbrev wg:aJ:=top 34
theorem yO:bZ ["machine","row","numbers"] ["machine","row"] (bQ wg):={}
theorem KZ {fR:aj}{gR:FuncData}(F:iz K "do_reckon" "do_reckon" wg f fd)(Tx:uY K CM CF CC CL)(h1:Has P w K mg aV 1 "taken_off" ["pile","count"] rR)
  (G:cP P w K mg aV (fP P w) 3 fR gR ["word","one","other"] (Ac CL CS CT)) (hm:mg "reckoned"=some (.ref fR)) (kp:keepIn K (.ref fR)=true) (b:Binds K gR ["word","one","other"] []):
  cP P w K mg aV (fP P w) 4 f fd ["machine","row"] (pK CM CF CC CL CS CT):=by
 refine F.tU yO (λdF A aU s H vs Q E hr h=>?_) (by rintro _ _ _ _ ⟨⟩<;>subst_vars<;>rfl);refine⟨_,bJ (iy 2 yO.nd (dG h1 hr (by decide) rfl (bx (fQ K (pv 0) rfl)<|bx bK bH)))
  (bO (cg (ji K (fQ K (pv 0) rfl) (bx (eF G hr rfl hm kp b .nil cX
   (bx (bY (fG K) (pv 1) bK)<|bx (bY (fG K) (pv 2) bK) (bx (bY (fG K) (pv 2) bK) bH))) bH)))),?_⟩
 rcases h with ⟨a,s,r,p,k,i,j,rfl,M,hp,oO,hk,lp,hi,hj,q1,q2⟩|⟨a,s,r,p,k,v,u,rfl,M,hp,oO,hk,lp,hn,nv,nu,q⟩
 ·have iH:=M.hp
  rw[hp]at iH;refine⟨_,rfl,a.m,CM,a.dx,_, .ref a.pl,rfl,M.ob,Tx.cm,Tx.m2,mf2 _ _ _ _ _ _,a.pl,p,[.int i, .int j],2,rfl,iH,rfl,by decide,λt H1 ht0 ht hp1 k1=>?_⟩;have M1:=M.kp1 k1 hp1;have x1:Ext a s H (s.fj p) H1:=yp.xt k1;have hr1:=(x1 r _ (M.qu oO) oO).2;refine⟨_,rfl,a.m,CM,a.dx,_, .ref a.pl,rfl,M1.ob,Tx.cm,Tx.m2,mf2 _ _ _ _ _ _, .inl ⟨rfl,_,dM.of M1.hp⟩,cV (a:=r) (j:=0) rfl hr1 rfl ⟨_,rfl,t,_,0, .int i,rfl,rfl,iW.of ht,cI (j:=0) rfl,
   cV (a:=t) (j:=1) rfl ht rfl (.mk k i j rfl hk hi hj (λhin H2 s2=>?_) λhout ea H2 s2=>q2 hout ea H2 λb o n h=>s2 b o (x1 b o n h).2)⟩⟩
  have M2:=M1.same s2;exact⟨a.pl,p,_,rfl,rfl,M2.hp,dB (by exact ad2 lp<|by decide),q1 hin _ (M2.fj _)<|(x1.trans<|Same.ext s2).trans Fx⟩
 ·have iH:=M.hp
  rw[hp]at iH;refine⟨_,rfl,a.m,CM,a.dx,_, .ref a.pl,rfl,M.ob,Tx.cm,Tx.m2,mf2 _ _ _ _ _ _,a.pl,p,[v,u],2,rfl,iH,rfl,by decide,λt H1 ht0 ht hp1 k1=>?_⟩;have M1:=M.kp1 k1 hp1;have x1:Ext a s H (s.fj p) H1:=yp.xt k1;have hr1:=(x1 r _ (M.qu oO) oO).2;have hn1:iM CL H1 v\/(∃i,v=.int i)/\iM CL H1 u:=hn.imp (λh=>h.kp λc o e h=>(x1 c o (nv c e) h).2) λh=>⟨h.1,h.2.kp λc o e h=>(x1 c o (nu c e) h).2⟩;exact⟨_,rfl,a.m,CM,a.dx,_, .ref a.pl,rfl,M1.ob,Tx.cm,Tx.m2,mf2 _ _ _ _ _ _, .inl ⟨rfl,_,dM.of M1.hp⟩,cV (a:=r) (j:=0) rfl hr1 rfl ⟨_,rfl,t,_,0,v,rfl,rfl,iW.of ht,cI (j:=0) rfl,
   cV (a:=t) (j:=1) rfl ht rfl (.no k v u rfl hk hn1 λea H2 s2=>q ea H2 λb o n h=>s2 b o (x1 b o n h).2)⟩⟩
end
end Fw
namespace L2
theorem K3 {X:Cx}:jw X (.builtin "isinstance") (λxs H Q=>∃x t C b,xs=[x, .ref C]/\o9 X.K H x t/\kitOne X.K t (.ref C)=some b/\Q (.bl b) H):=by
 intro bG s U H xs us Q I r h;obtain⟨x,t,C,b,rfl,ty,e,q⟩:=h;obtain⟨u,w',rfl,rx,ry⟩:=vals2 r;cases(show w'=Value.ref C from ry);exact yw I rx ty e λtk=>⟨.bl b,H,I.tok tk,rfl,q⟩
end L2
namespace Fw
open L2
theorem yp.trans {m:aj}{H H1 H2:Hp}(a:yp m H H1)(b:yp m H1 H2):yp m H H2:=λc o n h=>b c o n (a c o n h)
theorem yp.free {m b:aj}{H H':Hp}(k:yp m H H')(n:b≠m)(h:H' b=none):H b=none:=by
 cases hz:H b with
 |none=>rfl
 |some o=>rw[k b o n hz]at h;cases h
theorem Zd {H:Hp}{d m C dx:aj}{o:HO}{fs fs':aP (Str×V)}(hm:H m=some (.ins C dx fs))(hd:H d=none):
  (upd H d o) m=some (.ins C dx fs)/\(upd (upd H d o) m<|.ins C dx fs') m=some (.ins C dx fs')/\(upd (upd H d o) m<|.ins C dx fs') d=some o/\yp m H (upd (upd H d o) m<|.ins C dx fs')/\d≠m:=by
 have n:m≠d:=bU hm hd;refine⟨by rw[bR n];exact hm,bA,by rw[bR (af2 n),bA],λb x nb h=>?_,af2 n⟩;rw[bR nb,bR (bU h hd)];exact h
theorem Jb {H:Hp}{x y:aj}{C:aj}{fs:aP (Str×V)}(hx:H x=none)(hy:H y=none)(n:y≠x):
  (upd (upd (upd H y<|.own x) x<|.ins C y []) x<|.ins C y fs) x=some (.ins C y fs)/\∀b o,H b=some o->(upd (upd (upd H y<|.own x) x<|.ins C y []) x<|.ins C y fs) b=some o:=by
 refine⟨bA,λb o h=>?_⟩;rw[bR (bU h hx),bR<|bU h hx,bR (bU h hy)];exact h
inductive Ad (CC:aj)(vs:List V)(H:Hp)(Q:VK)(E_:XK):Prop where
 |mk (p dx:aj) (v:V):vs=[.ref p,v]->H p=some (.ins CC dx [])->Q .non (upd H p<|.ins CC dx (uX v (.int 0)<|.int 0))->Ad CC vs H Q E_
inductive uZ (CF:aj)(vs:List V)(H:Hp)(Q:VK)(E_:XK):Prop where
 |mk (p dx own:aj) (be:V):vs=[.ref p, .ref own,be]->H p=some (.ins CF dx [])->Q .non (upd H p<|.ins CF dx (Mq own be))->uZ CF vs H Q E_
inductive wj (CL:aj)(vs:List V)(H:Hp)(Q:VK)(E_:XK):Prop where
 |mk (p dx k:aj) (to:V):vs=[.ref p,to, .ref k]->H p=some (.ins CL dx [])->Q .non (upd H p<|.ins CL dx (Tw to k))->wj CL vs H Q E_
inductive Ae (CC gO qG:aj)(vs:List V)(H:Hp)(Q:VK)(E:XK):Prop where
 |mk (p dx:aj) (m b u:Int):vs=[.ref p]->H p=some (.ins CC dx<|uX (.int m) (.int b) (.int u))->(m<b+1->∀ea,E (.ref gO) (some ea) H)->(b+1<=m->10<u+1->∀ea,E (.ref qG) (some ea) H)->(b+1<=m->u+1<=10->Q .non (upd H p<|.ins CC dx (uX (.int m) (.int<|b+1)<|.int (u+1))))->Ae CC gO qG vs H Q E
inductive qT (CC:aj)(vs:List V)(H:Hp)(Q:VK)(E_:XK):Prop where
 |mk (p dx:aj) (m b u:Int):vs=[.ref p]->H p=some (.ins CC dx<|uX (.int m) (.int b) (.int u))->Q .non (upd H p<|.ins CC dx (uX (.int m) (.int b)<|.int (u-1)))->qT CC vs H Q E_
section
variable {CM CF CC CL gO qG:aj}
abbrev Af:aJ:=inClass (top 23) 0
abbrev Ag:aJ:=inClass (top 23) 1
abbrev Ah:aJ:=inClass (top 23) 2
abbrev wz:aJ:=inClass (top 25) 0
abbrev Ai:aJ:=inClass (top 26) 0
abbrev GX:aJ:=inClass (top 27) 0
theorem PX:bZ ["self","most"] ["self","most"] (bQ Af):={}
theorem P0:bZ ["self"] ["self"] (bQ Ag):={}
theorem Qh:bZ ["self"] ["self"] (bQ Ah):={}
theorem K4:bZ ["self","to","kept"] ["self","to","kept"] (bQ wz):={}
theorem Qi:bZ ["self","own","behind"] ["self","own","behind"] (bQ Ai):={}
theorem TF:bZ ["self","most"] ["self","most"] (bQ GX):={}
theorem c1 (a:V):jd "most" a []=([("most",a)]:aP (Str×V)):=by kernel_rfl
theorem c2 (a b:V):jd "begun" b [("most",a)]=([("most",a),("begun",b)]:aP (Str×V)):=by kernel_rfl
theorem c3 (a b c:V):jd "under_way" c [("most",a),("begun",b)]=([("most",a),("begun",b),("under_way",c)]:aP (Str×V)):=by kernel_rfl
theorem f1 (a:V):jd "own" a []=([("own",a)]:aP (Str×V)):=by kernel_rfl
theorem f2 (a b:V):jd "behind" b [("own",a)]=([("own",a),("behind",b)]:aP (Str×V)):=by kernel_rfl
theorem l1 (a:V):jd "to" a []=([("to",a)]:aP (Str×V)):=by kernel_rfl
theorem l2 (a b:V):jd "kept" b [("to",a)]=([("to",a),("kept",b)]:aP (Str×V)):=by kernel_rfl
theorem Qj (F:iz K "__init__" "Calls.__init__" Af f fd)(Tx:uY K CM CF CC CL):cP P w K mg aV jV 1 f fd ["self","most"] (Ad CC):=by
 refine F.ok PX λdF A aU s H vs Q E hr h=>?_;obtain⟨p,dx,v,rfl,hp,q⟩:=h;refine⟨_,bJ (iw K (pv 0) (pv 1) rfl)<|bJ (iw K (pv 0) bK rfl) (bO<|iw K (pv 0) bK rfl),?_⟩;refine⟨_,rfl,_,rfl,p,CC,dx,[],rfl,hp,Tx.cc,Tx.c1,(by show 0<1000;decide),?_⟩;rw[c1];refine⟨_,rfl,p,CC,dx,_,rfl,bA,Tx.cc,Tx.c2,(by show 1<1000;decide),?_⟩;rw[c2];refine⟨_,rfl,p,CC,dx,_,rfl,bA,Tx.cc,Tx.c3,(by show 2<1000;decide),?_⟩;rw[c3,nQ,nQ];exact q
theorem DK (F:iz K "__init__" "Frame.__init__" Ai f fd)(Tx:uY K CM CF CC CL):cP P w K mg aV jV 1 f fd ["self","own","behind"] (uZ CF):=by
 refine F.ok Qi λdF A aU s H vs Q E hr h=>?_;obtain⟨p,dx,own,be,rfl,hp,q⟩:=h;refine⟨_,bJ (iw K (pv 0) (pv 1) rfl)<|bO (iw K (pv 0) (pv 2) rfl),?_⟩;refine⟨_,rfl,_,rfl,p,CF,dx,[],rfl,hp,Tx.cf,Tx.f1,(by show 0<1000;decide),?_⟩;rw[f1];refine⟨_,rfl,_,rfl,p,CF,dx,_,rfl,bA,Tx.cf,Tx.f2,(by show 1<1000;decide),?_⟩;rw[f2,nQ];exact q
theorem K5 (F:iz K "__init__" "Closed.__init__" wz f fd)(Tx:uY K CM CF CC CL):cP P w K mg aV jV 1 f fd ["self","to","kept"] (wj CL):=by
 refine F.ok K4 λdF A aU s H vs Q E hr h=>?_;obtain⟨p,dx,k,to,rfl,hp,q⟩:=h;refine⟨_,bJ (iw K (pv 0) (pv 1) rfl)<|bO (iw K (pv 0) (pv 2) rfl),?_⟩;refine⟨_,rfl,_,rfl,p,CL,dx,[],rfl,hp,Tx.cl,Tx.l1,(by show 0<1000;decide),?_⟩;rw[l1];refine⟨_,rfl,_,rfl,p,CL,dx,_,rfl,bA,Tx.cl,Tx.l2,(by show 1<1000;decide),?_⟩;rw[l2,nQ];exact q
theorem Qk {bm bm':aP ak}{dD B d7 je B' oF:String}{tk:Tok}(F:iz K "begin" "Calls.begin" Ag f fd)(Tx:uY K CM CF CC CL)(O:OwnCls "TooLong" gO bm dD mg aV)(FB:ExcBaseFacts B dD d7 bm)(O':OwnCls "TooDeep" qG bm' je mg aV)(FB':ExcBaseFacts B' je oF bm')
  (hM:mg "MOST_UNDER_WAY"=some (.int 10 tk)):cP P w K mg aV (fP P w) 1 f fd ["self"] (Ae CC gO qG):=by
 refine F.tU P0 λdF A aU s H vs Q E hr h=>?_;obtain⟨p,dx,m,b,u,rfl,hp,q1,q2,q3⟩:=h;refine⟨_,bJ (dz (cH Cr (dN jt (fQ K (pv 0) rfl) bK)<|fQ K (pv 0) rfl) (bO<|gG O FB rfl (bx bV bH)) cN)
  (bJ (dz (cH Cr (dN jt (fQ K (pv 0) rfl) bK)<|jo (v:=.int 10) rfl hM ⟨_,rfl⟩) (bO<|gG O' FB' rfl (bx bV bH)) cN)
  (bJ (iw K (pv 0) (dN jt (fQ K (pv 0) rfl) bK) rfl)<|bO (iw K (pv 0) (dN jt (fQ K (pv 0) rfl) bK) rfl))),?_⟩
 refine⟨_,rfl,p,CC,dx,_,_,rfl,hp,Tx.cc,Tx.c2,cf2 _ _ _,b,1,rfl,rfl,_,rfl,p,CC,dx,_,_,rfl,hp,Tx.cc,Tx.c1,cf1 _ _ _,b+1,m,rfl,rfl,_,rfl,gU (λc=>?_) λc=>?_⟩
 ·exact⟨(dO 1),λea _=>q1 (afZ c) ea⟩
 have c1:b+1<=m:=Int.not_lt.mp λz=>c (af0 z);refine⟨_,rfl,p,CC,dx,_,_,rfl,hp,Tx.cc,Tx.c3,cf3 _ _ _,u,1,rfl,rfl,u+1,10,rfl,rfl,_,rfl,gU (λc'=>?_) λc'=>?_⟩
 ·exact⟨(dO 1),λea _=>q2 c1 (afZ c') ea⟩
 have c2:u+1<=10:=Int.not_lt.mp λz=>c' (af0 z);refine⟨_,rfl,p,CC,dx,_,_,rfl,hp,Tx.cc,Tx.c2,cf2 _ _ _,b,1,rfl,rfl,_,rfl,p,CC,dx,_,rfl,hp,Tx.cc,Tx.c2,(by show 3<1000;decide),?_⟩;rw[cp2];refine⟨_,rfl,p,CC,dx,_,_,rfl,bA,Tx.cc,Tx.c3,cf3 _ _ _,u,1,rfl,rfl,_,rfl,p,CC,dx,_,rfl,bA,Tx.cc,Tx.c3,(by show 3<1000;decide),?_⟩;rw[cp3,nQ];exact q3 c1 c2
theorem Ql (F:iz K "come_back" "Calls.come_back" Ah f fd)(Tx:uY K CM CF CC CL):cP P w K mg aV (fP P w) 1 f fd ["self"] (qT CC):=by
 refine F.tU Qh λdF A aU s H vs Q E hr h=>?_;obtain⟨p,dx,m,b,u,rfl,hp,q⟩:=h;refine⟨_,bO<|iw K (pv 0) (dN zE (fQ K (pv 0) rfl) bK) rfl,?_⟩;refine⟨_,rfl,p,CC,dx,_,_,rfl,hp,Tx.cc,Tx.c3,cf3 _ _ _,u,1,rfl,rfl,_,rfl,p,CC,dx,_,rfl,hp,Tx.cc,Tx.c3,(by show 3<1000;decide),?_⟩;rw[cp3];exact q
end
theorem DN {K:aN}{H:Hp}{a:aj}{xs:aP V}{tt:TT}{te:TE}{U':L2.St}{Q:VK}(Pv:Nat->aP V->Hp->Prop)(h0:Pv 0 [] H)(hl:∀i vs H,i<=xs.length->Pv i vs H->iW K H a xs/\vs.length<sizeLine)
  (hs:∀i x vs H2,i<xs.length->xs[i]?=some x->Pv i vs H2->tt (some x::U') H2 λb H4=>if b=true then te (some x::U') H4 λv H5=>Nx xs.length i (Pv (i+1) (vs++[v]) H5) else Nx xs.length i (Pv (i+1) vs H4))
  (hd:∀vs H2,Pv xs.length vs H2->∀l,H2 l=none->Q (.ref l) (upd H2 l<|.lst vs)):CZ (Itt K a) tt te U' Q H:=by
 refine⟨λi m vs H=>m=xs.length-i/\i<=xs.length/\Pv i vs H,⟨xs.length,by simp,aeG _,h0⟩,?_⟩;rintro i m vs H2 ⟨rfl,hi,p⟩;obtain⟨q1,q2⟩:=hl i vs H2 hi p;refine⟨q2,?_⟩;by_cases jX:i<xs.length
 ·refine .inr ⟨⟨xs,xs[i],q1,by simp[jX]⟩,?_⟩
  rintro x H3 ⟨e,y⟩;subst e;exact hs i x vs _ jX (y xs q1) p
 ·have e:i=xs.length:=by exact aeT hi (Nat.not_lt.mp jX)
  subst e;exact .inl ⟨⟨xs,q1,adZ _⟩,hd vs H2 p⟩
noncomputable def kj.push (s:kj)(f:Fm)(t:V):kj:={s with cur:=f,outer:=s.outer++[s.cur],ah:=t}
noncomputable def kj.pop (s:kj)(f:Fm)(O:List Fm)(t:V):kj:={s with cur:=f,outer:=O,ah:=t}
section
variable {CM CF CC:aj}{H H':Hp}{a:MA}{s:kj}
theorem MS.acF (M:MS CM CF CC H a s){b:aj}(h:b∈a.pl::a.gY::a.st::(s.cur::s.outer).map (·.own)):∃xs,H b=some (.lst xs):=by
 rcases aev.mp h with rfl|hm
 ·exact⟨_,M.hp⟩
 ·rcases aev.mp hm with rfl|hm
  ·exact⟨_,M.hf⟩
  ·rcases aev.mp hm with rfl|hm
   ·exact⟨_,M.hs⟩
   ·obtain⟨f,hf,rfl⟩:=List.mem_map.mp hm
    exact⟨_,(M.fs f hf).2⟩
theorem MS.push (M:MS CM CF CC H a s){f:Fm}{t:V}(h1:H' a.m=some (.ins CM a.dx<|v7 a.cl a.pl f.fr a.gY a.st t))(h2:H' a.gY=some (.lst<|(s.outer++[s.cur]).map λf=>V.ref f.fr))
  (h3:H' f.fr=some (.ins CF f.qe<|Mq f.own f.be)) (h4:H' f.own=some (.lst f.vs)) (h5:H f.own=none) (k:∀b o,b≠a.m->b≠a.gY->H b=some o->H' b=some o):MS CM CF CC H' a (s.push f t)/\Ext a s H (s.push f t) H':=by
 have hin:∀g∈s.outer++[s.cur],g∈s.cur::s.outer:=λg hg=>by
  rcases aeu.mp hg with h|h
  ·exact ad0 _ h
  ·rw[aec.mp h];exact ad3
 have keep:∀g∈s.cur::s.outer,H' g.fr=some (.ins CF g.qe<|Mq g.own g.be)/\H' g.own=some (.lst g.vs):=λg hg=>
  ⟨k _ _ (M.fm hg) (obl (M.fs g hg).1 M.hf) (M.fs g hg).1,k _ _ (af2<|obl M.ob (M.fs g hg).2) (M.fof hg) (M.fs g hg).2⟩
 refine⟨⟨h1,k _ _ (af2<|obl M.ob M.hp) (af2 M.Tz) M.hp,h2,k _ _ (af2 M.mcl) (obl M.hc M.hf) M.hc,k _ _ (af2<|obl M.ob M.hs) M.YQ M.hs,λg hg=>?_,?_⟩,λb o n h=>⟨?_,?_⟩⟩
 ·rcases aev.mp hg with rfl|hg'
  ·exact⟨h3,h4⟩
  ·exact keep g<|hin g hg'
 ·have n0:f.own∉a.pl::a.gY::a.st::(s.cur::s.outer).map (·.own):=λhm=>by
   obtain⟨xs,hx⟩:=M.acF hm;rw[hx]at h5;cases h5
  have n1:(f.own::a.pl::a.gY::a.st::(s.cur::s.outer).map (·.own)).Nodup:=afu.mpr ⟨n0,M.nd⟩;refine(List.Perm.nodup_iff ?_).mpr n1;show(a.pl::a.gY::a.st::f.own::(s.outer++[s.cur]).map (·.own)).Perm _;rw[aes];refine List.Perm.trans ?_<|List.perm_middle (l₁:=[a.pl,a.gY,a.st]) (a:=f.own) (l₂:=(s.cur::s.outer).map (·.own));exact((((afA s.cur.own<|s.outer.map (·.own)).cons _).cons _).cons _).cons _
 ·rintro(rfl|rfl|hm)
  ·exact n<|.inl rfl
  ·exact n<|.inr (.inl rfl)
  ·have hm':b∈a.pl::a.gY::a.st::f.own::(s.outer++[s.cur]).map (·.own):=hm
   by_cases e:b=f.own
   ·rw[e,h5]at h;cases h
   ·refine n (.inr<|.inr ?_)
    simp only[aev,aei,aes,aeu,afI,aej,af3]at hm' ⊢;rcases hm' with h|h|h|h|h|h
    ·exact .inl h
    ·exact .inr<|.inl h
    ·exact .inr<|.inr (.inl h)
    ·exact absurd h e
    ·exact .inr<|.inr (.inr<|.inr h)
    ·exact .inr<|.inr (.inr<|.inl h)
 ·exact k b o (λe=>n<|.inl e) (λe=>n<|.inr (.inr<|e ▸ ad0 _ ad3)) h
theorem MS.pop (M:MS CM CF CC H a s){f:Fm}{O:aP Fm}{t:V}(ho:s.outer=O++[f])(h1:H' a.m=some (.ins CM a.dx<|v7 a.cl a.pl f.fr a.gY a.st t))(h2:H' a.gY=some (.lst<|O.map λf=>V.ref f.fr))
  (k:∀b o,b≠a.m->b≠a.gY->H b=some o->H' b=some o):MS CM CF CC H' a (s.pop f O t)/\Ext a s H (s.pop f O t) H':=by
 have hin:∀g∈f::O,g∈s.cur::s.outer:=λg hg=>by
  rw[ho];rcases aev.mp hg with rfl|h
  ·exact ad0 _<|ad5 _ (aec.mpr rfl)
  ·exact ad0 _<|aew _ h
 refine⟨⟨h1,k _ _ (af2<|obl M.ob M.hp) (af2 M.Tz) M.hp,h2,k _ _ (af2 M.mcl) (obl M.hc M.hf) M.hc,k _ _ (af2<|obl M.ob M.hs) M.YQ M.hs,λg hg=>?_,?_⟩,λb o n h=>⟨?_,?_⟩⟩
 ·have hg':=hin g hg
  exact⟨k _ _ (M.fm hg') (obl (M.fs g hg').1 M.hf) (M.fs g hg').1,k _ _ (af2<|obl M.ob (M.fs g hg').2) (M.fof hg') (M.fs g hg').2⟩
 ·have n1:=M.nd
  rw[ho]at n1;have n2:(a.pl::a.gY::a.st::(O++[f]).map (·.own)).Nodup:=n1.sublist ((((List.sublist_cons_self _ _).cons₂ _).cons₂ _).cons₂ _);rw[aes]at n2;exact(List.Perm.nodup_iff<|(((afA f.own<|O.map (·.own)).symm.cons _).cons _).cons _).mpr n2
 ·rintro(rfl|rfl|hm)
  ·exact n<|.inl rfl
  ·exact n<|.inr (.inl rfl)
  ·have hm':b∈a.pl::a.gY::a.st::(f::O).map (·.own):=hm
   refine n<|.inr (.inr ?_);rcases aev.mp hm' with h|h
   ·exact h ▸ ad3
   ·refine ad0 _ ?_
    rcases aev.mp h with h|h
    ·exact h ▸ ad3
    ·refine ad0 _ ?_
     rcases aev.mp h with h|h
     ·exact h ▸ ad3
     ·refine ad0 _ ?_
      obtain⟨g,hg,e⟩:=List.mem_map.mp h;exact List.mem_map.mpr ⟨g,hin g hg,e⟩
 ·exact k b o (λe=>n<|.inl e) (λe=>n<|.inr (.inr<|e ▸ ad0 _ ad3)) h
end
inductive wA (CM CF CC:aj)(vs:List V)(H:Hp)(Q:VK)(E_:XK):Prop where
 |mk (a:MA) (s:kj) (pt:aj) (js:List Nat) (ws:List V):vs=[.ref a.m, .ref pt]->MS CM CF CC H a s->H pt=some (.tup (js.map λj:Nat=>V.int (j:Int)))->js.map (λj=>s.cur.vs[j]?)=ws.map some->js.length<=500->(∀k,H k=none->Q (.ref k) (upd H k<|.lst ws))->wA CM CF CC vs H Q E_
section
variable {CM CF CC CL gO qG:aj}
abbrev rT:aJ:=top 37
theorem K6:bZ ["machine","places"] ["machine","places"] (bQ rT):={}
theorem K7 (F:iz K "locals_at" "locals_at" rT f fd)(Tx:uY K CM CF CC CL):cP P w K mg aV jV 1 f fd ["machine","places"] (wA CM CF CC):=by
 refine F.ok K6 λdF A aU s H vs Q E hr h=>?_;obtain⟨a,s,pt,js,ws,rfl,M,hpt,hjs,lj,q⟩:=h;have hz:=sizeLine_eq;have hl:ws.length=js.length:=by
  have:=congrArg List.length hjs;simpa using this.symm
 refine⟨_,bO (cQ (Om (bQ rT) ["machine","places"] ["machine"] [0] (by decide+kernel) (piT K<|pv 1) (λC s₀ H₀ ex=>pX)
  (λC s₀ H₀ ex=>show PE _ _ (Fv (CK K) (Sv K (Sv K _ "frame") "own") _) from bY (yc K) (fQ K (fQ K (pv 1) rfl) rfl) (pv 0) λ_ _=>rfl))),?_⟩
 refine⟨_,rfl,pt,rfl,⟨_,iW.of hpt⟩,DN (xs:=js.map λj:Nat=>V.int (j:Int)) (λi vs H'=>H'=H/\vs=ws.take i) ⟨rfl,rfl⟩ ?_ ?_ ?_⟩
 ·rintro i vs H' hi ⟨rfl,rfl⟩
  exact⟨iW.of hpt,by rw[aeh];omega⟩
 ·rintro i x vs H' hi hx ⟨rfl,rfl⟩
  rw[aee]at hx;cases hj:js[i]? with
  |none=>rw[hj]at hx;cases hx
  |some j=>
   rw[hj]at hx;cases hx;have e:=congrArg (·[i]?) hjs;simp only[aee,hj,aeD]at e;cases hw:ws[i]? with
   |none=>rw[hw]at e;cases e
   |some v=>
    rw[hw]at e;have e':s.cur.vs[j]?=some v:=by injection e
    refine tt1<|jK ⟨_,rfl,a.m,CM,a.dx,_, .ref s.cur.fr,rfl,M.ob,Tx.cm,Tx.m3,YK _ _ _ _ _ _,s.cur.fr,CF,s.cur.qe,_, .ref s.cur.own,rfl,M.fc,Tx.cf,Tx.f1,ff1 _ _,_,rfl,s.cur.own,_,j,v,rfl,rfl,dM.of M.ho,cI (j:=j) e',nx hi ⟨rfl,?_⟩⟩;rw[aeW,hw]
    rfl
 ·rintro vs H' ⟨rfl,rfl⟩ l hl'
  rw[aeb,<-hl,ae2];exact q l hl'
end
inductive Aj (CM CF CC CL:aj)(vs:List V)(H:Hp)(Q:VK)(E_:XK):Prop where
 |mk (a:MA) (s:kj) (r pt:aj) (to:V) (js:List Nat) (ws:List V):vs=[.ref a.m, .ref r]->MS CM CF CC H a s->H r=some (.tup [.str "close",to, .ref pt])->H pt=some (.tup (js.map λj:Nat=>V.int (j:Int)))->js.map (λj=>s.cur.vs[j]?)=ws.map some->js.length<=500->s.pile.length<=500->(∀c Ak k H',MS CM CF CC H' a (s.fj<|s.pile++[.ref c])->H' c=some (.ins CL Ak<|Tw to k)->H' k=some (.lst ws)->¬Mu a s c->¬Mu a s k->Ext a s H (s.fj<|s.pile++[.ref c]) H'->Q .non H')->Aj CM CF CC CL vs H Q E_
inductive qg (CM CF CC CL CS gO qG:aj)(vs:List V)(H:Hp)(Q:VK)(E:XK):Prop where
 |mk (a:MA) (s:kj) (r c Ak k:aj) (p ws:List V) (v to:V):vs=[.ref a.m, .ref r]->MS CM CF CC H a s->s.pile=p++[.ref c,v]->H c=some (.ins CL Ak<|Tw to k)->H k=some (.lst ws)->¬Mu a s c->¬Mu a s k->p.length<=500->ws.length<=500->s.outer.length<=500->(s.most<s.begun+1->∀ea H',(∀b o,¬Mu a s b->H b=some o->H' b=some o)->E (.ref gO) (some ea) H')->(s.begun+1<=s.most->10<s.under+1->∀ea H',(∀b o,¬Mu a s b->H b=some o->H' b=some o)->E (.ref qG) (some ea) H')->(s.begun+1<=s.most->s.under+1<=10->∀fr qe own H',MS CM CF CC H' a (((s.fj p).setC (s.begun+1)<|s.under+1).push ⟨fr,qe,own,ws++[v],s.ah⟩ to)->Ext a s H (((s.fj p).setC (s.begun+1)<|s.under+1).push ⟨fr,qe,own,ws++[v],s.ah⟩ to) H'->Q .non H')->qg CM CF CC CL CS gO qG vs H Q E
 |no (a:MA) (s:kj) (r:aj) (p:List V) (v u:V):vs=[.ref a.m, .ref r]->MS CM CF CC H a s->s.pile=p++[v,u]->zZ H v->(∀c,v=.ref c->¬Mu a s c)->(∀ea H',(∀b o,¬Mu a s b->H b=some o->H' b=some o)->E (.ref CS) (some ea) H')->qg CM CF CC CL CS gO qG vs H Q E
inductive Am (CM CF CC:aj)(vs:List V)(H:Hp)(Q:VK)(E_:XK):Prop where
 |mk (a:MA) (s:kj) (r:aj):vs=[.ref a.m, .ref r]->MS CM CF CC H a s->s.outer.length<=500->(s.outer=[]->∀H',MS CM CF CC H' a (s.lV .non)->Ext a s H (s.lV .non) H'->Q .non H')->(∀O f,s.outer=O++[f]->∀H',MS CM CF CC H' a ((s.setC s.begun<|s.under-1).pop f O s.cur.be)->Ext a s H ((s.setC s.begun<|s.under-1).pop f O s.cur.be) H'->Q .non H')->Am CM CF CC vs H Q E_
section
variable {CM CF CC CL gO qG:aj}
abbrev tW:aJ:=top 38
abbrev wB:aJ:=top 40
abbrev wC:aJ:=top 41
theorem GZ:bZ ["machine","row"] ["machine","row"] (bQ tW):={}
theorem tX:bZ ["machine","row","values","function"] ["machine","row"] (bQ wB):={}
theorem K8:bZ ["machine","row"] ["machine","row"] (bQ wC):={}
theorem G3 {fL:aj}{gL:FuncData}(F:iz K "do_close" "do_close" tW f fd)(Tx:uY K CM CF CC CL)(ML:Mk K CL fL)(GL:cP P w K mg aV jV 1 fL gL ["self","to","kept"] (wj CL))(bL:Binds K gL ["self","to","kept"] [])(hL:mg "Closed"=some (.ref CL))
  (h1:Has P w K mg aV 1 "locals_at" ["machine","places"] (wA CM CF CC)):cP P w K mg aV (fP P w) 3 f fd ["machine","row"] (Aj CM CF CC CL):=by
 refine F.tU GZ λdF A aU s H vs Q E hr h=>?_;obtain⟨a,s,r,pt,to,js,ws,rfl,M,oO,hpt,hjs,lj,lp,q⟩:=h;refine⟨_,bO (cg (ji K (fQ K (pv 0) rfl) (bx (rH ML GL hr rfl hL bL .nil vK
  (bx (bY (fG K) (pv 1) bK) (bx (dG h1 hr (by decide) rfl (bx (pv 0)<|bx (bY (fG K) (pv 1) bK) bH)) bH))) bH))),?_⟩
 refine⟨_,rfl,a.m,CM,a.dx,_, .ref a.pl,rfl,M.ob,Tx.cm,Tx.m2,mf2 _ _ _ _ _ _, .inl ⟨rfl,_,dM.of M.hp⟩,_,rfl,r,_,1,to,rfl,rfl,iW.of oO,cI (j:=1) rfl,_,rfl,_,rfl,r,_,2, .ref pt,rfl,rfl,iW.of oO,cI (j:=2) rfl,
  a,s,pt,js,ws,rfl,M,hpt,hjs,lj,λk hk=>λc Ak hc hdx ncd=>⟨c,Ak,k,to,rfl,bA,rfl,?_⟩⟩
 have s1:=bI hk (.lst ws);have hk1:(upd H k<|.lst ws) k=some (.lst ws):=bA;revert s1 hk1 hc hdx;generalize upd H k (.lst ws)=H1;intro hc hdx s1 hk1;obtain⟨a5,k5⟩:=Jb (C:=CL) (fs:=Tw to k) hc hdx ncd;revert a5 k5;generalize upd (upd (upd H1 Ak<|.own c) c<|.ins CL Ak []) c (.ins CL Ak<|Tw to k)=H2;intro a5 k5;have M2:=(M.same s1).same k5;have n1:c≠a.pl:=af2 (bU (s1 _ _ M.hp) hc);have n2:k≠a.pl:=af2 (bU M.hp hk);refine⟨a.pl,s.pile, .ref c,rfl,rfl,M2.hp,dB (by exact ad2 lp<|by decide),q c Ak k _ (M2.fj _) (cW a5 n1) (cW (k5 _ _ hk1) n2) ((M.same s1).Ja hc) (M.Ja hk) ?_⟩;exact((Same.ext s1).trans<|Same.ext k5).trans Fx
theorem K9 {fB:aj}{gB:FuncData}(F:iz K "do_back" "do_back" wC f fd)(Tx:uY K CM CF CC CL)(ml:mg "len"=none)(MB:Meth K CC "come_back" fB)(GB:cP P w K mg aV (fP P w) 1 fB gB ["self"] (qT CC))(bB:Binds K gB ["self"] []):
  cP P w K mg aV (fP P w) 2 f fd ["machine","row"] (Am CM CF CC):=by
 refine F.tU K8 λdF A aU s H vs Q E hr h=>?_;obtain⟨a,s,r,rfl,M,lo,q1,q2⟩:=h;refine⟨_,bJ (dz (cH eG (cu (mV K) rfl ml af6 (bx (fQ K (pv 0) rfl) bH)) bK) (bJ (iw K (pv 0) vB rfl)<|bO Sd) cN)
  (bJ (cg<|Cz (E:=E) (fQ K (pv 0) rfl) Tx.cc MB GB hr bB .nil cX)
  (bJ (iw K (pv 0) (fQ K (fQ K (pv 0) rfl) rfl) rfl)
  (bO<|iw K (pv 0) (zX K<|fQ K (pv 0) rfl) rfl))),?_⟩
 refine⟨_,rfl,a.m,CM,a.dx,_, .ref a.gY,rfl,M.ob,Tx.cm,Tx.m4,mf4 _ _ _ _ _ _,a.gY,_,rfl, .inl<|dM.of M.hf,rfl,_,rfl,gU (λc=>?_) λc=>?_⟩
 ·have c1:V.int ((s.outer.map λf=>V.ref f.fr).length:Nat)=V.int 0:=afZ c
  have c2:s.outer=[]:=by
   have e:(((s.outer.map λf=>V.ref f.fr).length:Nat):Int)=0:=by injection c1
   rw[aeb]at e;exact List.length_eq_zero_iff.mp (by omega)
  refine⟨_,rfl,a.m,CM,a.dx,_,rfl,M.ob,Tx.cm,Tx.m6,(by show 6<1000;decide),?_⟩;rw[YL];exact q1 c2 _ (M.lV .non) xtA
 ·have c2:s.outer≠[]:=λz=>c (by rw[z];rfl)
  obtain⟨O,f,ho⟩:∃O f,s.outer=O++[f]:=⟨s.outer.dropLast,s.outer.getLast c2,(List.dropLast_concat_getLast c2).symm⟩;have hof:H a.gY=some (.lst<|(O.map λf=>V.ref f.fr)++[V.ref f.fr]):=by
   have h:=M.hf;rw[ho,aes]at h;exact h
  refine⟨_,rfl,a.m,CM,a.dx,_, .ref a.cl,rfl,M.ob,Tx.cm,Tx.m1,mf1 _ _ _ _ _ _,a.cl,a.KY,_,rfl,M.hc,rfl,a.cl,a.KY,s.most,s.begun,s.under,rfl,M.hc,?_⟩;have M1:=M.setC s.begun (s.under-1);have x1:Ext a s H (s.setC s.begun<|s.under-1) (upd H a.cl<|.ins CC a.KY (uX (.int s.most) (.int s.begun)<|.int (s.under-1))):=xtC;have Ze:=cW (b:=a.cl) (x:=.ins CC a.KY<|uX (.int s.most) (.int s.begun) (.int<|s.under-1)) hof (af2<|obl M.hc M.hf);revert M1 x1 Ze;generalize upd H a.cl (.ins CC a.KY<|uX (.int s.most) (.int s.begun) (.int<|s.under-1))=H1;intro M1 x1 Ze;refine⟨_,rfl,a.m,CM,a.dx,_, .ref s.cur.fr,rfl,M1.ob,Tx.cm,Tx.m3,YK _ _ _ _ _ _,s.cur.fr,CF,s.cur.qe,_,s.cur.be,rfl,M1.fc,Tx.cf,Tx.f2,ff2 _ _,_,rfl,a.m,CM,a.dx,_,rfl,M1.ob,Tx.cm,Tx.m6,(by show 6<1000;decide),?_⟩;rw[YL];have M2:=M1.lV s.cur.be;have nm:a.gY≠a.m:=af2 (obl M.ob M.hf);have abg:=cW (b:=a.m) (x:=.ins CM a.dx<|v7 a.cl a.pl s.cur.fr a.gY a.st s.cur.be) Ze nm;refine⟨_,rfl,a.m,CM,a.dx,_, .ref a.gY,rfl,bA,Tx.cm,Tx.m4,mf4 _ _ _ _ _ _, .inl ⟨rfl,_,dM.of abg⟩,a.gY,_, .ref f.fr,rfl,rfl,abg,by simp,?_⟩;rw[aem];refine⟨_,rfl,a.m,CM,a.dx,_,rfl,cW bA<|af2 nm,Tx.cm,Tx.m3,(by show 6<1000;decide),?_⟩;rw[mp3];obtain⟨M3,x3⟩:=M1.pop (f:=f) (O:=O) (t:=s.cur.be) (H':=upd (upd (upd H1 a.m<|.ins CM a.dx (v7 a.cl a.pl s.cur.fr a.gY a.st s.cur.be)) a.gY<|.lst (O.map λf=>V.ref f.fr)) a.m<|.ins CM a.dx (v7 a.cl a.pl f.fr a.gY a.st s.cur.be)) ho bA (cW bA nm)
   λb o n1 n2 h=>by rw[bR n1,bR n2,bR n1];exact h
  exact q2 O f ho _ M3<|x1.trans x3
end
section
variable {CM CF CC CL CS gO qG:aj}
theorem La {fB fF:aj}{gB gF:FuncData}{bm:aP ak}{dD B d7:String}(OS:OwnCls "Stuck" CS bm dD mg aV)(FS:ExcBaseFacts B dD d7 bm)(F:iz K "do_call" "do_call" wB f fd)(Tx:uY K CM CF CC CL)(IC:Xa K CL)(mi:mg "isinstance"=none)(h1:Has P w K mg aV 1 "taken_off" ["pile","count"] rR)(hL:mg "Closed"=some (.ref CL))
  (MB:Meth K CC "begin" fB) (GB:cP P w K mg aV (fP P w) 1 fB gB ["self"] (Ae CC gO qG)) (bB:Binds K gB ["self"] []) (MF:Mk K CF fF) (GF:cP P w K mg aV jV 1 fF gF ["self","own","behind"] (uZ CF)) (bF:Binds K gF ["self","own","behind"] []) (hF:mg "Frame"=some (.ref CF)):
  cP P w K mg aV (fP P w) 3 f fd ["machine","row"] (qg CM CF CC CL CS gO qG):=by
 refine F.tU tX (λdF A aU s H vs Q E hr h=>?_) (by rintro _ _ _ _ ⟨⟩<;>subst_vars<;>rfl);refine⟨_,bJ (iy 2 tX.nd (dG h1 hr (by decide) rfl (bx (fQ K (pv 0) rfl)<|bx bK bH)))
  (bJ (iy 3 tX.nd<|bY (fG K) (pv 2) bK)
  (bJ (dz (jO<|jD (cu K3 rfl mi boot_isinstance (bx (pv 3)<|bx (jo (v:=.ref CL) rfl hL rfl) bH))) (bO<|gG OS FS rfl (bx bV bH)) cN)
  (bJ (cg (Cz (E:=E) (fQ K (pv 0) rfl) Tx.cc MB GB (hr.mono<|by decide) bB .nil cX))
  (bJ (cg<|ji K (fQ K (pv 0) rfl) (bx (fQ K (pv 0) rfl) bH))
  (bJ (iw K (pv 0) (rH MF GF hr rfl hF bF .nil vK (bx (dN vJ (fQ K (pv 3) rfl)<|gJ (bx (bY (fG K) (pv 2) bK) bH))<|bx (fQ K (pv 0) rfl) bH)) rfl)
  (bO<|iw K (pv 0) (fQ K (pv 3) rfl) rfl)))))),?_⟩
 rcases h with ⟨a,s,r,c,Ak,k,p,ws,v,to,rfl,M,hp,hc,hk,nc,nk,lp,lw,lo,q1,q2,q3⟩|⟨a,s,r,p,v,u,rfl,M,hp,hn,nv,q⟩
 rotate_left
 ·have iH:=M.hp
  rw[hp]at iH;refine⟨_,rfl,a.m,CM,a.dx,_, .ref a.pl,rfl,M.ob,Tx.cm,Tx.m2,mf2 _ _ _ _ _ _,a.pl,p,[v,u],2,rfl,iH,rfl,by decide,λt H1 ht0 ht hp1 k1=>?_⟩;have x1:Ext a s H (s.fj p) H1:=yp.xt k1;obtain⟨ty,h1,h2⟩:=(hn.kp (H':=H1) λc o e h=>(x1 c o (nv c e) h).2).ty IC;refine(cV (a:=t) (j:=0) rfl ht rfl ?_);exact⟨_,rfl,_,_,_,_,rfl,h1,h2,false,rfl,jK ⟨dO 1,λea _=>q ea H1 λb o n h=>(x1 b o n h).2⟩⟩
 have iH:=M.hp;rw[hp]at iH;refine⟨_,rfl,a.m,CM,a.dx,_, .ref a.pl,rfl,M.ob,Tx.cm,Tx.m2,mf2 _ _ _ _ _ _,a.pl,p,[.ref c,v],2,rfl,iH,rfl,by decide,λt H1 ht0 ht hp1 k1=>?_⟩;have M1:=M.kp1 k1 hp1;have x1:Ext a s H (s.fj p) H1:=yp.xt k1;have hc1:=(x1 c _ nc hc).2;have hk1:=(x1 k _ nk hk).2;refine(cV (a:=t) (j:=0) rfl ht rfl ?_);refine⟨_,rfl,_,_,_,_,rfl, .ins hc1 Tx.cl IC.i1 IC.i2 IC.i3 IC.i4,IC.i5,true,rfl,lU ?_⟩;refine⟨_,rfl,a.m,CM,a.dx,_, .ref a.cl,rfl,M1.ob,Tx.cm,Tx.m1,mf1 _ _ _ _ _ _,a.cl,a.KY,_,rfl,M1.hc,rfl,a.cl,a.KY,s.most,s.begun,s.under,rfl,M1.hc,
  λz ea=>q1 z ea H1 λb o n h=>(x1 b o n h).2,λz z' ea=>q2 z z' ea H1 λb o n h=>(x1 b o n h).2,λz z'=>?_⟩
 have M2:MS CM CF CC (upd H1 a.cl<|.ins CC a.KY (uX (.int s.most) (.int<|s.begun+1)<|.int (s.under+1))) a ((s.fj p).setC (s.begun+1)<|s.under+1):=M1.setC (s.begun+1) (s.under+1);have x2:Ext a s H ((s.fj p).setC (s.begun+1)<|s.under+1) (upd H1 a.cl<|.ins CC a.KY (uX (.int s.most) (.int<|s.begun+1)<|.int (s.under+1))):=x1.trans xtC;have Qm:=cW (b:=a.cl) (x:=.ins CC a.KY<|uX (.int s.most) (.int<|s.begun+1) (.int<|s.under+1)) ht (af2 (jg M1.hc ht<|by intro z;cases z));have hc2:=(x2 c _ nc hc).2;have hk2:=(x2 k _ nk hk).2;have nc2:=(x2 c _ nc hc).1;have nk2:=(x2 k _ nk hk).1;revert M2 x2 Qm hc2 hk2;generalize upd H1 a.cl (.ins CC a.KY<|uX (.int s.most) (.int<|s.begun+1) (.int<|s.under+1))=H2;intro M2 x2 Qm hc2 hk2;have no:a.gY≠a.m:=af2 (obl M2.ob M2.hf);have nco:c≠a.gY:=obl hc2 M2.hf;have nko:k≠a.gY:=λe=>nk2 (.inr<|.inr (e ▸ ad0 _ ad3));have nto:t≠a.gY:=jg Qm M2.hf (by intro z;cases z);refine⟨_,rfl,a.m,CM,a.dx,_, .ref a.gY,rfl,M2.ob,Tx.cm,Tx.m4,mf4 _ _ _ _ _ _, .inl ⟨rfl,_,dM.of M2.hf⟩,_,rfl,a.m,CM,a.dx,_, .ref s.cur.fr,rfl,M2.ob,Tx.cm,Tx.m3,YK _ _ _ _ _ _,a.gY,_, .ref s.cur.fr,rfl,rfl,M2.hf,dB (by rw[aeb];show s.outer.length<=1000000;exact ad2 lo<|by decide),?_⟩;have k3:∀b o,b≠a.gY->H2 b=some o->(upd H2 a.gY<|.lst ((s.outer.map λf=>V.ref f.fr)++[.ref s.cur.fr])) b=some o:=λb o n h=>cW h n;have o3:(upd H2 a.gY<|.lst ((s.outer.map λf=>V.ref f.fr)++[.ref s.cur.fr])) a.gY=some (.lst<|(s.outer.map λf=>V.ref f.fr)++[.ref s.cur.fr]):=bA;have f3:∀b,b≠a.gY->(upd H2 a.gY<|.lst ((s.outer.map λf=>V.ref f.fr)++[.ref s.cur.fr])) b=H2 b:=λb n=>bR n;revert k3 o3 f3;generalize hH3:upd H2 a.gY (.lst<|(s.outer.map λf=>V.ref f.fr)++[.ref s.cur.fr])=H3;intro k3 o3 f3;rw[show(upd H2 a.gY<|.lst ((((s.fj p).setC (s.begun+1)<|s.under+1).outer.map λf=>V.ref f.fr)++[.ref s.cur.fr]))=H3 from hH3];have ob3:H3 a.m=some (.ins CM a.dx<|v7 a.cl a.pl s.cur.fr a.gY a.st s.ah):=k3 _ _ (af2 no) M2.ob;have hc3:=k3 _ _ nco hc2;have hk3:=k3 _ _ nko hk2;have G4:=k3 _ _ nto Qm;refine⟨_,rfl,c,CL,Ak,_, .ref k,rfl,hc3,Tx.cl,Tx.l2,lf2 _ _,cV (a:=t) (j:=1) rfl G4 rfl ⟨(dO 1),λl1 hl1=>?_⟩⟩;have s4:=bI hl1 (.lst [v]);have l4:(upd H3 l1<|.lst [v]) l1=some (.lst [v]):=bA;revert s4 l4;generalize upd H3 l1 (.lst [v])=H4;intro s4 l4;refine⟨k,l1,ws,[v],rfl,rfl,s4 _ _ hk3,l4,small (by show ws.length+1<=1000000;exact ae7 lw<|by decide),λown hown=>?_⟩;have s5:=bI hown (.lst<|ws++[v]);have o5:(upd H4 own<|.lst (ws++[v])) own=some (.lst<|ws++[v]):=bA;have acG:H2 own=none:=by
  have e:own≠a.gY:=af2 (bU (s4 _ _ o3) hown);rw[<-f3 own e];exact Same.free s4 hown
 revert s5 o5;generalize upd H4 own (.lst<|ws++[v])=H5;intro s5 o5;have Lb:Same H3 H5:=s4.trans s5;refine⟨_,rfl,a.m,CM,a.dx,_,s.ah,rfl,Lb _ _ ob3,Tx.cm,Tx.m6,mf6 _ _ _ _ _ _,λfr qe hfr Zf nfr=>⟨fr,qe,own,s.ah,rfl,bA,rfl,?_⟩⟩;obtain⟨a6,k6⟩:=Jb (C:=CF) (fs:=Mq own s.ah) hfr Zf nfr;revert a6 k6;generalize upd (upd (upd H5 qe<|.own fr) fr<|.ins CF qe []) fr (.ins CF qe<|Mq own s.ah)=H6;intro a6 k6;have G5:Same H3 H6:=Lb.trans k6;refine⟨_,rfl,a.m,CM,a.dx,_,rfl,G5 _ _ ob3,Tx.cm,Tx.m3,(by show 6<1000;decide),?_⟩;rw[mp3];have ncm:c≠a.m:=obo hc3 ob3 (by show ¬((2:Nat)=6);decide);refine⟨_,rfl,c,CL,Ak,_,to,rfl,cW (G5 _ _ hc3) ncm,Tx.cl,Tx.l1,lf1 _ _,_,rfl,a.m,CM,a.dx,_,rfl,bA,Tx.cm,Tx.m6,(by show 6<1000;decide),?_⟩;rw[YL,nQ];have frm:fr≠a.m:=af2 (bU (Lb _ _ ob3) hfr);have owm:own≠a.m:=af2 (bU (s4 _ _ ob3) hown);obtain⟨M7,x7⟩:=M2.push (f:=⟨fr,qe,own,ws++[v],s.ah⟩) (t:=to) (H':=upd H6 a.m<|.ins CM a.dx (v7 a.cl a.pl fr a.gY a.st to)) bA
  (by rw[aes];exact cW (G5 _ _ o3) no) (cW a6 frm) (cW (k6 _ _ o5) owm) acG λb o n1 n2 h=>cW (G5 _ _<|k3 b o n2 h) n1
 exact q3 z z' fr qe own _ M7<|x2.trans x7
end
inductive G6 (CM CF CC:aj)(vs:List V)(H:Hp)(Q:VK)(E_:XK):Prop where
 |mk (m dx:aj) (mo:Int):vs=[.ref m, .int mo]->H m=some (.ins CM dx [])->(∀(a:MA) fr qe own H',a.m=m->MS CM CF CC H' a ⟨[],⟨fr,qe,own,[], .int 0⟩,[],[], .int 0,mo,0,0⟩->yp m H H'->(∀b,Mu a ⟨[],⟨fr,qe,own,[], .int 0⟩,[],[], .int 0,mo,0,0⟩ b->b=m\/H b=none)->Q .non H')->G6 CM CF CC vs H Q E_
section
variable {CM CF CC CL:aj}
theorem m1 (a:V):jd "calls" a []=([("calls",a)]:aP (Str×V)):=by kernel_rfl
theorem m2 (a b:V):jd "pile" b [("calls",a)]=([("calls",a),("pile",b)]:aP (Str×V)):=by kernel_rfl
theorem m3 (a b c:V):jd "frame" c [("calls",a),("pile",b)]=([("calls",a),("pile",b),("frame",c)]:aP (Str×V)):=by kernel_rfl
theorem m4 (a b c d:V):jd "outer_frames" d [("calls",a),("pile",b),("frame",c)]=([("calls",a),("pile",b),("frame",c),("outer_frames",d)]:aP (Str×V)):=by kernel_rfl
theorem m5 (a b c d e:V):jd "stored" e [("calls",a),("pile",b),("frame",c),("outer_frames",d)]=([("calls",a),("pile",b),("frame",c),("outer_frames",d),("stored",e)]:aP (Str×V)):=by kernel_rfl
theorem m6 (a b c d e g:V):jd "ahead" g [("calls",a),("pile",b),("frame",c),("outer_frames",d),("stored",e)]=([("calls",a),("pile",b),("frame",c),("outer_frames",d),("stored",e),("ahead",g)]:aP (Str×V)):=by kernel_rfl
theorem TJ (F:iz K "__init__" "Machine.__init__" GX f fd)(Tx:uY K CM CF CC CL){fC fF:aj}{gC gF:FuncData}(MC:Mk K CC fC)(GC:cP P w K mg aV jV 1 fC gC ["self","most"] (Ad CC))(bC:Binds K gC ["self","most"] [])(hC:mg "Calls"=some (.ref CC))
  (MF:Mk K CF fF) (GF:cP P w K mg aV jV 1 fF gF ["self","own","behind"] (uZ CF)) (bF:Binds K gF ["self","own","behind"] []) (hF:mg "Frame"=some (.ref CF)):cP P w K mg aV jV 3 f fd ["self","most"] (G6 CM CF CC):=by
 refine F.ok TF λdF A aU s H vs Q E hr h=>?_;obtain⟨m,dx,mo,rfl,hm,q⟩:=h;have hr2:gA 2 _:=hr.mono (by decide);refine⟨_,bJ (iw K (pv 0) (rH MC GC hr2 rfl hC bC .nil vK (bx (pv 1) bH)) rfl) (bJ (iw K (pv 0) (gJ bH) rfl)
  (bJ (iw K (pv 0) (rH MF GF hr2 rfl hF bF .nil vK (bx (gJ bH)<|bx bK bH)) rfl)
  (bJ (iw K (pv 0) (gJ bH) rfl)<|bJ (iw K (pv 0) (gJ bH) rfl) (bO<|iw K (pv 0) bK rfl)))),?_⟩
 refine⟨_,rfl,λcl dx1 hx hdx nx=>⟨cl,dx1, .int mo,rfl,bA,rfl,?_⟩⟩;obtain⟨a1,k1⟩:=Jb (C:=CC) (fs:=uX (.int mo) (.int 0)<|.int 0) hx hdx nx;revert a1 k1;generalize upd (upd (upd H dx1<|.own cl) cl<|.ins CC dx1 []) cl (.ins CC dx1<|uX (.int mo) (.int 0) (.int 0))=H1;intro a1 k1;have ncl:cl≠m:=af2 (bU hm hx);refine⟨_,rfl,m,CM,dx,[],rfl,k1 _ _ hm,Tx.cm,Tx.m1,(by show 0<1000;decide),?_⟩;rw[m1];have k2:yp m H (upd H1 m<|.ins CM dx [("calls", .ref cl)]):=λb o nb h=>by rw[bR nb];exact k1 b o h
 have b2:(upd H1 m<|.ins CM dx [("calls", .ref cl)]) m=some (.ins CM dx [("calls", .ref cl)]):=bA;have cl2:(upd H1 m<|.ins CM dx [("calls", .ref cl)]) cl=some (.ins CC dx1<|uX (.int mo) (.int 0) (.int 0)):=by rw[bR ncl];exact a1
 revert k2 b2 cl2;generalize upd H1 m (.ins CM dx [("calls", .ref cl)])=H2;intro k2 b2 cl2;refine⟨(dO 0),λpl iH=>?_⟩;obtain⟨a3,b3,c3,k3,Xb⟩:=Zd (o:=.lst []) (fs':=[("calls", .ref cl),("pile", .ref pl)]) b2 iH;refine⟨_,rfl,m,CM,dx,_,rfl,a3,Tx.cm,Tx.m2,(by show 1<1000;decide),?_⟩;rw[m2];revert b3 c3 k3;generalize upd (upd H2 pl<|.lst []) m (.ins CM dx [("calls", .ref cl),("pile", .ref pl)])=H3;intro b3 c3 k3;refine⟨(dO 0),λown hown=>?_⟩;have FW:own≠m:=af2 (bU b3 hown);have e4:=bI hown (.lst []);have c4:(upd H3 own<|.lst []) own=some (.lst []):=bA;revert e4 c4;generalize upd H3 own (.lst [])=H4;intro e4 c4;intro fr qe hfr Zf nfr;refine⟨fr,qe,own, .int 0,rfl,bA,rfl,?_⟩;obtain⟨a5,k5⟩:=Jb (C:=CF) (fs:=Mq own<|.int 0) hfr Zf nfr;have nfm:fr≠m:=af2 (bU (e4 _ _ b3) hfr);revert a5 k5;generalize upd (upd (upd H4 qe<|.own fr) fr<|.ins CF qe []) fr (.ins CF qe<|Mq own (.int 0))=H5;intro a5 k5;refine⟨_,rfl,m,CM,dx,_,rfl,k5 _ _<|e4 _ _ b3,Tx.cm,Tx.m3,(by show 2<1000;decide),?_⟩;rw[m3];have k6:yp m H3 (upd H5 m<|.ins CM dx [("calls", .ref cl),("pile", .ref pl),("frame", .ref fr)]):=λb o nb h=>by rw[bR nb];exact k5 _ _<|e4 _ _ h
 have b6:(upd H5 m<|.ins CM dx [("calls", .ref cl),("pile", .ref pl),("frame", .ref fr)]) m=some (.ins CM dx [("calls", .ref cl),("pile", .ref pl),("frame", .ref fr)]):=bA;have o6:(upd H5 m<|.ins CM dx [("calls", .ref cl),("pile", .ref pl),("frame", .ref fr)]) own=some (.lst []):=by rw[bR FW];exact k5 _ _ c4
 have f6:(upd H5 m<|.ins CM dx [("calls", .ref cl),("pile", .ref pl),("frame", .ref fr)]) fr=some (.ins CF qe<|Mq own (.int 0)):=by rw[bR nfm];exact a5
 have p6:=k6 _ _ Xb c3;revert k6 b6 o6 f6 p6;generalize upd H5 m (.ins CM dx [("calls", .ref cl),("pile", .ref pl),("frame", .ref fr)])=H6;intro k6 b6 o6 f6 p6;refine⟨(dO 0),λgY TQ=>?_⟩;obtain⟨a7,b7,c7,k7,M5⟩:=Zd (o:=.lst []) (fs':=[("calls", .ref cl),("pile", .ref pl),("frame", .ref fr),("outer_frames", .ref gY)]) b6 TQ;have n2:gY≠pl:=af2 (bU p6 TQ);have n3:gY≠own:=af2 (bU o6 TQ);refine⟨_,rfl,m,CM,dx,_,rfl,a7,Tx.cm,Tx.m4,(by show 3<1000;decide),?_⟩;rw[m4];revert b7 c7 k7;generalize upd (upd H6 gY<|.lst []) m (.ins CM dx [("calls", .ref cl),("pile", .ref pl),("frame", .ref fr),("outer_frames", .ref gY)])=H7;intro b7 c7 k7;refine⟨(dO 0),λst lg=>?_⟩;obtain⟨a8,b8,c8,k8,Dg⟩:=Zd (o:=.lst []) (fs':=[("calls", .ref cl),("pile", .ref pl),("frame", .ref fr),("outer_frames", .ref gY),("stored", .ref st)]) b7 lg;refine⟨_,rfl,m,CM,dx,_,rfl,a8,Tx.cm,Tx.m5,(by show 4<1000;decide),?_⟩;rw[m5];revert b8 c8 k8;generalize upd (upd H7 st<|.lst []) m (.ins CM dx [("calls", .ref cl),("pile", .ref pl),("frame", .ref fr),("outer_frames", .ref gY),("stored", .ref st)])=H8;intro b8 c8 k8;refine⟨_,rfl,m,CM,dx,_,rfl,b8,Tx.cm,Tx.m6,(by show 5<1000;decide),?_⟩;rw[m6];have k68:yp m H6 (upd H8 m<|.ins CM dx (v7 cl pl fr gY st<|.int 0)):=λb o nb h=>by rw[bR nb];exact k8 _ _ nb<|k7 _ _ nb h
 have n5:st≠own:=af2 (bU (k7 _ _ FW o6) lg);have n1:pl≠own:=bU c3 hown;have n4:st≠pl:=af2 (bU (k7 _ _ Xb p6) lg);have n6:st≠gY:=af2 (bU c7 lg);refine q ⟨m,dx,pl,gY,cl,dx1,st⟩ fr qe own _ rfl ⟨bA,k68 _ _ Xb p6,by rw[bR M5];exact k8 _ _ M5 c7,k68 _ _ ncl<|k6 _ _ ncl (k3 _ _ ncl cl2),by rw[bR Dg];exact c8,λg hg=>?_,?_⟩ ((k2.trans<|k3.trans k6).trans k68) λb hb=>?_
 ·rw[aec.mp hg]
  exact⟨k68 _ _ nfm f6,k68 _ _ FW o6⟩
 ·show[pl,gY,st,own].Nodup
  simp[n1,af2 n2,n3,af2 n4,n5,af2 n6]
 ·rcases hb with h|h|h
  ·exact .inl h
  ·exact .inr (by rw[show b=cl from h];exact hx)
  ·have h':b∈[pl,gY,st,own]:=h
   simp only[aev,aej,af3]at h';rcases h' with h|h|h|h
   ·exact .inr<|h ▸ k2.free Xb iH
   ·exact .inr<|h ▸ (k2.trans<|k3.trans k6).free M5 TQ
   ·exact .inr<|h ▸ (k2.trans<|k3.trans (k6.trans k7)).free Dg lg
   ·exact .inr<|h ▸ (k2.trans k3).free FW hown
end
inductive Wv where
 |num (i:Int)
 |fn (to:Nat) (kept:List Wv)
 |bl (k:Int) (vs:List Wv)
mutual
inductive Wr (CL:aj)(N:aj->Prop)(H:Hp):V->Wv->Prop where
 |num (i:Int):Wr CL N H (.int i) (.num i)
 |fn {c Ak k:aj} {to:Nat} {ws:List V} {kept:List Wv}:H c=some (.ins CL Ak<|Tw (.int (to:Int)) k)->H k=some (.lst ws)->N c->N k->lE CL N H ws kept->Wr CL N H (.ref c) (.fn to kept)
 |bl {c:aj} {k:Int} {ws:List V} {vs:List Wv}:H c=some (.tup (.int k::ws))->N c->lE CL N H ws vs->Wr CL N H (.ref c) (.bl k vs)
inductive lE (CL:aj)(N:aj->Prop)(H:Hp):List V->List Wv->Prop where
 |nil:lE CL N H [] []
 |cons {v:V} {t:Wv} {vs:List V} {ts:List Wv}:Wr CL N H v t->lE CL N H vs ts->lE CL N H (v::vs) (t::ts)
end
section
variable {CL:aj}{N N':aj->Prop}{H H':Hp}
@[elab_as_elim] theorem lE.ind {C:List V->List Wv->Prop} {vs:List V} {ts:List Wv} (h:lE CL N H vs ts) (n:C [] []) (c:∀{v t vs ts},Wr CL N H v t->lE CL N H vs ts->C vs ts->C (v::vs) (t::ts)):C vs ts:=by
 induction ts generalizing vs with
 |nil=>cases h;exact n
 |cons t ts ih=>cases h with
  |cons r q=>exact c r q<|ih q
theorem lE.mono (x:∀b o,N b->H b=some o->N' b/\H' b=some o){vs:aP V}{ts:aP Wv}(h:lE CL N H vs ts):lE CL N' H' vs ts :=
 lE.rec (motive_1:=λv t _=>Wr CL N' H' v t) (motive_2:=λv t _=>lE CL N' H' v t) .num (λh1 h2 n1 n2 _=>.fn (x _ _ n1 h1).2 (x _ _ n2 h2).2 (x _ _ n1 h1).1 (x _ _ n2 h2).1) (λh1 n1 _=>.bl (x _ _ n1 h1).2 (x _ _ n1 h1).1) .nil (λ_ _=>.cons) h
theorem Wr.mono (x:∀b o,N b->H b=some o->N' b/\H' b=some o){v:V}{t:Wv}(h:Wr CL N H v t):Wr CL N' H' v t:=by
 cases lE.mono x (.cons h .nil) with
 |cons r _=>exact r
theorem lE.len {vs:aP V}{ts:aP Wv}(h:lE CL N H vs ts):vs.length=ts.length:=h.ind rfl λ_ _ ih=>congrArg (·+1) ih
theorem lE.app {vs ws:aP V}{ts us:aP Wv}(p:lE CL N H vs ts)(q:lE CL N H ws us):lE CL N H (vs++ws) (ts++us):=p.ind q λr _ ih=>.cons r ih
theorem lE.snoc {vs:aP V}{ts:aP Wv}{v:V}{t:Wv}(r:lE CL N H vs ts)(q:Wr CL N H v t):lE CL N H (vs++[v]) (ts++[t]):=r.app (.cons q .nil)
theorem lE.get {vs:List V}{ts:List Wv}{j:Nat}{t:Wv}(h:lE CL N H vs ts)(e:ts[j]?=some t):∃v,vs[j]?=some v/\Wr CL N H v t:=by
 induction ts generalizing vs j with
 |nil=>simp at e
 |cons u us ih=>cases h with
  |cons r q=>cases j with
   |zero=>cases e;exact⟨_,rfl,r⟩
   |succ j=>exact(ih (j:=j) q e:)
theorem lE.pick {vs:List V}{ts:List Wv}(r:lE CL N H vs ts){js:List Nat}{us:List Wv}(h:js.map (λj=>ts[j]?)=us.map some):∃ws,js.map (λj=>vs[j]?)=ws.map some/\lE CL N H ws us:=by
 induction js generalizing us with
 |nil=>cases us with
  |nil=>exact⟨[],rfl, .nil⟩
  |cons=>cases h
 |cons j js ih=>cases us with
  |nil=>cases h
  |cons u us=>
   simp only[aei,List.cons.injEq]at h;obtain⟨v,e,q⟩:=r.get h.1;obtain⟨ws,e2,q2⟩:=ih h.2;exact⟨v::ws,by simp only[aei,e,e2], .cons q q2⟩
end
inductive Frs (CL:aj)(N:aj->Prop)(H:Hp):List Fm->List (List Wv×Nat)->Prop where
 |nil:Frs CL N H [] []
 |cons {f:Fm} {o:List Wv} {b:Nat} {fs:List Fm} {os:List (List Wv×Nat)}:lE CL N H f.vs o->f.be=.int (b:Int)->Frs CL N H fs os->Frs CL N H (f::fs) ((o,b)::os)
theorem Frs.mono {CL:aj}{N N':aj->Prop}{H H':Hp}(x:∀b o,N b->H b=some o->N' b/\H' b=some o){fs:List Fm}{os:List (List Wv×Nat)}(h:Frs CL N H fs os):Frs CL N' H' fs os:=by
 induction h with
 |nil=>exact .nil
 |cons r e _ ih=>exact .cons (r.mono x) e ih
theorem Frs.len {CL:aj}{N:aj->Prop}{H:Hp}{fs:List Fm}{os:List (List Wv×Nat)}(h:Frs CL N H fs os):fs.length=os.length:=by
 induction h with
 |nil=>rfl
 |cons _ _ _ ih=>exact congrArg (·+1) ih
structure AS where
 pile:List Wv
 own:List Wv
 be:Nat
 outer:List (List Wv×Nat)
 uG:List Wv
 pc:Nat
 begun:Nat
inductive Rw where
 |num (i:Int)|loc (j:Nat)|glob (j:Nat)|keep|drop (n:Nat)|store|nH (k:Nat)|Ao (t:Nat)|jump (t:Nat)|close (to:Nat) (js:List Nat)|call|back|block (k:Int) (n:Nat)|field (j:Nat)|case (fs:List Nat)
inductive Out where
 |num (i:Int)|long|deep|great|stuck
deriving DecidableEq
noncomputable def dJ (i:Int):Bool:=decide (-(10^60)<i)&&decide (i<10^60)
noncomputable def picked (own:List Wv):List Nat->Option (List Wv)
 |[]=>some []
 |j::js=>match own[j]?,picked own js with
  |some v,some vs=>some (v::vs)
  |_,_=>none
noncomputable def qH:Wv->Option (Nat×List Wv)
 |.num _=>none
 |.fn to kept=>some (to,kept)
 |.bl _ _=>none
noncomputable def fJ (most:Int)(row:Rw)(A:AS):Option (AS ⊕ Out) :=
 if A.pile.length<=490/\A.own.length<=400/\A.uG.length<=400/\A.outer.length<=400 then
 match row with
 |.num i=>some (.inl {A with pile:=.num i::A.pile})
 |.loc j=>(A.own[j]?).map λv=>.inl {A with pile:=v::A.pile}
 |.glob j=>(A.uG[j]?).map λv=>.inl {A with pile:=v::A.pile}
 |.keep=>match A.pile with
  |v::p=>some (.inl {A with pile:=p,own:=A.own++[v]})
  |[]=>none
 |.drop n=>if n<=A.own.length then some (.inl {A with own:=A.own.take (A.own.length-n)}) else none
 |.store=>match A.pile with
  |v::p=>some (.inl {A with pile:=p,uG:=A.uG++[v]})
  |[]=>none
 |.nH k=>match A.pile with
  |.num j::.num i::p=>if k<=3/\dJ i=true/\dJ j=true then some (if dJ (rk k i j)=true then .inl {A with pile:=.num (rk k i j)::p} else .inr .great) else none
  |_::_::_=>if k<=3 then some (.inr .stuck) else none
  |_=>none
 |.Ao t=>match A.pile with
  |.num i::p=>some (.inl<|if i=0 then{A with pile:=p,pc:=t} else{A with pile:=p})
  |_::_=>some (.inr .stuck)
  |[]=>none
 |.jump t=>some (.inl {A with pc:=t})
 |.close to js=>if js.length<=400 then(picked A.own js).map λvs=>.inl {A with pile:=.fn to vs::A.pile} else none
 |.call=>match A.pile with
  |v::u::p=>match qH u with
   |none=>some (.inr .stuck)
   |some (to,kept)=>if kept.length<=400 then some (if most<(A.begun:Int)+1 then .inr .long else if 10<A.outer.length+1 then .inr .deep else
    .inl {A with pile:=p,own:=kept++[v],be:=A.pc,outer:=(A.own,A.be)::A.outer,pc:=to,begun:=A.begun+1}) else none
  |_=>none
 |.back=>match A.outer with
  |[]=>match A.pile with
   |.num i::_=>some (.inr<|.num i)
   |_::_=>some (.inr .stuck)
   |[]=>none
  |(o,b)::fs=>some (.inl {A with own:=o,be:=b,outer:=fs,pc:=A.be})
 |.block k n=>if n<=A.pile.length/\n<=100 then some (.inl {A with pile:=.bl k (A.pile.take n).reverse::A.pile.drop n}) else none
 |.field j=>match A.pile with
  |.bl _ vs::p=>(vs[j]?).map λv=>.inl {A with pile:=v::p}
  |_::_=>some (.inr .stuck)
  |[]=>none
 |.case fs=>match A.pile with
  |.bl k vs::p=>if 0<=k/\k<(fs.length:Int) then(if vs.length<=400 then(fs[k.toNat]?).map λt=>.inl {A with pile:=p,own:=A.own++vs,pc:=t} else none) else some (.inr .stuck)
  |_::_=>some (.inr .stuck)
  |[]=>none
 else none
noncomputable def uH (most:Int)(aW:List Rw):Nat->AS->Option Out
 |0,_=>none
 |n+1,A=>match aW[A.pc]? with
  |none=>none
  |some row=>match fJ most row {A with pc:=A.pc+1} with
   |none=>none
   |some (.inr o)=>some o
   |some (.inl A')=>uH most aW n A'
def Mr (H:Hp)(r:aj):Rw->Prop
 |.num i=>H r=some (.tup [.str "number", .int i])
 |.loc j=>H r=some (.tup [.str "local", .int (j:Int)])
 |.glob j=>H r=some (.tup [.str "global", .int (j:Int)])
 |.keep=>H r=some (.tup [.str "keep"])
 |.drop n=>H r=some (.tup [.str "drop", .int (n:Int)])
 |.store=>H r=some (.tup [.str "store"])
 |.nH k=>H r=some (.tup [.str (wordOf k)])
 |.Ao t=>H r=some (.tup [.str "unless", .int (t:Int)])
 |.jump t=>H r=some (.tup [.str "jump", .int (t:Int)])
 |.close to js=>∃pt,H r=some (.tup [.str "close", .int (to:Int), .ref pt])/\H pt=some (.tup (js.map λj:Nat=>V.int (j:Int)))
 |.call=>H r=some (.tup [.str "call"])
 |.back=>H r=some (.tup [.str "back"])
 |.block k n=>H r=some (.tup [.str "block", .int k, .int (n:Int)])
 |.field j=>H r=some (.tup [.str "field", .int (j:Int)])
 |.case fs=>∃pt,H r=some (.tup [.str "case", .ref pt])/\H pt=some (.tup (fs.map λj:Nat=>V.int (j:Int)))
structure AR (CL:aj)(H:Hp)(a:MA)(s:kj)(A:AS):Prop where
 pl:lE CL (λb=>¬Mu a s b) H s.pile.reverse A.pile
 ow:lE CL (λb=>¬Mu a s b) H s.cur.vs A.own
 be:s.cur.be=.int (A.be:Int)
 ou:Frs CL (λb=>¬Mu a s b) H s.outer.reverse A.outer
 st:lE CL (λb=>¬Mu a s b) H s.uG A.uG
 pc:s.ah=.int (A.pc:Int)
 bg:s.begun=(A.begun:Int)
 un:s.under=(A.outer.length:Int)
theorem wD {own:List Wv}:∀{js:List Nat} {us:List Wv},picked own js=some us->js.map (λj=>own[j]?)=us.map some
 |[],us,h=>by cases h;rfl
 |j::js,us,h=>by
  unfold picked at h;split at h
  ·rename_i v vs e1 e2
   cases h;simp only[aei,e1,wD e2]
  ·cases h
section
variable {CL:aj}{N:aj->Prop}{H:Hp}
theorem Wr.kept {v:V}{u:Wv}{to:Nat}{kept:List Wv}(r:Wr CL N H v u)(h:qH u=some (to,kept)):∃c Ak k ws,v=.ref c/\H c=some (.ins CL Ak<|Tw (.int (to:Int)) k)/\H k=some (.lst ws)/\N c/\N k/\lE CL N H ws kept:=by
 cases r with
 |num i=>cases h
 |fn h1 h2 n1 n2 r=>cases h;exact⟨_,_,_,_,rfl,h1,h2,n1,n2,r⟩
 |bl h1 n1 r=>cases h
end
end Fw
namespace L2
theorem TV (l:aj)(xs:Array ak)(n:Nat)(b:aj)(ys:Array ak)(n2:Nat)(dd:aO aj)(sl:Array (aO ak))(h0:¬(!xs.isEmpty&&Builtin.List.listTooLong (xs.size+ys.size))=true)(h1:xs.size<=sizeLine)(h2:xs.size+ys.size<=sizeLine+1):
  Meets (Builtin.«list.extend» ⟨[.ref l, .ref b],[]⟩) (λ_ R s=>s.heap.get? l=some ⟨.type "list",none, .seq xs n,#[]⟩/\s.heap.get? b=some ⟨.type "tuple",dd, .seq ys n2,sl⟩/\R (.ok<|.ret Value.none) {s with heap:=s.heap.update l<|Obj.mapSeq λx=>x++ys,toks:=s.toks}) :=
 .of_wp λprog w A R s h=>by
  obtain⟨hp,g,d,tk,os⟩:=s;obtain⟨hl,hb,h⟩:=h;have f2:=AutoSeq1.sub_tuple_tuple;have f3:=AutoSeq1.sub_list_list;have f4:=AutoSeq1.sub_tuple_list;have f5:=AutoSeq1.sub_list_tuple;have hz':(xs++ys).size<=sizeLine+1:=by rw[Array.size_append];exact h2
  wp_walk using(wpAny_updateSeq hl rfl (hz:=h1) (_hz':=hz')),AutoSeq1.wpAny_loadPart' hl,AutoSeq1.wpAny_loadPart' hb
  exact⟨_,rfl,h⟩
section
variable {X:Cx}
def abh:V->List V->Hp->VK->Prop:=λx vs H Q=>∃l b xs zs,x=.ref l/\vs=[.ref b]/\H l=some (.lst xs)/\H b=some (.tup zs)/\xs.length+zs.length<=sizeLine/\Q .non (upd H l<|.lst (xs++zs))
theorem TY:Yk X "list.extend" abh:=by
 intro bG s U H x vs v us Q I rx rv h;obtain⟨l,b,xs,zs,rfl,rfl,hH,hB,hz,q⟩:=h;cases rx;obtain⟨u,rfl,ru⟩:=rv.one;cases ru;obtain⟨z,bh,n,r,hl,e⟩:=I.zO hH;obtain⟨z2,xX,r2,p2⟩:=I.hok b _ hB;obtain⟨⟨cc,dd,dt,sl⟩,e2,ec,k2,ed⟩:=p2;dsimp only at ec ed;subst ec;subst ed;have hl2:=r2.length;have hsz:bh.toArray.size+xX.toArray.size<=sizeLine:=by rw[ad7,ad7];omega
 have abj:¬(!bh.toArray.isEmpty&&Builtin.List.listTooLong (bh.toArray.size+xX.toArray.size))=true:=by
  rw[Ob hsz,Bool.and_false];exact aea
 refine call_meets F.slot_list_extend ⟨_,e,rfl⟩ F.entry_list_extend (F.args_list_extend_2 _ _)
  (TV l bh.toArray n b xX.toArray k2 dd sl abj (by rw[ad7];exact ad2 (ad9 _ _) hsz)<|by exact afa hsz) ⟨e,e2,?_⟩
 refine⟨.non,_,I.S5 (its':=bh++xX) hH e (by simp) (r.append r2) ?_,rfl,q⟩;rw[adV];exact hz
theorem acH (K:aN)(h:X.K=K:=by rfl):ud X (binaryOp .Add) (WK K):=h ▸ SM
theorem slT (K:aN)(h:X.K=K:=by rfl):SlR X (aaW K):=h ▸ Yg
end
end L2
namespace Fw
open L2
inductive lG (CL CS:aj)(vs:List V)(H:Hp)(Q:VK)(E:XK):Prop where
 |mk (t:aj) (xs:List V):vs=[.ref t]->H t=some (.tup xs)->(∀H',Same H H'->Q (.ref t) H')->lG CL CS vs H Q E
 |no (v:V):vs=[v]->pI CL H v->(∀ea H',Same H H'->E (.ref CS) (some ea) H')->lG CL CS vs H Q E
inductive Qn (CM CF CC:aj)(vs:List V)(H:Hp)(Q:VK)(E:XK):Prop where
 |mk (a:MA) (s:kj) (r:aj) (k:Int) (n:Nat) (p u:List V):vs=[.ref a.m, .ref r]->MS CM CF CC H a s->H r=some (.tup [.str "block", .int k, .int (n:Int)])->s.pile=p++u->u.length=n->n<=100->p.length<=500->(∀t H',MS CM CF CC H' a (s.fj<|p++[.ref t])->H' t=some (.tup (.int k::u))->¬Mu a s t->Ext a s H (s.fj<|p++[.ref t]) H'->Q .non H')->Qn CM CF CC vs H Q E
inductive wF (CM CF CC CL CS:aj)(vs:List V)(H:Hp)(Q:VK)(E:XK):Prop where
 |mk (a:MA) (s:kj) (r t:aj) (j:Nat) (p xs:List V) (v:V):vs=[.ref a.m, .ref r]->MS CM CF CC H a s->H r=some (.tup [.str "field", .int (j:Int)])->s.pile=p++[.ref t]->H t=some (.tup xs)->xs[j+1]?=some v->p.length<=500->(∀H',MS CM CF CC H' a (s.fj<|p++[v])->Ext a s H (s.fj<|p++[v]) H'->Q .non H')->wF CM CF CC CL CS vs H Q E
 |no (a:MA) (s:kj) (r:aj) (p:List V) (v:V):vs=[.ref a.m, .ref r]->MS CM CF CC H a s->s.pile=p++[v]->pI CL H v->(∀ea H',(∀b o,¬Mu a s b->H b=some o->H' b=some o)->E (.ref CS) (some ea) H')->wF CM CF CC CL CS vs H Q E
inductive oG (CM CF CC CL CS:aj)(vs:List V)(H:Hp)(Q:VK)(E:XK):Prop where
 |mk (a:MA) (s:kj) (r t pt:aj) (k:Nat) (p ws:List V) (fs:List Nat) (to:Nat):vs=[.ref a.m, .ref r]->MS CM CF CC H a s->H r=some (.tup [.str "case", .ref pt])->H pt=some (.tup (fs.map λj:Nat=>V.int (j:Int)))->s.pile=p++[.ref t]->H t=some (.tup (.int (k:Int)::ws))->fs[k]?=some to->s.cur.vs.length+ws.length<=1000->
  (∀H',MS CM CF CC H' a (((s.fj p).qR<|s.cur.vs++ws).lV<|.int (to:Int))->Ext a s H (((s.fj p).qR<|s.cur.vs++ws).lV<|.int (to:Int)) H'->Q .non H')->oG CM CF CC CL CS vs H Q E
 |no (a:MA) (s:kj) (r:aj) (p:List V) (v:V):vs=[.ref a.m, .ref r]->MS CM CF CC H a s->s.pile=p++[v]->pI CL H v->(∀ea H',(∀b o,¬Mu a s b->H b=some o->H' b=some o)->E (.ref CS) (some ea) H')->oG CM CF CC CL CS vs H Q E
 |arm (a:MA) (s:kj) (r t pt:aj) (k:Int) (p ws:List V) (fs:List Nat):vs=[.ref a.m, .ref r]->MS CM CF CC H a s->H r=some (.tup [.str "case", .ref pt])->H pt=some (.tup (fs.map λj:Nat=>V.int (j:Int)))->s.pile=p++[.ref t]->H t=some (.tup (.int k::ws))->¬(0<=k/\k<(fs.length:Int))->(∀ea H',(∀b o,¬Mu a s b->H b=some o->H' b=some o)->E (.ref CS) (some ea) H')->oG CM CF CC CL CS vs H Q E
section
variable {CM CF CC CL CS:aj}{bm:List ak}{dD B d7:String}
abbrev Qo:aJ:=top 22
abbrev Aq:aJ:=top 42
abbrev Ar:aJ:=top 43
abbrev wG:aJ:=top 44
theorem Zg:bZ ["value"] ["value"] (bQ Qo):={}
theorem Qp:bZ ["machine","row"] ["machine","row"] (bQ Aq):={}
theorem DP:bZ ["machine","row","block"] ["machine","row"] (bQ Ar):={}
theorem yP:bZ ["machine","row","block"] ["machine","row"] (bQ wG):={}
theorem kit_tp (K:aN):kitOne K (.type "tuple") (.type "tuple")=some true:=by first|rfl|kernel_rfl
theorem pI.upd {H:Hp}{v:V}{pl:aj}{xs:List V}{o:HO}(h:pI CL H v)(hl:H pl=some (.lst xs)):pI CL (upd H pl o) v:=by
 cases h with
 |int i=>exact .int i
 |ins h=>exact .ins (cW h (jg h hl<|by intro z;cases z))
theorem Zh (F:iz K "block_of" "block_of" Qo f fd)(OS:OwnCls "Stuck" CS bm dD mg aV)(FS:ExcBaseFacts B dD d7 bm)(IC:Xa K CL)(cl:Cls K CL)(mi:mg "isinstance"=none)(mt:mg "tuple"=none):cP P w K mg aV (fP P w) 1 f fd ["value"] (lG CL CS):=by
 refine F.tU Zg (λdF A aU s H vs Q E hr h=>?_) (by rintro _ _ _ _ ⟨⟩<;>subst_vars<;>rfl);refine⟨_,bJ (dz (jO<|jD (cu iu rfl mi boot_isinstance (bx (pv 0)<|bx (iU (v:=.ty "tuple") rfl mt boot_tuple rfl) bH))) (bO<|gG OS FS rfl (bx bV bH)) cN)<|bO (cQ<|pv 0),?_⟩;rcases h with ⟨t,xs,rfl,ht,q⟩|⟨v,rfl,hn,q⟩
 ·exact⟨_,rfl,_,_,_,_,rfl, .tup ht,kit_tp K,true,rfl,lU ⟨_,rfl,q H<|Same.refl _⟩⟩
 ·obtain⟨ty,h1,h2⟩:=hn.ty IC cl
  exact⟨_,rfl,_,_,_,_,rfl,h1,h2,false,rfl,jK ⟨dO 1,λea _=>q ea H<|Same.refl _⟩⟩
theorem Qq (F:iz K "do_block" "do_block" Aq f fd)(Tx:uY K CM CF CC CL)(h1:Has P w K mg aV 1 "taken_off" ["pile","count"] rR):cP P w K mg aV (fP P w) 2 f fd ["machine","row"] (Qn CM CF CC):=by
 refine F.tU Qp λdF A aU s H vs Q E hr h=>?_;obtain⟨a,s,r,k,n,p,u,rfl,M,oO,hp,lu,ln,lp,q⟩:=h;refine⟨_,bO (cg (ji K (fQ K (pv 0) rfl) (bx (dN (acH K) (eO<|bx (bY (fG K) (pv 1) bK) bH)
  (dG h1 hr (by decide) rfl (bx (fQ K (pv 0) rfl)<|bx (bY (fG K) (pv 1) bK) bH))) bH))),?_⟩
 refine⟨_,rfl,a.m,CM,a.dx,_, .ref a.pl,rfl,M.ob,Tx.cm,Tx.m2,mf2 _ _ _ _ _ _, .inl ⟨rfl,_,dM.of M.hp⟩,cV (a:=r) (j:=1) rfl oO rfl ⟨(dO 1),λt1 ht1=>?_⟩⟩;have s1:=bI ht1 (.tup [.int k]);have b1:(upd H t1<|.tup [.int k]) t1=some (.tup [.int k]):=bA;revert s1 b1;generalize upd H t1 (.tup [.int k])=H1;intro s1 b1;have M1:=M.same s1;have iH:=M1.hp;rw[hp]at iH;refine⟨_,rfl,a.m,CM,a.dx,_, .ref a.pl,rfl,M1.ob,Tx.cm,Tx.m2,mf2 _ _ _ _ _ _,cV (a:=r) (j:=2) rfl (s1 _ _ oO) rfl ⟨a.pl,p,u,n,rfl,iH,lu,ln,λt2 H2 Qm b2 hp2 k2=>?_⟩⟩;have M2:=M1.kp1 k2 hp2;have x2:Ext a s H (s.fj p) H2:=(Same.ext s1).trans (yp.xt k2);have hz:=sizeLine_eq;have b12:H2 t1=some (.tup [.int k]):=k2 _ _ (jg b1 M1.hp<|by intro z;cases z) b1;have n1:¬Mu a s t1:=M.Ja ht1;have fin:∀(t:aj) H3,Same H2 H3->H3 t=some (.tup (.int k::u))->¬Mu a s t->uP (.ref a.pl) [.ref t] H3 (λ_ H'=>Q .non H'):=λt H3 s3 b3 n3=>by
  have M3:=M2.same s3;refine⟨a.pl,p, .ref t,rfl,rfl,M3.hp,dB (by exact ad2 lp<|by decide),q t _ (M3.fj _) ?_ n3<|(x2.trans<|Same.ext s3).trans Fx⟩;exact cW b3 (jg b3 M3.hp<|by intro z;cases z)
 refine⟨t1,t2,[.int k],u,rfl,rfl,iW.of b12,iW.of b2,by simp,by simp;omega,λe=>?_,λ_ t3 G4=>?_⟩
 ·subst e
  exact fin t1 H2 (Same.refl _) b12 n1
 ·refine fin t3 _ (bI G4 _) bA ?_
  have h3:H1 t3=none:=by
   cases e:H1 t3 with
   |none=>rfl
   |some o=>
    by_cases z:t3=a.pl
    ·subst z;rw[hp2]at G4;cases G4
    ·rw[k2 _ _ z e]at G4;cases G4
  exact M.Ja<|s1.free h3
theorem Qs (F:iz K "do_field" "do_field" Ar f fd)(Tx:uY K CM CF CC CL)(h1:GQ P w K mg aV 1 "block_of" ["value"] (lG CL CS)):cP P w K mg aV (fP P w) 2 f fd ["machine","row"] (wF CM CF CC CL CS):=by
 refine F.tU DP (λdF A aU s H vs Q E hr h=>?_) (by rintro _ _ _ _ ⟨⟩<;>subst_vars<;>rfl);obtain⟨fN,gN,GN,bN,kN,mN⟩:=h1;refine⟨_,bJ (iy 2 DP.nd (eF GN (hr.mono<|by decide) rfl mN kN bN .nil cX (bx (zX K<|fQ K (pv 0) rfl) bH)))
  (bO<|cg (ji K (fQ K (pv 0) rfl)<|bx (bY (fG K) (pv 2)<|dN jt (bY (fG K) (pv 1) bK) bK) bH)),?_⟩
 rcases h with ⟨a,s,r,t,j,p,xs,v,rfl,M,oO,hp,ht,hv,lp,q⟩|⟨a,s,r,p,v,rfl,M,hp,hn,q⟩
 rotate_left
 ·have iH:=M.hp
  rw[hp]at iH;refine⟨_,rfl,a.m,CM,a.dx,_, .ref a.pl,rfl,M.ob,Tx.cm,Tx.m2,mf2 _ _ _ _ _ _, .inl ⟨rfl,_,dM.of M.hp⟩,a.pl,_,v,rfl,rfl,iH,by simp,?_⟩;rw[aem];refine .no v rfl (hn.upd M.hp) λea H1 s1=>q ea H1 λb o n h=>?_;have x1:Ext a s H (s.fj p) (upd H a.pl<|.lst p):=Fx;exact s1 b o (x1 b o n h).2
 have iH:=M.hp;rw[hp]at iH;refine⟨_,rfl,a.m,CM,a.dx,_, .ref a.pl,rfl,M.ob,Tx.cm,Tx.m2,mf2 _ _ _ _ _ _, .inl ⟨rfl,_,dM.of M.hp⟩,a.pl,_, .ref t,rfl,rfl,iH,by simp,?_⟩;rw[aem];have M1:=M.fj p;have x1:Ext a s H (s.fj p) (upd H a.pl<|.lst p):=Fx;revert M1 x1;generalize upd H a.pl (.lst p)=H1;intro M1 x1;have ht1:=(x1 t _ (M.qu ht) ht).2;have hr1:=(x1 r _ (M.qu oO) oO).2;refine .mk t xs rfl ht1 λH2 s2=>?_;have M2:=M1.same s2;refine⟨_,rfl,a.m,CM,a.dx,_, .ref a.pl,rfl,M2.ob,Tx.cm,Tx.m2,mf2 _ _ _ _ _ _, .inl ⟨rfl,_,dM.of M2.hp⟩,_,rfl,cV (a:=r) (j:=1) rfl (s2 _ _ hr1) rfl ⟨_,_,rfl,rfl,t,xs,_,v,rfl,rfl,iW.of<|s2 _ _ ht1,?_,a.pl,p,v,rfl,rfl,M2.hp,dB (by exact ad2 lp<|by decide),?_⟩⟩
 ·exact cI (j:=j+1) hv
 ·exact q _ (M2.fj _)<|(x1.trans<|Same.ext s2).trans Fx
theorem acI (x:V)(xs:aP V):Kh (x::xs) (some 1) none=xs:=by
 unfold Kh;have e1:HT.ni (x::xs).length 0 (some 1)=1:=by
  have:=HT.Ia (x::xs).length 0 1;rw[show((1:Nat):Int)=1 from rfl]at this;rw[this,aeB];exact rfl
 rw[e1,HT.NP];simp
theorem Ld (F:iz K "do_case" "do_case" wG f fd)(OS:OwnCls "Stuck" CS bm dD mg aV)(FS:ExcBaseFacts B dD d7 bm)(Tx:uY K CM CF CC CL)(ml:mg "len"=none)(h1:GQ P w K mg aV 1 "block_of" ["value"] (lG CL CS)):cP P w K mg aV (fP P w) 2 f fd ["machine","row"] (oG CM CF CC CL CS):=by
 refine F.tU yP (λdF A aU s H vs Q E hr h=>?_) (by rintro _ _ _ _ ⟨⟩<;>subst_vars<;>rfl);obtain⟨fN,gN,GN,bN,kN,mN⟩:=h1;have hz:=sizeLine_eq;refine⟨_,bJ (iy 2 yP.nd (eF GN (hr.mono<|by decide) rfl mN kN bN .nil cX (bx (zX K<|fQ K (pv 0) rfl) bH)))
  (bJ (dz (jO<|Cu Wu vH bK (bY (fG K) (pv 2) bK) (cu (mV K) rfl ml af6 (bx (bY (fG K) (pv 1) bK) bH))) (bO<|gG OS FS rfl (bx bV bH)) cN)
  (bJ (cg<|yE aeA PySem.F.slot_list_extend PySem.F.type_list_extend TY (fQ K (fQ K (pv 0) rfl) rfl) (bx (NZ (slT K) (pv 2) (SJ bK) Sy) bH))
  (bO<|iw K (pv 0) (bY (fG K) (bY (fG K) (pv 1) bK)<|bY (fG K) (pv 2) bK) rfl))),?_⟩
 rcases h with ⟨a,s,r,t,pt,k,p,ws,fs,to,rfl,M,oO,hpt,hp,ht,hto,lw,q⟩|⟨a,s,r,p,v,rfl,M,hp,hn,q⟩|⟨a,s,r,t,pt,k,p,ws,fs,rfl,M,oO,hpt,hp,ht,hz2,q⟩
 rotate_left
 ·have iH:=M.hp
  rw[hp]at iH;refine⟨_,rfl,a.m,CM,a.dx,_, .ref a.pl,rfl,M.ob,Tx.cm,Tx.m2,mf2 _ _ _ _ _ _, .inl ⟨rfl,_,dM.of M.hp⟩,a.pl,_,v,rfl,rfl,iH,by simp,?_⟩;rw[aem];refine .no v rfl (hn.upd M.hp) λea H1 s1=>q ea H1 λb o n h=>?_;have x1:Ext a s H (s.fj p) (upd H a.pl<|.lst p):=Fx;exact s1 b o (x1 b o n h).2
 ·have iH:=M.hp
  rw[hp]at iH;refine⟨_,rfl,a.m,CM,a.dx,_, .ref a.pl,rfl,M.ob,Tx.cm,Tx.m2,mf2 _ _ _ _ _ _, .inl ⟨rfl,_,dM.of M.hp⟩,a.pl,_, .ref t,rfl,rfl,iH,by simp,?_⟩;rw[aem];have x1:Ext a s H (s.fj p) (upd H a.pl<|.lst p):=Fx;revert x1;generalize upd H a.pl (.lst p)=H1;intro x1;refine .mk t _ rfl (x1 t _ (M.qu ht) ht).2 λH2 s2=>?_;have Qm:=s2 _ _ (x1 t _ (M.qu ht) ht).2;have hr2:=s2 _ _ (x1 r _ (M.qu oO) oO).2;have Zi:=s2 _ _ (x1 pt _ (M.qu hpt) hpt).2;show iY _ _ _ [some (.ref a.m),some<|.ref r,some (.ref t)] H2;have fin:∀ea,E (.ref CS) (some ea) H2:=λea=>q ea H2 λb o n h=>s2 b o (x1 b o n h).2;by_cases z:0<=k
  ·refine cV (a:=t) (j:=0) rfl Qm rfl ⟨_,_,rfl,rfl,true,?_,jK<|cV (a:=r) (j:=1) rfl hr2 rfl ⟨pt,_,rfl, .inr<|iW.of Zi,_,_,rfl,rfl,false,?_,jK ⟨dO 1,λea _=>fin ea⟩⟩⟩
   ·exact congrArg V.bl<|af0 z
   ·rw[aeb];exact congrArg V.bl<|afW λy=>hz2 ⟨z,y⟩
  ·refine cV (a:=t) (j:=0) rfl Qm rfl ⟨_,_,rfl,rfl,false,?_,lU ⟨false,rfl,jK ⟨dO 1,λea _=>fin ea⟩⟩⟩
   exact congrArg V.bl<|afW z
 have iH:=M.hp;rw[hp]at iH;refine⟨_,rfl,a.m,CM,a.dx,_, .ref a.pl,rfl,M.ob,Tx.cm,Tx.m2,mf2 _ _ _ _ _ _, .inl ⟨rfl,_,dM.of M.hp⟩,a.pl,_, .ref t,rfl,rfl,iH,by simp,?_⟩;rw[aem];have M1:=M.fj p;have x1:Ext a s H (s.fj p) (upd H a.pl<|.lst p):=Fx;revert M1 x1;generalize upd H a.pl (.lst p)=H1;intro M1 x1;refine .mk t _ rfl (x1 t _ (M.qu ht) ht).2 λH2 s2=>?_;have M2:=M1.same s2;have x2:=x1.trans (Same.ext s2);have Qm:=(x2 t _ (M.qu ht) ht).2;have hr2:=(x2 r _ (M.qu oO) oO).2;have Zi:=(x2 pt _ (M.qu hpt) hpt).2;have lf:k<fs.length:=(aga hto).1;show iY _ _ _ [some (.ref a.m),some<|.ref r,some (.ref t)] H2;refine cV (a:=t) (j:=0) rfl Qm rfl ⟨_,_,rfl,rfl,true,?_,jK<|cV (a:=r) (j:=1) rfl hr2 rfl ⟨pt,_,rfl, .inr<|iW.of Zi,_,_,rfl,rfl,true,?_,lU ?_⟩⟩
 ·exact congrArg V.bl (af0<|by omega)
 ·rw[aeb];exact congrArg V.bl (af0<|by omega)
 refine⟨_,rfl,a.m,CM,a.dx,_, .ref s.cur.fr,rfl,M2.ob,Tx.cm,Tx.m3,YK _ _ _ _ _ _,s.cur.fr,CF,s.cur.qe,_, .ref s.cur.own,rfl,M2.fc,Tx.cf,Tx.f1,ff1 _ _, .inl ⟨rfl,_,dM.of M2.ho⟩,_,rfl,1,rfl,t,_,rfl,iW.of Qm,?_,λt3 G4=>?_⟩
 ·rintro⟨z,_⟩
  have:=HT.Ia (V.int (k:Int)::ws).length 0 1;rw[show((1:Nat):Int)=1 from rfl]at this;rw[this,aeB]at z;omega
 rw[acI];have s3:=bI G4 (.tup ws);have b3:(upd H2 t3<|.tup ws) t3=some (.tup ws):=bA;revert s3 b3;generalize upd H2 t3 (.tup ws)=H3;intro s3 b3;have M3:=M2.same s3;have x3:=x2.trans (Same.ext s3);refine⟨s.cur.own,t3,s.cur.vs,ws,rfl,rfl,M3.ho,b3,by exact ad2 lw (by decide),?_⟩;have M4:MS CM CF CC (upd H3 s.cur.own<|.lst (s.cur.vs++ws)) a ((s.fj p).qR<|s.cur.vs++ws):=M3.qR (s.cur.vs++ws);have x4:Ext a s H ((s.fj p).qR<|s.cur.vs++ws) (upd H3 s.cur.own<|.lst (s.cur.vs++ws)):=x3.trans (xtO (s:=s.fj p));revert M4 x4;generalize upd H3 s.cur.own (.lst<|s.cur.vs++ws)=H4;intro M4 x4;have ht4:=(x4 t _ (M.qu ht) ht).2;have hr4:=(x4 r _ (M.qu oO) oO).2;have acJ:=(x4 pt _ (M.qu hpt) hpt).2;refine cV (a:=r) (j:=1) rfl hr4 rfl (cV (a:=t) (j:=0) rfl ht4 rfl ⟨pt,_,(k:Int), .int (to:Int),rfl,rfl,iW.of acJ,cI (j:=k) (by rw[aee,hto];rfl),?_⟩);refine⟨_,rfl,a.m,CM,a.dx,_,rfl,M4.ob,Tx.cm,Tx.m6,(by show 6<1000;decide),?_⟩;rw[YL];exact q _ (M4.lV _)<|x4.trans xtA
end
theorem lE.top {CL:aj}{N:aj->Prop}{H:Hp}{l:List V}{t:Wv}{p:List Wv}(r:lE CL N H l.reverse (t::p)):∃l' v,l=l'++[v]/\Wr CL N H v t/\lE CL N H l'.reverse p:=by
 generalize e:l.reverse=k at r;cases r with
 |@cons v _ vs _ w q=>exact⟨vs.reverse,v,by rw[<-aeY l,e,aeV],w,by rw[aeY];exact q⟩
theorem lE.push {CL:aj}{N:aj->Prop}{H:Hp}{l:aP V}{v:V}{t:Wv}{p:aP Wv}(r:lE CL N H l.reverse p)(w:Wr CL N H v t):lE CL N H (l++[v]).reverse (t::p):=by
 rw[afx];exact .cons w r
theorem Jc {i:Int}:dJ i=true↔kh i:=by
 unfold dJ kh Iw;simp
theorem lE.take {CL:aj}{N:aj->Prop}{H:Hp}:∀{vs:List V} {ts:List Wv} (n:Nat),lE CL N H vs ts->lE CL N H (vs.take n) (ts.take n)
 |_,_,0,_=>by simp only[afS];exact .nil
 |_,_,n+1, .nil=>by simp only[List.take_nil];exact .nil
 |_,_,n+1, .cons r q=>by simp only[List.take_succ_cons];exact .cons r<|q.take n
theorem lE.drop {CL:aj}{N:aj->Prop}{H:Hp}:∀{vs:List V} {ts:List Wv} (n:Nat),lE CL N H vs ts->lE CL N H (vs.drop n) (ts.drop n)
 |_,_,0,r=>r
 |_,_,n+1, .nil=>by simp only[List.drop_nil];exact .nil
 |_,_,n+1, .cons r q=>q.drop n
theorem lE.rev {CL:aj}{N:aj->Prop}{H:Hp}{vs:aP V}{ts:aP Wv}(h:lE CL N H vs ts):lE CL N H vs.reverse ts.reverse:=h.ind .nil λr _ ih=>by rw[aeV,aeV];exact ih.snoc r
noncomputable def Xc:Rw->Nat
 |.num _=>0|.loc _=>1|.glob _=>2|.keep=>3|.drop _=>4|.store=>5|.nH k=>6+k|.Ao _=>10|.jump _=>11|.close _ _=>12|.call=>14|.back=>15|.block _ _=>16|.field _=>17|.case _=>18
def yQ (CM CF CC CL CS CT gO qG:aj)(n:Nat):Sp:=if n=16 then Qn CM CF CC else if n=17 then wF CM CF CC CL CS else if n=18 then oG CM CF CC CL CS else if n=12 then Aj CM CF CC CL else if n=14 then qg CM CF CC CL CS gO qG else if n=15 then Am CM CF CC else if 6<=n/\n<=9 then pK CM CF CC CL CS CT else if n=10 then v9 CM CF CC CL CS else pJ CM CF CC n
theorem Wr.nn {CL:aj}{N:aj->Prop}{H:Hp}{v:V}{t:Wv}(w:Wr CL N H v t)(h:∀i,t≠.num i):iM CL H v:=by
 cases w with
 |num i=>exact absurd rfl (h i)
 |fn h1 _ _ _ _=>exact .ins h1
 |bl h1 _ _=>exact .tup h1
theorem Wr.nb {CL:aj}{N:aj->Prop}{H:Hp}{v:V}{t:Wv}(w:Wr CL N H v t)(h:∀k vs,t≠.bl k vs):pI CL H v:=by
 cases w with
 |num i=>exact .int i
 |fn h1 _ _ _ _=>exact .ins h1
 |bl h1 _ _=>exact absurd rfl (h _ _)
theorem Wr.nf {CL:aj}{N:aj->Prop}{H:Hp}{v:V}{t:Wv}(w:Wr CL N H v t)(h:qH t=none):zZ H v:=by
 cases w with
 |num i=>exact .int i
 |fn h1 _ _ _ _=>cases h
 |bl h1 _ _=>exact .tup h1
theorem Wr.rf {CL:aj}{N:aj->Prop}{H:Hp}{v:V}{t:Wv}(w:Wr CL N H v t):∀c,v=.ref c->N c:=by
 cases w with
 |num i=>exact λc e=>by cases e
 |fn h1 h2 n1 n2 r=>exact λc e=>by cases e;exact n1
 |bl h1 n1 r=>exact λc e=>by cases e;exact n1
theorem Wr.dec {CL:aj}{N:aj->Prop}{H:Hp}{v:V}{t:Wv}(w:Wr CL N H v t):(∃i,t=.num i/\v=.int i)\/((∀i,t≠.num i)/\iM CL H v):=by
 cases w with
 |num i=>exact .inl ⟨i,rfl,rfl⟩
 |fn h1 _ _ _ _=>exact .inr ⟨λi z=>(by cases z), .ins h1⟩
 |bl h1 _ _=>exact .inr ⟨λi z=>(by cases z), .tup h1⟩
section
variable {CM CF CC CL CS CT gO qG:aj}{H:Hp}{a:MA}{s:kj}{A:AS}
def acK (k:Nat):Prop:=k<=3
theorem stk {k:Nat}{res:AS ⊕ Out}(h:(if k<=3 then some (Sum.inr Out.stuck) else none:aO (AS ⊕ Out))=some res):k<=3/\res=.inr .stuck:=by
 by_cases c:k<=3
 ·rw[afX c]at h;exact⟨c,(af5 h).symm⟩
 ·rw[afY c]at h;cases h
set_option maxHeartbeats 1000000 in
theorem Qt {r:aj}{row:Rw}{res:AS ⊕ Out}{Q:VK}{E:XK}(M:MS CM CF CC H a s)(R:AR CL H a s A)(hr:Mr H r row)(h:fJ s.most row A=some res)
  (q1:∀A',res=.inl A'->∀s' H',MS CM CF CC H' a s'->AR CL H' a s' A'->Ext a s H s' H'->s'.most=s.most->Q .non H')
  (q2:∀i,res=.inr (.num i)->∀p s' H',s'.pile=p++[.int i]->s'.ah=.non->MS CM CF CC H' a s'->Ext a s H s' H'->Q .non H')
  (q3:res=.inr .long->∀ea H',(∀b o,¬Mu a s b->H b=some o->H' b=some o)->E (.ref gO) (some ea) H')
  (q4:res=.inr .deep->∀ea H',(∀b o,¬Mu a s b->H b=some o->H' b=some o)->E (.ref qG) (some ea) H')
  (q5:res=.inr .great->∀ea H',(∀b o,¬Mu a s b->H b=some o->H' b=some o)->E (.ref CT) (some ea) H')
  (q6:res=.inr .stuck->∀ea H',(∀b o,¬Mu a s b->H b=some o->H' b=some o)->E (.ref CS) (some ea) H')
  (q7:res=.inr .stuck->∀p v s' H',s'.pile=p++[v]->iM CL H' v->s'.ah=.non->MS CM CF CC H' a s'->Ext a s H s' H'->Q .non H'):
  yQ CM CF CC CL CS CT gO qG (Xc row) [.ref a.m, .ref r] H Q E:=by
 have lp:s.pile.length=A.pile.length:=by have:=R.pl.len;rwa [aez]at this
 have lo:=R.ow.len;have ls:=R.st.len;have lou:s.outer.length=A.outer.length:=by have:=R.ou.len;rwa [aez]at this
 unfold fJ at h;split at h
 case isFalse=>cases h
 rename_i c
 obtain⟨c1,c2,c3,c4⟩:=c;cases row with
 |num i=>
  cases h;exact⟨a,s,_,r,[.int i],rfl,M,hr,⟨_,rfl,rfl⟩,by omega,by omega,by omega,λH' M' x=>q1 _ rfl _ H' M' ⟨(R.pl.mono x).push<|.num i,R.ow.mono x,R.be,R.ou.mono x,R.st.mono x,R.pc,R.bg,R.un⟩ x rfl⟩
 |loc j=>
  cases hv:A.own[j]? with
  |none=>simp[hv]at h
  |some t=>
   simp only[hv,aeD,af4]at h;subst h;obtain⟨v,ev,wv⟩:=R.ow.get hv;exact⟨a,s,_,r,[.int j],rfl,M,hr,⟨j,v,rfl,ev,rfl⟩,by omega,by omega,by omega,λH' M' x=>q1 _ rfl _ H' M' ⟨(R.pl.mono x).push<|wv.mono x,R.ow.mono x,R.be,R.ou.mono x,R.st.mono x,R.pc,R.bg,R.un⟩ x rfl⟩
 |glob j=>
  cases hv:A.uG[j]? with
  |none=>simp[hv]at h
  |some t=>
   simp only[hv,aeD,af4]at h;subst h;obtain⟨v,ev,wv⟩:=R.st.get hv;exact⟨a,s,_,r,[.int j],rfl,M,hr,⟨j,v,rfl,ev,rfl⟩,by omega,by omega,by omega,λH' M' x=>q1 _ rfl _ H' M' ⟨(R.pl.mono x).push<|wv.mono x,R.ow.mono x,R.be,R.ou.mono x,R.st.mono x,R.pc,R.bg,R.un⟩ x rfl⟩
 |keep=>
  have rp:=R.pl;cases hp:A.pile with
  |nil=>simp[hp]at h
  |cons t p=>
   simp only[hp,af4]at h;subst h;rw[hp]at rp;obtain⟨l,v,e,w,uI⟩:=rp.top;exact⟨a,s,_,r,[],rfl,M,hr,⟨l,v,rfl,e,rfl⟩,by omega,by omega,by omega,λH' M' x=>q1 _ rfl _ H' M' ⟨uI.mono x,(R.ow.mono x).snoc<|w.mono x,R.be,R.ou.mono x,R.st.mono x,R.pc,R.bg,R.un⟩ x rfl⟩
 |drop n=>
  simp only at h;split at h
  case isFalse=>cases h
  rename_i cn
  simp only[af4]at h;subst h;exact⟨a,s,_,r,[.int (n:Int)],rfl,M,hr,⟨s.cur.vs.take<|s.cur.vs.length-n,s.cur.vs.drop<|s.cur.vs.length-n,n,rfl,(afp _ _).symm,by rw[afd];omega,rfl⟩,by omega,by omega,by omega,λH' M' x=>q1 _ rfl _ H' M' ⟨R.pl.mono x,by
   show lE _ _ _ (s.cur.vs.take<|s.cur.vs.length-n) (A.own.take<|A.own.length-n);rw[lo];exact(R.ow.mono x).take _,R.be,R.ou.mono x,R.st.mono x,R.pc,R.bg,R.un⟩ x rfl⟩
 |store=>
  have rp:=R.pl;cases hp:A.pile with
  |nil=>simp[hp]at h
  |cons t p=>
   simp only[hp,af4]at h;subst h;rw[hp]at rp;obtain⟨l,v,e,w,uI⟩:=rp.top;exact⟨a,s,_,r,[],rfl,M,hr,⟨l,v,rfl,e,rfl⟩,by omega,by omega,by omega,λH' M' x=>q1 _ rfl _ H' M' ⟨uI.mono x,R.ow.mono x,R.be,R.ou.mono x,(R.st.mono x).snoc<|w.mono x,R.pc,R.bg,R.un⟩ x rfl⟩
 |jump t=>
  cases h;exact⟨a,s,_,r,[.int t],rfl,M,hr,⟨_,rfl,rfl⟩,by omega,by omega,by omega,λH' M' x=>q1 _ rfl _ H' M' ⟨R.pl.mono x,R.ow.mono x,R.be,R.ou.mono x,R.st.mono x,rfl,R.bg,R.un⟩ x rfl⟩
 |Ao t=>
  have rp:=R.pl;rcases hp:A.pile with _|⟨_|⟨_,_⟩|⟨_,_⟩,p⟩
  ·simp[hp]at h
  ·rename_i i
   simp only[hp,af4]at h;subst h;rw[hp]at rp;obtain⟨l,v,e,w,uI⟩:=rp.top;cases w;refine v9.ok ⟨a,s,_,r,[.int t],rfl,M,hr,⟨l,_,i,rfl,e,rfl⟩,by omega,by omega,by omega,λH' M' x=>?_⟩;by_cases z:i=0
   ·simp only[afX z]at M' x
    exact q1 _ rfl _ H' M' ⟨by rw[afX z];exact uI.mono x,by rw[afX z];exact R.ow.mono x,by rw[afX z];exact R.be,by rw[afX z];exact R.ou.mono x,by rw[afX z];exact R.st.mono x,by rw[afX z];rfl,by rw[afX z];exact R.bg,by rw[afX z];exact R.un⟩ x rfl
   ·simp only[afY z]at M' x
    exact q1 _ rfl _ H' M' ⟨by rw[afY z];exact uI.mono x,by rw[afY z];exact R.ow.mono x,by rw[afY z];exact R.be,by rw[afY z];exact R.ou.mono x,by rw[afY z];exact R.st.mono x,by rw[afY z];exact R.pc,by rw[afY z];exact R.bg,by rw[afY z];exact R.un⟩ x rfl
  ·simp only[hp,af4]at h
   rw[hp]at rp;obtain⟨l,v,e,w,uI⟩:=rp.top;exact v9.no a s r l v rfl M e (w.nn λi z=>by cases z) (q6 h.symm)
  ·simp only[hp,af4]at h
   rw[hp]at rp;obtain⟨l,v,e,w,uI⟩:=rp.top;exact v9.no a s r l v rfl M e (w.nn λi z=>by cases z) (q6 h.symm)
 |close to js=>
  obtain⟨pt,hr1,hpt⟩:=hr;simp only at h;split at h
  case isFalse=>cases h
  rename_i cj
  cases hpk:picked A.own js with
  |none=>simp[hpk]at h
  |some us=>
   simp only[hpk,aeD,af4]at h;subst h;obtain⟨ws,ews,rws⟩:=R.ow.pick (wD hpk);exact⟨a,s,r,pt, .int to,js,ws,rfl,M,hr1,hpt,ews,by exact ad2 cj (by decide),by omega,λcc Ak k H' M' hc hk nc nk x=>q1 _ rfl _ H' M' ⟨(R.pl.mono x).push<|.fn hc hk nc nk (rws.mono x),R.ow.mono x,R.be,R.ou.mono x,R.st.mono x,R.pc,R.bg,R.un⟩ x rfl⟩
 |nH k=>
  have rp:=R.pl;have hN:acK k->yQ CM CF CC CL CS CT gO qG (Xc<|.nH k)=pK CM CF CC CL CS CT:=λz=>by
   have z':k<=3:=z;show yQ CM CF CC CL CS CT gO qG (6+k)=_;unfold yQ;rw[afY (by omega),afY (by omega),afY (by omega),afY (by omega),afY (by omega),afY (by omega),afX (by omega)]
  cases hp:A.pile with
  |nil=>simp[hp]at h
  |cons t p1=>cases p1 with
   |nil=>cases t<;>simp[hp]at h
   |cons u p=>
    rw[hp]at rp;obtain⟨l,v,e,w,uI⟩:=rp.top;obtain⟨l',v',e',w',rp2⟩:=uI.top;subst e';have lp':l'.length<=500:=by have:=congrArg List.length e;simp at this;omega
    have ep:s.pile=l'++[v',v]:=by rw[e,ad8];rfl
    rcases w'.dec with ⟨i,rfl,rfl⟩|⟨n',nn'⟩
    ·rcases w.dec with ⟨j,rfl,rfl⟩|⟨n,nn⟩
     ·simp only[hp]at h
      split at h
      case isFalse=>cases h
      rename_i cc
      obtain⟨hk,hi,hj⟩:=cc;simp only[af4]at h;rw[hN hk];refine .mk a s r l' k i j rfl M ep hr hk lp' (Jc.mp hi) (Jc.mp hj) (λhin H' M' x=>?_) λhout ea H' kp=>?_
      ·rw[afX (Jc.mpr hin)]at h
       exact q1 _ h.symm _ H' M' ⟨(rp2.mono x).push<|.num _,R.ow.mono x,R.be,R.ou.mono x,R.st.mono x,R.pc,R.bg,R.un⟩ x rfl
      ·rw[afY (λz=>hout<|Jc.mp z)]at h
       exact q5 h.symm ea H' kp
     ·have hh:k<=3/\res=.inr .stuck:=by
       cases t with
       |num j=>exact absurd rfl (n j)
       |fn to ks=>exact stk (by simpa only[hp] using h)
       |bl k ws=>exact stk (by simpa only[hp] using h)
      rw[hN hh.1];exact .no a s r l' k _ v rfl M ep hr hh.1 lp' (.inr ⟨⟨i,rfl⟩,nn⟩) w'.rf w.rf (q6 hh.2)
    ·have hh:k<=3/\res=.inr .stuck:=by
      cases u with
      |num j=>exact absurd rfl (n' j)
      |fn to ks=>cases t<;>exact stk (by simpa only[hp] using h)
      |bl k ws=>cases t<;>exact stk (by simpa only[hp] using h)
     rw[hN hh.1];exact .no a s r l' k v' v rfl M ep hr hh.1 lp' (.inl nn') w'.rf w.rf (q6 hh.2)
 |call=>
  have rp:=R.pl;rcases hp:A.pile with _|⟨t,_|⟨u,p⟩⟩
  ·simp[hp]at h
  ·simp[hp]at h
  ·simp only[hp]at h
   cases hkw:qH u with
   |none=>
    rw[hkw]at h;rw[hp]at rp;obtain⟨l,v,e,w,uI⟩:=rp.top;obtain⟨l',v',e',w',rp2⟩:=uI.top;subst e';exact qg.no a s r l' v' v rfl M (by rw[e,ad8];rfl) (w'.nf hkw) w'.rf (q6 (af5 h).symm)
   |some tk=>
   obtain⟨to,kept⟩:=tk;rw[hkw]at h;simp only at h;split at h
   case isFalse=>cases h
   rename_i ck
   simp only[af4]at h;rw[hp]at rp;obtain⟨l,v,e,w,uI⟩:=rp.top;obtain⟨l',v',e',w',rp2⟩:=uI.top;obtain⟨cc,Ak,k,ws,ev',hc,hk,nc,nk,rws⟩:=w'.kept hkw
   ·subst ev'
    subst e';have lw:=rws.len;refine qg.mk a s r cc Ak k l' ws v (.int to) rfl M (by rw[e,ad8];rfl) hc hk nc nk (by have:=congrArg List.length e;simp at this;omega) (by omega) (by omega) (λz ea H' kp=>?_) (λz z' ea H' kp=>?_) λz z' fr qe own H' M' x=>?_
    ·rw[R.bg]at z
     rw[afX z]at h;exact q3 h.symm ea H' kp
    ·rw[R.bg]at z
     rw[R.un]at z';rw[afY (by omega),afX (by omega)]at h;exact q4 h.symm ea H' kp
    ·have z1:=z
     have z2:=z';rw[R.bg]at z1;rw[R.un]at z2;rw[afY (by omega),afY (by omega)]at h;refine q1 _ h.symm _ H' M' ⟨rp2.mono x,(rws.mono x).snoc<|w.mono x,R.pc,?_,R.st.mono x,rfl,?_,?_⟩ x rfl
     ·show Frs _ _ _ (s.outer++[s.cur]).reverse _
      rw[afx];exact .cons (R.ow.mono x) R.be<|R.ou.mono x
     ·show s.begun+1=((A.begun+1:Nat):Int)
      rw[R.bg]
      rfl
     ·show s.under+1=((A.outer.length+1:Nat):Int)
      rw[R.un]
      rfl
 |back=>
  have rp:=R.pl;have ro:=R.ou;rcases ho:A.outer with _|⟨⟨o,b⟩,fs⟩
  ·rcases hp:A.pile with _|⟨_|⟨_,_⟩|⟨_,_⟩,p⟩
   ·simp[ho,hp]at h
   ·rename_i i
    simp only[ho,hp,af4]at h;rw[hp]at rp;obtain⟨l,v,e,w,uI⟩:=rp.top;cases w;have so:s.outer=[]:=List.length_eq_zero_iff.mp (by rw[lou,ho];rfl);exact⟨a,s,r,rfl,M,by omega,λ_ H' M' x=>q2 i h.symm l (s.lV .non) H' e rfl M' x,λO f hO=>by rw[so]at hO;exact absurd hO<|by simp⟩
   ·simp only[ho,hp,af4]at h
    rw[hp]at rp;obtain⟨l,v,e,w,uI⟩:=rp.top;have so:s.outer=[]:=List.length_eq_zero_iff.mp (by rw[lou,ho];rfl);exact⟨a,s,r,rfl,M,by omega,λ_ H' M' x=>q7 h.symm l v (s.lV .non) H' e ((w.mono x).nn λi z=>by cases z) rfl M' x,λO f hO=>by rw[so]at hO;exact absurd hO<|by simp⟩
   ·simp only[ho,hp,af4]at h
    rw[hp]at rp;obtain⟨l,v,e,w,uI⟩:=rp.top;have so:s.outer=[]:=List.length_eq_zero_iff.mp (by rw[lou,ho];rfl);exact⟨a,s,r,rfl,M,by omega,λ_ H' M' x=>q7 h.symm l v (s.lV .non) H' e ((w.mono x).nn λi z=>by cases z) rfl M' x,λO f hO=>by rw[so]at hO;exact absurd hO<|by simp⟩
  ·simp only[ho,af4]at h
   refine⟨a,s,r,rfl,M,by omega,λso=>?_,λO f hO H' M' x=>?_⟩
   ·rw[so,ho]at lou
    simp at lou
   ·rw[hO,ho,afx]at ro
    cases ro with
    |cons w eb rest=>
     refine q1 _ h.symm _ H' M' ⟨R.pl.mono x,w.mono x,eb,?_,R.st.mono x,R.be,R.bg,?_⟩ x rfl
     ·exact rest.mono x
     ·show s.under-1=(fs.length:Int)
      rw[R.un,ho];simp
 |block k n=>
  simp only at h;split at h
  case isFalse=>cases h
  rename_i cn
  obtain⟨cn1,cn2⟩:=cn;simp only[af4]at h;subst h;have r1:=R.pl.take n;have r2:=R.pl.drop n;rw[List.take_reverse]at r1;rw[List.drop_reverse]at r2;have r3:=r1.rev;rw[aeY]at r3;exact⟨a,s,r,k,n,s.pile.take<|s.pile.length-n,s.pile.drop<|s.pile.length-n,rfl,M,hr,(afp _ _).symm,by rw[afd];omega,by exact cn2,by rw[aeh];omega,λt H' M' ht nt x=>q1 _ rfl _ H' M' ⟨(r2.mono x).push<|.bl ht nt (r3.mono x),R.ow.mono x,R.be,R.ou.mono x,R.st.mono x,R.pc,R.bg,R.un⟩ x rfl⟩
 |field j=>
  have rp:=R.pl;rcases hp:A.pile with _|⟨_|⟨_,_⟩|⟨k,vs⟩,p⟩
  ·simp[hp]at h
  ·simp only[hp,af4]at h
   rw[hp]at rp;obtain⟨l,v,e,w,uI⟩:=rp.top;exact wF.no a s r l v rfl M e (w.nb λ_ _ z=>by cases z) (q6 h.symm)
  ·simp only[hp,af4]at h
   rw[hp]at rp;obtain⟨l,v,e,w,uI⟩:=rp.top;exact wF.no a s r l v rfl M e (w.nb λ_ _ z=>by cases z) (q6 h.symm)
  ·simp only[hp]at h
   rw[hp]at rp;obtain⟨l,v,e,w,uI⟩:=rp.top;cases w with
   |@bl c _ ws _ hc nc rws=>
    cases hv:vs[j]? with
    |none=>rw[hv]at h;cases h
    |some u=>
     rw[hv]at h;simp only[aeD,af4]at h;subst h;obtain⟨v',e2,w2⟩:=rws.get hv;exact wF.mk a s r c j l (.int k::ws) v' rfl M hr e hc (by simpa using e2) (by have:=congrArg List.length e;simp at this;omega) λH' M' x=>q1 _ rfl _ H' M' ⟨(uI.mono x).push<|w2.mono x,R.ow.mono x,R.be,R.ou.mono x,R.st.mono x,R.pc,R.bg,R.un⟩ x rfl
 |case fs=>
  have rp:=R.pl;obtain⟨pt,hr1,hpt⟩:=hr;rcases hp:A.pile with _|⟨_|⟨_,_⟩|⟨k,vs⟩,p⟩
  ·simp[hp]at h
  ·simp only[hp,af4]at h
   rw[hp]at rp;obtain⟨l,v,e,w,uI⟩:=rp.top;exact oG.no a s r l v rfl M e (w.nb λ_ _ z=>by cases z) (q6 h.symm)
  ·simp only[hp,af4]at h
   rw[hp]at rp;obtain⟨l,v,e,w,uI⟩:=rp.top;exact oG.no a s r l v rfl M e (w.nb λ_ _ z=>by cases z) (q6 h.symm)
  ·simp only[hp]at h
   rw[hp]at rp;obtain⟨l,v,e,w,uI⟩:=rp.top;by_cases z:0<=k/\k<(fs.length:Int)
   ·rw[afX z]at h
    by_cases y:vs.length<=400
    ·rw[afX y]at h
     cases w with
     |@bl c _ ws _ hc nc rws=>
      have lw:=rws.len;cases hv:fs[k.toNat]? with
      |none=>rw[hv]at h;cases h
      |some to=>
       rw[hv]at h;simp only[aeD,af4]at h;subst h;exact oG.mk a s r c pt k.toNat l ws fs to rfl M hr1 hpt e (by rw[show((k.toNat:Nat):Int)=k by omega];exact hc) hv (by omega) λH' M' x=>q1 _ rfl _ H' M' ⟨uI.mono x,(R.ow.mono x).app<|rws.mono x,R.be,R.ou.mono x,R.st.mono x,rfl,R.bg,R.un⟩ x rfl
    ·rw[afY y]at h;cases h
   ·rw[afY z]at h
    cases w with
    |@bl c _ ws _ hc nc rws=>exact oG.arm a s r c pt k l ws fs rfl M hr1 hpt e hc z (q6 (af5 h).symm)
end
end Fw
namespace L2
structure Le (K:aN)(x bf:Str)(st:aJ)(f:aj)(fd:FuncData)(T:aj)(bh:Array ak):Prop where
 ex:∃(oc:ak) (od:Option aj) (kV mZ pm:ak) (an:Option aj) (dF ct:ak) (osl:Array (Option ak)),
  fd=fnOf x bf (jq st) (cT st) (bQ st) (.ref T) kV mZ pm an dF ct/\K.lookup f=some ⟨oc,od, .func fd,osl⟩/\codeIn K dF bf=true
 kp:keepIn K (.ref f)=true
 df:∃oc od n sl,K.lookup T=some ⟨oc,od, .seq bh n,sl⟩
section
variable {P:aA}{w:aG}{K:aN}{mg:Str->Option ak}{aV:aK}{N:List Str}{bf:Str}{f:aj}{T:aj}{bh:Array ak}
theorem Le.tU {x:Str}{st:aJ}{fd:FuncData}{ps:aP Str}{k:Nat}{sp:Sp}(F:Le K x bf st f fd T bh)(S:bZ N ps (bQ st))(len:∀vs H Q E,sp vs H Q E->vs.length=ps.length)
  (hbody:∀(dF:ak) (A:aq) (aU:aP Env) (s:ao) (H:Hp) (vs:aP V) (Q:VK) (E:XK),gA k (A.deeper<|envOfC bf (bQ st) s.heap.objs.size f dF)->sp vs H Q E->
   ∃t,xU (dX (fP P w) P w K mg aV N bf (bQ st) f dF A aU s H E) (cT st) t/\t (Ends.of Q) (start N vs) H):cP P w K mg aV (fP P w) (k+1) f fd ps sp:=by
 obtain⟨oc,od,kV,mZ,pm,an,dF,ct,osl,rfl,lk,xV⟩:=F.ex;exact NK lk xV S len λA aU s H vs Q E hr hsp=>hbody dF A aU s H vs Q E hr hsp
theorem Le.binds {x:Str}{st:aJ}{fd:FuncData}{ps:aP Str}(F:Le K x bf st f fd T bh)
  (h:∀(kV mZ pm:ak) (an:aO aj) (dF ct:ak) (us:aP ak),us.length=ps.length->∃k:aO (Array ak)->Sem (aP<|Str×ak),bindArgs (fnOf x bf (jq st) (cT st) (bQ st) (.ref T) kV mZ pm an dF ct) ⟨us,[]⟩=seqItems? (.ref T)>>=k/\k (some bh)=pure (ps.zip us)):Binds K fd ps []:=by
 obtain⟨oc,od,kV,mZ,pm,an,dF,ct,osl,rfl,lk,xV⟩:=F.ex;obtain⟨oc',od',n,sl,hT⟩:=F.df;intro s us hK hl;rw[aep]at hl ⊢;obtain⟨k,e1,e2⟩:=h kV mZ pm an dF ct us hl;exact BindsTo.of_defaults rfl (hK T _ hT) rfl e1 e2
end
end L2
namespace Fw
open L2
noncomputable def jk (fr:Nat->aj):List (Str×V):=[("number", .ref<|fr 0),("local", .ref<|fr 1),("global", .ref<|fr 2),("keep", .ref<|fr 3),("drop", .ref<|fr 4),("store", .ref<|fr 5),("plus", .ref<|fr 6),("minus", .ref<|fr 7),("times", .ref<|fr 8),("less", .ref<|fr 9),("unless", .ref<|fr 10),("jump", .ref<|fr 11),("close", .ref<|fr 12),("ring", .ref<|fr 13),("call", .ref<|fr 14),("back", .ref<|fr 15),("block", .ref<|fr 16),("field", .ref<|fr 17),("case", .ref<|fr 18)]
section
variable (fr:Nat->aj)
theorem rl0:(jk fr).lookup ("number":Str)=some (.ref<|fr 0):=by kernel_rfl
theorem rl1:(jk fr).lookup ("local":Str)=some (.ref<|fr 1):=by kernel_rfl
theorem rl3:(jk fr).lookup ("keep":Str)=some (.ref<|fr 3):=by kernel_rfl
theorem rl6:(jk fr).lookup ("plus":Str)=some (.ref<|fr 6):=by kernel_rfl
theorem rl7:(jk fr).lookup ("minus":Str)=some (.ref<|fr 7):=by kernel_rfl
theorem rl8:(jk fr).lookup ("times":Str)=some (.ref<|fr 8):=by kernel_rfl
theorem rl9:(jk fr).lookup ("less":Str)=some (.ref<|fr 9):=by kernel_rfl
theorem rl2:(jk fr).lookup ("global":Str)=some (.ref<|fr 2):=by kernel_rfl
theorem rl4:(jk fr).lookup ("drop":Str)=some (.ref<|fr 4):=by kernel_rfl
theorem rl5:(jk fr).lookup ("store":Str)=some (.ref<|fr 5):=by kernel_rfl
theorem acL:(jk fr).lookup ("unless":Str)=some (.ref<|fr 10):=by kernel_rfl
theorem acM:(jk fr).lookup ("jump":Str)=some (.ref<|fr 11):=by kernel_rfl
theorem acN:(jk fr).lookup ("back":Str)=some (.ref<|fr 15):=by kernel_rfl
theorem acO:(jk fr).lookup ("close":Str)=some (.ref<|fr 12):=by kernel_rfl
theorem acP:(jk fr).lookup ("call":Str)=some (.ref<|fr 14):=by kernel_rfl
theorem acQ:(jk fr).lookup ("case":Str)=some (.ref<|fr 18):=by kernel_rfl
theorem acR:(jk fr).lookup ("block":Str)=some (.ref<|fr 16):=by kernel_rfl
theorem acS:(jk fr).lookup ("field":Str)=some (.ref<|fr 17):=by kernel_rfl
theorem T3:∀k,k<=3->(jk fr).lookup (wordOf k)=some (.ref<|fr (6+k))
 |0,_=>rl6 fr
 |1,_=>rl7 fr
 |2,_=>rl8 fr
 |3,_=>rl9 fr
 |n+4,h=>by omega
end
noncomputable def T4:Rw->Str
 |.num _=>"number"|.loc _=>"local"|.glob _=>"global"|.keep=>"keep"|.drop _=>"drop"|.store=>"store"|.nH k=>wordOf k|.Ao _=>"unless"|.jump _=>"jump"|.close _ _=>"close"|.call=>"call"|.back=>"back"|.block _ _=>"block"|.field _=>"field"|.case _=>"case"
def Zj:Rw->Prop
 |.nH k=>k<=3
 |_=>True
theorem abk (fr:Nat->aj){row:Rw}(h:Zj row):(jk fr).lookup (T4 row)=some (.ref<|fr (Xc row)):=by
 cases row with
 |num i=>exact rl0 fr
 |loc j=>exact rl1 fr
 |glob j=>exact rl2 fr
 |keep=>exact rl3 fr
 |drop n=>exact rl4 fr
 |store=>exact rl5 fr
 |nH k=>exact T3 fr k h
 |Ao t=>exact acL fr
 |jump t=>exact acM fr
 |close to js=>exact acO fr
 |call=>exact acP fr
 |back=>exact acN fr
 |block k n=>exact acR fr
 |field j=>exact acS fr
 |case fs=>exact acQ fr
def rW (n:Nat):Prop:=n<=12\/(14<=n/\n<=18)
theorem T5 {row:Rw}(h:Zj row):rW (Xc row):=by
 cases row with
 |nH k=>
  have h':k<=3:=h;exact .inl (by show 6+k<=12;omega)
 |_=>simp[rW,Xc]
theorem T6 {most:Int}{row:Rw}{A:AS}{res:AS ⊕ Out}(h:fJ most row A=some res):Zj row:=by
 cases row with
 |nH k=>
  show k<=3;unfold fJ at h;by_cases c:k<=3
  ·exact c
  ·split at h
   ·simp only at h
    split at h
    ·split at h
     ·rename_i z;exact absurd z.1 c
     ·cases h
    ·rw[afY c]at h;cases h
    ·cases h
   ·cases h
 |_=>trivial
theorem Jd {H:Hp}{r:aj}{row:Rw}(h:Mr H r row):∃args,H r=some (.tup (.str (T4 row)::args)):=by
 cases row with
 |close to js=>obtain⟨pt,h1,_⟩:=h;exact⟨_,h1⟩
 |case fs=>obtain⟨pt,h1,_⟩:=h;exact⟨_,h1⟩
 |_=>exact⟨_,h⟩
theorem Mr.same {H H':Hp}{r:aj}{row:Rw}(e:Same H H')(h:Mr H r row):Mr H' r row:=by
 cases row with
 |close to js=>obtain⟨pt,h1,h2⟩:=h;exact⟨pt,e _ _ h1,e _ _ h2⟩
 |case fs=>obtain⟨pt,h1,h2⟩:=h;exact⟨pt,e _ _ h1,e _ _ h2⟩
 |_=>exact e _ _ h
def wH (H:Hp)(jQ:List V)(aY:List Rw):Prop:=jQ.length=aY.length/\∀(i:Nat) (row:Rw),aY[i]?=some row->∃r:aj,jQ[i]?=some (V.ref r)/\Mr H r row
def A0:AS:=⟨[],[],0,[],[],0,0⟩
inductive G7 (CS CT gO qG:aj)(vs:List V)(H:Hp)(Q:VK)(E:XK):Prop where
 |mk (c:aj) (most:Int) (jQ:List V) (aY:List Rw) (out:Out) (n:Nat):vs=[.ref c, .int most]->H c=some (.tup jQ)->wH H jQ aY->uH most aY n A0=some out->(out=.stuck->∀ea H',Same H H'->E (.ref CS) (some ea) H')->(∀i,out=.num i->∀H',Same H H'->Q (.int i) H')->(out=.long->∀ea H',Same H H'->E (.ref gO) (some ea) H')->(out=.deep->∀ea H',Same H H'->E (.ref qG) (some ea) H')->(out=.great->∀ea H',Same H H'->E (.ref CT) (some ea) H')->G7 CS CT gO qG vs H Q E
def Ke (H0:Hp)(a:MA)(s:kj)(H:Hp):Prop:=∀b o,H0 b=some o->¬Mu a s b/\H b=some o
theorem Ke.ext {H0 H H':Hp}{a:MA}{s s':kj}(k:Ke H0 a s H)(x:Ext a s H s' H'):Ke H0 a s' H':=λb o h=>x b o (k b o h).1 (k b o h).2
def Wd (CM CF CC CL:aj)(H0:Hp)(c:aj)(a:MA)(most:Int)(aY:List Rw)(out:Out)(m:Nat)(U:L2.St)(H:Hp):Prop:=∃o,U=[some (.ref c),some<|.int most,some<|.ref a.m,o]/\
 ((∃s A,MS CM CF CC H a s/\AR CL H a s A/\Ke H0 a s H/\s.most=most/\uH most aY m A=some out)\/(∃(s:kj) (p:List V) (i:Int),MS CM CF CC H a s/\Ke H0 a s H/\s.pile=p++[.int i]/\s.ah=.non/\out=.num i/\m=0)\/(∃(s:kj) (p:List V) (v:V),MS CM CF CC H a s/\Ke H0 a s H/\s.pile=p++[v]/\iM CL H v/\s.ah=.non/\out=.stuck/\m=0))
section
variable {CM CF CC CL CS CT gO qG:aj}
abbrev G8:aJ:=top 46
theorem Av:bZ ["code","most","machine","row"] ["code","most"] (bQ G8):={}
set_option maxHeartbeats 2000000 in
theorem T7 {T dr fM:aj}{gM:FuncData}{bh:Array ak}{fr:Nat->aj}(F:Le K "done" "done" G8 f fd T bh)(Tx:uY K CM CF CC CL)(MM:Mk K CM fM)(GM:cP P w K mg aV jV 3 fM gM ["self","most"] (G6 CM CF CC))(bM:Binds K gM ["self","most"] [])(hM:mg "Machine"=some (.ref CM))
  (hR:mg "ROWS"=some (.ref dr)) (D:pZ K w dr (jk fr)) (hF:∀n,rW n->∃k fd,k<=4/\cP P w K mg aV (fP P w) k (fr n) fd ["machine","row"] (yQ CM CF CC CL CS CT gO qG n)/\keepIn K (.ref<|fr n)=true/\Binds K fd ["machine","row"] [])
  (hN:GQ P w K mg aV 2 "number_of" ["value"] (vX CL CS)):cP P w K mg aV (fP P w) 5 f fd ["code","most"] (G7 CS CT gO qG):=by
 refine F.tU Av (λvs H Q E h=>?_) λdF A aU s H vs Q E hr h=>?_
 ·obtain⟨c,most,jQ,aY,out,n,rfl,_⟩:=h
  rfl
 obtain⟨c,most,jQ,aY,out,n,rfl,hc,cd,ex,q5,q1,q2,q3,q4⟩:=h;obtain⟨fN,gN,GN,bN,kN,mN⟩:=hN;refine⟨_,bJ (iy 2 Av.nd<|rH MM GM hr rfl hM bM .nil vK (bx (pv 1) bH))
  (bJ (Cm PassesOwn.leaving (Xy (R9<|fQ K (pv 2) rfl) rfl)
   (bJ (iy 3 Av.nd<|bY (fG K) (pv 0) (fQ K (pv 2) rfl))
   (bJ (iw K (pv 2) (dN jt (fQ K (pv 2) rfl) bK) rfl)
   (bO (cg (Dc (E:=E) (λf sp=>∃n,rW n/\f=fr n/\sp=yQ CM CF CC CL CS CT gO qG n) (λf sp ⟨n,hn,e1,e2⟩=>by
    obtain⟨k,fd',hk,G,kp,b⟩:=hF n hn;rw[e1,e2];exact⟨k,fd',_,G,hr.mono hk,kp,b⟩) (bY Ij (jo (v:=.ref dr) rfl hR rfl)<|bY (fG K) (pv 3) bK) cX<|bx (pv 2) (bx (pv 3) bH)))))))
  (bO (cQ (eF GN (hr.mono<|by decide) rfl mN kN bN .nil cX (bx (zX K<|fQ K (pv 2) rfl) bH))))),?_⟩
 refine⟨_,rfl,λmm dx hmm hdx nmm=>⟨mm,dx,most,rfl,bA,λa frm qe own H1 ea M1 k1 f1=>⟨rfl,?_⟩⟩⟩;subst ea;have ke1:Ke H a ⟨[],⟨frm,qe,own,[], .int 0⟩,[],[], .int 0,most,0,0⟩ H1:=λb o h=>by
  have hb:(upd (upd H dx<|.own a.m) a.m<|.ins CM dx []) b=some o:=by rw[bR (bU h hmm),bR (bU h hdx)];exact h
  refine⟨λz=>?_,k1 b o (bU h hmm) hb⟩;rcases f1 b z with e|e
  ·exact bU h hmm e
  ·rw[hb]at e;cases e
 have r1:AR CL H1 a ⟨[],⟨frm,qe,own,[], .int 0⟩,[],[], .int 0,most,0,0⟩ A0:=⟨.nil, .nil,rfl, .nil, .nil,rfl,rfl,rfl⟩;refine⟨Wd CM CF CC CL H c a most aY out,⟨n,none,rfl, .inl ⟨_,A0,M1,r1,ke1,rfl,ex⟩⟩,?_⟩;rintro m U H2 ⟨o,rfl,⟨s,A,M,R,ke,hm,FJ⟩|⟨s,p,i,M,ke,hp,ha,rfl,rfl⟩|⟨s,p,v,M,ke,hp,hn,ha,rfl,rfl⟩⟩
 ·cases m with
  |zero=>cases FJ
  |succ m=>
   refine⟨_,rfl,a.m,CM,a.dx,_,_,rfl,M.ob,Tx.cm,Tx.m6,mf6 _ _ _ _ _ _,_,rfl,?_⟩;rw[R.pc];refine gU (λ_=>?_) λz=>absurd rfl z;refine⟨_,λ_ _ h=>h,?_⟩;unfold uH at FJ;cases hrow:aY[A.pc]? with
   |none=>rw[hrow]at FJ;cases FJ
   |some row=>
    rw[hrow]at FJ;dsimp only at FJ;obtain⟨r,er,hr2⟩:=cd.2 _ row hrow;have obm:H2 a.m=some (.ins CM a.dx<|v7 a.cl a.pl s.cur.fr a.gY a.st (.int (A.pc:Int))):=by have:=M.ob;rwa [R.pc]at this
    refine⟨_,rfl,_,rfl,a.m,CM,a.dx,_, .int A.pc,rfl,obm,Tx.cm,Tx.m6,mf6 _ _ _ _ _ _,c,jQ,(A.pc:Int), .ref r,rfl,rfl,iW.of (ke _ _ hc).2,cI (j:=A.pc) er,?_⟩;refine⟨_,rfl,a.m,CM,a.dx,_, .int A.pc,rfl,obm,Tx.cm,Tx.m6,mf6 _ _ _ _ _ _,_,_,rfl,rfl,_,rfl,a.m,CM,a.dx,_,rfl,obm,Tx.cm,Tx.m6,(by show 6<1000;decide),?_⟩;rw[YL];rw[show(A.pc:Int)+1=((A.pc+1:Nat):Int) from rfl];have M3:=M.lV (.int ((A.pc+1:Nat):Int));have x3:Ext a s H2 (s.lV<|.int ((A.pc+1:Nat):Int)) (upd H2 a.m<|.ins CM a.dx (v7 a.cl a.pl s.cur.fr a.gY a.st<|.int ((A.pc+1:Nat):Int))):=xtA;revert M3 x3;generalize upd H2 a.m (.ins CM a.dx<|v7 a.cl a.pl s.cur.fr a.gY a.st (.int ((A.pc+1:Nat):Int)))=H3;intro M3 x3;have Ms:=ke.ext x3;have s3:Same H H3:=λb o h=>(Ms b o h).2;have R3:AR CL H3 a (s.lV<|.int ((A.pc+1:Nat):Int)) {A with pc:=A.pc+1}:=⟨R.pl.mono x3,R.ow.mono x3,R.be,R.ou.mono x3,R.st.mono x3,rfl,R.bg,R.un⟩;have hr3:=Mr.same s3 hr2;cases lg:fJ most row {A with pc:=A.pc+1} with
    |none=>rw[lg]at FJ;cases FJ
    |some res=>
     rw[lg]at FJ;obtain⟨args,hra⟩:=Jd hr3;have okr:=T6 lg;refine(cV (a:=r) (j:=0) rfl hra rfl ⟨T4 row,dr,_, .ref<|fr (Xc row),rfl,rfl,D,abk fr okr,fr<|Xc row,_,rfl,⟨Xc row,T5 okr,rfl,rfl⟩,_,rfl,_,rfl,?_⟩);rw[<-hm]at lg;refine Qt (s:=s.lV<|.int ((A.pc+1:Nat):Int)) M3 R3 hr3 lg ?_ ?_ ?_ ?_ ?_ ?_ ?_
     ·rintro A' rfl s' H' M' R' x' hm'
      exact⟨m,by exact adZ _,_,rfl, .inl ⟨s',A',M',R',Ms.ext x',hm'.trans hm,FJ⟩⟩
     ·rintro i rfl p s' H' hp ha M' x'
      cases FJ;exact⟨0,by exact aeE _ _,_,rfl, .inr<|.inl ⟨s',p,i,M',Ms.ext x',hp,ha,rfl,rfl⟩⟩
     ·rintro rfl ea H' kp
      cases FJ;exact q2 rfl ea H' λb o h=>kp b o (Ms b o h).1 (Ms b o h).2
     ·rintro rfl ea H' kp
      cases FJ;exact q3 rfl ea H' λb o h=>kp b o (Ms b o h).1 (Ms b o h).2
     ·rintro rfl ea H' kp
      cases FJ;exact q4 rfl ea H' λb o h=>kp b o (Ms b o h).1 (Ms b o h).2
     ·rintro rfl ea H' kp
      cases FJ;exact q5 rfl ea H' λb o h=>kp b o (Ms b o h).1 (Ms b o h).2
     ·rintro rfl p v s' H' hp hn ha M' x'
      cases FJ;exact⟨0,by exact aeE _ _,_,rfl, .inr<|.inr ⟨s',p,v,M',Ms.ext x',hp,hn,ha,rfl,rfl⟩⟩
 ·refine⟨_,rfl,a.m,CM,a.dx,_,_,rfl,M.ob,Tx.cm,Tx.m6,mf6 _ _ _ _ _ _,_,rfl,?_⟩
  rw[ha];refine gU (λz=>absurd z<|by decide) λ_=>?_;have iH:=M.hp;rw[hp]at iH;refine⟨_,rfl,a.m,CM,a.dx,_, .ref a.pl,rfl,M.ob,Tx.cm,Tx.m2,mf2 _ _ _ _ _ _, .inl ⟨rfl,_,dM.of M.hp⟩,a.pl,_, .int i,rfl,rfl,iH,by simp, .mk i rfl λH3 s3=>q1 i rfl _ λb o h=>s3 b o<|cW (ke b o h).2 λe=>(ke b o h).1<|.inr (.inr<|e ▸ ad3)⟩
 ·refine⟨_,rfl,a.m,CM,a.dx,_,_,rfl,M.ob,Tx.cm,Tx.m6,mf6 _ _ _ _ _ _,_,rfl,?_⟩
  rw[ha];refine gU (λz=>absurd z<|by decide) λ_=>?_;have iH:=M.hp;rw[hp]at iH;exact⟨_,rfl,a.m,CM,a.dx,_, .ref a.pl,rfl,M.ob,Tx.cm,Tx.m2,mf2 _ _ _ _ _ _, .inl ⟨rfl,_,dM.of M.hp⟩,a.pl,_,v,rfl,rfl,iH,by simp, .no v rfl (hn.upd M.hp) λea H3 s3=>q5 rfl ea _ λb o h=>s3 b o<|cW (ke b o h).2 λe=>(ke b o h).1<|.inr (.inr<|e ▸ ad3)⟩
end
inductive Tm where
 |n (i:Int)
 |v (x:Nat)
 |g (j:Nat)
 |lt (x:Nat) (t b:Tm)
 |lW (c a b:Tm)
 |fn (x:Nat) (b:Tm)
 |op (k:Nat) (a b:Tm)
 |call (a b:Tm)
 |block (k:Int) (ts:List Tm)
 |field (j:Nat) (t:Tm)
 |case (x:Nat) (t:Tm) (ms:List Nat) (bs:List Tm)
mutual
noncomputable def dep:Tm->Nat
 |.n _=>0
 |.v _=>0
 |.g _=>0
 |.lt _ t b=>max (dep t) (dep b)+1
 |.lW c a b=>max (dep c) (max (dep a)<|dep b)+1
 |.fn _ b=>dep b+1
 |.op _ a b=>max (dep a) (dep b)+1
 |.call a b=>max (dep a) (dep b)+1
 |.block _ ts=>jm ts+1
 |.field _ t=>dep t+1
 |.case _ t _ bs=>max (dep t) (jm bs)+1
noncomputable def jm:List Tm->Nat
 |[]=>0
 |t::ts=>max (dep t) (jm ts)
end
theorem qj:∀{bs:List Tm} {i:Nat} {b:Tm},bs[i]?=some b->dep b<=jm bs
 |[],_,_,h=>by simp at h
 |t::ts,0,b,h=>by simp at h;subst h;unfold jm;omega
 |t::ts,i+1,b,h=>by
  have:=qj (bs:=ts) (by simpa using h);unfold jm;omega
inductive Vl where
 |num (i:Int)
 |fn (x:Nat) (b:Tm) (env:List Vl)
 |bl (k:Int) (vs:List Vl)
noncomputable def qI:Vl->Option (Tm×List Vl)
 |.num _=>none
 |.fn _ b env=>some (b,env)
 |.bl _ _=>none
inductive Rs where
 |val (v:Vl)|long|deep|great|stuck
noncomputable def evs (f:Tm->Nat->Option (Rs×Nat)):List Tm->Nat->Option ((List Vl ⊕ Rs)×Nat)
 |[],c=>some (.inl [],c)
 |t::ts,c=>match f t c with
  |some (.val v,c1)=>match evs f ts c1 with
   |some (.inl vs,c2)=>some (.inl (v::vs),c2)
   |r=>r
  |some (r,c1)=>some (.inr r,c1)
  |none=>none
noncomputable def ev (most:Int)(S:List Vl):Nat->Nat->Tm->List Vl->Nat->Option (Rs×Nat)
 |0,_,_,_,_=>none
 |_+1,_, .n i,_,c=>some (.val<|.num i,c)
 |_+1,_, .v x,env,c=>(env[x]?).map λv=>(.val v,c)
 |_+1,_, .g j,_,c=>(S[j]?).map λv=>(.val v,c)
 |_+1,_, .fn x b,env,c=>some (.val<|.fn x b env,c)
 |m+1,d, .lt _ t b,env,c=>match ev most S m d t env c with
  |some (.val v,c1)=>ev most S m d b (env++[v]) c1
  |r=>r
 |m+1,d, .lW t a b,env,c=>match ev most S m d t env c with
  |some (.val<|.num i,c1)=>ev most S m d (if i=0 then b else a) env c1
  |some (.val _,c1)=>some (.stuck,c1)
  |r=>r
 |m+1,d, .op k a b,env,c=>match ev most S m d a env c with
  |some (.val v,c1)=>match ev most S m d b env c1 with
   |some (.val w,c2)=>match v,w with
    |.num i, .num j=>some (if dJ (rk k i j)=true then .val (.num<|rk k i j) else .great,c2)
    |_,_=>some (.stuck,c2)
   |r=>r
  |r=>r
 |m+1,d, .call a b,env,c=>match ev most S m d a env c with
  |some (.val v,c1)=>match ev most S m d b env c1 with
   |some (.val w,c2)=>match qI v with
    |some (body,kI)=>if most<(c2:Int)+1 then some (.long,c2) else if 10<d+1 then some (.deep,c2) else ev most S m (d+1) body (kI++[w]) (c2+1)
    |none=>some (.stuck,c2)
   |r=>r
  |r=>r
 |m+1,d, .block k ts,env,c=>match evs (λt c=>ev most S m d t env c) ts c with
  |some (.inl vs,c1)=>some (.val<|.bl k vs,c1)
  |some (.inr r,c1)=>some (r,c1)
  |none=>none
 |m+1,d, .field j t,env,c=>match ev most S m d t env c with
  |some (.val<|.bl _ vs,c1)=>(vs[j]?).map λv=>(.val v,c1)
  |some (.val _,c1)=>some (.stuck,c1)
  |r=>r
 |m+1,d, .case _ t ms bs,env,c=>match ev most S m d t env c with
  |some (.val<|.bl k vs,c1)=>if 0<=k/\k<(bs.length:Int) then(match bs[k.toNat]? with
    |some b=>if ms[k.toNat]?=some vs.length then ev most S m d b (env++vs) c1 else none
    |none=>none) else some (.stuck,c1)
  |some (.val _,c1)=>some (.stuck,c1)
  |r=>r
noncomputable def nJ (x:Nat):List Nat->Option Nat
 |[]=>none
 |y::ys=>if x=y then some 0 else(nJ x ys).map (·+1)
noncomputable def nM (own:List Nat):List Nat->Option (List Nat)
 |[]=>some []
 |y::ys=>match nJ y own,nM own ys with
  |some i,some is=>some (i::is)
  |_,_=>none
noncomputable def nms (x k:Nat):List Nat:=(List.range k).map (x+·)
theorem rY {x k:Nat}:(nms x k).length=k:=by simp[nms]
mutual
def At (aW:List Rw):Tm->List Nat->Nat->Nat->Prop
 |.n i,_,p,q=>dJ i=true/\aW[p]?=some (.num i)/\q=p+1
 |.v x,own,p,q=>∃j,nJ x own=some j/\aW[p]?=some (.loc j)/\q=p+1
 |.g j,_,p,q=>aW[p]?=some (.glob j)/\q=p+1
 |.lt x t b,own,p,q=>∃p1 p2,At aW t own p p1/\aW[p1]?=some .keep/\At aW b (own++[x]) (p1+1) p2/\aW[p2]?=some (.drop 1)/\q=p2+1
 |.lW c a b,own,p,q=>∃p1 p2,At aW c own p p1/\aW[p1]?=some (.Ao<|p2+1)/\At aW a own (p1+1) p2/\aW[p2]?=some (.jump q)/\At aW b own (p2+1) q
 |.fn x b,own,p,q=>∃to js names e,nM own names=some js/\names.length=own.length/\aW[p]?=some (.close to js)/\q=p+1/\At aW b (names++[x]) to e/\aW[e]?=some .back
 |.op k a b,own,p,q=>∃p1 p2,k<=3/\At aW a own p p1/\At aW b own p1 p2/\aW[p2]?=some (.nH k)/\q=p2+1
 |.call a b,own,p,q=>∃p1 p2,At aW a own p p1/\At aW b own p1 p2/\aW[p2]?=some .call/\q=p2+1
 |.block k ts,own,p,q=>∃p1,AtS aW ts own p p1/\aW[p1]?=some (.block k ts.length)/\ts.length<=5/\q=p1+1
 |.field j t,own,p,q=>∃p1,At aW t own p p1/\aW[p1]?=some (.field j)/\q=p1+1
 |.case x t ms bs,own,p,q=>∃p1 fs,At aW t own p p1/\aW[p1]?=some (.case fs)/\fs.length=bs.length/\AtA aW bs ms x own q (p1+1) fs
def AtS (aW:List Rw):List Tm->List Nat->Nat->Nat->Prop
 |[],_,p,q=>q=p
 |t::ts,own,p,q=>∃p1,At aW t own p p1/\AtS aW ts own p1 q
def AtA (aW:List Rw):List Tm->List Nat->Nat->List Nat->Nat->Nat->List Nat->Prop
 |[],_,_,_,_,_,_=>True
 |b::bs,ms,x,own,q,p,fs=>∃m Aw fs' p1,ms=m::Aw/\fs=p::fs'/\m<=5/\At aW b (own++nms x m) p p1/\aW[p1]?=some (.drop m)/\aW[p1+1]?=some (.jump q)/\AtA aW bs Aw x own q (p1+2) fs'
end
theorem Zk {aW:List Rw}{x q:Nat}{own:List Nat}{bs:List Tm}{ms fs:List Nat}{p i:Nat}{b:Tm}(a:AtA aW bs ms x own q p fs)(h:bs[i]?=some b):∃m f p1,ms[i]?=some m/\fs[i]?=some f/\m<=5/\At aW b (own++nms x m) f p1/\aW[p1]?=some (.drop m)/\aW[p1+1]?=some (.jump q):=by
 induction bs generalizing ms fs p i with
 |nil=>simp at h
 |cons t ts ih=>
  obtain⟨m,Aw,fs',p1,rfl,rfl,h2,h3,h4,h5,h6⟩:=a;cases i with
  |zero=>cases h;exact⟨m,p,p1,rfl,rfl,h2,h3,h4,h5⟩
  |succ i=>exact(ih (i:=i) h6 h:)
mutual
noncomputable def WB:Nat->Tm->Prop
 |_, .n _=>True
 |_, .v _=>True
 |_, .g _=>True
 |m, .lt x t b=>x=m/\WB m t/\WB (m+1) b
 |m, .lW c a b=>WB m c/\WB m a/\WB m b
 |m, .fn x b=>x=m/\WB (m+1) b
 |m, .op _ a b=>WB m a/\WB m b
 |m, .call a b=>WB m a/\WB m b
 |m, .block _ ts=>WBL m ts
 |m, .field _ t=>WB m t
 |m, .case x t ms bs=>x=m/\WB m t/\WBA m bs ms
noncomputable def WBL:Nat->List Tm->Prop
 |_,[]=>True
 |m,t::ts=>WB m t/\WBL m ts
noncomputable def WBA:Nat->List Tm->List Nat->Prop
 |_,[],_=>True
 |m,t::ts,ms=>∃k Aw,ms=k::Aw/\WB (m+k) t/\WBA m ts Aw
end
theorem Zm {m:Nat}{bs:List Tm}{ms:List Nat}{i k:Nat}{b:Tm}(a:WBA m bs ms)(h:bs[i]?=some b)(g:ms[i]?=some k):WB (m+k) b:=by
 induction bs generalizing ms i with
 |nil=>simp at h
 |cons t ts ih=>
  obtain⟨k',Aw,rfl,w,w2⟩:=a;cases i with
  |zero=>cases h;cases g;exact w
  |succ i=>exact ih (i:=i) w2 h g
mutual
inductive VR (aW:List Rw):Vl->Wv->Prop where
 |num {i:Int}:dJ i=true->VR aW (.num i) (.num i)
 |fn {x:Nat} {b:Tm} {env:List Vl} {to e:Nat} {kept:List Wv} {names:List Nat}:ER aW env names kept->x=env.length->At aW b (names++[x]) to e->aW[e]?=some .back->names.length+1+6*dep b<=150->dep b<=10->WB (x+1) b->VR aW (.fn x b env) (.fn to kept)
 |bl {k:Int} {vs:List Vl} {ws:List Wv}:Lf aW vs ws->VR aW (.bl k vs) (.bl k ws)
inductive Lf (aW:List Rw):List Vl->List Wv->Prop where
 |nil:Lf aW [] []
 |cons {v:Vl} {w:Wv} {vs:List Vl} {ws:List Wv}:VR aW v w->Lf aW vs ws->Lf aW (v::vs) (w::ws)
inductive ER (aW:List Rw):List Vl->List Nat->List Wv->Prop where
 |nil {env:List Vl}:ER aW env [] []
 |cons {env:List Vl} {y:Nat} {w:Vl} {v:Wv} {own:List Nat} {vs:List Wv}:env[y]?=some w->VR aW w v->ER aW env own vs->ER aW env (y::own) (v::vs)
end
section
variable {aW:List Rw}
@[elab_as_elim] theorem ER.ind {env:List Vl} {C:List Nat->List Wv->Prop} {own:List Nat} {vs:List Wv} (h:ER aW env own vs) (n:C [] []) (c:∀{y w v own vs},env[y]?=some w->VR aW w v->ER aW env own vs->C own vs->C (y::own) (v::vs)):C own vs:=by
 induction own generalizing vs with
 |nil=>cases h;exact n
 |cons y own ih=>cases h with
  |cons e r q=>exact c e r q<|ih q
theorem ER.len {env:aP Vl}{own:aP Nat}{vs:aP Wv}(h:ER aW env own vs):vs.length=own.length:=h.ind rfl λ_ _ _ ih=>congrArg (·+1) ih
theorem ER.snoc {env:aP Vl}{w:Vl}{v:Wv}(h:VR aW w v){own:aP Nat}{vs:aP Wv}(q:ER aW env own vs):ER aW (env++[w]) (own++[env.length]) (vs++[v]):=q.ind (.cons (by simp) h .nil) λe r _ ih=>.cons (by rw[ad6 (aga e).1];exact e) r ih
theorem ER.get {env:List Vl}{own:List Nat}{vs:List Wv}{x j:Nat}(q:ER aW env own vs)(h:nJ x own=some j):∃w v,env[x]?=some w/\vs[j]?=some v/\VR aW w v:=by
 induction own generalizing vs j with
 |nil=>cases h
 |cons y own ih=>cases q with
  |cons e r q=>
   unfold nJ at h;by_cases c:x=y
   ·rw[afX c]at h
    cases h;subst c;exact⟨_,_,e,rfl,r⟩
   ·rw[afY c]at h
    cases hj:nJ x own with
    |none=>rw[hj]at h;cases h
    |some k=>
     rw[hj]at h;cases h;exact(ih q hj:)
theorem ER.pick {env:List Vl}{own:List Nat}{vs:List Wv}(r:ER aW env own vs){names js:List Nat}(h:nM own names=some js):js.length=names.length/\∃kept,picked vs js=some kept/\ER aW env names kept:=by
 induction names generalizing js with
 |nil=>cases h;exact⟨rfl,[],rfl, .nil⟩
 |cons y ys ih=>
  unfold nM at h;split at h
  ·rename_i i is e1 e2
   cases h;obtain⟨l,kept,h1,h2⟩:=ih e2;obtain⟨w,v,g1,g2,g3⟩:=r.get e1;exact⟨congrArg (·+1) l,v::kept,by unfold picked;rw[g2,h1], .cons g1 g3 h2⟩
  ·cases h
theorem ER.more {env ws:aP Vl}{own:aP Nat}{vs:aP Wv}(h:ER aW env own vs):ER aW (env++ws) own vs:=h.ind .nil λe r _ ih=>.cons (by rw[ad6 (aga e).1];exact e) r ih
theorem ER.app {env:aP Vl}{own on:aP Nat}{vs vn:aP Wv}(h:ER aW env own vs)(k:ER aW env on vn):ER aW env (own++on) (vs++vn):=h.ind k λe r _ ih=>.cons e r ih
theorem ER.of {env:List Vl}{own:List Nat}{vs:List Wv}(h:own.length=vs.length)(g:∀(j:Nat) y v,own[j]?=some y->vs[j]?=some v->∃w,env[y]?=some w/\VR aW w v):ER aW env own vs:=by
 induction own generalizing vs with
 |nil=>cases vs with
  |nil=>exact .nil
  |cons=>cases h
 |cons y ys ih=>cases vs with
  |nil=>cases h
  |cons v vs=>
   obtain⟨w,e,r⟩:=g 0 y v rfl rfl;exact .cons e r<|ih (Nat.succ.inj h) λj=>g (j+1)
@[elab_as_elim] theorem Lf.ind {C:List Vl->List Wv->Prop} {vs:List Vl} {ts:List Wv} (h:Lf aW vs ts) (n:C [] []) (c:∀{v t vs ts},VR aW v t->Lf aW vs ts->C vs ts->C (v::vs) (t::ts)):C vs ts:=by
 induction ts generalizing vs with
 |nil=>cases h;exact n
 |cons t ts ih=>cases h with
  |cons r q=>exact c r q<|ih q
theorem Lf.len {vs:aP Vl}{ws:aP Wv}(h:Lf aW vs ws):vs.length=ws.length:=h.ind rfl λ_ _ ih=>congrArg (·+1) ih
theorem Lf.get {vs:List Vl}{ws:List Wv}{j:Nat}{v:Vl}(h:Lf aW vs ws)(e:vs[j]?=some v):∃w,ws[j]?=some w/\VR aW v w:=by
 induction vs generalizing ws j with
 |nil=>simp at e
 |cons u us ih=>cases h with
  |cons r q=>cases j with
   |zero=>cases e;exact⟨_,rfl,r⟩
   |succ j=>exact(ih (j:=j) q e:)
theorem ER.vals {env:aP Vl}{own:aP Nat}{vs:aP Wv}{us:aP Vl}{ws:aP Wv}(h:ER aW env own vs)(r:Lf aW us ws):ER aW (env++us) (own++nms env.length us.length) (vs++ws):=by
 refine h.more.app (ER.of (by rw[rY,r.len]) λj y v e1 e2=>?_);have lj:j<us.length:=by have:=(aga e1).1;rwa [rY]at this
 have ey:y=env.length+j:=by
  unfold nms at e1;rw[aee,List.getElem?_range lj]at e1;cases e1;rfl
 subst ey;obtain⟨w,e3,r3⟩:=r.get (adX lj);rw[e2]at e3;cases e3;exact⟨us[j],by rw[aef (by exact ad9 _ _),aeK];exact adX lj,r3⟩
theorem VR.call {v:Vl}{u:Wv}{body:Tm}{kI:List Vl}(h:VR aW v u)(c:qI v=some (body,kI)):∃to kept names y e,qH u=some (to,kept)/\ER aW kI names kept/\y=kI.length/\At aW body (names++[y]) to e/\aW[e]?=some .back/\names.length+1+6*dep body<=150/\dep body<=10/\WB (y+1) body:=by
 cases h with
 |num hi=>cases c
 |fn h1 h2 h3 h4 h5 h6 h7=>cases c;exact⟨_,_,_,_,_,rfl,h1,h2,h3,h4,h5,h6,h7⟩
 |bl h1=>cases c
theorem VR.G9 {v:Vl}{u:Wv}(h:VR aW v u)(c:qI v=none):qH u=none:=by
 cases h with
 |num hi=>rfl
 |fn=>cases c
 |bl h1=>rfl
def uJ (most:Int)(aW:List Rw)(A A':AS):Prop:=∃k,∀m,uH most aW (m+k) A=uH most aW m A'
def Ends (most:Int)(aW:List Rw)(A:AS)(o:Out):Prop:=∃k,∀m,uH most aW (m+k) A=some o
variable {most:Int}
theorem uJ.trans {A B C:AS}(a:uJ most aW A B)(b:uJ most aW B C):uJ most aW A C:=by
 obtain⟨k,h⟩:=a;obtain⟨l,g⟩:=b;exact⟨l+k,λm=>by rw[<-ael,h,g]⟩
theorem uJ.ends {A B:AS}{o:Out}(a:uJ most aW A B)(b:Ends most aW B o):Ends most aW A o:=by
 obtain⟨k,h⟩:=a;obtain⟨l,g⟩:=b;exact⟨l+k,λm=>by rw[<-ael,h,g]⟩
theorem fX {A A':AS}{row:Rw}(h:aW[A.pc]?=some row)(s:fJ most row {A with pc:=A.pc+1}=some (.inl A')):uJ most aW A A':=⟨1,λm=>by
 rw[uH,h]
 try dsimp only
 rw[s]⟩
theorem iQ {A:AS}{row:Rw}{o:Out}(h:aW[A.pc]?=some row)(s:fJ most row {A with pc:=A.pc+1}=some (.inr o)):Ends most aW A o:=⟨1,λm=>by
 rw[uH,h]
 try dsimp only
 rw[s]⟩
structure Bd (A:AS):Prop where
 p:A.pile.length<=490
 o:A.own.length<=400
 s:A.uG.length<=400
 u:A.outer.length<=400
theorem Bd.all {A:AS}(b:Bd A):A.pile.length<=490/\A.own.length<=400/\A.uG.length<=400/\A.outer.length<=400:=⟨b.p,b.o,b.s,b.u⟩
theorem Zn {A:AS}{i:Int}(b:Bd A)(h:aW[A.pc]?=some (.num i)):uJ most aW A {A with pile:=.num i::A.pile,pc:=A.pc+1}:=fX h (by unfold fJ;exact afX b.all)
theorem Zo {A:AS}{j:Nat}{v:Wv}(b:Bd A)(h:aW[A.pc]?=some (.loc j))(e:A.own[j]?=some v):uJ most aW A {A with pile:=v::A.pile,pc:=A.pc+1}:=fX h (by
 unfold fJ;rw[afX b.all];dsimp only;rw[e];rfl)
theorem T8 {A:AS}{j:Nat}{v:Wv}(b:Bd A)(h:aW[A.pc]?=some (.glob j))(e:A.uG[j]?=some v):uJ most aW A {A with pile:=v::A.pile,pc:=A.pc+1}:=fX h (by
 unfold fJ;rw[afX b.all];dsimp only;rw[e];rfl)
theorem do_keep {A:AS}{v:Wv}{p:aP Wv}(b:Bd A)(h:aW[A.pc]?=some .keep)(e:A.pile=v::p):uJ most aW A {A with pile:=p,own:=A.own++[v],pc:=A.pc+1}:=fX h (by
 unfold fJ;rw[afX b.all];dsimp only;rw[e])
theorem do_drop {A:AS}{o u:aP Wv}{n:Nat}(b:Bd A)(h:aW[A.pc]?=some (.drop n))(e:A.own=o++u)(l:u.length=n):uJ most aW A {A with own:=o,pc:=A.pc+1}:=fX h (by
 unfold fJ;rw[afX b.all];dsimp only;rw[afX (by rw[e,adV];omega)];rw[show A.own.take (A.own.length-n)=o by rw[e,adV,<-l,Nat.add_sub_cancel,List.take_left' rfl]])
theorem Zq {A:AS}{i:Int}{p:aP Wv}{t:Nat}(b:Bd A)(h:aW[A.pc]?=some (.Ao t))(e:A.pile=.num i::p):uJ most aW A (if i=0 then{A with pile:=p,pc:=t} else{A with pile:=p,pc:=A.pc+1}):=fX h (by
 unfold fJ;rw[afX b.all];dsimp only;rw[e])
theorem do_jump {A:AS}{t:Nat}(b:Bd A)(h:aW[A.pc]?=some (.jump t)):uJ most aW A {A with pc:=t}:=fX h (by unfold fJ;exact afX b.all)
theorem do_close {A:AS}{to:Nat}{js:aP Nat}{kept:aP Wv}(b:Bd A)(h:aW[A.pc]?=some (.close to js))(l:js.length<=400)(e:picked A.own js=some kept):uJ most aW A {A with pile:=.fn to kept::A.pile,pc:=A.pc+1}:=fX h (by
 unfold fJ;rw[afX b.all];dsimp only;rw[afX l,e];rfl)
theorem T9 {A:AS}{k:Nat}{i j:Int}{p:aP Wv}(b:Bd A)(h:aW[A.pc]?=some (.nH k))(hk:k<=3)(hi:dJ i=true)(hj:dJ j=true)(e:A.pile=.num j::.num i::p)(z:dJ (rk k i j)=true):uJ most aW A {A with pile:=.num (rk k i j)::p,pc:=A.pc+1}:=fX h (by
 unfold fJ;rw[afX b.all];dsimp only;rw[e];dsimp only;rw[afX ⟨hk,hi,hj⟩,afX z])
theorem Qu {A:AS}{k:Nat}{i j:Int}{p:aP Wv}(b:Bd A)(h:aW[A.pc]?=some (.nH k))(hk:k<=3)(hi:dJ i=true)(hj:dJ j=true)(e:A.pile=.num j::.num i::p)(z:¬dJ (rk k i j)=true):Ends most aW A .great:=iQ h (by
 unfold fJ;rw[afX b.all];dsimp only;rw[e];dsimp only;rw[afX ⟨hk,hi,hj⟩,afY z])
theorem do_call {A:AS}{v u:Wv}{to:Nat}{kept p:aP Wv}(b:Bd A)(h:aW[A.pc]?=some .call)(l:kept.length<=400)(e:A.pile=v::u::p)(k:qH u=some (to,kept))(z1:¬most<(A.begun:Int)+1)(z2:¬10<A.outer.length+1):
  uJ most aW A {A with pile:=p,own:=kept++[v],be:=A.pc+1,outer:=(A.own,A.be)::A.outer,pc:=to,begun:=A.begun+1}:=fX h (by
 unfold fJ;rw[afX b.all];dsimp only;rw[e];dsimp only;rw[k];dsimp only;rw[afX l,afY z1,afY z2])
theorem Ub {A:AS}{v u:Wv}{to:Nat}{kept p:aP Wv}(b:Bd A)(h:aW[A.pc]?=some .call)(l:kept.length<=400)(e:A.pile=v::u::p)(k:qH u=some (to,kept))(z1:most<(A.begun:Int)+1):Ends most aW A .long:=iQ h (by
 unfold fJ;rw[afX b.all];dsimp only;rw[e];dsimp only;rw[k];dsimp only;rw[afX l,afX z1])
theorem Ud {A:AS}{v u:Wv}{to:Nat}{kept p:aP Wv}(b:Bd A)(h:aW[A.pc]?=some .call)(l:kept.length<=400)(e:A.pile=v::u::p)(k:qH u=some (to,kept))(z1:¬most<(A.begun:Int)+1)(z2:10<A.outer.length+1):Ends most aW A .deep:=iQ h (by
 unfold fJ;rw[afX b.all];dsimp only;rw[e];dsimp only;rw[k];dsimp only;rw[afX l,afY z1,afX z2])
theorem do_back {A:AS}{o:aP Wv}{be:Nat}{fs:aP (aP Wv×Nat)}(b:Bd A)(h:aW[A.pc]?=some .back)(e:A.outer=(o,be)::fs):uJ most aW A {A with own:=o,be:=be,outer:=fs,pc:=A.be}:=fX h (by
 unfold fJ;rw[afX b.all];dsimp only;rw[e])
theorem Zr {A:AS}{i:Int}{p:aP Wv}(b:Bd A)(h:aW[A.pc]?=some .back)(e:A.outer=[])(e2:A.pile=.num i::p):Ends most aW A (.num i):=iQ h (by
 unfold fJ;rw[afX b.all];dsimp only;rw[e];dsimp only;rw[e2])
theorem do_block {A:AS}{k:Int}{n:Nat}{ws p:aP Wv}(b:Bd A)(h:aW[A.pc]?=some (.block k n))(e:A.pile=ws.reverse++p)(l:ws.length=n)(l4:n<=100):uJ most aW A {A with pile:=.bl k ws::p,pc:=A.pc+1}:=fX h (by
 unfold fJ;rw[afX b.all];dsimp only;rw[afX ⟨by rw[e,adV,aez];omega,l4⟩,e,List.take_left' (by rw[aez];exact l),List.drop_left' (by rw[aez];exact l),aeY])
theorem do_field {A:AS}{j:Nat}{k:Int}{vs p:aP Wv}{v:Wv}(b:Bd A)(h:aW[A.pc]?=some (.field j))(e:A.pile=.bl k vs::p)(g:vs[j]?=some v):uJ most aW A {A with pile:=v::p,pc:=A.pc+1}:=fX h (by
 unfold fJ;rw[afX b.all];dsimp only;rw[e];dsimp only;rw[g];rfl)
theorem do_case {A:AS}{fs:aP Nat}{k:Int}{vs p:aP Wv}{t:Nat}(b:Bd A)(h:aW[A.pc]?=some (.case fs))(e:A.pile=.bl k vs::p)(l:vs.length<=400)(z:0<=k/\k<(fs.length:Int))(g:fs[k.toNat]?=some t):uJ most aW A {A with pile:=p,own:=A.own++vs,pc:=t}:=fX h (by
 unfold fJ;rw[afX b.all];dsimp only;rw[e];dsimp only;rw[afX z,afX l,g];rfl)
def abl:Wv->Prop
 |.bl _ _=>False
 |_=>True
def Je:Wv->Prop
 |.num _=>False
 |_=>True
theorem DQ {A:AS}{j:Nat}{u:Wv}{p:List Wv}(b:Bd A)(h:aW[A.pc]?=some (.field j))(e:A.pile=u::p)(n:abl u):Ends most aW A .stuck:=iQ h (by
 unfold fJ;rw[afX b.all];dsimp only;rw[e];cases u with
 |bl k vs=>exact n.elim
 |num i=>rfl
 |fn to kept=>rfl)
theorem Jf {A:AS}{fs:List Nat}{u:Wv}{p:List Wv}(b:Bd A)(h:aW[A.pc]?=some (.case fs))(e:A.pile=u::p)(n:abl u):Ends most aW A .stuck:=iQ h (by
 unfold fJ;rw[afX b.all];dsimp only;rw[e];cases u with
 |bl k vs=>exact n.elim
 |num i=>rfl
 |fn to kept=>rfl)
theorem Zt {A:AS}{fs:aP Nat}{k:Int}{vs p:aP Wv}(b:Bd A)(h:aW[A.pc]?=some (.case fs))(e:A.pile=.bl k vs::p)(z:¬(0<=k/\k<(fs.length:Int))):Ends most aW A .stuck:=iQ h (by
 unfold fJ;rw[afX b.all];dsimp only;rw[e];dsimp only;rw[afY z])
theorem Qv {A:AS}{t:Nat}{u:Wv}{p:List Wv}(b:Bd A)(h:aW[A.pc]?=some (.Ao t))(e:A.pile=u::p)(n:Je u):Ends most aW A .stuck:=iQ h (by
 unfold fJ;rw[afX b.all];dsimp only;rw[e];cases u with
 |num i=>exact n.elim
 |bl k vs=>rfl
 |fn to kept=>rfl)
theorem Ue {A:AS}{v u:Wv}{p:aP Wv}(b:Bd A)(h:aW[A.pc]?=some .call)(e:A.pile=v::u::p)(k:qH u=none):Ends most aW A .stuck:=iQ h (by
 unfold fJ;rw[afX b.all];dsimp only;rw[e];dsimp only;rw[k])
theorem u0 {A:AS}{k:Nat}{v u:Wv}{p:List Wv}(b:Bd A)(h:aW[A.pc]?=some (.nH k))(hk:k<=3)(e:A.pile=v::u::p)(n:Je v\/Je u):Ends most aW A .stuck:=iQ h (by
 unfold fJ;rw[afX b.all];dsimp only;rw[e];cases v with
 |num i=>cases u with
  |num j=>exact n.elim (λz=>z.elim) λz=>z.elim
  |bl k vs=>exact afX hk
  |fn to kept=>exact afX hk
 |bl k vs=>exact afX hk
 |fn to kept=>exact afX hk)
theorem Qw {A:AS}{u:Wv}{p:List Wv}(b:Bd A)(h:aW[A.pc]?=some .back)(e:A.outer=[])(e2:A.pile=u::p)(n:Je u):Ends most aW A .stuck:=iQ h (by
 unfold fJ;rw[afX b.all];dsimp only;rw[e];dsimp only;rw[e2];cases u with
 |num i=>exact n.elim
 |bl k vs=>rfl
 |fn to kept=>rfl)
theorem do_store {A:AS}{v:Wv}{p:aP Wv}(b:Bd A)(h:aW[A.pc]?=some .store)(e:A.pile=v::p):uJ most aW A {A with pile:=p,uG:=A.uG++[v],pc:=A.pc+1}:=fX h (by
 unfold fJ;rw[afX b.all];dsimp only;rw[e])
end
noncomputable def Qx:Rs->Option Out
 |.val _=>none
 |.long=>some .long
 |.deep=>some .deep
 |.great=>some .great
 |.stuck=>some .stuck
structure Pre (aW:List Rw)(S:List Vl)(d n:Nat)(env:List Vl)(own:List Nat)(A:AS):Prop where
 er:ER aW env own A.own
 sr:∀(j:Nat) w,S[j]?=some w->∃v,A.uG[j]?=some v/\VR aW w v
 ou:A.outer.length=d
 Ug:d<=10
 pl:A.pile.length+4*n+40*(10-d)<=480
 ow:own.length+6*n<=150
 st:A.uG.length<=100
section
variable {most:Int}{aW:List Rw}{S:List Vl}{d n:Nat}{env:List Vl}{own:List Nat}{A:AS}
theorem Pre.bd (h:Pre aW S d n env own A):Bd A:=⟨by have:=h.pl;omega,by have:=h.er.len;have:=h.ow;omega,by have:=h.st;exact ad2 this (by decide),by have:=h.ou;have:=h.Ug;omega⟩
theorem Pre.less {n':Nat}(h:Pre aW S d n env own A)(e:n'<=n):Pre aW S d n' env own A:=⟨h.er,h.sr,h.ou,h.Ug,by have:=h.pl;omega,by have:=h.ow;omega,h.st⟩
theorem Pre.push {n' c pc:Nat}{v:Wv}(h:Pre aW S d n env own A)(e:n'+1<=n):Pre aW S d n' env own {A with pile:=v::A.pile,pc:=pc,begun:=c}:=⟨h.er,h.sr,h.ou,h.Ug,by have:=h.pl;show A.pile.length+1+4*n'+_<=480;omega,by have:=h.ow;omega,h.st⟩
def Post (most:Int)(aW:List Rw)(A:AS)(q:Nat)(r:Rs)(c':Nat):Prop :=
 (∀v,r=.val v->∃v',VR aW v v'/\uJ most aW A {A with pile:=v'::A.pile,pc:=q,begun:=c'})/\∀o,Qx r=some o->Ends most aW A o
theorem Post.val {q:Nat}{v:Vl}{c':Nat}{v':Wv}(h:VR aW v v')(g:uJ most aW A {A with pile:=v'::A.pile,pc:=q,begun:=c'}):Post most aW A q (.val v) c':=⟨λw e=>by cases e;exact⟨v',h,g⟩,λo e=>by cases e⟩
theorem Post.out {q:Nat}{r:Rs}{c':Nat}{o:Out}(e:Qx r=some o)(g:Ends most aW A o):Post most aW A q r c':=⟨λw z=>(by subst z;cases e),λo' z=>by rw[e]at z;cases z;exact g⟩
theorem Post.pass {q q':Nat}{r:Rs}{c':Nat}(h:Post most aW A q r c')(nv:∀v,r≠.val v):Post most aW A q' r c':=⟨λv e=>absurd e<|nv v,h.2⟩
end
theorem Jg {f:Tm->Nat->Option (Rs×Nat)}:∀{ts:List Tm} {c:Nat} {vs:List Vl} {c':Nat},evs f ts c=some (.inl vs,c')->vs.length=ts.length
 |[],c,vs,c',h=>by cases h;rfl
 |t::ts,c,vs,c',h=>by
  unfold evs at h;cases e:f t c with
  |none=>rw[e]at h;cases h
  |some rc=>
   obtain⟨r,c1⟩:=rc;rw[e]at h;cases r with
   |val v=>
    dsimp only at h;cases e2:evs f ts c1 with
    |none=>rw[e2]at h;cases h
    |some oc=>
     obtain⟨o,c2⟩:=oc;rw[e2]at h;cases o with
     |inl us=>cases h;exact congrArg (·+1)<|Jg e2
     |inr r=>cases h
   |_=>cases h
theorem yR {f:Tm->Nat->Option (Rs×Nat)}:∀{ts:List Tm} {c:Nat} {r:Rs} {c':Nat},evs f ts c=some (.inr r,c')->∀v,r≠.val v
 |[],c,r,c',h=>by cases h
 |t::ts,c,r,c',h=>by
  unfold evs at h;cases e:f t c with
  |none=>rw[e]at h;cases h
  |some rc=>
   obtain⟨r1,c1⟩:=rc;rw[e]at h;cases r1 with
   |val v=>
    dsimp only at h;cases e2:evs f ts c1 with
    |none=>rw[e2]at h;cases h
    |some oc=>
     obtain⟨o,c2⟩:=oc;rw[e2]at h;cases o with
     |inl us=>cases h
     |inr r2=>cases h;exact yR e2
   |_=>cases h;exact λv z=>by cases z
theorem run_seq {most:Int}{aW:List Rw}{S:List Vl}{d:Nat}{env:List Vl}{own:List Nat}{f:Tm->Nat->Option (Rs×Nat)}(D:Nat)
  (ih:∀(t:Tm) (own:List Nat) (q:Nat) (A:AS) (r:Rs) (c':Nat),f t A.begun=some (r,c')->At aW t own A.pc q->Pre aW S d D env own A->dep t<=D->WB env.length t->Post most aW A q r c'):
  ∀(ts:List Tm) (Zu:List Wv) (A:AS) (q:Nat) (o:List Vl ⊕ Rs) (c':Nat),evs f ts A.begun=some (o,c')->AtS aW ts own A.pc q->Pre aW S d (D+1) env own {A with pile:=A.pile.drop Zu.length}->jm ts<=D->WBL env.length ts->Zu.length+ts.length<=5->
   (∀vs,o=.inl vs->∃ws,Lf aW vs ws/\uJ most aW A {A with pile:=ws.reverse++A.pile,pc:=q,begun:=c'})/\∀r,o=.inr r->∀o',Qx r=some o'->Ends most aW A o'
 |[],Zu,A,q,o,c',h,ha,pr,hd,wb,l5=>by
  cases h;have ha':q=A.pc:=ha;subst ha';exact⟨λvs e=>by cases e;exact⟨[], .nil,⟨0,λm=>rfl⟩⟩,λr e=>by cases e⟩
 |t::ts,Zu,A,q,o,c',h,⟨p1,a1,a2⟩,pr,hd,wb,l5=>by
  obtain⟨Qy,Qz⟩:=wb;unfold jm at hd;rw[aeB]at l5;have lp:A.pile.length<=(A.pile.drop Zu.length).length+Zu.length:=by rw[afd];omega
  unfold evs at h;cases e1:f t A.begun with
  |none=>rw[e1]at h;cases h
  |some rc=>
   obtain⟨r1,c1⟩:=rc;have P1:=ih t own p1 A r1 c1 e1 a1 ⟨pr.er,pr.sr,pr.ou,pr.Ug,by have:=pr.pl;dsimp only at this;omega,by have:=pr.ow;omega,pr.st⟩ (by omega) Qy;rw[e1]at h;cases r1 with
   |val v=>
    obtain⟨v',hv,g1⟩:=P1.1 v rfl;dsimp only at h;cases e2:evs f ts c1 with
    |none=>rw[e2]at h;cases h
    |some oc=>
     obtain⟨o2,c2⟩:=oc;have P2:=run_seq D ih ts (v'::Zu) {A with pile:=v'::A.pile,pc:=p1,begun:=c1} q o2 c2 e2 a2 ⟨pr.er,pr.sr,pr.ou,pr.Ug,by have:=pr.pl;exact this,pr.ow,pr.st⟩ (by omega) Qz (by rw[aeB];omega);rw[e2]at h;cases o2 with
     |inl us=>
      cases h;obtain⟨ws,hw,g2⟩:=P2.1 us rfl;refine⟨λvs e=>?_,λr e=>by cases e⟩;cases e;exact⟨v'::ws, .cons hv hw,by rw[aeV,ad8];exact g1.trans g2⟩
     |inr r2=>
      cases h;exact⟨λvs e=>(by cases e),λr e o' ho=>by cases e;exact g1.ends<|P2.2 _ rfl o' ho⟩
   |long=>cases h;exact⟨λvs e=>(by cases e),λr e o' ho=>by cases e;exact P1.2 o' ho⟩
   |deep=>cases h;exact⟨λvs e=>(by cases e),λr e o' ho=>by cases e;exact P1.2 o' ho⟩
   |great=>cases h;exact⟨λvs e=>(by cases e),λr e o' ho=>by cases e;exact P1.2 o' ho⟩
   |stuck=>cases h;exact⟨λvs e=>(by cases e),λr e o' ho=>by cases e;exact P1.2 o' ho⟩
theorem jf {most:Int}{aW:List Rw}{S:List Vl}:∀(m d:Nat) (t:Tm) (env:List Vl) (own:List Nat) (q:Nat) (A:AS) (r:Rs) (c':Nat),ev most S m d t env A.begun=some (r,c')->At aW t own A.pc q->Pre aW S d (dep t) env own A->dep t<=11->WB env.length t->Post most aW A q r c'
 |0,d,t,env,own,q,A,r,c',h,_,_,_,_=>by cases h
 |m+1,d, .n i,env,own,q,A,r,c',h,ha,pr,hd,wb=>by
  obtain⟨hi,hr,rfl⟩:=ha;cases h;exact Post.val (.num hi)<|Zn pr.bd hr
 |m+1,d, .v x,env,own,q,A,r,c',h,ha,pr,hd,wb=>by
  obtain⟨j,hj,hr,rfl⟩:=ha;obtain⟨w,v,h1,h2,h3⟩:=pr.er.get hj;unfold ev at h;rw[h1]at h;cases h;exact Post.val h3<|Zo pr.bd hr h2
 |m+1,d, .g j,env,own,q,A,r,c',h,ha,pr,hd,wb=>by
  obtain⟨hr,rfl⟩:=ha;unfold ev at h;cases hs:S[j]? with
  |none=>rw[hs]at h;cases h
  |some w=>
   rw[hs]at h;cases h;obtain⟨v,h2,h3⟩:=pr.sr j w hs;exact Post.val h3<|T8 pr.bd hr h2
 |m+1,d, .fn x b,env,own,q,A,r,c',h,ha,pr,hd,wb=>by
  obtain⟨to,js,names,e,hj,hl,hr,rfl,hb,hk⟩:=ha;obtain⟨hx,wb⟩:=wb;obtain⟨lj,kept,h1,h2⟩:=pr.er.pick hj;have ow:=pr.ow;simp only[dep]at hd ow;cases h;exact Post.val (.fn h2 hx hb hk (by omega) (by exact ae' hd)<|by rw[hx];exact wb) (do_close pr.bd hr (by omega) h1)
 |m+1,d, .lt x t b,env,own,q,A,r,c',h,ha,pr,hd,wb=>by
  obtain⟨p1,p2,a1,k1,a2,k2,rfl⟩:=ha;obtain⟨hx,Qy,Qz⟩:=wb;simp only[dep]at pr hd;unfold ev at h;cases e1:ev most S m d t env A.begun with
  |none=>rw[e1]at h;cases h
  |some rc=>
   obtain⟨r1,c1⟩:=rc;have P1:=jf m d t env own p1 A r1 c1 e1 a1 (pr.less<|by omega) (by omega) Qy;rw[e1]at h;cases r1 with
   |val v=>
    dsimp only at h;obtain⟨v',hv,g1⟩:=P1.1 v rfl;have b1:Bd {A with pile:=v'::A.pile,pc:=p1,begun:=c1}:=(pr.push (n':=0) (c:=c1) (pc:=p1) (v:=v')<|by exact aeE _ _).bd;have g2:=do_keep (most:=most) b1 k1 rfl;have Jh:Pre aW S d (dep b) (env++[v]) (own++[x]) {A with pile:=A.pile,own:=A.own++[v'],pc:=p1+1,begun:=c1}:=⟨by rw[hx];exact pr.er.snoc hv,pr.sr,pr.ou,pr.Ug,by have:=pr.pl;show A.pile.length+_+_<=480;omega,by have:=pr.ow;rw[adV];simp;omega,pr.st⟩;have P2:=jf m d b (env++[v]) (own++[x]) p2 _ r c' h a2 Jh (by omega) (by rw[adV];exact Qz);have QB:=g1.trans g2;refine⟨λw hw=>?_,λo ho=>QB.ends<|P2.2 o ho⟩;obtain⟨w',hw',g3⟩:=P2.1 w hw;have b3:=(Jh.push (n':=0) (c:=c') (pc:=p2) (v:=w'));have b3':Bd {A with pile:=w'::A.pile,own:=A.own++[v'],pc:=p2,begun:=c'}:=⟨by have:=pr.pl;show A.pile.length+1<=490;omega,Jh.bd.o,Jh.bd.s,Jh.bd.u⟩;have g4:=do_drop (most:=most) (u:=[v']) b3' k2 rfl rfl;exact⟨w',hw',QB.trans<|g3.trans g4⟩
   |long=>cases h;exact P1.pass (λv z=>by cases z)
   |deep=>cases h;exact P1.pass (λv z=>by cases z)
   |great=>cases h;exact P1.pass (λv z=>by cases z)
   |stuck=>cases h;exact P1.pass (λv z=>by cases z)
 |m+1,d, .lW t a b,env,own,q,A,r,c',h,ha,pr,hd,wb=>by
  obtain⟨p1,p2,a1,k1,a2,k2,a3⟩:=ha;obtain⟨Qy,Qz,wb3⟩:=wb;simp only[dep]at pr hd;unfold ev at h;cases e1:ev most S m d t env A.begun with
  |none=>rw[e1]at h;cases h
  |some rc=>
   obtain⟨r1,c1⟩:=rc;have P1:=jf m d t env own p1 A r1 c1 e1 a1 (pr.less<|by omega) (by omega) Qy;rw[e1]at h;cases r1 with
   |val v=>
    obtain⟨v',hv,g1⟩:=P1.1 v rfl;cases hv with
    |@num i hi=>
     dsimp only at h;have b1:Bd {A with pile:=.num i::A.pile,pc:=p1,begun:=c1}:=(pr.push (n':=0) (c:=c1) (pc:=p1) (v:=.num i)<|by exact aeE _ _).bd;have g2:=Zq (most:=most) b1 k1 rfl;by_cases z:i=0
     ·rw[afX z]at h g2
      have Jh:Pre aW S d (dep b) env own {A with pile:=A.pile,pc:=p2+1,begun:=c1}:=⟨pr.er,pr.sr,pr.ou,pr.Ug,by have:=pr.pl;show A.pile.length+_+_<=480;omega,by have:=pr.ow;omega,pr.st⟩;have P2:=jf m d b env own q _ r c' h a3 Jh (by omega) wb3;have QB:=g1.trans g2;refine⟨λw hw=>?_,λo ho=>QB.ends<|P2.2 o ho⟩;obtain⟨w',hw',g3⟩:=P2.1 w hw;exact⟨w',hw',QB.trans g3⟩
     ·rw[afY z]at h g2
      have Jh:Pre aW S d (dep a) env own {A with pile:=A.pile,pc:=p1+1,begun:=c1}:=⟨pr.er,pr.sr,pr.ou,pr.Ug,by have:=pr.pl;show A.pile.length+_+_<=480;omega,by have:=pr.ow;omega,pr.st⟩;have P2:=jf m d a env own p2 _ r c' h a2 Jh (by omega) Qz;have QB:=g1.trans g2;refine⟨λw hw=>?_,λo ho=>QB.ends<|P2.2 o ho⟩;obtain⟨w',hw',g3⟩:=P2.1 w hw;have b3:Bd {A with pile:=w'::A.pile,pc:=p2,begun:=c'}:=(pr.push (n':=0) (c:=c') (pc:=p2) (v:=w')<|by exact aeE _ _).bd;exact⟨w',hw',QB.trans<|g3.trans (do_jump b3 k2)⟩
    |@fn _ _ _ to _ kept _ h1 h2 h3 h4 h5 h6 h7=>
     cases h;have b1:Bd {A with pile:=.fn to kept::A.pile,pc:=p1,begun:=c'}:=(pr.push (n':=0) (c:=c') (pc:=p1)<|by exact aeE _ _).bd;exact Post.out rfl (g1.ends<|Qv b1 k1 rfl trivial)
    |@bl k _ ws h1=>
     cases h;have b1:Bd {A with pile:=.bl k ws::A.pile,pc:=p1,begun:=c'}:=(pr.push (n':=0) (c:=c') (pc:=p1)<|by exact aeE _ _).bd;exact Post.out rfl (g1.ends<|Qv b1 k1 rfl trivial)
   |long=>cases h;exact P1.pass (λv z=>by cases z)
   |deep=>cases h;exact P1.pass (λv z=>by cases z)
   |great=>cases h;exact P1.pass (λv z=>by cases z)
   |stuck=>cases h;exact P1.pass (λv z=>by cases z)
 |m+1,d, .block k ts,env,own,q,A,r,c',h,ha,pr,hd,wb=>by
  obtain⟨p1,a1,k1,l5,rfl⟩:=ha;simp only[dep]at pr hd;unfold ev at h;cases e1:evs (λt c=>ev most S m d t env c) ts A.begun with
  |none=>rw[e1]at h;cases h
  |some oc=>
   obtain⟨o,c1⟩:=oc;have P1:=run_seq (most:=most) (aW:=aW) (S:=S) (f:=λt c=>ev most S m d t env c) (jm ts) (λt own q A r c' h ha pr hdt wb=>jf m d t env own q A r c' h ha (pr.less hdt) (by omega) wb) ts [] A p1 o c1 e1 a1 pr (adZ _) wb (by simpa using l5);rw[e1]at h;cases o with
   |inl vs=>
    cases h;obtain⟨ws,hv,g1⟩:=P1.1 vs rfl;have lw:=hv.len;have lt:=Jg e1;have b1:Bd {A with pile:=ws.reverse++A.pile,pc:=p1,begun:=c'}:=⟨by have:=pr.pl;show(ws.reverse++A.pile).length<=490;rw[adV,aez];omega,pr.bd.o,pr.bd.s,pr.bd.u⟩;exact Post.val (.bl hv) (g1.trans (do_block b1 k1 rfl (by exact lw.symm.trans lt) (by exact ad2 l5<|by decide)))
   |inr r1=>
    cases h;exact⟨λv e=>absurd e<|yR e1 v,λo ho=>P1.2 _ rfl o ho⟩
 |m+1,d, .field j t,env,own,q,A,r,c',h,ha,pr,hd,wb=>by
  obtain⟨p1,a1,k1,rfl⟩:=ha;simp only[dep]at pr hd;unfold ev at h;cases e1:ev most S m d t env A.begun with
  |none=>rw[e1]at h;cases h
  |some rc=>
   obtain⟨r1,c1⟩:=rc;have P1:=jf m d t env own p1 A r1 c1 e1 a1 (pr.less<|by exact aeI _) (by exact aeF hd) wb;rw[e1]at h;cases r1 with
   |val v=>
    obtain⟨v',hv,g1⟩:=P1.1 v rfl;have b1:Bd {A with pile:=v'::A.pile,pc:=p1,begun:=c1}:=(pr.push (n':=0) (c:=c1) (pc:=p1) (v:=v')<|by exact aeE _ _).bd;cases hv with
    |num hi=>cases h;exact Post.out rfl (g1.ends<|DQ b1 k1 rfl trivial)
    |fn=>cases h;exact Post.out rfl (g1.ends<|DQ b1 k1 rfl trivial)
    |@bl k vs ws hr=>
     dsimp only at h;cases e2:vs[j]? with
     |none=>rw[e2]at h;cases h
     |some u=>
      rw[e2]at h;cases h;obtain⟨w,e3,r3⟩:=hr.get e2;exact Post.val r3<|g1.trans (do_field b1 k1 rfl e3)
   |long=>cases h;exact P1.pass (λv z=>by cases z)
   |deep=>cases h;exact P1.pass (λv z=>by cases z)
   |great=>cases h;exact P1.pass (λv z=>by cases z)
   |stuck=>cases h;exact P1.pass (λv z=>by cases z)
 |m+1,d, .case x t ms bs,env,own,q,A,r,c',h,ha,pr,hd,wb=>by
  obtain⟨p1,fs,a1,k1,lf,aa⟩:=ha;obtain⟨hx,Qy,Qz⟩:=wb;subst hx;simp only[dep]at pr hd;unfold ev at h;cases e1:ev most S m d t env A.begun with
  |none=>rw[e1]at h;cases h
  |some rc=>
   obtain⟨r1,c1⟩:=rc;have P1:=jf m d t env own p1 A r1 c1 e1 a1 (pr.less<|by omega) (by omega) Qy;rw[e1]at h;cases r1 with
   |val v=>
    obtain⟨v',hv,g1⟩:=P1.1 v rfl;have b1:Bd {A with pile:=v'::A.pile,pc:=p1,begun:=c1}:=(pr.push (n':=0) (c:=c1) (pc:=p1) (v:=v')<|by exact aeE _ _).bd;cases hv with
    |num hi=>cases h;exact Post.out rfl (g1.ends<|Jf b1 k1 rfl trivial)
    |fn=>cases h;exact Post.out rfl (g1.ends<|Jf b1 k1 rfl trivial)
    |@bl k vs ws hr=>
     dsimp only at h;have lr:=hr.len;by_cases z:0<=k/\k<(bs.length:Int)
     ·rw[afX z]at h
      have lk:k.toNat<bs.length:=by omega
      rw[adX lk]at h;dsimp only at h;by_cases y:ms[k.toNat]?=some vs.length
      ·rw[afX y]at h
       obtain⟨n,f,p2,y1,y2,y3,y4,y5,y6⟩:=Zk aa (adX lk);rw[y]at y1;cases y1;have db:=qj (adX lk);have wq:=Zm Qz (adX lk) y;have g2:=do_case (most:=most) b1 k1 rfl (by omega) (by rw[lf];exact z) y2;have Jh:Pre aW S d (dep bs[k.toNat]) (env++vs) (own++nms env.length vs.length) {A with pile:=A.pile,own:=A.own++ws,pc:=f,begun:=c1}:=⟨pr.er.vals hr,pr.sr,pr.ou,pr.Ug,by have:=pr.pl;show A.pile.length+_+_<=480;omega,by have:=pr.ow;rw[adV,rY];omega,pr.st⟩;have P2:=jf m d _ (env++vs) _ p2 _ r c' h y4 Jh (by omega) (by rw[adV];exact wq);have QB:=g1.trans g2;refine⟨λw hw=>?_,λo ho=>QB.ends<|P2.2 o ho⟩;obtain⟨w',hw',g3⟩:=P2.1 w hw;have b3:Bd {A with pile:=w'::A.pile,own:=A.own++ws,pc:=p2,begun:=c'}:=⟨by have:=pr.pl;show A.pile.length+1<=490;omega,Jh.bd.o,Jh.bd.s,Jh.bd.u⟩;have g4:=do_drop (most:=most) (o:=A.own) (u:=ws) b3 y5 rfl (by exact lr.symm);have b4:Bd {A with pile:=w'::A.pile,pc:=p2+1,begun:=c'}:=⟨b3.p,pr.bd.o,pr.bd.s,pr.bd.u⟩;exact⟨w',hw',QB.trans<|g3.trans (g4.trans<|do_jump b4 y6)⟩
      ·rw[afY y]at h;cases h
     ·rw[afY z]at h
      cases h;exact Post.out rfl (g1.ends (Zt b1 k1 rfl (by rw[lf];exact z)))
   |long=>cases h;exact P1.pass (λv z=>by cases z)
   |deep=>cases h;exact P1.pass (λv z=>by cases z)
   |great=>cases h;exact P1.pass (λv z=>by cases z)
   |stuck=>cases h;exact P1.pass (λv z=>by cases z)
 |m+1,d, .op k a b,env,own,q,A,r,c',h,ha,pr,hd,wb=>by
  obtain⟨p1,p2,hk,a1,a2,k1,rfl⟩:=ha;obtain⟨Qy,Qz⟩:=wb;simp only[dep]at pr hd;unfold ev at h;cases e1:ev most S m d a env A.begun with
  |none=>rw[e1]at h;cases h
  |some rc=>
   obtain⟨r1,c1⟩:=rc;have P1:=jf m d a env own p1 A r1 c1 e1 a1 (pr.less<|by omega) (by omega) Qy;rw[e1]at h;cases r1 with
   |val v=>
    obtain⟨v',hv,g1⟩:=P1.1 v rfl;dsimp only at h;cases e2:ev most S m d b env c1 with
    |none=>rw[e2]at h;cases h
    |some Zv=>
     obtain⟨r2,c2⟩:=Zv;have P2:=jf m d b env own p2 {A with pile:=v'::A.pile,pc:=p1,begun:=c1} r2 c2 e2 a2 (pr.push<|by omega) (by omega) Qz;rw[e2]at h;cases r2 with
     |val w=>
      obtain⟨w',hw,g2⟩:=P2.1 w rfl;have b3:Bd {A with pile:=w'::v'::A.pile,pc:=p2,begun:=c2}:=⟨by have:=pr.pl;show A.pile.length+1+1<=490;omega,pr.bd.o,pr.bd.s,pr.bd.u⟩;cases hv with
      |@num i hi=>cases hw with
       |@num j hj=>
        dsimp only at h;by_cases z:dJ (rk k i j)=true
        ·rw[afX z]at h
         cases h;exact Post.val (.num z)<|g1.trans (g2.trans<|T9 b3 k1 hk hi hj rfl z)
        ·rw[afY z]at h
         cases h;exact Post.out rfl (g1.ends<|g2.ends (Qu b3 k1 hk hi hj rfl z))
       |fn=>cases h;exact Post.out rfl (g1.ends<|g2.ends (u0 b3 k1 hk rfl (.inl trivial)))
       |bl=>cases h;exact Post.out rfl (g1.ends<|g2.ends (u0 b3 k1 hk rfl (.inl trivial)))
      |fn=>cases hw<;>(cases h;exact Post.out rfl (g1.ends<|g2.ends (u0 b3 k1 hk rfl (.inr trivial))))
      |bl=>cases hw<;>(cases h;exact Post.out rfl (g1.ends<|g2.ends (u0 b3 k1 hk rfl (.inr trivial))))
     |long=>cases h;exact Post.out rfl (g1.ends<|P2.2 _ rfl)
     |deep=>cases h;exact Post.out rfl (g1.ends<|P2.2 _ rfl)
     |great=>cases h;exact Post.out rfl (g1.ends<|P2.2 _ rfl)
     |stuck=>cases h;exact Post.out rfl (g1.ends<|P2.2 _ rfl)
   |long=>cases h;exact P1.pass (λv z=>by cases z)
   |deep=>cases h;exact P1.pass (λv z=>by cases z)
   |great=>cases h;exact P1.pass (λv z=>by cases z)
   |stuck=>cases h;exact P1.pass (λv z=>by cases z)
 |m+1,d, .call a b,env,own,q,A,r,c',h,ha,pr,hd,wb=>by
  obtain⟨p1,p2,a1,a2,k1,rfl⟩:=ha;obtain⟨Qy,Qz⟩:=wb;simp only[dep]at pr hd;unfold ev at h;cases e1:ev most S m d a env A.begun with
  |none=>rw[e1]at h;cases h
  |some rc=>
   obtain⟨r1,c1⟩:=rc;have P1:=jf m d a env own p1 A r1 c1 e1 a1 (pr.less<|by omega) (by omega) Qy;rw[e1]at h;cases r1 with
   |val v=>
    obtain⟨v',hv,g1⟩:=P1.1 v rfl;dsimp only at h;cases e2:ev most S m d b env c1 with
    |none=>rw[e2]at h;cases h
    |some Zv=>
     obtain⟨r2,c2⟩:=Zv;have P2:=jf m d b env own p2 {A with pile:=v'::A.pile,pc:=p1,begun:=c1} r2 c2 e2 a2 (pr.push<|by omega) (by omega) Qz;rw[e2]at h;cases r2 with
     |val w=>
      obtain⟨w',hw,g2⟩:=P2.1 w rfl;have b3:Bd {A with pile:=w'::v'::A.pile,pc:=p2,begun:=c2}:=⟨by have:=pr.pl;show A.pile.length+1+1<=490;omega,pr.bd.o,pr.bd.s,pr.bd.u⟩;cases ecv:qI v with
      |none=>dsimp only at h;rw[ecv]at h;cases h;exact Post.out rfl (g1.ends<|g2.ends (Ue b3 k1 rfl (hv.G9 ecv)))
      |some be=>
       obtain⟨body,kI⟩:=be;obtain⟨to,kept,names,x,e,hkw,her,hx,hat,hbk,FN,hdb,hwb⟩:=hv.call ecv;dsimp only at h;rw[ecv]at h;dsimp only at h;have lk:=her.len;by_cases z1:most<(c2:Int)+1
       ·rw[afX z1]at h
        cases h;exact Post.out rfl (g1.ends (g2.ends (Ub b3 k1 (by omega) rfl hkw z1)))
       ·rw[afY z1]at h
        by_cases z2:10<d+1
        ·rw[afX z2]at h
         cases h;exact Post.out rfl (g1.ends (g2.ends (Ud b3 k1 (by omega) rfl hkw z1 (by show 10<A.outer.length+1;rw[pr.ou];exact z2))))
        ·rw[afY z2]at h
         have g3:=do_call (most:=most) b3 k1 (by omega) rfl hkw z1 (by show ¬10<A.outer.length+1;rw[pr.ou];exact z2);have pr4:Pre aW S (d+1) (dep body) (kI++[w]) (names++[x]) {A with pile:=A.pile,own:=kept++[w'],be:=p2+1,outer:=(A.own,A.be)::A.outer,pc:=to,begun:=c2+1}:=⟨by rw[hx];exact her.snoc hw,pr.sr,by show A.outer.length+1=d+1;rw[pr.ou],by exact Nat.not_lt.mp z2,by have:=pr.pl;show A.pile.length+_+_<=480;omega,by rw[adV];simp;exact FN,pr.st⟩;have P4:=jf m (d+1) body (kI++[w]) (names++[x]) e _ r c' h hat pr4 (by exact afa hdb) (by rw[adV,<-hx];exact hwb);have g13:=g1.trans (g2.trans g3);refine⟨λu hu=>?_,λo ho=>g13.ends<|P4.2 o ho⟩;obtain⟨u',hu',g5⟩:=P4.1 u hu;have b5:Bd {A with pile:=u'::A.pile,own:=kept++[w'],be:=p2+1,outer:=(A.own,A.be)::A.outer,pc:=e,begun:=c'}:=⟨by have:=pr.pl;show A.pile.length+1<=490;omega,pr4.bd.o,pr4.bd.s,pr4.bd.u⟩;exact⟨u',hu',g13.trans<|g5.trans (do_back b5 hbk rfl)⟩
     |long=>cases h;exact Post.out rfl (g1.ends<|P2.2 _ rfl)
     |deep=>cases h;exact Post.out rfl (g1.ends<|P2.2 _ rfl)
     |great=>cases h;exact Post.out rfl (g1.ends<|P2.2 _ rfl)
     |stuck=>cases h;exact Post.out rfl (g1.ends<|P2.2 _ rfl)
   |long=>cases h;exact P1.pass (λv z=>by cases z)
   |deep=>cases h;exact P1.pass (λv z=>by cases z)
   |great=>cases h;exact P1.pass (λv z=>by cases z)
   |stuck=>cases h;exact P1.pass (λv z=>by cases z)
inductive Lr where
 |row (r:Rw)
 |late (k:Nat) (js:List Nat)
 |hole
noncomputable def namesOf (ab:Bool)(own:List Nat):List Nat:=if ab then own.reverse else own
theorem pL (ab:Bool)(own:aP Nat):(namesOf ab own).length=own.length:=by cases ab<;>simp[namesOf]
theorem um {ab:Bool}{own:aP Nat}{x:Nat}:x∈namesOf ab own↔x∈own:=by cases ab<;>simp[namesOf]
abbrev Lt:=List Nat×Tm
noncomputable def ju:List (List Lr×Nat)->Nat->List Nat
 |[],_=>[]
 |a::as,p=>p::ju as (p+a.1.length+2)
noncomputable def cG:List (List Lr×Nat)->Nat
 |[]=>0
 |a::as=>a.1.length+2+cG as
noncomputable def d9:List (List Lr×Nat)->Nat->List Lr
 |[],_=>[]
 |a::as,q=>a.1++[.row (.drop a.2)]++[.row (.jump q)]++d9 as q
theorem jy:∀{as:List (List Lr×Nat)} {q:Nat},(d9 as q).length=cG as
 |[],_=>rfl
 |a::as,q=>by unfold d9 cG;simp only[adV,adW,jy]
theorem wI:∀{as:List (List Lr×Nat)} {p:Nat},(ju as p).length=as.length
 |[],_=>rfl
 |a::as,p=>by unfold ju;simp[wI]
mutual
noncomputable def comp (ab:Bool):Tm->List Nat->List Lt->Nat->Option (List Lr×List Lt)
 |.n i,_,L,_=>some ([.row (.num i)],L)
 |.v x,own,L,_=>(nJ x own).map λj=>([.row (.loc j)],L)
 |.g j,_,L,_=>some ([.row (.glob j)],L)
 |.lt x t b,own,L,p=>match comp ab t own L p with
  |none=>none
  |some (r1,L1)=>match comp ab b (own++[x]) L1 (p+r1.length+1) with
   |none=>none
   |some (r2,L2)=>some (r1++[.row .keep]++r2++[.row (.drop 1)],L2)
 |.lW c a b,own,L,p=>match comp ab c own L p with
  |none=>none
  |some (r1,L1)=>match comp ab a own L1 (p+r1.length+1) with
   |none=>none
   |some (r2,L2)=>match comp ab b own L2 (p+r1.length+1+r2.length+1) with
    |none=>none
    |some (r3,L3)=>some (r1++[.row (.Ao<|p+r1.length+1+r2.length+1)]++r2++[.row (.jump<|p+r1.length+1+r2.length+1+r3.length)]++r3,L3)
 |.fn x b,own,L,_=>match nM own (namesOf ab own) with
  |none=>none
  |some js=>some ([.late L.length js],L++[(namesOf ab own++[x],b)])
 |.op k a b,own,L,p=>match comp ab a own L p with
  |none=>none
  |some (r1,L1)=>match comp ab b own L1 (p+r1.length) with
   |none=>none
   |some (r2,L2)=>some (r1++r2++[.row (.nH k)],L2)
 |.call a b,own,L,p=>match comp ab a own L p with
  |none=>none
  |some (r1,L1)=>match comp ab b own L1 (p+r1.length) with
   |none=>none
   |some (r2,L2)=>some (r1++r2++[.row .call],L2)
 |.block k ts,own,L,p=>match jW ab ts own L p with
  |none=>none
  |some (r,L1)=>some (r++[.row (.block k ts.length)],L1)
 |.field j t,own,L,p=>match comp ab t own L p with
  |none=>none
  |some (r,L1)=>some (r++[.row (.field j)],L1)
 |.case x t ms bs,own,L,p=>match comp ab t own L p with
  |none=>none
  |some (r,L1)=>match jz ab bs ms x own L1 (p+r.length+1) with
   |none=>none
   |some (rs,L2)=>some (r++[.row (.case<|ju rs (p+r.length+1))]++d9 rs (p+r.length+1+cG rs),L2)
noncomputable def jW (ab:Bool):List Tm->List Nat->List Lt->Nat->Option (List Lr×List Lt)
 |[],_,L,_=>some ([],L)
 |t::ts,own,L,p=>match comp ab t own L p with
  |none=>none
  |some (r1,L1)=>match jW ab ts own L1 (p+r1.length) with
   |none=>none
   |some (r2,L2)=>some (r1++r2,L2)
noncomputable def jz (ab:Bool):List Tm->List Nat->Nat->List Nat->List Lt->Nat->Option (List (List Lr×Nat)×List Lt)
 |[],_,_,_,L,_=>some ([],L)
 |_::_,[],_,_,_,_=>none
 |b::bs,m::ms,x,own,L,p=>match comp ab b (own++nms x m) L p with
  |none=>none
  |some (r1,L1)=>match jz ab bs ms x own L1 (p+r1.length+2) with
   |none=>none
   |some (rs,L2)=>some ((r1,m)::rs,L2)
end
mutual
noncomputable def sz:Tm->Nat
 |.n _=>1
 |.v _=>1
 |.g _=>1
 |.lt _ t b=>sz t+sz b+1
 |.lW c a b=>sz c+sz a+sz b+1
 |.fn _ b=>sz b+1
 |.op _ a b=>sz a+sz b+1
 |.call a b=>sz a+sz b+1
 |.block _ ts=>yS ts+1
 |.field _ t=>sz t+1
 |.case _ t _ bs=>sz t+yS bs+1
noncomputable def yS:List Tm->Nat
 |[]=>0
 |t::ts=>sz t+1+yS ts
end
noncomputable def qJ (L:List Lt):Nat:=(L.map λp=>2*sz p.2+1).sum
theorem iZ (a b:aP Lt):qJ (a++b)=qJ a+qJ b:=by unfold qJ;rw[aes,List.sum_append]
mutual
def GT:Nat->Tm->Prop
 |_, .n i=>dJ i=true
 |m, .v x=>x<m
 |_, .g _=>True
 |m, .lt x t b=>x=m/\GT m t/\GT (m+1) b
 |m, .lW c a b=>GT m c/\GT m a/\GT m b
 |m, .fn x b=>x=m/\GT (m+1) b
 |m, .op k a b=>k<=3/\GT m a/\GT m b
 |m, .call a b=>GT m a/\GT m b
 |m, .block _ ts=>ts.length<=5/\QC m ts
 |m, .field _ t=>GT m t
 |m, .case x t ms bs=>x=m/\GT m t/\DR m bs ms
def QC:Nat->List Tm->Prop
 |_,[]=>True
 |m,t::ts=>GT m t/\QC m ts
def DR:Nat->List Tm->List Nat->Prop
 |_,[],ms=>ms=[]
 |m,t::ts,ms=>∃k Aw,ms=k::Aw/\k<=5/\GT (m+k) t/\DR m ts Aw
end
theorem QD {m:Nat}{bs:List Tm}{ms:List Nat}{i:Nat}{b:Tm}(a:DR m bs ms)(h:bs[i]?=some b):∃k,ms[i]?=some k/\k<=5/\GT (m+k) b:=by
 induction bs generalizing ms i with
 |nil=>simp at h
 |cons t ts ih=>
  obtain⟨k,Aw,rfl,l,g,g2⟩:=a;cases i with
  |zero=>cases h;exact⟨k,rfl,l,g⟩
  |succ i=>exact(ih (i:=i) g2 h:)
theorem DR.len {m:Nat}:∀{bs:List Tm} {ms:List Nat},DR m bs ms->ms.length=bs.length
 |[],_,h=>by cases h;rfl
 |t::ts,ms,⟨k,Aw,e,l,g,q⟩=>by subst e;simp[DR.len q]
theorem Ax {m:Nat}:∀{bs:List Tm} {b:Tm},QC m bs->b∈bs->GT m b
 |t::ts,b,w,h=>by
  rcases aev.mp h with z|z
  ·subst z;exact w.1
  ·exact Ax w.2 z
mutual
theorem GT.wb:∀{t:Tm} {m:Nat},GT m t->WB m t
 |.n i,_,h=>trivial
 |.v x,_,h=>trivial
 |.g j,_,h=>trivial
 |.lt x t b,_,⟨h0,h1,h2⟩=>⟨h0,h1.wb,h2.wb⟩
 |.lW c a b,_,⟨h0,h1,h2⟩=>⟨h0.wb,h1.wb,h2.wb⟩
 |.fn x b,_,⟨h0,h1⟩=>⟨h0,h1.wb⟩
 |.op j a b,_,⟨h0,h1,h2⟩=>⟨h1.wb,h2.wb⟩
 |.call a b,_,⟨h1,h2⟩=>⟨h1.wb,h2.wb⟩
 |.block k ts,_,⟨h0,h1⟩=>h1.wb
 |.field j t,_,h=>GT.wb (t:=t) h
 |.case x t ms bs,_,⟨h0,h1,h2⟩=>⟨h0,h1.wb,h2.wb⟩
theorem QC.wb:∀{ts:List Tm} {m:Nat},QC m ts->WBL m ts
 |[],_,_=>trivial
 |t::ts,_,⟨h1,h2⟩=>⟨h1.wb,h2.wb⟩
theorem DR.wb:∀{ts:List Tm} {ms:List Nat} {m:Nat},DR m ts ms->WBA m ts ms
 |[],_,_,_=>trivial
 |t::ts,_,_,⟨k,Aw,e,_,h1,h2⟩=>⟨k,Aw,e,h1.wb,h2.wb⟩
end
def wJ (p:Lt):Prop:=∃names x,p.1=names++[x]/\(∀y,y∈names↔y<x)/\GT (x+1) p.2/\x+1+6*dep p.2<=150/\p.1.length+6*dep p.2<=150/\dep p.2<=10
def okR (n:Nat):Lr->Prop
 |.row _=>True
 |.late k _=>k<n
 |.hole=>False
theorem Hf {x:Nat}:∀{own:List Nat},x∈own->∃j,nJ x own=some j
 |y::ys,h=>by
  unfold nJ;by_cases c:x=y
  ·exact⟨0,afX c⟩
  ·rw[afY c]
   rcases aev.mp h with z|z
   ·exact absurd z c
   ·obtain⟨j,e⟩:=Hf z
    exact⟨j+1,by rw[e];rfl⟩
theorem yU {own:List Nat}:∀{ns:List Nat},(∀y∈ns,y∈own)->∃js,nM own ns=some js
 |[],_=>⟨[],rfl⟩
 |y::ys,h=>by
  obtain⟨j,e⟩:=Hf (h y ad3);obtain⟨js,e2⟩:=yU λz hz=>h z (ad0 _ hz);exact⟨j::js,by unfold nM;rw[e,e2]⟩
structure Made (L:List Lt)(t:Tm)(r:List Lr)(L':List Lt)(N:List Lt):Prop where
 ex:L'=L++N
 lr:r.length+qJ N<=2*sz t
 ln:N.length+qJ N<=2*sz t
 ok:∀q∈N,wJ q
 rw:∀x∈r,okR L'.length x
theorem okR.mono {m n:Nat}(h:m<=n):∀{x:Lr},okR m x->okR n x
 |.row _,_=>trivial
 |.late _ _,z=>ad4 z h
theorem rZ {own:aP Nat}{m:Nat}(h:∀y,y∈own↔y<m):∀y,y∈own++[m]↔y<m+1:=λy=>by
 rw[aeu,aec,h y];omega
theorem Ji {own:aP Nat}{m k:Nat}(h:∀y,y∈own↔y<m):∀y,y∈own++nms m k↔y<m+k:=λy=>by
 rw[aeu,h y];unfold nms;simp only[List.mem_map,List.mem_range];constructor
 ·rintro(z|⟨i,hi,rfl⟩)<;>omega
 ·intro z
  by_cases c:y<m
  ·exact .inl c
  ·exact .inr ⟨y-m,by omega,by omega⟩
theorem Made.two {L L1 L2 N1 N2:aP Lt}{a b t:Tm}{r1 r2 r:aP Lr}(A:Made L a r1 L1 N1)(B:Made L1 b r2 L2 N2)(hs:2*sz a+2*sz b+2<=2*sz t)(hr:r.length<=r1.length+r2.length+2)(hm:∀x∈r,x∈r1\/x∈r2\/∃w,x=.row w):Made L t r L2 (N1++N2):=by
 have e2:L2.length=L1.length+N2.length:=by rw[B.ex,adV]
 refine⟨by rw[B.ex,A.ex,ad8],by rw[iZ];have:=A.lr;have:=B.lr;omega,by rw[iZ,adV];have:=A.ln;have:=B.ln;omega,λq hq=>?_,λx hx=>?_⟩
 ·rcases aeu.mp hq with z|z
  ·exact A.ok q z
  ·exact B.ok q z
 ·rcases hm x hx with z|z|⟨w,rfl⟩
  ·exact(A.rw x z).mono (by omega)
  ·exact B.rw x z
  ·trivial
theorem DW {n:Nat}:∀{rs:List (List Lr×Nat)} {q:Nat} {y:Lr},(∀a∈rs,∀y∈a.1,okR n y)->y∈d9 rs q->okR n y
 |[],_,_,_,h=>by simp[d9]at h
 |a::as,q,y,g,h=>by
  unfold d9 at h;simp only[aeu,aec]at h;rcases h with ((z|z)|z)|z
  ·exact g a ad3 y z
  ·subst z;trivial
  ·subst z;trivial
  ·exact DW (λb hb=>g b<|ad0 _ hb) z
structure Xd (L:List Lt)(n k:Nat)(L':List Lt)(N:List Lt):Prop where
 ex:L'=L++N
 lr:k+qJ N<=n
 ln:N.length+qJ N<=n
 ok:∀q∈N,wJ q
mutual
theorem fu {ab:Bool}:∀{t:Tm} {own:List Nat} {L:List Lt} {p m:Nat},GT m t->(∀y,y∈own↔y<m)->m+6*dep t<=150->own.length+6*dep t<=150->dep t<=11->∃r L' N,comp ab t own L p=some (r,L')/\Made L t r L' N
 |.n i,own,L,p,m,g,ho,h1,h2,h3=>⟨_,_,[],rfl,by simp,by simp[sz,qJ],by simp[sz,qJ],λq hq=>by simp at hq,λx hx=>by simp at hx;subst hx;trivial⟩
 |.g i,own,L,p,m,g,ho,h1,h2,h3=>⟨_,_,[],rfl,by simp,by simp[sz,qJ],by simp[sz,qJ],λq hq=>by simp at hq,λx hx=>by simp at hx;subst hx;trivial⟩
 |.v x,own,L,p,m,g,ho,h1,h2,h3=>by
  obtain⟨j,e⟩:=Hf ((ho x).mpr g);exact⟨[.row (.loc j)],L,[],by unfold comp;rw[e];rfl,by simp,by simp[sz,qJ],by simp[sz,qJ],λq hq=>by simp at hq,λx hx=>by simp at hx;subst hx;trivial⟩
 |.fn x b,own,L,p,m,g,ho,h1,h2,h3=>by
  obtain⟨hx,gb⟩:=g;simp only[dep]at h1 h2 h3;obtain⟨js,e⟩:=yU (own:=own) (ns:=namesOf ab own) λy hy=>um.mp hy;refine⟨[.late L.length js],L++[(namesOf ab own++[x],b)],[(namesOf ab own++[x],b)],by unfold comp;rw[e],rfl,by simp[sz,qJ];omega,by simp[sz,qJ];omega,λq hq=>?_,λy hy=>?_⟩
  ·rw[aec]at hq
   subst hq;refine⟨namesOf ab own,x,rfl,λy=>by rw[um,ho y,hx],by rw[hx];exact gb,by show x+1+6*dep b<=150;omega,?_,by show dep b<=10;exact ae' h3⟩;show(namesOf ab own++[x]).length+6*dep b<=150;rw[adV,pL];simp;omega
  ·rw[aec]at hy
   subst hy;show L.length<(L++[_]).length;simp
 |.lt x t b,own,L,p,m,g,ho,h1,h2,h3=>by
  obtain⟨hx,g1,g2⟩:=g;subst hx;simp only[dep]at h1 h2 h3;obtain⟨r1,L1,N1,e1,M1⟩:=fu (ab:=ab) (L:=L) (p:=p) g1 ho (by omega) (by omega) (by omega);obtain⟨r2,L2,N2,e2,M2⟩:=fu (ab:=ab) (L:=L1) (p:=p+r1.length+1) g2 (rZ ho) (by omega) (by rw[adV];simp;omega) (by omega);refine⟨_,L2,N1++N2,by unfold comp;rw[e1];dsimp only;rw[e2],M1.two M2 (by simp only[sz];omega) (by simp;exact adZ _) λy hy=>?_⟩;simp only[aeu,aec]at hy;rcases hy with ((z|z)|z)|z
  ·exact .inl z
  ·exact .inr<|.inr ⟨_,z⟩
  ·exact .inr<|.inl z
  ·exact .inr<|.inr ⟨_,z⟩
 |.lW c a b,own,L,p,m,g,ho,h1,h2,h3=>by
  obtain⟨g0,g1,g2⟩:=g;simp only[dep]at h1 h2 h3;obtain⟨r1,L1,N1,e1,M1⟩:=fu (ab:=ab) (L:=L) (p:=p) g0 ho (by omega) (by omega) (by omega);obtain⟨r2,L2,N2,e2,M2⟩:=fu (ab:=ab) (L:=L1) (p:=p+r1.length+1) g1 ho (by omega) (by omega) (by omega);obtain⟨r3,L3,N3,e3,M3⟩:=fu (ab:=ab) (L:=L2) (p:=p+r1.length+1+r2.length+1) g2 ho (by omega) (by omega) (by omega);have l2:L2.length=L1.length+N2.length:=by rw[M2.ex,adV]
  have l3:L3.length=L2.length+N3.length:=by rw[M3.ex,adV]
  refine⟨_,L3,N1++(N2++N3),by unfold comp;rw[e1];dsimp only;rw[e2];dsimp only;rw[e3],⟨by rw[M3.ex,M2.ex,M1.ex];simp,?_,?_,λq hq=>?_,λy hy=>?_⟩⟩
  ·have:=M1.lr;have:=M2.lr;have:=M3.lr
   simp only[iZ,sz,adV,adW];omega
  ·have:=M1.ln;have:=M2.ln;have:=M3.ln
   simp only[iZ,sz,adV];omega
  ·simp only[aeu]at hq
   rcases hq with z|z|z
   ·exact M1.ok q z
   ·exact M2.ok q z
   ·exact M3.ok q z
  ·simp only[aeu,aec]at hy
   rcases hy with (((z|z)|z)|z)|z
   ·exact(M1.rw y z).mono (by omega)
   ·subst z;trivial
   ·exact(M2.rw y z).mono (by omega)
   ·subst z;trivial
   ·exact M3.rw y z
 |.op k a b,own,L,p,m,g,ho,h1,h2,h3=>by
  obtain⟨hk,g1,g2⟩:=g;simp only[dep]at h1 h2 h3;obtain⟨r1,L1,N1,e1,M1⟩:=fu (ab:=ab) (L:=L) (p:=p) g1 ho (by omega) (by omega) (by omega);obtain⟨r2,L2,N2,e2,M2⟩:=fu (ab:=ab) (L:=L1) (p:=p+r1.length) g2 ho (by omega) (by omega) (by omega);refine⟨_,L2,N1++N2,by unfold comp;rw[e1];dsimp only;rw[e2],M1.two M2 (by simp only[sz];omega) (by simp;exact aeI _) λy hy=>?_⟩;simp only[aeu,aec]at hy;rcases hy with (z|z)|z
  ·exact .inl z
  ·exact .inr<|.inl z
  ·exact .inr<|.inr ⟨_,z⟩
 |.call a b,own,L,p,m,g,ho,h1,h2,h3=>by
  obtain⟨g1,g2⟩:=g;simp only[dep]at h1 h2 h3;obtain⟨r1,L1,N1,e1,M1⟩:=fu (ab:=ab) (L:=L) (p:=p) g1 ho (by omega) (by omega) (by omega);obtain⟨r2,L2,N2,e2,M2⟩:=fu (ab:=ab) (L:=L1) (p:=p+r1.length) g2 ho (by omega) (by omega) (by omega);refine⟨_,L2,N1++N2,by unfold comp;rw[e1];dsimp only;rw[e2],M1.two M2 (by simp only[sz];omega) (by simp;exact aeI _) λy hy=>?_⟩;simp only[aeu,aec]at hy;rcases hy with (z|z)|z
  ·exact .inl z
  ·exact .inr<|.inl z
  ·exact .inr<|.inr ⟨_,z⟩
 |.block k ts,own,L,p,m,g,ho,h1,h2,h3=>by
  obtain⟨l5,gl⟩:=g;simp only[dep]at h1 h2 h3;obtain⟨r,L1,N,e1,M,rw⟩:=yV (ab:=ab) (L:=L) (p:=p) gl ho (by omega) (by omega) (by exact aeF h3);refine⟨_,L1,N,by unfold comp;rw[e1],⟨M.ex,?_,?_,M.ok,λy hy=>?_⟩⟩
  ·have:=M.lr;simp only[sz,adV,adW];omega
  ·have:=M.ln;simp only[sz];omega
  ·rcases aeu.mp hy with z|z
   ·exact rw y z
   ·rw[aec]at z;subst z;trivial
 |.field j t,own,L,p,m,g,ho,h1,h2,h3=>by
  simp only[dep]at h1 h2 h3;obtain⟨r,L1,N,e1,M⟩:=fu (ab:=ab) (t:=t) (L:=L) (p:=p) g ho (by omega) (by omega) (by exact aeF h3);refine⟨_,L1,N,by unfold comp;rw[e1],⟨M.ex,?_,?_,M.ok,λy hy=>?_⟩⟩
  ·have:=M.lr;simp only[sz,adV,adW];omega
  ·have:=M.ln;simp only[sz];omega
  ·rcases aeu.mp hy with z|z
   ·exact M.rw y z
   ·rw[aec]at z;subst z;trivial
 |.case x t ms bs,own,L,p,m,g,ho,h1,h2,h3=>by
  obtain⟨hx,g1,g2⟩:=g;subst hx;simp only[dep]at h1 h2 h3;obtain⟨r,L1,N1,e1,M1⟩:=fu (ab:=ab) (L:=L) (p:=p) g1 ho (by omega) (by omega) (by omega);obtain⟨rs,L2,N2,e2,M2,rw,_⟩:=yW (ab:=ab) (L:=L1) (p:=p+r.length+1) g2 ho (by omega) (by omega) (by omega);have l2:L2.length=L1.length+N2.length:=by rw[M2.ex,adV]
  refine⟨_,L2,N1++N2,by unfold comp;rw[e1];dsimp only;rw[e2],⟨by rw[M2.ex,M1.ex,ad8],?_,?_,λq hq=>?_,λy hy=>?_⟩⟩
  ·have:=M1.lr;have:=M2.lr
   simp only[iZ,sz,adV,adW,jy];omega
  ·have:=M1.ln;have:=M2.ln
   simp only[iZ,sz,adV];omega
  ·rcases aeu.mp hq with z|z
   ·exact M1.ok q z
   ·exact M2.ok q z
  ·simp only[aeu,aec]at hy
   rcases hy with (z|z)|z
   ·exact(M1.rw y z).mono (by omega)
   ·subst z;trivial
   ·exact DW rw z
theorem yV {ab:Bool}:∀{ts:List Tm} {own:List Nat} {L:List Lt} {p m:Nat},QC m ts->(∀y,y∈own↔y<m)->m+6*jm ts<=150->own.length+6*jm ts<=150->jm ts<=11->∃r L' N,jW ab ts own L p=some (r,L')/\Xd L (2*yS ts) r.length L' N/\∀x∈r,okR L'.length x
 |[],own,L,p,m,g,ho,h1,h2,h3=>⟨[],L,[],rfl,⟨by simp,by simp[yS,qJ],by simp[yS,qJ],λq hq=>by simp at hq⟩,λx hx=>by simp at hx⟩
 |t::ts,own,L,p,m,⟨g1,g2⟩,ho,h1,h2,h3=>by
  unfold jm at h1 h2 h3;obtain⟨r1,L1,N1,e1,M1⟩:=fu (ab:=ab) (L:=L) (p:=p) g1 ho (by omega) (by omega) (by omega);obtain⟨r2,L2,N2,e2,M2,rw⟩:=yV (ab:=ab) (L:=L1) (p:=p+r1.length) g2 ho (by omega) (by omega) (by omega);have l2:L2.length=L1.length+N2.length:=by rw[M2.ex,adV]
  refine⟨_,L2,N1++N2,by unfold jW;rw[e1];dsimp only;rw[e2],⟨by rw[M2.ex,M1.ex,ad8],?_,?_,λq hq=>?_⟩,λy hy=>?_⟩
  ·have:=M1.lr;have:=M2.lr
   simp only[iZ,yS,adV];omega
  ·have:=M1.ln;have:=M2.ln
   simp only[iZ,yS,adV];omega
  ·rcases aeu.mp hq with z|z
   ·exact M1.ok q z
   ·exact M2.ok q z
  ·rcases aeu.mp hy with z|z
   ·exact(M1.rw y z).mono (by omega)
   ·exact rw y z
theorem yW {ab:Bool}:∀{bs:List Tm} {ms:List Nat} {own:List Nat} {L:List Lt} {p x:Nat},DR x bs ms->(∀y,y∈own↔y<x)->x+6*jm bs+5<=150->own.length+6*jm bs+5<=150->jm bs<=11->∃rs L' N,jz ab bs ms x own L p=some (rs,L')/\Xd L (2*yS bs) (cG rs) L' N/\(∀a∈rs,∀y∈a.1,okR L'.length y)/\rs.length=bs.length
 |[],ms,own,L,p,x,g,ho,h1,h2,h3=>⟨[],L,[],by unfold jz;rfl,⟨by simp,by simp[yS,qJ,cG],by simp[yS,qJ],λq hq=>by simp at hq⟩,λa ha=>by simp at ha,rfl⟩
 |b::bs,ms,own,L,p,x,⟨k,Aw,hm,k5,g1,g2⟩,ho,h1,h2,h3=>by
  subst hm;unfold jm at h1 h2 h3;obtain⟨r1,L1,N1,e1,M1⟩:=fu (ab:=ab) (L:=L) (p:=p) (own:=own++nms x k) g1 (Ji ho) (by omega) (by rw[adV,rY];omega) (by omega);obtain⟨rs,L2,N2,e2,M2,rw,lr⟩:=yW (ab:=ab) (L:=L1) (p:=p+r1.length+2) g2 ho (by omega) (by omega) (by omega);have l2:L2.length=L1.length+N2.length:=by rw[M2.ex,adV]
  refine⟨_,L2,N1++N2,by unfold jz;rw[e1];dsimp only;rw[e2],⟨by rw[M2.ex,M1.ex,ad8],?_,?_,λq hq=>?_⟩,λa ha y hy=>?_,by simp[lr]⟩
  ·have:=M1.lr;have:=M2.lr
   simp only[iZ,yS,cG];omega
  ·have:=M1.ln;have:=M2.ln
   simp only[iZ,yS,adV];omega
  ·rcases aeu.mp hq with z|z
   ·exact M1.ok q z
   ·exact M2.ok q z
  ·rcases aev.mp ha with z|z
   ·subst z;exact(M1.rw y hy).mono (by omega)
   ·exact rw a z y hy
end
noncomputable def pN (bg:List Nat):Lr->Option Rw
 |.row r=>some r
 |.late k js=>(bg[k]?).map λb=>.close b js
 |.hole=>none
noncomputable def nO (bg:List Nat):List Lr->Option (List Rw)
 |[]=>some []
 |r::rs=>match pN bg r,nO bg rs with
  |some x,some xs=>some (x::xs)
  |_,_=>none
noncomputable def bodies (ab:Bool):Nat->List Lr->List Lt->List Nat->Option (List Lr×List Lt×List Nat)
 |0,_,_,_=>none
 |m+1,aY,L,bg=>match L[bg.length]? with
  |none=>some (aY,L,bg)
  |some nb=>match comp ab nb.2 nb.1 L aY.length with
   |none=>none
   |some (r,L')=>bodies ab m (aY++r++[.row .back]) L' (bg++[aY.length])
noncomputable def jH (ab:Bool):List Tm->Tm->List Lr->List Lt->Option (List Lr×List Lt)
 |[],t,aY,L=>match comp ab t [] L aY.length with
  |none=>none
  |some (r,L1)=>some (aY++r++[.row .back],L1)
 |u::us,t,aY,L=>match comp ab u [] L aY.length with
  |none=>none
  |some (r,L1)=>jH ab us t (aY++r++[.row .store]) L1
def Sub (aW:List Rw)(bg:List Nat)(r:List Lr)(p:Nat):Prop:=∀(i:Nat) lr,r[i]?=some lr->∃w,pN bg lr=some w/\aW[p+i]?=some w
def RV (aW:List Rw)(bg:List Nat)(N:List Lt)(k:Nat):Prop:=∀(i:Nat) nb,N[i]?=some nb->∃to e,bg[k+i]?=some to/\At aW nb.2 nb.1 to e/\aW[e]?=some .back
section
variable {aW:List Rw}{bg:List Nat}
theorem Sub.left {a b:aP Lr}{p:Nat}(h:Sub aW bg (a++b) p):Sub aW bg a p:=λi lr e=>h i lr (by rw[ad6 (aga e).1];exact e)
theorem Sub.right {a b:aP Lr}{p:Nat}(h:Sub aW bg (a++b) p):Sub aW bg b (p+a.length):=λi lr e=>by
 have:=h (a.length+i) lr (by rw[aef (by exact ad9 _ _)];simpa using e)
 rwa [<-ael]at this
theorem Sub.one {w:Rw}{p:Nat}(h:Sub aW bg [.row w] p):aW[p]?=some w:=by
 obtain⟨w',e,g⟩:=h 0 _ rfl;cases e;exact g
theorem RV.left {a b:aP Lt}{k:Nat}(h:RV aW bg (a++b) k):RV aW bg a k:=λi lr e=>h i lr (by rw[ad6 (aga e).1];exact e)
theorem RV.right {a b:aP Lt}{k:Nat}(h:RV aW bg (a++b) k):RV aW bg b (k+a.length):=λi lr e=>by
 have:=h (a.length+i) lr (by rw[aef (by exact ad9 _ _)];simpa using e)
 rwa [<-ael]at this
mutual
theorem gH {ab:Bool}:∀{t:Tm} {own:List Nat} {L:List Lt} {p m:Nat} {r:List Lr} {L':List Lt},GT m t->comp ab t own L p=some (r,L')->∃N,L'=L++N/\(Sub aW bg r p->RV aW bg N L.length->At aW t own p (p+r.length))
 |.n i,own,L,p,m,r,L',g,h=>by
  cases h;exact⟨[],by simp,λs _=>⟨g,s.one,rfl⟩⟩
 |.g i,own,L,p,m,r,L',g,h=>by
  cases h;exact⟨[],by simp,λs _=>⟨s.one,rfl⟩⟩
 |.v x,own,L,p,m,r,L',g,h=>by
  unfold comp at h;cases e:nJ x own with
  |none=>rw[e]at h;cases h
  |some j=>
   rw[e]at h;cases h;exact⟨[],by simp,λs _=>⟨j,e,s.one,rfl⟩⟩
 |.fn x b,own,L,p,m,r,L',g,h=>by
  unfold comp at h;cases e:nM own (namesOf ab own) with
  |none=>rw[e]at h;cases h
  |some js=>
   rw[e]at h;cases h;refine⟨[(namesOf ab own++[x],b)],rfl,λs l=>?_⟩;obtain⟨to,e1,h1,h2,h3⟩:=l 0 _ rfl;obtain⟨w,hw,hc⟩:=s 0 _ rfl;unfold pN at hw;rw[Nat.add_zero]at h1;dsimp only at hw;rw[h1]at hw;cases hw;exact⟨to,js,namesOf ab own,e1,e,pL ab own,hc,rfl,h2,h3⟩
 |.lt x t b,own,L,p,m,r,L',g,h=>by
  obtain⟨hx,g1,g2⟩:=g;unfold comp at h;cases e1:comp ab t own L p with
  |none=>rw[e1]at h;cases h
  |some q1=>
   obtain⟨r1,L1⟩:=q1;rw[e1]at h;dsimp only at h;cases e2:comp ab b (own++[x]) L1 (p+r1.length+1) with
   |none=>rw[e2]at h;cases h
   |some q2=>
    obtain⟨r2,L2⟩:=q2;rw[e2]at h;cases h;obtain⟨N1,rfl,k1⟩:=gH g1 e1;obtain⟨N2,rfl,k2⟩:=gH g2 e2;refine⟨N1++N2,by simp,λs l=>?_⟩;have s4:=s.right;have s3:=s.left.right;have s2:=s.left.left.right;have s1:=s.left.left.left;simp only[adV,adW]at s2 s3 s4 ⊢;refine⟨p+r1.length,p+r1.length+1+r2.length,k1 s1 l.left,s2.one,?_,?_,by omega⟩
    ·refine k2 (by rw[ael];exact s3) ?_
     rw[adV];exact l.right
    ·have:=s4.one
     rwa [show p+(r1.length+1+r2.length)=p+r1.length+1+r2.length by omega]at this
 |.lW c a b,own,L,p,m,r,L',g,h=>by
  obtain⟨g0,g1,g2⟩:=g;unfold comp at h;cases e1:comp ab c own L p with
  |none=>rw[e1]at h;cases h
  |some q1=>
   obtain⟨r1,L1⟩:=q1;rw[e1]at h;dsimp only at h;cases e2:comp ab a own L1 (p+r1.length+1) with
   |none=>rw[e2]at h;cases h
   |some q2=>
    obtain⟨r2,L2⟩:=q2;rw[e2]at h;dsimp only at h;cases e3:comp ab b own L2 (p+r1.length+1+r2.length+1) with
    |none=>rw[e3]at h;cases h
    |some q3=>
     obtain⟨r3,L3⟩:=q3;rw[e3]at h;cases h;obtain⟨N1,rfl,k1⟩:=gH g0 e1;obtain⟨N2,rfl,k2⟩:=gH g1 e2;obtain⟨N3,rfl,k3⟩:=gH g2 e3;refine⟨N1++N2++N3,by simp,λs l=>?_⟩;have s5:=s.right;have s4:=s.left.right;have s3:=s.left.left.right;have s2:=s.left.left.left.right;have s1:=s.left.left.left.left;have l3:=l.right;have l2:=l.left.right;simp only[adV,adW]at s2 s3 s4 s5 l2 l3 k2 k3 ⊢;refine⟨p+r1.length,p+r1.length+1+r2.length,k1 s1 l.left.left,s2.one,k2 (by rw[ael];exact s3) l2,?_,?_⟩
     ·have:=s4.one
      rw[show p+(r1.length+1+r2.length)=p+r1.length+1+r2.length by omega]at this;rw[this,show p+(r1.length+1+r2.length+1+r3.length)=p+r1.length+1+r2.length+1+r3.length by omega]
     ·rw[show p+(r1.length+1+r2.length+1+r3.length)=p+r1.length+1+r2.length+1+r3.length by omega]
      refine k3 ?_ (by rw[ael];exact l3)
      rwa [show p+(r1.length+1+r2.length+1)=p+r1.length+1+r2.length+1 by omega]at s5
 |.op k a b,own,L,p,m,r,L',g,h=>by
  obtain⟨hk,g1,g2⟩:=g;unfold comp at h;cases e1:comp ab a own L p with
  |none=>rw[e1]at h;cases h
  |some q1=>
   obtain⟨r1,L1⟩:=q1;rw[e1]at h;dsimp only at h;cases e2:comp ab b own L1 (p+r1.length) with
   |none=>rw[e2]at h;cases h
   |some q2=>
    obtain⟨r2,L2⟩:=q2;rw[e2]at h;cases h;obtain⟨N1,rfl,k1⟩:=gH g1 e1;obtain⟨N2,rfl,k2⟩:=gH g2 e2;refine⟨N1++N2,by simp,λs l=>?_⟩;have s3:=s.right;have s2:=s.left.right;have s1:=s.left.left;simp only[adV,adW]at s2 s3 ⊢;refine⟨p+r1.length,p+r1.length+r2.length,hk,k1 s1 l.left,k2 s2 (by rw[adV];exact l.right),?_,by omega⟩;have:=s3.one
    rwa [<-ael]at this
 |.call a b,own,L,p,m,r,L',g,h=>by
  obtain⟨g1,g2⟩:=g;unfold comp at h;cases e1:comp ab a own L p with
  |none=>rw[e1]at h;cases h
  |some q1=>
   obtain⟨r1,L1⟩:=q1;rw[e1]at h;dsimp only at h;cases e2:comp ab b own L1 (p+r1.length) with
   |none=>rw[e2]at h;cases h
   |some q2=>
    obtain⟨r2,L2⟩:=q2;rw[e2]at h;cases h;obtain⟨N1,rfl,k1⟩:=gH g1 e1;obtain⟨N2,rfl,k2⟩:=gH g2 e2;refine⟨N1++N2,by simp,λs l=>?_⟩;have s3:=s.right;have s2:=s.left.right;have s1:=s.left.left;simp only[adV,adW]at s2 s3 ⊢;refine⟨p+r1.length,p+r1.length+r2.length,k1 s1 l.left,k2 s2 (by rw[adV];exact l.right),?_,by omega⟩;have:=s3.one
    rwa [<-ael]at this
 |.block k ts,own,L,p,m,r,L',g,h=>by
  obtain⟨l5,gl⟩:=g;unfold comp at h;cases e1:jW ab ts own L p with
  |none=>rw[e1]at h;cases h
  |some q1=>
   obtain⟨r1,L1⟩:=q1;rw[e1]at h;cases h;obtain⟨N,rfl,k1⟩:=wK gl e1;refine⟨N,rfl,λs l=>⟨p+r1.length,k1 s.left l,s.right.one,l5,by simp;exact rfl⟩⟩
 |.field j t,own,L,p,m,r,L',g,h=>by
  unfold comp at h;cases e1:comp ab t own L p with
  |none=>rw[e1]at h;cases h
  |some q1=>
   obtain⟨r1,L1⟩:=q1;rw[e1]at h;cases h;obtain⟨N,rfl,k1⟩:=gH (t:=t) g e1;refine⟨N,rfl,λs l=>⟨p+r1.length,k1 s.left l,s.right.one,by simp;exact rfl⟩⟩
 |.case x t ms bs,own,L,p,m,r,L',g,h=>by
  obtain⟨hx,g1,g2⟩:=g;subst hx;unfold comp at h;cases e1:comp ab t own L p with
  |none=>rw[e1]at h;cases h
  |some q1=>
   obtain⟨r1,L1⟩:=q1;rw[e1]at h;dsimp only at h;cases e2:jz ab bs ms x own L1 (p+r1.length+1) with
   |none=>rw[e2]at h;cases h
   |some q2=>
    obtain⟨rs,L2⟩:=q2;rw[e2]at h;cases h;obtain⟨N1,rfl,k1⟩:=gH g1 e1;obtain⟨N2,rfl,lr,k2⟩:=wM g2 e2;refine⟨N1++N2,by simp,λs l=>?_⟩;have s3:=s.right;have s2:=s.left.right;have s1:=s.left.left;simp only[adV,adW,jy]at s3 ⊢;refine⟨p+r1.length,ju rs<|p+r1.length+1,k1 s1 l.left,s2.one,by rw[wI,lr],?_⟩;have:=k2 (p+r1.length+1+cG rs) (by rwa [show p+(r1.length+1)=p+r1.length+1 by exact rfl]at s3) (by rw[adV];exact l.right)
    rwa [show p+(r1.length+1+cG rs)=p+r1.length+1+cG rs by omega]
theorem wK {ab:Bool}:∀{ts:List Tm} {own:List Nat} {L:List Lt} {p m:Nat} {r:List Lr} {L':List Lt},QC m ts->jW ab ts own L p=some (r,L')->∃N,L'=L++N/\(Sub aW bg r p->RV aW bg N L.length->AtS aW ts own p (p+r.length))
 |[],own,L,p,m,r,L',g,h=>by
  cases h;exact⟨[],by simp,λ_ _=>rfl⟩
 |t::ts,own,L,p,m,r,L',⟨g1,g2⟩,h=>by
  unfold jW at h;cases e1:comp ab t own L p with
  |none=>rw[e1]at h;cases h
  |some q1=>
   obtain⟨r1,L1⟩:=q1;rw[e1]at h;dsimp only at h;cases e2:jW ab ts own L1 (p+r1.length) with
   |none=>rw[e2]at h;cases h
   |some q2=>
    obtain⟨r2,L2⟩:=q2;rw[e2]at h;cases h;obtain⟨N1,rfl,k1⟩:=gH g1 e1;obtain⟨N2,rfl,k2⟩:=wK g2 e2;refine⟨N1++N2,by simp,λs l=>⟨p+r1.length,k1 s.left l.left,?_⟩⟩;rw[adV,<-ael];exact k2 s.right (by rw[adV];exact l.right)
theorem wM {ab:Bool}:∀{bs:List Tm} {ms:List Nat} {own:List Nat} {L:List Lt} {p x:Nat} {rs:List (List Lr×Nat)} {L':List Lt},DR x bs ms->jz ab bs ms x own L p=some (rs,L')->∃N,L'=L++N/\rs.length=bs.length/\∀q,Sub aW bg (d9 rs q) p->RV aW bg N L.length->AtA aW bs ms x own q p (ju rs p)
 |[],ms,own,L,p,x,rs,L',g,h=>by
  unfold jz at h;cases h;exact⟨[],by simp,rfl,λq _ _=>trivial⟩
 |b::bs,ms,own,L,p,x,rs,L',⟨k,Aw,hm,k5,g1,g2⟩,h=>by
  subst hm;unfold jz at h;cases e1:comp ab b (own++nms x k) L p with
  |none=>rw[e1]at h;cases h
  |some q1=>
   obtain⟨r1,L1⟩:=q1;rw[e1]at h;dsimp only at h;cases e2:jz ab bs Aw x own L1 (p+r1.length+2) with
   |none=>rw[e2]at h;cases h
   |some q2=>
    obtain⟨rs2,L2⟩:=q2;rw[e2]at h;cases h;obtain⟨N1,rfl,k1⟩:=gH g1 e1;obtain⟨N2,rfl,lr,k2⟩:=wM g2 e2;refine⟨N1++N2,by simp,by simp[lr],λq s l=>?_⟩;unfold d9 at s;have s4:=s.right;have s3:=s.left.right;have s2:=s.left.left.right;have s1:=s.left.left.left;simp only[adV,adW]at s3 s4;refine⟨k,Aw,ju rs2<|p+r1.length+2,p+r1.length,rfl,rfl,k5,k1 s1 l.left,s2.one,?_,k2 q ?_<|by rw[adV];exact l.right⟩
    ·have:=s3.one
     rwa [<-ael]at this
    ·rwa [show p+(r1.length+1+1)=p+r1.length+2 by exact rfl]at s4
end
end
theorem uo {bg:List Nat}:∀{aY:List Lr},(∀x∈aY,okR bg.length x)->∃aW,nO bg aY=some aW/\aW.length=aY.length/\∀(i:Nat) lr,aY[i]?=some lr->∃w,pN bg lr=some w/\aW[i]?=some w
 |[],_=>⟨[],rfl,rfl,λi lr e=>by simp at e⟩
 |y::ys,h=>by
  obtain⟨aW,e,l,g⟩:=uo (bg:=bg) λx hx=>h x (ad0 _ hx);have hw:∃w,pN bg y=some w:=by
   have:=h y ad3;cases y with
   |row r=>exact⟨r,rfl⟩
   |late k js=>
    have hk:k<bg.length:=this;exact⟨.close bg[k] js,by show(bg[k]?).map _=_;rw[adX hk];rfl⟩
   |hole=>exact this.elim
  obtain⟨w,hw⟩:=hw;refine⟨w::aW,by unfold nO;rw[hw,e],by simp[l],λi lr hi=>?_⟩;cases i with
  |zero=>simp at hi;subst hi;exact⟨w,hw,rfl⟩
  |succ i=>
   obtain⟨w',h1,h2⟩:=g i lr (by simpa using hi);exact⟨w',h1,by simpa using h2⟩
def Placed (ab:Bool)(gP:List Lr)(LF:List Lt)(rB:List Nat)(k:Nat)(nb:Lt):Prop:=∃st r Lk N,rB[k]?=some st/\comp ab nb.2 nb.1 Lk st=some (r,Lk++N)/\k<Lk.length/\(∀(i:Nat) x,N[i]?=some x->LF[Lk.length+i]?=some x)/\∀(i:Nat) lr,(r++[.row .back])[i]?=some lr->gP[st+i]?=some lr
theorem wN {ab:Bool}{B:Nat}:∀(m:Nat) (aY:List Lr) (L:List Lt) (bg:List Nat),qJ (L.drop bg.length)<m->(∀x∈aY,okR L.length x)->(∀nb∈L,wJ nb)->bg.length<=L.length->aY.length+qJ (L.drop bg.length)<=B->L.length+qJ (L.drop bg.length)<=B->
  ∃gP LF rB,bodies ab m aY L bg=some (gP,LF,rB)/\(∃X,gP=aY++X)/\(∃Y,LF=L++Y)/\(∃Z,rB=bg++Z)/\rB.length=LF.length/\gP.length<=B/\LF.length<=B/\(∀x∈gP,okR LF.length x)/\(∀nb∈LF,wJ nb)/\∀(k:Nat) nb,bg.length<=k->LF[k]?=some nb->Placed ab gP LF rB k nb
 |0,_,_,_,h,_,_,_,_,_=>absurd h (ae8 _)
 |m+1,aY,L,bg,hm,hr,hl,hb,b1,b2=>by
  unfold bodies;cases hat:L[bg.length]? with
  |none=>
   rw[afE]at hat;exact⟨aY,L,bg,rfl,⟨[],by simp⟩,⟨[],by simp⟩,⟨[],by simp⟩,by omega,by exact ad2 (ad9 _ _) b1,by exact ad2 (ad9 _ _) b2,hr,hl,λk nb hk e=>absurd (aga e).1<|by omega⟩
  |some nb=>
   have jX:bg.length<L.length:=(aga hat).1;have ok:=hl nb (aeJ hat);obtain⟨names,x,en,mem,gt,h40,h60,h12⟩:=ok;obtain⟨r,L',N,ec,M⟩:=fu (ab:=ab) (t:=nb.2) (own:=nb.1) (L:=L) (p:=aY.length) gt (by rw[en];exact rZ mem) h40 h60 (by exact afa h12);have eL:=M.ex;subst eL
   try dsimp only
   rw[ec]
   try dsimp only
   have dr:L.drop bg.length=nb::L.drop (bg.length+1):=by
    rw[aeC jX];congr 1;have:=(aga hat).2;exact this
   have ph:qJ (L.drop bg.length)=2*sz nb.2+1+qJ (L.drop<|bg.length+1):=by rw[dr];unfold qJ;rw[aei,afU]
   have dr2:(L++N).drop (bg++[aY.length]).length=L.drop (bg.length+1)++N:=by
    rw[adV,adW,List.drop_append_of_le_length (by exact jX)]
   have ph2:qJ ((L++N).drop (bg++[aY.length]).length)=qJ (L.drop<|bg.length+1)+qJ N:=by rw[dr2,iZ]
   have m1:=M.lr;have m2:=M.ln;obtain⟨gP,LF,rB,e,⟨X,eX⟩,⟨Y,eY⟩,⟨Z,eZ⟩,c1,c2,c3,c4,c5,c6⟩:=wN (ab:=ab) (B:=B) m (aY++r++[.row .back]) (L++N) (bg++[aY.length]) (by rw[ph2];omega) (λy hy=>by
    simp only[aeu,aec]at hy;rcases hy with (z|z)|z
    ·exact(hr y z).mono (by rw[adV];exact ad9 _ _)
    ·exact M.rw y z
    ·subst z;trivial) (λq hq=>by
    rcases aeu.mp hq with z|z
    ·exact hl q z
    ·exact M.ok q z) (by simp only[adV,adW];omega) (by rw[ph2];simp only[adV,adW];omega) (by rw[ph2];simp only[adV];omega)
   refine⟨gP,LF,rB,e,⟨r++[.row .back]++X,by rw[eX];simp⟩,⟨N++Y,by rw[eY];simp⟩,⟨[aY.length]++Z,by rw[eZ];simp⟩,c1,c2,c3,c4,c5,λk nb' hk hnb=>?_⟩;by_cases z:k=bg.length
   ·subst z
    have e0:LF[bg.length]?=some nb:=by rw[eY,ad8,ad6 jX];exact hat
    rw[e0]at hnb;cases hnb;refine⟨aY.length,r,L,N,by rw[eZ,ad8,aef (adZ _)];simp,ec,jX,λi x' hx=>?_,λi lr hi=>?_⟩
    ·rw[eY,ad8,aef (by exact ad9 _ _),aeK,ad6 (aga hx).1]
     exact hx
    ·rw[eX,ad8,ad8,<-ad8 r,aef (by exact ad9 _ _),aeK,ad6 (aga hi).1]
     exact hi
   ·exact c6 k nb' (by simp only[adV,adW];omega) hnb
theorem yX {ab:Bool}{gP:List Lr}{LF:List Lt}{rB:List Nat}{aW:List Rw}(hw:∀(i:Nat) lr,gP[i]?=some lr->∃w,pN rB lr=some w/\aW[i]?=some w)(ok:∀nb∈LF,wJ nb)(pl:∀(k:Nat) nb,LF[k]?=some nb->Placed ab gP LF rB k nb):
  ∀(n k:Nat) nb,LF.length<=n+k->LF[k]?=some nb->∃to e,rB[k]?=some to/\At aW nb.2 nb.1 to e/\aW[e]?=some .back
 |0,k,nb,hn,h=>absurd (aga h).1 (by omega)
 |n+1,k,nb,hn,h=>by
  obtain⟨st,r,Lk,N,e1,e2,e3,e4,e5⟩:=pl k nb h;obtain⟨names,x,en,mem,gt,h40,h60,h12⟩:=ok nb (aeJ h);obtain⟨N',eN,g⟩:=gH (aW:=aW) (bg:=rB) gt e2;have:N'=N:=afk eN.symm;subst this;have sub:Sub aW rB (r++[.row .back]) st:=λi lr hi=>hw _ _ (e5 i lr hi);refine⟨st,st+r.length,e1,g sub.left λi nb' hi=>?_,sub.right.one⟩;exact yX hw ok pl n (Lk.length+i) nb' (by omega)<|e4 i nb' hi
def DY (aW:List Rw):List Tm->Tm->Nat->Prop
 |[],t,p=>∃q,At aW t [] p q/\aW[q]?=some .back
 |u::us,t,p=>∃p1,At aW u [] p p1/\aW[p1]?=some .store/\DY aW us t (p1+1)
noncomputable def Zw (us:List Tm)(t:Tm):Nat:=(us.map λu=>2*sz u+1).sum+2*sz t+1
def Own (t:Tm):Prop:=GT 0 t/\dep t<=11
structure abm (L:List Lt)(n:Nat)(X:List Lr)(L' N:List Lt):Prop where
 ex:L'=L++N
 lr:X.length+qJ N<=n
 ln:N.length+qJ N<=n
 ok:∀q∈N,wJ q
 rw:∀x∈X,okR L'.length x
theorem uq {ab:Bool}:∀{us:List Tm} {t:Tm} {aY:List Lr} {L:List Lt},(∀u∈us,Own u)->Own t->∃X L' N,jH ab us t aY L=some (aY++X,L')/\abm L (Zw us t) X L' N/\∀aW bg,Sub aW bg X aY.length->RV aW bg N L.length->DY aW us t aY.length
 |[],t,aY,L,hu,ht=>by
  obtain⟨r,L',N,e,M⟩:=fu (ab:=ab) (t:=t) (own:=[]) (L:=L) (p:=aY.length) ht.1 (λy=>by simp) (by have:=ht.2;omega) (by have:=ht.2;simp;omega) (by have:=ht.2;exact this);refine⟨r++[.row .back],L',N,by unfold jH;rw[e];simp,⟨M.ex,?_,?_,M.ok,λx hx=>?_⟩,λaW bg s l=>?_⟩
  ·have:=M.lr;unfold Zw;simp;omega
  ·have:=M.ln;unfold Zw;simp;exact afa this
  ·rcases aeu.mp hx with z|z
   ·exact M.rw x z
   ·rw[aec]at z;subst z;trivial
  ·obtain⟨N',e',g⟩:=gH (aW:=aW) (bg:=bg) ht.1 e
   have:N'=N:=afk (e'.symm.trans M.ex);subst this;exact⟨_,g s.left l,s.right.one⟩
 |u::us,t,aY,L,hu,ht=>by
  have h1:=hu u ad3;obtain⟨r,L1,N1,e,M⟩:=fu (ab:=ab) (t:=u) (own:=[]) (L:=L) (p:=aY.length) h1.1 (λy=>by simp) (by have:=h1.2;omega) (by have:=h1.2;simp;omega) (by have:=h1.2;exact this);obtain⟨X,L2,N2,e2,M2,g2⟩:=uq (ab:=ab) (us:=us) (t:=t) (aY:=aY++r++[.row .store]) (L:=L1) (λv hv=>hu v<|ad0 _ hv) ht;have el:L2.length=L1.length+N2.length:=by rw[M2.ex,adV]
  refine⟨r++[.row .store]++X,L2,N1++N2,by unfold jH;rw[e];dsimp only;rw[e2];simp,⟨M2.ex.trans<|(congrArg (·++N2) M.ex).trans (ad8 _ _ _),?_,?_,λq hq=>?_,λx hx=>?_⟩,λaW bg s l=>?_⟩
  ·have:=M.lr;have:=M2.lr;unfold Zw at this ⊢;rw[iZ];simp only[aei,afU,adV,adW];omega
  ·have:=M.ln;have:=M2.ln;unfold Zw at this ⊢;rw[iZ];simp only[aei,afU,adV];omega
  ·rcases aeu.mp hq with z|z
   ·exact M.ok q z
   ·exact M2.ok q z
  ·simp only[aeu,aec]at hx
   rcases hx with (z|z)|z
   ·exact(M.rw x z).mono (by omega)
   ·subst z;trivial
   ·exact M2.rw x z
  ·obtain⟨N',e',g⟩:=gH (aW:=aW) (bg:=bg) h1.1 e
   have:N'=N1:=afk (e'.symm.trans M.ex);subst this;have s3:=s.right;have s2:=s.left.right;have g3:=g2 aW bg;simp only[adV,adW]at s3 g3;refine⟨_,g s.left.left l.left,s2.one,?_⟩;rw[ael];refine g3 s3 ?_;have:=l.right;rw[M.ex,adV];exact this
def Hg (ab:Bool)(us:List Tm)(t:Tm)(aW:List Rw):Prop:=∃m aY L gP LF rB,jH ab us t [] []=some (aY,L)/\bodies ab m aY L []=some (gP,LF,rB)/\gP.length<=50000/\LF.length<=50000/\nO rB gP=some aW
theorem Uh (ab:Bool){us:aP Tm}{t:Tm}(hu:∀u∈us,Own u)(ht:Own t)(hs:Zw us t<=50000):∃aW,Hg ab us t aW/\DY aW us t 0:=by
 obtain⟨X,L,N,e,M,g⟩:=uq (ab:=ab) (us:=us) (t:=t) (aY:=[]) (L:=[]) hu ht;have eL:=M.ex;rw[aft]at eL e;subst eL;obtain⟨gP,LF,rB,eb,⟨X2,eX⟩,⟨Y,eY⟩,⟨Z,eZ⟩,c1,c2,c3,c4,c5,c6⟩:=wN (ab:=ab) (B:=50000) (qJ L+1) X L [] (by simp) M.rw M.ok (by simp) (by have:=M.lr;simp;omega) (by have:=M.ln;simp;omega);obtain⟨aW,ew,lw,hw⟩:=uo (bg:=rB) (aY:=gP) (by rw[c1];exact c4);refine⟨aW,⟨_,_,_,_,_,_,e,eb,c2,c3,ew⟩,g aW rB (λi lr hi=>?_) λi nb hi=>?_⟩
 ·rw[show([]:aP Lr).length=0 from rfl,Nat.zero_add]
  exact hw i lr (by rw[eX,ad6 (aga hi).1];exact hi)
 ·rw[show([]:aP Lt).length=0 from rfl,Nat.zero_add]
  exact yX hw c5 (λk nb h=>c6 k nb (by simp) h) LF.length i nb (by exact ad9 _ _) (by rw[eY,ad6 (aga hi).1];exact hi)
noncomputable def QF (most:Int)(m:Nat):List Tm->Tm->List Vl->Nat->Option (Rs×Nat)
 |[],t,S,c=>ev most S m 0 t [] c
 |u::us,t,S,c=>match ev most S m 0 u [] c with
  |some (.val v,c1)=>QF most m us t (S++[v]) c1
  |r=>r
noncomputable def wO:Rs->Out
 |.val (.num i)=>.num i
 |.val (.fn _ _ _)=>.stuck
 |.val (.bl _ _)=>.stuck
 |.long=>.long
 |.deep=>.deep
 |.great=>.great
 |.stuck=>.stuck
theorem Jk {most:Int}{aW:List Rw}{m:Nat}:∀{us:List Tm} {t:Tm} {S:List Vl} {A:AS} {r:Rs} {c':Nat},QF most m us t S A.begun=some (r,c')->DY aW us t A.pc->A.own=[]->A.outer=[]->A.pile=[]->(∀(j:Nat) w,S[j]?=some w->∃v,A.uG[j]?=some v/\VR aW w v)->A.uG.length=S.length->S.length+us.length<=100->(∀u∈us,Own u)->Own t->Ends most aW A (wO r)
 |[],t,S,A,r,c',h,⟨q,ha,hb⟩,h1,h2,h3,h4,h5,h6,hu,ht=>by
  have pr:Pre aW S 0 (dep t) [] [] A:=⟨by rw[h1];exact .nil,h4,by rw[h2];rfl,by exact aeG _,by rw[h3];have:=ht.2;simp;omega,by have:=ht.2;simp;omega,by simp at h6;omega⟩;have P:=jf m 0 t [] [] q A r c' h ha pr ht.2 ht.1.wb;cases r with
  |val v=>
   obtain⟨v',hv,g⟩:=P.1 _ rfl;have bd:Bd {A with pile:=v'::A.pile,pc:=q,begun:=c'}:=⟨by show A.pile.length+1<=490;rw[h3];simp,pr.bd.o,pr.bd.s,pr.bd.u⟩;cases hv with
   |num hi=>exact g.ends<|Zr (p:=A.pile) bd hb h2 rfl
   |fn=>exact g.ends<|Qw (p:=A.pile) bd hb h2 rfl trivial
   |bl=>exact g.ends<|Qw (p:=A.pile) bd hb h2 rfl trivial
  |long=>exact P.2 _ rfl
  |deep=>exact P.2 _ rfl
  |great=>exact P.2 _ rfl
  |stuck=>exact P.2 _ rfl
 |u::us,t,S,A,r,c',h,⟨p1,ha,hb,hc⟩,h1,h2,h3,h4,h5,h6,hu,ht=>by
  have hu1:=hu u ad3;have pr:Pre aW S 0 (dep u) [] [] A:=⟨by rw[h1];exact .nil,h4,by rw[h2];rfl,by exact aeG _,by rw[h3];have:=hu1.2;simp;omega,by have:=hu1.2;simp;omega,by simp at h6;omega⟩;unfold QF at h;cases e:ev most S m 0 u [] A.begun with
  |none=>rw[e]at h;cases h
  |some q=>
   obtain⟨r1,c1⟩:=q;have P:=jf m 0 u [] [] p1 A r1 c1 e ha pr hu1.2 hu1.1.wb;rw[e]at h;cases r1 with
   |val v=>
    obtain⟨v',hv,g⟩:=P.1 _ rfl;have g2:=do_store (most:=most) (A:={A with pile:=v'::A.pile,pc:=p1,begun:=c1}) ⟨by show A.pile.length+1<=490;rw[h3];simp,pr.bd.o,pr.bd.s,pr.bd.u⟩ hb rfl;refine(g.trans g2).ends (Jk (us:=us) (t:=t) (S:=S++[v]) h hc h1 h2 h3 (λj w hj=>?_) (by show(A.uG++[v']).length=_;rw[adV,adV,h5];rfl) (by rw[adV];simp at h6 ⊢;omega) (λx hx=>hu x<|ad0 _ hx) ht);show ∃z,(A.uG++[v'])[j]?=some z/\VR aW w z;by_cases c:j<S.length
    ·rw[ad6 c]at hj
     obtain⟨z,z1,z2⟩:=h4 j w hj;exact⟨z,by rw[ad6 (by exact aeo c h5.symm)];exact z1,z2⟩
    ·have lj:j<(S++[v]).length:=(aga hj).1
     rw[adV]at lj;have ej:j=S.length:=by simp at lj;omega
     subst ej;simp at hj;subst hj;exact⟨v',by rw[<-h5];simp,hv⟩
   |long=>cases h;exact P.2 _ rfl
   |deep=>cases h;exact P.2 _ rfl
   |great=>cases h;exact P.2 _ rfl
   |stuck=>cases h;exact P.2 _ rfl
def A0':AS:=⟨[],[],0,[],[],0,0⟩
theorem whole_run {most:Int}{m:Nat}{t:Tm}{r:Rs}{c':Nat}(e:ev most [] m 0 t [] 0=some (r,c'))(ht:Own t){aW:aP Rw}(ha:DY aW [] t 0):∃n,uH most aW n A0'=some (wO r):=by
 obtain⟨k,g⟩:=Jk (most:=most) (aW:=aW) (A:=A0') (us:=[]) (S:=[]) (m:=m) (r:=r) (c':=c') e ha rfl rfl rfl (λj w hj=>by simp at hj) rfl (by simp) (λu hu=>by simp at hu) ht;exact⟨0+k,g 0⟩
end Fw
namespace L2
open PySem.SeqAt
section
variable {X:Cx}
theorem qU:∀{bs:List Bool} {us:List ak},Vals (bs.map V.bl) us->us=bs.map Value.bool
 |[],us,r=>by cases r;rfl
 |b::bs,us,r=>by
  cases r with
  |cons a c=>rw[aei,<-qU c];cases(show _=Value.bool b from a);rfl
theorem Ea (k:Bool)(bs:aP Bool):∀y,y∈(bs.map Value.bool).toArray->∀(A:aq) (s:ao),EqAt A s y (.bool k) (isBoolOf k y):=λy hy A s=>by
 have hy':y∈bs.map Value.bool:=by simpa using hy
 obtain⟨b,_,rfl⟩:=List.mem_map.mp hy';exact EqAt.bool_bool b k
def Ui:V->List V->Hp->VK->Prop:=λx vs H Q=>∃(l:aj) (bs:List Bool) (k:Bool),x=.ref l/\vs=[.bl k]/\H l=some (.lst<|bs.map V.bl)/\Q (.int ((bs.countP (·==k):Nat):Int)) H
theorem Lg:Yk X "list.count" Ui:=by
 intro bG s U H x vs v us Q I rx rv h;obtain⟨l,bs,k,rfl,rfl,hH,q⟩:=h;cases rx;obtain⟨u,rfl,ru⟩:=rv.one;cases(show u=Value.bool k from ru);obtain⟨z,bh,n,r,hl,e⟩:=I.zO hH;have ei:=qU r;subst ei;refine call_meets afO ⟨_,e,rfl⟩ PySem.F.entry_list_count (PySem.F.args_list_count_2 _ _) (list_countAt l _ n none #[] (.bool k) (isBoolOf k)) ⟨e,λy hy=>Ea k bs y hy _ _,?_⟩;have ec:((bs.map Value.bool).toArray.toList.countP<|isBoolOf k)=bs.countP (·==k):=by
  rw[show(bs.map Value.bool).toArray.toList=bs.map Value.bool from rfl,List.countP_map]
  rfl
 rw[ec];exact⟨.int _,H,I.tok _,⟨_,rfl⟩,q⟩
def Uj:V->List V->Hp->VK->Prop:=λx vs H Q=>∃(l:aj) (bs:List Bool) (k:Bool) (j:Nat),x=.ref l/\vs=[.bl k]/\H l=some (.lst<|bs.map V.bl)/\bs[j]?=some k/\(∀m,m<j->bs[m]?=some (!k))/\Q (.int (j:Int)) H
theorem Lh:Yk X "list.index" Uj:=by
 intro bG s U H x vs v us Q I rx rv h;obtain⟨l,bs,k,j,rfl,rfl,hH,hj,hno,q⟩:=h;cases rx;obtain⟨u,rfl,ru⟩:=rv.one;cases(show u=Value.bool k from ru);obtain⟨z,bh,n,r,hl,e⟩:=I.zO hH;have ei:=qU r;subst ei;have jX:j<bs.length:=(aga hj).1;have h63:=nY;rw[aeb]at z;refine call_meets aeQ ⟨_,e,rfl⟩ afK (afF _ _)
  (list_indexAt l _ n none #[] (.bool k) (isBoolOf k) j (by simpa using jX) (by omega) ?_ ?_) ⟨e,λy hy=>Ea k bs y hy _ _,⟨.int _,H,I.tok _,⟨_,rfl⟩,q⟩⟩
 ·have e1:(bs.map Value.bool).toArray[j]'(by simpa using jX)=.bool k:=by
   simp only[afe,List.getElem_map];rw[(aga hj).2]
  rw[e1];show(k==k)=true;simp
 ·intro m hm hlt'
  have hm':=hno m hlt';have e1:(bs.map Value.bool).toArray[m]'hm=.bool (!k):=by
   simp only[afe,List.getElem_map];rw[(aga hm').2]
  rw[e1];show((!k)==k)=false;cases k<;>rfl
end
section
variable {X:Cx}
def Jl:V->List V->Hp->VK->Prop:=λx vs H Q=>∃(l:aj) (zs:List Str) (z:Str) (j:Nat),x=.ref l/\vs=[.str z]/\H l=some (.lst<|zs.map V.str)/\zs[j]?=some z/\(∀m,m<j->∀y,zs[m]?=some y->y≠z)/\Q (.int (j:Int)) H
theorem yZ:Yk X "list.index" Jl:=by
 intro bG s U H x vs v us Q I rx rv h;obtain⟨l,zs,z,j,rfl,rfl,hH,hj,hno,q⟩:=h;cases rx;obtain⟨u,rfl,ru⟩:=rv.one;obtain⟨tu,rfl⟩:=(show ∃t,u=Value.str z t from ru);obtain⟨hz,bh,n,r,hl,e⟩:=I.zO hH;have len:=r.length;rw[aeb]at len hz;have jX:j<zs.length:=(aga hj).1;have h63:=nY;have at_:∀m y,zs[m]?=some y->∃t,bh[m]?=some (Value.str y t):=λm y hm=>by
  obtain⟨w,e1,q1⟩:=r.get (i:=m) (x:=V.str y) (by rw[aee,hm];rfl);obtain⟨t,rfl⟩:=(show ∃t,w=Value.str y t from q1);exact⟨t,e1⟩
 refine call_meets aeQ ⟨_,e,rfl⟩ afK (afF _ _)
  (list_indexAt l _ n none #[] (.str z tu) (Value.isStrOf z) j (by simp;exact aeo jX len) (by omega) ?_ ?_) ⟨e,λy hy=>?_,⟨.int _,H,I.tok _,⟨_,rfl⟩,q⟩⟩
 ·obtain⟨t,h1⟩:=at_ j z hj
  have e1:bh.toArray[j]'(by simp;exact aeo jX len)=.str z t:=by
   rw[afe];exact(aga h1).2
  rw[e1];show(z==z)=true;simp
 ·intro m hm hlt'
  have hm2:m<zs.length:=by exact afJ hlt' jX
  obtain⟨t,h1⟩:=at_ m zs[m] (adX hm2);have e1:bh.toArray[m]'hm=.str zs[m] t:=by
   rw[afe];exact(aga h1).2
  rw[e1];have:=hno m hlt' zs[m] (adX hm2);show(zs[m]==z)=false;simpa using this
 ·have hy':y∈bh:=by simpa using hy
  obtain⟨m,hm,rfl⟩:=List.getElem_of_mem hy';have hm2:m<zs.length:=by exact aeo hm len.symm
  obtain⟨t,h1⟩:=at_ m zs[m] (adX hm2);have e1:bh[m]=.str zs[m] t:=(aga h1).2;rw[e1];exact EqAt.str_str zs[m] t z tu
end
end L2
namespace PySem
open PyProof.Rows
section
variable {prog:aA}{w:aG}{A:aq}{s:ao}{R:Result->ao->Prop}
end
section
variable {prog:aA}{w:aG}{A:aq}{E:ak->ao->Prop}{s:ao}
end
end PySem
namespace L2
section
variable {X:Cx}
end
end L2
namespace Fw
open L2
theorem Eb {K:aN}{H:Hp}{a:aj}{xs:aP V}{tt:TT}{te:TE}{U':L2.St}{Q:VK}(Pv:Nat->aP V->Hp->Prop)(h0:Pv 0 [] H)(hl:∀i vs H,i<=xs.length->Pv i vs H->dM K H a xs/\vs.length<sizeLine)
  (hs:∀i x vs H2,i<xs.length->xs[i]?=some x->Pv i vs H2->tt (some x::U') H2 λb H4=>if b=true then te (some x::U') H4 λv H5=>Nx xs.length i (Pv (i+1) (vs++[v]) H5) else Nx xs.length i (Pv (i+1) vs H4))
  (hd:∀vs H2,Pv xs.length vs H2->∀l,H2 l=none->Q (.ref l) (upd H2 l<|.lst vs)):CZ (Itl K a) tt te U' Q H:=by
 refine⟨λi m vs H=>m=xs.length-i/\i<=xs.length/\Pv i vs H,⟨xs.length,by simp,aeG _,h0⟩,?_⟩;rintro i m vs H2 ⟨rfl,hi,p⟩;obtain⟨q1,q2⟩:=hl i vs H2 hi p;refine⟨q2,?_⟩;by_cases jX:i<xs.length
 ·refine .inr ⟨⟨xs,xs[i],q1,by simp[jX]⟩,?_⟩
  rintro x H3 ⟨e,y⟩;subst e;exact hs i x vs _ jX (y xs q1) p
 ·have e:i=xs.length:=by exact aeT hi (Nat.not_lt.mp jX)
  subst e;exact .inl ⟨⟨xs,q1,adZ _⟩,hd vs H2 p⟩
theorem psW {X:Cx}{b:aJ}{t t':TS}(h:PS X b t)(k:∀D U H,t' D U H->t D U H):PS X b t':=λbG s U H D I q=>h bG s U H D I (k D U H q)
theorem Uk {X:Cx}{b:aP aJ}{t t':TS}(h:xU X b t)(k:∀D U H,t' D U H->t D U H):xU X b t':=λbG s U H D I q=>h bG s U H D I (k D U H q)
noncomputable def ur (ns:List Str)(x:Nat):Str:=ns.getD x ""
noncomputable def gj (ns:List Str)(own:List Nat):List V:=(own.map<|ur ns).map V.str
theorem su (ns:aP Str)(own:aP Nat):(gj ns own).length=own.length:=by unfold gj;rw[aeb,aeb]
theorem wQ {ns:aP Str}{x:Nat}{s:Str}(h:ns[x]?=some s):ur ns x=s:=by unfold ur;rw[afB,h];rfl
theorem Ay {ns:aP Str}{x:Nat}(h:x<ns.length):ns[x]?=some (ur ns x):=by unfold ur;rw[afB,adX h];rfl
theorem QG {ns:aP Str}(nd:ns.Nodup){x y:Nat}(hx:x<ns.length)(hy:y<ns.length)(e:ur ns x=ur ns y):x=y:=by
 have h1:=Ay hx;have h2:=Ay hy;rw[e]at h1;obtain⟨a1,b1⟩:=aga h1;obtain⟨a2,b2⟩:=aga h2;rcases Nat.lt_trichotomy x y with l|l|l
 ·exact absurd (b1.trans b2.symm)<|List.pairwise_iff_getElem.mp nd _ _ a1 a2 l
 ·exact l
 ·exact absurd (b2.trans b1.symm)<|List.pairwise_iff_getElem.mp nd _ _ a2 a1 l
def Nl (ns:List Str)(own:List Nat):Prop:=ns.Nodup/\∀x∈own,x<ns.length
def Ec (ns:List Str)(own:List Nat):Prop:=ns.Nodup/\∀x,x∈own↔x<ns.length
theorem Ec.l {ns:aP Str}{own:aP Nat}(h:Ec ns own):Nl ns own:=⟨h.1,λx hx=>(h.2 x).mp hx⟩
theorem Ul {ns ss:aP Str}{x:Nat}(h:x<ns.length):ur (ns++ss) x=ur ns x:=wQ (by rw[ad6 h];exact Ay h)
theorem wR {ns ss:aP Str}{own:aP Nat}(h:∀x∈own,x<ns.length):gj (ns++ss) own=gj ns own:=by
 unfold gj;rw[List.map_congr_left λx hx=>Ul (h x hx)]
theorem wU {ns:aP Str}{s:Str}:ur (ns++[s]) ns.length=s:=wQ (by simp)
theorem QH {ns ss:aP Str}:gj (ns++ss) (nms ns.length ss.length)=ss.map V.str:=by
 refine List.ext_getElem? λi=>?_;unfold gj nms;rw[aee,aee,aee,aee];by_cases h:i<ss.length
 ·rw[List.getElem?_range h,adX h]
  show some (V.str<|ur (ns++ss) (ns.length+i))=_;rw[wQ (s:=ss[i]) (by rw[aef (ad9 _ _),aeK];exact adX h)]
  rfl
 ·rw[afq (Nat.not_lt.mp h),afq (by rw[List.length_range];exact Nat.not_lt.mp h)]
  rfl
theorem Hh {ns:List Str}:∀{own:List Nat} {x j:Nat},Nl ns own->nJ x own=some j->(own.map<|ur ns)[j]?=some (ur ns x)/\∀m,m<j->∀y,(own.map<|ur ns)[m]?=some y->y≠ur ns x
 |[],x,j,_,h=>by cases h
 |y::ys,x,j,n,h=>by
  unfold nJ at h;by_cases c:x=y
  ·rw[afX c]at h
   cases h;subst c;exact⟨rfl,λm hm=>absurd hm<|ae8 _⟩
  ·rw[afY c]at h
   cases e:nJ x ys with
   |none=>rw[e]at h;cases h
   |some k=>
    rw[e]at h;cases h;obtain⟨h1,h2⟩:=Hh ⟨n.1,λz hz=>n.2 z<|ad0 _ hz⟩ e;refine⟨by simpa using h1,λm hm z hz=>?_⟩;cases m with
    |zero=>
     simp at hz;subst hz;intro e2;have mx:x∈ys:=by
      rw[aee]at h1;cases q:ys[k]? with
      |none=>rw[q]at h1;cases h1
      |some u=>
       rw[q]at h1;have h3:ur ns u=ur ns x:=af5 h1;have mu:u∈ys:=aeJ q;have lu:=n.2 u (ad0 _ mu);have ly:=n.2 y ad3;exact absurd (QG n.1 lu ly<|h3.trans e2.symm) (by
        intro e4;subst e4;have:nJ x ys=some k:=e;have gen:∀(zs:List Nat) (k:Nat),nJ x zs=some k->zs[k]?=some x:=λzs=>by
         induction zs with
         |nil=>intro k h;cases h
         |cons a as ih=>
          intro k h;unfold nJ at h;by_cases c:x=a
          ·rw[afX c]at h;cases h;subst c;rfl
          ·rw[afY c]at h
           cases e:nJ x as with
           |none=>rw[e]at h;cases h
           |some m=>rw[e]at h;cases h;simpa using ih m e
        have:=gen ys k e;rw[q]at this;exact c (af5 this).symm)
     exact c<|QG n.1 (n.2 x<|ad0 _ mx) (n.2 y ad3) e2.symm
    |succ m=>exact h2 m (by have:m+1<k+1:=hm;exact ae' this) z (by simpa using hz)
theorem sy {own:List Nat}:∀{ns js:List Nat},nM own ns=some js->js.length=ns.length/\∀(i x:Nat),ns[i]?=some x->∃j,js[i]?=some j/\nJ x own=some j
 |[],js,h=>by cases h;exact⟨rfl,λi x e=>by simp at e⟩
 |y::ys,js,h=>by
  unfold nM at h;split at h
  ·rename_i a as e1 e2
   cases h;obtain⟨l,g⟩:=sy e2;refine⟨by simp[l],λi x e=>?_⟩;cases i with
   |zero=>simp at e;subst e;exact⟨a,rfl,e1⟩
   |succ i=>
    obtain⟨j,h1,h2⟩:=g i x (by simpa using e);exact⟨j,by simpa using h1,h2⟩
  ·cases h
def qW {α:Type}(R:V->α->Prop)(vs:List V)(rs:List α):Prop:=vs.length=rs.length/\∀(i:Nat) (r:α),rs[i]?=some r->∃v,vs[i]?=some v/\R v r
theorem qW.nil {α:Type}{R:V->α->Prop}:qW R [] []:=⟨rfl,λi r h=>by simp at h⟩
theorem qW.mono {α:Type}{R S:V->α->Prop}{vs:aP V}{rs:aP α}(a:qW R vs rs)(k:∀v r,R v r->S v r):qW S vs rs:=⟨a.1,λi r h=>by
 obtain⟨v,h1,h2⟩:=a.2 i r h;exact⟨v,h1,k _ _ h2⟩⟩
theorem qW.snoc {α:Type}{R:V->α->Prop}{vs:aP V}{rs:aP α}{v:V}{r:α}(a:qW R vs rs)(h:R v r):qW R (vs++[v]) (rs++[r]):=by
 refine⟨by simp[a.1],λi x hx=>?_⟩;by_cases c:i<rs.length
 ·rw[ad6 c]at hx
  obtain⟨u,h1,h2⟩:=a.2 i x hx;exact⟨u,by rw[ad6 (by rw[a.1];exact c)];exact h1,h2⟩
 ·have l:i<(rs++[r]).length:=(aga hx).1
  rw[adV]at l;have e:i=rs.length:=by simp at l;omega
  subst e;simp at hx;subst hx;exact⟨v,by rw[<-a.1];simp,h⟩
def BR (H H':Hp):Prop:=∀b ys,H b=some (.tup ys)->H' b=some (.tup ys)
mutual
inductive jM (H:Hp):List Str->V->Tm->Prop where
 |n {ns:List Str} {r:aj} {i:Int}:H r=some (.tup [.str "n", .int i])->jM H ns (.ref r) (.n i)
 |v {ns:List Str} {r:aj} {x:Nat}:H r=some (.tup [.str "v", .str (ur ns x)])->x<ns.length->jM H ns (.ref r) (.v x)
 |g {ns:List Str} {r:aj} {j:Nat}:H r=some (.tup [.str "g", .int (j:Int)])->jM H ns (.ref r) (.g j)
 |lt {ns:List Str} {r:aj} {s:Str} {u v:V} {t b:Tm}:H r=some (.tup [.str "let", .str s,u,v])->(ns++[s]).Nodup->jM H ns u t->jM H (ns++[s]) v b->jM H ns (.ref r) (.lt ns.length t b)
 |lW {ns:List Str} {r:aj} {u v w:V} {c a b:Tm}:H r=some (.tup [.str "if",u,v,w])->jM H ns u c->jM H ns v a->jM H ns w b->jM H ns (.ref r) (.lW c a b)
 |fn {ns:List Str} {r:aj} {s:Str} {v:V} {b:Tm}:H r=some (.tup [.str "fun", .str s,v])->(ns++[s]).Nodup->jM H (ns++[s]) v b->jM H ns (.ref r) (.fn ns.length b)
 |op {ns:List Str} {r:aj} {k:Nat} {u v:V} {a b:Tm}:H r=some (.tup [.str (wordOf k),u,v])->jM H ns u a->jM H ns v b->jM H ns (.ref r) (.op k a b)
 |call {ns:List Str} {r:aj} {u v:V} {a b:Tm}:H r=some (.tup [.str "call",u,v])->jM H ns u a->jM H ns v b->jM H ns (.ref r) (.call a b)
 |block {ns:List Str} {r t:aj} {k:Int} {vs:List V} {ts:List Tm}:H r=some (.tup [.str "block", .int k, .ref t])->H t=some (.tup vs)->uK H ns vs ts->jM H ns (.ref r) (.block k ts)
 |field {ns:List Str} {r:aj} {j:Nat} {v:V} {t:Tm}:H r=some (.tup [.str "field", .int (j:Int),v])->jM H ns v t->jM H ns (.ref r) (.field j t)
 |case {ns:List Str} {r t:aj} {v:V} {b:Tm} {ms:List Nat} {vs:List V} {bs:List Tm}:H r=some (.tup [.str "case",v, .ref t])->H t=some (.tup vs)->jM H ns v b->qw H ns ms vs bs->jM H ns (.ref r) (.case ns.length b ms bs)
inductive uK (H:Hp):List Str->List V->List Tm->Prop where
 |nil {ns:List Str}:uK H ns [] []
 |cons {ns:List Str} {v:V} {t:Tm} {vs:List V} {ts:List Tm}:jM H ns v t->uK H ns vs ts->uK H ns (v::vs) (t::ts)
inductive qw (H:Hp):List Str->List Nat->List V->List Tm->Prop where
 |nil {ns:List Str}:qw H ns [] [] []
 |cons {ns ss:List Str} {p q:aj} {v:V} {t:Tm} {ms:List Nat} {vs:List V} {ts:List Tm}:H p=some (.tup [.ref q,v])->H q=some (.tup<|ss.map V.str)->(ns++ss).Nodup->jM H (ns++ss) v t->qw H ns ms vs ts->qw H ns (ss.length::ms) (.ref p::vs) (t::ts)
end
theorem jM.tps {H H':Hp}(e:BR H H'){ns:aP Str}{v:V}{t:Tm}(h:jM H ns v t):jM H' ns v t :=
 jM.rec (motive_1:=λns v t _=>jM H' ns v t) (motive_2:=λns v t _=>uK H' ns v t) (motive_3:=λns m v t _=>qw H' ns m v t) (λh=>.n<|e _ _ h) (λh=>.v<|e _ _ h) (λh=>.g<|e _ _ h) (λh n _ _=>.lt (e _ _ h) n) (λh _ _ _=>.lW<|e _ _ h) (λh n _=>.fn (e _ _ h) n) (λh _ _=>.op<|e _ _ h) (λh _ _=>.call<|e _ _ h) (λh k _=>.block (e _ _ h)<|e _ _ k) (λh _=>.field<|e _ _ h) (λh k _ _=>.case (e _ _ h)<|e _ _ k) .nil (λ_ _=>.cons) .nil (λh k n _ _=>.cons (e _ _ h) (e _ _ k) n) h
@[elab_as_elim] theorem uK.ind {H:Hp} {ns:List Str} {C:List V->List Tm->Prop} {vs:List V} {ts:List Tm} (h:uK H ns vs ts) (n:C [] []) (c:∀{v t vs ts},jM H ns v t->uK H ns vs ts->C vs ts->C (v::vs) (t::ts)):C vs ts:=by
 induction ts generalizing vs with
 |nil=>cases h;exact n
 |cons t ts ih=>cases h with
  |cons r q=>exact c r q<|ih q
@[elab_as_elim] theorem qw.ind {H:Hp} {ns:List Str} {C:List Nat->List V->List Tm->Prop} {ms:List Nat} {vs:List V} {ts:List Tm} (h:qw H ns ms vs ts) (n:C [] [] []) (c:∀{ss p q v t ms vs ts},H p=some (.tup [.ref q,v])->H q=some (.tup<|ss.map V.str)->(ns++ss).Nodup->jM H (ns++ss) v t->qw H ns ms vs ts->C ms vs ts->C (ss.length::ms) (.ref p::vs) (t::ts)):C ms vs ts:=by
 induction ts generalizing ms vs with
 |nil=>cases h;exact n
 |cons t ts ih=>cases h with
  |cons a b d r q=>exact c a b d r q<|ih q
theorem qw.tps {H H':Hp}(e:BR H H'){ns:aP Str}{ms:aP Nat}{vs:aP V}{ts:aP Tm}(h:qw H ns ms vs ts):qw H' ns ms vs ts:=h.ind .nil λa b d r _ ih=>.cons (e _ _ a) (e _ _ b) d (r.tps e) ih
theorem uK.len {H:Hp}{ns:aP Str}{vs:aP V}{ts:aP Tm}(h:uK H ns vs ts):vs.length=ts.length:=h.ind rfl λ_ _ ih=>congrArg (·+1) ih
theorem uK.get {H:Hp}{ns:List Str}{vs:List V}{ts:List Tm}{j:Nat}{t:Tm}(h:uK H ns vs ts)(e:ts[j]?=some t):∃v,vs[j]?=some v/\jM H ns v t:=by
 induction ts generalizing vs j with
 |nil=>simp at e
 |cons u us ih=>cases h with
  |cons r q=>cases j with
   |zero=>cases e;exact⟨_,rfl,r⟩
   |succ j=>exact(ih (j:=j) q e:)
theorem qw.len {H:Hp}{ns:aP Str}{ms:aP Nat}{vs:aP V}{ts:aP Tm}(h:qw H ns ms vs ts):vs.length=ts.length/\ms.length=ts.length:=h.ind ⟨rfl,rfl⟩ λ_ _ _ _ _ ih=>⟨congrArg (·+1) ih.1,congrArg (·+1) ih.2⟩
theorem qw.get {H:Hp}{ns:List Str}{ms:List Nat}{vs:List V}{ts:List Tm}{i:Nat}{t:Tm}(h:qw H ns ms vs ts)(e:ts[i]?=some t):∃(p q:aj) (v:V) (ss:List Str),ms[i]?=some ss.length/\vs[i]?=some (.ref p)/\H p=some (.tup [.ref q,v])/\H q=some (.tup<|ss.map V.str)/\(ns++ss).Nodup/\jM H (ns++ss) v t:=by
 induction ts generalizing ms vs i with
 |nil=>simp at e
 |cons u us ih=>cases h with
  |cons a b d r q=>cases i with
   |zero=>cases e;exact⟨_,_,_,_,rfl,rfl,a,b,d,r⟩
   |succ j=>exact(ih (i:=j) q e:)
theorem jM.same {H H':Hp}(e:Same H H'){ns:aP Str}{v:V}{t:Tm}(h:jM H ns v t):jM H' ns v t:=h.tps λb ys q=>e b _ q
theorem Mr.tps {H H':Hp}{r:aj}{row:Rw}(e:BR H H')(h:Mr H r row):Mr H' r row:=by
 cases row with
 |close to js=>obtain⟨pt,h1,h2⟩:=h;exact⟨pt,e _ _ h1,e _ _ h2⟩
 |case fs=>obtain⟨pt,h1,h2⟩:=h;exact⟨pt,e _ _ h1,e _ _ h2⟩
 |_=>exact e _ _ h
def Li (lr ll:aj)(H:Hp)(v:V):Lr->Prop
 |.row r=>∃a:aj,v=.ref a/\Mr H a r
 |.late k js=>∃a p q:aj,v=.ref a/\H a=some (.tup [.str "late", .ref p])/\H p=some (.tup [.int (k:Int), .ref q])/\H q=some (.tup (js.map λj:Nat=>V.int (j:Int)))
 |.hole=>v=.non
def Um (lr ll:aj)(H:Hp)(v:V)(p:List Nat×Tm):Prop:=∃(a ln:aj) (u:V) (ns:List Str),v=.ref a/\H a=some (.tup [.ref ln,u])/\H ln=some (.lst<|gj ns p.1)/\ln≠lr/\ln≠ll/\jM H ns u p.2/\p.1≠[]/\Ec ns p.1
def Kp (lr ll:aj)(H H':Hp):Prop:=∀b o,b≠lr->b≠ll->H b=some o->H' b=some o
theorem Kp.refl {lr ll:aj}{H:Hp}:Kp lr ll H H:=λ_ _ _ _ h=>h
theorem Kp.trans {lr ll:aj}{H H1 H2:Hp}(a:Kp lr ll H H1)(b:Kp lr ll H1 H2):Kp lr ll H H2:=λc o n m h=>b c o n m (a c o n m h)
theorem ig {lr ll:aj}{H H':Hp}(s:Same H H'):Kp lr ll H H':=λc o _ _ h=>s c o h
theorem jJ {lr ll:aj}{H:Hp}{o:HO}:Kp lr ll H (upd H lr o):=λc u n _ h=>by rw[bR n];exact h
theorem Jm {lr ll:aj}{H:Hp}{o:HO}:Kp lr ll H (upd H ll o):=λc u _ n h=>by rw[bR n];exact h
theorem Li.tps {lr ll:aj}{H H':Hp}(e:BR H H')(k:Kp lr ll H H'){v:V}{r:Lr}(h:Li lr ll H v r):Li lr ll H' v r:=by
 cases r with
 |row r=>obtain⟨a,h1,h2⟩:=h;exact⟨a,h1,h2.tps e⟩
 |late k js=>obtain⟨a,p,q,h0,h1,h2,h3⟩:=h;exact⟨a,p,q,h0,e _ _ h1,e _ _ h2,e _ _ h3⟩
 |hole=>exact h
noncomputable def BW (ab:Bool):Int:=if ab then 1 else 0
structure WS (H:Hp)(wk lr ll:aj)(ab:Bool)(aY:List Lr)(L:List (List Nat×Tm)):Prop where
 wk:∃cD:List (Key×V),H wk=some (.dK cD)/\fV cD (Sum.inr "rows")=some (.ref lr)/\fV cD (Sum.inr "late")=some (.ref ll)/\fV cD (Sum.inr "about")=some (.int<|BW ab)
 rw:∃jQ,H lr=some (.lst jQ)/\qW (Li lr ll H) jQ aY
 lt:∃qK,H ll=some (.lst qK)/\qW (Um lr ll H) qK L
 ne:lr≠ll
section
variable {H H':Hp}{wk lr ll:aj}{ab:Bool}{aY:List Lr}{L:List (List Nat×Tm)}
theorem WS.tps (w:WS H wk lr ll ab aY L)(k:Kp lr ll H H'):BR H H':=λb ys h=>by
 obtain⟨jQ,h1,_⟩:=w.rw;obtain⟨qK,h2,_⟩:=w.lt;exact k b _ (jg h h1<|by intro z;cases z) (jg h h2<|by intro z;cases z) h
theorem WS.wkK (w:WS H wk lr ll ab aY L)(k:Kp lr ll H H'):∃cD:aP (Key×V),H' wk=some (.dK cD)/\fV cD (Sum.inr "rows")=some (.ref lr)/\fV cD (Sum.inr "late")=some (.ref ll)/\fV cD (Sum.inr "about")=some (.int<|BW ab):=by
 obtain⟨jQ,h1,_⟩:=w.rw;obtain⟨qK,h2,_⟩:=w.lt;obtain⟨cD,h,g⟩:=w.wk;exact⟨cD,k _ _ (jg h h1<|by intro z;cases z) (jg h h2<|by intro z;cases z) h,g⟩
theorem Um.kp (w:WS H wk lr ll ab aY L)(k:Kp lr ll H H'){v:V}{p:aP Nat×Tm}(h:Um lr ll H v p):Um lr ll H' v p:=by
 obtain⟨a,ln,u,ns,h0,h1,h2,n1,n2,h3,h4⟩:=h;exact⟨a,ln,u,ns,h0,w.tps k _ _ h1,k _ _ n1 n2 h2,n1,n2,h3.tps<|w.tps k,h4⟩
theorem WS.same (w:WS H wk lr ll ab aY L)(s:Same H H'):WS H' wk lr ll ab aY L:=by
 have k:Kp lr ll H H':=ig s;obtain⟨jQ,h1,a1⟩:=w.rw;obtain⟨qK,h2,a2⟩:=w.lt;exact⟨w.wkK k,⟨jQ,s _ _ h1,a1.mono λv r=>Li.tps (w.tps k) k⟩,⟨qK,s _ _ h2,a2.mono λv r=>Um.kp w k⟩,w.ne⟩
theorem WS.QJ (w:WS H wk lr ll ab aY L){jQ:aP V}(h:H lr=some (.lst jQ)){v:V}{r:Lr}(hv:Li lr ll H v r):WS (upd H lr<|.lst (jQ++[v])) wk lr ll ab (aY++[r]) L:=by
 have k:Kp lr ll H (upd H lr<|.lst (jQ++[v])):=jJ;obtain⟨acT,h1,a1⟩:=w.rw;obtain⟨qK,h2,a2⟩:=w.lt;rw[h]at h1;cases h1;exact⟨w.wkK k,⟨_,bA,(a1.snoc hv).mono λv r=>Li.tps (w.tps k) k⟩,⟨qK,by rw[bR (af2 w.ne)];exact h2,a2.mono λv r=>Um.kp w k⟩,w.ne⟩
theorem WS.acU (w:WS H wk lr ll ab aY L){qK:aP V}(h:H ll=some (.lst qK)){v:V}{p:aP Nat×Tm}(hv:Um lr ll H v p):WS (upd H ll<|.lst (qK++[v])) wk lr ll ab aY (L++[p]):=by
 have k:Kp lr ll H (upd H ll<|.lst (qK++[v])):=Jm;obtain⟨jQ,h1,a1⟩:=w.rw;obtain⟨adQ,h2,a2⟩:=w.lt;rw[h]at h2;cases h2;exact⟨w.wkK k,⟨jQ,by rw[bR w.ne];exact h1,a1.mono λv r=>Li.tps (w.tps k) k⟩,⟨_,bA,(a2.snoc hv).mono λv r=>Um.kp w k⟩,w.ne⟩
theorem qW.set {α:Type}{R:V->α->Prop}{vs:aP V}{rs:aP α}{v:V}{r:α}(a:qW R vs rs)(i:Nat)(h:R v r):qW R (vs.set i v) (rs.set i r):=by
 refine⟨by rw[afj,afj];exact a.1,λj x hx=>?_⟩;by_cases c:i=j
 ·subst c
  have l:i<rs.length:=by
   have:=(aga hx).1
   rwa [afj]at this
  rw[ae9 l]at hx;cases hx;exact⟨v,by rw[ae9 (by rw[a.1];exact l)],h⟩
 ·rw[aeX c]at hx
  obtain⟨u,h1,h2⟩:=a.2 j x hx;exact⟨u,by rw[aeX c];exact h1,h2⟩
theorem WS.Uo (w:WS H wk lr ll ab aY L){jQ:aP V}(h:H lr=some (.lst jQ)){v:V}{r:Lr}(i:Nat)(hv:Li lr ll H v r):WS (upd H lr<|.lst (jQ.set i v)) wk lr ll ab (aY.set i r) L:=by
 have k:Kp lr ll H (upd H lr<|.lst (jQ.set i v)):=jJ;obtain⟨acT,h1,a1⟩:=w.rw;obtain⟨qK,h2,a2⟩:=w.lt;rw[h]at h1;cases h1;exact⟨w.wkK k,⟨_,bA,(a1.set i hv).mono λv r=>Li.tps (w.tps k) k⟩,⟨qK,by rw[bR (af2 w.ne)];exact h2,a2.mono λv r=>Um.kp w k⟩,w.ne⟩
noncomputable def dj (js:List Nat):List V:=js.map λj:Nat=>V.int (j:Int)
theorem WS.aside (w:WS H wk lr ll ab aY L){lf:aj}{js ys:List Nat}(h:H lf=some (.lst<|dj js))(n1:lf≠lr)(n2:lf≠ll):WS (upd H lf<|.lst (dj ys)) wk lr ll ab aY L:=by
 have tp:BR H (upd H lf<|.lst (dj ys)):=λb zs e=>by rw[bR (jg e h<|by intro z;cases z)];exact e
 obtain⟨cD,hk,g⟩:=w.wk;obtain⟨jQ,h1,a1⟩:=w.rw;obtain⟨qK,h2,a2⟩:=w.lt;refine⟨⟨cD,by rw[bR (jg hk h<|by intro z;cases z)];exact hk,g⟩,⟨jQ,by rw[bR (af2 n1)];exact h1,a1.mono λv r hr=>?_⟩,⟨qK,by rw[bR (af2 n2)];exact h2,a2.mono λv p hp=>?_⟩,w.ne⟩
 ·cases r with
  |row r=>obtain⟨a,h1,h2⟩:=hr;exact⟨a,h1,h2.tps tp⟩
  |late k js=>obtain⟨a,p,q,h0,h1,h2,h3⟩:=hr;exact⟨a,p,q,h0,tp _ _ h1,tp _ _ h2,tp _ _ h3⟩
  |hole=>exact hr
 ·obtain⟨a,ln,u,ns,h0,h1,h2,n1,n2,h3,h4⟩:=hp
  refine⟨a,ln,u,ns,h0,tp _ _ h1,?_,n1,n2,h3.tps tp,h4⟩;rw[bR]
  ·exact h2
  ·intro e
   subst e;rw[h]at h2;cases hp1:p.1 with
   |nil=>exact h4.1 hp1
   |cons y ys=>
    rw[hp1]at h2;cases js with
    |nil=>cases h2
    |cons z zs=>cases h2
end
theorem wJ.in {p:Lt}(h:wJ p):p.1≠[]/\p.1.length+6*dep p.2<=150/\dep p.2<=10:=by
 obtain⟨names,x,e,mem,gt,h40,h60,h12⟩:=h;exact⟨by rw[e];simp,h60,h12⟩
theorem cJ {H:Hp}{a b:aj}{o:HO}(h:H a=none)(h':H b=some o):a≠b:=af2 (bU h' h)
inductive Az (vs:List V)(H:Hp)(Q:VK)(E_:XK):Prop where
 |mk (wk lo lr ll:aj) (ns:List Str) (s:Str) (v:V) (ab:Bool) (aY:List Lr) (L:List Lt) (own js:List Nat) (b:Tm):vs=[.ref wk, .ref lo, .str s,v]->WS H wk lr ll ab aY L->H lo=some (.lst<|gj ns own)->Ec ns own->(ns++[s]).Nodup->lo≠lr->lo≠ll->jM H (ns++[s]) v b->nM own (namesOf ab own)=some js->own.length<=150->L.length<=50000->(∀(p q:aj) H',Kp lr ll H H'->WS H' wk lr ll ab aY (L++[(namesOf ab own++[ns.length],b)])->H' p=some (.tup [.int (L.length:Int), .ref q])->H' q=some (.tup (js.map λj:Nat=>V.int (j:Int)))->Q (.ref p) H')->Az vs H Q E_
def abn:TS:=λD U H=>∃(wk lo lr ll ln:aj) (ns:List Str) (s:Str) (v:V) (ab:Bool) (aY:List Lr) (L:List Lt) (own js:List Nat) (b:Tm),U=[some (.ref wk),some<|.ref lo,some<|.str s,some v,some (.ref ln)]/\WS H wk lr ll ab aY L/\H lo=some (.lst<|gj ns own)/\Ec ns own/\(ns++[s]).Nodup/\lo≠lr/\lo≠ll/\
 H ln=some (.lst<|gj ns (namesOf ab own))/\ln≠lr/\ln≠ll/\jM H (ns++[s]) v b/\
 nM own (namesOf ab own)=some js/\own.length<=150/\L.length<=50000/\
 ∀(p q:aj) H',Kp lr ll H H'->WS H' wk lr ll ab aY (L++[(namesOf ab own++[ns.length],b)])->H' p=some (.tup [.int (L.length:Int), .ref q])->H' q=some (.tup (js.map λj:Nat=>V.int (j:Int)))->D.rt (.ref p) H'
section
abbrev Bb:aJ:=top 58
noncomputable abbrev pHe:List Str:=["_law_work","_law_own","_law_x","_law_body"]
noncomputable abbrev nHe:List Str:=["_law_work","_law_own","_law_x","_law_body","_law_names"]
theorem Jo:bZ nHe pHe (bQ Bb):={}
set_option maxHeartbeats 2000000 in
theorem Uq (F:iz K "_law_held" "_law_held" Bb f fd)(ml:mg "len"=none)(mL:mg "list"=none)(mt:mg "tuple"=none):cP P w K mg aV jV 1 f fd pHe Az:=by
 refine F.ok Jo λdF A aU s H vs Q E hr h=>?_;obtain⟨wk,lo,lr,ll,ns,sx,v,ab,aY,L,own,js,b,rfl,ws,rK,n14,nd,n1,n2,tb,hjs,Zx,lL,q⟩:=h;have hu:=qD hr;have hz:=sizeLine_eq;refine⟨_,bJ (iy 4 Jo.nd<|eU (W9 K) rfl mL boot_list (bx (pv 1) bH))
  (bJ (dz (cH Cr (cO hu (pv 0) bV) bK) (bO<|cg (Oa aeA PySem.F.slot_list_reverse PySem.F.type_list_reverse Gs<|pv 4)) cN)
  (Uk (t':=abn) (bJ (cg<|ji K (cO hu (pv 0) bV) (bx (eO<|bx (dN vJ (pv 4)<|gJ (bx (pv 2) bH)) (bx (pv 3) bH)) bH))
  (bO (cQ (eO (bx (dN zE (cu (mV K) rfl ml af6 (bx (cO hu (pv 0) bV) bH)) bK) (bx (eU (Tp K) rfl mt boot_tuple (bx
   (Om (bQ Bb) nHe ["_law_own"] [1] (by decide+kernel) (piL K<|pv 4) (λC s₀ H₀ ex=>pX)
    (λC s₀ H₀ ex=>show PE _ _ (tBM K "list" Jl _ _) from yE aeA aeQ afl yZ (pv 1)<|bx (pv 0) bH)) bH)) bH)))))) ?qr)),?_⟩
 case qr=>
  rintro D U H ⟨wk,lo,lr,ll,ln,ns,sx,v,ab,aY,L,own,js,b,rfl,ws,rK,n14,nd,n1,n2,FN,m1,m2,tb,hjs,Zx,lL,q⟩;have hnl:=pL ab own;obtain⟨cD,hwk,g1,g2,g3⟩:=ws.wk;obtain⟨qK,hll,al⟩:=ws.lt;refine(dY rfl hwk g2 ⟨.inl ⟨rfl,_,dM.of hll⟩,_,rfl,_,rfl,(dO 1),λp1 hp1=>?_⟩);have s1:=bI hp1 (.lst [.str sx]);refine⟨ln,p1,_,_,rfl,rfl,s1 _ _ FN,bA,small (by rw[su];show _+1<=1000000;omega),λp2 hp2=>?_⟩;have nmem:∀y∈namesOf ab own,y<ns.length:=λy hy=>n14.l.2 y (by cases ab<;>simpa[namesOf] using hy);have e2:gj ns (namesOf ab own)++[.str sx]=gj (ns++[sx]) (namesOf ab own++[ns.length]):=by
   rw[<-wR (ss:=[sx]) nmem];unfold gj;rw[aes,aes];show _=_++[V.str (ur (ns++[sx]) ns.length)];rw[wU]
  have acV:Ec (ns++[sx]) (namesOf ab own++[ns.length]):=⟨nd,λy=>by
   rw[adV,aeu,aec];show y∈namesOf ab own\/y=ns.length↔y<ns.length+1;constructor
   ·rintro(z|z)
    ·exact afC<|nmem y z
    ·rw[z];exact aey _
   ·intro z
    rcases Nat.lt_succ_iff_lt_or_eq.mp z with z|z
    ·exact .inl (by have:=(n14.2 y).mpr z;cases ab<;>simpa[namesOf] using this)
    ·exact .inr z⟩
  rw[e2];have s2:=bI hp2 (.lst<|gj (ns++[sx]) (namesOf ab own++[ns.length]));refine⟨_,rfl,(dO 2),λp3 hp3=>?_⟩;have s12:=s1.trans s2;have abo:H p2=none:=s1.free hp2;have h2:(upd (upd H p1<|.lst [.str sx]) p2<|.lst (gj (ns++[sx])<|namesOf ab own++[ns.length])) p2=some (.lst<|gj (ns++[sx]) (namesOf ab own++[ns.length])):=bA;revert hp3 s12 h2;generalize upd (upd H p1<|.lst [.str sx]) p2 (.lst<|gj (ns++[sx]) (namesOf ab own++[ns.length]))=H2;intro hp3 s12 h2;have s3:=bI hp3 (.tup [.ref p2,v]);have h3:(upd H2 p3<|.tup [.ref p2,v]) p3=some (.tup [.ref p2,v]):=bA;have Mt:=s12.trans s3;have h2':=s3 _ _ h2;revert s3 h3 Mt h2';generalize upd H2 p3 (.tup [.ref p2,v])=H3;intro s3 h3 Mt h2';refine⟨ll,_, .ref p3,rfl,rfl,Mt _ _ hll,dB (by rw[al.1];exact ad2 lL<|by decide),?_⟩;have np2:p2≠lr/\p2≠ll:=by
   obtain⟨jQ,qX,_⟩:=ws.rw;exact⟨cJ abo qX,cJ abo hll⟩
  have w4:=(ws.same Mt).acU (Mt _ _ hll) (v:=.ref p3) (p:=(namesOf ab own++[ns.length],b)) ⟨p3,p2,v,_,rfl,h3,h2',np2.1,np2.2,tb.same Mt,by simp,acV⟩;have k4:Kp lr ll H (upd H3 ll<|.lst (qK++[.ref p3])):=(ig Mt).trans Jm;revert w4 k4;generalize Zy:upd H3 ll (.lst<|qK++[.ref p3])=H4;intro w4 k4;obtain⟨kv4,acW,_,g24,_⟩:=w4.wk;obtain⟨lv4,acX,al4⟩:=w4.lt;have ll4:=al4.1;rw[adV]at ll4;have abp:=k4 _ _ n1 n2 rK;have abq:=k4 _ _ m1 m2 FN;refine(dY rfl acW g24 ⟨ll,_,rfl, .inl<|dM.of acX,_,_,rfl,rfl,?_⟩);refine⟨_,rfl,ln,rfl,⟨_,dM.of abq⟩,Eb (xs:=gj ns<|namesOf ab own) (λi vs H'=>H'=H4/\vs=(js.map λj:Nat=>V.int (j:Int)).take i) ⟨rfl,rfl⟩ ?_ ?_ ?_⟩
  ·rintro i vs H' hi ⟨rfl,rfl⟩
   refine⟨dM.of abq,?_⟩;have:=(sy hjs).1;rw[aeh,aeb];omega
  ·rintro i y vs H' hi hy ⟨rfl,rfl⟩
   unfold gj at hy;rw[aee,aee]at hy;cases hni:(namesOf ab own)[i]? with
   |none=>rw[hni]at hy;cases hy
   |some z=>
    rw[hni]at hy;cases hy;obtain⟨jl,jat⟩:=sy hjs;obtain⟨j,hj,hix⟩:=jat i z hni;obtain⟨g5,g6⟩:=Hh n14.l hix;refine tt1<|jK ⟨_,rfl, .inl ⟨rfl,_,dM.of abp⟩,_,rfl,lo,own.map<|ur ns,ur ns z,j,rfl,rfl,abp,g5,g6,nx hi ⟨rfl,?_⟩⟩;rw[aeW,aee,hj]
    rfl
  ·rintro vs H' ⟨rfl,rfl⟩ l5 ZC
   have lj:(gj ns<|namesOf ab own).length=(js.map λj:Nat=>V.int (j:Int)).length:=by rw[su,aeb,(sy hjs).1]
   rw[lj,ae2];have s5:=bI ZC (.lst (js.map λj:Nat=>V.int (j:Int)));refine⟨l5,_,rfl, .inl ⟨dM.of bA,λc6 hc6=>?_⟩⟩;have s6:=bI hc6 (.tup (js.map λj:Nat=>V.int (j:Int)));refine⟨(dO 2),λp7 Lj=>?_⟩;have s7:=bI Lj (.tup [.int ((lv4.length:Int)-1), .ref c6]);have s57:=s5.trans (s6.trans s7);refine q p7 c6 _ (k4.trans<|ig s57) (w4.same s57) ?_<|s7 _ _ bA;rw[bA];have e8:(lv4.length:Int)-1=(L.length:Int):=by rw[ll4];simp
   rw[e8]
 refine⟨_,rfl,lo,_,rfl, .inl<|dM.of rK,λln FN=>?_⟩;have s1:=bI FN (.lst<|gj ns own);have nln:ln≠lr/\ln≠ll:=by
  obtain⟨jQ,qX,_⟩:=ws.rw;obtain⟨qK,hll,_⟩:=ws.lt;exact⟨cJ FN qX,cJ FN hll⟩
 obtain⟨cD,hwk,g1,g2,g3⟩:=(ws.same s1).wk;refine(dY rfl hwk g3 ⟨BW ab,0,rfl,rfl,_,rfl,?_⟩);cases ab with
 |true=>
  refine gU (λ_=>?_) (λz=>absurd (by decide) z);refine⟨_,rfl, .inl ⟨rfl,_,dM.of bA⟩,ln,_,rfl,rfl,bA,?_⟩;have s2:Same H (upd (upd H ln<|.lst (gj ns own)) ln<|.lst (gj ns own).reverse):=λb o h=>by
   rw[bR (bU h FN),bR (bU h FN)];exact h
  refine⟨wk,lo,lr,ll,ln,ns,sx,v,true,aY,L,own,js,b,rfl,ws.same s2,s2 _ _ rK,n14,nd,n1,n2,?_,nln.1,nln.2,tb.same s2,hjs,Zx,lL,λp q' H' k=>q p q' H'<|(ig s2).trans k⟩;rw[bA];unfold gj namesOf;simp
 |false=>
  refine gU (λz=>absurd z<|by decide) λ_=>?_;exact⟨wk,lo,lr,ll,ln,ns,sx,v,false,aY,L,own,js,b,rfl,ws.same s1,s1 _ _ rK,n14,nd,n1,n2,bA,nln.1,nln.2,tb.same s1,hjs,Zx,lL,λp q' H' k=>q p q' H'<|(ig s1).trans k⟩
end
theorem Jq {ab:Bool}{x:Nat}{t b:Tm}{own:aP Nat}{L L':aP Lt}{r:aP Lr}{p:Nat}(h:comp ab (.lt x t b) own L p=some (r,L')):∃r1 L1 r2,comp ab t own L p=some (r1,L1)/\comp ab b (own++[x]) L1 (p+r1.length+1)=some (r2,L')/\r=r1++[.row .keep]++r2++[.row (.drop 1)]:=by
 unfold comp at h;split at h
 ·cases h
 ·rename_i r1 L1 e1
  split at h
  ·cases h
  ·rename_i r2 L2 e2
   cases h;exact⟨r1,L1,r2,e1,e2,rfl⟩
theorem Ed {ab:Bool}{c a b:Tm}{own:aP Nat}{L L':aP Lt}{r:aP Lr}{p:Nat}(h:comp ab (.lW c a b) own L p=some (r,L')):∃r1 L1 r2 L2 r3,comp ab c own L p=some (r1,L1)/\comp ab a own L1 (p+r1.length+1)=some (r2,L2)/\comp ab b own L2 (p+r1.length+1+r2.length+1)=some (r3,L')/\
  r=r1++[.row (.Ao<|p+r1.length+1+r2.length+1)]++r2++[.row (.jump<|p+r1.length+1+r2.length+1+r3.length)]++r3:=by
 unfold comp at h;split at h
 ·cases h
 ·rename_i r1 L1 e1
  split at h
  ·cases h
  ·rename_i r2 L2 e2
   split at h
   ·cases h
   ·rename_i r3 L3 e3
    cases h;exact⟨r1,L1,r2,L2,r3,e1,e2,e3,rfl⟩
theorem Jr {ab:Bool}{k:Nat}{a b:Tm}{own:aP Nat}{L L':aP Lt}{r:aP Lr}{p:Nat}(h:comp ab (.op k a b) own L p=some (r,L')):∃r1 L1 r2,comp ab a own L p=some (r1,L1)/\comp ab b own L1 (p+r1.length)=some (r2,L')/\r=r1++r2++[.row (.nH k)]:=by
 unfold comp at h;split at h
 ·cases h
 ·rename_i r1 L1 e1
  split at h
  ·cases h
  ·rename_i r2 L2 e2
   cases h;exact⟨r1,L1,r2,e1,e2,rfl⟩
theorem za {ab:Bool}{a b:Tm}{own:aP Nat}{L L':aP Lt}{r:aP Lr}{p:Nat}(h:comp ab (.call a b) own L p=some (r,L')):∃r1 L1 r2,comp ab a own L p=some (r1,L1)/\comp ab b own L1 (p+r1.length)=some (r2,L')/\r=r1++r2++[.row .call]:=by
 unfold comp at h;split at h
 ·cases h
 ·rename_i r1 L1 e1
  split at h
  ·cases h
  ·rename_i r2 L2 e2
   cases h;exact⟨r1,L1,r2,e1,e2,rfl⟩
theorem Js {ab:Bool}{x:Nat}{b:Tm}{own:aP Nat}{L L':aP Lt}{r:aP Lr}{p:Nat}(h:comp ab (.fn x b) own L p=some (r,L')):∃js,nM own (namesOf ab own)=some js/\r=[.late L.length js]/\L'=L++[(namesOf ab own++[x],b)]:=by
 unfold comp at h;split at h
 ·cases h
 ·rename_i js e
  cases h;exact⟨js,e,rfl,rfl⟩
theorem wV {ab:Bool}{k:Int}{ts:aP Tm}{own:aP Nat}{L L':aP Lt}{r:aP Lr}{p:Nat}(h:comp ab (.block k ts) own L p=some (r,L')):∃r1,jW ab ts own L p=some (r1,L')/\r=r1++[.row (.block k ts.length)]:=by
 unfold comp at h;split at h
 ·cases h
 ·rename_i r1 L1 e1
  cases h;exact⟨r1,e1,rfl⟩
theorem wW {ab:Bool}{j:Nat}{t:Tm}{own:aP Nat}{L L':aP Lt}{r:aP Lr}{p:Nat}(h:comp ab (.field j t) own L p=some (r,L')):∃r1,comp ab t own L p=some (r1,L')/\r=r1++[.row (.field j)]:=by
 unfold comp at h;split at h
 ·cases h
 ·rename_i r1 L1 e1
  cases h;exact⟨r1,e1,rfl⟩
theorem zc {ab:Bool}{x:Nat}{t:Tm}{ms:aP Nat}{bs:aP Tm}{own:aP Nat}{L L':aP Lt}{r:aP Lr}{p:Nat}(h:comp ab (.case x t ms bs) own L p=some (r,L')):∃r1 L1 rs,comp ab t own L p=some (r1,L1)/\jz ab bs ms x own L1 (p+r1.length+1)=some (rs,L')/\
  r=r1++[.row (.case<|ju rs (p+r1.length+1))]++d9 rs (p+r1.length+1+cG rs):=by
 unfold comp at h;split at h
 ·cases h
 ·rename_i r1 L1 e1
  split at h
  ·cases h
  ·rename_i rs L2 e2
   cases h;exact⟨r1,L1,rs,e1,e2,rfl⟩
theorem wX {ab:Bool}{t:Tm}{ts:aP Tm}{own:aP Nat}{L L':aP Lt}{r:aP Lr}{p:Nat}(h:jW ab (t::ts) own L p=some (r,L')):∃r1 L1 r2,comp ab t own L p=some (r1,L1)/\jW ab ts own L1 (p+r1.length)=some (r2,L')/\r=r1++r2:=by
 unfold jW at h;split at h
 ·cases h
 ·rename_i r1 L1 e1
  split at h
  ·cases h
  ·rename_i r2 L2 e2
   cases h;exact⟨r1,L1,r2,e1,e2,rfl⟩
theorem wY {ab:Bool}{b:Tm}{bs:aP Tm}{m:Nat}{ms:aP Nat}{x:Nat}{own:aP Nat}{L L':aP Lt}{rs:aP (aP Lr×Nat)}{p:Nat}(h:jz ab (b::bs) (m::ms) x own L p=some (rs,L')):∃r1 L1 rs',comp ab b (own++nms x m) L p=some (r1,L1)/\jz ab bs ms x own L1 (p+r1.length+2)=some (rs',L')/\rs=(r1,m)::rs':=by
 unfold jz at h;split at h
 ·cases h
 ·rename_i r1 L1 e1
  split at h
  ·cases h
  ·rename_i rs' L2 e2
   cases h;exact⟨r1,L1,rs',e1,e2,rfl⟩
structure In (n:Nat)(ns:List Str)(own:List Nat)(t:Tm):Prop where
 gt:GT ns.length t
 me:∀y,y∈own↔y<ns.length
 l4:ns.length+6*dep t<=150
 l6:own.length+6*dep t<=150
 dn:dep t<=n
 nd:ns.Nodup
theorem In.nm {n:Nat}{ns:aP Str}{own:aP Nat}{t:Tm}(i:In n ns own t):Ec ns own:=⟨i.nd,i.me⟩
theorem In.len {ab:Bool}{ns:aP Str}{own:aP Nat}{t:Tm}{n:Nat}(i:In n ns own t){L L':aP Lt}{r:aP Lr}{p:Nat}(h:comp ab t own L p=some (r,L')):L.length<=L'.length:=by
 obtain⟨N,e,_⟩:=gH (aW:=[]) (bg:=[]) i.gt h;rw[e,adV];exact ad9 _ _
theorem Ln {ns:aP Str}{own:aP Nat}{s:Str}(h:∀y,y∈own↔y<ns.length):gj ns own++[.str s]=gj (ns++[s]) (own++[ns.length]):=by
 rw[<-wR (ss:=[s]) λx hx=>(h x).mp hx];unfold gj;rw[aes,aes];show _=_++[V.str (ur (ns++[s]) ns.length)];rw[wU]
theorem WS.row {H:Hp}{wk lr ll:aj}{ab:Bool}{aY:aP Lr}{L:aP Lt}(w:WS H wk lr ll ab aY L){jQ:aP V}(h:H lr=some (.lst jQ)){p:aj}(hp:H p=none){o:HO}{r:Lr}(hv:Li lr ll (upd H p o) (.ref p) r):
  WS (upd (upd H p o) lr<|.lst (jQ++[.ref p])) wk lr ll ab (aY++[r]) L/\Kp lr ll H (upd (upd H p o) lr<|.lst (jQ++[.ref p])) :=
 ⟨(w.same<|bI hp o).QJ (bI hp o _ _ h) hv,(ig<|bI hp o).trans jJ⟩
def isLt:Tm->Prop
 |.lt _ _ _=>True
 |_=>False
def isIf:Tm->Prop
 |.lW _ _ _=>True
 |_=>False
def QK:Tm->Prop
 |.case _ _ _ _=>True
 |_=>False
inductive yq (p:Tm->Prop)(n:Nat)(vs:List V)(H:Hp)(Q:VK)(E_:XK):Prop where
 |mk (wk lo lr ll:aj) (v:V) (t:Tm) (ab:Bool) (aY:List Lr) (L:List Lt) (own:List Nat) (ns:List Str) (r:List Lr) (L':List Lt):vs=[.ref wk, .ref lo,v]->p t->jM H ns v t->In n ns own t->WS H wk lr ll ab aY L->H lo=some (.lst<|gj ns own)->lo≠lr->lo≠ll->comp ab t own L aY.length=some (r,L')->aY.length+r.length<=50000->L'.length<=50000->(∀H',Kp lr ll H H'->WS H' wk lr ll ab (aY++r) L'->Q .non H')->yq p n vs H Q E_
noncomputable def Ef:Nat->Sp
 |0=>λ_ _ _ _=>False
 |n+1=>yq (λ_=>True) n
theorem Ur:("v":Str)≠"n"/\("g":Str)≠"n"/\("g":Str)≠"v"/\("let":Str)≠"n"/\("let":Str)≠"v"/\("let":Str)≠"g"/\("fun":Str)≠"n"/\("fun":Str)≠"v"/\("fun":Str)≠"g"/\("fun":Str)≠"let"/\("fun":Str)≠"if"/\("if":Str)≠"n"/\("if":Str)≠"v"/\("if":Str)≠"g"/\("if":Str)≠"let":=by decide+kernel
theorem acY:∀k,k<=3->wordOf k≠"n"/\wordOf k≠"v"/\wordOf k≠"g"/\wordOf k≠"let"/\wordOf k≠"if"/\wordOf k≠"fun":=by decide+kernel
theorem w_call:("call":Str)≠"n"/\("call":Str)≠"v"/\("call":Str)≠"g"/\("call":Str)≠"let"/\("call":Str)≠"if"/\("call":Str)≠"fun":=by decide+kernel
theorem ql {n j:Nat}(h:j<n):SN n (j:Int)=some j:=by
 unfold SN;rw[afX (by omega),afX (by omega)];simp
section
abbrev xT:List Str:=["_law_work","_law_own","_law_term"]
abbrev Bg:aJ:=top 61
theorem Us:bZ xT xT (bQ Bg):={}
set_option maxHeartbeats 2000000 in
theorem Ut {n:Nat}(F:iz K "_law_let_rows" "_law_let_rows" Bg f fd)(h1:Has P w K mg aV (2*n) "_law_rows" xT (Ef n)):cP P w K mg aV jV (2*n+1) f fd xT (yq isLt n):=by
 refine F.ok Us λdF A aU s H vs Q E hr h=>?_;obtain⟨wk,lo,lr,ll,v,t,ab,aY,L,own,ns,r,L',rfl,pt,tl,ii,ws,rK,n1,n2,hc,lR,lL,q⟩:=h;have hu:=qD hr;refine⟨_,bJ (cg (dG h1 hr (by exact adZ _) rfl (bx (pv 0)<|bx (pv 1) (bx (bY (fG K) (pv 2) bK) bH))))
  (bJ (cg<|ji K (cO hu (pv 0) bV) (bx (eO<|bx bV bH) bH))
  (bJ (cg (dG h1 hr (by exact adZ _) rfl (bx (pv 0)<|bx (dN vJ (pv 1)<|gJ (bx (bY (fG K) (pv 2) bK) bH)) (bx (bY (fG K) (pv 2) bK) bH))))
  (bO<|cg (ji K (cO hu (pv 0) bV)<|bx (eO<|bx bV (bx bK bH)) bH)))),?_⟩
 cases tl with
 |n h=>exact pt.elim
 |v h=>exact pt.elim
 |g h=>exact pt.elim
 |fn h a=>exact pt.elim
 |lW h a b c=>exact pt.elim
 |op h a b=>exact pt.elim
 |call h a b=>exact pt.elim
 |block h h2 a=>exact pt.elim
 |field h a=>exact pt.elim
 |case h h2 a b=>exact pt.elim
 |@lt _ a sx u y ta tb ha ZF t1 t2=>
  obtain⟨r1,L1,r2,c1,c2,rfl⟩:=Jq hc;obtain⟨⟨b0,b1,b2⟩,me,l4,l6,dn,nd⟩:=ii;clear b0;simp only[dep]at l4 l6 dn;simp only[adV,adW]at lR;obtain⟨j,rfl⟩:∃j,n=j+1:=⟨n-1,by omega⟩;have i1:In j ns own ta:=⟨b1,me,by omega,by omega,by omega,nd⟩;have i2:In j (ns++[sx]) (own++[ns.length]) tb:=⟨by rw[adV];exact b2,by rw[adV];exact rZ me,by rw[adV];simp;omega,by rw[adV];simp;omega,by omega,ZF⟩;have lL1:=i2.len c2;refine dI λnx hn=>?_;refine⟨_,rfl,_,rfl,cV (a:=a) (j:=2) rfl ha rfl ⟨wk,lo,lr,ll,u,ta,ab,aY,L,own,ns,r1,L1,rfl,trivial,t1,i1,ws,rK,n1,n2,c1,by omega,by omega,λH1 k1 w1=>?_⟩⟩;have ha1:=ws.tps k1 _ _ ha;have t21:=t2.tps (ws.tps k1);have acZ:=k1 _ _ n1 n2 rK;obtain⟨cD,hwk,g1,_⟩:=w1.wk;obtain⟨Lp,hl1,ZJ⟩:=id w1.rw;have e1:=ZJ.1;rw[adV]at e1;refine hn _ _<|dI λnx hn=>?_;refine(dY rfl hwk g1 ⟨.inl ⟨rfl,_,dM.of hl1⟩,(dO 1),λp1 hp1=>?_⟩);obtain⟨w2,k2⟩:=w1.row hl1 hp1 (o:=.tup [.str "keep"]) (r:=.row .keep) ⟨p1,rfl,bA⟩;refine⟨lr,_, .ref p1,rfl,rfl,bI hp1 _ _ _ hl1,dB (by omega),?_⟩;revert w2 k2;generalize upd (upd H1 p1<|.tup [.str "keep"]) lr (.lst<|Lp++[.ref p1])=H2;intro w2 k2;have ha2:=w1.tps k2 _ _ ha1;have t22:=t21.tps (w1.tps k2);have ac0:=k2 _ _ n1 n2 acZ;refine hn _ _<|dI λnx hn=>?_;refine⟨_,rfl,_,rfl,cV (a:=a) (j:=1) rfl ha2 rfl ⟨(dO 1),λp3 hp3=>?_⟩⟩;have s3:=bI hp3 (.lst [.str sx]);refine⟨lo,p3,_,_,rfl,rfl,s3 _ _ ac0,bA,small (by rw[su];show _+1<=1000000;omega),λp4 Uu=>?_⟩;rw[Ln me];have s4:=bI Uu (.lst<|gj (ns++[sx]) (own++[ns.length]));have Jt:=s3.trans s4;have h4:(upd (upd H2 p3<|.lst [.str sx]) p4<|.lst (gj (ns++[sx])<|own++[ns.length])) p4=some (.lst<|gj (ns++[sx]) (own++[ns.length])):=bA;have np4:p4≠lr/\p4≠ll:=by
   obtain⟨jQ,qX,_⟩:=w2.rw;obtain⟨qK,hll,_⟩:=w2.lt;exact⟨cJ Uu<|s3 _ _ qX,cJ Uu<|s3 _ _ hll⟩
  revert Jt h4;generalize upd (upd H2 p3<|.lst [.str sx]) p4 (.lst<|gj (ns++[sx]) (own++[ns.length]))=H4;intro Jt h4;refine(cV (a:=a) (j:=3) rfl (Jt _ _ ha2) rfl ⟨wk,p4,lr,ll,y,tb,ab,aY++r1++[.row .keep],L1,own++[ns.length],ns++[sx],r2,L',rfl,trivial,t22.same Jt,i2,w2.same Jt,h4,np4.1,np4.2,by simp only[adV,adW];exact c2,by simp only[adV,adW];omega,lL,λH5 k5 w5=>?_⟩);obtain⟨kv5,ac1,g5,_⟩:=w5.wk;obtain⟨rv5,ZC,al5⟩:=id w5.rw;have e5:=al5.1;simp only[adV,adW]at e5;refine hn _ _ ?_;refine(dY rfl ac1 g5 ⟨.inl ⟨rfl,_,dM.of ZC⟩,(dO 2),λp6 hp6=>?_⟩);obtain⟨w6,k6⟩:=w5.row ZC hp6 (o:=.tup [.str "drop", .int 1]) (r:=.row<|.drop 1) ⟨p6,rfl,bA⟩;refine⟨lr,_, .ref p6,rfl,rfl,bI hp6 _ _ _ ZC,dB (by omega),?_⟩;refine q _ (k1.trans<|k2.trans ((ig Jt).trans<|k5.trans k6)) ?_;have e6:aY++(r1++[.row .keep]++r2++[.row (.drop 1)])=aY++r1++[.row .keep]++r2++[.row (.drop 1)]:=by simp
  rw[e6];exact w6
abbrev u6:aJ:=top 60
noncomputable abbrev nTs:List Str:=["_law_work","_law_own","_law_term","_law_test","_law_over"]
theorem wZ:bZ nTs xT (bQ u6):={}
theorem sE (a:aP Lr)(x y:Lr)(b:aP Lr):(a++[x]++b).set a.length y=a++[y]++b:=by
 rw[ad8,List.set_append_right _ _<|adZ _,afs];simp
set_option maxHeartbeats 4000000 in
theorem QL {n:Nat}(F:iz K "_law_test_rows" "_law_test_rows" u6 f fd)(ml:mg "len"=none)(h1:Has P w K mg aV (2*n) "_law_rows" xT (Ef n)):cP P w K mg aV jV (2*n+1) f fd xT (yq isIf n):=by
 refine F.ok wZ λdF A aU s H vs Q E hr h=>?_;obtain⟨wk,lo,lr,ll,v,t,ab,aY,L,own,ns,r,L',rfl,pt,tl,ii,ws,rK,n1,n2,hc,lR,lL,q⟩:=h;have hu:=qD hr;refine⟨_,bJ (cg (dG h1 hr (by exact adZ _) rfl (bx (pv 0)<|bx (pv 1) (bx (bY (fG K) (pv 2) bK) bH))))
  (bJ (iy 3 wZ.nd<|cu (mV K) rfl ml af6 (bx (cO hu (pv 0) bV) bH))
  (bJ (cg<|ji K (cO hu (pv 0) bV) (bx vB bH))
  (bJ (cg (dG h1 hr (by exact adZ _) rfl (bx (pv 0)<|bx (pv 1) (bx (bY (fG K) (pv 2) bK) bH))))
  (bJ (iy 4 wZ.nd<|cu (mV K) rfl ml af6 (bx (cO hu (pv 0) bV) bH))
  (bJ (cg<|ji K (cO hu (pv 0) bV) (bx vB bH))
  (bJ (qO (eO<|bx bV (bx (cu (mV K) rfl ml af6 (bx (cO hu (pv 0) bV) bH)) bH))<|sX (cO hu (pv 0) bV) (pv 3) set_list)
  (bJ (cg (dG h1 hr (by exact adZ _) rfl (bx (pv 0)<|bx (pv 1) (bx (bY (fG K) (pv 2) bK) bH))))
  (bO<|qO (eO<|bx bV (bx (cu (mV K) rfl ml af6 (bx (cO hu (pv 0) bV) bH)) bH)) (sX (cO hu (pv 0) bV) (pv 4) set_list))))))))),?_⟩
 cases tl with
 |n h=>exact pt.elim
 |v h=>exact pt.elim
 |g h=>exact pt.elim
 |fn h a=>exact pt.elim
 |lt h a b=>exact pt.elim
 |op h a b=>exact pt.elim
 |call h a b=>exact pt.elim
 |block h h2 a=>exact pt.elim
 |field h a=>exact pt.elim
 |case h h2 a b=>exact pt.elim
 |@lW _ a u y z tc ta tb ha t1 t2 t3=>
  obtain⟨r1,L1,r2,L2,r3,c1,c2,c3,rfl⟩:=Ed hc;obtain⟨⟨b0,b1,b2⟩,me,l4,l6,dn,nd⟩:=ii;simp only[dep]at l4 l6 dn;simp only[adV,adW]at lR;obtain⟨j,rfl⟩:∃j,n=j+1:=⟨n-1,by omega⟩;have i1:In j ns own tc:=⟨b0,me,by omega,by omega,by omega,nd⟩;have i2:In j ns own ta:=⟨b1,me,by omega,by omega,by omega,nd⟩;have i3:In j ns own tb:=⟨b2,me,by omega,by omega,by omega,nd⟩;have lL2:=i3.len c3;have lL1:=i2.len c2;refine dI λnx hn=>?_;refine⟨_,rfl,_,rfl,cV (a:=a) (j:=1) rfl ha rfl ⟨wk,lo,lr,ll,u,tc,ab,aY,L,own,ns,r1,L1,rfl,trivial,t1,i1,ws,rK,n1,n2,c1,by omega,by omega,λH1 k1 w1=>?_⟩⟩;obtain⟨kv1,hk1,vk1,_⟩:=w1.wk;obtain⟨Lp,hl1,ZJ⟩:=id w1.rw;have e1:=ZJ.1;rw[adV]at e1;refine hn _ _<|dI λnx hn=>?_;refine(dY rfl hk1 vk1 ⟨lr,_,rfl, .inl<|dM.of hl1,?_⟩);rw[e1];refine hn _ _<|dI λnx hn=>?_;refine(dY rfl hk1 vk1 ⟨.inl ⟨rfl,_,dM.of hl1⟩,lr,_, .non,rfl,rfl,hl1,dB (by omega),?_⟩);have w2:=w1.QJ hl1 (v:=.non) (r:=.hole) rfl;have k2:Kp lr ll H1 (upd H1 lr<|.lst (Lp++[.non])):=jJ;revert w2 k2;generalize upd H1 lr (.lst<|Lp++[.non])=H2;intro w2 k2;have Lq:=k1.trans k2;refine hn _ _<|dI λnx hn=>?_;refine⟨_,rfl,_,rfl,cV (a:=a) (j:=2) rfl (ws.tps Lq _ _ ha) rfl ⟨wk,lo,lr,ll,y,ta,ab,aY++r1++[.hole],L1,own,ns,r2,L2,rfl,trivial,t2.tps<|ws.tps Lq,i2,w2,Lq _ _ n1 n2 rK,n1,n2,by simp only[adV,adW];exact c2,by simp only[adV,adW];omega,by omega,λH3 k3 w3=>?_⟩⟩;have Ls:=Lq.trans k3;obtain⟨kv3,hk3,vk3,_⟩:=w3.wk;obtain⟨rv3,hl3,al3⟩:=id w3.rw;have e3:=al3.1;simp only[adV,adW]at e3;refine hn _ _<|dI λnx hn=>?_;refine(dY rfl hk3 vk3 ⟨lr,_,rfl, .inl<|dM.of hl3,?_⟩);rw[e3];refine hn _ _<|dI λnx hn=>?_;refine(dY rfl hk3 vk3 ⟨.inl ⟨rfl,_,dM.of hl3⟩,lr,_, .non,rfl,rfl,hl3,dB (by omega),?_⟩);have w4:=w3.QJ hl3 (v:=.non) (r:=.hole) rfl;have k4:Kp lr ll H3 (upd H3 lr<|.lst (rv3++[.non])):=jJ;revert w4 k4;generalize upd H3 lr (.lst<|rv3++[.non])=H4;intro w4 k4;obtain⟨kv4,hk4,vk4,_⟩:=w4.wk;obtain⟨rv4,Zy,al4⟩:=id w4.rw;have e4:=al4.1;simp only[adV,adW]at e4;refine hn _ _<|dI λnx hn=>?_;refine(dY rfl hk4 vk4 ⟨lr,_,rfl, .inl<|dM.of Zy,(dO 2),λp5 hp5=>?_⟩);rw[e4];have s5:=bI hp5 (.tup [.str "unless", .int ((aY.length+r1.length+1+r2.length+1:Nat):Int)]);refine(dY rfl (s5 _ _ hk4) vk4 ⟨_,rfl,lr,_,_,aY.length+r1.length,rfl,rfl,s5 _ _ Zy,ql (by rw[e4];omega),?_⟩);have w5:=(w4.same s5).Uo (s5 _ _ Zy) (v:=.ref p5) (r:=.row<|.Ao (aY.length+r1.length+1+r2.length+1)) (aY.length+r1.length) ⟨p5,rfl,bA⟩;have q5:=sE (aY++r1) .hole (.row<|.Ao (aY.length+r1.length+1+r2.length+1)) (r2++[.hole]);rw[adV]at q5;rw[show aY++r1++[Lr.hole]++r2++[Lr.hole]=aY++r1++[Lr.hole]++(r2++[Lr.hole]) by simp,q5]at w5;have k5:Kp lr ll H4 (upd (upd H4 p5<|.tup [.str "unless", .int ((aY.length+r1.length+1+r2.length+1:Nat):Int)]) lr<|.lst (rv4.set (aY.length+r1.length)<|.ref p5)):=(ig s5).trans jJ;revert w5 k5;generalize upd (upd H4 p5<|.tup [.str "unless", .int ((aY.length+r1.length+1+r2.length+1:Nat):Int)]) lr (.lst<|rv4.set (aY.length+r1.length) (.ref p5))=H5;intro w5 k5;have RW:=Ls.trans (k4.trans k5);refine hn _ _<|dI λnx hn=>?_;refine⟨_,rfl,_,rfl,cV (a:=a) (j:=3) rfl (ws.tps RW _ _ ha) rfl ⟨wk,lo,lr,ll,z,tb,ab,_,L2,own,ns,r3,L',rfl,trivial,t3.tps<|ws.tps RW,i3,w5,RW _ _ n1 n2 rK,n1,n2,by simp only[adV,adW,<-ael];exact c3,by simp only[adV,adW];omega,lL,λH6 k6 w6=>?_⟩⟩;obtain⟨kv6,ZK,ZM,_⟩:=w6.wk;obtain⟨rv6,tY,Uv⟩:=id w6.rw;have e6:=Uv.1;simp only[adV,adW,<-ael]at e6;refine hn _ _ ?_;refine(dY rfl ZK ZM ⟨lr,_,rfl, .inl<|dM.of tY,(dO 2),λp7 Lj=>?_⟩);rw[e6];have s7:=bI Lj (.tup [.str "jump", .int ((aY.length+r1.length+1+r2.length+1+r3.length:Nat):Int)]);refine(dY rfl (s7 _ _ ZK) ZM ⟨_,rfl,lr,_,_,aY.length+r1.length+1+r2.length,rfl,rfl,s7 _ _ tY,ql (by rw[e6];exact ad9 _ _),?_⟩);have w7:=(w6.same s7).Uo (s7 _ _ tY) (v:=.ref p7) (r:=.row<|.jump (aY.length+r1.length+1+r2.length+1+r3.length)) (aY.length+r1.length+1+r2.length) ⟨p7,rfl,bA⟩;have q7:=sE (aY++r1++[.row (.Ao<|aY.length+r1.length+1+r2.length+1)]++r2) .hole (.row<|.jump (aY.length+r1.length+1+r2.length+1+r3.length)) r3;simp only[adV,adW]at q7;have k7:Kp lr ll H6 (upd (upd H6 p7<|.tup [.str "jump", .int ((aY.length+r1.length+1+r2.length+1+r3.length:Nat):Int)]) lr<|.lst (rv6.set (aY.length+r1.length+1+r2.length)<|.ref p7)):=(ig s7).trans jJ;refine q _ (RW.trans<|k6.trans k7) ?_;rw[show aY++r1++[.row (.Ao<|aY.length+r1.length+1+r2.length+1)]++(r2++[Lr.hole])++r3=aY++r1++[.row (.Ao<|aY.length+r1.length+1+r2.length+1)]++r2++[Lr.hole]++r3 by simp,q7]at w7;have e8:aY++(r1++[.row (.Ao<|aY.length+r1.length+1+r2.length+1)]++r2++[.row (.jump<|aY.length+r1.length+1+r2.length+1+r3.length)]++r3)=aY++r1++[.row (.Ao<|aY.length+r1.length+1+r2.length+1)]++r2++[.row (.jump<|aY.length+r1.length+1+r2.length+1+r3.length)]++r3:=by simp
  rw[e8];exact w7
end
noncomputable def oR:List (List Lr×Nat)->List Lr
 |[]=>[]
 |a::as=>a.1++[.row (.drop a.2)]++[.hole]++oR as
noncomputable def uL:List (List Lr×Nat)->Nat->List Nat
 |[],_=>[]
 |a::as,p=>(p+a.1.length+1)::uL as (p+a.1.length+2)
theorem sG:∀{as:List (List Lr×Nat)},(oR as).length=cG as
 |[]=>rfl
 |a::as=>by unfold oR cG;simp only[adV,adW,sG]
theorem sH:∀{as:List (List Lr×Nat)} {p:Nat},(uL as p).length=as.length
 |[],_=>rfl
 |a::as,p=>by unfold uL;simp[sH]
theorem uw:∀{as:List (List Lr×Nat)} {a:List Lr×Nat},cG (as++[a])=cG as+a.1.length+2
 |[],a=>by simp[cG]
 |b::as,a=>by rw[aeH];unfold cG;rw[uw];omega
theorem zf:∀{as:List (List Lr×Nat)} {a:List Lr×Nat} {p:Nat},ju (as++[a]) p=ju as p++[p+cG as]
 |[],a,p=>by simp[ju,cG]
 |b::as,a,p=>by show p::ju (as++[a]) _=p::ju as _++[p+(b.1.length+2+cG as)];rw[zf,aeH,show p+b.1.length+2+cG as=p+(b.1.length+2+cG as) by omega]
theorem Eh:∀{as:List (List Lr×Nat)} {a:List Lr×Nat} {p:Nat},uL (as++[a]) p=uL as p++[p+cG as+a.1.length+1]
 |[],a,p=>by simp[uL,cG]
 |b::as,a,p=>by show(p+b.1.length+1)::uL (as++[a]) _=(p+b.1.length+1)::uL as _++[p+(b.1.length+2+cG as)+a.1.length+1];rw[Eh,aeH,show p+b.1.length+2+cG as=p+(b.1.length+2+cG as) by omega]
theorem zj:∀{as:List (List Lr×Nat)} {a:List Lr×Nat},oR (as++[a])=oR as++a.1++[.row (.drop a.2)]++[.hole]
 |[],a=>by simp[oR]
 |b::as,a=>by rw[aeH];unfold oR;rw[zj];simp
theorem sI {q:Nat}:∀{as:List (List Lr×Nat)} {a:List Lr×Nat},d9 (as++[a]) q=d9 as q++a.1++[.row (.drop a.2)]++[.row (.jump q)]
 |[],a=>by simp[d9]
 |b::as,a=>by rw[aeH];unfold d9;rw[sI];simp
theorem QM:∀{as:List (List Lr×Nat)} {p i:Nat} {a:List Lr×Nat},as[i]?=some a->(uL as p)[i]?=some (p+cG (as.take i)+a.1.length+1)
 |[],_,_,_,h=>by simp at h
 |b::as,p,0,a,h=>by simp at h;subst h;simp[uL,cG]
 |b::as,p,i+1,a,h=>by
  have:=QM (p:=p+b.1.length+2) (i:=i) (a:=a) (as:=as) (by simpa using h);unfold uL;rw[List.getElem?_cons_succ,this,List.take_succ_cons];show some (p+b.1.length+2+cG (as.take i)+a.1.length+1)=some (p+(b.1.length+2+cG (as.take i))+a.1.length+1);rw[show p+b.1.length+2+cG (as.take i)=p+(b.1.length+2+cG (as.take i)) by omega]
theorem Lw {ns ss:aP Str}{own:aP Nat}(h:∀y∈own,y<ns.length):gj ns own++ss.map V.str=gj (ns++ss) (own++nms ns.length ss.length):=by
 rw[<-wR (ss:=ss) h,<-QH (ns:=ns) (ss:=ss)];unfold gj;rw[aes,aes]
section
theorem nP {js:aP Nat}:(dj js).length=js.length:=by unfold dj;rw[aeb]
theorem xg {js:aP Nat}{j:Nat}:dj js++[V.int (j:Int)]=dj (js++[j]):=by unfold dj;rw[aes];rfl
theorem Ei {lr ll lf:aj}{H H':Hp}{o:HO}(k:Kp lr ll H H')(h:H lf=none):Kp lr ll H (upd H' lf o):=λb u n m e=>by
 rw[bR (bU e h)];exact k b u n m e
abbrev u9:aJ:=top 59
noncomputable abbrev nCr:List Str:=["_law_work","_law_own","_law_term","_law_spot","_law_firsts","_law_jumps","_law_names","_law_body","_law_jump"]
theorem lO:bZ nCr xT (bQ u9):={}
inductive CrI (a wk lo lr ll lf lj:aj)(ab:Bool)(rows0:List Lr)(p0 x:Nat)(own:List Nat)(bs:List Tm)(ms:List Nat)(rs:List (List Lr×Nat))(L':List Lt)(H:Hp)(i:Nat)(U:L2.St)(H':Hp):Prop where
 |mk (o6 o7:Option V) (as rs':List (List Lr×Nat)) (L:List Lt):U=[some (.ref wk),some<|.ref lo,some<|.ref a,some<|.int ((p0-1:Nat):Int),some<|.ref lf,some<|.ref lj,o6,o7,none]->as.length=i->rs=as++rs'->jz ab (bs.drop i) (ms.drop i) x own L (p0+cG as)=some (rs',L')->
  Kp lr ll H H'->WS H' wk lr ll ab (rows0++oR as) L->H' lf=some (.lst<|dj (ju as p0))->H' lj=some (.lst<|dj (uL as p0))->CrI a wk lo lr ll lf lj ab rows0 p0 x own bs ms rs L' H i U H'
inductive CrJ (a wk lo lr ll lf lj:aj)(ab:Bool)(rows0:List Lr)(p0 q:Nat)(rs:List (List Lr×Nat))(L':List Lt)(H:Hp)(i:Nat)(U:L2.St)(H':Hp):Prop where
 |mk (o6 o7 o8:Option V):U=[some (.ref wk),some<|.ref lo,some<|.ref a,some<|.int ((p0-1:Nat):Int),some<|.ref lf,some<|.ref lj,o6,o7,o8]->
  Kp lr ll H H'->WS H' wk lr ll ab (rows0++d9 (rs.take i) q++oR (rs.drop i)) L'->H' lf=some (.lst<|dj (ju rs p0))->H' lj=some (.lst<|dj (uL rs p0))->CrJ a wk lo lr ll lf lj ab rows0 p0 q rs L' H i U H'
theorem qY:∀{as bs:List (List Lr×Nat)},cG (as++bs)=cG as+cG bs
 |[],_=>by simp[cG]
 |b::as,bs=>by show b.1.length+2+cG (as++bs)=b.1.length+2+cG as+cG bs;rw[qY,<-ael]
theorem zm:∀{as:List (List Lr×Nat)},as.length<=cG as
 |[]=>adZ _
 |b::as=>by have:=zm (as:=as);show as.length+1<=b.1.length+2+cG as;omega
theorem abr {ab:Bool}{bs:aP Tm}{ms:aP Nat}{x:Nat}{own:aP Nat}{L L':aP Lt}{p:Nat}{rs:aP (aP Lr×Nat)}(g:DR x bs ms)(h:jz ab bs ms x own L p=some (rs,L')):L.length<=L'.length:=by
 obtain⟨N,e,_⟩:=wM (aW:=[]) (bg:=[]) g h;rw[e,adV];exact ad9 _ _
theorem Ej {m:Nat}:∀{bs:List Tm} {ms:List Nat} (i:Nat),DR m bs ms->DR m (bs.drop i) (ms.drop i)
 |_,_,0,h=>h
 |[],ms,i+1,h=>by unfold DR at h;subst h;simp[DR]
 |b::bs,ms,i+1,h=>by
  unfold DR at h;obtain⟨k,Aw,rfl,_,_,g⟩:=h;exact Ej i g
theorem zp {ab:Bool}{ms:aP Nat}{x:Nat}{own:aP Nat}{L L':aP Lt}{p:Nat}{rs:aP (aP Lr×Nat)}(h:jz ab [] ms x own L p=some (rs,L')):rs=[]/\L'=L:=by
 unfold jz at h;cases h;exact⟨rfl,rfl⟩
set_option maxHeartbeats 8000000 in
theorem QS {n:Nat}(F:iz K "_law_case_rows" "_law_case_rows" u9 f fd)(ml:mg "len"=none)(mL:mg "list"=none)(mt:mg "tuple"=none)(h1:Has P w K mg aV (2*n) "_law_rows" xT (Ef n)):cP P w K mg aV jV (2*n+1) f fd xT (yq QK n):=by
 refine F.ok lO λdF A aU s H vs Q E hr h=>?_;obtain⟨wk,lo,lr,ll,v,t,ab,aY,L,own,ns,r,L',rfl,pt,tl,ii,ws,rK,n1,n2,hc,lR,lL,q⟩:=h;have hu:=qD hr;have hz:=sizeLine_eq;refine⟨_,bJ (cg (dG h1 hr (by exact adZ _) rfl (bx (pv 0)<|bx (pv 1) (bx (bY (fG K) (pv 2) bK) bH))))
  (bJ (iy 3 lO.nd<|cu (mV K) rfl ml af6 (bx (cO hu (pv 0) bV) bH))
  (bJ (cg<|ji K (cO hu (pv 0) bV) (bx vB bH))
  (bJ (iy 4 lO.nd<|gJ bH)
  (bJ (iy 5 lO.nd<|gJ bH)
  (bJ (oY PassesOwn.never rfl (piT K<|bY (fG K) (pv 2) bK) (pgT K (n:=2) rfl (jT (fY (i:=6) lO.nd rfl (Or.inl rfl))<|jT (fY (i:=7) lO.nd rfl (Or.inl rfl)) uN))
   (bJ (cg<|ji K (pv 4) (bx (cu (mV K) rfl ml af6 (bx (cO hu (pv 0) bV) bH)) bH))
   (bJ (cg (dG h1 hr (by exact adZ _) rfl (bx (pv 0)<|bx (dN vJ (pv 1)<|eU (W9 K) rfl mL boot_list (bx (pv 6) bH)) (bx (pv 7) bH))))
   (bJ (cg<|ji K (cO hu (pv 0) bV) (bx (eO<|bx bV (bx (cu (mV K) rfl ml af6 (bx (pv 6) bH)) bH)) bH))
   (bJ (cg<|ji K (pv 5) (bx (cu (mV K) rfl ml af6 (bx (cO hu (pv 0) bV) bH)) bH))
   (bO<|cg (ji K (cO hu (pv 0) bV)<|bx vB bH)))))))
  (bJ (oY PassesOwn.never rfl (piL K<|pv 5) (fY (i:=8) lO.nd rfl (Or.inl rfl))
   (bO<|qO (eO<|bx bV (bx (cu (mV K) rfl ml af6 (bx (cO hu (pv 0) bV) bH)) bH)) (sX (cO hu (pv 0) bV) (pv 8) set_list)))
  (bO<|qO (eO<|bx bV (bx (eU (Tp K) rfl mt boot_tuple (bx (pv 4) bH)) bH)) (sX (cO hu (pv 0) bV) (pv 3) set_list)))))))),?_⟩
 cases tl with
 |n h=>exact pt.elim
 |v h=>exact pt.elim
 |g h=>exact pt.elim
 |fn h a=>exact pt.elim
 |lt h a b=>exact pt.elim
 |lW h a b c=>exact pt.elim
 |op h a b=>exact pt.elim
 |call h a b=>exact pt.elim
 |block h h2 a=>exact pt.elim
 |field h a=>exact pt.elim
 |@case _ a t v b ms ts bs ha ht t1 t2=>
  obtain⟨r1,L1,rs,c1,c2,rfl⟩:=zc hc;obtain⟨⟨b0,b1,b2⟩,me,l4,l6,dn,nd⟩:=ii;clear b0;simp only[dep]at l4 l6 dn;simp only[adV,adW,jy]at lR;obtain⟨j,rfl⟩:∃j,n=j+1:=⟨n-1,by omega⟩;have d1:dep b<=max (dep b) (jm bs):=aeU _ _;have d2:jm bs<=max (dep b) (jm bs):=aeS _ _;generalize max (dep b) (jm bs)=D at l4 l6 dn d1 d2;have i1:In j ns own b:=⟨b1,me,by omega,by omega,by omega,nd⟩;have gl:=DR.len b2;obtain⟨lt1,lt2⟩:=t2.len;have hA:=abr b2 c2;refine dI λnx hn=>?_;refine⟨_,rfl,_,rfl,cV (a:=a) (j:=1) rfl ha rfl ⟨wk,lo,lr,ll,v,b,ab,aY,L,own,ns,r1,L1,rfl,trivial,t1,i1,ws,rK,n1,n2,c1,by omega,by omega,λH1 k1 w1=>?_⟩⟩;obtain⟨kv1,hk1,vk1,_⟩:=w1.wk;obtain⟨Lp,hl1,ZJ⟩:=id w1.rw;have e1:=ZJ.1;rw[adV]at e1;refine hn _ _<|dI λnx hn=>?_;refine(dY rfl hk1 vk1 ⟨lr,_,rfl, .inl<|dM.of hl1,?_⟩);rw[e1];refine hn _ _<|dI λnx hn=>?_;refine(dY rfl hk1 vk1 ⟨.inl ⟨rfl,_,dM.of hl1⟩,lr,_, .non,rfl,rfl,hl1,dB (by omega),?_⟩);have w2:=w1.QJ hl1 (v:=.non) (r:=.hole) rfl;have k2:Kp lr ll H1 (upd H1 lr<|.lst (Lp++[.non])):=jJ;revert w2 k2;generalize upd H1 lr (.lst<|Lp++[.non])=H2;intro w2 k2;have Lq:=k1.trans k2;have hp0:∃p0,p0=aY.length+r1.length+1:=⟨_,rfl⟩;obtain⟨p0,hp0⟩:=hp0;have e0:aY.length+r1.length=p0-1:=by omega
  have lr0:(aY++r1++[Lr.hole]).length=p0:=by simp only[adV,adW];exact hp0.symm
  rw[<-hp0]at c2;rw[e0];refine hn _ _<|dI λnx hn=>?_;refine⟨(dO 0),λlf hlf=>?_⟩;have s3:=bI hlf (.lst []);have g3:(upd H2 lf<|.lst []) lf=some (.lst<|dj []):=bA;have Xe:lf≠lr/\lf≠ll:=by
   obtain⟨jQ,qX,_⟩:=w2.rw;obtain⟨qK,hll,_⟩:=w2.lt;exact⟨cJ hlf qX,cJ hlf hll⟩
  revert s3 g3;generalize upd H2 lf (.lst [])=H3;intro s3 g3;refine hn _ _<|dI λnx hn=>?_;refine⟨(dO 0),λlj hlj=>?_⟩;have s4:=bI hlj (.lst []);have g4:(upd H3 lj<|.lst []) lj=some (.lst<|dj []):=bA;have Xf:lj≠lr/\lj≠ll:=by
   obtain⟨jQ,qX,_⟩:=(w2.same s3).rw;obtain⟨qK,hll,_⟩:=(w2.same s3).lt;exact⟨cJ hlj qX,cJ hlj hll⟩
  have nfj:lf≠lj:=af2 (cJ hlj g3);have ac2:H2 lj=none:=s3.free hlj;have g34:=s4 _ _ g3;have Jt:=s3.trans s4;revert g4 g34 Jt;generalize upd H3 lj (.lst [])=H4;intro g4 g34 Jt;have w4:=w2.same Jt;have ZP:BR H H4:=ws.tps (Lq.trans<|ig Jt);refine hn _ _<|dI λnx hn=>?_;refine(cV (a:=a) (j:=2) rfl (ZP _ _ ha) rfl ⟨t,rfl,⟨_,iW.of<|ZP _ _ ht⟩,?_⟩);refine HF (xs:=ts) (CrI a wk lo lr ll lf lj ab (aY++r1++[Lr.hole]) p0 ns.length own bs ms rs L' H2) ⟨none,none,[],rs,L1,rfl,rfl,rfl,c2,ig Jt,by simpa[oR] using w4,g34,g4⟩ ?_ ?_ ?_
  ·rintro i U H5 hi ⟨o6,o7,as,rs',L5,rfl,las,ers,c5,k5,w5,f5,j5⟩
   exact iW.of<|ws.tps (Lq.trans k5) _ _ ht
  ·rintro i y U H5 hy ⟨o6,o7,as,rs',L5,rfl,las,ers,c5,k5,w5,f5,j5⟩
   have li:i<bs.length:=by have:=(aga hy).1;exact aeo this lt1
   have Uw:=ws.tps (Lq.trans k5);obtain⟨pa,pq,pv,ss,em,ev,hpa,hpq,nds,tpv⟩:=t2.get (adX li);obtain⟨mi,hmi⟩:∃m,ss.length=m:=⟨_,rfl⟩;rw[hmi]at em;rw[ev]at hy;cases hy;obtain⟨k',ek,lk,gi⟩:=QD b2 (adX li);rw[em]at ek;cases ek;have lmi:i<ms.length:=by exact aeo li lt2.symm
   have emi:ms[i]=mi:=by rw[adX lmi]at em;exact af5 em
   rw[aeC li,aeC lmi,emi]at c5;obtain⟨ra,L6,rs6,ca,cb,abt⟩:=wY c5;have hAb:=abr (Ej (i+1) b2) cb;have di:dep bs[i]<=D:=ad2 (qj<|adX li) d2;have QT:(ns++ss).length=ns.length+mi:=by rw[adV,hmi]
   have ii2:In j (ns++ss) (own++nms ns.length mi) bs[i]:=⟨by rw[QT];exact gi,by rw[QT];exact Ji me,by rw[QT];omega,by rw[adV,rY];omega,by omega,nds⟩;have hAa:=ii2.len ca;have adR:=zm (as:=as);have la:p0+cG as+ra.length+2<=50000:=by
    have:cG rs=cG as+cG rs':=by rw[ers,qY]
    rw[abt]at this;have z:cG ((ra,mi)::rs6)=ra.length+2+cG rs6:=rfl;omega
   refine⟨pa,_,rfl,iW.of<|Uw _ _ hpa,rfl,_,_,rfl,_,_,rfl,rfl,?_⟩;refine dI λnx hn=>?_;obtain⟨kv5,hk5,vk5,_⟩:=w5.wk;obtain⟨rv5,ZC,al5⟩:=id w5.rw;have e5:=al5.1;rw[adV,lr0,sG]at e5;refine⟨_,rfl, .inl ⟨rfl,_,dM.of f5⟩,dY rfl hk5 vk5 ⟨lr,_,rfl, .inl<|dM.of ZC,?_⟩⟩;rw[e5];refine⟨lf,_,_,rfl,rfl,f5,dB (by rw[nP,wI];omega),?_⟩;rw[xg,show ju as p0++[p0+cG as]=ju (as++[(ra,mi)]) p0 from(zf (a:=(ra,mi))).symm];have w6:=w5.aside (ys:=ju (as++[(ra,mi)]) p0) f5 Xe.1 Xe.2;have f6:(upd H5 lf<|.lst (dj<|ju (as++[(ra,mi)]) p0)) lf=some (.lst<|dj (ju (as++[(ra,mi)]) p0)):=bA;have j6:(upd H5 lf<|.lst (dj<|ju (as++[(ra,mi)]) p0)) lj=some (.lst<|dj (uL as p0)):=by rw[bR (af2 nfj)];exact j5
   have k6:Kp lr ll H2 (upd H5 lf<|.lst (dj<|ju (as++[(ra,mi)]) p0)):=Ei k5 hlf;revert w6 f6 j6 k6;generalize upd H5 lf (.lst<|dj (ju (as++[(ra,mi)]) p0))=H6;intro w6 f6 j6 k6;have tp6:=ws.tps (Lq.trans k6);refine hn _ _<|dI λnx hn=>?_;refine⟨_,rfl,_,rfl,_,rfl,pq,_,rfl, .inr<|iW.of (tp6 _ _ hpq),λl7 hl7=>?_⟩;have s7:=bI hl7 (.lst<|ss.map V.str);refine⟨lo,l7,_,_,rfl,rfl,s7 _ _<|k6 _ _ n1 n2 (Lq _ _ n1 n2 rK),bA,small (by rw[su,aeb,hmi];omega),λl8 hl8=>?_⟩;have e8:gj ns own++ss.map V.str=gj (ns++ss) (own++nms ns.length mi):=by rw[<-hmi];exact Lw λy hy=>(me y).mp hy
   rw[e8];have s8:=s7.trans (bI hl8<|.lst (gj (ns++ss)<|own++nms ns.length mi));have h8:(upd (upd H6 l7<|.lst (ss.map V.str)) l8<|.lst (gj (ns++ss)<|own++nms ns.length mi)) l8=some (.lst<|gj (ns++ss) (own++nms ns.length mi)):=bA;have nl8:l8≠lr/\l8≠ll:=by
    obtain⟨jQ,qX,_⟩:=w6.rw;obtain⟨qK,hll,_⟩:=w6.lt;exact⟨cJ hl8<|s7 _ _ qX,cJ hl8<|s7 _ _ hll⟩
   revert s8 h8;generalize upd (upd H6 l7<|.lst (ss.map V.str)) l8 (.lst<|gj (ns++ss) (own++nms ns.length mi))=H8;intro s8 h8;have w8:=w6.same s8;have k8:Kp lr ll H2 H8:=k6.trans (ig s8);have lr8:(aY++r1++[Lr.hole]++oR as).length=p0+cG as:=by rw[adV,lr0,sG]
   refine⟨_,rfl,wk,l8,lr,ll,pv,bs[i],ab,aY++r1++[Lr.hole]++oR as,L5,own++nms ns.length mi,ns++ss,ra,L6,rfl,trivial,tpv.tps<|ws.tps (Lq.trans k8),ii2,w8,h8,nl8.1,nl8.2,by rw[lr8];exact ca,by rw[lr8];exact ad2 (ad9 _ _) la,by omega,λH9 k9 w9=>?_⟩;have f9:=k9 _ _ Xe.1 Xe.2 (s8 _ _ f6);have j9:=k9 _ _ Xf.1 Xf.2 (s8 _ _ j6);have k29:=k8.trans k9;obtain⟨kv9,hk9,vk9,_⟩:=w9.wk;obtain⟨rv9,hl9,al9⟩:=id w9.rw;have e9:=al9.1;rw[adV,lr8]at e9;have tp9:=ws.tps (Lq.trans k29);refine hn _ _<|dI λnx hn=>?_;refine(dY rfl hk9 vk9 ⟨.inl ⟨rfl,_,dM.of hl9⟩,_,rfl,pq,_,rfl, .inr<|iW.of (tp9 _ _ hpq),(dO 2),λpd hpd=>?_⟩);rw[aeb,hmi];obtain⟨w10,k10⟩:=w9.row hl9 hpd (o:=.tup [.str "drop", .int (mi:Int)]) (r:=.row<|.drop mi) ⟨pd,rfl,bA⟩;refine⟨lr,_, .ref pd,rfl,rfl,bI hpd _ _ _ hl9,dB (by omega),?_⟩;revert w10 k10;generalize upd (upd H9 pd<|.tup [.str "drop", .int (mi:Int)]) lr (.lst<|rv9++[.ref pd])=H10;intro w10 k10;have f10:=k10 _ _ Xe.1 Xe.2 f9;have j10:=k10 _ _ Xf.1 Xf.2 j9;obtain⟨adS,ac3,ac4,_⟩:=w10.wk;obtain⟨adT,ac5,ac6⟩:=id w10.rw;have e10:=ac6.1;rw[adV,adV,lr8,adW]at e10;refine hn _ _<|dI λnx hn=>?_;refine⟨_,rfl, .inl ⟨rfl,_,dM.of j10⟩,dY rfl ac3 ac4 ⟨lr,_,rfl, .inl<|dM.of ac5,?_⟩⟩;rw[e10];refine⟨lj,_,_,rfl,rfl,j10,dB (by rw[nP,sH];omega),?_⟩;rw[xg,show uL as p0++[p0+cG as+ra.length+1]=uL (as++[(ra,mi)]) p0 from(Eh (a:=(ra,mi))).symm];have w11:=w10.aside (ys:=uL (as++[(ra,mi)]) p0) j10 Xf.1 Xf.2;have j11:(upd H10 lj<|.lst (dj<|uL (as++[(ra,mi)]) p0)) lj=some (.lst<|dj (uL (as++[(ra,mi)]) p0)):=bA;have f11:(upd H10 lj<|.lst (dj<|uL (as++[(ra,mi)]) p0)) lf=some (.lst<|dj (ju (as++[(ra,mi)]) p0)):=by rw[bR nfj];exact f10
   have k11:Kp lr ll H2 (upd H10 lj<|.lst (dj<|uL (as++[(ra,mi)]) p0)):=Ei (k29.trans k10) ac2;revert w11 f11 j11 k11;generalize upd H10 lj (.lst<|dj (uL (as++[(ra,mi)]) p0))=H11;intro w11 j11 f11 k11;obtain⟨ac7,ac8,ac9,_⟩:=w11.wk;obtain⟨ac',Bh,ZQ⟩:=id w11.rw;have e11:=ZQ.1;rw[adV,adV,lr8,adW]at e11;refine hn _ _ ?_;refine(dY rfl ac8 ac9 ⟨.inl ⟨rfl,_,dM.of Bh⟩,lr,_, .non,rfl,rfl,Bh,dB (by omega),?_⟩);have w12:=w11.QJ Bh (v:=.non) (r:=.hole) rfl;refine⟨_,_,as++[(ra,mi)],rs6,L6,rfl,by rw[adV,las];rfl,by rw[ers,abt];simp,?_,k11.trans jJ,?_,by rw[bR Xe.1];exact f11,by rw[bR Xf.1];exact j11⟩
   ·rw[uw,show p0+(cG as+(ra,mi).1.length+2)=p0+cG as+ra.length+2 by show p0+(cG as+ra.length+2)=_;omega]
    exact cb
   ·rw[zj]
    simpa using w12
  rintro U H5 ⟨o6,o7,as,rs',L5,rfl,las,ers,c5,k5,w5,f5,j5⟩;rw[show List.drop ts.length bs=[] from afo (by exact ae0 lt1.symm)]at c5;obtain⟨z1,z2⟩:=zp c5;subst z1 z2;rw[aep]at ers;subst ers;refine hn _ _<|dI λnx hn=>?_;have q0:∃qq,qq=p0+cG rs:=⟨_,rfl⟩;obtain⟨qq,hqq⟩:=q0;refine⟨_,rfl,lj,rfl,⟨_,dM.of j5⟩,?_⟩;refine Cp (xs:=dj<|uL rs p0) (CrJ a wk lo lr ll lf lj ab (aY++r1++[Lr.hole]) p0 qq rs L' H2) ⟨_,_,none,rfl,k5,by simpa[d9] using w5,f5,j5⟩ ?_ ?_ ?_
  ·rintro i U H6 hi ⟨o6,o7,o8,rfl,k6,w6,f6,j6⟩
   exact dM.of j6
  ·rintro i y U H6 hy ⟨o6,o7,o8,rfl,k6,w6,f6,j6⟩
   have li:i<rs.length:=by have:=(aga hy).1;rw[nP,sH]at this;exact this
   unfold dj at hy;rw[aee,QM (adX li)]at hy;cases hy;obtain⟨kv6,ZK,ZM,_⟩:=w6.wk;obtain⟨rv6,tY,Uv⟩:=id w6.rw;have e6:=Uv.1;have et:rs.take i++rs.drop i=rs:=afp _ _;have el:cG (rs.take i)+cG (rs.drop i)=cG rs:=by rw[<-qY,et]
   have ed:rs.drop i=rs[i]::rs.drop (i+1):=aeC li;have el2:cG (rs.drop i)=rs[i].1.length+2+cG (rs.drop<|i+1):=by rw[ed];rfl
   rw[adV,adV,lr0,jy,sG,ael,el,<-hqq]at e6;refine(dY rfl ZK ZM ⟨lr,_,rfl, .inl<|dM.of tY,(dO 2),λp7 Lj=>?_⟩);rw[e6];have s7:=bI Lj (.tup [.str "jump", .int (qq:Int)]);refine(dY rfl (s7 _ _ ZK) ZM ⟨_,rfl,lr,_,_,p0+cG (rs.take i)+rs[i].1.length+1,rfl,rfl,s7 _ _ tY,ql (by rw[e6];omega),?_⟩);have w7:=(w6.same s7).Uo (s7 _ _ tY) (v:=.ref p7) (r:=.row<|.jump qq) (p0+cG (rs.take i)+rs[i].1.length+1) ⟨p7,rfl,bA⟩;refine⟨_,_,_,rfl,k6.trans<|(ig s7).trans jJ,?_,by rw[bR Xe.1];exact s7 _ _ f6,by rw[bR Xf.1];exact s7 _ _ j6⟩;have q7:=sE (aY++r1++[Lr.hole]++d9 (rs.take i) qq++rs[i].1++[Lr.row (.drop rs[i].2)]) .hole (.row<|.jump qq) (oR<|rs.drop (i+1));have ln7:(aY++r1++[Lr.hole]++d9 (rs.take i) qq++rs[i].1++[Lr.row (.drop rs[i].2)]).length=p0+cG (rs.take i)+rs[i].1.length+1:=by
    rw[adV,adV,adV,lr0,jy];rfl
   rw[ln7]at q7;rw[show aY++r1++[Lr.hole]++d9 (rs.take i) qq++oR (rs.drop i)=aY++r1++[Lr.hole]++d9 (rs.take i) qq++rs[i].1++[Lr.row (.drop rs[i].2)]++[.hole]++oR (rs.drop<|i+1) by rw[ed];simp[oR],q7]at w7;rw[show rs.take (i+1)=rs.take i++[rs[i]] by rw[aeW,adX li];rfl,sI];simpa using w7
  rintro U H6 ⟨o6,o7,o8,rfl,k6,w6,f6,j6⟩;rw[show List.take (dj<|uL rs p0).length rs=rs from afn (by rw[nP,sH];exact adZ _),show List.drop (dj<|uL rs p0).length rs=[] from afo (by rw[nP,sH];exact adZ _)]at w6;refine hn _ _ ?_;obtain⟨kv6,ZK,ZM,_⟩:=w6.wk;obtain⟨rv6,tY,Uv⟩:=id w6.rw;have e6:=Uv.1;rw[adV,adV,lr0]at e6;refine⟨_,rfl,lf,_,rfl, .inl ⟨dM.of f6,λp7 Lj=>?_⟩⟩;have s7:=bI Lj (.tup<|dj (ju rs p0));refine⟨(dO 2),λp8 hp8=>?_⟩;have s8:=s7.trans (bI hp8<|.tup [.str "case", .ref p7]);have g7:(upd (upd H6 p7<|.tup (dj<|ju rs p0)) p8<|.tup [.str "case", .ref p7]) p7=some (.tup<|dj (ju rs p0)):=bI hp8 _ _ _ bA;have g8:(upd (upd H6 p7<|.tup (dj<|ju rs p0)) p8<|.tup [.str "case", .ref p7]) p8=some (.tup [.str "case", .ref p7]):=bA;revert s8 g7 g8;generalize upd (upd H6 p7<|.tup (dj<|ju rs p0)) p8 (.tup [.str "case", .ref p7])=H8;intro s8 g7 g8;refine(dY rfl (s8 _ _ ZK) ZM ⟨_,rfl,lr,_,_,p0-1,rfl,rfl,s8 _ _ tY,ql (by rw[e6];omega),?_⟩);have w9:=(w6.same s8).Uo (s8 _ _ tY) (v:=.ref p8) (r:=.row<|.case (ju rs p0)) (p0-1) ⟨p8,rfl,p7,g8,g7⟩;refine q _ (Lq.trans<|k6.trans ((ig s8).trans jJ)) ?_;have q9:=sE (aY++r1) .hole (.row<|.case (ju rs p0)) (d9 rs qq);rw[adV,e0]at q9;rw[show aY++r1++[Lr.hole]++d9 rs qq++oR []=aY++r1++[Lr.hole]++d9 rs qq by simp[oR],q9]at w9;rw[<-hp0,<-hqq];simpa using w9
end
theorem abu:∀k,k<=3->wordOf k≠"case"/\wordOf k≠"block"/\wordOf k≠"field":=by decide+kernel
theorem Ux:("call":Str)≠"case"/\("call":Str)≠"block"/\("call":Str)≠"field":=by decide+kernel
theorem ZR:("case":Str)≠"n"/\("case":Str)≠"v"/\("case":Str)≠"g"/\("case":Str)≠"let"/\("case":Str)≠"if"/\("case":Str)≠"fun":=by decide+kernel
theorem Uy:("block":Str)≠"n"/\("block":Str)≠"v"/\("block":Str)≠"g"/\("block":Str)≠"let"/\("block":Str)≠"if"/\("block":Str)≠"fun"/\("block":Str)≠"case":=by decide+kernel
theorem w_field:("field":Str)≠"n"/\("field":Str)≠"v"/\("field":Str)≠"g"/\("field":Str)≠"let"/\("field":Str)≠"if"/\("field":Str)≠"fun"/\("field":Str)≠"case"/\("field":Str)≠"block":=by decide+kernel
theorem ada {ab:Bool}{bs:aP Tm}{m:Nat}{own:aP Nat}{L L':aP Lt}{p:Nat}{r:aP Lr}(g:QC m bs)(h:jW ab bs own L p=some (r,L')):L.length<=L'.length:=by
 obtain⟨N,e,_⟩:=wK (aW:=[]) (bg:=[]) g h;rw[e,adV];exact ad9 _ _
theorem Ek {m:Nat}:∀{bs:List Tm} (i:Nat),QC m bs->QC m (bs.drop i)
 |_,0,h=>h
 |[],i+1,h=>by simpa using h
 |b::bs,i+1,h=>by
  unfold QC at h;exact Ek i h.2
theorem Lx {ab:Bool}{own:aP Nat}{L L':aP Lt}{p:Nat}{r:aP Lr}(h:jW ab [] own L p=some (r,L')):r=[]/\L'=L:=by
 unfold jW at h;cases h;exact⟨rfl,rfl⟩
inductive CbI (a wk lo lr ll:aj)(ab:Bool)(aY:List Lr)(own:List Nat)(bs:List Tm)(r:List Lr)(L':List Lt)(H:Hp)(i:Nat)(U:L2.St)(H':Hp):Prop where
 |mk (o3:Option V) (r1 r2:List Lr) (L:List Lt):U=[some (.ref wk),some<|.ref lo,some<|.ref a,o3]->r=r1++r2->jW ab (bs.drop i) own L (aY.length+r1.length)=some (r2,L')->Kp lr ll H H'->WS H' wk lr ll ab (aY++r1) L->CbI a wk lo lr ll ab aY own bs r L' H i U H'
section
abbrev Bj:aJ:=top 62
noncomputable abbrev nRw:List Str:=["_law_work","_law_own","_law_term","_law_one"]
theorem Ju:bZ nRw xT (bQ Bj):={}
set_option maxHeartbeats 4000000 in
theorem Uz {n:Nat}(F:iz K "_law_rows" "_law_rows" Bj f fd)(ml:mg "len"=none)(h1:Has P w K mg aV (2*n) "_law_rows" xT (Ef n))(h2:Has P w K mg aV (2*n+1) "_law_let_rows" xT (yq isLt n))(h4:Has P w K mg aV (2*n+1) "_law_test_rows" xT (yq isIf n))(h3:Has P w K mg aV 1 "_law_held" pHe Az)(h5:Has P w K mg aV (2*n+1) "_law_case_rows" xT (yq QK n)):
  cP P w K mg aV jV (2*n+2) f fd xT (yq (λ_=>True) n):=by
 refine F.ok Ju λdF A aU s H vs Q E hr h=>?_;obtain⟨wk,lo,lr,ll,v,t,ab,aY,L,own,ns,r,L',rfl,pt,tl,ii,ws,rK,n1,n2,hc,lR,lL,q⟩:=h;have hu:=qD hr;refine⟨_,bO (dz (cH eG (bY (fG K) (pv 2) bK) bV)
   (bO<|cg (ji K (cO hu (pv 0) bV)<|bx (eO<|bx bV (bx (bY (fG K) (pv 2) bK) bH)) bH))
  (bO (dz (cH eG (bY (fG K) (pv 2) bK) bV)
   (bO<|cg (ji K (cO hu (pv 0) bV)<|bx (eO<|bx bV (bx (yE aeA aeQ afl yZ (pv 1)<|bx (bY (fG K) (pv 2) bK) bH) bH)) bH))
  (bO (dz (cH eG (bY (fG K) (pv 2) bK) bV)
   (bO<|cg (ji K (cO hu (pv 0) bV)<|bx (eO<|bx bV (bx (bY (fG K) (pv 2) bK) bH)) bH))
  (bO (dz (cH eG (bY (fG K) (pv 2) bK) bV)
   (bO (cg (dG h2 hr (by exact adZ _) rfl (bx (pv 0)<|bx (pv 1) (bx (pv 2) bH)))))
  (bO (dz (cH eG (bY (fG K) (pv 2) bK) bV)
   (bO (cg (dG h4 hr (by exact adZ _) rfl (bx (pv 0)<|bx (pv 1) (bx (pv 2) bH)))))
  (bO (dz (cH eG (bY (fG K) (pv 2) bK) bV)
   (bO (cg (ji K (cO hu (pv 0) bV) (bx (eO (bx bV (bx (dG h3 hr (by exact aeE _ _) rfl (bx (pv 0)<|bx (pv 1) (bx (bY (fG K) (pv 2) bK)<|bx (bY (fG K) (pv 2) bK) bH))) bH))) bH))))
  (bO (dz (cH eG (bY (fG K) (pv 2) bK) bV)
   (bO (cg (dG h5 hr (by exact adZ _) rfl (bx (pv 0)<|bx (pv 1) (bx (pv 2) bH)))))
  (bO (dz (cH eG (bY (fG K) (pv 2) bK) bV)
   (bJ (oY PassesOwn.never rfl (piT K<|bY (fG K) (pv 2) bK) (fY (i:=3) Ju.nd rfl (Or.inl rfl)) (bO (cg (dG h1 hr (by exact aeI _) rfl (bx (pv 0)<|bx (pv 1) (bx (pv 3) bH))))))
   (bO<|cg (ji K (cO hu (pv 0) bV)<|bx (eO<|bx bV (bx (bY (fG K) (pv 2) bK)<|bx (cu (mV K) rfl ml af6 (bx (bY (fG K) (pv 2) bK) bH)) bH)) bH)))
  (bO (dz (cH eG (bY (fG K) (pv 2) bK) bV)
   (bJ (cg (dG h1 hr (by exact aeI _) rfl (bx (pv 0)<|bx (pv 1) (bx (bY (fG K) (pv 2) bK) bH))))
   (bO<|cg (ji K (cO hu (pv 0) bV)<|bx (eO<|bx bV (bx (bY (fG K) (pv 2) bK) bH)) bH)))
  (bJ (cg (dG h1 hr (by exact aeI _) rfl (bx (pv 0)<|bx (pv 1) (bx (bY (fG K) (pv 2) bK) bH))))
  (bJ (cg (dG h1 hr (by exact aeI _) rfl (bx (pv 0)<|bx (pv 1) (bx (bY (fG K) (pv 2) bK) bH))))
  (bO<|cg (ji K (cO hu (pv 0) bV)<|bx (eO<|bx (bY (fG K) (pv 2) bK) bH) bH))))))))))))))))))))),?_⟩
 obtain⟨m1,m2,m3,m4,m5,m6,m7,m8,m9,m10,m11,m12,m13,m14,m15⟩:=Ur;obtain⟨cD,hwk,g1,_⟩:=ws.wk;obtain⟨jQ,qX,alr⟩:=id ws.rw;have er:=alr.1;cases tl with
 |@n _ a i ha=>
  cases hc;refine mU rfl ha ?_;refine(dY rfl hwk g1 ⟨.inl ⟨rfl,_,dM.of qX⟩,cV (a:=a) (j:=1) rfl ha rfl ⟨(dO 2),λp1 hp1=>?_⟩⟩);obtain⟨w2,k2⟩:=ws.row qX hp1 (o:=.tup [.str "number", .int i]) (r:=.row<|.num i) ⟨p1,rfl,bA⟩;exact⟨lr,_, .ref p1,rfl,rfl,bI hp1 _ _ _ qX,dB (by omega),q _ k2 w2⟩
 |@v _ a x ha hx=>
  unfold comp at hc;cases hix:nJ x own with
  |none=>rw[hix]at hc;cases hc
  |some j=>
   rw[hix]at hc;cases hc;obtain⟨g5,g6⟩:=Hh ii.nm.l hix;refine cR rfl ha m1 ?_;refine mU rfl ha ?_;refine(dY rfl hwk g1 ⟨.inl ⟨rfl,_,dM.of qX⟩,_,rfl, .inl ⟨rfl,_,dM.of rK⟩,_,rfl,a,_,1,_,rfl,rfl,iW.of ha,cI (j:=1) rfl,
    lo,own.map<|ur ns,ur ns x,j,rfl,rfl,rK,g5,g6,(dO 2),λp1 hp1=>?_⟩)
   obtain⟨w2,k2⟩:=ws.row qX hp1 (o:=.tup [.str "local", .int (j:Int)]) (r:=.row<|.loc j) ⟨p1,rfl,bA⟩;simp only[adW]at lR;exact⟨lr,_, .ref p1,rfl,rfl,bI hp1 _ _ _ qX,dB (by omega),q _ k2 w2⟩
 |@g _ a i ha=>
  cases hc;refine te2 rfl ha m2 m3 ?_;refine mU rfl ha ?_;refine(dY rfl hwk g1 ⟨.inl ⟨rfl,_,dM.of qX⟩,cV (a:=a) (j:=1) rfl ha rfl ⟨(dO 2),λp1 hp1=>?_⟩⟩);obtain⟨w2,k2⟩:=ws.row qX hp1 (o:=.tup [.str "global", .int (i:Int)]) (r:=.row<|.glob i) ⟨p1,rfl,bA⟩;exact⟨lr,_, .ref p1,rfl,rfl,bI hp1 _ _ _ qX,dB (by omega),q _ k2 w2⟩
 |@lt _ a sx u y ta tb ha ZF t1 t2=>
  refine te3 rfl ha m4 m5 m6 ?_;refine mU rfl ha ?_;exact⟨_,rfl,_,rfl,_,rfl,wk,lo,lr,ll,_, .lt ns.length ta tb,ab,aY,L,own,ns,r,L',rfl,trivial, .lt ha ZF t1 t2,ii,ws,rK,n1,n2,hc,lR,lL,q⟩
 |@lW _ a u y z tc ta tb ha t1 t2 t3=>
  refine te4 rfl ha m12 m13 m14 m15 ?_;refine mU rfl ha ?_;exact⟨_,rfl,_,rfl,_,rfl,wk,lo,lr,ll,_, .lW tc ta tb,ab,aY,L,own,ns,r,L',rfl,trivial, .lW ha t1 t2 t3,ii,ws,rK,n1,n2,hc,lR,lL,q⟩
 |@fn _ a sx u b ha ZF t1=>
  obtain⟨js,hjs,rfl,rfl⟩:=Js hc;have l6:=ii.l6;simp only[adV,adW]at lR lL;refine te5 rfl ha m7 m8 m9 m10 m11 ?_;refine mU rfl ha ?_;refine(dY rfl hwk g1 ⟨.inl ⟨rfl,_,dM.of qX⟩,_,rfl,_,rfl,cV (a:=a) (j:=1) rfl ha rfl ⟨_,rfl,a,_,2,_,rfl,rfl,iW.of ha,cI (j:=2) rfl,
   wk,lo,lr,ll,ns,sx,u,ab,aY,L,own,js,b,rfl,ws,rK,ii.nm,ZF,n1,n2,t1,hjs,by exact ad2 (ad9 _ _) l6,by exact aeF lL,λp q' H1 k1 w1 hp hq=>⟨(dO 2),λp2 hp2=>?_⟩⟩⟩)
  obtain⟨Lp,hl1,ZJ⟩:=id w1.rw;have e1:=ZJ.1;have s2:=bI hp2 (.tup [.str "late", .ref p]);obtain⟨w2,k2⟩:=w1.row hl1 hp2 (o:=.tup [.str "late", .ref p]) (r:=.late L.length js) ⟨p2,p,q',rfl,bA,s2 _ _ hp,s2 _ _ hq⟩;exact⟨lr,_, .ref p2,rfl,rfl,s2 _ _ hl1,dB (by omega),q _ (k1.trans k2) w2⟩
 |@case _ a t u b ms ts bs ha h2 t1 t2=>
  obtain⟨z1,z2,z3,z4,z5,z6⟩:=ZR;refine te6 rfl ha z1 z2 z3 z4 z5 z6 ?_;refine mU rfl ha ?_;exact⟨_,rfl,_,rfl,_,rfl,wk,lo,lr,ll,_, .case ns.length b ms bs,ab,aY,L,own,ns,r,L',rfl,trivial, .case ha h2 t1 t2,ii,ws,rK,n1,n2,hc,lR,lL,q⟩
 |@field _ a i u b ha t1=>
  obtain⟨z1,z2,z3,z4,z5,z6,z7,z8⟩:=w_field;obtain⟨r1,c1,rfl⟩:=wW hc;obtain⟨b1,me,l4,l6,dn,nd⟩:=ii;simp only[dep]at l4 l6 dn;simp only[adV,adW]at lR;obtain⟨j,rfl⟩:∃j,n=j+1:=⟨n-1,by omega⟩;have i1:In j ns own b:=⟨b1,me,by omega,by omega,by exact ae' dn,nd⟩;refine te8 rfl ha z1 z2 z3 z4 z5 z6 z7 z8 ?_;refine mU rfl ha ?_;refine⟨_,rfl,_,rfl,cV (a:=a) (j:=2) rfl ha rfl ⟨wk,lo,lr,ll,u,b,ab,aY,L,own,ns,r1,L',rfl,trivial,t1,i1,ws,rK,n1,n2,c1,by exact aeF lR,by exact lL,λH1 k1 w1=>?_⟩⟩;have ha1:=ws.tps k1 _ _ ha;obtain⟨kv2,Hi,g2,_⟩:=w1.wk;obtain⟨rv2,hl2,ZV⟩:=id w1.rw;have e2:=ZV.1;simp only[adV]at e2;refine(dY rfl Hi g2 ⟨.inl ⟨rfl,_,dM.of hl2⟩,cV (a:=a) (j:=1) rfl ha1 rfl ⟨(dO 2),λp3 hp3=>?_⟩⟩);obtain⟨w3,k3⟩:=w1.row hl2 hp3 (o:=.tup [.str "field", .int (i:Int)]) (r:=.row<|.field i) ⟨p3,rfl,bA⟩;refine⟨lr,_, .ref p3,rfl,rfl,bI hp3 _ _ _ hl2,dB (by omega),q _ (k1.trans k3) ?_⟩;rw[<-ad8];exact w3
 |@block _ a t k ts bs ha ht t1=>
  obtain⟨z1,z2,z3,z4,z5,z6,z7⟩:=Uy;obtain⟨r1,c1,rfl⟩:=wV hc;obtain⟨⟨l5,b1⟩,me,l4,l6,dn,nd⟩:=ii;simp only[dep]at l4 l6 dn;simp only[adV,adW]at lR;obtain⟨j,rfl⟩:∃j,n=j+1:=⟨n-1,by omega⟩;have ZW:=t1.len;refine te7 rfl ha z1 z2 z3 z4 z5 z6 z7 ?_;refine mU rfl ha ?_;refine(cV (a:=a) (j:=2) rfl ha rfl ⟨t,rfl,⟨_,iW.of ht⟩,?_⟩);refine HF (xs:=ts) (CbI a wk lo lr ll ab aY own bs r1 L' H) ⟨none,[],r1,L,rfl,rfl,c1,Kp.refl,by simpa using ws⟩ ?_ ?_ ?_
  ·rintro i U H5 hi ⟨o3,ra,rb,L5,rfl,er,c5,k5,w5⟩
   exact iW.of<|ws.tps k5 _ _ ht
  ·rintro i y U H5 hy ⟨o3,ra,rb,L5,rfl,er',c5,k5,w5⟩
   have li:i<bs.length:=by have:=(aga hy).1;exact aeo this ZW
   obtain⟨v,e1,tv⟩:=t1.get (adX li);rw[e1]at hy;cases hy;rw[aeC li]at c5;obtain⟨rc,L6,rd,cc,cd,erd⟩:=wX c5;have hA:=ada (Ek (i+1) b1) cd;have di:dep bs[i]<=jm bs:=qj (adX li);have i2:In j ns own bs[i]:=⟨Ax b1<|afg li,me,by omega,by omega,by omega,nd⟩;have lrr:r1.length=ra.length+(rc.length+rd.length):=by rw[er',erd,adV,adV]
   refine⟨_,rfl,_,rfl,_,rfl,wk,lo,lr,ll,_,bs[i],ab,aY++ra,L5,own,ns,rc,L6,rfl,trivial,tv.tps<|ws.tps k5,i2,w5,k5 _ _ n1 n2 rK,n1,n2,by rw[adV];exact cc,by rw[adV];omega,by omega,λH6 k6 w6=>?_⟩;refine⟨_,ra++rc,rd,L6,rfl,by rw[er',erd,ad8],by rw[adV,<-ael];exact cd,k5.trans k6,by rw[<-ad8];exact w6⟩
  ·rintro U H5 ⟨o3,ra,rb,L5,rfl,er',c5,k5,w5⟩
   rw[show List.drop ts.length bs=[] from afo (by exact ae0 ZW.symm)]at c5;obtain⟨y1,y2⟩:=Lx c5;subst y1 y2;rw[aep]at er';subst er';have Uw:=ws.tps k5;obtain⟨kv2,Hi,g2,_⟩:=w5.wk;obtain⟨rv2,hl2,ZV⟩:=id w5.rw;have e2:=ZV.1;simp only[adV]at e2;refine(dY rfl Hi g2 ⟨.inl ⟨rfl,_,dM.of hl2⟩,cV (a:=a) (j:=1) rfl (Uw _ _ ha) rfl (cV (a:=a) (j:=2) rfl (Uw _ _ ha) rfl ⟨t,ts,rfl, .inr<|iW.of (Uw _ _ ht),(dO 3),λp3 hp3=>?_⟩)⟩);rw[ZW];obtain⟨w3,k3⟩:=w5.row hl2 hp3 (o:=.tup [.str "block", .int k, .int (bs.length:Int)]) (r:=.row<|.block k bs.length) ⟨p3,rfl,bA⟩;refine⟨lr,_, .ref p3,rfl,rfl,bI hp3 _ _ _ hl2,dB (by omega),q _ (k5.trans k3) ?_⟩;rw[<-ad8];exact w3
 |@op _ a k u y ta tb ha t1 t2=>
  obtain⟨r1,L1,r2,c1,c2,rfl⟩:=Jr hc;obtain⟨⟨hk,b1,b2⟩,me,l4,l6,dn,nd⟩:=ii;obtain⟨m1,m2,m3,m4,m5,m6⟩:=acY k hk;obtain⟨m7,m8,m9⟩:=abu k hk;simp only[dep]at l4 l6 dn;simp only[adV,adW]at lR;obtain⟨j,rfl⟩:∃j,n=j+1:=⟨n-1,by omega⟩;have i1:In j ns own ta:=⟨b1,me,by omega,by omega,by omega,nd⟩;have i2:In j ns own tb:=⟨b2,me,by omega,by omega,by omega,nd⟩;have lL1:=i2.len c2;refine te9 rfl ha m1 m2 m3 m4 m5 m6 m7 m8 m9 ?_;refine⟨_,rfl,_,rfl,cV (a:=a) (j:=1) rfl ha rfl ⟨wk,lo,lr,ll,u,ta,ab,aY,L,own,ns,r1,L1,rfl,trivial,t1,i1,ws,rK,n1,n2,c1,by omega,by omega,λH1 k1 w1=>?_⟩⟩;have ha1:=ws.tps k1 _ _ ha;refine⟨_,rfl,_,rfl,cV (a:=a) (j:=2) rfl ha1 rfl ⟨wk,lo,lr,ll,y,tb,ab,_,L1,own,ns,r2,L',rfl,trivial,t2.tps<|ws.tps k1,i2,w1,k1 _ _ n1 n2 rK,n1,n2,by rw[adV];exact c2,by rw[adV];omega,lL,λH2 k2 w2=>?_⟩⟩;have ha2:=w1.tps k2 _ _ ha1;obtain⟨kv2,Hi,g2,_⟩:=w2.wk;obtain⟨rv2,hl2,ZV⟩:=id w2.rw;have e2:=ZV.1;simp only[adV]at e2;refine(dY rfl Hi g2 ⟨.inl ⟨rfl,_,dM.of hl2⟩,cV (a:=a) (j:=0) rfl ha2 rfl ⟨(dO 1),λp3 hp3=>?_⟩⟩);obtain⟨w3,k3⟩:=w2.row hl2 hp3 (o:=.tup [.str (wordOf k)]) (r:=.row<|.nH k) ⟨p3,rfl,bA⟩;refine⟨lr,_, .ref p3,rfl,rfl,bI hp3 _ _ _ hl2,dB (by omega),q _ (k1.trans<|k2.trans k3) ?_⟩;have e6:aY++(r1++r2++[.row (.nH k)])=aY++r1++r2++[.row (.nH k)]:=by simp
  rw[e6];exact w3
 |@call _ a u y ta tb ha t1 t2=>
  obtain⟨r1,L1,r2,c1,c2,rfl⟩:=za hc;obtain⟨⟨b1,b2⟩,me,l4,l6,dn,nd⟩:=ii;obtain⟨m1,m2,m3,m4,m5,m6⟩:=w_call;obtain⟨m7,m8,m9⟩:=Ux;simp only[dep]at l4 l6 dn;simp only[adV,adW]at lR;obtain⟨j,rfl⟩:∃j,n=j+1:=⟨n-1,by omega⟩;have i1:In j ns own ta:=⟨b1,me,by omega,by omega,by omega,nd⟩;have i2:In j ns own tb:=⟨b2,me,by omega,by omega,by omega,nd⟩;have lL1:=i2.len c2;refine te9 rfl ha m1 m2 m3 m4 m5 m6 m7 m8 m9 ?_;refine⟨_,rfl,_,rfl,cV (a:=a) (j:=1) rfl ha rfl ⟨wk,lo,lr,ll,u,ta,ab,aY,L,own,ns,r1,L1,rfl,trivial,t1,i1,ws,rK,n1,n2,c1,by omega,by omega,λH1 k1 w1=>?_⟩⟩;have ha1:=ws.tps k1 _ _ ha;refine⟨_,rfl,_,rfl,cV (a:=a) (j:=2) rfl ha1 rfl ⟨wk,lo,lr,ll,y,tb,ab,_,L1,own,ns,r2,L',rfl,trivial,t2.tps<|ws.tps k1,i2,w1,k1 _ _ n1 n2 rK,n1,n2,by rw[adV];exact c2,by rw[adV];omega,lL,λH2 k2 w2=>?_⟩⟩;have ha2:=w1.tps k2 _ _ ha1;obtain⟨kv2,Hi,g2,_⟩:=w2.wk;obtain⟨rv2,hl2,ZV⟩:=id w2.rw;have e2:=ZV.1;simp only[adV]at e2;refine(dY rfl Hi g2 ⟨.inl ⟨rfl,_,dM.of hl2⟩,cV (a:=a) (j:=0) rfl ha2 rfl ⟨(dO 1),λp3 hp3=>?_⟩⟩);obtain⟨w3,k3⟩:=w2.row hl2 hp3 (o:=.tup [.str "call"]) (r:=.row .call) ⟨p3,rfl,bA⟩;refine⟨lr,_, .ref p3,rfl,rfl,bI hp3 _ _ _ hl2,dB (by omega),q _ (k1.trans<|k2.trans k3) ?_⟩;have e6:aY++(r1++r2++[.row .call])=aY++r1++r2++[.row .call]:=by simp
  rw[e6];exact w3
variable {fl fh ft fr:aj}{fdl fdh fdt fdr:FuncData}
theorem El (F:iz K "_law_rows" "_law_rows" Bj f fd)(bF:Binds K fd xT [])(mF:mg "_law_rows"=some (.ref f))(Fl:iz K "_law_let_rows" "_law_let_rows" Bg fl fdl)(bl:Binds K fdl xT [])(mL:mg "_law_let_rows"=some (.ref fl))
  (Ft:iz K "_law_test_rows" "_law_test_rows" u6 ft fdt) (bt:Binds K fdt xT []) (mT:mg "_law_test_rows"=some (.ref ft)) (Fr:iz K "_law_case_rows" "_law_case_rows" u9 fr fdr) (br:Binds K fdr xT []) (mR:mg "_law_case_rows"=some (.ref fr)) (ml:mg "len"=none) (mi:mg "list"=none) (mt:mg "tuple"=none) (h3:Has P w K mg aV 1 "_law_held" pHe Az):∀n:Nat,Has P w K mg aV (2*n) "_law_rows" xT (Ef n)
 |0=>⟨f,fd,⟨λvs H Q E h=>h.elim,λA aU s H args us vs Q E _ _ _ _ h=>h.elim⟩,bF,F.kp,mF⟩
 |n+1=>by
  have ih:=El F bF mF Fl bl mL Ft bt mT Fr br mR ml mi mt h3 n;exact⟨f,fd,Uz F ml ih ⟨fl,fdl,Ut Fl ih,bl,Fl.kp,mL⟩ ⟨ft,fdt,QL Ft ml ih,bt,Ft.kp,mT⟩ h3 ⟨fr,fdr,QS Fr ml mi mt ih,br,Fr.kp,mR⟩,bF,F.kp,mF⟩
end
inductive ZX (vs:List V)(H:Hp)(Q:VK)(E_:XK):Prop where
 |mk (v:V) (lb lr ll:aj) (r:Lr) (bg:List Nat) (x:Rw):vs=[v, .ref lb]->Li lr ll H v r->H lb=some (.lst<|dj bg)->pN bg r=some x->(∀(a:aj) H',Same H H'->Mr H' a x->Q (.ref a) H')->ZX vs H Q E_
theorem UG (r:Rw):T4 r≠"late":=by
 cases r with
 |nH k=>match k with
  |0=>decide+kernel
  |1=>decide+kernel
  |2=>decide+kernel
  |n+3=>show("less":Str)≠"late";decide+kernel
 |num i=>show("number":Str)≠"late";decide+kernel
 |loc i=>show("local":Str)≠"late";decide+kernel
 |glob i=>show("global":Str)≠"late";decide+kernel
 |keep=>show("keep":Str)≠"late";decide+kernel
 |drop n=>show("drop":Str)≠"late";decide+kernel
 |store=>show("store":Str)≠"late";decide+kernel
 |Ao i=>show("unless":Str)≠"late";decide+kernel
 |jump i=>show("jump":Str)≠"late";decide+kernel
 |close i j=>show("close":Str)≠"late";decide+kernel
 |block k m=>show("block":Str)≠"late";decide+kernel
 |field i=>show("field":Str)≠"late";decide+kernel
 |case fs=>show("case":Str)≠"late";decide+kernel
 |call=>show("call":Str)≠"late";decide+kernel
 |back=>show("back":Str)≠"late";decide+kernel
theorem Xg:(["_law_one","_law_places","_law_begins"]:aP Str).Nodup:=by decide+kernel
theorem kit_tuple (K:aN):kitOne K (.type "tuple") (.type "tuple")=some true:=by first|rfl|kernel_rfl
section
abbrev Bk:aJ:=top 63
noncomputable abbrev pWr:List Str:=["_law_row","_law_begins"]
theorem UJ:bZ pWr pWr (bQ Bk):={}
theorem UL (F:iz K "_law_whole_row" "_law_whole_row" Bk f fd)(mi:mg "isinstance"=none)(mt:mg "tuple"=none):cP P w K mg aV jV 1 f fd pWr ZX:=by
 refine F.ok UJ λdF A aU s H vs Q E hr h=>?_;obtain⟨v,lb,lr,ll,r,bg,x,rfl,hl,hb,hw,q⟩:=h;refine⟨_,bJ (dz (cH Cq (bY (fG K) (pv 0) bK) bV) (bO<|cQ (pv 0)) cN)
  (bJ (dz (jD<|cu iu rfl mi boot_isinstance (bx (bY (fG K) (pv 0) bK)<|bx (iU (v:=.ty "tuple") rfl mt boot_tuple rfl) bH))
   (bO<|cQ (eO<|bx bV (bx (bY (yc K) (pv 1)<|bY (fG K) (bY (fG K) (pv 0) bK) bK)<|bx (bY (fG K) (bY (fG K) (pv 0) bK) bK) bH))) cN)
  (bO (cQ (eO (bx bV (bx (eU (Tp K) rfl mt boot_tuple (bx
   (Yw (te:=Kd<|gQ (Fv (CK K) (jr 2)<|jr 0) (gQ (jr 1) tE)) (g:=XJ K 2<|Ni (nq 0) (Ni (nq 1) aaI)) (bQ Bk) pWr ["_law_one","_law_places"] ["_law_begins"] [1] (by decide+kernel) (piL K<|bY (fG K) (pv 0) bK)
    (λC s₀ H₀ ex=>pgT K (n:=2) rfl (jT (fY (i:=0) Xg rfl (Or.inl rfl) (Or.inr rfl))<|jT (fY (i:=1) Xg rfl (Or.inl rfl) (Or.inr rfl)) uN))
    (λC s₀ H₀ ex=>pX) (λC s₀ H₀ ex=>eO<|bx (bY (yc K) (pv 2)<|pv 0) (bx (pv 1) bH))) bH)) bH)))))),?_⟩
 have hz:=sizeLine_eq;cases r with
 |row r=>
  obtain⟨a,rfl,ha⟩:=hl;cases hw;obtain⟨args,h1⟩:=Jd ha;refine(cV (a:=a) (j:=0) rfl h1 rfl ⟨rfl,_,rfl,gU (λc=>?_) λc=>?_⟩)
  ·exact⟨_,rfl,q a H (Same.refl _) ha⟩
  ·exact absurd (by rw[afW (λe=>UG x<|V.str.inj e)];rfl) c
 |late k js=>
  obtain⟨a,p,q',rfl,h1,h2,h3⟩:=hl;have hw:(bg[k]?).map (λb=>Rw.close b js)=some x:=hw;cases hk:bg[k]? with
  |none=>rw[hk]at hw;cases hw
  |some b=>
   rw[hk]at hw;cases hw;refine(cV (a:=a) (j:=0) rfl h1 rfl ⟨rfl,_,rfl,gU (λc=>absurd c<|by rw[af0 rfl];decide) λc=>?_⟩);refine(cV (a:=a) (j:=1) rfl h1 rfl ⟨_,_,_,_,rfl, .tup h2,kit_tuple K,_,rfl,jK ?_⟩);refine⟨_,rfl,cV (a:=a) (j:=1) rfl h1 rfl ⟨p,_,0,_,rfl,rfl,iW.of h2,cI (j:=0) rfl,lb,_,k, .int (b:Int),rfl,rfl,dM.of hb,cI (j:=k) (by unfold dj;rw[aee,hk];rfl),?_⟩⟩;refine(cV (a:=a) (j:=1) rfl h1 rfl ⟨p,_,1,_,rfl,rfl,iW.of h2,cI (j:=1) rfl,(dO 3),λp4 Uu=>?_⟩);have s4:=bI Uu (.tup [.str "close", .int (b:Int), .ref q']);exact q p4 _ s4 ⟨q',bA,s4 _ _ h3⟩
 |hole=>cases hw
end
noncomputable def cL (lr ll:aj)(ab:V):List (Key×V):=[(Sum.inr "rows", .ref lr),(Sum.inr "late", .ref ll),(Sum.inr "about",ab)]
theorem Bl:("late":Str)≠"rows"/\("about":Str)≠"rows"/\("about":Str)≠"late":=by decide+kernel
theorem ne4 {x y:Str}(h:x≠y):¬((Sum.inr x:Key)=Sum.inr y):=λe=>h (Sum.inr.inj e)
theorem Z0 (a b c:V):jG [] ([(Sum.inr "rows",a),(Sum.inr "late",b),(Sum.inr "about",c)]:aP (Key×V))=([(Sum.inr "rows",a),(Sum.inr "late",b),(Sum.inr "about",c)]:aP (Key×V)):=by
 obtain⟨h1,h2,h3⟩:=Bl;simp only[jG,putK,afR,afT,List.any_nil,afh,aeP,if_false,aft,aeH,afW<|ne4 h1,afW<|ne4 h2,afW<|ne4 h3,afW<|ne4 (af2 h1),afW<|ne4 (af2 h2),afW<|ne4 (af2 h3),afz,afy]
theorem UW (lr ll:aj)(ab:V):fV (cL lr ll ab) (Sum.inr "rows")=some (.ref lr):=by simp[fV,cL,aer]
theorem U0 (lr ll:aj)(ab:V):fV (cL lr ll ab) (Sum.inr "late")=some (.ref ll):=by
 obtain⟨h1,h2,h3⟩:=Bl;simp[fV,cL,aer,h1,h2,h3,af2 h1,af2 h2,af2 h3]
theorem U4 (lr ll:aj)(ab:V):fV (cL lr ll ab) (Sum.inr "about")=some ab:=by
 obtain⟨h1,h2,h3⟩:=Bl;simp[fV,cL,aer,h1,h2,h3,af2 h1,af2 h2,af2 h3]
section
abbrev pO:aJ:=top 64
noncomputable abbrev nCo:List Str:=["_law_vals","_law_term","_law_about","_law_work","_law_one","_law_names","_law_body","_law_begins"]
theorem qm:bZ nCo ["_law_vals","_law_term","_law_about"] (bQ pO):={}
@[irreducible] noncomputable def stW:aJ:=(cT pO).getD 0 (.Pass ⟨0,0,0,0⟩)
def abv:List aJ:=(cT pO).drop 1
theorem abw:cT pO=stW::abv:=by
 unfold stW
 rfl
def tW0:TS:=λD U H=>∃(lv:aj) (v:V) (ab:Bool),U=[some (.ref lv),some v,some<|.int (BW ab),none,none,none,none,none]/\
 ∀(wk lr ll:aj) H3,Same H H3->WS H3 wk lr ll ab [] []->H lr=none->H ll=none->D.nx [some (.ref lv),some v,some<|.int (BW ab),some<|.ref wk,none,none,none,none] H3
set_option maxHeartbeats 4000000 in
theorem Z1 {dF:ak}{A:aq}{aU:aP Env}{s:ao}{H:Hp}{E:XK}:PS (dX jV P w K mg aV nCo "_law_code" (bQ pO) f dF A aU s H E).JW stW tW0:=by
 refine BP.h ?_;unfold stW;refine qP (pF (i:=3) (x:="_law_work") qm.nd rfl (Or.inl rfl) (O9 (rP (vU cU)<|rP (vU cU) (rP (jF 2) O8)) rfl rfl (by simp) (by decide)) GK (.inl rfl)) ?_;rintro D U H ⟨lv,v,ab,rfl,q⟩;refine λwk hwk=>?_;refine⟨(dO 0),λlr qX=>⟨(dO 0),λll hll=>?_⟩⟩;have s1:=bI hwk (.dK []);have s2:=bI qX (.lst []);have nlr:lr≠wk:=λe=>by rw[e,bA]at qX;cases qX
 have nll:ll≠wk:=λe=>by rw[e,s2 _ _ bA]at hll;cases hll
 have abx:ll≠lr:=λe=>by rw[e,bA]at hll;cases hll
 have U5:H lr=none:=s1.free qX;have U9:H ll=none:=(s1.trans s2).free hll;refine⟨_,rfl,by rw[bR (af2 nll),bR (af2 nlr)];exact bA,cL lr ll<|.int (BW ab),rfl,(by show 3<=15;decide),?_⟩;rw[show jG [] (cL lr ll<|.int (BW ab))=cL lr ll (.int<|BW ab) from Z0 _ _ _];have hw3:(upd (upd (upd (upd H wk<|.dK []) lr<|.lst []) ll<|.lst []) wk<|.dK (cL lr ll<|.int (BW ab))) wk=some (.dK<|cL lr ll (.int<|BW ab)):=bA;have hl3:(upd (upd (upd (upd H wk<|.dK []) lr<|.lst []) ll<|.lst []) wk<|.dK (cL lr ll<|.int (BW ab))) lr=some (.lst []):=by rw[bR nlr,bR (af2 abx)];exact bA
 have hk3:(upd (upd (upd (upd H wk<|.dK []) lr<|.lst []) ll<|.lst []) wk<|.dK (cL lr ll<|.int (BW ab))) ll=some (.lst []):=by rw[bR nll];exact bA
 have s3:Same H (upd (upd (upd (upd H wk<|.dK []) lr<|.lst []) ll<|.lst []) wk<|.dK (cL lr ll<|.int (BW ab))):=λb o h=>by
  rw[bR (bU h hwk),bR<|bU h U9,bR<|bU h U5,bR (bU h hwk)];exact h
 revert hw3 hl3 hk3 s3;generalize upd (upd (upd (upd H wk<|.dK []) lr<|.lst []) ll<|.lst []) wk (.dK<|cL lr ll (.int<|BW ab))=H3;intro hw3 hl3 hk3 s3;exact q wk lr ll H3 s3 ⟨⟨_,hw3,UW _ _ _,U0 _ _ _,U4 _ _ _⟩,⟨[],hl3, .nil⟩,⟨[],hk3, .nil⟩,af2 abx⟩ U5 U9
end
mutual
theorem dU {ab:Bool}:∀{t:Tm} {own:List Nat} {L L':List Lt} {r:List Lr} {p:Nat},comp ab t own L p=some (r,L')->L.length<=L'.length
 |.n i,own,L,L',r,p,h=>by cases h;exact adZ _
 |.g i,own,L,L',r,p,h=>by cases h;exact adZ _
 |.v x,own,L,L',r,p,h=>by
  unfold comp at h;cases e:nJ x own with
  |none=>rw[e]at h;cases h
  |some j=>rw[e]at h;cases h;exact adZ _
 |.lt x t b,own,L,L',r,p,h=>by
  obtain⟨r1,L1,r2,c1,c2,_⟩:=Jq h;exact ad2 (dU c1)<|dU c2
 |.lW c a b,own,L,L',r,p,h=>by
  obtain⟨r1,L1,r2,L2,r3,c1,c2,c3,_⟩:=Ed h;exact ad2 (dU c1)<|ad2 (dU c2) (dU c3)
 |.fn x b,own,L,L',r,p,h=>by
  obtain⟨js,_,_,rfl⟩:=Js h;simp
 |.op k a b,own,L,L',r,p,h=>by
  obtain⟨r1,L1,r2,c1,c2,_⟩:=Jr h;exact ad2 (dU c1)<|dU c2
 |.call a b,own,L,L',r,p,h=>by
  obtain⟨r1,L1,r2,c1,c2,_⟩:=za h;exact ad2 (dU c1)<|dU c2
 |.block k ts,own,L,L',r,p,h=>by
  obtain⟨r1,c1,_⟩:=wV h;exact xq c1
 |.field j t,own,L,L',r,p,h=>by
  obtain⟨r1,c1,_⟩:=wW h;exact dU c1
 |.case x t ms bs,own,L,L',r,p,h=>by
  obtain⟨r1,L1,rs,c1,c2,_⟩:=zc h;exact ad2 (dU c1)<|xr c2
theorem xq {ab:Bool}:∀{ts:List Tm} {own:List Nat} {L L':List Lt} {r:List Lr} {p:Nat},jW ab ts own L p=some (r,L')->L.length<=L'.length
 |[],own,L,L',r,p,h=>by cases h;exact adZ _
 |t::ts,own,L,L',r,p,h=>by
  obtain⟨r1,L1,r2,c1,c2,_⟩:=wX h;exact ad2 (dU c1)<|xq c2
theorem xr {ab:Bool}:∀{bs:List Tm} {ms:List Nat} {x:Nat} {own:List Nat} {L L':List Lt} {rs:List (List Lr×Nat)} {p:Nat},jz ab bs ms x own L p=some (rs,L')->L.length<=L'.length
 |[],ms,x,own,L,L',r,p,h=>by obtain⟨_,rfl⟩:=zp h;exact adZ _
 |b::bs,[],x,own,L,L',r,p,h=>by unfold jz at h;cases h
 |b::bs,m::ms,x,own,L,L',r,p,h=>by
  obtain⟨r1,L1,r2,c1,c2,_⟩:=wY h;exact ad2 (dU c1)<|xr c2
end
theorem pP {ab:Bool}:∀{m:Nat} {aY gP:List Lr} {L LF:List Lt} {bg rB:List Nat},bodies ab m aY L bg=some (gP,LF,rB)->aY.length<=gP.length/\L.length<=LF.length/\bg.length<=rB.length/\rB.length<=bg.length+(LF.length-bg.length)
 |0,_,_,_,_,_,_,h=>by cases h
 |m+1,aY,gP,L,LF,bg,rB,h=>by
  unfold bodies at h;split at h
  ·cases h
   exact⟨adZ _,adZ _,adZ _,by exact ad9 _ _⟩
  ·rename_i nb hat
   have jX:bg.length<L.length:=(aga hat).1;split at h
   ·cases h
   ·rename_i r L' e2
    obtain⟨h1,h2,h3,h4⟩:=pP h;simp only[adV,adW]at h1 h3 h4;have:=dU e2;exact⟨by omega,by exact ad2 this h2,by exact aeF h3,by omega⟩
theorem sJ {ab:Bool}:∀{us:List Tm} {t:Tm} {aY zq:List Lr} {L LA:List Lt},jH ab us t aY L=some (zq,LA)->aY.length<=zq.length/\L.length<=LA.length
 |[],t,aY,zq,L,LA,h=>by
  unfold jH at h;split at h
  ·cases h
  ·rename_i r L1 e
   cases h;have:=dU e;exact⟨by simp only[adV,adW];omega,this⟩
 |u::us,t,aY,zq,L,LA,h=>by
  unfold jH at h;split at h
  ·cases h
  ·rename_i r L1 e
   have:=dU e;obtain⟨h1,h2⟩:=sJ h;simp only[adV,adW]at h1;exact⟨by omega,by exact ad2 this h2⟩
def OkB (L:List Lt):Prop:=∀nb∈L,wJ nb
theorem In.ZW {ab:Bool}{n:Nat}{ns:aP Str}{own:aP Nat}{t:Tm}(i:In n ns own t)(hn:n<=11){L L':aP Lt}{r:aP Lr}{p:Nat}(h:comp ab t own L p=some (r,L'))(ok:OkB L):OkB L':=by
 obtain⟨r2,L2,N,e,M⟩:=fu (ab:=ab) (L:=L) (p:=p) i.gt i.me i.l4 i.l6 (by have:=i.dn;omega);rw[h]at e;cases e;refine λnb hnb=>?_;rw[M.ex]at hnb;rcases aeu.mp hnb with z|z
 ·exact ok nb z
 ·exact M.ok nb z
theorem wJ.isIn {p:Lt}(h:wJ p){ns:aP Str}(hn:Ec ns p.1):In 11 ns p.1 p.2:=by
 obtain⟨names,x,e,mem,gt,h40,h60,h12⟩:=h;have em:∀y,y∈p.1↔y<x+1:=by rw[e];exact rZ mem
 have el:ns.length=x+1:=by
  rcases Nat.lt_trichotomy ns.length (x+1) with l|l|l
  ·exact absurd ((hn.2 _).mp<|(em _).mpr l)<|aed _
  ·exact l
  ·exact absurd ((em _).mp<|(hn.2 _).mpr l)<|aed _
 exact⟨by rw[el];exact gt,hn.2,by rw[el];exact h40,h60,by exact afa h12,hn.1⟩
theorem Own.isIn {t:Tm}(h:Own t):In 11 [] [] t:=⟨h.1,λy=>by simp,by have:=h.2;simp;omega,by have:=h.2;simp;omega,h.2,aeZ⟩
theorem Em {bg:List Nat}:∀{aY:List Lr} {aW:List Rw},nO bg aY=some aW->aW.length=aY.length/\∀(i:Nat) (r:Lr),aY[i]?=some r->∃x,aW[i]?=some x/\pN bg r=some x
 |[],aW,h=>by cases h;exact⟨rfl,λi r e=>by simp at e⟩
 |y::ys,aW,h=>by
  unfold nO at h;split at h
  ·rename_i a as e1 e2
   cases h;obtain⟨l,g⟩:=Em e2;refine⟨by simp[l],λi x e=>?_⟩;cases i with
   |zero=>simp at e;subst e;exact⟨a,rfl,e1⟩
   |succ i=>
    obtain⟨j,h1,h2⟩:=g i x (by simpa using e);exact⟨j,by simpa using h1,h2⟩
  ·cases h
theorem QV {H:Hp}{ns:List Str}{ln lb:aj}{names bg:List Nat}(FN:H ln=some (.lst<|gj ns names))(hb:H lb=some (.lst<|dj bg))(ep:names≠[]):ln≠lb:=λe=>by
 rw[e,hb]at FN;have e2:dj bg=gj ns names:=by injection FN with e3;injection e3
 cases names with
 |nil=>exact ep rfl
 |cons x xs=>
  cases bg with
  |nil=>cases e2
  |cons y ys=>
   unfold dj gj at e2;simp at e2
section
inductive Bm (vs:List V)(H:Hp)(Q:VK)(E_:XK):Prop where
 |mk (lv:aj) (v:V) (ab:Bool) (uvs:List V) (us:List Tm) (t:Tm) (aW:List Rw):vs=[.ref lv,v, .int (BW ab)]->H lv=some (.lst uvs)->qW (jM H []) uvs us->(∀u∈us,Own u)->jM H [] v t->Own t->Hg ab us t aW->(∀(c:aj) (jQ:List V) H',Same H H'->H c=none->H' c=some (.tup jQ)->wH H' jQ aW->Q (.ref c) H')->Bm vs H Q E_
def Wc (H0:Hp)(lv wk lr ll lb:aj)(v:V)(ab:Bool)(gP:List Lr)(LF:List Lt)(rB:List Nat)(m:Nat)(U:L2.St)(H:Hp):Prop:=∃(aY:List Lr) (L:List Lt) (bg:List Nat) (o4 o5 o6:Option V),U=[some (.ref lv),some v,some<|.int (BW ab),some<|.ref wk,o4,o5,o6,some (.ref lb)]/\
 WS H wk lr ll ab aY L/\H lb=some (.lst<|dj bg)/\OkB L/\bodies ab m aY L bg=some (gP,LF,rB)/\Same H0 H
set_option maxHeartbeats 4000000 in
theorem Va (F:iz K "_law_code" "_law_code" pO f fd)(mt:mg "tuple"=none)(ml:mg "len"=none)(h1:Has P w K mg aV 24 "_law_rows" xT (yq (λ_=>True) 11))(h2:Has P w K mg aV 1 "_law_whole_row" pWr ZX):cP P w K mg aV jV 25 f fd ["_law_vals","_law_term","_law_about"] Bm:=by
 refine F.ok qm λdF A aU s H vs Q E hr h=>?_;obtain⟨lv,v,ab,uvs,us,t,aW,rfl,hlv,au,hus,tl,ot,⟨mm,zq,LA,gP,LF,rB,hc,hb,lF,lB,hw⟩,q⟩:=h;have hu:=qD hr;have hz:=sizeLine_eq;rw[abw];refine'⟨_,bJ Z1<|bJ ?s2 (bJ ?s3 (bJ ?s4 (bJ ?s5 (bJ ?s6 (bO ?s7))))),?_⟩
 case s2=>exact oY PassesOwn.never rfl (piL K<|pv 0) (fY (i:=4) qm.nd rfl (Or.inl rfl)) (bJ (cg (dG h1 hr (by decide) rfl (bx (pv 3)<|bx (gJ bH) (bx (pv 4) bH))))
   (bO<|cg (ji K (cO hu (pv 3) bV)<|bx (eO<|bx bV bH) bH)))
 case s3=>exact cg (dG h1 hr (by decide) rfl (bx (pv 3)<|bx (gJ bH) (bx (pv 1) bH)))
 case s4=>exact cg<|ji K (cO hu (pv 3) bV) (bx (eO<|bx bV bH) bH)
 case s5=>exact oX (i:=7) qm.nd rfl (Or.inr rfl) (gJ bH)
 case s6=>
  refine' Cm PassesOwn.never ?c ?b
  case c=>exact(cH vH (cu (mV K) rfl ml af6 (bx (pv 7) bH))<|cu (mV K) rfl ml af6 (bx (cO hu (pv 3) bV) bH))
  case b=>exact(bJ (qO (bY (yc K) (cO hu (pv 3) bV)<|cu (mV K) rfl ml af6 (bx (pv 7) bH))<|pgT K (n:=2) rfl (jT (fY (i:=5) qm.nd rfl (Or.inl rfl))<|jT (fY (i:=6) qm.nd rfl (Or.inl rfl)) uN))
   (bJ (cg<|ji K (pv 7) (bx (cu (mV K) rfl ml af6 (bx (cO hu (pv 3) bV) bH)) bH))
   (bJ (cg (dG h1 hr (by decide) rfl (bx (pv 3)<|bx (pv 5) (bx (pv 6) bH))))
   (bO<|cg (ji K (cO hu (pv 3) bV)<|bx (eO<|bx bV bH) bH)))))
 case s7=>exact cQ (eU (Tp K) rfl mt boot_tuple (bx
   (Om (bQ pO) nCo ["_law_begins"] [7] (by decide+kernel) (piL K<|cO hu (pv 3) bV) (λC s₀ H₀ ex=>pX)
    (λC s₀ H₀ ex=>dG h2 hr (by decide) rfl (bx (pv 0)<|bx (pv 1) bH))) bH))
 refine⟨lv,v,ab,rfl,λwk lr ll H3 s3 w3 U5 U9=>?_⟩;obtain⟨rv3,hl3,_⟩:=w3.rw;obtain⟨lv3,hk3,_⟩:=w3.lt;have sm:∀{H1 H2:Hp},Same H H1->Kp lr ll H1 H2->Same H H2:=λa k b o h=>k b o (bU h U5) (bU h U9) (a b o h);obtain⟨mo1,mo2,mo3,mo4⟩:=pP hb;refine⟨_,rfl,lv,rfl,⟨_,dM.of<|s3 _ _ hlv⟩,?_⟩;refine Cp (xs:=uvs) (λi U H'=>∃(o4:Option V) (aY:List Lr) (L:List Lt),U=[some (.ref lv),some v,some<|.int (BW ab),some<|.ref wk,o4,none,none,none]/\Same H H'/\WS H' wk lr ll ab aY L/\OkB L/\jH ab (us.drop i) t aY L=some (zq,LA)) ⟨none,[],[],rfl,s3,w3,λnb h=>by simp at h,hc⟩ ?_ ?_ ?_
 ·rintro i U H' _ ⟨o4,aY,L,rfl,s4,_⟩
  exact dM.of<|s4 _ _ hlv
 ·rintro i x U H4 hx ⟨o4,aY,L,rfl,s4,w4,ok4,c4⟩
  have li:i<us.length:=by rw[<-au.1];exact(aga hx).1
  obtain⟨x',hx',tx⟩:=au.2 i us[i] (adX li);rw[hx]at hx';cases hx';have oi:=hus us[i] (afg li);rw[aeC li]at c4;unfold jH at c4;cases ec:comp ab us[i] [] L aY.length with
  |none=>rw[ec]at c4;cases c4
  |some rl=>
   obtain⟨r1,L1⟩:=rl;rw[ec]at c4;dsimp only at c4;obtain⟨p1,p2⟩:=sJ c4;simp only[adV,adW]at p1;refine⟨_,rfl,(dO 0),λle hle=>?_⟩;have s5:=bI hle (.lst []);have nle:le≠lr/\le≠ll:=by
    obtain⟨jQ,qX,_⟩:=w4.rw;obtain⟨qK,hll,_⟩:=w4.lt;exact⟨cJ hle qX,cJ hle hll⟩
   refine⟨_,rfl,wk,le,lr,ll,x,us[i],ab,aY,L,[],[],r1,L1,rfl,trivial,(tx.same s4).same s5,oi.isIn,w4.same s5,bA,nle.1,nle.2,ec,by omega,by omega,λH6 k6 w6=>?_⟩;obtain⟨kv6,Z2,g6,_⟩:=w6.wk;obtain⟨rv6,tY,Uv⟩:=id w6.rw;have e6:=Uv.1;rw[adV]at e6;refine(dY rfl Z2 g6 ⟨.inl ⟨rfl,_,dM.of tY⟩,(dO 1),λp7 Lj=>?_⟩);obtain⟨w7,k7⟩:=w6.row tY Lj (o:=.tup [.str "store"]) (r:=.row .store) ⟨p7,rfl,bA⟩;refine⟨lr,_, .ref p7,rfl,rfl,bI Lj _ _ _ tY,dB (by omega),?_⟩;exact⟨_,aY++r1++[.row .store],L1,rfl,sm (s4.trans s5)<|k6.trans k7,w7,oi.isIn.ZW (by exact adZ _) ec ok4,c4⟩
 rintro U H4 ⟨o4,aY,L,rfl,s4,w4,ok4,c4⟩;have lu:=au.1;rw[lu,List.drop_length]at c4;unfold jH at c4;cases ec:comp ab t [] L aY.length with
 |none=>rw[ec]at c4;cases c4
 |some rl=>
 obtain⟨r1,L1⟩:=rl;rw[ec]at c4;cases c4;simp only[adV,adW]at mo1;refine⟨_,rfl,(dO 0),λle hle=>?_⟩;have s5:=bI hle (.lst []);have nle:le≠lr/\le≠ll:=by
  obtain⟨jQ,qX,_⟩:=w4.rw;obtain⟨qK,hll,_⟩:=w4.lt;exact⟨cJ hle qX,cJ hle hll⟩
 refine⟨_,rfl,wk,le,lr,ll,v,t,ab,aY,L,[],[],r1,LA,rfl,trivial,(tl.same s4).same s5,ot.isIn,w4.same s5,bA,nle.1,nle.2,ec,by omega,by omega,λH6 k6 w6=>?_⟩;have G5:Same H H6:=sm (s4.trans s5) k6;obtain⟨kv6,Z2,g6,_⟩:=w6.wk;obtain⟨rv6,tY,Uv⟩:=id w6.rw;have e6:=Uv.1;rw[adV]at e6;refine(dY rfl Z2 g6 ⟨.inl ⟨rfl,_,dM.of tY⟩,(dO 1),λp7 Lj=>?_⟩);obtain⟨w7,k7⟩:=w6.row tY Lj (o:=.tup [.str "back"]) (r:=.row .back) ⟨p7,rfl,bA⟩;refine⟨lr,_, .ref p7,rfl,rfl,bI Lj _ _ _ tY,dB (by omega),?_⟩;revert w7 k7;generalize upd (upd H6 p7<|.tup [.str "back"]) lr (.lst<|rv6++[.ref p7])=H7;intro w7 k7;have s37:=sm G5 k7;refine⟨(dO 0),λlb hlb=>?_⟩;have s8:=bI hlb (.lst []);have nlb:lb≠lr/\lb≠ll:=by
  obtain⟨jQ,h1,_⟩:=w7.rw;obtain⟨qK,h2,_⟩:=w7.lt;exact⟨cJ hlb h1,cJ hlb h2⟩
 have adb:∀b o,H b=some o->b≠lb:=λb o h=>bU (s37 _ _ h) hlb;refine⟨Wc H lv wk lr ll lb v ab gP LF rB,⟨mm,_,LA,[],o4,none,none,rfl,w7.same s8,bA,ot.isIn.ZW (by exact adZ _) ec ok4,hb,s37.trans s8⟩,?_⟩;rintro m U H9 ⟨aY,L9,bg,o4,o5,o6,rfl,w9,En,ok9,hb9,s9⟩;obtain⟨kv9,Vb,g1,g2,_⟩:=w9.wk;obtain⟨lv9,aby,al9⟩:=id w9.lt;have el9:=al9.1;have eb:(dj bg).length=bg.length:=by unfold dj;rw[aeb]
 refine⟨_,rfl,lb,_,rfl, .inl<|dM.of En,dY rfl Vb g2 ⟨ll,_,rfl, .inl<|dM.of aby,_,_,rfl,rfl,_,rfl,?_⟩⟩;cases m with
 |zero=>cases hb9
 |succ m=>
  unfold bodies at hb9;cases hat:L9[bg.length]? with
  |none=>
   rw[hat]at hb9;cases hb9;rw[afE]at hat;refine gU (λc=>absurd (afZ c)<|by rw[eb];omega) λ_=>?_;obtain⟨rv9,hl9,ar9⟩:=id w9.rw;obtain⟨wl,wat⟩:=Em hw;refine(dY rfl Vb g1 ⟨lr,rfl,⟨_,dM.of hl9⟩,Eb (xs:=rv9) (λi vs H'=>Same H9 H'/\wH H' vs (aW.take i)) ⟨Same.refl _,rfl,λi x h=>by simp at h⟩ ?_ ?_ ?_⟩)
   ·rintro i vs H' hi ⟨zu,cd⟩
    refine⟨dM.of<|zu _ _ hl9,?_⟩;have:=cd.1;rw[aeh]at this;have:=ar9.1;omega
   ·rintro i x vs H' hi hx ⟨zu,cd⟩
    have hir:i<gP.length:=by rw[<-ar9.1];exact hi
    obtain⟨x',hx',lx⟩:=ar9.2 i _ (adX hir);rw[hx]at hx';cases hx';obtain⟨y,hy,wy⟩:=wat i _ (adX hir);refine tt1<|jK ⟨_,rfl,_,rfl,x,lb,lr,ll,gP[i],rB,y,rfl,Li.tps (Same.tups zu) (ig zu) lx,zu _ _ En,wy,λa H11 QW ra=>nx hi ⟨zu.trans QW,?_⟩⟩;have ec:aW.take (i+1)=aW.take i++[y]:=by rw[aeW,hy];rfl
    rw[ec];have li:(aW.take i).length=i:=by rw[aeh];omega
    refine⟨by rw[adV,adV,cd.1];rfl,λk z hk=>?_⟩;by_cases c:k<i
    ·rw[ad6 (by exact aeo c li.symm)]at hk
     obtain⟨a',h1,h2⟩:=cd.2 k z hk;exact⟨a',by rw[ad6 (by rw[cd.1];exact aeo c li.symm)];exact h1,h2.same QW⟩
    ·rw[aef (by omega),li]at hk
     have:k=i:=by
      by_cases z0:k-i=0
      ·omega
      ·rw[afq (by simp;omega)]at hk;cases hk
     subst this;rw[afs]at hk;cases hk;exact⟨a,by rw[aef (by rw[cd.1];exact ae0 li),cd.1,li,afs];rfl,ra⟩
   ·rintro vs H' ⟨zu,cd⟩ l11 Bh
    have QW:=bI Bh (.lst vs);refine⟨l11,vs,rfl, .inl ⟨dM.of bA,λc hc'=>?_⟩⟩;have s12:=bI hc' (.tup vs);have s02:=zu.trans (QW.trans s12);rw[ar9.1,<-wl,ae2]at cd;have ade:=QW.trans s12;exact q c vs _ (s9.trans s02) ((s9.trans<|zu.trans QW).free hc') bA ⟨cd.1,λi x h=>by
     obtain⟨a,h1,h2⟩:=cd.2 i x h;exact⟨a,h1,h2.same ade⟩⟩
  |some nb=>
   obtain⟨names,body⟩:=nb;rw[hat]at hb9;dsimp only at hb9;have jX:bg.length<L9.length:=(aga hat).1;refine gU (λ_=>?_) (λc=>absurd (af0<|by rw[eb,el9];omega) c);cases hcb:comp ab body names L9 aY.length with
   |none=>rw[hcb]at hb9;cases hb9
   |some rl=>
    obtain⟨r9,L10⟩:=rl;rw[hcb]at hb9;dsimp only at hb9;obtain⟨mo1,mo2,mo3,mo4⟩:=pP hb9;have adU:=dU hcb;simp only[adV,adW]at mo1 mo3;obtain⟨vp,hvp,p,ln,u,ns,rfl,hp,FN,nl1,nl2,tb,_,nm⟩:=al9.2 _ _ hat;have kok:=ok9 _ (aeJ hat);obtain⟨k0,k60,kd⟩:=kok.in;have ki:=kok.isIn nm;refine⟨_,λ_ _ h=>h,?_⟩;refine(dY rfl Vb g2 ⟨_,rfl,lb,_,rfl, .inl<|dM.of En,ll,_,_,_,rfl,rfl,dM.of aby,(by rw[eb];exact cI hvp),?_⟩);refine⟨p,_,rfl,iW.of hp,rfl, .ref ln,[u],rfl,u,[],rfl,rfl,?_⟩;obtain⟨rv9,hl9,ar9⟩:=id w9.rw;have er9:=ar9.1;refine⟨_,rfl, .inl ⟨rfl,_,dM.of En⟩,dY rfl Vb g1 ⟨lr,_,rfl, .inl<|dM.of hl9,lb,_,_,rfl,rfl,En,dB (by rw[eb];omega),?_⟩⟩;have e10:dj bg++[V.int (rv9.length:Int)]=dj (bg++[aY.length]):=by unfold dj;rw[aes,er9];rfl
    rw[e10];have w10:=w9.aside (ys:=bg++[aY.length]) En nlb.1 nlb.2;have Z4:BR H9 (upd H9 lb<|.lst (dj<|bg++[aY.length])):=λb ys h=>by rw[bR (jg h En<|by intro z;cases z)];exact h
    have QX:(upd H9 lb<|.lst (dj<|bg++[aY.length])) ln=some (.lst<|gj ns names):=by rw[bR (QV FN En k0)];exact FN
    have zu:Same H (upd H9 lb<|.lst (dj<|bg++[aY.length])):=λb o h=>by rw[bR (adb b o h)];exact s9 b o h
    have QZ:(upd H9 lb<|.lst (dj<|bg++[aY.length])) lb=some (.lst<|dj (bg++[aY.length])):=bA;revert w10 Z4 QX zu QZ;generalize upd H9 lb (.lst<|dj (bg++[aY.length]))=H10;intro w10 Z4 QX zu QZ;refine⟨_,rfl,_,rfl,_,rfl,wk,ln,lr,ll,u,body,ab,aY,L9,names,ns,r9,L10,rfl,trivial,tb.tps Z4,ki,w10,QX,nl1,nl2,hcb,by omega,by omega,λH11 k11 w11=>?_⟩;obtain⟨ac7,abz,g11,_⟩:=w11.wk;obtain⟨ac',Bh,ZQ⟩:=id w11.rw;have e11:=ZQ.1;rw[adV]at e11;refine(dY rfl abz g11 ⟨.inl ⟨rfl,_,dM.of Bh⟩,(dO 1),λMv abA=>?_⟩);obtain⟨w12,k12⟩:=w11.row Bh abA (o:=.tup [.str "back"]) (r:=.row .back) ⟨Mv,rfl,bA⟩;refine⟨lr,_, .ref Mv,rfl,rfl,bI abA _ _ _ Bh,dB (by omega),?_⟩;exact⟨m,by exact adZ _,_,L10,bg++[aY.length],o4,_,_,rfl,w12,k12 _ _ nlb.1 nlb.2<|k11 _ _ nlb.1 nlb.2 QZ,ki.ZW (by exact adZ _) hcb ok9,hb9,sm zu<|k11.trans k12⟩
end
end Fw
namespace L2
theorem qZ:bootBuiltins "dict"=some (.type "dict"):=by decide+kernel
theorem pQ {X:Cx}:jw X (.type "dict") (λxs H Q=>∃a cD,xs=[V.ref a]/\H a=some (.dK cD)/\∀p,H p=none->Q (.ref p) (upd H p<|.dK cD)):=by
 intro bG s U H xs us Q I r h;obtain⟨a,cD,rfl,e,q⟩:=h;obtain⟨u,rfl,rx⟩:=vals1 r;cases rx;exact O7 I (.inl e) λp s' hp I'=>⟨.ref p,_,I',rfl,q p hp⟩
end L2
namespace Fw
open L2
theorem Xh (n:Int):(60<(((Str.ofString<|toString (if n<0 then -n else n)).length:Nat):Int))↔¬kh n:=by
 obtain⟨m,hm⟩:∃m:Nat,(if n<0 then -n else n)=(m:Int):=⟨n.natAbs,by split<;>omega⟩;rw[hm,PySem.ofString_length,show toString ((m:Nat):Int)=Nat.repr m from rfl];have h:=Nat.length_repr_le_iff (n:=m) (k:=60) (by decide);have e:kh n↔m<10^60:=by
  unfold kh Iw;split at hm<;>omega
 rw[e,<-h];omega
set_option exponentiation.threshold 500 in
theorem Ly {n:Int}(h1: -(2^420)<n)(h2:n<2^420):(if n<0 then -n else n).natAbs.log2<1920:=by
 by_cases h0:(if n<0 then -n else n).natAbs=0
 ·rw[h0];decide
 ·exact afJ ((Nat.log2_lt h0 (k:=420)).mpr<|by split<;>omega) (by decide)
set_option exponentiation.threshold 500 in
theorem Q0 {k:Nat}{i j:Int}(hi:kh i)(hj:kh j): -(2^420)<rk k i j/\rk k i j<2^420:=by
 obtain⟨a,b⟩:=hi;obtain⟨c,d⟩:=hj;have hG:=Pq;have hm: -(2^420:Int)<i*j/\i*j<2^420:=by
  have h1:(i*j).natAbs<=2^200*2^200:=by
   rw[Int.natAbs_mul];exact Nat.mul_le_mul (by omega) (by omega)
  have h2:(2:Nat)^200*2^200=2^400:=by decide
  have h3:(2:Nat)^400<2^420:=by decide
  omega
 unfold rk;split
 ·omega
 ·omega
 ·exact hm
 ·split<;>omega
theorem Vc {i:Int}:dJ i=true↔kh i:=by
 unfold dJ kh Iw;rw[ae1,decide_eq_true_iff,decide_eq_true_iff]
def NoI (H:Hp)(v:V):Prop:=∃r xs,v=.ref r/\H r=some (.tup xs)
inductive Eo (CS CT:aj)(vs:List V)(H:Hp)(Q:VK)(E:XK):Prop where
 |mk (k:Nat) (i j:Int):vs=[.str (wordOf k), .int i, .int j]->k<=3->dJ i=true->dJ j=true->(dJ (rk k i j)=true->∀H',Same H H'->Q (.int<|rk k i j) H')->(¬dJ (rk k i j)=true->∀ea H',Same H H'->E (.ref CT) (some ea) H')->Eo CS CT vs H Q E
 |no (z v u:V):vs=[z,v,u]->(NoI H v\/(∃i,v=.int i)/\NoI H u)->(∀ea H',Same H H'->E (.ref CS) (some ea) H')->Eo CS CT vs H Q E
noncomputable def yr (i j:Int):List (Key×V):=[(Sum.inr "plus", .int<|i+j),(Sum.inr "minus", .int<|i-j),(Sum.inr "times", .int<|i*j),(Sum.inr "less", .int<|if(decide<|i<j)=true then 1 else 0)]
theorem Z5 (a b c d:V):jG [] ([(Sum.inr "plus",a),(Sum.inr "minus",b),(Sum.inr "times",c),(Sum.inr "less",d)]:aP (Key×V))=([(Sum.inr "plus",a),(Sum.inr "minus",b),(Sum.inr "times",c),(Sum.inr "less",d)]:aP (Key×V)):=by
 obtain⟨h1,h2,h3,h4,h5,h6⟩:=lN;simp only[jG,putK,afR,afT,List.any_nil,afh,aeP,if_false,aft,aeH,afW<|ne4 h1,afW<|ne4 h2,afW<|ne4 h3,afW<|ne4 h4,afW<|ne4 h5,afW<|ne4 h6,afW<|ne4 (af2 h1),afW<|ne4 (af2 h2),afW<|ne4 (af2 h3),afW<|ne4 (af2 h4),afW<|ne4 (af2 h5),afW<|ne4 (af2 h6),afz,afy]
theorem Vd (i j:Int):∀k,k<=3->fV (yr i j) (Sum.inr<|wordOf k)=some (.int<|rk k i j)
 |0,_=>by simp[fV,yr,wordOf,rk]
 |1,_=>by
  obtain⟨h1,h2,h3,h4,h5,h6⟩:=lN;simp[fV,yr,wordOf,rk,aer,af2 h1]
 |2,_=>by
  obtain⟨h1,h2,h3,h4,h5,h6⟩:=lN;simp[fV,yr,wordOf,rk,aer,af2 h2,af2 h3]
 |3,_=>by
  obtain⟨h1,h2,h3,h4,h5,h6⟩:=lN;simp[fV,yr,wordOf,rk,aer,af2 h4,af2 h5,af2 h6]
 |n+4,h=>by omega
section
variable {CS CT:aj}
abbrev Q5:aJ:=top 53
theorem Q6:bZ ["_law_word","_law_left","_law_right","_law_told_here"] ["_law_word","_law_left","_law_right"] (bQ Q5):={}
set_option maxHeartbeats 1000000 in
theorem Z6 {bm bm':aP ak}{dD B d7 je B' oF:String}(F:iz K "_law_summed" "_law_summed" Q5 f fd)(OS:OwnCls "Stuck" CS bm' je mg aV)(FS:ExcBaseFacts B' je oF bm')(O:OwnCls "TooGreat" CT bm dD mg aV)(FB:ExcBaseFacts B dD d7 bm)(mi:mg "isinstance"=none)(mI:mg "int"=none)(ma:mg "abs"=none)(ms:mg "str"=none)(ml:mg "len"=none):cP P w K mg aV (fP P w) 1 f fd ["_law_word","_law_left","_law_right"] (Eo CS CT):=by
 refine F.tU Q6 (λdF A aU s H vs Q E hr h=>?_) (by rintro _ _ _ _ ⟨⟩<;>subst_vars<;>rfl);refine⟨_,bJ (dz (PW.pt<|Ck (jO<|jD (cu iu rfl mi boot_isinstance (bx (pv 1)<|bx (iU (v:=.ty "int") rfl mI boot_int rfl) bH))) (vC<|jO (jD<|cu iu rfl mi boot_isinstance (bx (pv 2)<|bx (iU (v:=.ty "int") rfl mI boot_int rfl) bH)))) (bO<|gG OS FS rfl (bx bV bH)) cN)
  (bJ (iy 3 Q6.nd (cO (qD hr) (Iv (pH bV (dN jt (pv 1)<|pv 2) (pH bV (dN zE (pv 1)<|pv 2) (pH bV (dN IK (pv 1)<|pv 2)
   (pH bV (eU pW rfl mI boot_int (bx (rE vH (pv 1)<|pv 2) bH)) Iu)))) rfl rfl (by simp) (by decide))<|pv 0))
  (bJ (dz (cH Cr (cu zL rfl ml af6 (bx (eU rG rfl ms boot_str (bx (cu Cw rfl ma yN (bx (pv 3) bH)) bH)) bH)) bK) (bO<|gG O FB rfl (bx bV bH)) cN)
  (bO<|cQ (pv 3)))),?_⟩
 rcases h with ⟨k,i,j,rfl,hk,hi,hj,q1,q2⟩|⟨z,v,u,rfl,hn,q⟩
 rotate_left
 ·rcases hn with ⟨r,xs,rfl,hr⟩|⟨⟨i,rfl⟩,r,xs,rfl,hr⟩
  ·exact⟨_,rfl,_,_,_,_,rfl, .tup hr,vW K,false,rfl,jK<|jK ⟨dO 1,λea _=>q ea H<|Same.refl _⟩⟩
  ·exact⟨_,rfl,_,_,_,_,rfl, .int i,oE K,true,rfl,lU ⟨_,rfl,_,_,_,_,rfl, .tup hr,vW K,false,rfl,jK ⟨dO 1,λea _=>q ea H<|Same.refl _⟩⟩⟩
 have hi:=Vc.mp hi;have hj:=Vc.mp hj;refine⟨_,rfl,_,_,_,_,rfl, .int i,oE K,true,rfl,lU ⟨_,rfl,_,_,_,_,rfl, .int j,oE K,true,rfl,lU ?_⟩⟩;refine λp hp=>?_;refine⟨_,rfl,_,rfl,_,_,rfl,rfl,_,rfl,_,rfl,_,_,rfl,rfl,_,rfl,_,rfl,_,_,rfl,rfl,Pr hi.1 hi.2 hj.1 hj.2,_,rfl,_,rfl,_,_,rfl,rfl, .inr ⟨_,rfl,bA,yr i j,rfl,(by show 4<=15;decide),?_⟩⟩;rw[show jG [] (yr i j)=yr i j from Z5 _ _ _ _,nQ];have e1:=bI hp (.dK<|yr i j);refine⟨_,rfl,p, .int<|rk k i j,rfl, .inl ⟨yr i j,Sum.inr<|wordOf k,(by first|exact bA|exact .inl bA),rfl,(Vd i j k hk).symm⟩,?_⟩;have rs:=Q0 (k:=k) hi hj;have fs:=Ly rs.1 rs.2;refine⟨_,rfl,_,rfl,_,rfl,fs,_,rfl,int_text_fits fs,_,_,rfl,rfl,_,rfl,gU (λc=>?_) λc=>?_⟩
 ·have c1:=(Xh<|rk k i j).mp (afZ c)
  exact⟨(dO 1),λea _=>q2 (λz=>c1<|Vc.mp z) ea _ e1⟩
 ·have c1:kh (rk k i j):=by
   by_cases z:kh (rk k i j)
   ·exact z
   ·exact absurd (af0<|(Xh<|rk k i j).mpr z) c
  exact⟨_,rfl,q1 (Vc.mpr c1) _ e1⟩
end
def Z7 (cD:List (Key×V))(ns:List Str)(vs:List V):Prop:=(∀(j:Nat) s,ns[j]?=some s->fV cD (Sum.inr s)=vs[j]?)/\∀s,s∉ns->fV cD (Sum.inr s)=none
mutual
inductive oU (N:aj->Prop)(H:Hp):V->Vl->Prop where
 |num {i:Int}:dJ i=true->oU N H (.int i) (.num i)
 |fn {r d:aj} {ns:List Str} {s:Str} {bv:V} {b:Tm} {env:List Vl} {cD:List (Key×V)} {vs:List V}:H r=some (.tup [.str "fn", .str s,bv, .ref d])->jM H (ns++[s]) bv b->H d=some (.dK cD)->N d->cD.length<=vs.length->Z7 cD ns vs->iC N H vs env->
   (ns++[s]).Nodup->ns.length=env.length->GT (env.length+1) b->env.length+1+6*dep b<=149->oU N H (.ref r) (.fn env.length b env)
 |bl {r l:aj} {k:Int} {vs:List V} {ws:List Vl}:H r=some (.tup [.str "bl", .int k, .ref l])->H l=some (.lst vs)->N l->iC N H vs ws->oU N H (.ref r) (.bl k ws)
inductive iC (N:aj->Prop)(H:Hp):List V->List Vl->Prop where
 |nil:iC N H [] []
 |cons {v:V} {w:Vl} {vs:List V} {ws:List Vl}:oU N H v w->iC N H vs ws->iC N H (v::vs) (w::ws)
end
section
variable {N N':aj->Prop}{H H':Hp}
@[elab_as_elim] theorem iC.ind {C:List V->List Vl->Prop} {vs:List V} {ts:List Vl} (h:iC N H vs ts) (n:C [] []) (c:∀{v t vs ts},oU N H v t->iC N H vs ts->C vs ts->C (v::vs) (t::ts)):C vs ts:=by
 induction ts generalizing vs with
 |nil=>cases h;exact n
 |cons t ts ih=>cases h with
  |cons r q=>exact c r q<|ih q
theorem iC.mono (tp:BR H H')(kd:∀b o,N b->H b=some o->N' b/\H' b=some o){vs:aP V}{ws:aP Vl}(h:iC N H vs ws):iC N' H' vs ws :=
 iC.rec (motive_1:=λv w _=>oU N' H' v w) (motive_2:=λv w _=>iC N' H' v w) .num (λh1 h2 h3 h4 h5 h6 _ h8 h9 h10 h11 ih=>.fn (tp _ _ h1) (h2.tps tp) (kd _ _ h4 h3).2 (kd _ _ h4 h3).1 h5 h6 ih h8 h9 h10 h11) (λh1 h2 h3 _=>.bl (tp _ _ h1) (kd _ _ h3 h2).2 (kd _ _ h3 h2).1) .nil (λ_ _=>.cons) h
theorem oU.mono (tp:BR H H')(kd:∀b o,N b->H b=some o->N' b/\H' b=some o){v:V}{w:Vl}(h:oU N H v w):oU N' H' v w:=by
 cases iC.mono tp kd (.cons h .nil) with
 |cons r _=>exact r
theorem iC.len {vs:aP V}{ws:aP Vl}(h:iC N H vs ws):vs.length=ws.length:=h.ind rfl λ_ _ ih=>congrArg (·+1) ih
theorem iC.get {vs:List V}{ts:List Vl}{j:Nat}{t:Vl}(h:iC N H vs ts)(e:ts[j]?=some t):∃v,vs[j]?=some v/\oU N H v t:=by
 induction ts generalizing vs j with
 |nil=>simp at e
 |cons u us ih=>cases h with
  |cons r q=>cases j with
   |zero=>cases e;exact⟨_,rfl,r⟩
   |succ j=>exact(ih (j:=j) q e:)
theorem iC.snoc {v:V}{w:Vl}{vs:aP V}{ws:aP Vl}(k:iC N H vs ws)(h:oU N H v w):iC N H (vs++[v]) (ws++[w]):=k.ind (.cons h .nil) λr _ ih=>.cons r ih
end
def lQ (H:Hp)(N:aj->Prop)(ns:List Str)(d:aj)(env:List Vl):Prop:=∃(cD:List (Key×V)) (vs:List V),H d=some (.dK cD)/\N d/\cD.length<=vs.length/\Z7 cD ns vs/\iC N H vs env/\ns.length=env.length
def Kw (wd:aj)(H H':Hp):Prop:=∀b o,b≠wd->H b=some o->H' b=some o
theorem Kw.refl {wd:aj}{H:Hp}:Kw wd H H:=λb o _ h=>h
theorem Kw.trans {wd:aj}{H H1 H2:Hp}(a:Kw wd H H1)(b:Kw wd H1 H2):Kw wd H H2:=λc o n h=>b c o n (a c o n h)
theorem jc {wd:aj}{H H':Hp}(s:Same H H'):Kw wd H H':=λc o _ h=>s c o h
theorem Z8 {wd:aj}{H:Hp}{o:HO}:Kw wd H (upd H wd o):=λc u n h=>by rw[bR n];exact h
def Al (N:aj->Prop)(H H':Hp):aj->Prop:=λb=>N b\/(H b=none/\H' b≠none)
theorem Al.step {N N1:aj->Prop}{H H1 H2:Hp}{wd:aj}(sub:∀b,N1 b->Al N H H1 b)(k1:Kw wd H H1)(k2:Kw wd H1 H2)(n0:H wd≠none)(n1:H1 wd≠none):∀b,Al N1 H1 H2 b->Al N H H2 b:=λb hb=>by
 rcases hb with z|⟨z1,z2⟩
 ·rcases sub b z with y|⟨y1,y2⟩
  ·exact .inl y
  ·refine .inr ⟨y1,?_⟩
   obtain⟨o,ho⟩:=Option.ne_none_iff_exists'.mp y2;rw[k2 b o (λe=>n0<|by rw[<-e];exact y1) ho];simp
 ·refine .inr ⟨?_,z2⟩
  cases hq:H b with
  |none=>rfl
  |some o=>rw[k1 b o (λe=>n1<|by rw[<-e];exact z1) hq]at z1;cases z1
theorem Al.refl {N:aj->Prop}{H:Hp}{b:aj}(h:Al N H H b):N b:=by
 rcases h with z|⟨z1,z2⟩
 ·exact z
 ·exact absurd z1 z2
structure mJ (H:Hp)(N:aj->Prop)(wd:aj)(c:Nat)(most:Int):Prop where
 dk:∃cD:List (Key×V),H wd=some (.dK cD)/\cD.length<=10/\fV cD (Sum.inr "calls")=some (.int (c:Int))/\fV cD (Sum.inr "most")=some (.int most)
 nw:¬N wd
 ex:∀b,N b->H b≠none
section
variable {N N':aj->Prop}{wd:aj}{H H':Hp}{c:Nat}{most:Int}
theorem mJ.there (w:mJ H N wd c most):H wd≠none:=by
 obtain⟨cD,h1,_⟩:=w.dk;rw[h1];simp
theorem mJ.tps (w:mJ H N wd c most)(k:Kw wd H H'):BR H H':=λb ys h=>by
 obtain⟨cD,h1,_⟩:=w.dk;exact k b _ (jg h h1<|by intro z;cases z) h
theorem mJ.kd (w:mJ H N wd c most)(k:Kw wd H H'):∀b o,N b->H b=some o->N b/\H' b=some o:=λb cD n e=>⟨n,k b _ (λz=>w.nw<|by rw[<-z];exact n) e⟩
theorem mJ.val (w:mJ H N wd c most)(k:Kw wd H H'){v:V}{x:Vl}(h:oU N H v x):oU N H' v x:=h.mono (w.tps k) (w.kd k)
theorem mJ.vals (w:mJ H N wd c most)(k:Kw wd H H'){v:aP V}{x:aP Vl}(h:iC N H v x):iC N H' v x:=h.mono (w.tps k) (w.kd k)
theorem mJ.env (w:mJ H N wd c most)(k:Kw wd H H'){ns:aP Str}{e:aj}{env:aP Vl}(h:lQ H N ns e env):lQ H' N ns e env:=by
 obtain⟨cD,vs,h1,h2,h3,h4,h5,h6⟩:=h;exact⟨cD,vs,(w.kd k e _ h2 h1).2,h2,h3,h4,h5.mono (w.tps k)<|w.kd k,h6⟩
theorem lQ.wide {ns:aP Str}{e:aj}{env:aP Vl}(h:lQ H N ns e env)(sub:∀b,N b->N' b):lQ H N' ns e env:=by
 obtain⟨cD,vs,h1,h2,h3,h4,h5,h6⟩:=h;exact⟨cD,vs,h1,sub _ h2,h3,h4,h5.mono (λb ys h=>h) λb cD n q=>⟨sub b n,q⟩,h6⟩
theorem oU.wide {v:V}{x:Vl}(h:oU N H v x)(sub:∀b,N b->N' b):oU N' H v x:=h.mono (λb ys h=>h) λb cD n q=>⟨sub b n,q⟩
theorem iC.wide {v:aP V}{x:aP Vl}(h:iC N H v x)(sub:∀b,N b->N' b):iC N' H v x:=h.mono (λb ys h=>h) λb cD n q=>⟨sub b n,q⟩
theorem mJ.wide (w:mJ H N wd c most)(sub:∀b,N b->N' b)(nw:¬N' wd)(ex:∀b,N' b->H b≠none):mJ H N' wd c most:=⟨w.dk,nw,ex⟩
theorem mJ.same (w:mJ H N wd c most)(s:Same H H'):mJ H' N wd c most:=by
 obtain⟨cD,h1,g⟩:=w.dk;refine⟨⟨cD,s _ _ h1,g⟩,w.nw,λb n=>?_⟩;obtain⟨o,ho⟩:=Option.ne_none_iff_exists'.mp (w.ex b n);rw[s b o ho];simp
theorem mJ.Xi {H0:Hp}{N0:aj->Prop}{c0:Nat}(w:mJ H N wd c most)(w0:mJ H0 N0 wd c0 most)(sub:∀b,N b->Al N0 H0 H b)(k:Kw wd H0 H):mJ H (Al N0 H0 H) wd c most:=by
 refine w.wide sub (λz=>?_) λb hb=>?_
 ·rcases z with y|⟨y,_⟩
  ·exact w0.nw y
  ·exact w0.there y
 ·rcases hb with y|⟨_,y⟩
  ·obtain⟨o,ho⟩:=Option.ne_none_iff_exists'.mp (w0.ex b y)
   rw[k b o (λz=>w0.nw<|by rw[<-z];exact y) ho];simp
  ·exact y
theorem Q7 {cD:aP (Key×V)}{k:Key}{v:V}{y:V}(h:fV cD k=some v):(putK cD k y).length=cD.length:=by
 unfold putK;rw[nG,h];simp
theorem Bo:("most":Str)≠"calls":=by decide+kernel
theorem Z9 {o:HO}(h:∀b,N b->H b≠none):∀b,N b->(upd H wd o) b≠none:=λb n=>by
 by_cases z:b=wd
 ·subst z;rw[bA];simp
 ·rw[bR z];exact h b n
theorem mJ.adf (w:mJ H N wd c most){cD:aP (Key×V)}(h:H wd=some (.dK cD))(c2:Nat):mJ (upd H wd<|.dK (putK cD (Sum.inr "calls")<|.int (c2:Int))) N wd c2 most:=by
 obtain⟨kvs',h1,l,g1,g2⟩:=w.dk;rw[h]at h1;cases h1;exact⟨⟨_,bA,by rw[Q7 g1];exact l,by rw[rO,afX rfl],by rw[rO,afY (ne4 Bo)];exact g2⟩,w.nw,Z9 w.ex⟩
theorem Z7.more {cD:aP (Key×V)}{ns:aP Str}{vs:aP V}{s:Str}(h:Z7 cD ns vs)(l:ns.length=vs.length)(n:s∉ns)(v:V):Z7 (putK cD (Sum.inr s) v) (ns++[s]) (vs++[v])/\(putK cD (Sum.inr s) v).length=cD.length+1:=by
 refine⟨⟨λj y hj=>?_,λy hy=>?_⟩,by rw[O1 _ (h.2 s n),adV];rfl⟩
 ·rw[rO]
  by_cases c:j<ns.length
  ·rw[ad6 c]at hj
   rw[afY (λz=>n<|by rw[<-Sum.inr.inj z];exact aeJ hj),h.1 j y hj,ad6 (by rw[<-l];exact c)]
  ·have lj:j<(ns++[s]).length:=(aga hj).1
   rw[adV]at lj;have e:j=ns.length:=by simp at lj;omega
   subst e;simp at hj;subst hj;rw[afX rfl,l];simp
 ·rw[rO,afY (λz=>hy<|by rw[Sum.inr.inj z];simp)]
  exact h.2 y λz=>hy (aew _ z)
theorem lQ.more {ns:aP Str}{s:Str}{e:aj}{env:aP Vl}{cD:aP (Key×V)}{vs:aP V}(h1:cD.length<=vs.length)(h2:Z7 cD ns vs)(h3:iC N H' vs env)(l:ns.length=env.length)(nd:(ns++[s]).Nodup){v:V}{x:Vl}(hv:oU N H' v x)(ne:N e)(he:H' e=some (.dK<|putK cD (Sum.inr s) v)):lQ H' N (ns++[s]) e (env++[x]):=by
 have lv:=h3.len;have n:s∉ns:=λz=>by
  have:=(List.nodup_append.mp nd).2.2;exact this s z s (by simp) rfl
 obtain⟨a,b⟩:=h2.more (l.trans lv.symm) n v;exact⟨_,vs++[v],he,ne,by rw[b,adV];exact afG h1,a,h3.snoc hv,by rw[adV,adV,l];rfl⟩
end
theorem iC.app {N:aj->Prop}{H:Hp}{vs vs':aP V}{ws ws':aP Vl}(h:iC N H vs ws)(k:iC N H vs' ws'):iC N H (vs++vs') (ws++ws'):=h.ind k λr _ ih=>.cons r ih
theorem oU.call {N:aj->Prop}{H:Hp}{u:V}{w:Vl}{b:Tm}{env:List Vl}(h:oU N H u w)(c:qI w=some (b,env)):∃(ns:List Str) (s:Str) (r d:aj) (bv:V),u=.ref r/\H r=some (.tup [.str "fn", .str s,bv, .ref d])/\jM H (ns++[s]) bv b/\lQ H N ns d env/\(ns++[s]).Nodup/\GT (env.length+1) b/\env.length+1+6*dep b<=149:=by
 cases h with
 |num hi=>cases c
 |fn h1 h2 h3 h4 h5 h6 h7 h8 h9 h10 h11=>cases c;exact⟨_,_,_,_,_,rfl,h1,h2,⟨_,_,h3,h4,h5,h6,h7,h9⟩,h8,h10,h11⟩
 |bl=>cases c
theorem oU.G9 {N:aj->Prop}{H:Hp}{u:V}{w:Vl}(h:oU N H u w)(c:qI w=none):(∃i,u=.int i)\/∃(r:aj) (xs:List V),u=.ref r/\H r=some (.tup (.str "bl"::xs)):=by
 cases h with
 |num hi=>exact .inl ⟨_,rfl⟩
 |fn=>cases c
 |bl h1=>exact .inr ⟨_,_,rfl,h1⟩
theorem oU.dec {N:aj->Prop}{H:Hp}{u:V}{w:Vl}(h:oU N H u w):(∃i,w=.num i/\u=.int i/\dJ i=true)\/((∀i,w≠.num i)/\NoI H u):=by
 cases h with
 |num hi=>exact .inl ⟨_,rfl,rfl,hi⟩
 |fn h1=>exact .inr ⟨λi z=>(by cases z),_,_,rfl,h1⟩
 |bl h1=>exact .inr ⟨λi z=>(by cases z),_,_,rfl,h1⟩
theorem oU.adg {N:aj->Prop}{H:Hp}{u:V}{w:Vl}(h:oU N H u w):(∃(k:Int) (ws:List Vl) (r l:aj) (vs:List V),w=.bl k ws/\u=.ref r/\H r=some (.tup [.str "bl", .int k, .ref l])/\H l=some (.lst vs)/\N l/\iC N H vs ws)\/((∀k ws,w≠.bl k ws)/\((∃i,u=.int i)\/∃(r:aj) (xs:List V),u=.ref r/\H r=some (.tup (.str "fn"::xs)))):=by
 cases h with
 |num hi=>exact .inr ⟨λ_ _ z=>(by cases z), .inl ⟨_,rfl⟩⟩
 |fn h1=>exact .inr ⟨λ_ _ z=>(by cases z), .inr ⟨_,_,rfl,h1⟩⟩
 |bl h1 h2 h3 h4=>exact .inl ⟨_,_,_,_,_,rfl,rfl,h1,h2,h3,h4⟩
noncomputable def Ep (CS CT gO:aj):Rs->Option aj
 |.val _=>none
 |.long=>some gO
 |.deep=>none
 |.great=>some CT
 |.stuck=>some CS
inductive aac (CS CT gO:aj)(m:Nat)(vs:List V)(H:Hp)(Q:VK)(E:XK):Prop where
 |mk (v:V) (od wd:aj) (N:aj->Prop) (ns:List Str) (t:Tm) (env:List Vl) (c d:Nat) (most:Int) (r:Rs) (c':Nat):vs=[v, .ref od, .ref wd]->jM H ns v t->lQ H N ns od env->mJ H N wd c most->GT env.length t->env.length+6*dep t<=149->ev most [] m d t env c=some (r,c')->r≠.deep->(∀w,r=.val w->∀u H',oU (Al N H H') H' u w->mJ H' (Al N H H') wd c' most->Kw wd H H'->Q u H')->(∀C,Ep CS CT gO r=some C->∀ea H',Kw wd H H'->E (.ref C) (some ea) H')->aac CS CT gO m vs H Q E
def qL (CS CT gO:aj):Nat->Sp
 |0=>λ_ _ _ _=>False
 |m+1=>aac CS CT gO (m+1)
def Q8 (most:Int)(m d:Nat)(x w:Vl)(c:Nat):Option (Rs×Nat):=match qI x with
 |some (b,env)=>if most<(c:Int)+1 then some (.long,c) else if 10<d+1 then some (.deep,c) else ev most [] m (d+1) b (env++[w]) (c+1)
 |none=>some (.stuck,c)
inductive Q9 (CS CT gO:aj)(m:Nat)(vs:List V)(H:Hp)(Q:VK)(E:XK):Prop where
 |mk (u v:V) (wd:aj) (N:aj->Prop) (x w:Vl) (c d:Nat) (most:Int) (r:Rs) (c':Nat):vs=[u,v, .ref wd]->oU N H u x->oU N H v w->mJ H N wd c most->Q8 most m d x w c=some (r,c')->r≠.deep->(∀w,r=.val w->∀u H',oU (Al N H H') H' u w->mJ H' (Al N H H') wd c' most->Kw wd H H'->Q u H')->(∀C,Ep CS CT gO r=some C->∀ea H',Kw wd H H'->E (.ref C) (some ea) H')->Q9 CS CT gO m vs H Q E
theorem Xj:("bl":Str)≠"fn"/\("fn":Str)≠"bl":=by decide+kernel
theorem Bp (K:aN):kitOne K (.type "tuple") (.type "tuple")=some true:=by first|rfl|kernel_rfl
section
variable {CS CT gO:aj}
abbrev Jv:aJ:=top 52
noncomputable abbrev pEn:List Str:=["_law_function","_law_value","_law_world"]
noncomputable abbrev nEn:List Str:=["_law_function","_law_value","_law_world","_law_own"]
theorem Ra:bZ nEn pEn (bQ Jv):={}
abbrev sV:List Str:=["_law_term","_law_own","_law_world"]
set_option maxHeartbeats 4000000 in
theorem aad {m k:Nat}{fW:aj}{gW:FuncData}{bm bm':List ak}{dD B d7 je B' oF:String}(F:iz K "_law_entered" "_law_entered" Jv f fd)(mi:mg "isinstance"=none)(mt:mg "tuple"=none)(mD:mg "dict"=none)(O:OwnCls "TooLong" gO bm dD mg aV)(FB:ExcBaseFacts B dD d7 bm)(OS:OwnCls "Stuck" CS bm' je mg aV)(FS:ExcBaseFacts B' je oF bm')
  (G:cP P w K mg aV (fP P w) k fW gW sV (qL CS CT gO m)) (mW:mg "_law_worked"=some (.ref fW)) (kW:keepIn K (.ref fW)=true) (bW:Binds K gW sV []):cP P w K mg aV (fP P w) (k+1) f fd pEn (Q9 CS CT gO m):=by
 refine F.tU Ra λdF A aU s H vs Q E hr h=>?_;obtain⟨u,v,wd,N,x,w,c,d,most,r,c',rfl,hu1,hv1,wl,he,nd,q1,q2⟩:=h;have hu:=qD hr;refine⟨_,bJ (dz (PW.pt<|Ck (jO<|jD (cu iu rfl mi boot_isinstance (bx (pv 0)<|bx (iU (v:=.ty "tuple") rfl mt boot_tuple rfl) bH))) (vC<|cH Cq (bY (fG K) (pv 0) bK) bV)) (bO<|gG OS FS rfl (bx bV bH)) cN)
  (bJ (dz (cH Ww (cO hu (pv 2) bV)<|cO hu (pv 2) bV) (bO<|gG O FB rfl (bx bV bH)) cN)
  (bJ (uU hu (pv 2) bV (dN jt (cO hu (pv 2) bV) bK) rfl)
  (bJ (iy 3 Ra.nd<|eU pQ rfl mD qZ (bx (bY (fG K) (pv 0) bK) bH))
  (bJ (uU hu (pv 3) (bY (fG K) (pv 0) bK) (pv 1) rfl)
  (bO<|cQ (eF G hr rfl mW kW bW .nil cX (bx (bY (fG K) (pv 0) bK)<|bx (pv 3) (bx (pv 2) bH)))))))),?_⟩
 obtain⟨cD,Jw,lk,g1,g3⟩:=wl.dk;cases hcv:qI x with
 |none=>
  have e:r=.stuck/\c'=c:=by
   unfold Q8 at he;rw[hcv]at he;cases he;exact⟨rfl,rfl⟩
  rcases hu1.G9 hcv with ⟨i,rfl⟩|⟨rr,xs,rfl,hb⟩
  ·exact⟨_,rfl,_,_,_,_,rfl, .int i,GP K,false,rfl,jK (jK ⟨dO 1,λea _=>q2 CS (by rw[e.1];rfl) ea _ λb o _ h=>h⟩)⟩
  ·refine⟨_,rfl,_,_,_,_,rfl, .tup hb,Bp K,true,rfl,lU<|cV (a:=rr) (j:=0) rfl hb rfl ⟨rfl,_,rfl,gU (λ_=>?_) λz=>?_⟩⟩
   ·exact⟨dO 1,λea _=>q2 CS (by rw[e.1];rfl) ea _ λb o _ h=>h⟩
   ·exact absurd (by rw[afW (λe=>Xj.1<|V.str.inj e)];rfl) z
 |some be=>
  obtain⟨b,env⟩:=be;unfold Q8 at he;rw[hcv]at he;dsimp only at he;obtain⟨ns,sx,rr,dd,bv,rfl,f1,f2,⟨Ve,fvs,f3,f4,f5,f6,f7,f8⟩,ndS,f9,f10⟩:=hu1.call hcv;refine⟨_,rfl,_,_,_,_,rfl, .tup f1,Bp K,true,rfl,lU (cV (a:=rr) (j:=0) rfl f1 rfl ⟨rfl,_,rfl,gU (λz=>absurd z<|by simp) λ_=>?_⟩)⟩;refine(dY rfl Jw g1 (dY rfl Jw g3 ⟨_,_,rfl,rfl,_,rfl,gU (λz=>?_) λz=>?_⟩))
  ·have z1:most<=(c:Int):=afZ z
   rw[afX (by omega)]at he;cases he;exact⟨(dO 1),λea _=>q2 gO rfl ea _ (λb o _ h=>h)⟩
  have z1:¬most<=(c:Int):=λy=>z (af0 y);rw[afY (by omega)]at he;by_cases y1:10<d+1
  ·rw[afX y1]at he
   cases he;exact absurd rfl nd
  rw[afY y1]at he;refine(dY rfl Jw g1 ⟨_,_,rfl,rfl,_,rfl,wd,_,rfl,Dt.k (k:=Sum.inr "calls") Jw (dB<|by exact ad2 lk<|by decide),?_⟩)
  try dsimp only
  rw[show(c:Int)+1=((c+1:Nat):Int) from rfl];have w2:=wl.adf Jw (c+1);have k2:Kw wd H (upd H wd<|.dK (putK cD (Sum.inr "calls")<|.int ((c+1:Nat):Int))):=Z8;revert w2 k2;generalize upd H wd (.dK<|putK cD (Sum.inr "calls") (.int ((c+1:Nat):Int)))=H3;intro w3 Ls;have hv3:=wl.val Ls hv1;have f13:=wl.tps Ls _ _ f1;have f23:=f2.tps (wl.tps Ls);have f33:=(wl.kd Ls _ _ f4 f3).2;have f73:=wl.vals Ls f7;refine(cV (a:=rr) (j:=3) rfl f13 rfl ⟨dd,Ve,rfl,f33,λd4 hd4=>?_⟩);have s4:=bI hd4 (.dK Ve);refine⟨_,rfl,_,rfl,cV (a:=rr) (j:=1) rfl (s4 _ _ f13) rfl ⟨d4,_,rfl,Dt.k (k:=Sum.inr sx) bA (dB<|by have:=f7.len;omega),?_⟩⟩;have n4:d4≠wd:=by
   obtain⟨kv3,adh,_⟩:=w3.dk;exact cJ hd4 adh
  have s5:Same H3 (upd (upd H3 d4<|.dK Ve) d4<|.dK (putK Ve (Sum.inr sx) v)):=λb o h=>by
   rw[bR (bU h hd4),bR (bU h hd4)];exact h
  have h5:(upd (upd H3 d4<|.dK Ve) d4<|.dK (putK Ve (Sum.inr sx) v)) d4=some (.dK<|putK Ve (Sum.inr sx) v):=bA;revert s5 h5;generalize upd (upd H3 d4<|.dK Ve) d4 (.dK<|putK Ve (Sum.inr sx) v)=H5;intro s5 h5;have RW:=Ls.trans (jc s5);have aae:∀b,(N b\/b=d4)->Al N H H5 b:=λb hb=>by
   rcases hb with z|z
   ·exact .inl z
   ·subst z
    refine .inr ⟨?_,by rw[h5];simp⟩;cases hq:H b with
    |none=>rfl
    |some o=>rw[Ls b o n4 hq]at hd4;cases hd4
  have w5:mJ H5 (λb=>N b\/b=d4) wd (c+1) most:=(w3.same s5).wide (λb hb=>.inl hb) (λz=>z.elim w3.nw λe=>n4 e.symm) (λb hb=>by
   rcases hb with z|z
   ·exact(w3.same s5).ex b z
   ·subst z;rw[h5];simp)
  have f75:iC (λb=>N b\/b=d4) H5 fvs env:=(w3.vals (jc s5) f73).wide λb hb=>.inl hb;have ev5:lQ H5 (λb=>N b\/b=d4) (ns++[sx]) d4 (env++[w]):=lQ.more f5 f6 f75 f8 ndS ((w3.val (jc s5) hv3).wide λb hb=>.inl hb) (.inr rfl) h5;have hm:∃j,m=j+1:=by
   cases m with
   |zero=>cases he
   |succ j=>exact⟨j,rfl⟩
  obtain⟨j,rfl⟩:=hm;refine(cV (a:=rr) (j:=2) rfl (s5 _ _ f13) rfl ⟨_,rfl,_,rfl,bv,d4,wd,(λb=>N b\/b=d4),ns++[sx],b,env++[w],c+1,d+1,most,r,c',rfl,f23.same s5,ev5,w5,by rw[adV];exact f9,by rw[adV];simp;exact f10,he,nd,λw' hw' u' H6 hu6 w6 k6=>?_,λC hC ea H6 k6=>q2 C hC ea H6<|RW.trans k6⟩);have st:∀b,Al (λb=>N b\/b=d4) H5 H6 b->Al N H H6 b:=Al.step aae RW k6 wl.there w5.there;have k06:=RW.trans k6;exact q1 w' hw' u' _ (hu6.wide st) (w6.Xi wl st k06) k06
end
end Fw
namespace L2
section
variable {M:Model}{A:aq}{E:ak->ao->Prop}{s:ao}{aV:aK}{e:aj}{cls a0 fl:ak}{Q:Unit->ao->Prop}
theorem zx {l:aP Env}(fr:aO aj)(f1:aV.StaysIn s.heap)(f3:s.heap.FunFrames aV l)(f4:s.heap.TracedAtW aV e cls a0 fl)
  (hQ:∀h',aV.StaysIn h'->h'.FunFrames aV l->h'.TracedAtW aV e cls a0 (fr.elim Value.none λf=>rawInt f)->(∀b o,s.heap.get? b=some o->(∀vs,o.data≠.fields vs)->h'.get? b=some o)->Q () {s with heap:=h'}):
  wpAny M A (setFlight (.ref e) fr) Q E s:=by
 obtain⟨ob,ws,T,oT,ts,ge,gc,gd,g1,gn,Xk,gT,Jx,g3⟩:=f4;have sz:3<ts.size:=(Array.getElem?_eq_some_iff.mp g3).1;have off:∀b,b≠T->(s.heap.update T<|Obj.mapFields (·.setIfInBounds 3 (fr.elim Value.none λf=>rawInt f))).get? b=s.heap.get? b:=λb z=>aeM _ _ (af2 z);have Rb:∀b o,s.heap.get? b=some o->(∀vs,o.data≠.fields vs)->b≠T:=λb o q n z=>by
  subst z;rw[gT]at q;cases q;exact n ts Jx
 unfold setFlight;refine abI<|af8 ge gd g1 ?_;rw[afX (by simp)];refine wpAny_setField gT Jx sz<|hQ _ (λb o q=>?_) (f3.of_keeps λb o q n=>⟨o,(off b<|Rb b o q n).trans q,rfl⟩) ?_ λb o q n=>(off b<|Rb b o q n).trans q
 ·rw[off b (λz=>by rw[z,gn]at q;cases q)]
  exact f1 b o q
 ·exact⟨ob,ws,T,_,_,(off e<|af2 Xk).trans ge,gc,gd,g1,gn,Xk,aeO _ gT<|Obj.isFreed_of_fields (Obj.data_mapFields Jx _),Obj.data_mapFields Jx _,by simp[sz]⟩
theorem Hj {env:Env}{aU:aP Env}{L:aj}(hfr:A.frames=some (env::aU))(hf:env.frame=some L)(f1:aV.StaysIn s.heap)(f2:aV.get? e=none)(f3:s.heap.FunFrames aV (env::aU))(f4:s.heap.TracedAtW aV e cls a0 fl)
  (hQ:∀h',Heap.FlyingW aV aU e cls a0 h'->s.heap.UpToSlots h'->Q () {s with heap:=h'}):wpAny M A (leaving env<|.ref e) Q E s:=by
 by_cases hb:(fl==rawInt L)=true
 ·obtain⟨ob,ws,T,oT,ts,ge,gc,gd,g1,gn,Xk,gT,Jx,g3⟩:=id f4
  unfold leaving noteFrame;simp only[hf];refine abI<|abI (af8 ge gd g1 ?_);rw[afX (by simp)];refine abI<|af8 gT Jx g3 ?_;rw[afX hb];refine afV<|zx none f1 f3 f4 λh' k1 k2 k3 k4=>hQ h' ⟨k1,f2,k2.2.2,k3⟩ λb o q n=>⟨o.slots,k4 b o q n⟩
 ·obtain⟨ob,ws,T,oT,ts,ge,⟨gc,g0⟩,gd,g1,gn,Xk,gT,Jx,g3⟩:=f4
  subst gc;unfold leaving noteFrame;simp only[hf];refine abI<|abI (af8 ge gd g1 ?_);rw[afX (by simp)];refine abI<|af8 gT Jx g3 ?_;rw[afY hb];refine abI<|wpAny_setField gT Jx (Array.getElem?_eq_some_iff.mp g3).1 ?_;have off:∀b,b≠T->(s.heap.update T<|Obj.mapFields (·.setIfInBounds 3 Value.none)).get? b=s.heap.get? b:=λb z=>aeM _ _ (af2 z);have Rb:∀b o,s.heap.get? b=some o->(∀vs,o.data≠.fields vs)->b≠T:=λb o q n z=>by
   subst z;rw[gT]at q;cases q;exact n ts Jx
  refine wpAny_newEntryW hfr (f3.of_keeps λb o q n=>⟨o,(off b<|Rb b o q n).trans q,rfl⟩) hf ((off e<|af2 Xk).trans ge) (λb o q=>?_) f2 gd (Array.getElem?_eq_some_iff.mp g1).1 g0 λh' k=>?_
  ·rw[off b (λz=>by rw[z,gn]at q;cases q)]
   exact f1 b o q
  ·obtain⟨k1,⟨_,_,k2⟩,k3,k4⟩:=k
   exact hQ h' ⟨k1,f2,k2,k3⟩ λb o q n=>k4 b o ((off b<|Rb b o q n).trans q) n
end
theorem yt {h aV base':aK}(k:∀b,aV.get? b=none->base'.get? b=none){l:List Env}(q:h.FunFrames aV l):h.FunFrames base' l:=by
 induction l with
 |nil=>trivial
 |cons _ _ ih=>
  obtain⟨h1,⟨L,o,e1,e2,e3,e4⟩,h2⟩:=q;exact⟨h1,⟨L,o,e1,k L e2,e3,e4⟩,ih h2⟩
section
variable {P:aA}{w:aG}{K:aN}{mg:Str->Option ak}{aV:aK}{N:List Str}{bf:Str}{aZ:Scope}{f:aj}{cd:ak}{A:aq}{aU:List Env}{s:ao}{H:Hp}{E:XK}
def XC (X:Cx)(N':List Str)(sc:Scope)(E:XK):aj->ao->Hp->List aj->ak->ao->Prop:=λC s2 H2 ex e s'=>∃(bG:List (aj×Obj)) (U:St) (H1:Hp) (s1:ao),Inv (fU X N' sc C s2 H2 ex) bG U H1 s1/\fP X.prog X.w X.stack H1 s1 E e s'
theorem Inv.adi {X:Cx}{N':aP Str}{sc:Scope}{C:aj}{s2:ao}{H2:Hp}{ex:aP aj}{XE:aj->ao->Hp->aP aj->ak->ao->Prop}{bG:aP (aj×Obj)}{U:St}{H1:Hp}{s1:ao}(I:Inv (fZ X N' sc C s2 H2 ex XE) bG U H1 s1):Inv (fU X N' sc C s2 H2 ex) bG U H1 s1 :=
 ⟨⟨I.ok.mod,I.ok.kind,I.ok.glob,I.ok.blt,I.ok.above,I.ok.inj,I.ok.has,I.ok.cab,I.ok.hd,I.ok.frames,I.ok.stk,I.ok.R6,I.ok.bs,I.ok.BL,I.ok.uD,I.ok.vq,I.ok.mO,I.ok.Fq⟩,I.os,I.bare,I.base,I.loc,I.cell,I.free,I.jh,I.pin,I.hok,I.len⟩
theorem Er {X:Cx}{N':aP Str}{sc:Scope}{C:aj}{s2:ao}{H2:Hp}{ex:aP aj}{E:XK}:Passes (fP X.prog X.w) (fZ X N' sc C s2 H2 ex<|XC X N' sc E) E :=
 λbG U H1 s1 e s' I h=>⟨bG,U,H1,s1,I.adi,h⟩
theorem Es {sc:Scope}{N':List Str}{use:Option (ak->Sem Unit)}{Q':ak->ao->Prop}{bG:List (aj×Obj)}{U:St}{C:aj}{s2:ao}{H2:Hp}{ex:List aj}{D:aj}
  (I2:Inv (dX (fP P w) P w K mg aV N bf aZ f cd A aU s H E) bG U H2 s2) (f2:∀b∈ex,vD (dX (fP P w) P w K mg aV N bf aZ f cd A aU s H E) bG H2 b) (hC:s2.heap.objs.size<=C) (e:ak) (s':ao)
  (h:XC (dX (fP P w) P w K mg aV N bf aZ f cd A aU s H E) N' sc E C s2 H2 ex e s'):
  notedBy (model P w) (dX (fP P w) P w K mg aV N bf aZ f cd A aU s H E).A (compEnvC sc (jN (dX (fP P w) P w K mg aV N bf aZ f cd A aU s H E).env.cells sc.names []) C (dX (fP P w) P w K mg aV N bf aZ f cd A aU s H E).env)
   (λx s''=>compPost (model P w) (dX (fP P w) P w K mg aV N bf aZ f cd A aU s H E).A (dX (fP P w) P w K mg aV N bf aZ f cd A aU s H E).xe use Q' (.ref D) C (.error x) s'') e s':=by
 obtain⟨p1,U1,H1,s1,I1,ea,Cc,H',rfl,⟨os,bare,un,hok,vN,B,t,fl,mj⟩,hE⟩:=h;have J1:Inv (fU (dX (fP P w) P w K mg aV N bf aZ f cd A aU s H E) N' sc C s2 H2 ex) p1 U1 H' s':=I1.call' os un hok bare (λb z=>absurd z<|by simp);generalize hX:dX (fP P w) P w K mg aV N bf aZ f cd A aU s H E=X at*;have J:Inv X bG U H' s':=by
  refine I2.call' (ch:=ex) J1.os J1.base J1.hok J1.bare λb hb=>?_;obtain⟨_,g1,g2,g3,g4,g5⟩:=f2 b hb;exact⟨g3,g1,g4,g5⟩
 have lg:X.stack=X.env::X.outer:=by rw[<-hX];rfl
 have hfr:X.env.frame=some X.env.locals:=by rw[<-hX];rfl
 have hxe:∀e s',X.xe e s'=wpAny (model P w) X.A (leaving X.env e) (λ_ s''=>fP P w X.outer X.H₀ X.s₀ E e s'') (λe' s''=>fP P w X.outer X.H₀ X.s₀ E e' s'') s':=by rw[<-hX];exact λ_ _=>rfl
 have hex:X.ex=[]:=by rw[<-hX];rfl
 have hP:X.prog=P:=by rw[<-hX];rfl
 have hw:X.w=w:=by rw[<-hX];rfl
 clear hX;have fr:X.A.frames=some (X.env::X.outer):=by rw[<-lg];exact J.ok.frames
 rw[lg]at fl mj;have C0:∀o,X.s₀.heap.get? C≠some o:=λo q=>absurd (ad4 (ad1 q)<|ad2 I2.sz hC) (aed _);have CH:H' C=none:=J1.free;obtain⟨m,hn,_⟩:=J1.loc;have hn':s'.heap.Ns C m:=hn;have Cl:∃oC,s1.heap.get? C=some oC:=by
  obtain⟨m1,hn1,_⟩:=I1.loc;obtain⟨o,_,_,q,_⟩:=(show s1.heap.Ns C m1 from hn1);exact⟨o,q⟩
 have Cfr:C∉frs (X.env::X.outer):=λz=>by
  rw[<-lg]at z;rcases aev.mp (J.jC C z) with y|y
  ·have q:=I2.lt
   rw[<-y]at q;exact absurd (ad4 q hC)<|aed _
  ·exact I2.R7 hC y
 obtain⟨oC,eC,pC,qC,dC,_⟩:=id hn';show wpAny _ _ (noteFrame (.ref ea) X.env) _ _ s';refine wpAny_looks_onW fr hfr fl λh4 held up4=>?_;refine⟨m,up4.ns hn',λh5 sb5 cenv hce=>?_⟩;obtain⟨a1,a2,a3,a4⟩:=held;have nC:∀b,B.get? b=none->(hideAll B [C]).get? b=none:=λb q=>by
  cases z:(hideAll B [C]).get? b with
  |none=>rfl
  |some o=>rw[ae5 _ z]at q;cases q
 have b1:(hideAll B [C]).StaysIn h5:=λb o q=>by
  have z:b≠C:=λz=>by rw[z,PySem.W.hideAll_none _ (aec.mpr rfl)]at q;cases q
  exact(sb5.2 b z).trans<|a1 b o (ae5 _ q)
 have nfC:∀b o vs,h4.get? b=some o->o.data=.fields vs->b≠C:=λb o vs q d z=>by
  subst z;obtain⟨sl,q'⟩:=up4 b oC qC (λvs y=>by rw[dC]at y;cases y);rw[q]at q';cases q';rw[dC]at d;cases d
 have b3:h5.FunFrames (hideAll B [C]) (X.env::X.outer):=by
  refine yt nC ?_;have:∀{l:List Env},(∀b∈frs l,b≠C)->h4.FunFrames B l->h5.FunFrames B l:=by
   intro l
   induction l with
   |nil=>intro _ _;trivial
   |cons y l ih=>
    intro hb hl;obtain⟨k1,⟨L,o,k2,k3,k4,k5⟩,k6⟩:=hl;refine⟨k1,⟨L,o,k2,k3,(sb5.2 L<|hb L (List.mem_filterMap.mpr ⟨y,ad3,k2⟩)).trans k4,k5⟩,ih (λb z=>hb b ?_) k6⟩;obtain⟨z1,z2,z3⟩:=List.mem_filterMap.mp z;exact List.mem_filterMap.mpr ⟨z1,ad0 _ z2,z3⟩
  exact this (λb hb z=>Cfr<|by rw[<-z];exact hb) a3
 have b4:h5.TracedAtW (hideAll B [C]) ea (.ref Cc) (.ref t) (rawInt X.env.locals):=by
  obtain⟨ob,ws,T,oT,ts,ge,gc,gd,g1,gn,Xk,gT,Jx,g3⟩:=a4;exact⟨ob,ws,T,oT,ts,(sb5.2 ea<|nfC ea _ _ ge gd).trans ge,gc,gd,g1,nC T gn,Xk,(sb5.2 T<|nfC T _ _ gT Jx).trans gT,Jx,g3⟩
 obtain⟨ob,ws,T,oT,ts,ge,gc,gd,g1,gn,Xk,gT,Jx,g3⟩:=id b4;unfold PySem.passOn;refine abI<|af8 ge gd g1 ?_;rw[afY (by simp)];refine abI<|zx (s:={s' with heap:=h5}) cenv.frame b1 b3 b4 λh6 c1 c3 c4 c5=>?_;refine wpAny_throw ?_;rw[hxe];refine Hj (s:={s' with heap:=h6}) fr hfr c1 (nC ea a2) c3 c4 λh7 fl7 up7=>?_;have kB:∀{b o},s'.heap.get? b=some o->b∉frs X.stack->(H' b≠none\/∃o',X.s₀.heap.get? b=some o')->(hideAll B [C]).get? b=some o:=λ{b o} q hb hc=>by
  refine ae3 _ (mj b o q (by rw[<-lg];exact hb) ?_) λz=>?_
  ·rcases hc with z|⟨o',z⟩
   ·exact .inl z
   ·obtain⟨o2,q2⟩:=I2.base.there b o' z (by rw[hex];simp)
    refine .inr<|I1.base.there b o2 q2 (λzz=>?_);rcases(f2 b zz).2.2.2.1 with y|y
    ·rw[hex]at y;cases y
    ·exact absurd (ad4 (ad1 z) y)<|aed _
  ·have z':b=C:=by simpa using z
   subst z';rcases hc with y|⟨o',y⟩
   ·exact y CH
   ·exact C0 o' y
 have kp:∀b o,s'.heap.get? b=some o->b∉frs X.stack->(H' b≠none\/∃o',X.s₀.heap.get? b=some o')->h7.get? b=some o:=λb o q hb hc=>fl7.1 b o (kB q hb hc);obtain⟨un',hok'⟩:=Df hex J kp λb o hb q n=>by
  obtain⟨sl4,q4⟩:=up4 b o q n;have zC:b≠C:=λz=>Cfr (by rw[<-lg,<-z];rw[lg];exact(List.mem_filterMap.mpr<|by obtain⟨y1,y2,y3⟩:=List.mem_filterMap.mp hb;exact⟨y1,ad0 _ y2,y3⟩));have q5:=(sb5.2 b zC).trans q4;have q6:=c5 b _ q5 n;obtain⟨sl7,q7⟩:=up7 b _ q6 n;exact⟨sl7,q7⟩
 rw[hP,hw]at hok';refine⟨ea,Cc,H',rfl,⟨J.os,J.bare,un',hok',vN,_,t,fl7,λb o q hb hc=>?_⟩,hE⟩;have Dg:b∉frs X.stack:=λz=>by
  rcases aev.mp (J.jC b z) with z1|z1
  ·rcases hc with z2|⟨o',z2⟩
   ·exact z2<|J.nR b z
   ·have h1:=ad1 z2
    have h2:=J.ok.above;rw[z1]at h1;exact absurd (ad4 h1 h2)<|aed _
  ·exact hb z1
 obtain⟨o2,q2⟩:∃o2,s'.heap.get? b=some o2:=by
  rcases hc with z|⟨o',z⟩
  ·cases hz:H' b with
   |none=>exact absurd hz z
   |some u=>exact(J.hok b u hz).there
  ·exact J.base.there b o' z (by rw[hex];simp)
 have q3:=kp b o2 q2 Dg hc;rw[q]at q3;cases q3;exact kB q2 Dg hc
theorem Lz {oM dZ:aH}{x:Str}{px pos:Pos}{sc:Scope}{cA:aP Str}{jA:aP Nat}{wi:TI}{te:TE}
  (S:pY (dX (fP P w) P w K mg aV N bf aZ f cd A aU s H E) x cA jA sc) (hfl:∀y∈cA,sc.names.lookup y=some .free) (hi:PI (dX (fP P w) P w K mg aV N bf aZ f cd A aU s H E) (.Name x px) dZ wi)
  (he:∀C s₀ H₀ ex,PE (fZ (dX (fP P w) P w K mg aV N bf aZ f cd A aU s H E) (x::cA) sc C s₀ H₀ ex<|XC (dX (fP P w) P w K mg aV N bf aZ f cd A aU s H E) (x::cA) sc E) oM te)
  (hs:∀v,foldedSetIterable dZ (dX (fP P w) P w K mg aV N bf aZ f cd A aU s H E).env v=pure v:=by intro _;rfl):PE (dX (fP P w) P w K mg aV N bf aZ f cd A aU s H E) (.ListComp oM [⟨.Name x px,dZ,[],0⟩] sc pos) (uh jA wi CV te):=by
 rw[<-zQ];intro bG s1 U H1 Q I h;rw[eval_ListComp];refine tQ (M:=[x]) (g:=nq 0) (tt:=CV) (XE:=XC (dX (fP P w) P w K mg aV N bf aZ f cd A aU s H E) (x::cA) sc E) (use:=none) (Q':=EP (dX (fP P w) P w K mg aV N bf aZ f cd A aU s H E) bG U Q) rfl ⟨S.kind,S.tL,S.loc,S.fr,S.ix,S.len,S.cl⟩ hfl hi
  (λC s₀ H₀ ex=>fY (i:=0) S.nd rfl (.inl<|lookup_relabel_local S.tgt) (.inr<|lookup_relabel_local S.tgt)) (λC s₀ H₀ ex=>pX) he hs I h (λC s2 H2 ex D I2 f2 hC _ e s' q=>Es I2 f2 hC e s' q) λD C H' m4 s4 hn hJ _ _ _ _ _ _ q=>?_
 show ∃m,s4.heap.Ns C m/\∀h',Heap.SameBut C s4.heap h'->EP (dX (fP P w) P w K mg aV N bf aZ f cd A aU s H E) bG U Q (.ref D) {s4 with heap:=h'};exact⟨m4,hn,λh' hsb=>⟨.ref D,H',hJ h' hsb,rfl,q⟩⟩
theorem aaf {oM dZ:aH}{x:Str}{px pos:Pos}{sc:Scope}{wi:TI}{te:TE}(tR:Scope)(N0:aP Str)(cA:aP Str)(jA:aP Nat)(hk:vL tR N0 x cA jA sc=true)(hi:PI (dX (fP P w) P w K mg aV N bf aZ f cd A aU s H E) (.Name x px) dZ wi)
  (he:∀C s₀ H₀ ex,PE (fZ (dX (fP P w) P w K mg aV N bf aZ f cd A aU s H E) (x::cA) sc C s₀ H₀ ex<|XC (dX (fP P w) P w K mg aV N bf aZ f cd A aU s H E) (x::cA) sc E) oM te)
  (ho:(dX (fP P w) P w K mg aV N bf aZ f cd A aU s H E).env.scope=tR:=by rfl) (hN:(dX (fP P w) P w K mg aV N bf aZ f cd A aU s H E).N=N0:=by rfl)
  (hs:∀v,foldedSetIterable dZ (dX (fP P w) P w K mg aV N bf aZ f cd A aU s H E).env v=pure v:=by intro _;rfl):PE (dX (fP P w) P w K mg aV N bf aZ f cd A aU s H E) (.ListComp oM [⟨.Name x px,dZ,[],0⟩] sc pos) (uh jA wi CV te):=by
 obtain⟨S,fl⟩:=oh (X:=dX (fP P w) P w K mg aV N bf aZ f cd A aU s H E) hk ho hN;exact Lz S fl hi he hs
end
end L2
namespace PySem
open PyProof.Rows
section
variable {prog:aA}{w:aG}{A:aq}{E:ak->ao->Prop}{s:ao}
theorem Bq {it t:aj}{i:Nat}{xs:Array ak}{x:ak}{Q:ak->ao->Prop}(oV:s.heap.IsTupleIter it t i)(ht:s.heap.IsTuple t xs)(hx:xs[i]?=some x)
  (hQ:∀h',h'.IsTupleIter it t (i+1)->Heap.SameBut it s.heap h'->Q x {s with heap:=h'}):wpAny (model prog w) A (Builtin.SmallTypes.nextOf<|.ref it) Q E s:=by
 obtain⟨o,ho,hc,hd⟩:=id oV;obtain⟨u,hu,_,n,hn⟩:=ht;unfold Builtin.SmallTypes.nextOf;refine abI<|wpAny_callSpecial?_slot (name:=Str.ofString "__next__") oV.typeIs F.slot_tuple_iterator_next (wpAny_call_entry F.slot_tuple_iterator_next oV.typeIs F.entry_tuple_iterator_next ?_<|F.args_tuple_iterator_next_1 _);show wpAny _ _ (field (.ref it) 0>>=_) _ _ s;refine abI<|af8 ho hd (x:=.ref t) rfl ?_;rw[afY (show ¬((Value.ref t==Value.none)=true) from aea)];show wpAny _ _ (field (.ref it) 1>>=_) _ _ s;refine abI<|af8 ho hd (x:=.int i 0) rfl ?_;show wpAny _ _ (seqItems? (.ref t)>>=_) _ _ s;refine abI<|wpAny_seqItems hu hn ?_;simp only[aeL,hx];refine abI (wpAny_setField ho hd (by simp) (afV ⟨x,rfl,afV (hQ _ ⟨_,aeO _ ho<|Obj.isFreed_of_fields (Obj.data_mapFields hd _),(Obj.cls_mapFields ..).trans hc,by rw[Obj.data_mapFields hd];simp[rawInt]⟩<|Heap.SameBut.update ..)⟩))
theorem Et {it t:aj}{i:Nat}{xs:Array ak}{Q:ak->ao->Prop}(hh:A.handled=none)(oV:s.heap.IsTupleIter it t i)(ht:s.heap.IsTuple t xs)(hx:xs[i]?=none)
  (hE:∀h' e,Heap.ExtBut it s.heap h'->(∃o,h'.get? e=some o/\o.cls=.type "StopIteration")->E (.ref e) {s with heap:=h'}):wpAny (model prog w) A (Builtin.SmallTypes.nextOf<|.ref it) Q E s:=by
 obtain⟨o,ho,hc,hd⟩:=id oV;obtain⟨u,hu,_,n,hn⟩:=ht;unfold Builtin.SmallTypes.nextOf;refine abI<|wpAny_callSpecial?_slot (name:=Str.ofString "__next__") oV.typeIs F.slot_tuple_iterator_next (wpAny_call_entry F.slot_tuple_iterator_next oV.typeIs F.entry_tuple_iterator_next ?_<|F.args_tuple_iterator_next_1 _);show wpAny _ _ (field (.ref it) 0>>=_) _ _ s;refine abI<|af8 ho hd (x:=.ref t) rfl ?_;rw[afY (show ¬((Value.ref t==Value.none)=true) from aea)];show wpAny _ _ (field (.ref it) 1>>=_) _ _ s;refine abI<|af8 ho hd (x:=.int i 0) rfl ?_;show wpAny _ _ (seqItems? (.ref t)>>=_) _ _ s;refine abI<|wpAny_seqItems hu hn ?_;simp only[aeL,hx];refine abI (wpAny_rule (abI (wpAny_setField ho hd (by simp) ?_)));show wpAny _ _ (newExc (.type "StopIteration") []>>=_) _ _ _;refine abI ?_;simp only[newExc,newTuple];refine abI (wpAny_newObj_type ?_<|by size_fits);refine abI (m:=firstArgMember _ _) (wpAny_of_eq (a:=Value.none) (by first|rfl|(simp only[firstArgMember];rfl)) ?_);refine wpAny_newObj_type ?_ (by size_fits);simp only[raiseNew];refine abI<|wpAny_handled ?_
 first|rw[show A.in1.handled=none from hh]|rw[hh]
 exact abI<|afV (wpAny_throw<|hE _ _ (((Heap.SameBut.update ..).extBut.push _).push _) ⟨_,ad' _ rfl,rfl⟩)
end
end PySem
namespace L2
section
variable {X:Cx}{bG:List (aj×Obj)}{U:St}{H:Hp}{s:ao}{h':aK}
theorem Inv.Jy {t':Nat}{ch:aP aj}(I:Inv X bG U H s)(k:∀b o,b∉ch->s.heap.get? b=some o->h'.get? b=some o)(hf:∀b∈ch,vD X bG H b):Inv X bG U H {s with heap:=h',toks:=t'}:=by
 have nit:∀b u,H b=some u->b∉ch:=λb u e z=>by rw[(hf b z).1]at e;cases e
 refine I.step (g':=s.gens) (d':=s.drawn) (ch:=ch) (λb hb=>?_) (λb o _ _ hc e _=>k b o hc e) (λb o _ _ hc e _=>⟨o.slots,k b o hc e⟩) (λ_ _ _ _ n=>n)
  (λb o hc e=>⟨o,k b o hc e⟩) (λ_ _ e=>e) (λ_ _ _ e=>e) (λb ps e=>⟨#[],by rw[e];simp⟩) (λm hm=>?_) (λb u e=>?_) I.bare
 ·obtain⟨f0,f1,f2,f3,f4,f5⟩:=hf b hb
  exact⟨f3,f1,f4,f5⟩
 ·obtain⟨o,es,ep,ho,r⟩:=hm
  exact⟨o,es,ep,k _ o (λz=>(hf _ z).2.1 rfl) ho,r⟩
 ·refine(I.hok b u e).stay (λc v hc q=>k c v ?_ q) (λ_ q=>q) λ_ _ q=>q
  rcases hc with z|z
  ·rw[z];exact nit b u e
  ·exact nit c _ z
theorem Inv.aag {D:aj}{vs:aP V}{bh:aP ak}(I:Inv X bG U H s)(hf:vD X bG H D)(hz:vs.length<=sizeLine)(hv:Vals vs bh)(e:IsTup s.heap D bh.toArray):Inv X bG U (upd H D<|.tup vs) s:=by
 obtain⟨hD,h2,_,h1,h3,h4⟩:=hf;obtain⟨hh,g,d,t,o⟩:=s;have nD:∀b u,H b=some u->b≠D:=λb u q z=>by rw[z,hD]at q;cases q
 refine I.step (g':=g) (d':=d) (t':=t) (h':=hh) (ch:=[D]) (λb hb=>?_) (λb o _ _ _ q _=>q) (λb o _ _ _ q _=>⟨o.slots,q⟩) (λb o hb q n=>?_) (λb o _ q=>⟨o,q⟩)
  (λb xs q=>by rw[bR (nD b _ q)];exact q) (λb o u q=>by rw[bR (nD b _ q)];exact q) (λb ps q=>⟨#[],by rw[bR (nD b _ q),q];simp⟩) (λm q=>q) (λb u q=>?_) I.bare
 ·have z:b=D:=by simpa using hb
  subst z;exact⟨h1,h2,h3,h4⟩
 ·rw[bR (by simpa using hb)];exact n
 ·by_cases z:b=D
  ·subst z
   rw[bA]at q;cases q;exact⟨hz,bh,hv,e⟩
  ·rw[bR z]at q
   exact(I.hok b u q).stay (λ_ _ _ q=>q) (λc q=>by rw[bR (nD c _ q)];exact q) λc xs q=>by rw[bR (nD c _ q)];exact q
end
theorem LC:bootBuiltins "zip"=some (.type "zip"):=by decide+kernel
end L2
namespace PySem
open PyProof.Rows
noncomputable def kit:Bool->String
 |true=>"list_iterator"
 |false=>"tuple_iterator"
noncomputable def JR:Bool->String
 |true=>"list"
 |false=>"tuple"
def Mw (b:Bool)(h:aK)(a t:aj)(i:Nat):Prop:=∃o,h.get? a=some o/\o.cls=.type (kit b)/\o.data=.fields #[.ref t, .int i 0]
def LK (b:Bool)(h:aK)(a:aj)(xs:Array ak):Prop:=∃o,h.get? a=some o/\o.cls=.type (JR b)/\∃n,o.data=.seq xs n
theorem Mw.extBut {b:Bool}{h h':aK}{a c t:aj}{i:Nat}(x:Mw b h a t i)(hs:Heap.ExtBut c h h')(n:a≠c):Mw b h' a t i:=let ⟨o,e,r⟩:=x;⟨o,hs _ _ n e,r⟩
theorem LK.extBut {b:Bool}{h h':aK}{a c:aj}{xs:Array ak}(x:LK b h a xs)(hs:Heap.ExtBut c h h')(n:a≠c):LK b h' a xs:=let ⟨o,e,r⟩:=x;⟨o,hs _ _ n e,r⟩
section
variable {prog:aA}{w:aG}{A:aq}{E:ak->ao->Prop}{s:ao}
theorem Br {it t:aj}{i:Nat}{xs:Array ak}{x:ak}{Q:ak->ao->Prop}(oV:s.heap.IsListIter it t i)(ht:s.heap.IsList t xs)(hx:xs[i]?=some x)
  (hQ:∀h',h'.IsListIter it t (i+1)->Heap.SameBut it s.heap h'->Q x {s with heap:=h'}):wpAny (model prog w) A (Builtin.SmallTypes.nextOf<|.ref it) Q E s:=by
 obtain⟨o,ho,hc,hd⟩:=id oV;obtain⟨u,hu,_,n,hn⟩:=ht;unfold Builtin.SmallTypes.nextOf;refine abI<|wpAny_callSpecial?_slot (name:=Str.ofString "__next__") oV.typeIs slot_listiter_next (wpAny_call_entry slot_listiter_next oV.typeIs entry_listiter_next ?_<|args_listiter_next _);show wpAny _ _ (field (.ref it) 0>>=_) _ _ s;refine abI<|af8 ho hd (x:=.ref t) rfl ?_;rw[afY (show ¬((Value.ref t==Value.none)=true) from aea)];show wpAny _ _ (field (.ref it) 1>>=_) _ _ s;refine abI<|af8 ho hd (x:=.int i 0) rfl ?_;show wpAny _ _ (seqItems? (.ref t)>>=_) _ _ s;refine abI<|wpAny_seqItems hu hn ?_;simp only[aeL,hx];refine abI (wpAny_setField ho hd (by simp) (afV ⟨x,rfl,afV (hQ _ ⟨_,aeO _ ho<|Obj.isFreed_of_fields (Obj.data_mapFields hd _),(Obj.cls_mapFields ..).trans hc,by rw[Obj.data_mapFields hd];simp[rawInt]⟩<|Heap.SameBut.update ..)⟩))
theorem Eu {it t:aj}{i:Nat}{xs:Array ak}{Q:ak->ao->Prop}(hh:A.handled=none)(oV:s.heap.IsListIter it t i)(ht:s.heap.IsList t xs)(hx:xs[i]?=none)
  (hE:∀h' e,Heap.ExtBut it s.heap h'->(∃o,h'.get? e=some o/\o.cls=.type "StopIteration")->E (.ref e) {s with heap:=h'}):wpAny (model prog w) A (Builtin.SmallTypes.nextOf<|.ref it) Q E s:=by
 obtain⟨o,ho,hc,hd⟩:=id oV;obtain⟨u,hu,_,n,hn⟩:=ht;unfold Builtin.SmallTypes.nextOf;refine abI<|wpAny_callSpecial?_slot (name:=Str.ofString "__next__") oV.typeIs slot_listiter_next (wpAny_call_entry slot_listiter_next oV.typeIs entry_listiter_next ?_<|args_listiter_next _);show wpAny _ _ (field (.ref it) 0>>=_) _ _ s;refine abI<|af8 ho hd (x:=.ref t) rfl ?_;rw[afY (show ¬((Value.ref t==Value.none)=true) from aea)];show wpAny _ _ (field (.ref it) 1>>=_) _ _ s;refine abI<|af8 ho hd (x:=.int i 0) rfl ?_;show wpAny _ _ (seqItems? (.ref t)>>=_) _ _ s;refine abI<|wpAny_seqItems hu hn ?_;simp only[aeL,hx];refine abI (wpAny_rule (abI (wpAny_setField ho hd (by simp) ?_)));show wpAny _ _ (newExc (.type "StopIteration") []>>=_) _ _ _;refine abI ?_;simp only[newExc,newTuple];refine abI (wpAny_newObj_type ?_<|by size_fits);refine abI (m:=firstArgMember _ _) (wpAny_of_eq (a:=Value.none) (by first|rfl|(simp only[firstArgMember];rfl)) ?_);refine wpAny_newObj_type ?_ (by size_fits);simp only[raiseNew];refine abI<|wpAny_handled ?_
 first|rw[show A.in1.handled=none from hh]|rw[hh]
 exact abI<|afV (wpAny_throw<|hE _ _ (((Heap.SameBut.update ..).extBut.push _).push _) ⟨_,ad' _ rfl,rfl⟩)
theorem sO {b:Bool}{it t:aj}{i:Nat}{xs:Array ak}{x:ak}{Q:ak->ao->Prop}(oV:Mw b s.heap it t i)(ht:LK b s.heap t xs)(hx:xs[i]?=some x)
  (hQ:∀h',Mw b h' it t (i+1)->Heap.SameBut it s.heap h'->Q x {s with heap:=h'}):wpAny (model prog w) A (Builtin.SmallTypes.nextOf<|.ref it) Q E s:=by
 cases b with
 |true=>exact Br oV ht hx hQ
 |false=>exact Bq oV ht hx hQ
theorem Ew {b:Bool}{it t:aj}{i:Nat}{xs:Array ak}{Q:ak->ao->Prop}(hh:A.handled=none)(oV:Mw b s.heap it t i)(ht:LK b s.heap t xs)(hx:xs[i]?=none)
  (hE:∀h' e,Heap.ExtBut it s.heap h'->(∃o,h'.get? e=some o/\o.cls=.type "StopIteration")->E (.ref e) {s with heap:=h'}):wpAny (model prog w) A (Builtin.SmallTypes.nextOf<|.ref it) Q E s:=by
 cases b with
 |true=>exact Eu hh oV ht hx hE
 |false=>exact Et hh oV ht hx hE
noncomputable abbrev en1 (b:Bool)(h:aK)(t:aj):aK:=h.push {cls:=.type<|kit b,data:=.fields #[.ref t, .int 0 0]}
end
end PySem
namespace L2
noncomputable def Mx:Bool->List V->HO
 |true,xs=>.lst xs
 |false,xs=>.tup xs
theorem Jz {b:Bool}{xs ys:aP V}(h:Mx b xs=Mx b ys):xs=ys:=by cases b<;>(injection h)
theorem Inv.sqG {X:Cx}{bG:List (aj×Obj)}{U:St}{H:Hp}{s:ao}{a:aj}{b:Bool}{xs:List V}(I:Inv X bG U H s)(e:H a=some (Mx b xs)):∃bh,Vals xs bh/\LK b s.heap a bh.toArray:=by
 cases b with
 |true=>
  obtain⟨bh,r,p,_⟩:=I.list (dM.of (K:=X.K) e);exact⟨bh,r,p.isList⟩
 |false=>
  obtain⟨bh,r,p,_⟩:=I.tuple (iW.of (K:=X.K) e);exact⟨bh,r,p⟩
end L2
namespace PySem
open PyProof.Rows
section
variable {prog:aA}{w:aG}{A:aq}{E:ak->ao->Prop}{s:ao}
structure Vf (K1 K2:Bool)(h:aK)(z TI TO i1 i2 t1 t2:aj)(k:Nat):Prop where
 nd:[z,TI,TO,i1,i2].Nodup
 zz:IsZip h z TI TO .none
 ti:IsPair h TI (.ref i1) (.ref i2)
 tO:∃a b,IsPair h TO a b
 j1:Mw K1 h i1 t1 k
 j2:Mw K2 h i2 t2 k
theorem LQ {K1 K2:Bool}{z TI TO i1 i2 t1 t2:aj}{k:Nat}{xs ys:Array ak}{x y:ak}{Q:aO ak->ao->Prop}(Z:Vf K1 K2 s.heap z TI TO i1 i2 t1 t2 k)(n1:t1∉[z,TO,i1,i2])(n2:t2∉[z,TO,i1,i2])
  (h1:LK K1 s.heap t1 xs) (h2:LK K2 s.heap t2 ys) (hx:xs[k]?=some x) (hy:ys[k]?=some y)
  (hQ:∀h',IsZip h' z TI TO (rawInt s.heap.objs.size)->IsPair h' TI (.ref i1) (.ref i2)->IsPair h' TO x y->Mw K1 h' i1 t1 (k+1)->Mw K2 h' i2 t2 (k+1)->IsPair h' s.heap.objs.size x y->h'.objs.size=s.heap.objs.size+1->
   (∀c o,c∉[z,TO,i1,i2]->s.heap.get? c=some o->h'.get? c=some o)->Q (some<|.ref s.heap.objs.size) {s with heap:=h'}):wpAny (model prog w) A (pyNext<|.ref z) Q E s:=by
 obtain⟨nd,zz,ti,⟨a,b,tO⟩,j1,j2⟩:=Z;simp only[afu,aev,aej,af3,not_or,aeZ,and_true,not_false_eq_true]at nd n1 n2;obtain⟨⟨zTI,zTO,z1,z2⟩,⟨TITO,TI1,TI2⟩,⟨TO1,TO2⟩,i12⟩:=nd;obtain⟨a1,a2,a3,a4⟩:=n1;obtain⟨b1,b2,b3,b4⟩:=n2;have hT:s.TypeIs (.ref z) "zip":=⟨_,zz,rfl⟩;unfold pyNext;refine abI<|wpAny_attempt (wpAny_callSpecial?_slot (name:=Str.ofString "__next__") hT F.slot_zip_next<|wpAny_call_entry F.slot_zip_next hT F.entry_zip_next ?_ (F.args_zip_next_1 _));show wpAny _ _ (field (.ref z) 2>>=_) _ _ _;refine abI<|af8 zz rfl (x:=.bool false) rfl ?_;show wpAny _ _ (field (.ref z) 3>>=_) _ _ _;refine abI<|af8 zz rfl (x:=.ref TI) rfl (abI<|wpAny_seqItems ti rfl ?_);show wpAny _ _ (Builtin.SmallTypes.ownedTupleIsFree (.ref z)>>=_) _ _ _;refine abI ?_;unfold Builtin.SmallTypes.ownedTupleIsFree;refine abI<|af8 zz rfl (x:=.none) rfl (afV ?_);simp only[if_true];refine abI (wpAny_rule (abI (af8 zz rfl (x:=.ref TO) rfl (abI (wpAny_setField_rec zz (by simp) λg1 q1 r1=>?_)))))
 replace q1:IsZip g1 z TI TO .ellipsis:=q1
 refine abI ?_;simp only[List.zipIdx_cons,List.zipIdx_nil,afP,List.forIn_nil];refine abI<|abI (wpAny_onRaise ?_);show wpAny _ _ (Builtin.SmallTypes.nextOf (.ref i1)>>=_) _ _ _;refine abI<|sO (j1.extBut r1.extBut<|af2 z1) (h1.extBut r1.extBut a1) hx λg2 q2 r2=>afV ?_;have tO2:IsPair g2 TO a b:=r2.extBut _ _ TO1 (r1.extBut _ _ (af2 zTO) tO);refine abI<|wpAny_seqItems tO2 rfl (abI<|wpAny_updateSeq_pair tO2 λg3 q3 r3=>?_)
 replace q3:IsPair g3 TO x b:=q3
 refine abI<|wpAny_letGo (afV ?_);refine abI<|abI (wpAny_onRaise ?_);show wpAny _ _ (Builtin.SmallTypes.nextOf (.ref i2)>>=_) _ _ _;refine abI<|sO (((j2.extBut r1.extBut<|af2 z2).extBut r2.extBut<|af2 i12).extBut r3.extBut<|af2 TO2) (((h2.extBut r1.extBut b1).extBut r2.extBut b3).extBut r3.extBut b2) hy λg4 q4 r4=>afV ?_;have tO4:IsPair g4 TO x b:=r4.extBut _ _ TO2 q3;refine abI<|wpAny_seqItems tO4 rfl (abI<|wpAny_updateSeq_pair tO4 λg5 q5 r5=>?_)
 replace q5:IsPair g5 TO x y:=q5
 refine abI<|wpAny_letGo (afV<|afV ?_);refine abI<|wpAny_seqItems q5 rfl (abI<|wpAny_newTuple ?_);have sz:g5.objs.size=s.heap.objs.size:=by rw[r5.1,r4.1,r3.1,r2.1,r1.1]
 have kp5:∀c o,c≠z->c≠TO->c≠i1->c≠i2->s.heap.get? c=some o->g5.get? c=some o:=λc o c1 c2 c3 c4 e=>r5.extBut _ _ c2 (r4.extBut _ _ c4<|r3.extBut _ _ c2 (r2.extBut _ _ c3<|r1.extBut _ _ c1 e));have zz5:IsZip g5 z TI TO .ellipsis:=r5.extBut _ _ zTO (r4.extBut _ _ z2<|r3.extBut _ _ zTO (r2.extBut _ _ z1 q1));have k15:Mw K1 g5 i1 t1 (k+1):=((q2.extBut r3.extBut<|af2 TO1).extBut r4.extBut i12).extBut r5.extBut (af2 TO1);have k25:Mw K2 g5 i2 t2 (k+1):=q4.extBut r5.extBut (af2 TO2);have ti5:IsPair g5 TI (.ref i1) (.ref i2):=kp5 _ _ (af2 zTI) TITO TI1 TI2 ti;show wpAny _ _ (Builtin.SmallTypes.ownedTupleHandOut (.ref z) (.ref g5.objs.size)>>=_) _ _ _;refine abI ?_;unfold Builtin.SmallTypes.ownedTupleHandOut;refine abI (wpAny_setField_rec (adY _ zz5) (by simp) λg7 q7 r7=>?_)
 replace q7:IsZip g7 z TI TO (rawInt g5.objs.size):=q7
 refine wpAny_setField_rec q7 (by simp) λg8 q8 r8=>?_
 replace q8:IsZip g8 z TI TO (rawInt g5.objs.size):=q8
 have up:∀c o,c≠z->g5.get? c=some o->g8.get? c=some o:=λc o c1 e=>r8.extBut _ _ c1 (r7.extBut _ _ c1<|adY _ e);have new:IsPair g8 g5.objs.size x y:=r8.extBut _ _ (Nat.ne_of_gt<|ad1 zz5) (r7.extBut _ _ (Nat.ne_of_gt<|ad1 zz5)<|ad' _ rfl);have sz8:g8.objs.size=s.heap.objs.size+1:=by rw[r8.1,r7.1,aeN,sz]
 rw[sz]at q8 new;refine afV ⟨_,rfl,?_⟩;refine afV ?_;show Q (some<|.ref g5.objs.size) _;rw[sz];exact hQ g8 q8 (up _ _ (af2 zTI) ti5) (up _ _ (af2 zTO) q5) (let ⟨o,e,r⟩:=k15;⟨o,up _ o (af2 z1) e,r⟩) (let ⟨o,e,r⟩:=k25;⟨o,up _ o (af2 z2) e,r⟩) new sz8 λc o hc e=>by
  simp only[aev,aej,af3,not_or]at hc;exact up c o hc.1<|kp5 c o hc.1 hc.2.1 hc.2.2.1 hc.2.2.2 e
theorem Rc {K1 K2:Bool}{z TI TO i1 i2 t1 t2:aj}{k:Nat}{xs:Array ak}{Q:aO ak->ao->Prop}(hh:A.handled=none)(Z:Vf K1 K2 s.heap z TI TO i1 i2 t1 t2 k)(n1:t1∉[z,TO,i1,i2])
  (h1:LK K1 s.heap t1 xs) (hx:xs[k]?=none) (hQ:∀h',(∀c o,c∉[z,TO,i1,i2]->s.heap.get? c=some o->h'.get? c=some o)->Q none {s with heap:=h'}):wpAny (model prog w) A (pyNext<|.ref z) Q E s:=by
 obtain⟨nd,zz,ti,⟨a,b,tO⟩,j1,j2⟩:=Z;simp only[afu,aev,aej,af3,not_or,aeZ,and_true,not_false_eq_true]at nd n1;obtain⟨⟨zTI,zTO,z1,z2⟩,⟨TITO,TI1,TI2⟩,⟨TO1,TO2⟩,i12⟩:=nd;obtain⟨a1,a2,a3,a4⟩:=n1;have hT:s.TypeIs (.ref z) "zip":=⟨_,zz,rfl⟩;unfold pyNext;refine abI<|wpAny_attempt (wpAny_callSpecial?_slot (name:=Str.ofString "__next__") hT F.slot_zip_next<|wpAny_call_entry F.slot_zip_next hT F.entry_zip_next ?_ (F.args_zip_next_1 _));show wpAny _ _ (field (.ref z) 2>>=_) _ _ _;refine abI<|af8 zz rfl (x:=.bool false) rfl ?_;show wpAny _ _ (field (.ref z) 3>>=_) _ _ _;refine abI<|af8 zz rfl (x:=.ref TI) rfl (abI<|wpAny_seqItems ti rfl ?_);show wpAny _ _ (Builtin.SmallTypes.ownedTupleIsFree (.ref z)>>=_) _ _ _;refine abI ?_;unfold Builtin.SmallTypes.ownedTupleIsFree;refine abI<|af8 zz rfl (x:=.none) rfl (afV ?_);simp only[if_true];refine abI (wpAny_rule (abI (af8 zz rfl (x:=.ref TO) rfl (abI (wpAny_setField_rec zz (by simp) λg1 q1 r1=>?_)))))
 replace q1:IsZip g1 z TI TO .ellipsis:=q1
 refine abI ?_;simp only[List.zipIdx_cons,List.zipIdx_nil,afP,List.forIn_nil];refine abI<|abI (wpAny_onRaise ?_);show wpAny _ _ (Builtin.SmallTypes.nextOf (.ref i1)>>=_) _ _ _;refine abI<|Ew hh (j1.extBut r1.extBut<|af2 z1) (h1.extBut r1.extBut a1) hx λg2 e r2 he=>?_;obtain⟨oe,ho,hc⟩:=he;have zz2:IsZip g2 z TI TO .ellipsis:=r2 _ _ z1 q1;have ez:e≠z:=λq=>by subst q;rw[zz2]at ho;cases ho;simp at hc
 refine wpAny_setField_rec (s:={s with heap:=g2}) zz2 (by simp) λg3 q3 r3=>?_;refine abI<|wpAny_isInstance (T:="StopIteration") (b:=true) ⟨oe,r3.extBut _ _ ez ho,hc⟩ isSubtype_stop ?_;exact afV (hQ _ λc o hcc e=>by
  simp only[aev,aej,af3,not_or]at hcc;exact r3.extBut _ _ hcc.1<|r2 _ _ hcc.2.2.1 (r1.extBut _ _ hcc.1 e))
noncomputable abbrev zg1 (K1:String)(h:aK)(t1:aj):aK:=h.push {cls:=.type K1,data:=.fields #[.ref t1, .int 0 0]}
noncomputable abbrev zg2 (K1 K2:String)(h:aK)(t1 t2:aj):aK:=(zg1 K1 h t1).push {cls:=.type K2,data:=.fields #[.ref t2, .int 0 0]}
noncomputable abbrev zg3 (K1 K2:String)(h:aK)(t1 t2:aj):aK:=(zg2 K1 K2 h t1 t2).push {cls:=.type "tuple",data:=.seq #[.ref h.objs.size, .ref (zg1 K1 h t1).objs.size]}
noncomputable abbrev zg4 (K1 K2:String)(h:aK)(t1 t2:aj):aK:=(zg3 K1 K2 h t1 t2).push {cls:=.type "tuple",data:=.seq #[.none, .none]}
noncomputable abbrev Xl (K1 K2:String)(h:aK)(t1 t2:aj):aK:=(zg4 K1 K2 h t1 t2).push {cls:=.type "zip",data:=.fields #[.none, .bool false, .bool false, .ref (zg2 K1 K2 h t1 t2).objs.size, .ref (zg3 K1 K2 h t1 t2).objs.size]}
theorem Ey (t1 t2:aj)(xs ys:Array ak):
  Meets (Builtin.«zip.__new__» ⟨[.type "zip", .ref t1, .ref t2],[]⟩) (λ_ R s=>s.heap.IsList t1 xs/\s.heap.IsTuple t2 ys/\R (.ok<|.ret (.ref (zg4 "list_iterator" "tuple_iterator" s.heap t1 t2).objs.size)) {s with heap:=Xl "list_iterator" "tuple_iterator" s.heap t1 t2}) :=
 .of_wp λprog w A R s h=>by
  obtain⟨hp,g,d,tk,os⟩:=s;obtain⟨h1,h2,h⟩:=h;have hsub:=sub_zip;have q1:Heap.IsList (Shared.heap ⟨hp,g,d,tk,os⟩) t1 xs:=h1;have q2:Heap.IsTuple (Shared.heap ⟨hp.push {cls:=.type "list_iterator",data:=.fields #[.ref t1, .int 0 0]},g,d,tk,os⟩) t2 ys:=Heap.IsTuple.push h2 _
  wp_walk using wpAny_pyIter_list q1,wpAny_pyIter_tuple q2
  exact⟨_,rfl,h⟩
theorem Ez (t1 t2:aj)(xs ys:Array ak):
  Meets (Builtin.«zip.__new__» ⟨[.type "zip", .ref t1, .ref t2],[]⟩) (λ_ R s=>s.heap.IsTuple t1 xs/\s.heap.IsList t2 ys/\R (.ok<|.ret (.ref (zg4 "tuple_iterator" "list_iterator" s.heap t1 t2).objs.size)) {s with heap:=Xl "tuple_iterator" "list_iterator" s.heap t1 t2}) :=
 .of_wp λprog w A R s h=>by
  obtain⟨hp,g,d,tk,os⟩:=s;obtain⟨h1,h2,h⟩:=h;have hsub:=sub_zip;have q1:Heap.IsTuple (Shared.heap ⟨hp,g,d,tk,os⟩) t1 xs:=h1;have q2:Heap.IsList (Shared.heap ⟨hp.push {cls:=.type "tuple_iterator",data:=.fields #[.ref t1, .int 0 0]},g,d,tk,os⟩) t2 ys:=Heap.IsList.push h2 _
  wp_walk using wpAny_pyIter_tuple q1,wpAny_pyIter_list q2
  exact⟨_,rfl,h⟩
theorem Hl (K1 K2:Bool)(hk:K1= !K2)(t1 t2:aj)(xs ys:Array ak):
  Meets (Builtin.«zip.__new__» ⟨[.type "zip", .ref t1, .ref t2],[]⟩) (λ_ R s=>LK K1 s.heap t1 xs/\LK K2 s.heap t2 ys/\R (.ok<|.ret (.ref (zg4 (kit K1) (kit K2) s.heap t1 t2).objs.size)) {s with heap:=Xl (kit K1) (kit K2) s.heap t1 t2}):=by
 subst hk;cases K2 with
 |false=>exact Ey t1 t2 xs ys
 |true=>exact Ez t1 t2 xs ys
theorem LR {K1 K2:Bool}(hk:K1= !K2){t1 t2:aj}{xs ys:Array ak}{Q:ak->ao->Prop}(h1:LK K1 s.heap t1 xs)(h2:LK K2 s.heap t2 ys)
  (h:∀h' z TI TO i1 i2,s.heap.objs.size<=z->s.heap.objs.size<=TI->s.heap.objs.size<=TO->s.heap.objs.size<=i1->s.heap.objs.size<=i2->Vf K1 K2 h' z TI TO i1 i2 t1 t2 0->(∀c o,s.heap.get? c=some o->h'.get? c=some o)->Q (.ref z) {s with heap:=h'}):
  wpAny (model prog w) A (call (.type "zip") [.ref t1, .ref t2]) Q E s:=by
 refine callType_new F.called_zip (by decide) (F.typeCall_zip_2 _ _) (F.newCall_zip_2 _ _) (λobj=>F.args_object_init_3 obj _ _) F.entry_zip_new (Hl K1 K2 hk t1 t2 xs ys) ⟨h1,h2,?_⟩;have z1:(zg1 (kit K1) s.heap t1).objs.size=s.heap.objs.size+1:=aeN ..;have z2:(zg2 (kit K1) (kit K2) s.heap t1 t2).objs.size=s.heap.objs.size+2:=by rw[aeN,z1]
 have z3:(zg3 (kit K1) (kit K2) s.heap t1 t2).objs.size=s.heap.objs.size+3:=by rw[aeN,z2]
 have z4:(zg4 (kit K1) (kit K2) s.heap t1 t2).objs.size=s.heap.objs.size+4:=by rw[aeN,z3]
 have p5:(Xl (kit K1) (kit K2) s.heap t1 t2).get? (zg4 (kit K1) (kit K2) s.heap t1 t2).objs.size=some _:=ad' _ rfl;have p4:(Xl (kit K1) (kit K2) s.heap t1 t2).get? (zg3 (kit K1) (kit K2) s.heap t1 t2).objs.size=some _:=adY _ (ad' _ rfl);have p3:(Xl (kit K1) (kit K2) s.heap t1 t2).get? (zg2 (kit K1) (kit K2) s.heap t1 t2).objs.size=some _:=adY _ (adY _<|ad' _ rfl);have p2:(Xl (kit K1) (kit K2) s.heap t1 t2).get? (zg1 (kit K1) s.heap t1).objs.size=some _:=adY _ (adY _<|adY _ (ad' _ rfl));have p1:(Xl (kit K1) (kit K2) s.heap t1 t2).get? s.heap.objs.size=some _:=adY _ (adY _<|adY _ (adY _<|ad' _ rfl));refine⟨⟨_,p5,rfl⟩,h _ _ _ _ _ _ ?_ ?_ ?_ (adZ _) ?_ ⟨?_,p5,p3,⟨_,_,p4⟩,⟨_,p1,rfl,rfl⟩,⟨_,p2,rfl,rfl⟩⟩ λc o e=>adY _<|adY _ (adY _<|adY _ (adY _ e))⟩
 ·rw[z4];exact ad9 _ _
 ·rw[z2];exact ad9 _ _
 ·rw[z3];exact ad9 _ _
 ·rw[z1];exact ad9 _ _
 ·rw[z1,z2,z3,z4]
  generalize s.heap.objs.size=n;simp only[afu,aev,aej,af3,not_or,aeZ,and_true,not_false_eq_true];refine⟨⟨?_,?_,?_,?_⟩,⟨?_,?_,?_⟩,⟨?_,?_⟩,?_⟩<;>(intro q;simp at q)
end
end PySem
namespace L2
noncomputable def Izg (K1 K2:Bool)(a b:aj):It :=
 ⟨λi H=>∃xs ys x y,H a=some (Mx K1 xs)/\H b=some (Mx K2 ys)/\xs[i]?=some x/\ys[i]?=some y,
  λi H v H'=>∃(T:aj) (xs ys:List V) (x y:V),H a=some (Mx K1 xs)/\H b=some (Mx K2 ys)/\xs[i]?=some x/\ys[i]?=some y/\H T=none/\v=.ref T/\H'=upd H T (.tup [x,y]),
  λi H=>∃xs,H a=some (Mx K1 xs)/\xs.length<=i⟩
theorem Mf {K1 K2:Bool}{P:aA}{w:aG}{K:aN}{elts:aP aH}{x1}{pos:Pos}(a b z TI TO i1 i2:aj):Turn P w K (.Tuple elts x1 pos) (Izg K1 K2 a b) [z,TI,TO,i1,i2] z (λi h=>Vf K1 K2 h z TI TO i1 i2 a b i) where
 mem:=by simp
 obj:=λi h st c hc=>by
  simp only[aev,aej,af3]at hc;obtain⟨nd,zz,ti,⟨u,v,tO⟩,⟨o1,j1,c1,d1⟩,⟨o2,j2,c2,d2⟩⟩:=st;rcases hc with rfl|rfl|rfl|rfl|rfl
  ·exact⟨_,zz,λv q=>by cases q⟩
  ·exact⟨_,ti,λv q=>by cases q⟩
  ·exact⟨_,tO,λv q=>by cases q⟩
  ·exact⟨o1,j1,λv q=>by rw[d1]at q;cases q⟩
  ·exact⟨o2,j2,λv q=>by rw[d2]at q;cases q⟩
 keep:=λi h h' st k=>by
  obtain⟨nd,zz,ti,⟨u,v,tO⟩,⟨o1,j1,r1⟩,⟨o2,j2,r2⟩⟩:=st;exact⟨nd,k _ (by simp) _ zz,k _ (by simp) _ ti,⟨u,v,k _ (by simp) _ tO⟩,⟨o1,k _ (by simp) _ j1,r1⟩,⟨o2,k _ (by simp) _ j2,r2⟩⟩
 item:=by
  intro X hP hw hK hc i bG s U H E I hf st hg;subst hP hw hK;obtain⟨xs,ys,x,y,ha,hb,hx,hy⟩:=hg;obtain⟨abB,Lp,p1⟩:=I.sqG ha;obtain⟨xX,rv2,p2⟩:=I.sqG hb;obtain⟨u1,hu1,ru1⟩:=Lp.get hx;obtain⟨u2,hu2,ru2⟩:=rv2.get hy;have sub:∀c∈[z,TO,i1,i2],c∈[z,TI,TO,i1,i2]:=λc hc=>by
   simp only[aev,aej,af3]at hc ⊢;rcases hc with h|h|h|h
   ·exact .inl h
   ·exact .inr<|.inr (.inl h)
   ·exact .inr<|.inr (.inr<|.inl h)
   ·exact .inr<|.inr (.inr<|.inr h)
  have no:∀c u,H c=some u->c∉[z,TO,i1,i2]:=λc u e q=>by rw[(hf c<|sub c q).1]at e;cases e
  have lt:∀c∈[z,TI,TO,i1,i2],c<s.heap.objs.size:=λc hc=>by
   simp only[aev,aej,af3]at hc;obtain⟨nd,zz,ti,⟨u,v,tO⟩,⟨o1,j1,c1,d1⟩,⟨o2,j2,c2,d2⟩⟩:=st;rcases hc with rfl|rfl|rfl|rfl|rfl
   ·exact ad1 zz
   ·exact ad1 ti
   ·exact ad1 tO
   ·exact ad1 j1
   ·exact ad1 j2
  refine LQ st (no a _ ha) (no b _ hb) p1 p2 (x:=u1) (y:=u2) (by simpa using hu1) (by simpa using hu2) λh' q1 q2 q3 q4 q5 q6 _ kp=>⟨_,rfl,?_⟩;refine wpAny_letOwnedTupleGo_zip (s:={s with heap:=h'}) q1 λh2 q7 r7=>?_;have nd:=st.nd;have I1:Inv X bG U H {s with heap:=h2}:=I.Jy (t':=s.toks) (ch:=[z,TO,i1,i2]) (λc o hc e=>r7.extBut c o (λq=>hc<|by simp[q])<|kp c o hc e) λc hc=>hf c (sub c hc);have fr:H s.heap.objs.size=none:=I.hok.fresh (adZ _);have ne:∀c∈[z,TI,TO,i1,i2],c≠s.heap.objs.size:=λc hc q=>by have:=lt c hc;rw[q]at this;exact aed _ this
  have I2:=I1.aag (D:=s.heap.objs.size) (vs:=[x,y]) (bh:=[u1,u2]) (I.zB (adZ _) fr) (by show 2<=sizeLine;rw[sizeLine_eq];decide) (.cons ru1<|.cons ru2 .nil) ⟨_,r7.extBut _ _ (af2 (ne z<|by simp)) q6,rfl,_,rfl⟩;simp only[afu,aev,aej,af3,not_or,aeZ,and_true,not_false_eq_true]at nd;obtain⟨⟨zTI,zTO,z1',z2'⟩,_⟩:=nd;refine⟨.ref s.heap.objs.size,_,I2,rfl,⟨_,xs,ys,x,y,ha,hb,hx,hy,fr,rfl,rfl⟩,⟨st.nd,q7,r7.extBut _ _ (af2 zTI) q2,⟨_,_,r7.extBut _ _ (af2 zTO) q3⟩,q4.extBut r7.extBut<|af2 z1',q5.extBut r7.extBut<|af2 z2'⟩,λc hc=>?_⟩;rw[bR (ne c hc)];exact(hf c hc).1
 done:=by
  intro X hP hw hK hc i bG s U H E I hf st hg;subst hP hw hK;obtain⟨xs,ha,hx⟩:=hg;obtain⟨abB,Lp,p1⟩:=I.sqG ha;have hl:=Lp.length;have sub:∀c∈[z,TO,i1,i2],c∈[z,TI,TO,i1,i2]:=λc hc=>by
   simp only[aev,aej,af3]at hc ⊢;rcases hc with h|h|h|h
   ·exact .inl h
   ·exact .inr<|.inr (.inl h)
   ·exact .inr<|.inr (.inr<|.inl h)
   ·exact .inr<|.inr (.inr<|.inr h)
  have no:∀c u,H c=some u->c∉[z,TO,i1,i2]:=λc u e q=>by rw[(hf c<|sub c q).1]at e;cases e
  exact Rc (I.ok.hd hc) st (no a _ ha) p1 (by simp;exact ad2 (ae0 hl.symm) hx) λh' kp=>⟨rfl,I.Jy (t':=s.toks) (ch:=[z,TO,i1,i2]) kp λc hc=>hf c<|sub c hc⟩
 self:=λ_ _ _ _ _ st h=>wpAny_pyIter_zip st.zz h
def abC (K1 K2:Bool)(ta:TA):TI:=λU H R=>ta U H λvs H1=>∃a b xs ys,vs=[.ref a, .ref b]/\H1 a=some (Mx K1 xs)/\H1 b=some (Mx K2 ys)/\R (Izg K1 K2 a b) H1
theorem Vg (K1 K2:Bool)(hk:K1= !K2){X:Cx}{e1 e2:aH}{ta:TA}{p pos pt:Pos}{elts:List aH}{x1}(hg:Gl X "zip")(hm:X.mg "zip"=none)(ha:PA X [e1,e2] ta)
  (hs:starEach [e1,e2] X.env=[(false,eval e1 X.env),(false,eval e2 X.env)]:=by rfl) (hs2:starEach [e2] X.env=[(false,eval e2 X.env)]:=by rfl):PI X (.Tuple elts x1 pt) (.Call (.Name "zip" p) [e1,e2] [] pos) (abC K1 K2 ta):=by
 intro bG s U H R I h;refine Call_ (qN I hg hm LC (PyProof.Rows.callWith_type1 (gk (ha pos bG s U H _ I h) λus s1 ⟨vs,H1,I1,r1,q1⟩=>?_) (by rw[hs,hs2])<|by rw[hs2];rfl));obtain⟨a,b,xs,ys,rfl,h1,h2,q⟩:=q1;cases r1 with
 |cons r rr=>
  cases rr with
  |cons r' rr=>
   cases rr;cases r;cases r';obtain⟨abB,Lp,p1⟩:=I1.sqG h1;obtain⟨xX,rv2,p2⟩:=I1.sqG h2;refine LR hk p1 p2 λh' z TI TO i1 i2 l1 l2 l3 l4 l5 Z kp=>?_;refine wpAny_pyIter_zip (s:={s1 with heap:=h'}) Z.zz ?_;refine⟨z,[z,TI,TO,i1,i2],_,_,H1,rfl,I1.kept (t':=s1.toks) kp,Mf a b z TI TO i1 i2,Z,λc hc=>?_,q⟩;simp only[aev,aej,af3]at hc;rcases hc with rfl|rfl|rfl|rfl|rfl
   ·exact I1.zB l1<|I1.hok.fresh l1
   ·exact I1.zB l2<|I1.hok.fresh l2
   ·exact I1.zB l3<|I1.hok.fresh l3
   ·exact I1.zB l4<|I1.hok.fresh l4
   ·exact I1.zB l5<|I1.hok.fresh l5
theorem Rf {K1 K2:Bool}{a b:aj}{xs ys:aP V}{g:TG}{tb:TS}{D:Ends}{U:St}{H:Hp}(Pv:Nat->St->Hp->Prop)(le:xs.length=ys.length)(h0:Pv 0 U H)(hl:∀i U H,i<=xs.length->Pv i U H->H a=some (Mx K1 xs)/\H b=some (Mx K2 ys))
  (hs:∀i x y (T:aj) U H,xs[i]?=some x->ys[i]?=some y->H T=none->Pv i U H->g (.ref T) U (upd H T<|.tup [x,y]) λU2 H2=>tb (D.lp<|Pv (i+1)) U2 H2) (hd:∀U H,Pv xs.length U H->D.nx U H):
  ∃W:Nat->Nat->St->Hp->Prop,(∃m,W 0 m U H)/\∀i m U H,W i m U H->
   ((Izg K1 K2 a b).stop i H/\D.nx U H)\/((Izg K1 K2 a b).go i H/\∃N:St->Hp->Prop,(∀U' H',N U' H'->∃m',m'<m/\W (i+1) m' U' H')/\∀x H',(Izg K1 K2 a b).Wo i H x H'->g x U H' λU2 H2=>tb (D.lp N) U2 H2):=by
 refine⟨λi m U H=>m=xs.length-i/\i<=xs.length/\Pv i U H,⟨xs.length,by simp,aeG _,h0⟩,?_⟩;rintro i m U H ⟨rfl,hi,p⟩;obtain⟨q,q'⟩:=hl i U H hi p;by_cases jX:i<xs.length
 ·have hlt':i<ys.length:=by exact aeo jX le
  refine .inr ⟨⟨xs,ys,xs[i],ys[i],q,q',by simp[jX],by simp[hlt']⟩,Pv<|i+1,λU' H' p'=>⟨xs.length-(i+1),by omega,rfl,jX,p'⟩,λv H' y=>?_⟩;obtain⟨T,xs',ys',x,y,e1,e2,hx,hy,hT,rfl,rfl⟩:=y;rw[q]at e1;rw[q']at e2;obtain rfl:=Jz (af5 e1);obtain rfl:=Jz (af5 e2);exact hs i x y T U _ hx hy hT p
 ·have e:i=xs.length:=by exact aeT hi (Nat.not_lt.mp jX)
  subst e;exact .inl ⟨⟨xs,q,adZ _⟩,hd U H p⟩
end L2
namespace Fw
open L2
theorem mY {CS CT gO:aj}{m:Nat}{N:aj->Prop}{H:Hp}{wd:aj}{c0 d:Nat}{most:Int}{E:XK}(wl:mJ H N wd c0 most)
  {ns:List Str} {t':Tm} {v':V} {kI:List Vl} {e:aj} {N1:aj->Prop} {H1:Hp} {c1:Nat} {r1:Rs} {c2:Nat} {Q':VK} (a1:jM H1 ns v' t') (a2:lQ H1 N1 ns e kI) (a3:mJ H1 N1 wd c1 most) (a4:Kw wd H H1) (a4':∀b,N1 b->Al N H H1 b) (a5:GT kI.length t') (a6:kI.length+6*dep t'<=149) (a7:ev most [] m d t' kI c1=some (r1,c2)) (as:r1≠.deep)
  (a8:∀w,r1=.val w->∀u H',oU (Al N H H') H' u w->mJ H' (Al N H H') wd c2 most->Kw wd H H'->Q' u H') (a9:∀C,Ep CS CT gO r1=some C->∀ea H',Kw wd H H'->E (.ref C) (some ea) H'):qL CS CT gO m [v', .ref e, .ref wd] H1 Q' E:=by
 cases m with
 |zero=>cases a7
 |succ j=>
  refine⟨v',e,wd,N1,ns,t',kI,c1,d,most,r1,c2,rfl,a1,a2,a3,a5,a6,a7,as,λw hw u H' vu wu ku=>?_,λC hC ea H' ku=>a9 C hC ea H'<|a4.trans ku⟩;have k0:=a4.trans ku;have st:=Al.step (N:=N) (H:=H) (H1:=H1) (H2:=H') a4' a4 ku wl.there a3.there;exact a8 w hw u H' (vu.wide st) (wu.Xi wl st k0) k0
theorem Al.same {N:aj->Prop}{H H1 H2:Hp}(s:Same H1 H2){b:aj}(h:Al N H H1 b):Al N H H2 b:=by
 rcases h with z|⟨z1,z2⟩
 ·exact .inl z
 ·refine .inr ⟨z1,?_⟩
  obtain⟨o,ho⟩:=Option.ne_none_iff_exists'.mp z2;rw[s b o ho];simp
inductive JB (CS CT gO:aj)(m:Nat)(vs:List V)(H:Hp)(Q:VK)(E:XK):Prop where
 |mk (v:V) (od wd:aj) (N:aj->Prop) (ns:List Str) (t:Tm) (env:List Vl) (c d:Nat) (most:Int) (r:Rs) (c':Nat):vs=[v, .ref od, .ref wd]->jM H ns v t->lQ H N ns od env->mJ H N wd c most->GT env.length t->env.length+6*dep t<=149->ev most [] m d t env c=some (r,c')->r≠.deep->(∀k ws,r=.val (.bl k ws)->∀u H',oU (Al N H H') H' u (.bl k ws)->mJ H' (Al N H H') wd c' most->Kw wd H H'->Q u H')->(∀w,r=.val w->(∀k ws,w≠.bl k ws)->∀ea H',Kw wd H H'->E (.ref CS) (some ea) H')->(∀C,Ep CS CT gO r=some C->∀ea H',Kw wd H H'->E (.ref C) (some ea) H')->JB CS CT gO m vs H Q E
def adk:Tm->Prop
 |.case _ _ _ _=>True
 |_=>False
inductive Rg (CS CT gO:aj)(m:Nat)(vs:List V)(H:Hp)(Q:VK)(E:XK):Prop where
 |mk (v:V) (od wd:aj) (N:aj->Prop) (ns:List Str) (t:Tm) (env:List Vl) (c d:Nat) (most:Int) (r:Rs) (c':Nat):vs=[v, .ref od, .ref wd]->adk t->jM H ns v t->lQ H N ns od env->mJ H N wd c most->GT env.length t->env.length+6*dep t<=149->ev most [] (m+1) d t env c=some (r,c')->r≠.deep->(∀w,r=.val w->∀u H',oU (Al N H H') H' u w->mJ H' (Al N H H') wd c' most->Kw wd H H'->Q u H')->(∀C,Ep CS CT gO r=some C->∀ea H',Kw wd H H'->E (.ref C) (some ea) H')->Rg CS CT gO m vs H Q E
section
variable {CS CT gO:aj}{bm:List ak}{dD B d7:String}
abbrev JC:aJ:=top 54
abbrev adl:List Str:=["_law_term","_law_own","_law_world","_law_value"]
theorem Rh:bZ adl sV (bQ JC):={}
set_option maxHeartbeats 4000000 in
theorem aah {m k:Nat}{fW:aj}{gW:FuncData}(F:iz K "_law_block_of" "_law_block_of" JC f fd)(mi:mg "isinstance"=none)(mt:mg "tuple"=none)(OS:OwnCls "Stuck" CS bm dD mg aV)(FS:ExcBaseFacts B dD d7 bm)
  (G:cP P w K mg aV (fP P w) k fW gW sV (qL CS CT gO m)) (mW:mg "_law_worked"=some (.ref fW)) (kW:keepIn K (.ref fW)=true) (bW:Binds K gW sV []):cP P w K mg aV (fP P w) (k+1) f fd sV (JB CS CT gO m):=by
 refine F.tU Rh λdF A aU s H vs Q E hr h=>?_;obtain⟨v,od,wd,N,ns,t,env,c,d,most,r,c',rfl,tl,en,wl,gt,BX,he,nd,q1,q2,q3⟩:=h;refine⟨_,bJ (iy 3 Rh.nd<|eF G hr rfl mW kW bW .nil cX (bx (pv 0)<|bx (pv 1) (bx (pv 2) bH)))
  (bJ (dz (PW.pt<|Ck (jO<|jD (cu iu rfl mi boot_isinstance (bx (pv 3)<|bx (iU (v:=.ty "tuple") rfl mt boot_tuple rfl) bH))) (vC<|cH Cq (bY (fG K) (pv 3) bK) bV)) (bO<|gG OS FS rfl (bx bV bH)) cN)
  (bO<|cQ (pv 3))),?_⟩
 refine⟨_,rfl,_,rfl,_,rfl,mY wl tl en wl Kw.refl (λb hb=>.inl hb) gt BX he nd (λw hw u H' vu wu ku=>?_) q3⟩;rcases vu.adg with ⟨k,ws,rr,l,vs,rfl,rfl,h1,h2,h3,h4⟩|⟨nb,hh⟩
 ·exact⟨_,rfl,_,_,_,_,rfl, .tup h1,Bp K,true,rfl,lU (cV (a:=rr) (j:=0) rfl h1 rfl ⟨rfl,_,rfl,gU (λz=>absurd z<|by simp) λ_=>⟨_,rfl,q1 k ws hw _ H' vu wu ku⟩⟩)⟩
 ·rcases hh with ⟨i,rfl⟩|⟨rr,xs,rfl,hf⟩
  ·exact⟨_,rfl,_,_,_,_,rfl, .int i,GP K,false,rfl,jK<|jK ⟨dO 1,λea _=>q2 w hw nb ea H' ku⟩⟩
  ·refine⟨_,rfl,_,_,_,_,rfl, .tup hf,Bp K,true,rfl,lU<|cV (a:=rr) (j:=0) rfl hf rfl ⟨rfl,_,rfl,gU (λ_=>⟨dO 1,λea _=>q2 w hw nb ea H' ku⟩) λz=>?_⟩⟩
   exact absurd (by rw[afW (λe=>Xj.2<|V.str.inj e)];rfl) z
abbrev JD:aJ:=top 55
abbrev adn:List Str:=["_law_term","_law_own","_law_world","_law_value","_law_inner","_law_name","_law_one"]
theorem xu:bZ adn sV (bQ JD):={}
set_option maxHeartbeats 8000000 in
theorem aai {m k:Nat}{fW fB:aj}{gW gB:FuncData}(F:iz K "_law_chosen" "_law_chosen" JD f fd)(ml:mg "len"=none)(mD:mg "dict"=none)(mz:mg "zip"=none)(OS:OwnCls "Stuck" CS bm dD mg aV)(FS:ExcBaseFacts B dD d7 bm)
  (GB:cP P w K mg aV (fP P w) (k+1) fB gB sV (JB CS CT gO m)) (mB:mg "_law_block_of"=some (.ref fB)) (kB:keepIn K (.ref fB)=true) (bB:Binds K gB sV [])
  (G:cP P w K mg aV (fP P w) k fW gW sV (qL CS CT gO m)) (mW:mg "_law_worked"=some (.ref fW)) (kW:keepIn K (.ref fW)=true) (bW:Binds K gW sV []):cP P w K mg aV (fP P w) (k+2) f fd sV (Rg CS CT gO m):=by
 refine F.tU xu λdF A aU s H vs Q E hr h=>?_;obtain⟨v,od,wd,N,ns,t,env,c,d,most,r,c',rfl,pt,tl,en,wl,gt,BX,he,nd,q1,q2⟩:=h;have hu:=qD hr;have hrm:gA k _:=hr.mono (aeI _);refine⟨_,bJ (iy 3 xu.nd<|eF GB hr rfl mB kB bB .nil cX (bx (bY (fG K) (pv 0) bK)<|bx (pv 1) (bx (pv 2) bH)))
  (bJ (dz (jO<|Cu Wu vH bK (bY (fG K) (pv 3) bK) (cu (mV K) rfl ml af6 (bx (bY (fG K) (pv 0) bK) bH))) (bO<|gG OS FS rfl (bx bV bH)) cN)
  (bJ (iy 4 xu.nd<|eU pQ rfl mD qZ (bx (pv 1) bH))
  (bJ (oY PassesOwn.leaving rfl (Vg false true rfl rfl mz (bx (bY (fG K) (bY (fG K) (bY (fG K) (pv 0) bK)<|bY (fG K) (pv 3) bK) bK)<|bx (bY (fG K) (pv 3) bK) bH))
   (pgT K (n:=2) rfl (jT (fY (i:=5) xu.nd rfl (Or.inl rfl))<|jT (fY (i:=6) xu.nd rfl (Or.inl rfl)) uN)) (bO<|uU hu (pv 4) (pv 5) (pv 6) rfl))
  (bO<|cQ (eF G hrm rfl mW kW bW .nil cX (bx (bY (fG K) (bY (fG K) (bY (fG K) (pv 0) bK)<|bY (fG K) (pv 3) bK) bK)<|bx (pv 4) (bx (pv 2) bH))))))),?_⟩
 have Ho:∀{H1:Hp} b,N b->Al N H H1 b:=λb hb=>.inl hb;have hz:=sizeLine_eq;cases tl with
 |n h=>exact pt.elim
 |v h=>exact pt.elim
 |g h=>exact pt.elim
 |fn h a=>exact pt.elim
 |lt h a b=>exact pt.elim
 |lW h a b c=>exact pt.elim
 |op h a b=>exact pt.elim
 |call h a b=>exact pt.elim
 |block h h2 a=>exact pt.elim
 |field h a=>exact pt.elim
 |@case _ a t u b ms ts bs ha ht t1 t2=>
  obtain⟨hx,gb,ga⟩:=gt;simp only[dep]at BX;have Vh:=aeU (dep b) (jm bs);have Vi:=aeS (dep b) (jm bs);generalize max (dep b) (jm bs)=Dm at BX Vh Vi;unfold ev at he;obtain⟨lt1,lt2⟩:=t2.len;cases e1:ev most [] m d b env c with
  |none=>rw[e1]at he;cases he
  |some rc=>
   obtain⟨r1,c1⟩:=rc;rw[e1]at he;refine dI λ_ hn=>?_;refine(cV (a:=a) (j:=1) rfl ha rfl ⟨_,rfl,_,rfl,u,od,wd,N,ns,b,env,c,d,most,r1,c1,rfl,t1,en,wl,gb,by omega,e1,by rintro rfl;cases he;exact nd rfl,λk ws hw u' H3 vu w3 k3=>?_,λw hw nb ea H3 k3=>q2 CS ?_ ea H3 k3,λC hC ea H3 k3=>q2 C (by cases r1 with|val v=>cases hC|_=>cases he;exact hC) ea H3 k3⟩)
   rotate_left
   ·subst hw
    cases w with
    |num i=>cases he;rfl
    |fn x y z=>cases he;rfl
    |bl k ws=>exact absurd rfl (nb k ws)
   subst hw;have RX:=wl.tps k3;have ha3:=RX _ _ ha;have G4:=RX _ _ ht;cases vu with
   |@bl rr l k vs ws h1 h2 h3 h4=>
    dsimp only at he;refine hn _ _<|dI λ_ hn=>?_;by_cases ck:0<=k/\k<(bs.length:Int)
    ·rw[afX ck]at he
     obtain⟨q,rfl⟩:∃q:Nat,k=(q:Int):=⟨k.toNat,by omega⟩;rw[show((q:Int).toNat)=q from rfl]at he;have lq:q<bs.length:=by omega
     rw[adX lq]at he;dsimp only at he;obtain⟨kq,em,l5q,gq⟩:=QD ga (adX lq);obtain⟨pa,pq,pv',ss,em',ev',hpa,hpq,nds,tpv⟩:=t2.get (adX lq);rw[em]at em';cases em';by_cases cm:ms[q]?=some ws.length
     ·rw[afX cm]at he
      rw[em]at cm;have cm:ss.length=ws.length:=af5 cm;have dq:=qj (adX lq);have qK:=h4.len;obtain⟨cD,Vj,hod,nod,lk,vk,Vk,QT⟩:=(wl.env k3 en).wide (N':=Al N H H3) Ho;have ado:=Vk.len;refine cV (a:=rr) (j:=1) rfl h1 rfl ⟨_,_,rfl,rfl,true,?_,jK<|cV (a:=a) (j:=2) rfl ha3 rfl ⟨t,_,rfl, .inr<|iW.of G4,_,_,rfl,rfl,true,?_,lU ?_⟩⟩
      ·exact congrArg V.bl (af0<|by omega)
      ·rw[lt1];exact congrArg V.bl (af0<|by omega)
      refine hn _ _<|dI λ_ hn=>?_;refine⟨_,rfl,od,cD,rfl,hod,λdd hdd=>?_⟩;have FQ:∀{b o},H3 b=some o->b≠dd:=λ{b o} e=>bU e hdd;refine hn _ _<|dI λ_ hn=>?_;have ux:∀b o,b≠dd->H3 b=some o->(upd H3 dd<|.dK cD) b=some o:=λb o n e=>by rw[bR n];exact e
      refine(cV (a:=a) (j:=2) rfl (ux _ _ (FQ ha3) ha3) rfl (cV (a:=rr) (j:=1) rfl (ux _ _ (FQ h1) h1) rfl ⟨t,_,(q:Int),_,rfl,rfl,iW.of<|ux _ _ (FQ G4) G4,cI (j:=q) ev',pa,_,0,_,rfl,rfl,iW.of<|ux _ _ (FQ<|RX _ _ hpa) (RX _ _ hpa),cI (j:=0) rfl,cV (a:=rr) (j:=2) rfl (ux _ _ (FQ h1) h1) rfl ⟨pq,l,_,_,rfl,ux _ _ (FQ<|RX _ _ hpq)<|RX _ _ hpq,ux _ _ (FQ h2) h2,?_⟩⟩));refine Rf (K1:=false) (K2:=true) (xs:=ss.map V.str) (ys:=vs) (λi U H'=>(∃o5 o6,U=[some (.ref a),some<|.ref od,some<|.ref wd,some<|.ref rr,some<|.ref dd,o5,o6])/\(∃kv',H' dd=some (.dK kv')/\kv'.length<=(Vj++vs.take i).length/\Z7 kv' (ns++ss.take i) (Vj++vs.take i))/\∀b o,b≠dd->H3 b=some o->H' b=some o) (by rw[aeb,cm];exact qK.symm) ⟨⟨none,none,rfl⟩,⟨cD,bA,by simpa using lk,by simpa using vk⟩,ux⟩ ?_ ?_ ?_
      ·rintro i U H' hi ⟨_,_,kp⟩
       exact⟨kp _ _ (FQ<|RX _ _ hpq)<|RX _ _ hpq,kp _ _ (FQ h2) h2⟩
      ·rintro i xv yv T U H' hxi hyi hT ⟨⟨o5,o6,rfl⟩,⟨kv',hd',l',f'⟩,kp⟩
       have hil:i<vs.length:=(aga hyi).1;have his:i<ss.length:=by rw[cm,<-qK];exact hil
       have exi:xv=.str ss[i]:=by
        rw[aee,adX his]at hxi;exact(af5 hxi).symm
       subst exi;have lt':(ns++ss.take i).length=(Vj++vs.take i).length:=by rw[adV,adV,aeh,aeh,QT,ado,cm,qK]
       have nin:ss[i]∉ns++ss.take i:=λz=>by
        rcases aeu.mp z with z|z
        ·exact(List.nodup_append.mp nds).2.2 _ z _ (afg his) rfl
        ·obtain⟨j,hj,e⟩:=List.mem_iff_getElem.mp z
         rw[aeh]at hj;rw[List.getElem_take]at e;have ZF:=(List.nodup_append.mp nds).2.1;exact List.pairwise_iff_getElem.mp ZF j i (by omega) his (by omega) e
       obtain⟨mo1,mo2⟩:=f'.more lt' nin yv;rw[ad8,ad8,show vs.take i++[yv]=vs.take (i+1) from by rw[List.take_succ,hyi];rfl,show ss.take i++[ss[i]]=ss.take (i+1) from by rw[List.take_succ,adX his];rfl]at mo1;have hT':T≠dd:=λz=>by rw[z,hd']at hT;cases hT
       refine⟨T,_,rfl,iW.of bA,rfl,_,_,rfl,_,[],rfl,rfl,?_⟩;have hd2:(upd H' T<|.tup [.str ss[i],yv]) dd=some (.dK kv'):=by rw[bR (af2 hT')];exact hd'
       have adp:kv'.length<=300:=by rw[adV,aeh]at l';omega
       refine⟨_,rfl,_,rfl,_,rfl,dd,_,rfl,Dt.k (k:=Sum.inr ss[i]) hd2 (dB<|by exact ad2 adp<|by decide),⟨_,_,rfl⟩,⟨_,bA,by rw[mo2,adV,aeh];rw[adV,aeh]at l';omega,mo1⟩,λb o n e=>?_⟩;rw[bR n,bR (bU (kp b o n e) hT)];exact kp b o n e
      ·rintro U H5 ⟨⟨o5,o6,rfl⟩,⟨kv5,hd5,l5,f5⟩,kp⟩
       rw[aeb,show vs.take ss.length=vs from afn (by rw[cm,qK];exact adZ _)]at l5 f5;rw[ae2]at f5;have Lb:Same H3 H5:=λb o e=>kp b o (FQ e) e;have RW:Kw wd H H5:=k3.trans (jc Lb);have w35:=w3.same Lb;have w5:mJ H5 (λb=>Al N H H3 b\/b=dd) wd c1 most:=w35.wide (λb hb=>.inl hb) (λz=>z.elim w3.nw λe=>w3.there<|by rw[e];exact hdd) (λb hb=>by
        rcases hb with z|z
        ·exact w35.ex b z
        ·subst z;rw[hd5];simp)
       have kd5:∀b o,Al N H H3 b->H3 b=some o->(Al N H H3 b\/b=dd)/\H5 b=some o:=λb o n e=>⟨.inl n,Lb b o e⟩;have Uw:BR H3 H5:=λb ys h=>Lb b _ h;have en5:lQ H5 (λb=>Al N H H3 b\/b=dd) (ns++ss) dd (env++ws):=⟨kv5,Vj++vs,hd5, .inr rfl,l5,f5,(Vk.mono Uw kd5).app<|h4.mono Uw kd5,by rw[adV,adV,QT,cm]⟩;have aae:∀b,(Al N H H3 b\/b=dd)->Al N H H5 b:=λb hb=>by
        rcases hb with z|z
        ·exact z.same Lb
        ·subst z
         refine .inr ⟨?_,by rw[hd5];simp⟩;cases hq:H b with
         |none=>rfl
         |some o=>rw[k3 b o (λe=>w3.there<|by rw[<-e];exact hdd) hq]at hdd;cases hdd
       refine hn _ _ ?_;refine(cV (a:=a) (j:=2) rfl (Lb _ _ ha3) rfl (cV (a:=rr) (j:=1) rfl (Lb _ _ h1) rfl ⟨t,_,(q:Int),_,rfl,rfl,iW.of<|Lb _ _ G4,cI (j:=q) ev',pa,_,1,_,rfl,rfl,iW.of<|Lb _ _ (RX _ _ hpa),cI (j:=1) rfl,_,rfl,_,rfl,mY wl ((tpv.tps RX).tps Uw) en5 w5 RW aae (by rw[adV,<-cm];exact gq) (by rw[adV];omega) he nd q1 q2⟩))
     ·rw[afY cm]at he;cases he
    ·rw[afY ck]at he
     cases he;by_cases z:0<=k
     ·refine cV (a:=rr) (j:=1) rfl h1 rfl ⟨_,_,rfl,rfl,true,?_,jK<|cV (a:=a) (j:=2) rfl ha3 rfl ⟨t,_,rfl, .inr<|iW.of G4,_,_,rfl,rfl,false,?_,jK ⟨dO 1,λea _=>q2 CS rfl ea H3 k3⟩⟩⟩
      ·exact congrArg V.bl<|af0 z
      ·rw[lt1];exact congrArg V.bl<|afW λy=>ck ⟨z,y⟩
     ·refine cV (a:=rr) (j:=1) rfl h1 rfl ⟨_,_,rfl,rfl,false,?_,lU ⟨false,rfl,jK ⟨dO 1,λea _=>q2 CS rfl ea H3 k3⟩⟩⟩
      exact congrArg V.bl<|afW z
end
noncomputable def jn (ws:List Vl):List Vl ⊕ Rs->List Vl ⊕ Rs
 |.inl r=>.inl (ws++r)
 |.inr r=>.inr r
theorem Ri {f:Tm->Nat->Option (Rs×Nat)}{ts:List Tm}{i:Nat}{t:Tm}{ci c':Nat}{oi:List Vl ⊕ Rs}(ht:ts[i]?=some t)(h:evs f (ts.drop i) ci=some (oi,c')):
  (∃v c1 o2,f t ci=some (.val v,c1)/\evs f (ts.drop<|i+1) c1=some (o2,c')/\∀ws,jn (ws++[v]) o2=jn ws oi)\/(∃r1,(∀v,r1≠.val v)/\f t ci=some (r1,c')/\oi=.inr r1):=by
 obtain⟨hi,e⟩:=aga ht;rw[aeC hi,e]at h;unfold evs at h;cases e1:f t ci with
 |none=>rw[e1]at h;cases h
 |some rc=>
  obtain⟨r1,c1⟩:=rc;rw[e1]at h;cases r1 with
  |val v=>
   dsimp only at h;left;cases e2:evs f (ts.drop<|i+1) c1 with
   |none=>rw[e2]at h;cases h
   |some oc=>
    obtain⟨o2,c2⟩:=oc;rw[e2]at h;cases o2 with
    |inl vs=>cases h;exact⟨v,c1,_,rfl,e2,λws=>by simp[jn]⟩
    |inr r=>cases h;exact⟨v,c1,_,rfl,e2,λws=>rfl⟩
  |_=>cases h;exact .inr ⟨_,λv z=>(by cases z),rfl,rfl⟩
theorem Vm:("v":Str)≠"n"/\("fun":Str)≠"n"/\("fun":Str)≠"v"/\("block":Str)≠"n"/\("block":Str)≠"v"/\("block":Str)≠"fun"/\("field":Str)≠"n"/\("field":Str)≠"v"/\("field":Str)≠"fun"/\("field":Str)≠"block"/\("case":Str)≠"n"/\("case":Str)≠"v"/\("case":Str)≠"fun"/\("case":Str)≠"block"/\("case":Str)≠"field":=by decide+kernel
theorem abD:("let":Str)≠"n"/\("let":Str)≠"v"/\("let":Str)≠"fun"/\("let":Str)≠"block"/\("let":Str)≠"field"/\("let":Str)≠"case":=by decide+kernel
theorem adq:("if":Str)≠"n"/\("if":Str)≠"v"/\("if":Str)≠"fun"/\("if":Str)≠"block"/\("if":Str)≠"field"/\("if":Str)≠"case"/\("if":Str)≠"let":=by decide+kernel
theorem x_call:("call":Str)≠"n"/\("call":Str)≠"v"/\("call":Str)≠"fun"/\("call":Str)≠"block"/\("call":Str)≠"field"/\("call":Str)≠"case"/\("call":Str)≠"let"/\("call":Str)≠"if":=by decide+kernel
theorem Pj:∀k,k<=3->wordOf k≠"n"/\wordOf k≠"v"/\wordOf k≠"fun"/\wordOf k≠"block"/\wordOf k≠"field"/\wordOf k≠"case"/\wordOf k≠"let"/\wordOf k≠"if"/\wordOf k≠"call":=by decide+kernel
section
variable {CS CT gO:aj}{bm:List ak}{dD B d7:String}
abbrev xG:aJ:=top 56
noncomputable abbrev nWk:List Str:=["_law_term","_law_own","_law_world","_law_inner","_law_left","_law_right"]
theorem vd:bZ nWk sV (bQ xG):={}
set_option maxHeartbeats 8000000 in
theorem Vn {m:Nat}{fS fE fB fC:aj}{gS gE gB gC:FuncData}(F:iz K "_law_worked" "_law_worked" xG f fd)(bF:Binds K fd sV [])(mF:mg "_law_worked"=some (.ref f))(mi:mg "isinstance"=none)(mD:mg "dict"=none)(mI:mg "int"=none)(OS:OwnCls "Stuck" CS bm dD mg aV)(FS:ExcBaseFacts B dD d7 bm)
  (GS:cP P w K mg aV (fP P w) 1 fS gS ["_law_word","_law_left","_law_right"] (Eo CS CT)) (mS:mg "_law_summed"=some (.ref fS)) (kS:keepIn K (.ref fS)=true) (bS:Binds K gS ["_law_word","_law_left","_law_right"] [])
  (GE:cP P w K mg aV (fP P w) (3*m+2) fE gE pEn (Q9 CS CT gO m)) (mE:mg "_law_entered"=some (.ref fE)) (kE:keepIn K (.ref fE)=true) (bE:Binds K gE pEn [])
  (GB:cP P w K mg aV (fP P w) (3*m+2) fB gB sV (JB CS CT gO m)) (mB:mg "_law_block_of"=some (.ref fB)) (kB:keepIn K (.ref fB)=true) (bB:Binds K gB sV [])
  (GC:cP P w K mg aV (fP P w) (3*m+3) fC gC sV (Rg CS CT gO m)) (mC:mg "_law_chosen"=some (.ref fC)) (kC:keepIn K (.ref fC)=true) (bC:Binds K gC sV [])
  (G:cP P w K mg aV (fP P w) (3*m+1) f fd sV (qL CS CT gO m)):cP P w K mg aV (fP P w) (3*m+4) f fd sV (aac CS CT gO<|m+1):=by
 refine F.tU vd λdF A aU s H vs Q E hr h=>?_;obtain⟨v,od,wd,N,ns,t,env,c,d,most,r,c',rfl,tl,en,wl,gt,BX,he,nd,q1,q2⟩:=h;have hu:=qD hr;have hr1:gA 1 _:=hr.mono (by exact aeE _ _);have hrm:gA (3*m+1) _:=hr.mono (by exact ad9 _ 2);have hrb:gA (3*m+2) _:=hr.mono (by exact aeI _);refine⟨_,bJ (dz (cH eG (bY (fG K) (pv 0) bK) bV) (bO<|cQ (bY (fG K) (pv 0) bK)) cN)
  (bJ (dz (cH eG (bY (fG K) (pv 0) bK) bV) (bO<|cQ (cO hu (pv 1)<|bY (fG K) (pv 0) bK)) cN)
  (bJ (dz (cH eG (bY (fG K) (pv 0) bK) bV) (bO<|cQ (eO<|bx bV (bx (bY (fG K) (pv 0) bK)<|bx (bY (fG K) (pv 0) bK) (bx (pv 1) bH)))) cN)
  (bJ (dz (cH eG (bY (fG K) (pv 0) bK) bV) (bO (cQ (eO (bx bV (bx (bY (fG K) (pv 0) bK) (bx
   (aaf (te:=Cy (qL CS CT gO m) [] E (gQ (jr 0)<|gQ (jr 1) (gQ (jr 2) tE))) (bQ xG) nWk ["_law_own","_law_world"] [1,2] (by decide+kernel) (piT K<|bY (fG K) (pv 0) bK)
    (λC s₀ H₀ ex=>eF G hrm rfl mF F.kp bF .nil Er (bx (pv 0)<|bx (pv 1) (bx (pv 2) bH)))) bH)))))) cN)
  (bJ (dz (cH eG (bY (fG K) (pv 0) bK) bV) (bO<|cQ (bY (yc K) (bY (fG K) (eF GB hrb rfl mB kB bB .nil cX (bx (bY (fG K) (pv 0) bK)<|bx (pv 1) (bx (pv 2) bH))) bK)<|bY (fG K) (pv 0) bK)) cN)
  (bJ (dz (cH eG (bY (fG K) (pv 0) bK) bV) (bO<|cQ (eF GC hr rfl mC kC bC .nil cX (bx (pv 0)<|bx (pv 1) (bx (pv 2) bH)))) cN)
  (bJ (dz (cH eG (bY (fG K) (pv 0) bK) bV)
   (bJ (iy 3 vd.nd<|eU pQ rfl mD qZ (bx (pv 1) bH))
   (bJ (uU hu (pv 3) (bY (fG K) (pv 0) bK) (eF G hrm rfl mF F.kp bF .nil cX (bx (bY (fG K) (pv 0) bK)<|bx (pv 1) (bx (pv 2) bH))) rfl)
   (bO<|cQ (eF G hrm rfl mF F.kp bF .nil cX (bx (bY (fG K) (pv 0) bK)<|bx (pv 3) (bx (pv 2) bH)))))) cN)
  (bJ (iy 4 vd.nd<|eF G hrm rfl mF F.kp bF .nil cX (bx (bY (fG K) (pv 0) bK)<|bx (pv 1) (bx (pv 2) bH)))
  (bJ (dz (cH eG (bY (fG K) (pv 0) bK) bV)
   (bJ (dz (jO<|jD (cu iu rfl mi boot_isinstance (bx (pv 4)<|bx (iU (v:=.ty "int") rfl mI boot_int rfl) bH))) (bO<|gG OS FS rfl (bx bV bH)) cN)
   (bO<|cQ (eF G hrm rfl mF F.kp bF .nil cX (bx (bY (fG K) (pv 0)<|dN jt bK (eU pW rfl mI boot_int (bx (rE eG (pv 4) bK) bH)))<|bx (pv 1) (bx (pv 2) bH))))) cN)
  (bJ (iy 5 vd.nd<|eF G hrm rfl mF F.kp bF .nil cX (bx (bY (fG K) (pv 0) bK)<|bx (pv 1) (bx (pv 2) bH)))
  (bJ (dz (cH eG (bY (fG K) (pv 0) bK) bV) (bO<|cQ (eF GE hrb rfl mE kE bE .nil cX (bx (pv 4)<|bx (pv 5) (bx (pv 2) bH)))) cN)
  (bO<|cQ (eF GS hr1 rfl mS kS bS .nil cX (bx (bY (fG K) (pv 0) bK)<|bx (pv 4) (bx (pv 5) bH)))))))))))))),?_⟩
 obtain⟨y1,y2,y3,y4,y5,y6,y7,y8,y9,y10,y11,y12,y13,y14,y15⟩:=Vm;have raw:∀{t':Tm} {v':V} {kI:List Vl} {e:aj} {N1:aj->Prop} {H1:Hp} {c1:Nat} {r1:Rs} {c2:Nat} {Q':VK} {ns:List Str},jM H1 ns v' t'->lQ H1 N1 ns e kI->mJ H1 N1 wd c1 most->GT kI.length t'->kI.length+6*dep t'<=149->ev most [] m d t' kI c1=some (r1,c2)->r1≠.deep->
   (∀w,r1=.val w->∀u H',oU (Al N1 H1 H') H' u w->mJ H' (Al N1 H1 H') wd c2 most->Kw wd H1 H'->Q' u H')->(∀C,Ep CS CT gO r1=some C->∀ea H',Kw wd H1 H'->E (.ref C) (some ea) H')->qL CS CT gO m [v', .ref e, .ref wd] H1 Q' E:=by
  intro t' v' kI e N1 H1 c1 r1 c2 Q' ns a1 a2 a3 a5 a6 a7 as a8 a9;cases m with
  |zero=>cases a7
  |succ j=>exact⟨v',e,wd,N1,ns,t',kI,c1,d,most,r1,c2,rfl,a1,a2,a3,a5,a6,a7,as,a8,a9⟩
 have Ho:∀{H1:Hp} b,N b->Al N H H1 b:=λb hb=>.inl hb;have w0:mJ H (Al N H H) wd c most:=wl.wide Ho (λz=>wl.nw z.refl) (λb hb=>wl.ex b hb.refl);cases tl with
 |@n _ a i ha=>
  cases he;refine lC rfl ha λnx=>?_;exact(cV (a:=a) (j:=1) rfl ha rfl (q1 _ rfl _ _ (.num gt) w0 Kw.refl))
 |@v _ a x ha hx'=>
  unfold ev at he;have hx:x<env.length:=gt;rw[adX hx]at he;cases he;obtain⟨cD,vs,hod,nod,lk,vk,Vk,QT⟩:=en;obtain⟨u,hu1,vu⟩:=Vk.get (adX hx);have hv:fV cD (Sum.inr<|ur ns x)=some u:=by rw[vk.1 x _ (Ay hx')];exact hu1
  refine dR rfl ha y1 ?_;refine lC rfl ha λnx=>?_;exact⟨_,rfl,cV (a:=a) (j:=1) rfl ha rfl ⟨od,_,rfl, .inl ⟨cD,Sum.inr<|ur ns x,(by first|exact hod|exact .inl hod),rfl,hv.symm⟩,q1 _ rfl _ _ (vu.wide Ho) w0 Kw.refl⟩⟩
 |@g _ a j ha=>
  unfold ev at he;cases he
 |@fn _ a sx bv b ha ndS t1=>
  cases he;obtain⟨hx,gb⟩:=gt;simp only[dep]at BX;obtain⟨cD,vs,hod,nod,lk,vk,Vk,QT⟩:=en;refine tn2 rfl ha y2 y3 ?_;refine lC rfl ha λnx=>?_;refine(cV (a:=a) (j:=1) rfl ha rfl (cV (a:=a) (j:=2) rfl ha rfl ⟨_,rfl,(dO 4),λp hp=>?_⟩));have s2:=bI hp (.tup [.str "fn", .str sx,bv, .ref od]);have w2:=(wl.same s2).Xi wl Ho (jc s2);rw[hx]at q1;exact q1 _ rfl _ _ (.fn bA (t1.same s2) (s2 _ _ hod) (Ho _ nod) lk vk (Vk.mono (wl.tps<|jc s2) λb cD n e=>⟨Ho b n,s2 b _ e⟩) ndS QT gb<|by omega) w2 (jc s2)
 |@block _ a t k ts bs ha ht t1=>
  obtain⟨l5,gl⟩:=gt;simp only[dep]at BX;have hz:=sizeLine_eq;unfold ev at he;cases e1:evs (λt c=>ev most [] m d t env c) bs c with
  |none=>rw[e1]at he;cases he
  |some oc=>
   obtain⟨o,c1⟩:=oc;rw[e1]at he;have lt:=t1.len;have h0:c1=c':=by cases o<;>(cases he;rfl)
   subst h0;refine tn3 rfl ha y4 y5 y6 ?_;refine lC rfl ha λ_=>?_;refine(cV (a:=a) (j:=1) rfl ha rfl (cV (a:=a) (j:=2) rfl ha rfl ⟨t,rfl,⟨_,iW.of ht⟩,DN (xs:=ts) (λi vs H'=>∃ws ci oi,iC (Al N H H') H' vs ws/\mJ H' (Al N H H') wd ci most/\Kw wd H H'/\vs.length=i/\evs (λt c=>ev most [] m d t env c) (bs.drop i) ci=some (oi,c1)/\jn ws oi=o) ?_ ?_ ?_ ?_⟩))
   ·exact⟨[],c,o, .nil,wl.Xi wl Ho Kw.refl,Kw.refl,rfl,e1,by cases o<;>rfl⟩
   ·rintro i vs H' hi ⟨ws,ci,oi,_,_,k1,l1,_⟩
    exact⟨iW.of<|wl.tps k1 _ _ ht,dB<|by omega⟩
   ·rintro i x vs H' hi hx ⟨ws,ci,oi,v1,RZ,k1,l1,ee,ej⟩
    have hib:i<bs.length:=by exact aeo hi lt
    obtain⟨x',hx',tx⟩:=t1.get (adX hib);rw[hx]at hx';cases hx';have gi:=Ax gl (afg hib);have di:=qj (adX hib);refine tt1<|jK ?_;have en1:lQ H' (Al N H H') ns od env:=(wl.env k1 en).wide Ho;rcases Ri (adX hib) ee with ⟨v,c2,o2,f1,f2,f3⟩|⟨r1,nv,f1,f2⟩
    ·refine⟨_,rfl,_,rfl,_,rfl,mY RZ (tx.tps<|wl.tps k1) en1 RZ Kw.refl (λb hb=>.inl hb) gi (by omega) f1 (λz=>by cases z) (λw' hw' u H2 vu wu ku=>nx hi ?_) λC hC ea H2 ku=>?_⟩
     ·cases hw'
      have st:=Al.step (N:=N) (H:=H) (H1:=H') (H2:=H2) (λb hb=>hb) k1 ku wl.there RZ.there;have k2:=k1.trans ku;refine⟨ws++[v],c2,o2,?_,wu.Xi wl st k2,k2,by rw[adV,l1];rfl,f2,by rw[f3,ej]⟩;exact iC.snoc (v1.mono (RZ.tps ku) λb o n q=>⟨st b<|.inl n,(RZ.kd ku b o n q).2⟩)<|vu.wide st
     ·cases hC
    ·subst f2
     rw[<-ej]at he;have er:r=r1:=by cases he;rfl
     subst er;exact⟨_,rfl,_,rfl,_,rfl,mY RZ (tx.tps<|wl.tps k1) en1 RZ Kw.refl (λb hb=>.inl hb) gi (by omega) f1 nd (λw' hw'=>absurd hw'<|nv w') λC hC ea H2 ku=>q2 C hC ea H2<|k1.trans ku⟩
   ·rintro vs H' ⟨ws,ci,oi,v1,RZ,k1,l1,ee,ej⟩ l hl
    rw[lt,List.drop_length]at ee;cases ee;have eo:o=.inl ws:=by rw[<-ej];simp[jn]
    subst eo;cases he;refine⟨(dO 3),λp hp=>?_⟩;have s2:=bI hl (.lst vs);have s3:=bI hp (.tup [.str "bl", .int k, .ref l]);have s23:=s2.trans s3;have k3:=k1.trans (jc s23);refine q1 _ rfl _ _ (.bl bA (s3 _ _ bA) ?_<|v1.mono (λb ys h=>s23 b _ h) λb o n q=>⟨n.same s23,s23 b _ q⟩) ((RZ.same s23).Xi wl (λb hb=>hb.same s23) k3) k3;refine .inr ⟨?_,by rw[s3 _ _ bA];simp⟩;cases hq:H l with
    |none=>rfl
    |some o=>
     have:=k1 l o (λz=>by rw[z]at hl;exact RZ.there hl) hq;rw[hl]at this;cases this
 |@field _ a i u b ha t1=>
  simp only[dep]at BX;unfold ev at he;cases e1:ev most [] m d b env c with
  |none=>rw[e1]at he;cases he
  |some rc=>
   obtain⟨r1,c1⟩:=rc;rw[e1]at he;refine tn4 rfl ha y7 y8 y9 y10 ?_;refine lC rfl ha λ_=>?_;refine(cV (a:=a) (j:=2) rfl ha rfl ⟨_,rfl,_,rfl,u,od,wd,N,ns,b,env,c,d,most,r1,c1,rfl,t1,en,wl,gt,by omega,e1,by rintro rfl;cases he;exact nd rfl,λk ws hw u' H3 vu w3 k3=>?_,λw hw nb ea H3 k3=>q2 CS ?_ ea H3 k3,λC hC ea H3 k3=>q2 C (by cases r1 with|val v=>cases hC|_=>cases he;exact hC) ea H3 k3⟩)
   rotate_left
   ·subst hw
    cases w with
    |num i=>cases he;rfl
    |fn x y z=>cases he;rfl
    |bl k ws=>exact absurd rfl (nb k ws)
   subst hw;have ha3:=wl.tps k3 _ _ ha;cases vu with
   |@bl rr l k vs ws h1 h2 h3 h4=>
    dsimp only at he;cases e2:ws[i]? with
    |none=>rw[e2]at he;cases he
    |some v=>
     rw[e2]at he;cases he;obtain⟨u2,hu2,vu2⟩:=h4.get e2;exact⟨rr,_,2,_,rfl,rfl,iW.of h1,cI (j:=2) rfl,cV (a:=a) (j:=1) rfl ha3 rfl ⟨l,_,(i:Int),_,rfl,rfl,dM.of h2,cI (j:=i) hu2,q1 _ rfl _ _ vu2 w3 k3⟩⟩
 |@case _ a t u b ms ts bs ha ht t1 t2=>
  refine tn5 rfl ha y11 y12 y13 y14 y15 ?_;refine lC rfl ha λ_=>?_;exact⟨_,rfl,_,rfl,_,rfl,_,od,wd,N,ns, .case ns.length b ms bs,env,c,d,most,r,c',rfl,trivial, .case ha ht t1 t2,en,wl,gt,BX,he,nd,q1,q2⟩
 |@lt _ a sx u y ta tb ha ndS t1 t2=>
  obtain⟨hx,g1,g2⟩:=gt;obtain⟨z1,z2,z3,z4,z5,z6⟩:=abD;simp only[dep]at BX;have Vh:=aeU (dep ta) (dep tb);have Vi:=aeS (dep ta) (dep tb);generalize max (dep ta) (dep tb)=Dm at BX Vh Vi;unfold ev at he;cases e1:ev most [] m d ta env c with
  |none=>rw[e1]at he;cases he
  |some rc=>
   obtain⟨r1,c1⟩:=rc;rw[e1]at he;refine tn6 rfl ha z1 z2 z3 z4 z5 z6 ?_;refine lC rfl ha λnx=>?_;obtain⟨cD,vs,hod,nod,lk,vk,Vk,QT⟩:=id en;refine⟨_,rfl,od,cD,rfl,hod,λdd hdd=>?_⟩;have s2:=bI hdd (.dK cD);have Rj:(upd H dd<|.dK cD) dd=some (.dK cD):=bA;have FQ:dd≠wd:=by
    obtain⟨kv,Jw,_⟩:=wl.dk;exact cJ hdd Jw
   revert s2 Rj;generalize upd H dd (.dK cD)=H2;intro s2 Rj;have k2:Kw wd H H2:=jc s2;have w2:=wl.same s2;refine(cV (a:=a) (j:=2) rfl (s2 _ _ ha) rfl ⟨_,rfl,_,rfl,raw (t1.same s2) (wl.env k2 en) w2 g1 (by omega) e1 (by rintro rfl;cases he;exact nd rfl) (λw hw u' H3 vu w3 k3=>?_) λC hC ea H3 k3=>q2 C (by cases r1 with|val v=>cases hC|_=>cases he;exact hC) ea H3<|k2.trans k3⟩);subst hw;dsimp only at he;have Ls:=k2.trans k3;have ha3:=wl.tps Ls _ _ ha;have EY:=k3 _ _ FQ Rj;refine⟨_,rfl,cV (a:=a) (j:=1) rfl ha3 rfl ⟨dd,_,rfl,Dt.k (k:=Sum.inr sx) EY (dB<|by have:=Vk.len;omega),?_⟩⟩;have nnd:¬Al N H2 H3 dd:=λz=>by
    rcases z with z|⟨z,_⟩
    ·exact wl.ex dd z hdd
    ·rw[Rj]at z;cases z
   have Rk:(upd H3 dd<|.dK (putK cD (Sum.inr sx) u')) dd=some (.dK<|putK cD (Sum.inr sx) u'):=bA;have Xm:∀b o,b≠dd->H3 b=some o->(upd H3 dd<|.dK (putK cD (Sum.inr sx) u')) b=some o:=λb o n h=>by rw[bR n];exact h
   revert Rk Xm;generalize upd H3 dd (.dK<|putK cD (Sum.inr sx) u')=H4;intro Rk Xm;have ZP:BR H3 H4:=λb ys h=>Xm b _ (jg h EY<|by intro z;cases z) h;have kd4:∀b kvs',Al N H2 H3 b->H3 b=some kvs'->(Al N H2 H3 b\/b=dd)/\H4 b=some kvs':=λb kvs' n e=>⟨.inl n,Xm b _ (λz=>nnd<|by rw[<-z];exact n) e⟩;have Mg:Kw wd H H4:=λb o n h=>Xm b o (bU h hdd) (Ls b o n h);have adt:iC (λb=>Al N H2 H3 b\/b=dd) H4 vs env:=((Vk.mono (wl.tps k2)<|wl.kd k2).mono (w2.tps k3) λb kvs' n e=>⟨.inl n,(w2.kd k3 b kvs' n e).2⟩).mono ZP kd4;have w4:mJ H4 (λb=>Al N H2 H3 b\/b=dd) wd c1 most:=by
    obtain⟨kv,Jw,gg⟩:=w3.dk;refine⟨⟨kv,Xm _ _ (af2 FQ) Jw,gg⟩,λz=>z.elim w3.nw λe=>FQ e.symm,λb hb=>?_⟩;rcases hb with z|z
    ·obtain⟨o,ho⟩:=Option.ne_none_iff_exists'.mp (w3.ex b z)
     rw[Xm b o (λe=>nnd<|by rw[<-e];exact z) ho];simp
    ·subst z;rw[Rk];simp
   have en4:lQ H4 (λb=>Al N H2 H3 b\/b=dd) (ns++[sx]) dd (env++[w]):=lQ.more lk vk adt QT ndS (vu.mono ZP kd4) (.inr rfl) Rk;have adu:∀b,(Al N H2 H3 b\/b=dd)->Al N H H4 b:=λb hb=>by
    rcases hb with (z|⟨z1,z2⟩)|z
    ·exact .inl z
    ·refine .inr ⟨?_,?_⟩
     ·cases hq:H b with
      |none=>rfl
      |some o=>rw[s2 b o hq]at z1;cases z1
     ·obtain⟨o,ho⟩:=Option.ne_none_iff_exists'.mp z2
      rw[Xm b o (λe=>by rw[e,Rj]at z1;cases z1) ho];simp
    ·subst z;exact .inr ⟨hdd,by rw[Rk];simp⟩
   refine(cV (a:=a) (j:=3) rfl (ZP _ _ ha3) rfl ⟨_,rfl,_,rfl,mY wl ((t2.tps<|wl.tps Ls).tps ZP) en4 w4 Mg adu (by rw[adV];exact g2) (by rw[adV];simp;omega) he nd q1 q2⟩)
 |@lW _ a u y zv tc ta tb ha t1 t2 t3=>
  obtain⟨g0,g1,g2⟩:=gt;obtain⟨z1,z2,z3,z4,z5,z6,z7⟩:=adq;simp only[dep]at BX;have Vh:=aeU (dep ta) (dep tb);have Vi:=aeS (dep ta) (dep tb);generalize max (dep ta) (dep tb)=Dm at BX Vh Vi;have dm3:=aeU (dep tc) Dm;have dm4:=aeS (dep tc) Dm;generalize max (dep tc) Dm=Dn at BX dm3 dm4;unfold ev at he;cases e1:ev most [] m d tc env c with
  |none=>rw[e1]at he;cases he
  |some rc=>
   obtain⟨r1,c1⟩:=rc;rw[e1]at he;refine tn7 rfl ha z1 z2 z3 z4 z5 z6 z7 ?_;refine(cV (a:=a) (j:=1) rfl ha rfl ⟨_,rfl,_,rfl,mY wl t1 en wl Kw.refl Ho g0 (by omega) e1 (by rintro rfl;cases he;exact nd rfl) (λw hw u' H3 vu w3 k3=>?_) λC hC ea H3 k3=>q2 C (by cases r1 with|val v=>cases hC|_=>cases he;exact hC) ea H3 k3⟩);subst hw;have ha3:=wl.tps k3 _ _ ha;have en3:lQ H3 (Al N H H3) ns od env:=(wl.env k3 en).wide Ho;refine lC rfl ha3 λnx=>?_;rcases vu.dec with ⟨i,rfl,rfl,hi⟩|⟨nn,rr,xs,rfl,hrr⟩
   ·dsimp only at he
    refine⟨_,rfl,_,_,_,_,rfl, .int i,oE K,true,rfl,lU ?_⟩;by_cases c0:i=0
    ·rw[afX c0]at he
     have e0:(decide<|V.int i=V.int 0)=true:=af0 (by rw[c0]);refine⟨_,rfl,_,rfl,rfl, .inr ⟨_,rfl,_,_,rfl,rfl,a,_,3,zv,rfl,?_,iW.of ha3,cI (j:=3) rfl,_,rfl,_,rfl,mY wl (t3.tps<|wl.tps k3) en3 w3 k3 (λb hb=>hb) g2 (by omega) he nd q1 q2⟩⟩;rw[e0];rfl
    ·rw[afY c0]at he
     have e0:(decide<|V.int i=V.int 0)=false:=afW (λz=>c0<|V.int.inj z);refine⟨_,rfl,_,rfl,rfl, .inr ⟨_,rfl,_,_,rfl,rfl,a,_,2,y,rfl,?_,iW.of ha3,cI (j:=2) rfl,_,rfl,_,rfl,mY wl (t2.tps<|wl.tps k3) en3 w3 k3 (λb hb=>hb) g1 (by omega) he nd q1 q2⟩⟩;rw[e0];rfl
   ·have er:r=.stuck:=by
     cases w with
     |num i=>exact absurd rfl (nn i)
     |fn x y z=>cases he;rfl
     |bl k ws=>cases he;rfl
    subst er;exact⟨_,rfl,_,_,_,_,rfl, .tup hrr,vW K,false,rfl,jK ⟨dO 1,λea _=>q2 CS rfl ea H3 k3⟩⟩
 |@op _ a k u y ta tb ha t1 t2=>
  obtain⟨hk,g1,g2⟩:=gt;obtain⟨z1,z2,z3,z4,z5,z6,z7,z8,z9⟩:=Pj k hk;simp only[dep]at BX;have Vh:=aeU (dep ta) (dep tb);have Vi:=aeS (dep ta) (dep tb);generalize max (dep ta) (dep tb)=Dm at BX Vh Vi;unfold ev at he;cases e1:ev most [] m d ta env c with
  |none=>rw[e1]at he;cases he
  |some rc=>
   obtain⟨r1,c1⟩:=rc;rw[e1]at he;refine tn7 rfl ha z1 z2 z3 z4 z5 z6 z7 ?_;refine(cV (a:=a) (j:=1) rfl ha rfl ⟨_,rfl,_,rfl,mY wl t1 en wl Kw.refl Ho g1 (by omega) e1 (by rintro rfl;cases he;exact nd rfl) (λw hw u' H3 vu w3 k3=>?_) λC hC ea H3 k3=>q2 C (by cases r1 with|val v=>cases hC|_=>cases he;exact hC) ea H3 k3⟩);subst hw;dsimp only at he;have ha3:=wl.tps k3 _ _ ha;have en3:lQ H3 (Al N H H3) ns od env:=(wl.env k3 en).wide Ho;refine dR rfl ha3 z8 ?_;cases e2:ev most [] m d tb env c1 with
   |none=>rw[e2]at he;cases he
   |some Zv=>
    obtain⟨r2,c2⟩:=Zv;rw[e2]at he;refine(cV (a:=a) (j:=2) rfl ha3 rfl ⟨_,rfl,_,rfl,raw (t2.tps<|wl.tps k3) en3 w3 g2 (by omega) e2 (by rintro rfl;cases he;exact nd rfl) (λw' hw' u2 H4 vu2 w4 k4=>?_) λC hC ea H4 k4=>q2 C (by cases r2 with|val v=>cases hC|_=>cases he;exact hC) ea H4<|k3.trans k4⟩);subst hw';have Mg:=k3.trans k4;have ha4:=wl.tps Mg _ _ ha;refine dR rfl ha4 z9 ?_;have vu4:oU (Al N H H3) H4 u' w:=w3.val k4 vu;rcases vu4.dec with ⟨i,rfl,rfl,hi⟩|⟨nn,hh⟩
    ·rcases vu2.dec with ⟨j,rfl,rfl,hj⟩|⟨nn2,hh2⟩
     ·dsimp only at he
      refine(cV (a:=a) (j:=0) rfl ha4 rfl ⟨_,rfl,_,rfl, .mk k i j rfl hk hi hj (λz H5 s5=>?_) λz ea H5 s5=>?_⟩)
      ·rw[afX z]at he
       cases he;have k5:=Mg.trans (jc s5);have st:=Al.step (N:=N) (H:=H) (H1:=H3) (H2:=H4) (N1:=Al N H H3) (λb hb=>hb) k3 k4 wl.there w3.there;exact q1 _ rfl _ _ (.num z) ((w4.same s5).Xi wl (λb hb=>(st b hb).same s5) k5) k5
      ·rw[afY z]at he
       cases he;exact q2 CT rfl ea H5 (Mg.trans<|jc s5)
     ·have er:r=.stuck:=by
       cases w' with
       |num i=>exact absurd rfl (nn2 i)
       |fn x y z=>cases he;rfl
       |bl k ws=>cases he;rfl
      subst er;exact(cV (a:=a) (j:=0) rfl ha4 rfl ⟨_,rfl,_,rfl, .no _ _ _ rfl (.inr ⟨⟨i,rfl⟩,hh2⟩) λea H5 s5=>q2 CS rfl ea H5 (Mg.trans<|jc s5)⟩)
    ·have er:r=.stuck:=by
      cases w with
      |num i=>exact absurd rfl (nn i)
      |fn x y z=>cases w'<;>(cases he;rfl)
      |bl k ws=>cases w'<;>(cases he;rfl)
     subst er;exact(cV (a:=a) (j:=0) rfl ha4 rfl ⟨_,rfl,_,rfl, .no _ _ _ rfl (.inl hh) λea H5 s5=>q2 CS rfl ea H5 (Mg.trans<|jc s5)⟩)
 |@call _ a u y ta tb ha t1 t2=>
  obtain⟨g1,g2⟩:=gt;obtain⟨z1,z2,z3,z4,z5,z6,z7,z8⟩:=x_call;simp only[dep]at BX;have Vh:=aeU (dep ta) (dep tb);have Vi:=aeS (dep ta) (dep tb);generalize max (dep ta) (dep tb)=Dm at BX Vh Vi;unfold ev at he;cases e1:ev most [] m d ta env c with
  |none=>rw[e1]at he;cases he
  |some rc=>
   obtain⟨r1,c1⟩:=rc;rw[e1]at he;refine tn7 rfl ha z1 z2 z3 z4 z5 z6 z7 ?_;refine(cV (a:=a) (j:=1) rfl ha rfl ⟨_,rfl,_,rfl,mY wl t1 en wl Kw.refl Ho g1 (by omega) e1 (by rintro rfl;cases he;exact nd rfl) (λw hw u' H3 vu w3 k3=>?_) λC hC ea H3 k3=>q2 C (by cases r1 with|val v=>cases hC|_=>cases he;exact hC) ea H3 k3⟩);subst hw;dsimp only at he;have ha3:=wl.tps k3 _ _ ha;have en3:lQ H3 (Al N H H3) ns od env:=(wl.env k3 en).wide Ho;refine dR rfl ha3 z8 ?_;cases e2:ev most [] m d tb env c1 with
   |none=>rw[e2]at he;cases he
   |some Zv=>
    obtain⟨r2,c2⟩:=Zv;rw[e2]at he;refine(cV (a:=a) (j:=2) rfl ha3 rfl ⟨_,rfl,_,rfl,raw (t2.tps<|wl.tps k3) en3 w3 g2 (by omega) e2 (by rintro rfl;cases he;exact nd rfl) (λw' hw' u2 H4 vu2 w4 k4=>?_) λC hC ea H4 k4=>q2 C (by cases r2 with|val v=>cases hC|_=>cases he;exact hC) ea H4<|k3.trans k4⟩);subst hw';have Mg:=k3.trans k4;have ha4:=wl.tps Mg _ _ ha;refine lC rfl ha4 λnx=>?_;have vu4:oU (Al (Al N H H3) H3 H4) H4 u' w:=(w3.val k4 vu).wide λb hb=>.inl hb;have st:=Al.step (N:=N) (H:=H) (H1:=H3) (H2:=H4) (N1:=Al N H H3) (λb hb=>hb) k3 k4 wl.there w3.there;have he2:Q8 most m d w w' c2=some (r,c'):=by
     unfold Q8;cases hcv:qI w with
     |none=>rw[hcv]at he;exact he
     |some be=>obtain⟨body,kI⟩:=be;rw[hcv]at he;exact he
    refine⟨_,rfl,_,rfl,_,rfl,u',u2,wd,_,w,w',c2,d,most,r,c',rfl,vu4,vu2,w4,he2,nd,λw5 hw5 u5 H5 vu5 wl5 k5=>?_,λC hC ea H5 k5=>q2 C hC ea H5<|Mg.trans k5⟩;have RT:=Al.step (N:=N) (H:=H) (H1:=H4) (H2:=H5) st Mg k5 wl.there w4.there;exact q1 w5 hw5 u5 H5 (vu5.wide RT) (wl5.Xi wl RT<|Mg.trans k5)<|Mg.trans k5
end
section
variable {CS CT gO:aj}{fS fE fB fC:aj}{gS gE gB gC:FuncData}
theorem Fd {bm bm':List ak}{dD B d7 je B' oF:String}(F:iz K "_law_worked" "_law_worked" xG f fd)(bF:Binds K fd sV [])(mF:mg "_law_worked"=some (.ref f))(mi:mg "isinstance"=none)(mt:mg "tuple"=none)(ml:mg "len"=none)(mD:mg "dict"=none)(mI:mg "int"=none)(mz:mg "zip"=none)
  (GS:cP P w K mg aV (fP P w) 1 fS gS ["_law_word","_law_left","_law_right"] (Eo CS CT)) (mS:mg "_law_summed"=some (.ref fS)) (kS:keepIn K (.ref fS)=true) (bS:Binds K gS ["_law_word","_law_left","_law_right"] [])
  (FE:iz K "_law_entered" "_law_entered" Jv fE gE) (mE:mg "_law_entered"=some (.ref fE)) (bE:Binds K gE pEn []) (FB:iz K "_law_block_of" "_law_block_of" JC fB gB) (mB:mg "_law_block_of"=some (.ref fB)) (bB:Binds K gB sV []) (FC:iz K "_law_chosen" "_law_chosen" JD fC gC) (mC:mg "_law_chosen"=some (.ref fC)) (bC:Binds K gC sV [])
  (O:OwnCls "TooLong" gO bm dD mg aV) (OB:ExcBaseFacts B dD d7 bm) (OS:OwnCls "Stuck" CS bm' je mg aV) (FS:ExcBaseFacts B' je oF bm'):
  ∀m:Nat,cP P w K mg aV (fP P w) (3*m+1) f fd sV (qL CS CT gO m)
 |0=>⟨λvs H Q E h=>h.elim,λA aU s H args us vs Q E _ _ _ _ h=>h.elim⟩
 |m+1=>by
  have ih:=Fd F bF mF mi mt ml mD mI mz GS mS kS bS FE mE bE FB mB bB FC mC bC O OB OS FS m;have gb:=aah FB mi mt OS FS ih mF F.kp bF;exact Vn F bF mF mi mD mI OS FS GS mS kS bS (aad FE mi mt mD O OB OS FS ih mF F.kp bF) mE FE.kp bE gb mB FB.kp bB (aai FC ml mD mz OS FS gb mB FB.kp bB ih mF F.kp bF) mC FC.kp bC ih
end
def lX (tl:List V)(H:Hp)(st:aj):Prop:=∃a b:Int,H st=some (.lst (.int a::.int b::tl))
def jB (tl:List V)(st:aj)(H H':Hp):Prop:=(∀b o,b≠st->H b=some o->H' b=some o)/\lX tl H' st
theorem jB.refl {tl:aP V}{st:aj}{H:Hp}(h:lX tl H st):jB tl st H H:=⟨λ_ _ _ e=>e,h⟩
theorem jB.trans {tl:aP V}{st:aj}{H H1 H2:Hp}(a:jB tl st H H1)(b:jB tl st H1 H2):jB tl st H H2:=⟨λc o hc e=>b.1 c o hc<|a.1 c o hc e,b.2⟩
theorem jB.ok {tl:aP V}{st:aj}{H H':Hp}(a:jB tl st H H'):lX tl H' st:=a.2
theorem lX.same {tl:aP V}{st:aj}{H H':Hp}(h:lX tl H st)(e:Same H H'):lX tl H' st:=by
 obtain⟨a,b,h3⟩:=h;exact⟨a,b,e _ _ h3⟩
theorem eV {tl:aP V}{st:aj}{H H':Hp}(h:lX tl H st)(e:Same H H'):jB tl st H H':=⟨λb o _ q=>e b o q,h.same e⟩
theorem Fe {tl:aP V}{st:aj}{H:Hp}{a b:Int}:jB tl st H (upd H st<|.lst (.int a::.int b::tl)):=⟨λc o hb e=>by rw[bR hb];exact e,a,b,bA⟩
inductive kJ (vs:List V)(H:Hp)(Q:VK)(E_:XK):Prop where
 |mk (tl:List V) (st:aj) (m:Int):vs=[.ref st, .int m]->lX tl H st->0<m->m<1000000->(∀(d:Int) H',0<=d->d<m->jB tl st H H'->Q (.int d) H')->kJ vs H Q E_
inductive Hq (K:aN)(vs:List V)(H:Hp)(Q:VK)(E_:XK):Prop where
 |mk (sc:aj) (ns:List Int) (k:Nat):vs=[.ref sc, .int (k:Int)]->dM K H sc (ns.map V.int)->(∀i:Int,Q (.int i) H)->Hq K vs H Q E_
section
abbrev Hr:aJ:=top 48
abbrev Hs:aJ:=top 50
theorem Vo:bZ ["_law_script","_law_k"] ["_law_script","_law_k"] (bQ Hr):={}
theorem JF:bZ ["_law_state","_law_many","_law_digit"] ["_law_state","_law_many"] (bQ Hs):={}
theorem Vp (F:iz K "_law_cell_at" "_law_cell_at" Hr f fd)(ml:mg "len"=none):cP P w K mg aV jV 1 f fd ["_law_script","_law_k"] (Hq K):=by
 refine F.ok Vo λdF A aU s H vs Q E hr h=>?_;obtain⟨sc,ns,k,rfl,hs,q⟩:=h;refine⟨_,bJ (dz (cH vH (pv 1)<|cu (mV K) rfl ml af6 (bx (pv 0) bH)) (bO<|cQ (dN sZ (bY (yc K) (pv 0)<|pv 1)<|dN zG bK bK)) cN)<|bO (cQ bK),?_⟩;refine⟨_,rfl,_,rfl,sc,_,rfl, .inl hs,_,_,rfl,rfl,_,rfl,gU (λc=>?_) λc=>q 0⟩;have c1:(k:Int)<((ns.map V.int).length:Nat):=afZ c;rw[aeb]at c1;have hk:k<ns.length:=by omega
 exact⟨_,rfl,_,rfl,sc,_,k, .int ns[k],rfl,rfl,hs,cI (j:=k) (by rw[aee,adX hk];rfl),10,60,rfl,rfl,⟨by decide,by decide,by decide⟩,_,_,rfl,rfl,(by show(0:Int)<10^60;decide),q _⟩
theorem Vq (F:iz K "_law_next" "_law_next" Hs f fd):cP P w K mg aV jV 1 f fd ["_law_state","_law_many"] kJ:=by
 refine F.ok JF λdF A aU s H vs Q E hr h=>?_;obtain⟨tl,st,m,rfl,hs,m0,m1,q⟩:=h;obtain⟨a,b,lg⟩:=id hs;refine⟨_,bJ (dz (cH Cr (bY (yc K) (pv 0) bK) bK)
   (bJ (iy 2 JF.nd<|dN sZ (bY (yc K) (pv 0) bK) (pv 1))
   (bJ (qO (dN zF (bY (yc K) (pv 0) bK)<|pv 1)<|sX (pv 0) bK set_list)
   (bO<|cQ (pv 2)))) cN)
  (bJ (qO (dN sZ (dN jt (dN Gd (bY (yc K) (pv 0) bK) bK) bK) bK)<|sX (pv 0) bK set_list)
  (bO<|cQ (dN sZ (dN zF (bY (yc K) (pv 0) bK) bK)<|pv 1))),?_⟩
 refine⟨_,rfl,st,_,0, .int a,rfl,rfl,dM.of lg,cI (j:=0) rfl,_,_,rfl,rfl,_,rfl,gU (λc=>?_) λc=>?_⟩
 ·refine⟨_,rfl,st,_,0, .int a,rfl,rfl,dM.of lg,cI (j:=0) rfl,_,rfl,a,m,rfl,rfl,m0,?_⟩
  refine⟨_,rfl,st,_,0, .int a,rfl,rfl,dM.of lg,cI (j:=0) rfl,_,rfl,a,m,rfl,rfl,⟨m0,by omega⟩,?_⟩;refine⟨_,rfl,st,_,0,0,rfl,rfl,lg,ql (by simp),?_⟩;exact⟨_,rfl,q _ _ (Int.emod_nonneg _<|by omega) (Int.emod_lt_of_pos _ m0)<|Fe (a:=a / m) (b:=b)⟩
 ·refine⟨_,rfl,st,_,1, .int b,rfl,rfl,dM.of lg,cI (j:=1) rfl,_,_,rfl,rfl, .inr ⟨by decide,by decide⟩,_,_,rfl,rfl,_,_,rfl,rfl,(by show(0:Int)<2305843009213693951;decide),?_⟩
  refine⟨_,rfl,st,_,1,1,rfl,rfl,lg,ql (by simp),?_⟩;refine⟨_,rfl,st,_,1,_,rfl,rfl,dM.of bA,cI (j:=1) rfl,_,_,rfl,rfl,⟨by decide,by decide⟩,_,rfl,_,m,rfl,rfl,m0,?_⟩;exact q _ _ (Int.emod_nonneg _<|by omega) (Int.emod_lt_of_pos _ m0)<|Fe (a:=a) (b:=_)
end
inductive vf (K:aN)(vs:List V)(H:Hp)(Q:VK)(E_:XK):Prop where
 |mk (sc:aj) (ns:List Int) (k s:Nat):vs=[.ref sc, .int (k:Int), .int (s:Int)]->dM K H sc (ns.map V.int)->k<=1000->s<=1000->(∀(st:aj) H',H st=none->lX [] H' st->Same H H'->Q (.ref st) H')->vf K vs H Q E_
section
abbrev Bs:aJ:=top 49
theorem xH:bZ ["_law_script","_law_k","_law_salt","_law_cell","_law_mixed"] ["_law_script","_law_k","_law_salt"] (bQ Bs):={}
theorem Rm (F:iz K "_law_drawn" "_law_drawn" Bs f fd)(mI:mg "int"=none)(h1:Has P w K mg aV 1 "_law_cell_at" ["_law_script","_law_k"] (Hq K)):cP P w K mg aV jV 2 f fd ["_law_script","_law_k","_law_salt"] (vf K):=by
 refine F.ok xH λdF A aU s H vs Q E hr h=>?_;obtain⟨sc,ns,k,s',rfl,hs,k1,s1,q⟩:=h;refine⟨_,bJ (iy 3 xH.nd (dG h1 hr (by decide) rfl (bx (pv 0)<|bx (pv 1) bH)))
  (bJ (iy 4 xH.nd<|dN sZ (dN jt (dN jt (dN Gd (pv 3) bK)<|dN Gd bK (dN jt (pv 1)<|pv 2)) bK) bK)
  (bJ (dz (cH eG (dN sZ (dG h1 hr (by decide) rfl (bx (pv 0)<|bx bK bH)) bK) bK)
   (bO<|cQ (gJ<|bx (dN zF (pv 3)<|dN jt bK (eU pW rfl mI boot_int (bx (rE eG (pv 1) bK) bH))) (bx (pv 4) bH))) cN)
  (bO<|cQ (gJ<|bx bK (bx (pv 4) bH))))),?_⟩
 refine⟨_,rfl,_,rfl,sc,ns,k,rfl,hs,λc=>?_⟩;refine⟨_,rfl,_,_,rfl,rfl, .inr ⟨by decide,by decide⟩,_,rfl,_,rfl,_,_,rfl,rfl,_,_,rfl,rfl, .inl ⟨by decide,by decide⟩,_,_,rfl,rfl,_,_,rfl,rfl,_,_,rfl,rfl,(by show(0:Int)<2305843009213693951;decide),?_⟩;refine⟨_,rfl,sc,ns,0,rfl,hs,λc0=>⟨_,_,rfl,rfl,(by show(0:Int)<2;decide),rfl,_,rfl,gU (λz=>?_) λz=>?_⟩⟩
 ·refine⟨_,rfl,_,rfl,rfl, .inr ⟨_,rfl,_,_,rfl,rfl,_,_,rfl,rfl,?_,_,rfl,(dO 2),λst lg=>q st _ lg ⟨_,_,bA⟩<|bI lg _⟩⟩
  split<;>exact⟨by decide,by decide⟩
 ·exact⟨_,rfl,(dO 2),λst lg=>q st _ lg ⟨_,_,bA⟩<|bI lg _⟩
end
structure abE (mg:Str->Option ak)(CS CT CL CD A1 A2 A3 A4:aj):Prop where
 iS:mg "Stuck"=some (.ref CS)
 iT:mg "TooGreat"=some (.ref CT)
 iL:mg "TooLong"=some (.ref CL)
 iD:mg "TooDeep"=some (.ref CD)
 i1:mg "NoText"=some (.ref A1)
 i2:mg "NoKind"=some (.ref A2)
 i3:mg "NoFace"=some (.ref A3)
 i4:mg "NoTie"=some (.ref A4)
 iV:mg "ValueError"=none
 iI:mg "isinstance"=none
structure Rn (K:aN)(C CS CT CL CD A1 A2 A3 A4:aj)(bS bT bL bD:Bool):Prop where
 s:mQ K C
 kS:kitOne K (.ref C) (.ref CS)=some bS
 kT:kitOne K (.ref C) (.ref CT)=some bT
 kL:kitOne K (.ref C) (.ref CL)=some bL
 kD:kitOne K (.ref C) (.ref CD)=some bD
 kV:kitOne K (.ref C) (.type "ValueError")=some true
 kN:kitAny K (.ref C) ([A1,A2,A3,A4].map Value.ref)=some false
inductive qp (CS CT CL CD:aj)(vs:List V)(H:Hp)(Q:VK)(E_:XK):Prop where
 |mk (ea:aj) (ob:Obj) (C:aj) (nm:Str):vs=[.ref ea]->H ea=some (pB ea ob)->ob.cls=.ref C->((C=CS/\nm="Stuck")\/(C=CT/\nm="TooGreat")\/(C=CL/\nm="TooLong")\/(C=CD/\nm="TooDeep"))->(∀H',Same H H'->Q (.str nm) H')->qp CS CT CL CD vs H Q E_
section
variable {CT CS CL CD A1 A2 A3 A4:aj}
abbrev Bt:aJ:=top 51
theorem sS:bZ ["_law_e","_law_words","_law_marks"] ["_law_e"] (bQ Bt):={}
theorem Vr:bootBuiltins "ValueError"=some (.type "ValueError"):=by decide+kernel
set_option maxHeartbeats 3000000 in
theorem Ro (F:iz K "_law_class" "_law_class" Bt f fd)(G:abE mg CS CT CL CD A1 A2 A3 A4)(ZS:Rn K CS CS CT CL CD A1 A2 A3 A4 true false false false)(ZT:Rn K CT CS CT CL CD A1 A2 A3 A4 false true false false)(ZL:Rn K CL CS CT CL CD A1 A2 A3 A4 false false true false)(ZD:Rn K CD CS CT CL CD A1 A2 A3 A4 false false false true):
  Dk P w K mg aV 1 f fd ["_law_e"] (qp CS CT CL CD):=by
 refine F.okM sS λdF A aU s H vs Q E hr h=>?_;obtain⟨ea,ob,C,nm,rfl,he,hc,cs,q⟩:=h;refine⟨_,bJ (iy 1 sS.nd<|gJ (bx bV bH))
  (bJ (iy 2 sS.nd (gJ (bx (cu qd rfl G.iI boot_isinstance (bx (pv 0)<|bx (jo (v:=.ref CS) rfl G.iS rfl) bH))
   (bx (cu qd rfl G.iI boot_isinstance (bx (pv 0)<|bx (jo (v:=.ref CT) rfl G.iT rfl) bH))
   (bx (cu qd rfl G.iI boot_isinstance (bx (pv 0)<|bx (jo (v:=.ref CL) rfl G.iL rfl) bH))
   (bx (cu qd rfl G.iI boot_isinstance (bx (pv 0)<|bx (jo (v:=.ref CD) rfl G.iD rfl) bH)) bH))))))
  (bJ (dz (PW.pt (FZ (cH eG (yE aeA afO PySem.F.type_list_count Lg (pv 2)<|bx HB bH) bK)
    (FZ (jD<|cu Kv rfl G.iI boot_isinstance (bx (pv 0)<|bx (iU (v:=.ty "ValueError") rfl G.iV Vr rfl) bH))
    (HD<|jO (jD<|cu Ky rfl G.iI boot_isinstance (bx (pv 0)<|bx (eO<|bx (jo (v:=.ref A1) rfl G.i1 rfl) (bx (jo (v:=.ref A2) rfl G.i2 rfl)<|bx (jo (v:=.ref A3) rfl G.i3 rfl) (bx (jo (v:=.ref A4) rfl G.i4 rfl) bH))) bH))))))
   (bO<|iy 1 sS.nd (gJ<|bx (bY (yc K) (gJ<|bx bV (bx bV<|bx bV (bx bV bH)))<|yE aeA aeQ afl Lh (pv 2) (bx HB bH)) bH)) cN)
  (bO<|cQ (bY (yc K) (pv 1) bK)))),?_⟩
 obtain⟨bS,bT,bL,bD,n,Z,adv,hix,jX,hnm⟩:∃(bS bT bL bD:Bool) (n:Nat),Rn K C CS CT CL CD A1 A2 A3 A4 bS bT bL bD/\V.int (([bS,bT,bL,bD]:aP Bool).count true:Int)=V.int 1/\([bS,bT,bL,bD]:aP Bool)[n]?=some true/\(∀m,m<n->([bS,bT,bL,bD]:aP Bool)[m]?=some (!true))/\([V.str "Stuck",V.str "TooGreat",V.str "TooLong",V.str "TooDeep"]:aP V)[n]?=some (.str nm):=by
  rcases cs with ⟨rfl,rfl⟩|⟨rfl,rfl⟩|⟨rfl,rfl⟩|⟨rfl,rfl⟩
  ·exact⟨true,false,false,false,0,ZS,rfl,rfl,(λm hm=>absurd hm<|ae8 _),rfl⟩
  ·exact⟨false,true,false,false,1,ZT,rfl,rfl,(λm hm=>match m,hm with|0,_=>rfl),rfl⟩
  ·exact⟨false,false,true,false,2,ZL,rfl,rfl,(λm hm=>match m,hm with|0,_=>rfl|1,_=>rfl),rfl⟩
  ·exact⟨false,false,false,true,3,ZD,rfl,rfl,(λm hm=>match m,hm with|0,_=>rfl|1,_=>rfl|2,_=>rfl),rfl⟩
 refine⟨(dO 1),λl1 h1=>?_⟩;have e1:=bI h1 (.lst [.str "no"]);have c1:(upd H l1<|.lst [.str "no"]) l1=some (.lst [.str "no"]):=bA;revert e1 c1;generalize upd H l1 (.lst [.str "no"])=H1;intro e1 c1;have he1:=e1 _ _ he;refine⟨_,rfl,ea,ob,C,CS,_,rfl,he1,hc,Z.s,Z.kS,_,rfl,ea,ob,C,CT,_,rfl,he1,hc,Z.s,Z.kT,_,rfl,ea,ob,C,CL,_,rfl,he1,hc,Z.s,Z.kL,_,rfl,ea,ob,C,CD,_,rfl,he1,hc,Z.s,Z.kD,(dO 4),λl2 h2=>?_⟩;have e2:=bI h2 (.lst [.bl bS, .bl bT, .bl bL, .bl bD]);have c2:(upd H1 l2<|.lst [.bl bS, .bl bT, .bl bL, .bl bD]) l2=some (.lst ([bS,bT,bL,bD].map V.bl)):=bA;revert e2 c2;generalize upd H1 l2 (.lst [.bl bS, .bl bT, .bl bL, .bl bD])=H2;intro e2 c2;have he2:=e2 _ _ he1;refine⟨_,rfl, .inl ⟨rfl,_,dM.of c2⟩,l2,[bS,bT,bL,bD],true,rfl,rfl,c2,rfl,_,rfl,gU (λ_=>⟨_,rfl,ea,ob,C,_,_,rfl,he2,hc,Z.s,Z.kV,true,rfl,jK ⟨_,rfl,(dO 4),λtp htp=>?_⟩⟩) λz=>absurd (af0 adv) z⟩;have e3:=bI htp (.tup [.ref A1, .ref A2, .ref A3, .ref A4]);have c3:(upd H2 tp<|.tup [.ref A1, .ref A2, .ref A3, .ref A4]) tp=some (.tup ([A1,A2,A3,A4].map V.ref)):=bA;revert e3 c3;generalize upd H2 tp (.tup [.ref A1, .ref A2, .ref A3, .ref A4])=H3;intro e3 c3;refine⟨ea,ob,C,tp,[A1,A2,A3,A4],_,rfl,e3 _ _ he2,hc,Z.s,c3,Z.kN,false,rfl,jK ⟨(dO 4),λl3 h3=>?_⟩⟩;have e4:=bI h3 (.lst [.str "Stuck", .str "TooGreat", .str "TooLong", .str "TooDeep"]);have c4:(upd H3 l3<|.lst [.str "Stuck", .str "TooGreat", .str "TooLong", .str "TooDeep"]) l3=some (.lst [.str "Stuck", .str "TooGreat", .str "TooLong", .str "TooDeep"]):=bA;revert e4 c4;generalize upd H3 l3 (.lst [.str "Stuck", .str "TooGreat", .str "TooLong", .str "TooDeep"])=H4;intro e4 c4;have c24:=e4 _ _ (e3 _ _ c2);refine⟨_,rfl, .inl ⟨rfl,_,dM.of c24⟩,l2,[bS,bT,bL,bD],true,n,rfl,rfl,c24,hix,jX,l3,_,(n:Int), .str nm,rfl,rfl,dM.of c4,cI (j:=n) hnm,(dO 1),λl5 h5=>?_⟩;have e5:=bI h5 (.lst [.str nm]);refine⟨_,rfl,l5,_,0, .str nm,rfl,rfl,dM.of bA,cI (j:=0) rfl,q _ ?_⟩;exact Same.trans e1<|Same.trans e2 (Same.trans e3<|Same.trans e4 e5)
end
def adw:TS:=λD U H=>∃i:Int,U[2]?=some (some<|V.int i)/\D.nx U H
noncomputable def outV:Out->V
 |.num n=>.int n
 |.great=>.str "TooGreat"
 |.long=>.str "TooLong"
 |.deep=>.str "TooDeep"
 |.stuck=>.str "Stuck"
inductive vg (vs:List V)(H:Hp)(Q:VK)(E_:XK):Prop where
 |mk (c:aj) (mv:V) (most:Int) (jQ:List V) (aY:List Rw) (out:Out) (n:Nat):vs=[.ref c,mv]->mv=.int most->H c=some (.tup jQ)->wH H jQ aY->uH most aY n A0=some out->(∀H',Same H H'->Q (outV out) H')->vg vs H Q E_
section
variable {CT CX CS CL CD A1 A2 A3 A4:aj}
abbrev xJ:aJ:=top 65
noncomputable abbrev Rp:List Str:=["_law_code_here","_law_most","_law_told_here","_law_e"]
theorem vh:bZ Rp ["_law_code_here","_law_most"] (bQ xJ):={}
theorem Rq {H H':Hp}{ea:aj}{oe:Obj}(n:H ea=none)(s:Same (upd H ea<|pB ea oe) H'):Same H (del H' ea):=λb o h=>by
 have nb:b≠ea:=λz=>by rw[z,n]at h;cases h
 rw[pD nb];exact s b o (by rw[bR nb];exact h)
def flown (CS CT CL CD:aj)(Cv:ak)(out:Out):Prop:=(Cv=.ref CS/\out=.stuck)\/(Cv=.ref CT/\out=.great)\/(Cv=.ref CL/\out=.long)\/(Cv=.ref CD/\out=.deep)
set_option maxHeartbeats 1000000 in
theorem Vs {fD fC:aj}{gD gC:FuncData}(F:iz K "_law_told" "_law_told" xJ f fd)(mi:mg "isinstance"=none)(mI:mg "int"=none)(mB:mg "bool"=none)(mF:mg "FaceError"=some (.ref CX))(JG:lA aV CS CX)(abF:lA aV CT CX)(Xn:lA aV CL CX)(adO:lA aV CD CX)
  (GD:cP P w K mg aV (fP P w) 5 fD gD ["code","most"] (G7 CS CT CL CD)) (mD:mg "done"=some (.ref fD)) (kD:keepIn K (.ref fD)=true) (bD:Binds K gD ["code","most"] [])
  (GC:Dk P w K mg aV 1 fC gC ["_law_e"] (qp CS CT CL CD)) (mC:mg "_law_class"=some (.ref fC)) (kC:keepIn K (.ref fC)=true) (bC:Binds K gC ["_law_e"] []):
  cP P w K mg aV jV 6 f fd ["_law_code_here","_law_most"] vg:=by
 refine F.ok vh λdF A aU s H vs Q E hr h=>?_;obtain⟨c,mv,most,jQ,aY,out,n,rfl,hmv,hc,cd,ex,q⟩:=h;refine⟨_,bJ (Io (X:=(dX jV P w K mg aV Rp "_law_told" (bQ xJ) f dF A aU s H E).JW) (i:=3) (D:=CX) (EX:=λU Cv _ H'=>flown CS CT CL CD Cv out/\U=[some (.ref c),some mv,none,none]/\Same H H')
   (ts:=λea C D U H1=>∀oe:Obj,oe.cls=.ref C->zA (Gw ea oe (qp CS CT CL CD)<|gQ (jr 3) tE) (nq 2) D U H1) rfl rfl rfl vh.nd rfl rfl rfl mF
   (λU C ea H' hE=>by
    obtain⟨z,_⟩:=hE;rcases z with ⟨z,_⟩|⟨z,_⟩|⟨z,_⟩|⟨z,_⟩<;>cases z<;>assumption)
   (λbG=>bJ (iy 2 vh.nd<|yK (X:=(dX jV P w K mg aV Rp "_law_told" (bQ xJ) f dF A aU s H E).JW) rfl rfl rfl GD bD kD mD hr rfl (bx (pv 0)<|bx (pv 1) bH))
    (Uk (t':=adw) (bO (dz (PW.pt<|Ck (jO<|jD (cu iu rfl mi boot_isinstance (bx (pv 2)<|bx (iU (v:=.ty "int") rfl mI boot_int rfl) bH))) (vC<|jD (cu iu rfl mi boot_isinstance (bx (pv 2)<|bx (iU (v:=.ty "bool") rfl mB vY rfl) bH))))
     (bO Ng) cN)) λD U H1 ⟨i,hσ,qi⟩=>⟨_,hσ,_,_,_,_,rfl, .int i,oE K,true,rfl,lU ⟨_,hσ,_,_,_,_,rfl, .int i,Dz K,false,rfl,lU qi⟩⟩))
   (λea C oe bG hp hoc nb=>Uk (bO (iy 2 vh.nd (Dl (ea:=ea) (oe:=oe) GC bC kC mC (gA.marked (hr.mono<|by decide)) rfl (ad5 _ hp) nb (bx (pv 3) bH)))) λD U H1 hh=>hh oe hoc))
  (bO<|cQ (pv 2)),?_⟩
 subst hmv;refine⟨?_,?_⟩
 ·refine⟨_,rfl,_,rfl,c,most,jQ,aY,out,n,rfl,hc,cd,ex,λhn ea H' s'=>⟨.inl ⟨rfl,hn⟩,rfl,s'⟩,λi hn H' s'=>⟨i,rfl,_,rfl,?_⟩,λhn ea H' s'=>⟨.inr<|.inr (.inl ⟨rfl,hn⟩),rfl,s'⟩,λhn ea H' s'=>⟨.inr<|.inr (.inr ⟨rfl,hn⟩),rfl,s'⟩,λhn ea H' s'=>⟨.inr<|.inl ⟨rfl,hn⟩,rfl,s'⟩⟩
  subst hn;exact q H' s'
 ·rintro U' C ea H' ⟨hC,rfl,s'⟩ vN oe hoc
  rcases hC with ⟨z,rfl⟩|⟨z,rfl⟩|⟨z,rfl⟩|⟨z,rfl⟩
  ·cases z
   exact⟨_,rfl,λn1=>⟨ea,oe,_,_,rfl,bA,hoc, .inl ⟨rfl,rfl⟩,λH2 s2=>⟨s2 _ _ bA,_,rfl,q _<|Same.trans s' (Rq vN s2)⟩⟩⟩
  ·cases z
   exact⟨_,rfl,λn1=>⟨ea,oe,_,_,rfl,bA,hoc, .inr<|.inl ⟨rfl,rfl⟩,λH2 s2=>⟨s2 _ _ bA,_,rfl,q _<|Same.trans s' (Rq vN s2)⟩⟩⟩
  ·cases z
   exact⟨_,rfl,λn1=>⟨ea,oe,_,_,rfl,bA,hoc, .inr<|.inr (.inl ⟨rfl,rfl⟩),λH2 s2=>⟨s2 _ _ bA,_,rfl,q _<|Same.trans s' (Rq vN s2)⟩⟩⟩
  ·cases z
   exact⟨_,rfl,λn1=>⟨ea,oe,_,_,rfl,bA,hoc, .inr<|.inr (.inr ⟨rfl,rfl⟩),λH2 s2=>⟨s2 _ _ bA,_,rfl,q _<|Same.trans s' (Rq vN s2)⟩⟩⟩
end
end Fw
namespace PySem
theorem Ht {M:Model}{A:aq}{E:ak->ao->Prop}{s:ao}{bse h:aK}{env:Env}{aU:List Env}{L e:aj}{cls:ak}{args:List ak}{Q:Unit->ao->Prop}
  (hfr:A.frames=some (env::aU)) (hf:env.frame=some L) (hkb:bse.StaysIn h) (hl:h.FunFrames bse (env::aU)) (hx:Heap.MadeExcOf h s.heap e cls args)
  (hQ:∀h' t,Heap.HeldW bse (env::aU) e cls (.ref t) L h'->s.heap.UpToSlots h'->Q () {s with heap:=h'}):wpAny M A (noteFrame (.ref e) env) Q E s:=by
 obtain⟨t,he,htn,ht⟩:=hx.there;have fresh:∀b,h.get? b=none->bse.get? b=none:=λb hb=>by
  cases hq:bse.get? b with
  |none=>rfl
  |some o'=>have:=hkb b o' hq;rw[hb]at this;cases this
 unfold noteFrame;simp only[hf];refine abI<|af8 he rfl (x:=.none) rfl ?_;rw[afY (by decide)];refine wpAny_entryW (a0:=.ref t) hfr (hl.of_keeps λb o hb _=>⟨o,hx.keeps b o hb,rfl⟩) hf he (λb o hb=>hx.keeps b o<|hkb b o hb) (fresh e hx.new) rfl (by show 1<6;decide) rfl λh' hN=>?_;obtain⟨k1,k2,k3,k4⟩:=hN;exact hQ h' t ⟨k1,fresh e hx.new,k2,k3⟩ k4
end PySem
namespace L2
def Vt (C:aj)(EX:St->XK)(t:TA):TS:=λ_ U H=>t U H λvs H1=>vs.length<=sizeLine/\∀ea,H1 ea=none->EX U (.ref C) (some ea) H1
theorem Mh {X:Cx}{kZ:List (aj×Obj)}{EX:St->XK}{x:Str}{C:aj}{np gK pos:Pos}{e₀:aH}{rest:List aH}{t:TA}{bm:List ak}{dD B d7:String}(lg:X.stack=X.env::X.outer)(hfr:X.env.frame=some X.env.locals)(hex:X.ex=[])(hcm:X.calm=true)(O:OwnCls x C bm dD X.mg X.base)(FB:ExcBaseFacts B dD d7 bm)
  (hg:Gl X x) (ha:PA (nF X kZ<|LT X kZ EX) (e₀::rest) t) (hdb:(x==("__debug__":Str))=false:=by decide)
  (he:starEach (e₀::rest) X.env=(false,eval e₀ X.env)::starEach rest X.env:=by rfl) (iH:(backTo gK<|starEach rest X.env).any (·.1)=false:=by rfl):
  PS (nF X kZ<|LT X kZ EX) (.Raise (some<|.Call (.Name x np) (e₀::rest) [] gK) none pos) (Vt C EX t):=by
 intro bG s1 U H1 D I h;obtain⟨tl,Nn,nm,q,bs,hdct,sn,sub,ab,col,dd,k0,k1,k2,k3,k5,mN,hC,hN,hni,T⟩:=O.obj;refine wpAny_Raise_call_subT (C:=C) (nm:=nm) (q:=q) (N:=Nn) (bs:=bs) (bm:=tl) (hdct:=hdct) (sn:=sn) (sub:=sub) (ab:=ab) (col:=col) (dd:=dd) (k0:=k0) (k1:=k1) (k2:=k2) (k3:=k3) (k5:=k5)
  FB (mN:=mN) (T.hasType FB.hasBase) (I.ok.hd hcm) (by show(backTo gK<|starEach (e₀::rest) X.env).any (·.1)=false;rw[he];show(false||(backTo gK<|starEach rest _).any (·.1))=false;rw[iH];rfl) hni (lZ I hg O.bound ⟨rfl,?_⟩ hdb)
 have hA:=ha gK bG s1 U H1 _ I h;have he':starEach (e₀::rest) (nF X kZ<|LT X kZ EX).env=(false,eval e₀ X.env)::starEach rest X.env:=he;rw[he']at hA ⊢;refine Calls.evalArgs_plain (gk hA λus s2 ⟨vs,H2,I2,r,hl,hE⟩=>⟨rfl,by rw[<-r.length];exact hl,I2.bk _ _ hC,hN.keeps I2.bk,T.keeps I2.bk,λh' e hm=>?_⟩);show wpAny (model X.prog X.w) X.A (noteFrame (.ref e) X.env) (λ_ s3=>HT X kZ EX (.ref e) s3) (λ_ _=>False) {s2 with heap:=h'};have J2:Inv X kZ U H2 s2:=I2.vO;have hin:∀env∈X.stack,∀b,env.frame=some b->b∈frs X.stack:=λenv he b hb=>List.mem_filterMap.mpr ⟨env,he,hb⟩;have vN:H2 e=none:=by
  cases hz:H2 e with
  |none=>rfl
  |some u=>
   obtain⟨ob,q⟩:=(J2.hok e u hz).there;have:=hm.new;rw[q]at this;cases this
 have Yq:X.A.frames=some (X.env::X.outer):=by rw[<-lg];exact J2.ok.frames
 have hff:s2.heap.FunFrames (hideAll s2.heap<|frs X.stack) (X.env::X.outer):=by rw[<-lg];exact PySem.W.funFrames_hide J2.stack hin
 refine Ht (bse:=hideAll s2.heap<|frs X.stack) (h:=s2.heap) Yq hfr (λb o q=>ae5 _ q) hff hm λh4 t' x1 x2=>?_;refine⟨e,C,U,H2,{s2 with heap:=h'},_,t',h4,rfl,rfl,J2.kept (t':=s2.toks) hm.keeps,vN,x1,x2,λp hp z=>?_,λb o q hb hc=>?_,hE e vN⟩
 ·have:=(J2.pin p hp).1
  rw[z,hm.new]at this;cases this
 ·obtain⟨o2,q2⟩:∃o2,s2.heap.get? b=some o2:=by
   rcases hc with z|⟨o',z⟩|z
   ·cases hz:H2 b with
    |none=>exact absurd hz z
    |some u=>exact(J2.hok b u hz).there
   ·exact J2.base.there b o' z (by rw[hex];simp)
   ·obtain⟨p,hp,rfl⟩:=List.mem_map.mp z
    exact⟨_,(J2.pin p hp).1⟩
  have q':h'.get? b=some o:=q;rw[hm.keeps b o2 q2]at q';cases q';exact ae3 _ q2 hb
end L2
namespace Fw
open L2
noncomputable def wL (m:Int):List (Key×V):=[(Sum.inr "calls", .int 0),(Sum.inr "most", .int m)]
theorem aaj (a b:V):jG [] ([(Sum.inr "calls",a),(Sum.inr "most",b)]:aP (Key×V))=([(Sum.inr "calls",a),(Sum.inr "most",b)]:aP (Key×V)):=by
 have h:=Bo;simp only[jG,putK,afR,afT,List.any_nil,afh,aeP,if_false,aft,aeH,afW<|ne4 h,afW<|ne4 (af2 h),afz,afy]
theorem Vu (m:Int):fV (wL m) (Sum.inr "calls")=some (.int 0)/\fV (wL m) (Sum.inr "most")=some (.int m):=by
 have h:=Bo;refine⟨?_,?_⟩<;>simp[fV,wL,aer,h,af2 h]
inductive JH (vs:List V)(H:Hp)(Q:VK)(E_:XK):Prop where
 |mk (v:V) (most:Int) (t:Tm) (r:Rs) (c':Nat):vs=[v, .int most]->jM H [] v t->Own t->ev most [] 20 0 t [] 0=some (r,c')->r≠.deep->(∀H',Same H H'->Q (outV<|wO r) H')->JH vs H Q E_
def abG (CS CT gO:aj)(r:Rs):Option aj:=match r with
 |.val (.num _)=>none
 |.val _=>some CS
 |r=>Ep CS CT gO r
theorem Vv {CS CT gO C:aj}{r:Rs}(h:Ep CS CT gO r=some C):abG CS CT gO r=some C:=by cases r<;>first|exact h|cases h
def Rr (CS CT gO:aj)(v:V)(most:Int)(H:Hp)(r:Rs):L2.St->XK:=λU Cv _ H'=>(∃C,Cv=.ref C/\abG CS CT gO r=some C)/\(∃o2:Option V,U=[some v,some<|.int most,o2,none])/\Same H H'
theorem Vw {H:Hp}{N:aj->Prop}{d:aj}(h:H d=some (.dK []))(n:N d):lQ H N [] d []:=⟨[],[],h,n,adZ _,⟨λj s hj=>by simp at hj,λs _=>rfl⟩, .nil,rfl⟩
section
variable {CS CT gO qG CX:aj}
abbrev xK:aJ:=top 57
noncomputable abbrev aak:List Str:=["_law_term","_law_most","_law_told_here","_law_e"]
theorem Bu:bZ aak ["_law_term","_law_most"] (bQ xK):={}
def abH:List aJ:=match(cT xK).getD 0 (.Pass ⟨0,0,0,0⟩) with|.Try b _ _ _ _=>b|_=>[]
abbrev DX (P:aA)(w:aG)(K:aN)(mg:Str->Option ak)(aV:aK)(f:aj)(dF:ak)(A:aq)(aU:List Env)(s:ao)(H:Hp)(E:XK):Cx:=(dX jV P w K mg aV aak "_law_due" (bQ xK) f dF A aU s H E).JW
def tDu (H:Hp)(v:V)(most:Int)(r:Rs):TS:=λD U H1=>U=[some v,some<|.int most,none,none]/\Same H H1/\∀u H2 (N:aj->Prop) w,r=.val w->oU N H2 u w->Same H H2->D.nx [some v,some<|.int most,some u,none] H2
def tDs (H:Hp)(v:V)(most:Int)(r:Rs):TS:=λD U H1=>∃(u:V) (N:aj->Prop) (w:Vl),r=.val w/\oU N H1 u w/\Same H H1/\U=[some v,some<|.int most,some u,none]/\∀i,w=.num i->u=.int i->D.nx U H1
section
variable {dF:ak}{A:aq}{aU:List Env}{s:ao}{H H0:Hp}{E:XK}{fW:aj}{gW:FuncData}{v:V}{most:Int}{t:Tm}{r:Rs}{c':Nat}
set_option maxHeartbeats 2000000 in
theorem abJ (bG:aP (aj×Obj))(hr:gA 61 (A.deeper<|envOfC "_law_due" (bQ xK) s.heap.objs.size f dF))
  (GW:cP P w K mg aV (fP P w) 61 fW gW sV (qL CS CT gO 20)) (mW:mg "_law_worked"=some (.ref fW)) (kW:keepIn K (.ref fW)=true) (bW:Binds K gW sV [])
  (tl:jM H [] v t) (ot:Own t) (he:ev most [] 20 0 t [] 0=some (r,c')) (nd:r≠.deep):
  PS (nF (DX P w K mg aV f dF A aU s H0 E) bG<|LT (DX P w K mg aV f dF A aU s H0 E) bG (Rr CS CT gO v most H r)) (abH.getD 0<|.Pass ⟨0,0,0,0⟩) (tDu H v most r):=by
 refine psW (iy 2 Bu.nd (yK rfl rfl rfl GW bW kW mW hr rfl (bx (pv 0) (bx O6 (bx (O9 (rP OJ<|rP (jF 1) O8) rfl rfl (by simp) (by decide)).h bH))))) ?_;rintro D U H2 ⟨rfl,s2,hnx⟩;refine⟨_,rfl,λdd hdd=>?_⟩;have s3:=bI hdd (.dK []);have EY:(upd H2 dd<|.dK []) dd=some (.dK []):=bA;revert s3 EY;generalize upd H2 dd (.dK [])=H3;intro s3 EY;refine λwd Jw=>⟨_,rfl,bA,wL most,rfl,(by show 2<=15;decide),?_⟩;rw[show jG [] (wL most)=wL most from aaj _ _];have s4:Same H3 (upd (upd H3 wd<|.dK []) wd<|.dK (wL most)):=λb o h=>by
  rw[bR (bU h Jw),bR (bU h Jw)];exact h
 have hw4:(upd (upd H3 wd<|.dK []) wd<|.dK (wL most)) wd=some (.dK<|wL most):=bA;revert s4 hw4;generalize upd (upd H3 wd<|.dK []) wd (.dK<|wL most)=H4;intro s4 hw4;have Jt:=s3.trans s4;have s04:=s2.trans Jt;have FQ:dd≠wd:=bU EY Jw;have hwH:H wd=none:=(s2.trans s3).free Jw;obtain⟨g1,g2⟩:=Vu most;have w3:mJ H4 (λb=>b=dd) wd 0 most:=⟨⟨_,hw4,(by show 2<=10;decide),g1,g2⟩,λe=>FQ e.symm,λb e=>by subst e;rw[s4 _ _ EY];simp⟩;exact⟨v,dd,wd,(λb=>b=dd),[],t,[],0,0,most,r,c',rfl,tl.same s04,Vw (s4 _ _ EY) rfl,w3,ot.1,by have:=ot.2;simp;omega,he,nd,
  λw hw u H5 vu w5 k5=>hnx u H5 _ w hw vu λb o h=>k5 b o (bU h hwH)<|s04 b o h,λC hC ea H5 k5=>⟨⟨C,rfl,Vv hC⟩,⟨_,rfl⟩,λb o h=>k5 b o (bU h hwH)<|s04 b o h⟩⟩
set_option maxHeartbeats 2000000 in
theorem abK {bm:List ak}{dD B d7:String}(bG:List (aj×Obj))(mi:mg "isinstance"=none)(mI:mg "int"=none)(OS:OwnCls "Stuck" CS bm dD mg aV)(FS:ExcBaseFacts B dD d7 bm):
  PS (nF (DX P w K mg aV f dF A aU s H0 E) bG<|LT (DX P w K mg aV f dF A aU s H0 E) bG (Rr CS CT gO v most H r)) (abH.getD 1<|.Pass ⟨0,0,0,0⟩) (tDs H v most r):=by
 refine psW (dz (jO<|jD (cu iu rfl mi boot_isinstance (bx (pv 2)<|bx (iU (v:=.ty "int") rfl mI boot_int rfl) bH))) (bO<|Mh rfl rfl rfl rfl OS FS rfl (bx bV bH)) cN) ?_;rintro D U H2 ⟨u,N,w,hw,vu,s2,rfl,q⟩;subst hw;rcases vu.dec with ⟨i,hi,rfl,h6⟩|⟨hn,rr,xs,rfl,hrr⟩
 ·exact⟨_,rfl,_,_,_,_,rfl, .int i,oE K,true,rfl,lU<|q i hi rfl⟩
 ·refine⟨_,rfl,_,_,_,_,rfl,(.tup hrr),vW K,false,rfl,jK ⟨(dO 1),λea _=>⟨⟨CS,rfl,?_⟩,⟨_,rfl⟩,s2⟩⟩⟩
  cases w with
  |num i=>exact absurd rfl (hn i)
  |fn=>rfl
  |bl=>rfl
end
set_option maxHeartbeats 4000000 in
theorem aal {bm:List ak}{dD B d7:String}{fW fC:aj}{gW gC:FuncData}(F:iz K "_law_due" "_law_due" xK f fd)(mi:mg "isinstance"=none)(mI:mg "int"=none)(OS:OwnCls "Stuck" CS bm dD mg aV)(FS:ExcBaseFacts B dD d7 bm)(mF:mg "FaceError"=some (.ref CX))(JG:lA aV CS CX)(abF:lA aV CT CX)(Xn:lA aV gO CX)
  (GW:cP P w K mg aV (fP P w) 61 fW gW sV (qL CS CT gO 20)) (mW:mg "_law_worked"=some (.ref fW)) (kW:keepIn K (.ref fW)=true) (bW:Binds K gW sV [])
  (GC:Dk P w K mg aV 1 fC gC ["_law_e"] (qp CS CT gO qG)) (mC:mg "_law_class"=some (.ref fC)) (kC:keepIn K (.ref fC)=true) (bC:Binds K gC ["_law_e"] []):
  cP P w K mg aV jV 62 f fd ["_law_term","_law_most"] JH:=by
 refine F.ok Bu λdF A aU s H vs Q E hr h=>?_;obtain⟨v,most,t,r,c',rfl,tl,ot,he,nd,q⟩:=h;refine⟨_,bJ (Io (X:=(dX jV P w K mg aV aak "_law_due" (bQ xK) f dF A aU s H E).JW) (i:=3) (D:=CX) (EX:=Rr CS CT gO v most H r)
   (ts:=λea C D U H1=>∀oe:Obj,oe.cls=.ref C->zA (Gw ea oe (qp CS CT gO qG)<|gQ (jr 3) tE) (nq 2) D U H1) rfl rfl rfl Bu.nd rfl rfl rfl mF
   (λU C ea H' hE=>by
    obtain⟨⟨C',z,hC⟩,_⟩:=hE;cases z;cases r with
    |val v=>cases v with
     |num=>cases hC
     |fn=>cases hC;exact JG
     |bl=>cases hC;exact JG
    |long=>cases hC;exact Xn
    |deep=>exact absurd rfl nd
    |great=>cases hC;exact abF
    |stuck=>cases hC;exact JG)
   (λbG=>bJ (abJ (c':=c') bG hr GW mW kW bW tl ot he nd)<|bO (abK bG mi mI OS FS))
   (λea C oe bG hp hoc nb=>Uk (bO (iy 2 Bu.nd (Dl (ea:=ea) (oe:=oe) GC bC kC mC (gA.marked (hr.mono<|by decide)) rfl (ad5 _ hp) nb (bx (pv 3) bH)))) λD U H1 hh=>hh oe hoc))
  (bO<|cQ (pv 2)),?_⟩
 refine⟨⟨rfl,Same.refl _,λu H2 N w hw vu s2=>⟨u,N,w,hw,vu,s2,rfl,λi hi hu=>⟨_,rfl,?_⟩⟩⟩,?_⟩
 ·have:=q H2 s2
  rw[hw,hi]at this;rw[hu];exact this
 ·rintro U' C ea H' ⟨⟨C',hC,ho⟩,⟨o2,rfl⟩,s'⟩ vN oe hoc
  cases hC;refine⟨_,rfl,λn1=>?_⟩;have fin:∀(nm:Str),V.str nm=outV (wO r)->∀H2,Same (upd H' ea<|pB ea oe) H2->Q (.str nm) (del H2 ea):=λnm e H2 s2=>by
   rw[e];exact q _<|Same.trans s' (Rq vN s2)
  cases r with
  |val v=>cases v with
   |num=>cases ho
   |fn=>cases ho;exact⟨ea,oe,_,_,rfl,bA,hoc, .inl ⟨rfl,rfl⟩,λH2 s2=>⟨s2 _ _ bA,_,rfl,fin _ rfl H2 s2⟩⟩
   |bl=>cases ho;exact⟨ea,oe,_,_,rfl,bA,hoc, .inl ⟨rfl,rfl⟩,λH2 s2=>⟨s2 _ _ bA,_,rfl,fin _ rfl H2 s2⟩⟩
  |stuck=>cases ho;exact⟨ea,oe,_,_,rfl,bA,hoc, .inl ⟨rfl,rfl⟩,λH2 s2=>⟨s2 _ _ bA,_,rfl,fin _ rfl H2 s2⟩⟩
  |great=>cases ho;exact⟨ea,oe,_,_,rfl,bA,hoc, .inr<|.inl ⟨rfl,rfl⟩,λH2 s2=>⟨s2 _ _ bA,_,rfl,fin _ rfl H2 s2⟩⟩
  |long=>cases ho;exact⟨ea,oe,_,_,rfl,bA,hoc, .inr<|.inr (.inl ⟨rfl,rfl⟩),λH2 s2=>⟨s2 _ _ bA,_,rfl,fin _ rfl H2 s2⟩⟩
  |deep=>exact absurd rfl nd
end
inductive Th where
 |num (i:Int)|idf|b0|b1|b2 (k:Int)|great|inc (i:Int)
def kO (n:Nat):Th->Tm
 |.num i=>.n i
 |.idf=>.fn n (.v n)
 |.b0=>.block 0 []
 |.b1=>.block 1 [.n 4]
 |.b2 k=>.block k [.n 1, .n 2]
 |.great=>.op 2 (.n<|10^35) (.n<|10^30)
 |.inc i=>.call (.fn n<|.op 0 (.v n) (.n 1)) (.n i)
def qx:Th->Prop
 |.num i=>0<=i/\i<5
 |.b2 k=>k=2\/k=3\/k= -1
 |.inc i=>0<=i/\i<4
 |_=>True
inductive SV:Vl->Prop where
 |num {i:Int}:SV (.num i)
 |fn {env:List Vl}:SV (.fn env.length (.v env.length) env)
 |bl0:SV (.bl 0 [])
 |bl1 {v:Vl}:SV (.bl 1 [v])
 |bl2 {k:Int} {v w:Vl}:k≠0->k≠1->SV (.bl k [v,w])
inductive SR:Rs->Prop where
 |val {v:Vl}:SV v->SR (.val v)
 |long:SR .long
 |great:SR .great
 |stuck:SR .stuck
theorem SR.nd {r:Rs}(h:SR r):r≠.deep:=by cases h<;>exact λz=>by cases z
theorem xM {most:Int}{n m d:Nat}{env:List Vl}{a:Th}(ok:qx a)(ln:env.length=n)(hm:4<=m)(hd:d<=8)(c:Nat):∃r c',ev most [] m d (kO n a) env c=some (r,c')/\SR r:=by
 obtain⟨m,rfl⟩:∃k,m=k+4:=⟨m-4,by omega⟩;subst ln;cases a with
 |num i=>exact⟨_,_,rfl, .val .num⟩
 |idf=>exact⟨_,_,rfl, .val .fn⟩
 |b0=>exact⟨_,_,rfl, .val .bl0⟩
 |b1=>exact⟨_,_,rfl, .val .bl1⟩
 |b2 k=>exact⟨_,_,rfl, .val (.bl2 (by rcases ok with h|h|h<;>omega)<|by rcases ok with h|h|h<;>omega)⟩
 |great=>
  refine⟨if dJ (rk 2 (10^35)<|10^30)=true then .val (.num<|rk 2 (10^35) (10^30)) else .great,c,rfl,?_⟩;split
  ·exact .val .num
  ·exact .great
 |inc i=>
  have e:ev most [] (m+4) d (kO env.length<|.inc i) env c=(if most<(c:Int)+1 then some (.long,c) else if 10<d+1 then some (.deep,c) else ev most [] (m+3) (d+1) (.op 0 (.v env.length)<|.n 1) (env++[.num i]) (c+1)):=rfl;rw[e];by_cases z:most<(c:Int)+1
  ·rw[afX z];exact⟨_,_,rfl, .long⟩
  ·rw[afY z,afY (by omega)]
   have e2:ev most [] (m+3) (d+1) (.op 0 (.v env.length)<|.n 1) (env++[.num i]) (c+1)=some (if dJ (rk 0 i 1)=true then .val (.num<|rk 0 i 1) else .great,c+1):=by
    simp[ev]
   refine⟨_,_,e2,?_⟩;split
   ·exact .val .num
   ·exact .great
inductive Od where
 |op (k:Nat) (a b:Th)|call (a b:Th)|lW (a b:Th)|fld (a b:Th)|cs (a b:Th)|self (a:Th)
def Fg (n:Nat)(a b:Th):Tm:=match a with
 |.b0=>.block 5 [kO n b]
 |a=>kO n a
def BZ (n:Nat):Od->Tm
 |.op k a b=>.op k (kO n a) (kO n b)
 |.call a b=>.call (kO n a) (kO n b)
 |.lW a b=>.lW (kO n a) (kO n b) (.n 7)
 |.fld a b=>.field 0 (Fg n a b)
 |.cs a b=>.case n (kO n a) [0,1,2] [kO n b, .v n, .op 0 (.v n) (.v<|n+1)]
 |.self a=>kO n a
def Mi:Od->Prop
 |.op k a b=>k<=3/\qx a/\qx b
 |.call a b=>qx a/\qx b
 |.lW a b=>qx a/\qx b
 |.fld a b=>qx a/\qx b
 |.cs a b=>qx a/\qx b
 |.self a=>qx a
theorem abL {most:Int}{m d c:Nat}{env:aP Vl}{v w:Vl}:∃r c',ev most [] (m+2) d (.op 0 (.v env.length)<|.v (env.length+1)) (env++[v,w]) c=some (r,c')/\r≠.deep:=by
 have e1:(env++[v,w])[env.length]?=some v:=by simp
 have e2:(env++[v,w])[env.length+1]?=some w:=by simp
 simp only[ev,e1,e2,aeD];cases v<;>cases w<;>first|exact⟨_,_,rfl,λz=>by cases z⟩|(refine⟨_,_,rfl,λz=>?_⟩;split at z<;>cases z)
theorem aam {most:Int}{n m d:Nat}{env:List Vl}{o:Od}(ok:Mi o)(ln:env.length=n)(hm:6<=m)(hd:d<=6)(c:Nat):∃r c',ev most [] m d (BZ n o) env c=some (r,c')/\r≠.deep:=by
 obtain⟨m,rfl⟩:∃k,m=k+6:=⟨m-6,by omega⟩;have T:∀{a:Th},qx a->∀c,∃r c',ev most [] (m+5) d (kO n a) env c=some (r,c')/\SR r:=λh c=>xM h ln (by omega) (by omega) c;cases o with
 |op k a b=>
  obtain⟨r,c1,e1,s1⟩:=T ok.2.1 c;show ∃r c',ev most [] (m+5+1) d (.op k (kO n a)<|kO n b) env c=some (r,c')/\r≠.deep;unfold ev;rw[e1];cases s1 with
  |val sv=>
   obtain⟨r2,c2,e2,s2⟩:=T ok.2.2 c1;dsimp only;rw[e2];cases s2 with
   |val sw=>
    cases sv<;>cases sw<;>first|exact⟨_,_,rfl,λz=>by cases z⟩|(refine⟨_,_,rfl,λz=>?_⟩;split at z<;>cases z)
   |_=>exact⟨_,_,rfl,λz=>by cases z⟩
  |_=>exact⟨_,_,rfl,λz=>by cases z⟩
 |call a b=>
  obtain⟨r,c1,e1,s1⟩:=T ok.1 c;show ∃r c',ev most [] (m+5+1) d (.call (kO n a)<|kO n b) env c=some (r,c')/\r≠.deep;unfold ev;rw[e1];cases s1 with
  |val sv=>
   obtain⟨r2,c2,e2,s2⟩:=T ok.2 c1;dsimp only;rw[e2];cases s2 with
   |@val w sw=>
    cases sv with
    |@fn kI=>
     dsimp only[qI];by_cases z:most<(c2:Int)+1
     ·rw[afX z];exact⟨_,_,rfl,λz=>by cases z⟩
     ·rw[afY z,afY (by omega)]
      have e3:ev most [] (m+5) (d+1) (.v kI.length) (kI++[w]) (c2+1)=some (.val w,c2+1):=by simp[ev]
      exact⟨_,_,e3,λz=>by cases z⟩
    |_=>exact⟨_,_,rfl,λz=>by cases z⟩
   |_=>exact⟨_,_,rfl,λz=>by cases z⟩
  |_=>exact⟨_,_,rfl,λz=>by cases z⟩
 |lW a b=>
  obtain⟨r,c1,e1,s1⟩:=T ok.1 c;show ∃r c',ev most [] (m+5+1) d (.lW (kO n a) (kO n b)<|.n 7) env c=some (r,c')/\r≠.deep;unfold ev;rw[e1];cases s1 with
  |val sv=>
   cases sv with
   |@num i=>
    dsimp only;by_cases z:i=0
    ·rw[afX z];exact⟨_,_,rfl,λz=>by cases z⟩
    ·rw[afY z]
     obtain⟨r2,c2,e2,s2⟩:=T ok.2 c1;exact⟨_,_,e2,s2.nd⟩
   |_=>exact⟨_,_,rfl,λz=>by cases z⟩
  |_=>exact⟨_,_,rfl,λz=>by cases z⟩
 |fld a b=>
  have go:∀t,(∃r c',ev most [] (m+5) d t env c=some (r,c')/\(r≠.deep)/\∀k,r≠.val (.bl k []))->∃r c',ev most [] (m+5+1) d (.field 0 t) env c=some (r,c')/\r≠.deep:=λt ⟨r,c1,e1,s1,s2⟩=>by
   unfold ev;rw[e1];cases r with
   |val v=>cases v with
    |bl k vs=>cases vs with
     |nil=>exact absurd rfl (s2 k)
     |cons u us=>exact⟨_,_,rfl,λz=>by cases z⟩
    |_=>exact⟨_,_,rfl,λz=>by cases z⟩
   |deep=>exact absurd rfl s1
   |_=>exact⟨_,_,rfl,λz=>by cases z⟩
  refine go (Fg n a b) ?_;have gen:∀a:Th,qx a->a≠.b0->∃r c',ev most [] (m+5) d (kO n a) env c=some (r,c')/\(r≠.deep)/\∀k,r≠.val (.bl k []):=λa ha nb=>by
   obtain⟨r,c1,e1,s1⟩:=T ha c;refine⟨r,c1,e1,s1.nd,λk z=>?_⟩;subst z;cases a with
   |num i=>cases e1
   |idf=>cases e1
   |b0=>exact nb rfl
   |b1=>cases e1
   |b2 k=>cases e1
   |great=>
    have e2:some (if dJ (rk 2 (10^35)<|10^30)=true then Rs.val (.num<|rk 2 (10^35) (10^30)) else .great,c)=some (.val<|.bl k [],c1):=e1;split at e2<;>cases e2
   |inc i=>
    subst ln;have e:ev most [] (m+5) d (kO env.length<|.inc i) env c=(if most<(c:Int)+1 then some (.long,c) else if 10<d+1 then some (.deep,c) else ev most [] (m+4) (d+1) (.op 0 (.v env.length)<|.n 1) (env++[.num i]) (c+1)):=rfl;rw[e]at e1;by_cases z:most<(c:Int)+1
    ·rw[afX z]at e1;cases e1
    ·rw[afY z,afY (by omega)]at e1
     have e2:ev most [] (m+4) (d+1) (.op 0 (.v env.length)<|.n 1) (env++[.num i]) (c+1)=some (if dJ (rk 0 i 1)=true then .val (.num<|rk 0 i 1) else .great,c+1):=by
      simp[ev]
     rw[e2]at e1;split at e1<;>cases e1
  cases a with
  |b0=>
   show ∃r c',ev most [] (m+4+1) d (.block 5 [kO n b]) env c=some (r,c')/\(r≠.deep)/\∀k,r≠.val (.bl k []);obtain⟨r,c1,e1,s1⟩:=xM (most:=most) (m:=m+4) (d:=d) ok.2 ln (by omega) (by omega) c;unfold ev;simp only[evs];rw[e1];cases s1 with
   |val sv=>exact⟨_,_,rfl,λz=>(by cases z),λk z=>by cases z⟩
   |_=>exact⟨_,_,rfl,λz=>(by cases z),λk z=>by cases z⟩
  |_=>exact gen _ ok.1 (λz=>by cases z)
 |cs a b=>
  obtain⟨r,c1,e1,s1⟩:=T ok.1 c;show ∃r c',ev most [] (m+5+1) d (.case n (kO n a) [0,1,2] [kO n b, .v n, .op 0 (.v n) (.v<|n+1)]) env c=some (r,c')/\r≠.deep;unfold ev;rw[e1];cases s1 with
  |val sv=>
   cases sv with
   |bl0=>
    obtain⟨r2,c2,e2,s2⟩:=T ok.2 c1;refine⟨r2,c2,?_,s2.nd⟩;simpa using e2
   |@bl1 v=>
    refine⟨.val v,c1,?_,λz=>by cases z⟩;subst ln;simp[ev]
   |@bl2 k v w k0 k1=>
    dsimp only;by_cases z:0<=k/\k<3
    ·have:k=2:=by omega
     subst this;subst ln;have e4:=abL (most:=most) (m:=m+3) (d:=d) (env:=env) (v:=v) (w:=w) (c:=c1);simpa using e4
    ·rw[afY (by simpa using z)]
     exact⟨_,_,rfl,λz=>by cases z⟩
   |_=>exact⟨_,_,rfl,λz=>by cases z⟩
  |_=>exact⟨_,_,rfl,λz=>by cases z⟩
 |self a=>
  obtain⟨r,c1,e1,s1⟩:=xM (most:=most) (m:=m+6) (d:=d) (a:=a) ok ln (by omega) (by omega) c;exact⟨r,c1,e1,s1.nd⟩
inductive Wi where
 |odd (o:Od)|lt (w:Wi)|plus (w:Wi)|call (w:Wi)|lW (i:Int) (w:Wi)|less (w:Wi)|ltf (w:Wi)
def lH:Wi->Nat->Tm
 |.odd o,n=>BZ n o
 |.lt w,n=>.lt n (lH w n) (.n 3)
 |.plus w,n=>.op 0 (.n 2) (lH w n)
 |.call w,n=>.call (.fn n<|lH w (n+1)) (.n 1)
 |.lW i w,n=>.lW (.n i) (lH w n) (.n 9)
 |.less w,n=>.op 3 (lH w n) (.call (.fn n<|.v n)<|.n 6)
 |.ltf w,n=>.lt n (.fn n<|lH w (n+1)) (.n 8)
def sU:Nat->Wi->Prop
 |0, .odd o=>Mi o
 |k+1, .lt w=>sU k w
 |k+1, .plus w=>sU k w
 |k+1, .call w=>sU k w
 |k+1, .lW i w=>(0<=i/\i<2)/\sU k w
 |k+1, .less w=>sU k w
 |k+1, .ltf w=>sU k w
 |_,_=>False
theorem Vx {most:Int}:∀(k:Nat) {w:Wi} {n m d:Nat} {env:List Vl},sU k w->env.length=n->6+2*k<=m->d+k<=6->∀c,∃r c',ev most [] m d (lH w n) env c=some (r,c')/\r≠.deep:=by
 intro k
 induction k with
 |zero=>
  intro w n m d env ok ln hm hd c;cases w with
  |odd o=>exact aam (most:=most) ok ln (by omega) (by omega) c
  |_=>exact ok.elim
 |succ k ih=>
  intro w n m d env ok ln hm hd c;obtain⟨m,rfl⟩:∃j,m=j+2:=⟨m-2,by omega⟩;cases w with
  |odd o=>exact ok.elim
  |lt w=>
   obtain⟨r,c1,e1,s1⟩:=ih (w:=w) (n:=n) (m:=m+1) (d:=d) (env:=env) ok ln (by omega) (by omega) c;show ∃r c',ev most [] (m+1+1) d (.lt n (lH w n)<|.n 3) env c=some (r,c')/\r≠.deep;unfold ev;rw[e1];cases r with
   |val v=>exact⟨_,_,rfl,λz=>by cases z⟩
   |deep=>exact absurd rfl s1
   |_=>exact⟨_,_,rfl,λz=>by cases z⟩
  |plus w=>
   obtain⟨r,c1,e1,s1⟩:=ih (w:=w) (n:=n) (m:=m+1) (d:=d) (env:=env) ok ln (by omega) (by omega) c;have e:ev most [] (m+1+1) d (.op 0 (.n 2)<|lH w n) env c=(match ev most [] (m+1) d (lH w n) env c with
    |some (.val w,c2)=>match Vl.num 2,w with
     |.num i, .num j=>some (if dJ (rk 0 i j)=true then .val (.num<|rk 0 i j) else .great,c2)
     |_,_=>some (.stuck,c2)
    |r=>r):=rfl
   show ∃r c',ev most [] (m+1+1) d (.op 0 (.n 2)<|lH w n) env c=some (r,c')/\r≠.deep;rw[e,e1];cases r with
   |val v=>cases v<;>first|exact⟨_,_,rfl,λz=>by cases z⟩|(refine⟨_,_,rfl,λz=>?_⟩;split at z<;>cases z)
   |deep=>exact absurd rfl s1
   |_=>exact⟨_,_,rfl,λz=>by cases z⟩
  |call w=>
   have e:ev most [] (m+1+1) d (.call (.fn n<|lH w (n+1))<|.n 1) env c=(if most<(c:Int)+1 then some (.long,c) else if 10<d+1 then some (.deep,c) else ev most [] (m+1) (d+1) (lH w<|n+1) (env++[.num 1]) (c+1)):=rfl;show ∃r c',ev most [] (m+1+1) d (.call (.fn n<|lH w (n+1))<|.n 1) env c=some (r,c')/\r≠.deep;rw[e];by_cases z:most<(c:Int)+1
   ·rw[afX z];exact⟨_,_,rfl,λz=>by cases z⟩
   ·rw[afY z,afY (by omega)]
    exact ih (w:=w) (n:=n+1) (m:=m+1) (d:=d+1) ok (by rw[adV,ln];rfl) (by omega) (by omega)<|c+1
  |lW i w=>
   have e:ev most [] (m+1+1) d (.lW (.n i) (lH w n)<|.n 9) env c=ev most [] (m+1) d (if i=0 then .n 9 else lH w n) env c:=rfl;show ∃r c',ev most [] (m+1+1) d (.lW (.n i) (lH w n)<|.n 9) env c=some (r,c')/\r≠.deep;rw[e];by_cases z:i=0
   ·rw[afX z];exact⟨_,_,rfl,λz=>by cases z⟩
   ·rw[afY z];exact ih (w:=w) ok.2 ln (by omega) (by omega) c
  |less w=>
   obtain⟨r,c1,e1,s1⟩:=ih (w:=w) (n:=n) (m:=m+1) (d:=d) (env:=env) ok ln (by omega) (by omega) c;show ∃r c',ev most [] (m+1+1) d (.op 3 (lH w n)<|.call (.fn n<|.v n) (.n 6)) env c=some (r,c')/\r≠.deep;unfold ev;rw[e1];cases r with
   |val v=>
    dsimp only;have e:ev most [] (m+1) d (.call (.fn n<|.v n)<|.n 6) env c1=(if most<(c1:Int)+1 then some (.long,c1) else if 10<d+1 then some (.deep,c1) else ev most [] m (d+1) (.v n) (env++[.num 6]) (c1+1)):=by
     obtain⟨j,rfl⟩:∃j,m=j+1:=⟨m-1,by omega⟩
     rfl
    rw[e];by_cases z:most<(c1:Int)+1
    ·rw[afX z];exact⟨_,_,rfl,λz=>by cases z⟩
    ·rw[afY z,afY (by omega)]
     have e3:ev most [] m (d+1) (.v n) (env++[.num 6]) (c1+1)=some (.val<|.num 6,c1+1):=by
      obtain⟨j,rfl⟩:∃j,m=j+1:=⟨m-1,by omega⟩;subst ln;simp[ev]
     rw[e3];cases v<;>first|exact⟨_,_,rfl,λz=>by cases z⟩|(refine⟨_,_,rfl,λz=>?_⟩;split at z<;>cases z)
   |deep=>exact absurd rfl s1
   |_=>exact⟨_,_,rfl,λz=>by cases z⟩
  |ltf w=>exact⟨.val<|.num 8,c,rfl,λz=>by cases z⟩
theorem xO {n:Nat}{a:Th}(ok:qx a):GT n (kO n a)/\dep (kO n a)<=3/\sz (kO n a)<=8:=by
 have i60:∀i:Int,0<=i->i<10->dJ i=true:=λi h1 h2=>by
  have:i=0\/i=1\/i=2\/i=3\/i=4\/i=5\/i=6\/i=7\/i=8\/i=9:=by omega
  rcases this with h|h|h|h|h|h|h|h|h|h<;>subst h<;>decide+kernel
 cases a with
 |num i=>exact⟨i60 i ok.1 (by have:=ok.2;omega),aeG _,by show 1<=8;decide⟩
 |idf=>exact⟨⟨rfl,aey n⟩,by show 1<=3;decide,by show 2<=8;decide⟩
 |b0=>exact⟨⟨by decide,trivial⟩,by simp[kO,dep,jm],by simp[kO,sz,yS]⟩
 |b1=>exact⟨⟨by decide,(by decide+kernel:dJ 4=true),trivial⟩,by simp[kO,dep,jm],by simp[kO,sz,yS]⟩
 |b2 k=>exact⟨⟨by decide,(by decide+kernel:dJ 1=true),(by decide+kernel:dJ 2=true),trivial⟩,by simp[kO,dep,jm],by simp[kO,sz,yS]⟩
 |great=>exact⟨⟨by decide,(by decide+kernel:dJ (10^35)=true),(by decide+kernel:dJ (10^30)=true)⟩,by simp[kO,dep,jm],by simp[kO,sz,yS]⟩
 |inc i=>exact⟨⟨⟨rfl,by decide,aey n,(by decide+kernel:dJ 1=true)⟩,i60 i ok.1<|by have:=ok.2;omega⟩,by simp[kO,dep,jm],by simp[kO,sz,yS]⟩
theorem adx {n:Nat}{o:Od}(ok:Mi o):GT n (BZ n o)/\dep (BZ n o)<=5/\sz (BZ n o)<=40:=by
 cases o with
 |op k a b=>
  obtain⟨a1,a2,a3⟩:=xO (n:=n) ok.2.1;obtain⟨b1,b2,b3⟩:=xO (n:=n) ok.2.2;exact⟨⟨ok.1,a1,b1⟩,by simp only[BZ,dep];omega,by simp only[BZ,sz];omega⟩
 |call a b=>
  obtain⟨a1,a2,a3⟩:=xO (n:=n) ok.1;obtain⟨b1,b2,b3⟩:=xO (n:=n) ok.2;exact⟨⟨a1,b1⟩,by simp only[BZ,dep];omega,by simp only[BZ,sz];omega⟩
 |lW a b=>
  obtain⟨a1,a2,a3⟩:=xO (n:=n) ok.1;obtain⟨b1,b2,b3⟩:=xO (n:=n) ok.2;exact⟨⟨a1,b1,(by decide+kernel:dJ 7=true)⟩,by simp only[BZ,dep];omega,by simp only[BZ,sz];omega⟩
 |fld a b=>
  obtain⟨a1,a2,a3⟩:=xO (n:=n) ok.1;obtain⟨b1,b2,b3⟩:=xO (n:=n) ok.2;have h:GT n (Fg n a b)/\dep (Fg n a b)<=4/\sz (Fg n a b)<=20:=by
   unfold Fg;split
   ·exact⟨⟨by show 1<=5;decide,b1,trivial⟩,by simp only[dep,jm];omega,by simp only[sz,yS];omega⟩
   ·exact⟨a1,by omega,by omega⟩
  exact⟨h.1,by simp only[BZ,dep];omega,by simp only[BZ,sz];omega⟩
 |cs a b=>
  obtain⟨a1,a2,a3⟩:=xO (n:=n) ok.1;obtain⟨b1,b2,b3⟩:=xO (n:=n) ok.2;exact⟨⟨rfl,a1,0,[1,2],rfl,by decide,b1,1,[2],rfl,by decide,aey n,2,[],rfl,by decide,⟨by decide,by exact ad4 (aey n)<|aeI _,by exact aey _⟩,rfl⟩,by simp only[BZ,dep,jm];omega,by simp only[BZ,sz,yS];omega⟩
 |self a=>
  obtain⟨a1,a2,a3⟩:=xO (n:=n) (a:=a) ok;exact⟨a1,by show dep (kO n a)<=5;omega,by show sz (kO n a)<=40;omega⟩
theorem ady:∀(k:Nat) {w:Wi} {n:Nat},sU k w->GT n (lH w n)/\dep (lH w n)<=5+2*k/\sz (lH w n)<=40+8*k:=by
 intro k
 induction k with
 |zero=>
  intro w n ok;cases w with
  |odd o=>exact adx ok
  |_=>exact ok.elim
 |succ k ih=>
  intro w n ok;cases w with
  |odd o=>exact ok.elim
  |lt w=>
   obtain⟨a1,a2,a3⟩:=ih (w:=w) (n:=n) ok;exact⟨⟨rfl,a1,(by decide+kernel:dJ 3=true)⟩,by simp only[lH,dep];omega,by simp only[lH,sz];omega⟩
  |plus w=>
   obtain⟨a1,a2,a3⟩:=ih (w:=w) (n:=n) ok;exact⟨⟨by decide,(by decide+kernel:dJ 2=true),a1⟩,by simp only[lH,dep];omega,by simp only[lH,sz];omega⟩
  |call w=>
   obtain⟨a1,a2,a3⟩:=ih (w:=w) (n:=n+1) ok;exact⟨⟨⟨rfl,a1⟩,(by decide+kernel:dJ 1=true)⟩,by simp only[lH,dep];omega,by simp only[lH,sz];omega⟩
  |lW i w=>
   obtain⟨a1,a2,a3⟩:=ih (w:=w) (n:=n) ok.2;have hi:dJ i=true:=by
    have:i=0\/i=1:=by have:=ok.1;omega
    rcases this with h|h<;>subst h<;>decide+kernel
   exact⟨⟨hi,a1,(by decide+kernel:dJ 9=true)⟩,by simp only[lH,dep];omega,by simp only[lH,sz];omega⟩
  |less w=>
   obtain⟨a1,a2,a3⟩:=ih (w:=w) (n:=n) ok;exact⟨⟨by decide,a1,⟨rfl,aey n⟩,(by decide+kernel:dJ 6=true)⟩,by simp only[lH,dep];omega,by simp only[lH,sz];omega⟩
  |ltf w=>
   obtain⟨a1,a2,a3⟩:=ih (w:=w) (n:=n+1) ok;exact⟨⟨rfl,⟨rfl,a1⟩,(by decide+kernel:dJ 8=true)⟩,by simp only[lH,dep];omega,by simp only[lH,sz];omega⟩
theorem aan {k:Nat}{w:Wi}(h:sU k w)(h3:k<=3)(ab:Bool):Own (lH w 0)/\∃aW,Hg ab [] (lH w 0) aW/\∀most:Int,∃r c' n,ev most [] 20 0 (lH w 0) [] 0=some (r,c')/\r≠.deep/\uH most aW n A0'=some (wO r):=by
 obtain⟨g,d,z⟩:=ady k (n:=0) h;have own:Own (lH w 0):=⟨g,by omega⟩;obtain⟨aW,hc,ha⟩:=Uh ab (us:=[]) (t:=lH w 0) (λu hu=>by simp at hu) own (by unfold Zw;simp;omega);refine⟨own,aW,hc,λmost=>?_⟩;obtain⟨r,c',e,nd⟩:=Vx (most:=most) k (n:=0) (m:=20) (d:=0) (env:=[]) h rfl (by omega) (by omega) 0;obtain⟨n,hn⟩:=whole_run e own ha;exact⟨r,c',n,e,nd,hn⟩
end Fw
namespace L2
theorem Vy {o:UnaryOp}{a:aH}{es:aP aH}{p:Pos}{env:Env}:starEach (.UnaryOp o a p::es) env=(false,eval (.UnaryOp o a p) env)::starEach es env:=rfl
theorem qy {X:Cx}{e:aH}{t t':TE}(h:jL X e t)(k:∀U H Q,t' U H Q->t U H Q):jL X e t':=⟨λbG s U H Q I q=>h.h bG s U H Q I<|k U H Q q⟩
theorem abM {X:Cx}(K:aN){o:aH}{es':aP aH}{x1}{p lJ gK:Pos}{to te:TE}(ho:jL X o to)(ha:jL X (.Tuple es' x1 p) te)(nA:attributeBase o "append" X.env (eval o X.env)=eval o X.env:=by rfl)(hline:(lJ.endLine==gK.line)=true:=by rfl)(h:X.K=K:=by rfl):
  jL X (.Call (.Attribute o "append" lJ) [.Tuple es' x1 p] [] gK) (tBM K "list" uP to<|gQ te tE):=⟨ji K ho.h (bx ha.h bH vR) nA rfl hline vR rfl h⟩
theorem abN {X:Cx}{e:aH}{te:TE}{pos:Pos}(he:jL X e te)(hs:swapsWith e none pos.line X.env=pure false:=by rfl):BP X (.Expr e pos) (Wk te):=⟨cg he.h hs⟩
end L2
namespace Fw
open L2
theorem iR {tl:aP V}{st:aj}{H H':Hp}(ok:lX tl H st)(g:jB tl st H H'):BR H H':=λb ys h=>by
 obtain⟨x,y,hx⟩:=ok;exact g.1 b _ (jg h hx<|by intro z;cases z) h
def zN (k:Nat):Str:="z"++(toString ((k:Nat):Int):Str)
def Fr (k:Nat)(ns:List Str):Prop:=ns.Nodup/\("y":Str)∉ns/\("u":Str)∉ns/\("w":Str)∉ns/\∀j,j<k->zN j∉ns
def TL (k:Nat)(H:Hp)(v:V)(T:Nat->Tm):Prop:=∀ns,Fr k ns->jM H ns v (T ns.length)
theorem TL.tps {k:Nat}{H H':Hp}{v:V}{T:Nat->Tm}(h:TL k H v T)(e:BR H H'):TL k H' v T:=λns f=>(h ns f).tps e
theorem TL.same {k:Nat}{H H':Hp}{v:V}{T:Nat->Tm}(h:TL k H v T)(e:Same H H'):TL k H' v T:=λns f=>(h ns f).same e
theorem oA {ns:aP Str}{s:Str}(h:ns.Nodup)(n:s∉ns):(ns++[s]).Nodup:=List.nodup_append.mpr ⟨h,by simp,λa ha b hb e=>by rw[aec]at hb;subst hb;subst e;exact n ha⟩
theorem Vz {H:Hp}{ns:aP Str}{s:Str}{r:aj}(h:H r=some (.tup [.str "v", .str s])):jM H (ns++[s]) (.ref r) (.v ns.length):=.v (by rw[wU];exact h) (by simp)
def tTL (k:Nat)(T:Nat->Tm):TE:=λU H Q=>∀v H',Same H H'->TL k H' v T->Q v H'
def tNx (m:Int):TE:=λU H Q=>∃(st:aj) (tl:List V),U[0]?=some (some<|.ref st)/\lX tl H st/\∀(i:Int) v H',0<=i->i<m->jB tl st H H'->TL 0 H' v (λ_=>.n i)->Q v H'
def tB2:TE:=λU H Q=>∃(st:aj) (tl:List V),U[0]?=some (some<|.ref st)/\lX tl H st/\∀(k:Int) v H',(k=2\/k=3\/k= -1)->jB tl st H H'->TL 0 H' v (λn=>kO n<|.b2 k)->Q v H'
def tIn:TE:=λU H Q=>∃(st:aj) (tl:List V),U[0]?=some (some<|.ref st)/\lX tl H st/\∀(k:Int) v H',0<=k->k<4->jB tl st H H'->TL 0 H' v (λn=>kO n<|.inc k)->Q v H'
abbrev VB (m:Int):TE:=Cy kJ [] E0 (gQ (jr 0)<|gQ (tC<|.int m) tE)
section
variable {X:Cx}{k:Nat}
theorem VD {i:Int}{j1 j2 x1}{p1 p2 p3:Pos}:jL X (.Tuple [.Constant (.str "n") j1 p1, .Constant (.int i) j2 p2] x1 p3) (tTL k λ_=>.n i) :=
 qy (cZ<|cY (mq cU)) λU H Q h=>⟨dO 2,λp hp=>h _ _ (bI hp _) λns _=>.n bA⟩
theorem abO {j1 j2 j3 j4 x1 x2}{p1 p2 p3 p4 p5 p6:Pos}:jL X (.Tuple [.Constant (.str "fun") j1 p1, .Constant (.str "y") j2 p2, .Tuple [.Constant (.str "v") j3 p3, .Constant (.str "y") j4 p4] x1 p5] x2 p6) (tTL 0 λn=>kO n .idf) :=
 qy (cZ<|cY (cY<|mG (cZ<|cY (cY cU)) cU)) λU H Q h=>⟨dO 2,λp hp=>⟨dO 3,λq hq=>h _ _ ((bI hp _).trans<|bI hq _) λns f=>.fn bA (oA f.1 f.2.1)<|Vz (bI hq _ _ _ bA)⟩⟩
theorem adz {j1 j2 x1 x2}{p1 p2 p3 p4:Pos}:jL X (.Tuple [.Constant (.str "block") j1 p1, .Constant (.int 0) j2 p2, .Tuple [] x1 p3] x2 p4) (tTL 0 λn=>kO n .b0) :=
 qy (cZ<|cY (mq<|mG (cZ cU) cU)) λU H Q h=>⟨dO 0,λp hp=>⟨dO 3,λq hq=>h _ _ ((bI hp _).trans<|bI hq _) λns f=>.block bA (bI hq _ _ _ bA) .nil⟩⟩
theorem adA {j1 j2 j3 j4 x1 x2 x3}{p1 p2 p3 p4 p5 p6 p7:Pos}:jL X (.Tuple [.Constant (.str "block") j1 p1, .Constant (.int 1) j2 p2, .Tuple [.Tuple [.Constant (.str "n") j3 p3, .Constant (.int 4) j4 p4] x1 p5] x2 p6] x3 p7) (tTL 0 λn=>kO n .b1) :=
 qy (cZ<|cY (mq<|mG (cZ<|mG (VD (k:=0)) cU) cU)) λU H Q h v H1 s1 t1=>⟨dO 1,λp hp=>⟨dO 3,λq hq=>h _ _ (s1.trans<|(bI hp _).trans (bI hq _)) λns f=>.block bA (bI hq _ _ _ bA)<|.cons (((t1 ns f).same<|bI hp _).same<|bI hq _) .nil⟩⟩
theorem adB {j1 j2 j3 j4 j5 j6 j7 x1 x2 x3}{p1 p2 p3 p4 p5 p6 p7 p8 p9 Mz VF Mv:Pos}:jL X (.Tuple [.Constant (.str "times") j1 p1, .Tuple [.Constant (.str "n") j2 p2, .BinOp (.Constant (.int 10) j3 p3) .Pow (.Constant (.int 35) j4 p4) p5] x1 p6, .Tuple [.Constant (.str "n") j5 p7, .BinOp (.Constant (.int 10) j6 p8) .Pow (.Constant (.int 30) j7 p9) Mz] x2 VF] x3 Mv) (tTL 0 λn=>kO n .great) :=
 qy (cZ<|cY (mG (cZ<|cY (x_b (L2.Pj zG OJ OJ) cU))<|mG (cZ<|cY (x_b (L2.Pj zG OJ OJ) cU)) cU)) λU H Q h=>
  ⟨10,35,rfl,rfl,⟨by decide,by decide,by decide⟩,dO 2,λp hp=>⟨10,30,rfl,rfl,⟨by decide,by decide,by decide⟩,dO 2,λq hq=>⟨dO 3,λr hr=>
   h _ _ ((bI hp _).trans<|(bI hq _).trans (bI hr _)) λns f=>.op (k:=2) bA (.n<|bI hr _ _ _ (bI hq _ _ _ bA))<|.n (bI hr _ _ _ bA)⟩⟩⟩
theorem aao {m:Int}{g:aH}{es:aP aH}{ks:aP Keyword}{j1 x1}{p1 p2 p3:Pos}(hc:jL X (.Call g es ks p2) (VB m))(m0:0<m)(m1:m<1000000):jL X (.Tuple [.Constant (.str "n") j1 p1, .Call g es ks p2] x1 p3) (tNx m) :=
 qy (cZ<|cY (x_c hc cU)) λU H Q ⟨st,tl,h0,ok,q⟩=>⟨_,h0,tl,st,m,rfl,ok,m0,m1,λd H1 d0 d1 g1=>⟨dO 2,λp hp=>q d _ _ d0 d1 (g1.trans<|eV g1.ok (bI hp _)) λns _=>.n bA⟩⟩
theorem adC {g:aH}{es:aP aH}{ks:aP Keyword}{j1 j2 j3 j4 j5 j6 j7 j8 j9 x1 x2 x3 x4 x5 x6}{p1 p2 p3 p4 p5 p6 p7 p8 p9 Mz VF Mv p13 Xo p15 p16:Pos}(hc:jL X (.Call g es ks p2) (VB 4)):
  jL X (.Tuple [.Constant (.str "call") j1 p1, .Tuple [.Constant (.str "fun") j2 p3, .Constant (.str "y") j3 p4, .Tuple [.Constant (.str "plus") j4 p5, .Tuple [.Constant (.str "v") j5 p6, .Constant (.str "y") j6 p7] x1 p8, .Tuple [.Constant (.str "n") j7 p9, .Constant (.int 1) j8 Mz] x2 VF] x3 Mv] x4 p13, .Tuple [.Constant (.str "n") j9 Xo, .Call g es ks p2] x5 p15] x6 p16) tIn :=
 qy (cZ (cY (mG (cZ<|cY (cY<|mG (cZ<|cY (mG (cZ<|cY (cY cU))<|mG (cZ<|cY (mq cU)) cU)) cU)) (mG (aao hc (by decide)<|by decide) cU)))) λU H Q ⟨st,tl,h0,ok,q⟩=>
  ⟨dO 2,λa ha=>⟨dO 2,λb hb=>⟨dO 3,λc hc=>⟨dO 3,λd hd=>⟨st,tl,h0,ok.same<|(bI ha _).trans ((bI hb _).trans<|(bI hc _).trans (bI hd _)),λi v H1 i0 i1 g1 t1=>⟨dO 3,λe he=>by
   have sd:=(bI ha<|.tup [.str "v", .str "y"]).trans ((bI hb<|.tup [.str "n", .int 1]).trans<|(bI hc<|.tup [.str "plus", .ref a, .ref b]).trans (bI hd<|.tup [.str "fun", .str "y", .ref c]));have okd:=ok.same sd;have tp:=iR okd g1;have se:=bI he (.tup [.str "call", .ref d,v]);refine q i _ _ i0 i1 ((eV ok sd).trans<|g1.trans (eV g1.ok se)) λns f=>.call bA (.fn (se _ _<|tp _ _ bA) (oA f.1 f.2.1)<|.op (k:=0) (se _ _<|tp _ _ (bI hd _ _ _ bA)) (Vz<|se _ _ (tp _ _<|bI hd _ _ _ (bI hc _ _ _<|bI hb _ _ _ bA))) (.n<|se _ _ (tp _ _<|bI hd _ _ _ (bI hc _ _ _ bA))))<|(t1 ns f).same se⟩⟩⟩⟩⟩⟩
theorem adD {K:aN}{g:aH}{es:aP aH}{ks:aP Keyword}{j1 j2 j3 j4 j5 j6 j7 j8 x1 x2 x3 x4}{p1 p2 p3 p4 p5 p6 p7 p8 p9 Mz VF Mv p13 Xo p15 p16:Pos}(hK:X.K=K)(hc:jL X (.Call g es ks p2) (VB 3))(hp:zJ (.Call g es ks p2)):
  jL X (.Tuple [.Constant (.str "block") j1 p1, .Subscript (.List [.Constant (.int 2) j2 p3, .Constant (.int 3) j3 p4, .UnaryOp .USub (.Constant (.int 1) j4 p5) p6] p7) (.Call g es ks p2) p8, .Tuple [.Tuple [.Constant (.str "n") j5 p9, .Constant (.int 1) j6 Mz] x1 VF, .Tuple [.Constant (.str "n") j7 Mv, .Constant (.int 2) j8 p13] x2 Xo] x3 p15] x4 p16) tB2 :=
 qy (cZ<|cY (x_s (Yv (yc K hK) (vU<|mq (mq ⟨bx (aaO X5 bK) bH Vy⟩)) hc hp)<|mG (cZ<|mG (VD (k:=0)) (mG (VD (k:=0)) cU)) cU)) λU H Q ⟨st,tl,h0,ok,q⟩=>⟨1,rfl,dO 3,λl hl=>⟨_,h0,tl,st,3,rfl,ok.same<|bI hl _,by decide,by decide,λd H1 d0 d1 g1=>by
   obtain⟨d,rfl⟩:∃e:Nat,d=(e:Int):=⟨d.toNat,by omega⟩;have nl:l≠st:=by
    obtain⟨x,y,hx⟩:=ok;exact cJ hl hx
   have h3:∃k:Int,([.int 2, .int 3, .int (-1)]:aP V)[d]?=some (.int k)/\(k=2\/k=3\/k= -1):=by
    have:d=0\/d=1\/d=2:=by omega
    rcases this with rfl|rfl|rfl
    ·exact⟨2,rfl, .inl rfl⟩
    ·exact⟨3,rfl, .inr<|.inl rfl⟩
    ·exact⟨-1,rfl, .inr<|.inr rfl⟩
   obtain⟨k,hk,ok3⟩:=h3;refine⟨l,_,_,_,rfl,rfl,dM.of<|g1.1 _ _ nl bA,cI (j:=d) hk,λv1 H2 s2 t2 v2 H3 s3 t3=>⟨dO 2,λb hb=>⟨dO 3,λc hc=>?_⟩⟩⟩;have s4:=bI hb (.tup [v1,v2]);have s5:=bI hc (.tup [.str "block", .int k, .ref b]);exact q k _ _ ok3 ((eV ok<|bI hl _).trans<|g1.trans (eV g1.ok<|s2.trans (s3.trans<|s4.trans s5))) λns f=>.block bA (s5 _ _ bA)<|.cons ((((t2 ns f).same s3).same s4).same s5) (.cons (((t3 ns f).same s4).same s5) .nil)⟩⟩
end
def Hu (H:Hp)(v:V):Prop:=∃a,qx a/\TL 0 H v (λn=>kO n a)
theorem Hu.tps {H H':Hp}{v:V}(h:Hu H v)(e:BR H H'):Hu H' v:=h.elim λa h=>⟨a,h.1,h.2.tps e⟩
theorem Hu.same {H H':Hp}{v:V}(h:Hu H v)(e:Same H H'):Hu H' v:=h.elim λa h=>⟨a,h.1,h.2.same e⟩
inductive Bv (vs:List V)(H:Hp)(Q:VK)(E_:XK):Prop where
 |mk (tl:List V) (st:aj):vs=[.ref st]->lX tl H st->(∀v H',Hu H' v->jB tl st H H'->Q v H')->Bv vs H Q E_
theorem tZ {tl:List V}{st l:aj}{H H':Hp}(ok:lX tl H st)(g:jB tl st H H')(h:H' l=none):H l=none/\l≠st:=by
 obtain⟨x,y,hx⟩:=g.2;have n:l≠st:=λe=>by rw[e,hx]at h;cases h
 refine⟨?_,n⟩;cases e:H l with
 |none=>rfl
 |some o=>rw[g.1 l o n e]at h;cases h
theorem Rt {tl:aP V}{st l:aj}{H H':Hp}{o:HO}(g:jB tl st H H')(h:H l=none)(n:l≠st):jB tl st H (upd H' l o):=⟨λb u hb e=>by rw[bR (bU e h)];exact g.1 b u hb e,by
 obtain⟨x,y,hx⟩:=g.2;exact⟨x,y,by rw[bR (af2 n)];exact hx⟩⟩
section
abbrev iG:aJ:=top 66
noncomputable abbrev nTh:List Str:=["_law_state","_law_way","_law_great","_law_some"]
theorem pR:bZ nTh ["_law_state"] (bQ iG):={}
@[irreducible] def VG:aJ:=(cT iG).getD 1 (.Pass ⟨0,0,0,0⟩)
@[irreducible] def VH:aJ:=(cT iG).getD 2 (.Pass ⟨0,0,0,0⟩)
@[irreducible] def VJ:aJ:=(cT iG).getD 3 (.Pass ⟨0,0,0,0⟩)
@[irreducible] def VL:aJ:=(cT iG).getD 4 (.Pass ⟨0,0,0,0⟩)
theorem abP:cT iG=(cT iG).getD 0 (.Pass ⟨0,0,0,0⟩)::VG::VH::VJ::VL::(cT iG).drop 5:=by
 unfold VG VH VJ VL
 rfl
abbrev TX (P:aA)(w:aG)(K:aN)(mg:Str->Option ak)(aV:aK)(f:aj)(dF:ak)(A:aq)(aU:List Env)(s:ao)(H:Hp)(E:XK):Cx:=(dX jV P w K mg aV nTh "_law_thing" (bQ iG) f dF A aU s H E).JW
def tT1:TS:=λD U H=>∃v0 v1,U=[some v0,some v1,none,none]/\∀g H',Same H H'->Hu H' g->D.nx [some v0,some v1,some g,none] H'
def tT2:TS:=λD U H=>∃(st:aj) (tl:List V) (v1 g:V),U=[some (.ref st),some v1,some g,none]/\lX tl H st/\∀(l:aj) (vs:List V) H',jB tl st H H'->H l=none->l≠st->H' l=some (.lst vs)->vs.length=4->(∀v∈vs,Hu H' v)->D.nx [some (.ref st),some v1,some g,some (.ref l)] H'
def tT3:TS:=λD U H=>∃(st:aj) (tl:List V) (v1 g:V) (l0:aj) (us:List V),U=[some (.ref st),some v1,some g,some (.ref l0)]/\lX tl H st/\H l0=some (.lst us)/\l0≠st/\us.length=4/\(∀v∈us,Hu H v)/\Hu H g/\∀(l:aj) (vs:List V) H',jB tl st H H'->H l=none->l≠st->H' l=some (.lst vs)->vs.length=6->(∀v∈vs,Hu H' v)->D.nx [some (.ref st),some v1,some g,some (.ref l)] H'
def tT4:TS:=λD U H=>∃(st:aj) (tl:List V) (v1 g:V) (l:aj) (us:List V),U=[some (.ref st),some v1,some g,some (.ref l)]/\lX tl H st/\H l=some (.lst us)/\l≠st/\us.length=6/\(∀v∈us,Hu H v)/\∀v H',jB tl st H H'->Hu H' v->D.nx U (upd H' l<|.lst (us++[v]))
section
variable {dF:ak}{A:aq}{aU:List Env}{s:ao}{H:Hp}{E:XK}
theorem abQ:BP (TX P w K mg aV f dF A aU s H E) VG tT1:=by
 unfold VG;refine qP (pF (i:=2) (x:="_law_great") pR.nd rfl (Or.inl rfl) adB jx (.inl rfl)) ?_;rintro D U H ⟨v0,v1,rfl,q⟩;exact λg H' s' t=>q g H' s' ⟨.great,trivial,t⟩
theorem abR (hr:gA 1 (A.deeper<|envOfC "_law_thing" (bQ iG) s.heap.objs.size f dF))(h1:Has P w K mg aV 1 "_law_next" ["_law_state","_law_many"] kJ):BP (TX P w K mg aV f dF A aU s H E) VH tT2:=by
 unfold VH;refine qP (pF (i:=3) (x:="_law_some") pR.nd rfl (Or.inl rfl) (vU (mG (aao ⟨dG h1 hr (by decide) rfl (bx (pv 0)<|bx bK bH)⟩ (by decide)<|by decide)<|mG abO (mG adz<|mG adA cU))) KJ (.inl rfl)) ?_;rintro D U H ⟨st,tl,v1,g,rfl,ok,q⟩;refine⟨st,tl,rfl,ok,λi a H1 i0 i1 g1 t1 b H2 s2 t2 c H3 s3 t3 d H4 s4 t4=>⟨dO 4,λl hl=>?_⟩⟩;have s5:=bI hl (.lst [a,b,c,d]);have s15:=s2.trans (s3.trans<|s4.trans s5);have g5:=g1.trans (eV g1.ok s15);obtain⟨n1,n2⟩:=tZ ok (g1.trans<|eV g1.ok (s2.trans<|s3.trans s4)) hl;refine q l [a,b,c,d] _ g5 n1 n2 bA rfl λv hv=>?_;simp only[aev,aej,af3]at hv;rcases hv with rfl|rfl|rfl|rfl
 ·exact⟨.num i,⟨i0,i1⟩,t1.same s15⟩
 ·exact⟨.idf,trivial,t2.same<|s3.trans (s4.trans s5)⟩
 ·exact⟨.b0,trivial,t3.same<|s4.trans s5⟩
 ·exact⟨.b1,trivial,t4.same s5⟩
theorem abS (hr:gA 1 (A.deeper<|envOfC "_law_thing" (bQ iG) s.heap.objs.size f dF))(h1:Has P w K mg aV 1 "_law_next" ["_law_state","_law_many"] kJ):BP (TX P w K mg aV f dF A aU s H E) VJ tT3:=by
 unfold VJ;refine qP (pF (i:=3) (x:="_law_some") pR.nd rfl (Or.inl rfl) (L2.Pj vJ (jF 3) (vU (mG (adD (K:=K) rfl ⟨dG h1 hr (by decide) rfl (bx (pv 0)<|bx bK bH)⟩ (λ_ _=>rfl))<|x_n (jF 2) cU))) KH (.inl rfl)) ?_;rintro D U H ⟨st,tl,v1,g,l0,us,rfl,ok,hl0,n0,lu,au,ag,q⟩;refine⟨_,rfl,st,tl,rfl,ok,λk v H1 hk g1 t1=>⟨_,rfl,dO 2,λb hb=>?_⟩⟩;have s2:=bI hb (.lst [v,g]);refine⟨l0,b,us,[v,g],rfl,rfl,s2 _ _<|g1.1 _ _ n0 hl0,bA,by rw[lu];exact dO 6,λl hl=>?_⟩;have s3:=bI hl (.lst<|us++[v,g]);have Mt:=s2.trans s3;obtain⟨n1,n2⟩:=tZ ok (g1.trans<|eV g1.ok s2) hl;have tp:=iR ok g1;refine q l (us++[v,g]) _ (g1.trans<|eV g1.ok Mt) n1 n2 bA (by rw[adV,lu];rfl) λx hx=>?_;simp only[aeu,aev,aej,af3]at hx;rcases hx with hx|rfl|rfl
 ·exact((au x hx).tps tp).same Mt
 ·exact⟨.b2 k,hk,t1.same Mt⟩
 ·exact(ag.tps tp).same Mt
theorem abT (hr:gA 1 (A.deeper<|envOfC "_law_thing" (bQ iG) s.heap.objs.size f dF))(h1:Has P w K mg aV 1 "_law_next" ["_law_state","_law_many"] kJ):BP (TX P w K mg aV f dF A aU s H E) VL tT4:=by
 unfold VL;refine qP (abN (abM K (jF 3) (adC ⟨dG h1 hr (by decide) rfl (bx (pv 0)<|bx bK bH)⟩))) ?_;rintro D U H ⟨st,tl,v1,g,l,us,rfl,ok,hl,n0,lu,au,q⟩;refine⟨_,rfl, .inl ⟨rfl,_,dM.of hl⟩,st,tl,rfl,ok,λk v H1 k0 k1 g1 t1=>?_⟩;exact⟨l,us,v,rfl,rfl,g1.1 _ _ n0 hl,by rw[lu];exact dB (by decide),q v H1 g1 ⟨.inc k,⟨k0,k1⟩,t1⟩⟩
end
set_option maxHeartbeats 2000000 in
theorem Ru (F:iz K "_law_thing" "_law_thing" iG f fd)(h1:Has P w K mg aV 1 "_law_next" ["_law_state","_law_many"] kJ):cP P w K mg aV jV 2 f fd ["_law_state"] Bv:=by
 refine F.ok pR λdF A aU s H vs Q E hr h=>?_;obtain⟨tl,st,rfl,ok,q⟩:=h;rw[abP];refine⟨_,bJ (iy 1 pR.nd (dG h1 hr (by decide) rfl (bx (pv 0)<|bx bK bH))) (bJ abQ.h (bJ (abR hr h1).h (bJ (abS hr h1).h (bJ (abT hr h1).h
  (bJ (dz (PW.pt (FZ (cH eG (pv 1) bK) (HD (cH eG (dG h1 hr (by decide) rfl (bx (pv 0)<|bx bK bH)) bK)))) (bO<|cQ (bY (yc K) (pv 3) bK)) cN)
  (bO<|cQ (bY (yc K) (pv 3)<|pv 1))))))),?_⟩
 refine⟨_,rfl,tl,st,7,rfl,ok,by decide,by decide,λwy H1 w0 w1 g1=>?_⟩;obtain⟨wy,rfl⟩:∃e:Nat,wy=(e:Int):=⟨wy.toNat,by omega⟩;refine⟨_,_,rfl,λg H2 s2 t2=>?_⟩;have g2:=eV g1.ok s2;refine⟨st,tl,_,_,rfl,g2.ok,λl3 v3 H3 g3 n3 m3 hl3 ln3 a3=>?_⟩;refine⟨st,tl,_,_,l3,v3,rfl,g3.ok,hl3,m3,ln3,a3,t2.tps<|iR g2.ok g3,λl4 v4 H4 g4 n4 m4 Zy ln4 a4=>?_⟩;refine⟨st,tl,_,_,l4,v4,rfl,g4.ok,Zy,m4,ln4,a4,λv H5 g5 t5=>?_⟩;have g05:=(g1.trans g2).trans (g3.trans<|g4.trans g5);obtain⟨f0,_⟩:=tZ ok ((g1.trans g2).trans g3) n4;have g6:=Rt (o:=.lst<|v4++[v]) g05 f0 m4;have tY:(upd H5 l4<|.lst (v4++[v])) l4=some (.lst<|v4++[v]):=bA;have tp6:BR H5 (upd H5 l4<|.lst (v4++[v])):=λb ys e=>by rw[bR (jg e (g5.1 _ _ m4 Zy)<|by intro z;cases z)];exact e
 have a6:∀x∈v4++[v],Hu (upd H5 l4<|.lst (v4++[v])) x:=λx hx=>by
  rcases aeu.mp hx with z|z
  ·exact((a4 x z).tps<|iR g4.ok g5).tps tp6
  ·rw[aec]at z;subst z;exact t5.tps tp6
 have l7:(v4++[v]).length=7:=by rw[adV,ln4];rfl
 revert g6 tY a6;generalize upd H5 l4 (.lst<|v4++[v])=H6;intro g6 tY a6;have fin:∀(j:Nat) H7,j<7->jB tl st H6 H7->(Fv (CK K) (λU H Q=>Q (.ref l4) H) λU H Q=>Q (.int (j:Int)) H) [] H7 λv H'=>Q v H':=λj H7 hj g7=>by
  have lj:j<(v4++[v]).length:=by omega
  exact⟨l4,_,_,_,rfl,rfl,dM.of<|g7.1 _ _ m4 tY,cI (j:=j)<|adX lj,q _ H7 ((a6 _<|afg lj).tps<|iR g6.ok g7)<|g6.trans g7⟩
 have fw:∀H7,jB tl st H6 H7->_:=λH7 g7=>fin wy H7 (by omega) g7;refine⟨_,rfl,rfl,_,rfl,gU (λc=>?_) λc=>?_⟩
 ·refine⟨_,rfl,tl,st,2,rfl,g6.ok,by decide,by decide,λe H7 e0 e1 g7=>⟨rfl,_,rfl,gU (λc2=>?_) λc2=>?_⟩⟩
  ·exact⟨_,rfl,fin 0 H7 (by decide) g7⟩
  ·exact⟨_,rfl,_,rfl,fw H7 g7⟩
 ·exact lU ⟨_,rfl,_,rfl,fw H6<|jB.refl g6.ok⟩
end
inductive JK (vs:List V)(H:Hp)(Q:VK)(E_:XK):Prop where
 |mk (tl:List V) (st:aj):vs=[.ref st]->lX tl H st->(∀v o H',Mi o->TL 0 H' v (λn=>BZ n o)->jB tl st H H'->Q v H')->JK vs H Q E_
theorem aap:Fr 0 []:=⟨aeZ,by simp,by simp,by simp,λj h=>absurd h<|ae8 _⟩
def Hv:Th->Prop
 |.b0=>True
 |_=>False
theorem VN {n:Nat}{a b:Th}(h:Hv a):Fg n a b=.block 5 [kO n b]:=by cases a<;>first|rfl|exact h.elim
theorem VP {n:Nat}{a b:Th}(h:¬Hv a):Fg n a b=kO n a:=by cases a<;>first|rfl|exact absurd trivial h
theorem Rv {H:Hp}{v:V}{a:Th}(h:TL 0 H v (λn=>kO n a)):∃(r:aj) (xs:List V) (hd:Str),v=.ref r/\H r=some (.tup xs)/\xs[0]?=some (.str hd)/\((hd≠"block"/\¬Hv a)\/(hd="block"/\∃(t:aj) (vs:List V),xs[2]?=some (.ref t)/\H t=some (.tup vs)/\((vs.length=0/\Hv a)\/(vs.length≠0/\¬Hv a)))):=by
 have h0:=h [] aap;cases a with
 |num i=>cases h0 with
  |n e=>exact⟨_,_,_,rfl,e,rfl, .inl ⟨by decide+kernel,λz=>z⟩⟩
 |idf=>cases h0 with
  |fn e=>exact⟨_,_,_,rfl,e,rfl, .inl ⟨by decide+kernel,λz=>z⟩⟩
 |great=>cases h0 with
  |op e=>exact⟨_,_,_,rfl,e,rfl, .inl ⟨by decide+kernel,λz=>z⟩⟩
 |inc i=>cases h0 with
  |call e=>exact⟨_,_,_,rfl,e,rfl, .inl ⟨by decide+kernel,λz=>z⟩⟩
 |b0=>cases h0 with
  |block e e2 ts=>exact⟨_,_,_,rfl,e,rfl, .inr ⟨rfl,_,_,rfl,e2, .inl ⟨ts.len,trivial⟩⟩⟩
 |b1=>cases h0 with
  |block e e2 ts=>exact⟨_,_,_,rfl,e,rfl, .inr ⟨rfl,_,_,rfl,e2, .inr ⟨(by rw[ts.len];exact λz=>(by cases z)),λz=>z⟩⟩⟩
 |b2 k=>cases h0 with
  |block e e2 ts=>exact⟨_,_,_,rfl,e,rfl, .inr ⟨rfl,_,_,rfl,e2, .inr ⟨(by rw[ts.len];exact λz=>(by cases z)),λz=>z⟩⟩⟩
def tO6:TE:=λU H Q=>∃(r:aj) (xs:List V) (hd:Str),U[2]?=some (some<|.ref r)/\H r=some (.tup xs)/\xs[0]?=some (.str hd)/\((hd≠"block"/\Q (.int 0) H)\/(hd="block"/\∃(t:aj) (vs:List V),xs[2]?=some (.ref t)/\H t=some (.tup vs)/\((vs.length=0/\Q (.int 1) H)\/(vs.length≠0/\Q (.int 0) H))))
def abU:TE:=λU H Q=>∃v3,U[3]?=some (some v3)/\∀(t:aj) (vs:List V) H',Same H H'->H' t=some (.tup vs)->(∀ns T,Fr 0 ns->jM H ns v3 T->qw H' ns [0,1,2] vs [T, .v ns.length, .op 0 (.v ns.length) (.v<|ns.length+1)])->Q (.ref t) H'
theorem abV:("u":Str)≠"w":=by decide+kernel
section
variable {X:Cx}
theorem abW {c:aH}{a:aP aJ}{pos:Pos}{tc:TT}{t:TS}(hc:PT X c tc)(ha:zV X a t):BP X (.If c a [] pos) (dh tc t fH):=⟨dz hc ha.h cN⟩
theorem aaq {x:Str}{j1 j2 j3 j4 j5 j6 j7 j8 j9 j10 x1 x2 x3 x4 x5 x6 x7 x8 x9 x10 x11}{p1 p2 p3 p4 p5 p6 p7 p8 p9 Mz VF Mv p13 Xo p15 p16 p17 p18 p19 p20 p21 p22:Pos}(h3:jL X (.Name x p1) (jr 3)):
  jL X (.Tuple [.Tuple [.Tuple [] x1 p2, .Name x p1] x2 p3, .Tuple [.Tuple [.Constant (.str "u") j1 p4] x3 p5, .Tuple [.Constant (.str "v") j2 p6, .Constant (.str "u") j3 p7] x4 p8] x5 p9,
   .Tuple [.Tuple [.Constant (.str "u") j4 Mz, .Constant (.str "w") j5 VF] x6 Mv, .Tuple [.Constant (.str "plus") j6 p13, .Tuple [.Constant (.str "v") j7 Xo, .Constant (.str "u") j8 p15] x7 p16, .Tuple [.Constant (.str "v") j9 p17, .Constant (.str "w") j10 p18] x8 p19] x9 p20] x10 p21] x11 p22) abU :=
 qy (cZ<|mG (cZ<|mG (cZ cU) (x_n h3 cU)) (mG (cZ<|mG (cZ<|cY cU) (mG (cZ<|cY (cY cU)) cU))<|mG (cZ<|mG (cZ<|cY (cY cU)) (mG (cZ<|cY (mG (cZ<|cY (cY cU))<|mG (cZ<|cY (cY cU)) cU)) cU)) cU)) λU H Q ⟨v3,e3,q⟩=>
  ⟨dO 0,λq1 h1=>⟨v3,e3,dO 2,λq2 h2=>⟨dO 1,λq3 h3=>⟨dO 2,λq4 h4=>⟨dO 2,λq5 h5=>⟨dO 2,λq6 h6=>⟨dO 2,λq7 h7=>⟨dO 2,λq8 h8=>⟨dO 3,λq9 h9=>⟨dO 2,λq10 h10=>⟨dO 3,λq11 h11=>by
   have QW:=bI h11 (.tup [.ref q2, .ref q5, .ref q10]);have zu:=(bI h10<|.tup [.ref q6, .ref q9]).trans QW;have s9:=(bI h9<|.tup [.str "plus", .ref q7, .ref q8]).trans zu;have s8:=(bI h8<|.tup [.str "v", .str "w"]).trans s9;have s7:=(bI h7<|.tup [.str "v", .str "u"]).trans s8;have s6:=(bI h6<|.tup [.str "u", .str "w"]).trans s7;have s5:=(bI h5<|.tup [.ref q3, .ref q4]).trans s6;have s4:=(bI h4<|.tup [.str "v", .str "u"]).trans s5;have s3:=(bI h3<|.tup [.str "u"]).trans s4;have s2:=(bI h2<|.tup [.ref q1,v3]).trans s3;have s1:=(bI h1<|.tup []).trans s2;refine q q11 _ _ s1 bA λns T f t=>?_;have nu:=oA f.1 f.2.2.1;have nw:(ns++(["u","w"]:aP Str)).Nodup:=by
    have:((ns++(["u"]:aP Str))++(["w"]:aP Str)).Nodup:=oA nu (λz=>by
     rcases aeu.mp z with z|z
     ·exact f.2.2.2.1 z
     ·rw[aec]at z;exact abV z.symm)
    rwa [ad8]at this
   refine .cons (ss:=[]) (s3 _ _ bA) (s2 _ _ bA) (by rw[aep];exact f.1) (by rw[aep];exact t.same s1)<|.cons (ss:=["u"]) (s6 _ _ bA) (s4 _ _ bA) nu (Vz<|s5 _ _ bA) (.cons (ss:=["u","w"]) (QW _ _ bA) (s7 _ _ bA) nw ?_ .nil);refine .op (k:=0) (zu _ _ bA) (.v (by rw[wQ (s:="u") (by simp)];exact s8 _ _ bA)<|by simp) (.v (by rw[wQ (s:="w") (by simp)];exact s9 _ _ bA)<|by simp)⟩⟩⟩⟩⟩⟩⟩⟩⟩⟩⟩
end
section
abbrev uy:aJ:=top 67
noncomputable abbrev nOd:List Str:=["_law_state","_law_way","_law_left","_law_right","_law_arms"]
theorem xP:bZ nOd ["_law_state"] (bQ uy):={}
theorem aar:∀k:Nat,k<4->([.str "plus", .str "minus", .str "times", .str "less"]:aP V)[k]?=some (.str<|wordOf k):=λk h=>by
 have:k=0\/k=1\/k=2\/k=3:=by omega
 rcases this with rfl|rfl|rfl|rfl<;>rfl
@[irreducible] def V0:aJ:=(cT uy).getD 6 (.Pass ⟨0,0,0,0⟩)
theorem abX:cT uy=(cT uy).take 6++V0::(cT uy).drop 7:=by
 unfold V0
 rfl
theorem abY {dF:ak}{A:aq}{aU:aP Env}{s:ao}{H:Hp}{E:XK}(mI:mg "int"=none)(ml:mg "len"=none):BP ((dX jV P w K mg aV nOd "_law_odd" (bQ uy) f dF A aU s H E).JW) V0
  (dh (HW<|Fv rEq (jr 1) (tC<|.int 6)) (XD<|Kd (gQ (tC<|.str "field")<|gQ (tC<|.int 0) (gQ (Fv (CK K) (Yc<|gQ (jr 2) (gQ (Kd<|gQ (tC<|.str "block") (gQ (tC<|.int 5)<|gQ (Kd<|gQ (jr 3) tE) tE)) tE)) tO6) tE))) fH):=by
 unfold V0;exact abW (cH eG (pv 1) bK) (oN (Dr (cZ (cY (mq (x_s (Yv (yc K) (vU<|x_n (jF 2) (mG (cZ<|cY (mq<|mG (cZ<|x_n (jF 3) cU) cU)) cU))
    (qy (t':=tO6) ⟨eU pW rfl mI boot_int (bx (M9 (rE eG (bY (fG K) (pv 2) bK) bV)<|M8 (rE eG (cu (mV K) rfl ml af6 (bx (bY (fG K) (pv 2) bK) bH)) bK)) bH)⟩ (λU H Q ⟨r,xs,hd,e2,hr,hx0,sh⟩=>by
     refine cV (a:=r) (j:=0) e2 hr hx0 ⟨rfl,_,rfl,gU (λcb=>?_) λcb=>.inr ⟨false,rfl,?_⟩⟩
     ·rcases sh with ⟨nb,_⟩|⟨_,t,vs,hx2,ht,sz⟩
      ·exact absurd (V.str.inj<|afZ cb) nb
      refine cV (a:=r) (j:=2) e2 hr hx2 ⟨t,vs,rfl, .inr<|iW.of ht,rfl,?_⟩;rcases sz with ⟨l0,q⟩|⟨l0,q⟩
      ·rw[l0];exact .inr ⟨true,rfl,q⟩
      ·have:decide (V.int (vs.length:Int)=V.int 0)=false:=afW λz=>l0 (by have:=V.int.inj z;omega)
       rw[this];exact .inr ⟨false,rfl,q⟩
     ·rcases sh with ⟨_,q⟩|⟨e,_⟩
      ·exact q
      ·exact absurd (af0<|congrArg V.str e) cb)) (λ_ _=>rfl)) cU))))))
set_option maxHeartbeats 4000000 in
theorem aas (F:iz K "_law_odd" "_law_odd" uy f fd)(mI:mg "int"=none)(ml:mg "len"=none)(h1:Has P w K mg aV 1 "_law_next" ["_law_state","_law_many"] kJ)(h2:Has P w K mg aV 2 "_law_thing" ["_law_state"] Bv):cP P w K mg aV jV 3 f fd ["_law_state"] JK:=by
 refine F.ok xP λdF A aU s H vs Q E hr h=>?_;obtain⟨tl,st,rfl,ok,q⟩:=h;rw[abX];refine⟨_,bJ (iy 1 xP.nd (dG h1 hr (by decide) rfl (bx (pv 0)<|bx bK bH)))
  (bJ (iy 2 xP.nd (dG h2 hr (by decide) rfl (bx (pv 0) bH)))
  (bJ (iy 3 xP.nd (dG h2 hr (by decide) rfl (bx (pv 0) bH)))
  (bJ (dz (cH vH (pv 1) bK) (bO (Dr<|cZ (x_s (Yv (yc K) (vU<|cY (cY<|cY (cY cU))) (jF 1) λ_ _=>rfl)<|x_n (jF 2) (x_n (jF 3) cU))).h) cN)
  (bJ (dz (cH eG (pv 1) bK) (bO (Dr<|cZ (cY<|x_n (jF 2) (x_n (jF 3) cU))).h) cN)
  (bJ (dz (cH eG (pv 1) bK) (bO (Dr<|cZ (cY<|x_n (jF 2) (x_n (jF 3)<|mG (VD (k:=0)) cU))).h) cN)
  (bJ (abY mI ml).h
  (bJ (dz (cH eG (pv 1) bK) (bJ (pF (i:=4) (x:="_law_arms") xP.nd rfl (Or.inl rfl) (aaq<|jF 3) jx (.inl rfl)).h<|bO (Dr<|cZ (cY<|x_n (jF 2) (x_n (jF 4) cU))).h) cN)
  (bO<|cQ (pv 2))))))))),?_⟩
 refine⟨_,rfl,tl,st,9,rfl,ok,by decide,by decide,λwy H1 w0 w1 g1=>?_⟩;obtain⟨wy,rfl⟩:∃e:Nat,wy=(e:Int):=⟨wy.toNat,by omega⟩;refine⟨_,rfl,tl,st,rfl,g1.ok,λu H2 ⟨a,oa,ta⟩ g2=>?_⟩;refine⟨_,rfl,tl,st,rfl,g2.ok,λv H3 ⟨b,ob,tb⟩ g3=>?_⟩;have g03:=g1.trans (g2.trans g3);have ta3:=ta.tps (iR g2.ok g3);have fin:∀o x H4,Mi o->Same H3 H4->TL 0 H4 x (λn=>BZ n o)->Q x H4:=λo x H4 h s4 t=>q x o H4 h t (g03.trans<|eV g03.ok s4);refine⟨_,rfl,_,_,rfl,rfl,_,rfl,gU (λc=>?_) λc=>?_⟩
 ·have lw:wy<4:=by have:=afZ c;omega
  refine⟨dO 4,λl hl=>⟨_,rfl,l,_,_,_,rfl,rfl,dM.of bA,cI (j:=wy)<|aar wy lw,_,rfl,_,rfl,dO 3,λp hp=>?_⟩⟩;have s4:=(bI hl<|.lst [.str "plus", .str "minus", .str "times", .str "less"]).trans (bI hp<|.tup [.str (wordOf wy),u,v]);exact fin (.op wy a b) _ _ ⟨by omega,oa,ob⟩ s4 λns f=>.op bA ((ta3 ns f).same s4) ((tb ns f).same s4)
 refine⟨_,rfl,rfl,_,rfl,gU (λc=>?_) λc=>?_⟩
 ·refine⟨_,rfl,_,rfl,dO 3,λp hp=>?_⟩
  have s4:=bI hp (.tup [.str "call",u,v]);exact fin (.call a b) _ _ ⟨oa,ob⟩ s4 λns f=>.call bA ((ta3 ns f).same s4) ((tb ns f).same s4)
 refine⟨_,rfl,rfl,_,rfl,gU (λc=>?_) λc=>?_⟩
 ·refine⟨_,rfl,_,rfl,λx H4 s4 t4=>⟨dO 4,λp hp=>?_⟩⟩
  have s5:=bI hp (.tup [.str "if",u,v,x]);exact fin (.lW a b) _ _ ⟨oa,ob⟩ (s4.trans s5) λns f=>.lW bA ((ta3 ns f).same<|s4.trans s5) ((tb ns f).same<|s4.trans s5) ((t4 ns f).same s5)
 refine⟨_,rfl,rfl,_,rfl,gU (λc=>?_) λc=>?_⟩
 ·obtain⟨r,xs,hd,rfl,hr3,hx0,sh⟩:=Rv ta3
  refine⟨_,rfl,_,rfl,dO 1,λp hp=>⟨dO 3,λp2 hp2=>⟨dO 2,λl hl=>?_⟩⟩⟩;have s4:=bI hp (.tup [v]);have s5:=bI hp2 (.tup [.str "block", .int 5, .ref p]);have s6:=bI hl (.lst [.ref r, .ref p2]);have G5:=s4.trans (s5.trans s6);have tY:(upd (upd (upd H3 p<|.tup [v]) p2<|.tup [.str "block", .int 5, .ref p]) l<|.lst [.ref r, .ref p2]) l=some (.lst [.ref r, .ref p2]):=bA;have hb6:∀ns,Fr 0 ns->jM (upd (upd (upd H3 p<|.tup [v]) p2<|.tup [.str "block", .int 5, .ref p]) l<|.lst [.ref r, .ref p2]) ns (.ref p2) (.block 5 [kO ns.length b]):=λns f=>.block (s6 _ _ bA) (s6 _ _<|s5 _ _ bA) (.cons ((tb ns f).same G5) .nil);revert G5 tY hb6;generalize upd (upd (upd H3 p<|.tup [v]) p2<|.tup [.str "block", .int 5, .ref p]) l (.lst [.ref r, .ref p2])=H6;intro G5 tY hb6;have g0:¬Hv a->Fv (CK K) (λU H Q=>Q (.ref l) H) (λU H Q=>Q (.int ((0:Nat):Int)) H) [] H6 (λx H=>HX Q [.str "field", .int 0,x] H):=λnb=>⟨l,_,_,_,rfl,rfl,dM.of tY,cI (j:=0) rfl,dO 3,λp4 Uu=>by
   have s7:=bI Uu (.tup [.str "field", .int 0, .ref r]);exact fin (.fld a b) _ _ ⟨oa,ob⟩ (G5.trans s7) λns f=>.field (j:=0) bA<|by rw[VP nb];exact(ta3 ns f).same<|G5.trans s7⟩
  have g1:Hv a->Fv (CK K) (λU H Q=>Q (.ref l) H) (λU H Q=>Q (.int ((1:Nat):Int)) H) [] H6 (λx H=>HX Q [.str "field", .int 0,x] H):=λnb=>⟨l,_,_,_,rfl,rfl,dM.of tY,cI (j:=1) rfl,dO 3,λp4 Uu=>by
   have s7:=bI Uu (.tup [.str "field", .int 0, .ref p2]);exact fin (.fld a b) _ _ ⟨oa,ob⟩ (G5.trans s7) λns f=>.field (j:=0) bA<|by rw[VN nb];exact(hb6 ns f).same s7⟩
  refine⟨r,xs,hd,rfl,G5 _ _ hr3,hx0,?_⟩;rcases sh with ⟨nb,b0⟩|⟨eb,t,vs,hx2,ht,sz⟩
  ·exact .inl ⟨nb,g0 b0⟩
  ·refine .inr ⟨eb,t,vs,hx2,G5 _ _ ht,?_⟩
   rcases sz with ⟨l0,b0⟩|⟨l0,b0⟩
   ·exact .inl ⟨l0,g1 b0⟩
   ·exact .inr ⟨l0,g0 b0⟩
 refine⟨_,rfl,rfl,_,rfl,gU (λc=>?_) λc=>?_⟩
 ·refine⟨_,rfl,λt vs H4 s4 ht tm=>⟨_,rfl,_,rfl,dO 3,λp hp=>?_⟩⟩
  have s5:=bI hp (.tup [.str "case",u, .ref t]);exact fin (.cs a b) _ _ ⟨oa,ob⟩ (s4.trans s5) λns f=>.case bA (s5 _ _ ht) ((ta3 ns f).same<|s4.trans s5) ((tm ns _ f<|tb ns f).tps λb ys h=>s5 b _ h)
 ·exact⟨_,rfl,fin (.self a) _ _ oa (Same.refl _) ta3⟩
end
inductive Bw (vs:List V)(H:Hp)(Q:VK)(E_:XK):Prop where
 |mk (tl:List V) (st:aj) (v:V) (o:Od):vs=[.ref st,v]->lX tl H st->Mi o->TL 0 H v (λn=>BZ n o)->(∀x k w H',k<=3->sU k w->TL k H' x (lH w)->jB tl st H H'->Q x H')->Bw vs H Q E_
theorem abZ:∀j:Nat,j<=2->zN j≠"y"/\zN j≠"u"/\zN j≠"w"/\∀i:Nat,i<j->zN i≠zN j:=by
 intro j h;have:j=0\/j=1\/j=2:=by omega
 rcases this with rfl|rfl|rfl
 ·exact⟨by decide+kernel,by decide+kernel,by decide+kernel,λi h=>absurd h<|ae8 _⟩
 ·refine⟨by decide+kernel,by decide+kernel,by decide+kernel,λi h=>?_⟩
  obtain rfl:i=0:=by omega
  decide+kernel
 ·refine⟨by decide+kernel,by decide+kernel,by decide+kernel,λi h=>?_⟩
  have:i=0\/i=1:=by omega
  rcases this with rfl|rfl<;>decide+kernel
theorem Fr.less {j:Nat}{ns:aP Str}(f:Fr (j+1) ns):Fr j ns:=⟨f.1,f.2.1,f.2.2.1,f.2.2.2.1,λi h=>f.2.2.2.2 i<|afC h⟩
theorem Fr.new {j:Nat}{ns:aP Str}(f:Fr (j+1) ns):(ns++[zN j]).Nodup:=oA f.1 (f.2.2.2.2 j<|aey j)
theorem vm {ns:aP Str}{s z:Str}(h:s∉ns)(n:z≠s):s∉ns++[z]:=λm=>by
 rcases aeu.mp m with m|m
 ·exact h m
 ·rw[aec]at m;exact n m.symm
theorem Fr.more {j:Nat}{ns:aP Str}(f:Fr (j+1) ns)(h:j<=2):Fr j (ns++[zN j]):=by
 obtain⟨a,b,c,d⟩:=abZ j h;exact⟨f.new,vm f.2.1 a,vm f.2.2.1 b,vm f.2.2.2.1 c,λi hi=>vm (f.2.2.2.2 i<|afC hi)<|af2 (d i hi)⟩
theorem TL.under {j:Nat}{H:Hp}{v:V}{T:Nat->Tm}(t:TL j H v T)(h:j<=2){ns:aP Str}(f:Fr (j+1) ns):jM H (ns++[zN j]) v (T<|ns.length+1):=by
 have:=t _ (f.more h);rw[adV]at this;exact this
def tWr (mk:Wi->Wi):TE:=λU H Q=>∃(j:Nat) (v:V) (w:Wi),U[1]?=some (some v)/\U[3]?=some (some<|.str (zN j))/\j<=2/\TL j H v (lH w)/\∀x H',Same H H'->TL (j+1) H' x (lH<|mk w)->Q x H'
def tW3:TE:=λU H Q=>∃(st:aj) (tl:List V) (j:Nat) (v:V) (w:Wi),U[0]?=some (some<|.ref st)/\lX tl H st/\U[1]?=some (some v)/\j<=2/\TL j H v (lH w)/\∀x (i:Int) H',0<=i->i<2->jB tl st H H'->TL (j+1) H' x (lH<|.lW i w)->Q x H'
section
variable {X:Cx}{nt nn:Str}
theorem Fi {c:aH}{a b:aP aJ}{pos:Pos}{tc:TT}{t u:TS}(hc:PT X c tc)(ha:zV X a t)(hb:zV X b u):BP X (.If c a b pos) (dh tc t u):=⟨dz hc ha.h hb.h⟩
theorem adE {j1 j2 j3 x1 x2}{p1 p2 p3 p4 p5 p6 p7:Pos}(ht:jL X (.Name nt p1) (jr 1))(hn:jL X (.Name nn p2) (jr 3)):jL X (.Tuple [.Constant (.str "let") j1 p3, .Name nn p2, .Name nt p1, .Tuple [.Constant (.str "n") j2 p4, .Constant (.int 3) j3 p5] x1 p6] x2 p7) (tWr .lt) :=
 qy (cZ<|cY (x_n hn<|x_n ht (mG (cZ<|cY (mq cU)) cU))) λU H Q ⟨j,v,w,e1,e3,hj,t,q⟩=>⟨_,e3,_,e1,dO 2,λp hp=>⟨dO 4,λr hr=>by
  have s:=(bI hp<|.tup [.str "n", .int 3]).trans (bI hr<|.tup [.str "let", .str<|zN j,v, .ref p]);exact q _ _ s λns f=>.lt bA f.new ((t ns f.less).same s)<|.n (bI hr _ _ _ bA)⟩⟩
theorem adF {j1 j2 j3 x1 x2}{p1 p3 p4 p5 p6 p7:Pos}(ht:jL X (.Name nt p1) (jr 1)):jL X (.Tuple [.Constant (.str "plus") j1 p3, .Tuple [.Constant (.str "n") j2 p4, .Constant (.int 2) j3 p5] x1 p6, .Name nt p1] x2 p7) (tWr .plus) :=
 qy (cZ<|cY (mG (cZ<|cY (mq cU))<|x_n ht cU)) λU H Q ⟨j,v,w,e1,e3,hj,t,q⟩=>⟨dO 2,λp hp=>⟨_,e1,dO 3,λr hr=>by
  have s:=(bI hp<|.tup [.str "n", .int 2]).trans (bI hr<|.tup [.str "plus", .ref p,v]);exact q _ _ s λns f=>.op (k:=0) bA (.n<|bI hr _ _ _ bA)<|(t ns f.less).same s⟩⟩
theorem adG {j1 j2 j3 j4 x1 x2 x3}{p1 p2 p3 p4 p5 p6 p7 p8 p9:Pos}(ht:jL X (.Name nt p1) (jr 1))(hn:jL X (.Name nn p2) (jr 3)):jL X (.Tuple [.Constant (.str "call") j1 p3, .Tuple [.Constant (.str "fun") j4 p8, .Name nn p2, .Name nt p1] x3 p9, .Tuple [.Constant (.str "n") j2 p4, .Constant (.int 1) j3 p5] x1 p6] x2 p7) (tWr .call) :=
 qy (cZ<|cY (mG (cZ<|cY (x_n hn<|x_n ht cU))<|mG (cZ<|cY (mq cU)) cU)) λU H Q ⟨j,v,w,e1,e3,hj,t,q⟩=>⟨_,e3,_,e1,dO 3,λp hp=>⟨dO 2,λo ho=>⟨dO 3,λr hr=>by
  have s:=(bI hp<|.tup [.str "fun", .str<|zN j,v]).trans ((bI ho<|.tup [.str "n", .int 1]).trans<|bI hr (.tup [.str "call", .ref p, .ref o]));exact q _ _ s λns f=>.call bA (.fn (bI hr _ _ _<|bI ho _ _ _ bA) f.new<|(t.under hj f).same s)<|.n (bI hr _ _ _ bA)⟩⟩⟩
theorem adH {j1 j2 j3 j4 j5 j6 x1 x2 x3 x4 x5}{p1 p2 p3 p4 p5 p6 p7 p8 p9 Mz VF Mv p13 Xo:Pos}(ht:jL X (.Name nt p1) (jr 1))(hn:jL X (.Name nn p2) (jr 3))(hn2:jL X (.Name nn Xo) (jr 3)):jL X (.Tuple [.Constant (.str "less") j1 p3, .Name nt p1, .Tuple [.Constant (.str "call") j5 VF, .Tuple [.Constant (.str "fun") j4 p8, .Name nn p2, .Tuple [.Constant (.str "v") j6 Mv, .Name nn Xo] x5 p13] x3 p9, .Tuple [.Constant (.str "n") j2 p4, .Constant (.int 6) j3 p5] x1 p6] x4 Mz] x2 p7) (tWr .less) :=
 qy (cZ<|cY (x_n ht<|mG (cZ<|cY (mG (cZ<|cY (x_n hn<|mG (cZ<|cY (x_n hn2 cU)) cU))<|mG (cZ<|cY (mq cU)) cU)) cU)) λU H Q ⟨j,v,w,e1,e3,hj,t,q⟩=>⟨_,e1,_,e3,_,e3,dO 2,λp hp=>⟨dO 3,λo ho=>⟨dO 2,λc hc=>⟨dO 3,λr hr=>⟨dO 3,λd hd=>by
  have sd:=bI hd (.tup [.str "less",v, .ref r]);have sr:=(bI hr<|.tup [.str "call", .ref o, .ref c]).trans sd;have sc:=(bI hc<|.tup [.str "n", .int 6]).trans sr;have so:=(bI ho<|.tup [.str "fun", .str<|zN j, .ref p]).trans sc;have s:=(bI hp<|.tup [.str "v", .str (zN j)]).trans so;exact q _ _ s λns f=>.op (k:=3) bA ((t ns f.less).same s)<|.call (sd _ _ bA) (.fn (sc _ _ bA) f.new<|Vz (so _ _ bA)) (.n<|sr _ _ bA)⟩⟩⟩⟩⟩
theorem adI {j1 j2 j3 j4 x1 x2 x3}{p1 p2 p3 p4 p5 p6 p7 p8 p9 Mz:Pos}(ht:jL X (.Name nt p1) (jr 1))(hn:jL X (.Name nn p2) (jr 3))(hn2:jL X (.Name nn Mz) (jr 3)):jL X (.Tuple [.Constant (.str "let") j1 p3, .Name nn Mz, .Tuple [.Constant (.str "fun") j4 p8, .Name nn p2, .Name nt p1] x3 p9, .Tuple [.Constant (.str "n") j2 p4, .Constant (.int 8) j3 p5] x1 p6] x2 p7) (tWr .ltf) :=
 qy (cZ<|cY (x_n hn2<|mG (cZ<|cY (x_n hn<|x_n ht cU)) (mG (cZ<|cY (mq cU)) cU))) λU H Q ⟨j,v,w,e1,e3,hj,t,q⟩=>⟨_,e3,_,e3,_,e1,dO 3,λp hp=>⟨dO 2,λo ho=>⟨dO 4,λr hr=>by
  have s:=(bI hp<|.tup [.str "fun", .str<|zN j,v]).trans ((bI ho<|.tup [.str "n", .int 8]).trans<|bI hr (.tup [.str "let", .str<|zN j, .ref p, .ref o]));exact q _ _ s λns f=>.lt bA f.new (.fn (bI hr _ _ _<|bI ho _ _ _ bA) f.new<|(t.under hj f).same s)<|.n (bI hr _ _ _ bA)⟩⟩⟩
theorem adJ {g:aH}{es:aP aH}{ks:aP Keyword}{j1 j2 j3 j4 x1 x2 x3}{p1 p2 p3 p4 p5 p6 p7 p8 p9:Pos}(ht:jL X (.Name nt p1) (jr 1))(hc:jL X (.Call g es ks p2) (VB 2)):jL X (.Tuple [.Constant (.str "if") j1 p3, .Tuple [.Constant (.str "n") j2 p4, .Call g es ks p2] x1 p5, .Name nt p1, .Tuple [.Constant (.str "n") j3 p6, .Constant (.int 9) j4 p7] x2 p8] x3 p9) tW3 :=
 qy (cZ (cY (mG (aao hc (by decide)<|by decide)<|x_n ht (mG (cZ<|cY (mq cU)) cU)))) λU H Q ⟨st,tl,j,v,w,e0,ok,e1,hj,t,q⟩=>⟨st,tl,e0,ok,λi a H1 i0 i1 g1 t1=>⟨_,e1,dO 2,λo ho=>⟨dO 4,λr hr=>by
  have s:=(bI ho<|.tup [.str "n", .int 9]).trans (bI hr<|.tup [.str "if",a,v, .ref o]);refine q _ i _ i0 i1 (g1.trans<|eV g1.ok s) λns f=>.lW bA ?_ (((t ns f.less).tps<|iR ok g1).same s) (.n<|bI hr _ _ _ bA);have f0:Fr 0 ns:=⟨f.1,f.2.1,f.2.2.1,f.2.2.2.1,λi h=>absurd h<|ae8 _⟩;exact(t1 ns f0).same s⟩⟩⟩
end
section
abbrev uc:aJ:=top 68
noncomputable abbrev nWi:List Str:=["_law_state","_law_term","_law_k","_law_name","_law_way"]
theorem jR:bZ nWi ["_law_state","_law_term"] (bQ uc):={}
def adK:List aJ:=match(cT uc).getD 0 (.Pass ⟨0,0,0,0⟩) with|.For _ _ b _ _=>b|_=>[]
def tW2:TS:=λD U H=>∃(st:aj) (tl:List V) (v:V) (k wy:Nat) (w:Wi),U=[some (.ref st),some v,some<|.int (k:Int),some<|.str (zN k),some (.int (wy:Int))]/\lX tl H st/\k<=2/\wy<6/\sU k w/\TL k H v (lH w)/\
 ∀x w' H',jB tl st H H'->sU (k+1) w'->TL (k+1) H' x (lH w')->D.nx [some (.ref st),some x,some<|.int (k:Int),some<|.str (zN k),some (.int (wy:Int))] H'
set_option maxHeartbeats 4000000 in
theorem ab0 {dF:ak}{A:aq}{aU:aP Env}{s:ao}{H:Hp}{E:XK}(hr:gA 1 (A.deeper<|envOfC "_law_within" (bQ uc) s.heap.objs.size f dF))(h1:Has P w K mg aV 1 "_law_next" ["_law_state","_law_many"] kJ):BP ((dX jV P w K mg aV nWi "_law_within" (bQ uc) f dF A aU s H E).JW) (adK.getD 2<|.Pass ⟨0,0,0,0⟩) tW2:=by
 refine qP (Fi (cH eG (pv 4) bK) (oN<|pF (i:=1) (x:="_law_term") jR.nd rfl (Or.inl rfl) (adE (jF 1)<|jF 3) jx (.inl rfl))
  (oN (Fi (cH eG (pv 4) bK) (oN<|pF (i:=1) (x:="_law_term") jR.nd rfl (Or.inl rfl) (adF<|jF 1) jx (.inl rfl))
  (oN (Fi (cH eG (pv 4) bK) (oN<|pF (i:=1) (x:="_law_term") jR.nd rfl (Or.inl rfl) (adG (jF 1)<|jF 3) jx (.inl rfl))
  (oN (Fi (cH eG (pv 4) bK) (oN (pF (i:=1) (x:="_law_term") jR.nd rfl (Or.inl rfl) (adJ (jF 1) ⟨dG h1 hr (by decide) rfl (bx (pv 0)<|bx bK bH)⟩) jx (.inl rfl)))
  (oN (Fi (cH eG (pv 4) bK) (oN<|pF (i:=1) (x:="_law_term") jR.nd rfl (Or.inl rfl) (adH (jF 1) (jF 3)<|jF 3) jx (.inl rfl))
   (oN<|pF (i:=1) (x:="_law_term") jR.nd rfl (Or.inl rfl) (adI (jF 1) (jF 3)<|jF 3) jx (.inl rfl))))))))))) ?_
 rintro D U H ⟨st,tl,v,k,wy,w,rfl,ok,hk,hw,wo,t,q⟩;have fin:∀(mk:Wi->Wi),sU (k+1) (mk w)->tWr mk [some (.ref st),some v,some<|.int (k:Int),some<|.str (zN k),some (.int (wy:Int))] H λx H'=>D.nx [some (.ref st),some x,some<|.int (k:Int),some<|.str (zN k),some (.int (wy:Int))] H':=λmk hm=>⟨k,v,w,rfl,rfl,hk,t,λx H' s' t'=>q x (mk w) H' (eV ok s') hm t'⟩;refine⟨_,rfl,rfl,_,rfl,gU (λc=>fin .lt wo) λc=>?_⟩;refine⟨_,rfl,rfl,_,rfl,gU (λc=>fin .plus wo) λc=>?_⟩;refine⟨_,rfl,rfl,_,rfl,gU (λc=>fin .call wo) λc=>?_⟩;refine⟨_,rfl,rfl,_,rfl,gU (λc=>?_) λc=>?_⟩
 ·exact⟨st,tl,k,v,w,rfl,ok,rfl,hk,t,λx i H' i0 i1 g t'=>q x (.lW i w) H' g ⟨⟨i0,i1⟩,wo⟩ t'⟩
 refine⟨_,rfl,rfl,_,rfl,gU (λc=>fin .less wo) λc=>fin .ltf wo⟩
set_option maxHeartbeats 2000000 in
theorem V1 (F:iz K "_law_within" "_law_within" uc f fd)(mr:mg "range"=none)(ms:mg "str"=none)(h1:Has P w K mg aV 1 "_law_next" ["_law_state","_law_many"] kJ):cP P w K mg aV jV 2 f fd ["_law_state","_law_term"] Bw:=by
 refine F.ok jR λdF A aU s H vs Q E hr h=>?_;obtain⟨tl,st,v,o,rfl,ok,oo,tv,q⟩:=h;refine⟨_,bJ (oY PassesOwn.never rfl (pU rfl mr (bx (dG h1 hr (by decide) rfl (bx (pv 0)<|bx bK bH)) bH)) (fY (i:=2) jR.nd rfl (Or.inl rfl))
   (bJ (iy 3 jR.nd<|dN Ge bV (eU rG rfl ms boot_str (bx (pv 2) bH)))
   (bJ (iy 4 jR.nd (dG h1 hr (by decide) rfl (bx (pv 0)<|bx bK bH)))<|bO (ab0 hr h1).h)))
  (bO<|cQ (pv 1)),?_⟩
 refine⟨_,rfl,tl,st,4,rfl,ok,by decide,by decide,λd H1 d0 d1 g1=>⟨d,rfl,by omega,by omega,?_⟩⟩;obtain⟨d,rfl⟩:∃e:Nat,d=(e:Int):=⟨d.toNat,by omega⟩;rw[aeL];refine sY (n:=d) (λi U H'=>∃(x:V) (wi:Wi) (o2 o3 o4:aO V),U=[some (.ref st),some x,o2,o3,o4]/\jB tl st H H'/\sU i wi/\TL i H' x (lH wi)) ⟨v, .odd o,_,_,_,rfl,g1,oo,tv.tps<|iR ok g1⟩ ?_ ?_
 ·rintro i U H2 hi ⟨x,wi,o2,o3,o4,rfl,g2,ow,t2⟩
  rw[Int.zero_add];have hi2:i<=2:=by omega
  have hz:=sizeLine_eq;have lz:∀j:Nat,j<=2->(Str.ofString<|toString ((j:Nat):Int)).length<=5:=by decide+kernel
  have lx:=lz i hi2;have ll:(i:Int).natAbs.log2<1920:=by
   have:i=0\/i=1\/i=2:=by omega
   rcases this with rfl|rfl|rfl<;>decide
  refine⟨_,rfl,_,rfl,ll,"z",_,rfl,rfl,(by rw[show("z":Str).length=1 from by decide+kernel];omega),?_⟩;rw[show("z"++(toString ((i:Nat):Int):Str):Str)=zN i from rfl];refine⟨_,rfl,tl,st,6,rfl,g2.ok,by decide,by decide,λwy H3 w0 w1 g3=>?_⟩;obtain⟨wy,rfl⟩:∃e:Nat,wy=(e:Int):=⟨wy.toNat,by omega⟩;exact⟨st,tl,x,i,wy,wi,rfl,g3.ok,hi2,by omega,ow,t2.tps<|iR g2.ok g3,λx' w' H4 g4 ow' t4=>⟨x',w',_,_,_,rfl,g2.trans<|g3.trans g4,ow',t4⟩⟩
 ·rintro U H2 ⟨x,wi,o2,o3,o4,rfl,g2,ow,t2⟩
  exact⟨_,rfl,q x d wi H2 (by omega) ow t2 g2⟩
end
theorem Mj:bootBuiltins "min"=some (.builtin "min"):=by decide+kernel
theorem Ml:bootBuiltins "max"=some (.builtin "max"):=by decide+kernel
theorem Fj (o:Out):X6 (outV o) (outV o)=true:=by cases o<;>rfl
theorem wH.tps {H H':Hp}{jQ:aP V}{aY:aP Rw}(c:wH H jQ aY)(e:BR H H'):wH H' jQ aY:=⟨c.1,λi x h=>by
 obtain⟨a,h1,h2⟩:=c.2 i x h;exact⟨a,h1,h2.tps e⟩⟩
theorem V2 {k:Nat}:Fr k []:=⟨aeZ,by simp,by simp,by simp,λj _=>by simp⟩
inductive Fo (K:aN)(vs:List V)(H:Hp)(Q:VK)(E_:XK):Prop where
 |mk (a:aj) (ns:List Int):vs=[.ref a]->dM K H a (ns.map V.int)->ns.length<=63->(∀H',Q (.bl true) H')->Fo K vs H Q E_
theorem ab1:∀d:Nat,d<4->∃m:Int,([.int 300, .int 0, .int 1, .int 2]:aP V)[d]?=some (.int m):=λd h=>by
 have:d=0\/d=1\/d=2\/d=3:=by omega
 rcases this with rfl|rfl|rfl|rfl<;>exact⟨_,rfl⟩
section
abbrev uz:aJ:=top 69
noncomputable abbrev ab2:List Str:=["_law_script","_law_k","_law_state","_law_term","_law_code_here","_law_most","_law_told_here"]
theorem rm:bZ ab2 ["_law_script"] (bQ uz):={}
@[irreducible] noncomputable def V3:aJ:=(cT uz).getD 0 (.Pass ⟨0,0,0,0⟩)
def ab3:List aJ:=(cT uz).drop 1
theorem ab4:cT uz=V3::ab3:=by
 unfold V3
 rfl
def ab5 (K:aN):TS:=λD U H=>∃(sc:aj) (ns:List Int) (k:Nat) (o2 o3 o4 o5 o6:Option V),U=[some (.ref sc),some<|.int (k:Int),o2,o3,o4,o5,o6]/\k<=1000/\dM K H sc (ns.map V.int)/\∀(q2 q3 q4 q5 q6:Option V) H',Same H H'->D.nx [some (.ref sc),some<|.int (k:Int),q2,q3,q4,q5,q6] H'
def tL0 (K:aN):TS:=λD U H=>∃(sc:aj) (ns:List Int),U=[some (.ref sc),none,none,none,none,none,none]/\dM K H sc (ns.map V.int)/\ns.length<=63/\∀U' H',D.nx U' H'
set_option maxHeartbeats 4000000 in
theorem V4 {dF:ak}{A:aq}{aU:aP Env}{s:ao}{H0:Hp}{E:XK}(hr:gA 62 (A.deeper<|envOfC "law" (bQ uz) s.heap.objs.size f dF))(mr:mg "range"=none)(ml:mg "len"=none)(mm:mg "min"=none)(mM:mg "max"=none)
  (h1:Has P w K mg aV 2 "_law_drawn" ["_law_script","_law_k","_law_salt"] (vf K)) (h2:Has P w K mg aV 3 "_law_odd" ["_law_state"] JK) (h7:Has P w K mg aV 2 "_law_within" ["_law_state","_law_term"] Bw) (h3:Has P w K mg aV 1 "_law_next" ["_law_state","_law_many"] kJ)
  (h4:Has P w K mg aV 25 "_law_code" ["_law_vals","_law_term","_law_about"] Bm) (h5:Has P w K mg aV 62 "_law_due" ["_law_term","_law_most"] JH) (h6:Has P w K mg aV 6 "_law_told" ["_law_code_here","_law_most"] vg):
  BP (dX jV P w K mg aV ab2 "law" (bQ uz) f dF A aU s H0 E).JW V3 (tL0 K):=by
 unfold V3;refine qP (aa' PassesOwn.never rfl (pU rfl mr (bx (cu (J4 rfl) rfl mm Mj (bx (cu (J3 rfl) rfl mM Ml (bx bK<|bx (cu (mV K) rfl ml af6 (bx (pv 0) bH)) bH))<|bx bK bH)) bH)) (fY (i:=1) rm.nd rfl (Or.inl rfl))
   (Ti (t':=ab5 K)
   (vV ⟨oX (i:=2) rm.nd rfl (Or.inl rfl) (dG h1 hr (by decide) rfl (bx (pv 0)<|bx (pv 1) (bx bK bH)))⟩
   (vV ⟨oX (i:=3) rm.nd rfl (Or.inl rfl) (dG h7 hr (by decide) rfl (bx (pv 2) (bx (dG h2 hr (by decide) rfl (bx (pv 2) bH)) bH)))⟩
   (vV ⟨oX (i:=4) rm.nd rfl (Or.inl rfl) (dG h4 hr (by decide) rfl (bx (gJ bH) (bx (pv 3) (bx (dG h3 hr (by decide) rfl (bx (pv 2)<|bx bK bH)) bH))))⟩
   (vV ⟨oX (i:=5) rm.nd rfl (Or.inl rfl) (bY (yc K) (gJ<|bx bK (bx bK<|bx bK (bx bK bH))) (dG h3 hr (by decide) rfl (bx (pv 2)<|bx bK bH)))⟩
   (vV ⟨oX (i:=6) rm.nd rfl (Or.inl rfl) (dG h5 hr (by decide) rfl (bx (pv 3)<|bx (pv 5) bH))⟩
   (oN ⟨dz (PW.pt (Ck (cH Cq (dG h6 hr (by decide) rfl (bx (pv 4)<|bx (pv 5) bH))<|pv 6)
     (vC (cH Cq (dG h6 hr (by decide) rfl (bx (pv 4)<|bx (pv 5) bH))<|pv 6))))
    (bO<|cQ HB) cN⟩)))))) ?qr)) ?_
 case qr=>
  rintro D U H ⟨sc,ns,k,o2,o3,o4,o5,o6,rfl,hk,hs,nxt⟩;refine⟨_,rfl,_,rfl,sc,ns,k,3,rfl,hs,hk,by decide,λst H1 lg ok1 s1=>?_⟩;refine⟨_,rfl,_,rfl,[],st,rfl,ok1,λv o H2 oo to g2=>?_⟩;refine⟨[],st,v,o,rfl,g2.ok,oo,to,λx j wi H3 hj ow tx g3=>?_⟩;refine⟨(dO 0),λlv hlv=>⟨_,rfl,_,rfl,[],st,2,rfl,g3.ok.same<|bI hlv _,by decide,by decide,λd4 H5 c0 c1 g5=>?_⟩⟩;have s4:=bI hlv (.lst []);have b4:(upd H3 lv<|.lst []) lv=some (.lst []):=bA;have n4:lv≠st:=by
   obtain⟨x3,y3,aat⟩:=g3.ok;exact cJ hlv aat
  revert s4 b4 g5;generalize upd H3 lv (.lst [])=H4;intro g5 s4 b4;have tx5:=((tx [] V2).same s4).tps (iR (g3.ok.same s4) g5);have g15:=g2.trans (g3.trans<|(eV g3.ok s4).trans g5);have s5:Same H H5:=λb o h=>g15.1 b o (bU h lg) (s1 b o h);have adL:=g5.1 _ _ n4 b4;obtain⟨ab,eab⟩:∃ab,d4=BW ab:=by
   have:d4=0\/d4=1:=by omega
   rcases this with z|z
   ·exact⟨false,z⟩
   ·exact⟨true,z⟩
  subst eab;obtain⟨ot,aW,hcode,hall⟩:=aan ow hj ab;refine⟨lv,x,ab,[],[],lH wi 0,aW,rfl,adL,qW.nil,λu hu=>(by simp at hu),tx5,ot,hcode,λc jQ H6 s6 hc0 hc6 cd6=>?_⟩;have ok6:=g5.ok.same s6;have tx6:=tx5.same s6;refine⟨(dO 4),λl7 hl7=>⟨_,rfl,[],st,4,rfl,ok6.same<|bI hl7 _,by decide,by decide,λd8 H8 e0 e1 g8=>?_⟩⟩;have s7:=bI hl7 (.lst [.int 300, .int 0, .int 1, .int 2]);have n7:l7≠st:=by
   obtain⟨x3,y3,aat⟩:=ok6;exact cJ hl7 aat
  obtain⟨d8,rfl⟩:∃e:Nat,d8=(e:Int):=⟨d8.toNat,by omega⟩;obtain⟨most,ab6⟩:=ab1 d8 (by omega);refine⟨l7,_,_,_,rfl,rfl,dM.of<|g8.1 _ _ n7 bA,cI (j:=d8) ab6,?_⟩;have g68:=(eV ok6 s7).trans g8;have tp8:=iR ok6 g68;obtain⟨r,c',n,he,nd,run⟩:=hall most;refine⟨_,rfl,_,rfl,x,most,lH wi 0,r,c',rfl,tx6.tps tp8,ot,he,nd,λH9 s9=>?_⟩;have cd9:=(cd6.tps tp8).tps (Same.tups s9);have hc9:=s9 _ _ (tp8 _ _ hc6);have s09:Same H H9:=λb o h=>s9 b o (g68.1 b o (bU h lg)<|s6 b o (s5 b o h));refine⟨_,rfl,_,rfl,c,_,most,jQ,aW,wO r,n,rfl,rfl,hc9,cd9,run,λH10 zu=>?_⟩;refine⟨_,rfl,Fj _,_,rfl,?_⟩;rw[af0 (p:=outV (wO r)=outV (wO r)) rfl];refine lU ?_;refine⟨_,rfl,_,rfl,c,_,most,jQ,aW,wO r,n,rfl,rfl,zu _ _ hc9,cd9.tps<|Same.tups zu,run,λH11 QW=>?_⟩;refine⟨_,rfl,Fj _,_,rfl,?_⟩;rw[af0 (p:=outV (wO r)=outV (wO r)) rfl];exact lU<|nxt _ _ _ _ _ H11 (s09.trans<|zu.trans QW)
 rintro D U H ⟨sc,ns,rfl,hs,h63,q⟩;have hn:∃n:Nat,n<=63/\(if(63:Int)<(if((ns.map V.int).length:Int)>1 then((ns.map V.int).length:Int) else 1) then(63:Int) else(if((ns.map V.int).length:Int)>1 then((ns.map V.int).length:Int) else 1))=(n:Int):=by
  rw[aeb];refine⟨_,?_,(Int.toNat_of_nonneg ?_).symm⟩<;>(split<;>split)<;>omega
 obtain⟨n,hn,e⟩:=hn;refine⟨_,rfl,sc,_,rfl, .inl hs,_,_,rfl,_,_,rfl,_,rfl,by rw[e];omega,by rw[e];omega,?_⟩;rw[e,aeL];refine sY (n:=n) (λi U H'=>∃(o1 o2 o3 o4 o5 o6:aO V),U=[some (.ref sc),o1,o2,o3,o4,o5,o6]/\Same H H') ⟨none,none,none,none,none,none,rfl,Same.refl _⟩ ?_ ?_
 ·rintro i U H' hi ⟨o1,o2,o3,o4,o5,o6,rfl,s1⟩
  refine⟨sc,ns,i,o2,o3,o4,o5,o6,?_,by omega,s1.seq hs,λq2 q3 q4 q5 q6 H2 s2=>⟨_,_,_,_,_,_,rfl,s1.trans s2⟩⟩;rw[Int.zero_add]
  rfl
 ·rintro U H' ⟨o1,o2,o3,o4,o5,o6,rfl,s1⟩
  exact q _ _
theorem aau (F:iz K "law" "law" uz f fd)(mr:mg "range"=none)(ml:mg "len"=none)(mm:mg "min"=none)(mM:mg "max"=none)
  (h1:Has P w K mg aV 2 "_law_drawn" ["_law_script","_law_k","_law_salt"] (vf K)) (h2:Has P w K mg aV 3 "_law_odd" ["_law_state"] JK) (h7:Has P w K mg aV 2 "_law_within" ["_law_state","_law_term"] Bw) (h3:Has P w K mg aV 1 "_law_next" ["_law_state","_law_many"] kJ)
  (h4:Has P w K mg aV 25 "_law_code" ["_law_vals","_law_term","_law_about"] Bm) (h5:Has P w K mg aV 62 "_law_due" ["_law_term","_law_most"] JH) (h6:Has P w K mg aV 6 "_law_told" ["_law_code_here","_law_most"] vg):cP P w K mg aV jV 63 f fd ["_law_script"] (Fo K):=by
 refine F.ok rm λdF A aU s H vs Q E hr h=>?_;obtain⟨sc,ns,rfl,hs,h63,q⟩:=h;rw[ab4];refine⟨_,bJ (V4 hr mr ml mm mM h1 h2 h7 h3 h4 h5 h6).h<|bO (cQ HB),?_⟩;exact⟨sc,ns,rfl,hs,h63,λU' H'=>q _⟩
end
def dg (K:aN)(x:Str)(st:aJ):Prop:=∃f fd,nsIn K mainGlobals x=some (some<|.ref f)/\iz K x x st f fd
theorem aav {K:aN}{x:Str}{st:aJ}{f:aj}{oc:ak}{od an:aO aj}{osl:Array (aO ak)}{kV mZ pm dF ct:ak}(a:nsIn K mainGlobals x=some (some<|.ref f))
  (l:K.lookup f=some ⟨oc,od, .func<|fnOf x x (jq st) (cT st) (bQ st) .none kV mZ pm an dF ct,osl⟩) (c:codeIn K dF x=true) (k:keepIn K (.ref f)=true):dg K x st:=⟨f,_,a,Oh l c k⟩
theorem V5 {K:aN}{x:Str}{i j:Int}{t:Tok}(a:nsIn K mainGlobals x=some (some<|.int i t))(e:i=j):∃t,nsIn K mainGlobals x=some (some<|.int j t):=⟨t,by rw[<-e];exact a⟩
theorem Mp {K:aN}{x:Str}{st:aJ}{f:aj}{fd:FuncData}{p:Str}(F:iz K x x st f fd)(h:∀(kV mZ pm:ak) (an:aO aj) (dF ct:ak) (s:ao) (v:ak),BindsTo s (fnOf x x (jq st) (cT st) (bQ st) .none kV mZ pm an dF ct) ⟨[v],[]⟩ [(p,v)]):
  ∀(s:ao) (v:ak),BindsTo s fd ⟨[v],[]⟩ [(p,v)]:=by
 obtain⟨oc,od,kV,mZ,pm,an,dF,ct,osl,rfl,lk,xV⟩:=F.ex;exact h kV mZ pm an dF ct
def rz (K:aN)(C:aj)(x q:Str)(st:aJ):Prop:=∃f fd,Meth K C x f/\iz K x q st f fd
theorem V6 {K:aN}{C:aj}{x q:Str}{st:aJ}{f:aj}{oc:ak}{od an:aO aj}{osl:Array (aO ak)}{kV mZ pm dF ct:ak}(a:findIn K (.ref C) x=some (some<|.ref f))(i:PySem.W.isFn K (.ref f)=true)
  (l:K.lookup f=some ⟨oc,od, .func<|fnOf x q (jq st) (cT st) (bQ st) .none kV mZ pm an dF ct,osl⟩) (c:codeIn K dF q=true) (k:keepIn K (.ref f)=true):rz K C x q st:=⟨f,_,⟨a,i,k⟩,Oh l c k⟩
theorem aaw {K:aN}{C:aj}(pg:plainGet K C Str.empty=true)(hd:hasDictIn K C=true)(po:PySem.W.plainOver K C=true)(sa:findIn K (.ref C) "__setattr__"=some (some<|.builtin "object.__setattr__")):Cls K C:=⟨pg,hd,po,sa⟩
theorem V7 {K:aN}{C:aj}{x:Str}(n:findIn K (.ref C) x=some none):dH K C x:=n
set_option synthInstance.maxSize 4096 in
set_option synthInstance.maxHeartbeats 0 in
theorem Rx (n:Nat)(h:rW n):n=0\/n=1\/n=2\/n=3\/n=4\/n=5\/n=6\/n=7\/n=8\/n=9\/n=10\/n=11\/n=12\/n=14\/n=15\/n=16\/n=17\/n=18:=by
 have k:∀n,n<19->(n<=12\/(14<=n/\n<=18))->(n=0\/n=1\/n=2\/n=3\/n=4\/n=5\/n=6\/n=7\/n=8\/n=9\/n=10\/n=11\/n=12\/n=14\/n=15\/n=16\/n=17\/n=18):=by decide
 exact k n (h.elim (λz=>ae7 z<|by decide) λz=>ae7 z.2<|by decide) h
structure ab7 (K:aN)(w:aG)(dr y0 y1 y2 y3:aj):Prop where
 nm:nsIn K mainGlobals "RECKONINGS"=some (some<|.ref dr)
 n0:nsIn K mainGlobals "sum_of"=some (some<|.ref y0)
 n1:nsIn K mainGlobals "difference_of"=some (some<|.ref y1)
 n2:nsIn K mainGlobals "product_of"=some (some<|.ref y2)
 n3:nsIn K mainGlobals "is_less"=some (some<|.ref y3)
 dict:pZ K w dr [("plus", .ref y0),("minus", .ref y1),("times", .ref y2),("less", .ref y3)]
theorem V8 {K:aN}{w:aG}{dr y0 y1 y2 y3:aj}{oc:ak}{od:aO aj}{es:Array DictEntry}{n:Nat}{sl:Array (aO ak)}(nm:nsIn K mainGlobals "RECKONINGS"=some (some<|.ref dr))
  (n0:nsIn K mainGlobals "sum_of"=some (some<|.ref y0))
  (n1:nsIn K mainGlobals "difference_of"=some (some<|.ref y1))
  (n2:nsIn K mainGlobals "product_of"=some (some<|.ref y2))
  (n3:nsIn K mainGlobals "is_less"=some (some<|.ref y3))
  (l:K.lookup dr=some ⟨oc,od, .dict es n,sl⟩) (hs:(dr==sysModules)=false) (hx:Obj.ExactDict ⟨oc,od, .dict es n,sl⟩) (hp:Paired (rM w) [("plus", .ref y0),("minus", .ref y1),("times", .ref y2),("less", .ref y3)] es.toList):
  ∃dr y0 y1 y2 y3,ab7 K w dr y0 y1 y2 y3:=⟨dr,y0,y1,y2,y3,nm,n0,n1,n2,n3,hs,_,es,n,l,hx,rfl,hp⟩
structure ab8 (K:aN)(w:aG)(dr x0 x1 x2 x3 x4 x5 x6 x10 x11 x12 R0 MJ MK MN x17 x18:aj):Prop where
 nm:nsIn K mainGlobals "ROWS"=some (some<|.ref dr)
 n0:nsIn K mainGlobals "do_number"=some (some<|.ref x0)
 n1:nsIn K mainGlobals "do_local"=some (some<|.ref x1)
 n2:nsIn K mainGlobals "do_global"=some (some<|.ref x2)
 n3:nsIn K mainGlobals "do_keep"=some (some<|.ref x3)
 n4:nsIn K mainGlobals "do_drop"=some (some<|.ref x4)
 n5:nsIn K mainGlobals "do_store"=some (some<|.ref x5)
 n6:nsIn K mainGlobals "do_reckon"=some (some<|.ref x6)
 n7:nsIn K mainGlobals "do_unless"=some (some<|.ref x10)
 n8:nsIn K mainGlobals "do_jump"=some (some<|.ref x11)
 n9:nsIn K mainGlobals "do_close"=some (some<|.ref x12)
 n10:nsIn K mainGlobals "do_call"=some (some<|.ref MJ)
 n11:nsIn K mainGlobals "do_back"=some (some<|.ref MK)
 n12:nsIn K mainGlobals "do_block"=some (some<|.ref MN)
 n13:nsIn K mainGlobals "do_field"=some (some<|.ref x17)
 n14:nsIn K mainGlobals "do_case"=some (some<|.ref x18)
 dict:pZ K w dr [("number", .ref x0),("local", .ref x1),("global", .ref x2),("keep", .ref x3),("drop", .ref x4),("store", .ref x5),("plus", .ref x6),("minus", .ref x6),("times", .ref x6),("less", .ref x6),("unless", .ref x10),("jump", .ref x11),("close", .ref x12),("ring", .ref R0),("call", .ref MJ),("back", .ref MK),("block", .ref MN),("field", .ref x17),("case", .ref x18)]
theorem V9 {K:aN}{w:aG}{dr x0 x1 x2 x3 x4 x5 x6 x10 x11 x12 R0 MJ MK MN x17 x18:aj}{oc:ak}{od:aO aj}{es:Array DictEntry}{n:Nat}{sl:Array (aO ak)}(nm:nsIn K mainGlobals "ROWS"=some (some<|.ref dr))
  (n0:nsIn K mainGlobals "do_number"=some (some<|.ref x0))
  (n1:nsIn K mainGlobals "do_local"=some (some<|.ref x1))
  (n2:nsIn K mainGlobals "do_global"=some (some<|.ref x2))
  (n3:nsIn K mainGlobals "do_keep"=some (some<|.ref x3))
  (n4:nsIn K mainGlobals "do_drop"=some (some<|.ref x4))
  (n5:nsIn K mainGlobals "do_store"=some (some<|.ref x5))
  (n6:nsIn K mainGlobals "do_reckon"=some (some<|.ref x6))
  (n7:nsIn K mainGlobals "do_unless"=some (some<|.ref x10))
  (n8:nsIn K mainGlobals "do_jump"=some (some<|.ref x11))
  (n9:nsIn K mainGlobals "do_close"=some (some<|.ref x12))
  (n10:nsIn K mainGlobals "do_call"=some (some<|.ref MJ))
  (n11:nsIn K mainGlobals "do_back"=some (some<|.ref MK))
  (n12:nsIn K mainGlobals "do_block"=some (some<|.ref MN))
  (n13:nsIn K mainGlobals "do_field"=some (some<|.ref x17))
  (n14:nsIn K mainGlobals "do_case"=some (some<|.ref x18))
  (l:K.lookup dr=some ⟨oc,od, .dict es n,sl⟩) (hs:(dr==sysModules)=false) (hx:Obj.ExactDict ⟨oc,od, .dict es n,sl⟩) (hp:Paired (rM w) [("number", .ref x0),("local", .ref x1),("global", .ref x2),("keep", .ref x3),("drop", .ref x4),("store", .ref x5),("plus", .ref x6),("minus", .ref x6),("times", .ref x6),("less", .ref x6),("unless", .ref x10),("jump", .ref x11),("close", .ref x12),("ring", .ref R0),("call", .ref MJ),("back", .ref MK),("block", .ref MN),("field", .ref x17),("case", .ref x18)] es.toList):
  ∃dr x0 x1 x2 x3 x4 x5 x6 x10 x11 x12 R0 MJ MK MN x17 x18,ab8 K w dr x0 x1 x2 x3 x4 x5 x6 x10 x11 x12 R0 MJ MK MN x17 x18:=⟨dr,x0,x1,x2,x3,x4,x5,x6,x10,x11,x12,R0,MJ,MK,MN,x17,x18,nm,n0,n1,n2,n3,n4,n5,n6,n7,n8,n9,n10,n11,n12,n13,n14,hs,_,es,n,l,hx,rfl,hp⟩
abbrev bmV:List ak:=[.type "ValueError", .type "Exception", .type "BaseException", .type "object"]
def Fp (K:aN)(x:Str)(CT CX:aj):Prop:=∀(aV:aK) (mg:Str->Option ak),K.In aV->mg x=some (.ref CT)->OwnCls x CT bmV "ValueError.__new__" mg aV/\lA aV CT CX
theorem Ry {K:aN}{x:Str}{CT CX N N':aj}{nm q nm' q':Str}{bs bm bs' bm':aP ak}{hd hd':Bool}{sn Yn:aP Str}{sub sub':aP ak}{ab Yo:Bool}{col col':aO Bool}{dd Dh:aO aj}{k0 k1 k2 k3 k5 j0 j1 j2 j3 j5:aO ak}{nid:String}
  (l1:K.lookup CT=some ⟨.type "type",dd, .cls ⟨nm,bs, .ref CT::bm,N,q,hd,sn,sub,ab,col,false⟩,#[k0,k1,k2,k3,some<|.builtin "ValueError.__new__",k5]⟩) (n1:PySem.W.nsOkIn K N=true) (n2:nsIn K N "__init__"=some none) (t1:PySem.W.tailIn K bmV bm=true)
  (l2:K.lookup CX=some ⟨.type "type",Dh, .cls ⟨nm',bs', .ref CX::bm',N',q',hd',Yn,sub',Yo,col',false⟩,#[j0,j1,j2,j3,some<|.builtin nid,j5]⟩) (b1:bm'.contains (.type "BaseException")=true) (b2:(Value.ref CT::bm).contains (.ref CX)=true):Fp K x CT CX:=λaV mg X m=>
 ⟨⟨m,bm,N,nm,q,bs,hd,sn,sub,ab,col,dd,k0,k1,k2,k3,k5,_,X _ _ l1, .of_isNs<|PySem.W.isNs_of_in X n1,PySem.W.nsMap_none_of_in X n1 n2,PySem.W.tail_of_in X t1⟩,
  nm,q,nm',q',N,N',bs,bm,bs',bm',hd,hd',sn,Yn,sub,sub',ab,Yo,col,col',dd,Dh,k0,k1,k2,k3,k5,j0,j1,j2,j3,j5,_,nid,X _ _ l1,X _ _ l2,b1,b2⟩
theorem aax {K:aN}{C:aj}{c0:ak}{d0:aO aj}{cd:ClassData}{sl:Array (aO ak)}(g0:findIn K (.ref C) "__getattribute__"=some (some<|.builtin "BaseException.__getattribute__"))(g1:findIn K (.ref C) "__getattr__"=some none)(gb:mroIn K C (.type "BaseException")=some true)(g2:findIn K (.ref C) "__class__"=some (some<|.builtin "object.__class__"))(g3:specialIn K (.builtin "object.__class__") "__get__"=some (some<|.builtin "getset_descriptor.__get__"))
  (g4:takesIn K (.builtin "object.__class__")=some true) (g5:mroIn K C (.type "object")=some true) (lk:K.lookup C=some ⟨c0,d0, .cls cd,sl⟩):mQ K C:=⟨g0,g1,gb,g2,g3,g4,g5,_,_,_,_,lk⟩
theorem aay {K:aN}{C:aj}(i1:findIn K (.ref C) "__class__"=some (some<|.builtin "object.__class__"))(i2:specialIn K (.builtin "object.__class__") "__get__"=some (some<|.builtin "getset_descriptor.__get__"))(i3:takesIn K (.builtin "object.__class__")=some true)(i4:mroIn K C (.type "object")=some true)(i5:kitOne K (.ref C) (.ref C)=some true)(i6:kitOne K (.ref C) (.type "int")=some false)(i7:kitOne K (.ref C) (.type "tuple")=some false)(i8:kitOne K (.type "int") (.ref C)=some false)(i9:kitOne K (.type "tuple") (.ref C)=some false):Xa K C:=⟨i1,i2,i3,i4,i5,i6,i7,i8,i9⟩
def Rz (K:aN)(x:Str)(st:aJ):Prop:=∃f fd T tk,nsIn K mainGlobals x=some (some<|.ref f)/\Le K x x st f fd T #[.int 300 tk]
theorem Wa {K:aN}{x:Str}{st:aJ}{f T:aj}{oc oc':ak}{od an od':aO aj}{osl ab9:Array (aO ak)}{kV mZ pm dF ct:ak}{tk:Tok}{n:Nat}(a:nsIn K mainGlobals x=some (some<|.ref f))
  (l:K.lookup f=some ⟨oc,od, .func<|fnOf x x (jq st) (cT st) (bQ st) (.ref T) kV mZ pm an dF ct,osl⟩) (c:codeIn K dF x=true) (k:keepIn K (.ref f)=true) (t:K.lookup T=some ⟨oc',od', .seq #[.int 300 tk] n,ab9⟩):Rz K x st:=⟨f,_,T,tk,a,⟨⟨oc,od,kV,mZ,pm,an,dF,ct,osl,rfl,l,c⟩,k,⟨oc',od',n,ab9,t⟩⟩⟩
theorem Wb {K:aN}{x:Str}{a b:aj}(h:nsIn K mainGlobals x=some (some<|.ref a))(q:nsIn K mainGlobals x=some (some<|.ref b)):a=b:=by
 rw[h]at q;injection q with z;injection z with z;injection z
theorem us0 {C:aP ak->Prop}(us:aP ak)(h:us.length=0)(k:C []):C us:=List.eq_nil_of_length_eq_zero h ▸ k
theorem uss {n:Nat}{C:List ak->Prop}(us:List ak)(h:us.length=n+1)(k:∀a r,r.length=n->C (a::r)):C us:=by
 cases us with
 |nil=>exact absurd h.symm<|Nat.succ_ne_zero n
 |cons a r=>exact k a r<|Nat.succ.inj h
@[elab_as_elim] theorem us1 {C:List ak->Prop} (us:List ak) (h:us.length=1) (k:∀a0,C [a0]):C us:=uss us h λa r h=>us0 (C:=λr=>C (a::r)) r h (k a)
@[elab_as_elim] theorem us2 {C:List ak->Prop} (us:List ak) (h:us.length=2) (k:∀a0 a1,C [a0,a1]):C us:=uss us h λa r h=>us1 (C:=λr=>C (a::r)) r h (k a)
@[elab_as_elim] theorem us3 {C:List ak->Prop} (us:List ak) (h:us.length=3) (k:∀a0 a1 a2,C [a0,a1,a2]):C us:=uss us h λa r h=>us2 (C:=λr=>C (a::r)) r h (k a)
@[elab_as_elim] theorem us4 {C:List ak->Prop} (us:List ak) (h:us.length=4) (k:∀a0 a1 a2 a3,C [a0,a1,a2,a3]):C us:=uss us h λa r h=>us3 (C:=λr=>C (a::r)) r h (k a)
@[elab_as_elim] theorem us5 {C:List ak->Prop} (us:List ak) (h:us.length=5) (k:∀a0 a1 a2 a3 a4,C [a0,a1,a2,a3,a4]):C us:=uss us h λa r h=>us4 (C:=λr=>C (a::r)) r h (k a)
def Wf:Nat->(List ak->Prop)->Prop
 |0,C=>C []
 |n+1,C=>∀a,Wf n λr=>C (a::r)
theorem adM {n:Nat}{C:List ak->Prop}{us:List ak}(h:Wf n C)(l:us.length=n):C us:=by
 induction n generalizing C us with
 |zero=>exact us0 us l h
 |succ n ih=>exact uss us l λa r q=>ih (C:=λr=>C (a::r)) (h a) q
theorem lY {K:aN}{x q:Str}{st:aJ}{f:aj}{fd:FuncData}{ps:aP Str}(F:iz K x q st f fd)
  (h:∀(kV mZ pm:ak) (an:aO aj) (dF ct:ak),Wf ps.length λus=>bindArgs (fnOf x q (jq st) (cT st) (bQ st) .none kV mZ pm an dF ct) ⟨us,[]⟩=pure (ps.zip us):=by(repeat intro _);exact rfl):Binds K fd ps []:=F.binds λ_ _ _ _ _ _ _=>adM (h _ _ _ _ _ _)
theorem dg.has {P:aA}{w:aG}{K:aN}{h:aK}{mg:Str->aO ak}{aV:aK}(X:K.In h)(G:h.Ns mainGlobals mg){x:Str}{st:aJ}{k:Nat}{ps:aP Str}{sp:Sp}(d:dg K x st)(o:∀{f:aj} {fd:FuncData},iz K x x st f fd->cP P w K mg aV jV k f fd ps sp)
  (b:∀(kV mZ pm:ak) (an:aO aj) (dF ct:ak),Wf ps.length λus=>bindArgs (fnOf x x (jq st) (cT st) (bQ st) .none kV mZ pm an dF ct) ⟨us,[]⟩=pure (ps.zip us):=by(repeat intro _);exact rfl):Has P w K mg aV k x ps sp:=by
 obtain⟨f,fd,a,F⟩:=d;exact⟨f,fd,o F,lY F b,F.kp,PySem.W.mg_of X G a⟩
theorem dg.at_ {K:aN}{x:Str}{st:aJ}{y:aj}(d:dg K x st)(n:nsIn K mainGlobals x=some (some<|.ref y)):∃g,iz K x x st y g:=by
 obtain⟨f,fd,a,F⟩:=d;obtain rfl:=Wb a n;exact⟨fd,F⟩
def acd (l:PySem.W.OpenLaw)(w:aG)(K:aN)(mg:Str->Option ak)(fa:aj):Prop:=∃fd:FuncData,(∀(s:ao) (v:ak),BindsTo s fd ⟨[v],[]⟩ [("_law_script",v)])/\∀aV:aK,K.In aV->aV.Ns mainGlobals mg->cP l.prog w K mg aV jV 63 fa fd ["_law_script"] (Fo K)
set_option maxHeartbeats 2000000 in
theorem all_mk {l:PySem.W.OpenLaw}{w:aG}{K:aN}{h:aK}{mg:Str->aO ak}{fa M F C B CT CX CS CL CD A1 A2 A3 A4:aj}(X:K.In h)(G:h.Ns mainGlobals mg)(hfa:mg "law"=some (.ref fa))
  (RB:nsIn K mainGlobals "len"=some none)
  (oH:nsIn K mainGlobals "isinstance"=some none)
  (Bx:nsIn K mainGlobals "tuple"=some none)
  (Hw:nsIn K mainGlobals "list"=some none)
  (rA:nsIn K mainGlobals "reversed"=some none)
  (BJ:nsIn K mainGlobals "range"=some none)
  (RD:nsIn K mainGlobals "int"=some none)
  (Hx:nsIn K mainGlobals "bool"=some none)
  (RG:nsIn K mainGlobals "abs"=some none)
  (RJ:nsIn K mainGlobals "min"=some none)
  (RK:nsIn K mainGlobals "max"=some none)
  (oJ:nsIn K mainGlobals "ValueError"=some none)
  (RL:nsIn K mainGlobals "str"=some none)
  (Hy:nsIn K mainGlobals "dict"=some none)
  (RM:nsIn K mainGlobals "zip"=some none)
  (aM:nsIn K mainGlobals "Machine"=some (some<|.ref M)) (cM:Cls K M) (mkM:makesIn K M=true) (kcM:keepIn K (.ref M)=true) (nM0:dH K M "calls") (nM1:dH K M "pile") (nM2:dH K M "frame") (nM3:dH K M "outer_frames") (nM4:dH K M "stored") (nM5:dH K M "ahead")
  (mM0:rz K M "__init__" "Machine.__init__" GX)
  (aF:nsIn K mainGlobals "Frame"=some (some<|.ref F)) (cF:Cls K F) (mkF:makesIn K F=true) (kcF:keepIn K (.ref F)=true) (nF0:dH K F "own") (nF1:dH K F "behind")
  (mF0:rz K F "__init__" "Frame.__init__" Ai)
  (aC:nsIn K mainGlobals "Calls"=some (some<|.ref C)) (cC:Cls K C) (mkC:makesIn K C=true) (kcC:keepIn K (.ref C)=true) (nC0:dH K C "most") (nC1:dH K C "begun") (nC2:dH K C "under_way")
  (mC0:rz K C "__init__" "Calls.__init__" Af)
  (mC1:rz K C "begin" "Calls.begin" Ag)
  (mC2:rz K C "come_back" "Calls.come_back" Ah)
  (aB:nsIn K mainGlobals "Closed"=some (some<|.ref B)) (cB:Cls K B) (mkB:makesIn K B=true) (kcB:keepIn K (.ref B)=true) (nB0:dH K B "to") (nB1:dH K B "kept")
  (mB0:rz K B "__init__" "Closed.__init__" wz)
  (aS:nsIn K mainGlobals "Stuck"=some (some<|.ref CS))
  (aT:nsIn K mainGlobals "TooGreat"=some (some<|.ref CT))
  (aL:nsIn K mainGlobals "TooLong"=some (some<|.ref CL))
  (aD:nsIn K mainGlobals "TooDeep"=some (some<|.ref CD))
  (a1:nsIn K mainGlobals "NoText"=some (some<|.ref A1))
  (a2:nsIn K mainGlobals "NoKind"=some (some<|.ref A2))
  (a3:nsIn K mainGlobals "NoFace"=some (some<|.ref A3))
  (a4:nsIn K mainGlobals "NoTie"=some (some<|.ref A4))
  (aX:nsIn K mainGlobals "FaceError"=some (some<|.ref CX))
  (kSS:kitOne K (.ref CS) (.ref CS)=some true)
  (kTS:kitOne K (.ref CS) (.ref CT)=some false)
  (kLS:kitOne K (.ref CS) (.ref CL)=some false)
  (kDS:kitOne K (.ref CS) (.ref CD)=some false)
  (kVS:kitOne K (.ref CS) (.type "ValueError")=some true)
  (kNS:kitAny K (.ref CS) ([A1,A2,A3,A4].map Value.ref)=some false)
  (xcS:mQ K CS)
  (xiS:Fp K "Stuck" CS CX)
  (kST:kitOne K (.ref CT) (.ref CS)=some false)
  (kTT:kitOne K (.ref CT) (.ref CT)=some true)
  (kLT:kitOne K (.ref CT) (.ref CL)=some false)
  (kDT:kitOne K (.ref CT) (.ref CD)=some false)
  (kVT:kitOne K (.ref CT) (.type "ValueError")=some true)
  (kNT:kitAny K (.ref CT) ([A1,A2,A3,A4].map Value.ref)=some false)
  (xcT:mQ K CT)
  (xiT:Fp K "TooGreat" CT CX)
  (kSL:kitOne K (.ref CL) (.ref CS)=some false)
  (kTL:kitOne K (.ref CL) (.ref CT)=some false)
  (kLL:kitOne K (.ref CL) (.ref CL)=some true)
  (kDL:kitOne K (.ref CL) (.ref CD)=some false)
  (kVL:kitOne K (.ref CL) (.type "ValueError")=some true)
  (kNL:kitAny K (.ref CL) ([A1,A2,A3,A4].map Value.ref)=some false)
  (xcL:mQ K CL)
  (xiL:Fp K "TooLong" CL CX)
  (kSD:kitOne K (.ref CD) (.ref CS)=some false)
  (kTD:kitOne K (.ref CD) (.ref CT)=some false)
  (kLD:kitOne K (.ref CD) (.ref CL)=some false)
  (kDD:kitOne K (.ref CD) (.ref CD)=some true)
  (kVD:kitOne K (.ref CD) (.type "ValueError")=some true)
  (kND:kitAny K (.ref CD) ([A1,A2,A3,A4].map Value.ref)=some false)
  (xcD:mQ K CD)
  (xiD:Fp K "TooDeep" CD CX)
  (vM:∃t,nsIn K mainGlobals "MOST_UNDER_WAY"=some (some<|.int 10 t))
  (ic:Xa K B)
  (hRk:∃dr y0 y1 y2 y3,ab7 K w dr y0 y1 y2 y3)
  (hRw:∃dr x0 x1 x2 x3 x4 x5 x6 x10 x11 x12 R0 MJ MK MN x17 x18,ab8 K w dr x0 x1 x2 x3 x4 x5 x6 x10 x11 x12 R0 MJ MK MN x17 x18)
  (d11:dg K "is_whole" Aa)
  (d14:dg K "sum_of" (uF 0))
  (d15:dg K "difference_of" (uF 1))
  (d16:dg K "product_of" (uF 2))
  (d17:dg K "is_less" (uF 3))
  (d19:dg K "number_of" s_num)
  (d20:dg K "reckoned" GR)
  (d21:dg K "taken_off" uW)
  (d22:dg K "block_of" Qo)
  (d28:dg K "do_number" (lD 0))
  (d29:dg K "do_local" (lD 1))
  (d30:dg K "do_global" (lD 2))
  (d31:dg K "do_keep" (lD 3))
  (d32:dg K "do_drop" (lD 4))
  (d33:dg K "do_store" (lD 5))
  (d34:dg K "do_reckon" wg)
  (d35:dg K "do_unless" (lD 7))
  (d36:dg K "do_jump" (lD 8))
  (d37:dg K "locals_at" rT)
  (d38:dg K "do_close" tW)
  (d40:dg K "do_call" wB)
  (d41:dg K "do_back" wC)
  (d42:dg K "do_block" Aq)
  (d43:dg K "do_field" Ar)
  (d44:dg K "do_case" wG)
  (d46:Rz K "done" G8)
  (d48:dg K "_law_cell_at" Hr)
  (d49:dg K "_law_drawn" Bs)
  (d50:dg K "_law_next" Hs)
  (d51:dg K "_law_class" Bt)
  (d52:dg K "_law_entered" Jv)
  (d53:dg K "_law_summed" Q5)
  (d54:dg K "_law_block_of" JC)
  (d55:dg K "_law_chosen" JD)
  (d56:dg K "_law_worked" xG)
  (d57:dg K "_law_due" xK)
  (d58:dg K "_law_held" Bb)
  (d59:dg K "_law_case_rows" u9)
  (d60:dg K "_law_test_rows" u6)
  (d61:dg K "_law_let_rows" Bg)
  (d62:dg K "_law_rows" Bj)
  (d63:dg K "_law_whole_row" Bk)
  (d64:dg K "_law_code" pO)
  (d65:dg K "_law_told" xJ)
  (d66:dg K "_law_thing" iG)
  (d67:dg K "_law_odd" uy)
  (d68:dg K "_law_within" uc)
  (d69:dg K "law" uz):
  acd l w K mg fa:=by
 have mo:∀{x:Str} {v:ak},nsIn K mainGlobals x=some (some v)->mg x=some v:=λa=>PySem.W.mg_of X G a;have mn:∀{x:Str},nsIn K mainGlobals x=some none->mg x=none:=λa=>PySem.W.mg_none_of X G a;obtain⟨dk,y0,y1,y2,y3,R⟩:=hRk;obtain⟨dw,x0,x1,x2,x3,x4,x5,x6,x10,x11,x12,R0,MJ,MK,MN,x17,x18,W⟩:=hRw;obtain⟨g14,F14⟩:=d14.at_ R.n0;obtain⟨g15,F15⟩:=d15.at_ R.n1;obtain⟨g16,F16⟩:=d16.at_ R.n2;obtain⟨g17,F17⟩:=d17.at_ R.n3;obtain⟨f19,g19,a19,F19⟩:=d19;obtain⟨f20,g20,a20,F20⟩:=d20;obtain⟨f22,g22,a22,F22⟩:=d22;obtain⟨g28,F28⟩:=d28.at_ W.n0;obtain⟨g29,F29⟩:=d29.at_ W.n1;obtain⟨g30,F30⟩:=d30.at_ W.n2;obtain⟨g31,F31⟩:=d31.at_ W.n3;obtain⟨g32,F32⟩:=d32.at_ W.n4;obtain⟨g33,F33⟩:=d33.at_ W.n5;obtain⟨g34,F34⟩:=d34.at_ W.n6;obtain⟨g35,F35⟩:=d35.at_ W.n7;obtain⟨g36,F36⟩:=d36.at_ W.n8;obtain⟨g38,F38⟩:=d38.at_ W.n9;obtain⟨g40,F40⟩:=d40.at_ W.n10;obtain⟨g41,F41⟩:=d41.at_ W.n11;obtain⟨g42,F42⟩:=d42.at_ W.n12;obtain⟨g43,F43⟩:=d43.at_ W.n13;obtain⟨g44,F44⟩:=d44.at_ W.n14;obtain⟨f46,g46,T46,adP,a46,F46⟩:=d46;obtain⟨f51,g51,a51,F51⟩:=d51;obtain⟨f52,g52,a52,F52⟩:=d52;obtain⟨f53,g53,a53,F53⟩:=d53;obtain⟨f54,g54,a54,F54⟩:=d54;obtain⟨f55,g55,a55,F55⟩:=d55;obtain⟨f56,g56,a56,F56⟩:=d56;obtain⟨f59,g59,a59,F59⟩:=d59;obtain⟨f60,g60,a60,F60⟩:=d60;obtain⟨f61,g61,a61,F61⟩:=d61;obtain⟨f62,g62,a62,F62⟩:=d62;obtain⟨f69,g69,a69,F69⟩:=d69;have e:=hfa.symm.trans (mo a69);cases e;refine⟨g69,Mp F69 λ_ _ _ _ _ _ _ _=>.of_eq rfl,λaV XB _=>?_⟩;have hs:=@dg.has l.prog w K h mg aV X G;have qM:=mn RB;have fK:=mn oH;have oK:=mn Bx;have RN:=mn Hw;have Hz:=mn rA;have vo:=mn BJ;have xQ:=mn RD;have RP:=mn Hx;have Xp:=mn RG;have ace:=mn RJ;have acf:=mn RK;have BK:=mn oJ;have Xq:=mn RL;have aaz:=mn Hy;have acg:=mn RM;have mgM:=mo aM;obtain⟨fM0,gM0,MM0,FM0⟩:=mM0;have mgF:=mo aF;obtain⟨fF0,gF0,MF0,FF0⟩:=mF0;have mgC:=mo aC;obtain⟨fC0,gC0,MC0,FC0⟩:=mC0;obtain⟨fC1,gC1,MC1,FC1⟩:=mC1;obtain⟨fC2,gC2,MC2,FC2⟩:=mC2;have mgB:=mo aB;obtain⟨fB0,gB0,MB0,FB0⟩:=mB0;have b46:=F46.binds (ps:=["code","most"]) λ_ _ _ _ _ _ us hl=>us2 us hl λ_ _=>⟨_,rfl,rfl⟩;have mS:=(mo aS);obtain⟨OS,COS⟩:=xiS aV mg XB mS;have mT:=(mo aT);have mL:=(mo aL);have mD:=(mo aD);have mX:=(mo aX);obtain⟨OT,COT⟩:=xiT aV mg XB mT;obtain⟨OL,COL⟩:=xiL aV mg XB mL;obtain⟨OD,COD⟩:=xiD aV mg XB mD;obtain⟨tkM,vM⟩:=vM;have Tx:uY K M F C B:=⟨cM,nM0,nM1,nM2,nM3,nM4,nM5,cF,nF0,nF1,cC,nC0,nC1,nC2,cB,nB0,nB1⟩;have ZG:abE mg CS CT CL CD A1 A2 A3 A4:=⟨(mo aS),mT,mL,mD,(mo a1),(mo a2),(mo a3),(mo a4),BK,fK⟩;have H11:=hs d11 λF=>Px F ic cB fK xQ RP;have aaA:GQ l.prog w K mg aV 2 "number_of" ["value"] (vX B CS):=⟨f19,g19,Yy F19 OS aeg H11,(lY F19),F19.kp,(mo a19)⟩;have G20:=Tr (fr:=(λn=>([y0,y1,y2,y3]:aP aj).getD n 0)) F20 OT aeg Xp (mo R.nm) R.dict (λn hn=>by
  rcases n4 (Nat.lt_succ_of_le hn) with rfl|rfl|rfl|rfl
  ·exact⟨_,YF F14,F14.kp,lY F14⟩
  ·exact⟨_,YG F15,F15.kp,lY F15⟩
  ·exact⟨_,YH F16,F16.kp,lY F16⟩
  ·exact⟨_,YJ F17,F17.kp,lY F17⟩) aaA
 have H21:=hs d21 λF=>PK F oK Hz vo;have G34:=KZ F34 Tx H21 G20 (mo a20) F20.kp (lY F20);have H37:=hs d37 λF=>K7 F Tx;have ach:GQ l.prog w K mg aV 1 "block_of" ["value"] (lG B CS):=⟨f22,g22,Zh F22 OS aeg ic cB fK oK,(lY F22),F22.kp,(mo a22)⟩;have G46:=T7 (CS:=CS) (CT:=CT) (gO:=CL) (qG:=CD) (fr:=(λn=>([x0,x1,x2,x3,x4,x5,x6,x6,x6,x6,x10,x11,x12,R0,MJ,MK,MN,x17,x18]:aP aj).getD n 0)) F46 Tx ⟨mkM,MM0.at_,MM0.fn,kcM⟩ (TJ FM0 Tx ⟨mkC,MC0.at_,MC0.fn,kcC⟩ (Qj FC0 Tx) (lY FC0) mgC ⟨mkF,MF0.at_,MF0.fn,kcF⟩ (DK FF0 Tx) (lY FF0) mgF) (lY FM0) mgM (mo W.nm) W.dict (λn hn=>by
  rcases Rx n hn with rfl|rfl|rfl|rfl|rfl|rfl|rfl|rfl|rfl|rfl|rfl|rfl|rfl|rfl|rfl|rfl|rfl|rfl
  ·exact⟨1,_,by decide,Y5 F28 Tx,F28.kp,lY F28⟩
  ·exact⟨1,_,by decide,Y6 F29 Tx,F29.kp,lY F29⟩
  ·exact⟨1,_,by decide,Y7 F30 Tx,F30.kp,lY F30⟩
  ·exact⟨1,_,by decide,Y8 F31 Tx,F31.kp,lY F31⟩
  ·exact⟨1,_,by decide,Y9 F32 Tx vo,F32.kp,lY F32⟩
  ·exact⟨1,_,by decide,Za F33 Tx,F33.kp,lY F33⟩
  ·exact⟨4,_,by decide,G34,F34.kp,lY F34⟩
  ·exact⟨4,_,by decide,G34,F34.kp,lY F34⟩
  ·exact⟨4,_,by decide,G34,F34.kp,lY F34⟩
  ·exact⟨4,_,by decide,G34,F34.kp,lY F34⟩
  ·exact⟨3,_,by decide,Zc F35 Tx aaA,F35.kp,lY F35⟩
  ·exact⟨1,_,by decide,Zb F36 Tx,F36.kp,lY F36⟩
  ·exact⟨3,_,by decide,(G3 F38 Tx ⟨mkB,MB0.at_,MB0.fn,kcB⟩ (K5 FB0 Tx) (lY FB0) mgB H37),F38.kp,lY F38⟩
  ·exact⟨3,_,by decide,(La OS aeg F40 Tx ic fK H21 mgB MC1 (Qk FC1 Tx OL aeg OD aeg<|mo vM) (lY FC1) ⟨mkF,MF0.at_,MF0.fn,kcF⟩ (DK FF0 Tx) (lY FF0) mgF),F40.kp,lY F40⟩
  ·exact⟨2,_,by decide,(K9 F41 Tx qM MC2 (Ql FC2 Tx)<|lY FC2),F41.kp,lY F41⟩
  ·exact⟨2,_,by decide,(Qq F42 Tx H21),F42.kp,lY F42⟩
  ·exact⟨2,_,by decide,(Qs F43 Tx ach),F43.kp,lY F43⟩
  ·exact⟨2,_,by decide,(Ld F44 OS aeg Tx qM ach),F44.kp,lY F44⟩) aaA
 have G51:=Ro (P:=l.prog) (w:=w) (mg:=mg) (aV:=aV) F51 ZG ⟨xcS,kSS,kTS,kLS,kDS,kVS,kNS⟩ ⟨xcT,kST,kTT,kLT,kDT,kVT,kNT⟩ ⟨xcL,kSL,kTL,kLL,kDL,kVL,kNL⟩ ⟨xcD,kSD,kTD,kLD,kDD,kVD,kND⟩;have H48:=hs d48 λF=>Vp F qM;have H49:=hs d49 λF=>Rm F xQ H48;have H50:=hs d50 λF=>Vq F;have G53:=Z6 (P:=l.prog) (w:=w) (mg:=mg) (aV:=aV) F53 OS aeg OT aeg fK xQ Xp Xq qM;have G56:=Fd F56 (lY F56) (mo a56) fK oK qM aaz xQ acg G53 (mo a53) F53.kp (lY F53) F52 (mo a52) (lY F52) F54 (mo a54) (lY F54) F55 (mo a55) (lY F55) OL aeg OS aeg 20;have H57:=hs d57 λF=>aal F fK xQ OS aeg mX COS COT COL G56 (mo a56) F56.kp (lY F56) G51 (mo a51) F51.kp (lY F51);have H58:=hs d58 λF=>Uq F qM RN oK;have H62:=El F62 (lY F62) (mo a62) F61 (lY F61) (mo a61) F60 (lY F60) (mo a60) F59 (lY F59) (mo a59) qM RN oK H58 12;have H63:=hs d63 λF=>UL F fK oK;have H64:=hs d64 λF=>Va F oK qM H62 H63;have H65:=hs d65 λF=>Vs F fK xQ RP mX COS COT COL COD G46 (mo a46) F46.kp b46 G51 (mo a51) F51.kp (lY F51);have H66:=hs d66 λF=>Ru F H50;have H67:=hs d67 λF=>aas F xQ qM H50 H66;have H68:=hs d68 λF=>V1 F vo Xq H50;exact aau F69 vo qM ace acf H49 H67 H68 H50 H64 H57 H65
theorem walk {l:PySem.W.OpenLaw}{q:aA}{loose:aP Str}{XP:(Str->aO ak)->aK->Prop}{YP:aG->aK->Prop}{d:DefRec}{K:Params->aN}(hn:l.most=some 63)(hdf:d.params.defaults=[])
  (hY:∀(w:aG) (h:aK),YP w h->(K w.params).In h)
  (F:∀(w:aG) (mg:Str->aO ak) (fa:aj) (h:aK),(K w.params).In h->h.Ns mainGlobals mg->mg d.name=some (.ref fa)->
   ∃fd:FuncData,(∀(s:ao) (u:ak),BindsTo s fd ⟨[u],[]⟩ [("_law_script",u)])/\∀aV:aK,(K w.params).In aV->aV.Ns mainGlobals mg->cP l.prog w (K w.params) mg aV jV 63 fa fd ["_law_script"] (Fo<|K w.params)):
  PySem.W.WalkO q loose XP YP l.row.toRowW d [] (λf vs=>PySem.call f vs) :=
 L2.S6 (n:=63) (k:=63) (x:="_law_script") (CX:=λ_=>jV) (sp:=λw=>Fo<|K w.params) hn (by decide) hdf ⟨rfl,by decide,by decide⟩ hY F (λ_ _ a ns hl _ hS=>⟨a,ns,rfl,hS,hl,λ_=>rfl⟩) λ_ _ _ _ _ z=>z
end Fw
open PySem PySem.W PyProof.Rows
structure PySem.W.Fast:Prop where(tw6479557434458789273 tw982194537332533780 tw2696849688356619061 tw13452234961039631200 tw735457693190969272 tw16751989634462371098 tw13085502098252936528 tw14609752890637722687 tw2279121185023694758 tw8671385761334221345 tw533143005073766493 tw5269213984620839100 tw14408652834551917802 tw8455708640884767407 tw3667165064132050213 tw10608021369481705184 tw5937431017041100076 tw11651823621580769759 tw18372394790694572371 tw16241275031918005571 tw9777901513614838502 tw14175390372077493667 tw13474959725742842573 tw15946088393946227725 tw11482231988587217685 tw2001863074971611233 tw6263586113543387880 tw8972539853596624168 tw12632655257974900036 tw1819637568522138659 tw1924456449913699241 tw15677295391202187693 tw1769634730748007861 tw11504686609313251960 tw846331329262850343 tw4538976337941485138 tw3518862435303078816 tw11186925496233877236 tw16765086042800648741 tw2236558344751147414 tw10904616760417587979 tw2429977320714711533 tw2038358062449682358 tw9595037739836921502 tw8599792398542830616 tw16013276835102003278 tw9201092521467959932 tw17145260288821228309 tw6648016616278406997 tw1279074834535545502 tw5140066774664996587 tw3608947144592435010 tw18027439865740913035 tw930797442585115817 tw17406139307531863082 tw3429284623710352725 tw12008168332663141679 tw71652341425308830 tw14155409657968866606 tw11638401891844497668 tw10463767633801201389 tw14398108531375045190 tw13368825402019875959 tw16271447859501451946 tw1281592833058584372 tw2878279402198094599 tw15447829620376636170 tw16211581923415341174 tw5053442452513696068 tw3253295325857358915 tw16421681305175778534 tw9107707980581555775 tw8042209328309786023 tw2960107499835639139 tw6898716210094612590 tw11806291646725464885 tw11653637409845753710 tw1585070582888094938 tw8004290555915584390 tw9388899022186605025 tw13835257651310972231 tw9767030546601131548 tw2389126184567586437 tw2483807853344231273 tw5374032919814126744 tw11656854490360999583 tw12362818781537559682 tw5769438123621729794 tw14722839357461514178 tw11308368707633041831 tw2730888058741295951 tw5377683800169133716 tw10671262763327167671 tw12065002402804802618 tw18087409381966783092 tw3357305283415085009 tw17283873188098962654 tw2492351076826067993 tw2579805184193775560 tw6552014670913011744 tw3513343628535999287 tw10001902517471363645 tw12938824575631070639 tw14737321326297257832 tw12329414187958677415 tw6593333699484712878 tw9768844906005190007 tw11573320577501376302 tw7168574126862456894 tw7768136961331142301 tw16148602921418611850 tw13667761594726177881 tw10182377695637420568 tw18297302168827891758 tw3525186236794244739 tw18238167442619496112 tw4686440948674566951 tw17136490459763290024 tw18101653110571092564 tw6793112584578770462 tw18245722461484379641 tw17304641912787720965 tw17534086769610007953 tw4272149027490085304 tw15297605959729135114 tw1455364755998178997 tw412919684568290099 tw12387230582021694896 tw8408064646923215726 tw3456998516611910329 tw13053151223384379818 tw10314018486236995959 tw16365318721483409584 tw4764615085695901333 tw5940214887857318944 tw2765805114679964212 tw16988499176971515082 tw1761614398403424575 tw13629330037629299663 tw1972449929695620411 tw5405212364968322818 tw235960419522593138 tw4920489769899379102 tw15811749361580787369 tw16637644999882218945 tw12221859415448385545 tw6725705014138151741 tw5703032525575579813 tw17813162509997403055 tw11422573947364501078 tw2098593836462864920 tw4037690626850739255 tw1129554422833931840 tw4295177030581105335 tw421756209593747388 tw2727042419422669468 tw7133874074898704217 tw14289152410303981611 tw7453520352002028957 tw9218770028600176204 tw12270954133080303577 tw12571376021679431637 tw59096556004981401 tw16333917089977446736 tw10323544176267130896 tw11774508035435187214 tw9730686177245788588 tw949189729598372416 tw10101631036324623680 tw1816569996016678635 tw10387093292059738523 tw6446272211592928836 tw16816803930352566631 tw4086830441509551360 tw8819532990069460186 tw651207950910169757 tw3196709768920745477 tw15533060123015271409 tw11567473201695854857 tw15643038920749187389 tw11325732471438478805 tw3722245984921925392 tw2762925129093325576 tw2928117491619611576 tw13204033451929215545 tw7598773552230302562 tw1136058953321354355 tw10952131177813275173 tw459430010833371136 tw8545089684055572631 tw9029415746328170157 tw3265831397320897685 tw8174768662576056351 tw2842880454639846648 tw2490011633171344154 tw3219226382003450515 tw16868812513521244657 tw16722852115962520348 tw13428979386797212901 tw4691651483543506270 tw807293185279155655 tw9117996260518776238 tw8080354000266693676 tw12257907072737215216 tw8943657214448181422 tw1916965800129374826 tw2734786702816070519 tw2794568910596305902 tw13461575110350801585 tw12290551818957587239 tw15859827017010801945 tw10510739549757420377 tw14671343317962968847 tw8295571629528475182 tw3380773627956501431 tw17786300786222016762 tw13490327696974763796 tw10090592578691579742 tw4769938845544956988 tw594581327629326181 tw11098916098341077373 tw3770686479100188060 tw4528738976889184956 tw14089949922172831480 tw8775508249693471664 tw2707455182389656147 tw17516414907151229679 tw17454806829684894958 tw4293572398948938106 tw18282069003458149104 tw520049591407328819 tw17850256590377475283 tw9225330019629768431 tw5689932218720244235 tw1473251626140915498 tw3146033296674057704 tw9505444880328082618 tw1122534661560891153 tw16947274360089462227 tw13710863707703885177 tw15855940755365016150 tw5940096850621142533 tw433491476878490731 tw14752835001081197544 tw2204755706212298935 tw4448890716380476149 tw9718812909231807631 tw10279806678685826644 tw15779026608454471789 tw12685129795516680365 tw10041252791679011011 tw3660831506386172840 tw12777447819471209772 tw4778576092681361058 tw13393938788666040383 tw2175335283242438776 tw16593555806576558223 tw12357313762500980987 tw9584243064656244693 tw16312962157332048824 tw16256000811745368657 tw9049811834890518234 tw9206428766748525921 tw16700095492089735385 tw13464753881339631348 tw10530403576709175280 tw5271905486702723627 tw2351206247533719888 tw10929344093811181325 tw12346445871910112638 tw9910579329875833789 tw4722241198265347309 tw12367627755203234 tw7987502599857604830 tw4570306730935740287 tw15183396470734473595 tw15772167747803290804 tw6556668970582343110 tw1295625833158906326 tw2989122439440621748 tw11613782494022258853 tw13705077452001049350 tw16156300515043326564 tw5691428461299839291 tw5537372991736073745 tw16483950539995435154 tw9751058684970176064 tw7219430126114112901 tw481313616117655525 tw1282489716797301349 tw1241484829663143144 tw8849892317554152213 tw9385560080385693567 tw8161771238201345642 tw3245528522555590398 tw17547814470453429344 tw15298853198991047788 tw11312201873709178222 tw6658613744472775689 tw16970655516964246759 tw2131360739000788277 tw4766770012494556575 tw3705778557776647601 tw10275220823965137546 tw5553349827211223981 tw15630753888847264483 tw18246466055017526422 tw17138671653221041098 tw15896010835245273131 tw10753691284665219003 tw8858501705041925184 tw4321715677783818180 tw13867584470429336146 tw11473629432608818080 tw5177602070844716221 tw7137263196800413876 tw17898366868214263662 tw1976750483369816281 tw6062832073927386793 tw4823611194444916400 tw2665266831645190439 tw2649168231275569652 tw18314205523147719743 tw17094117701642719870 tw11779880071123424480 tw9277664049559595692 tw16514346005568671513 tw10621334587008741396 tw6916898416276815806 tw6905360839239995142 tw2166656588230640641 tw14149900657539279232 tw16266450501795730938 tw6125412707052470163 tw2006741081736694981 tw2631878830674655328 tw16977382262145393761 tw15713774724882563968 tw10576925033685181609 tw9031018688364082379 tw3457255078044758649 tw17951436938344664531 tw17315852530441340212 tw11207813788792430421 tw17149934240900022773 tw4277733456237706456 tw2743266440669217806 tw14769791415723220870 tw8871298841929780718 tw5008882663810645343 tw4192320225800996443 tw18125755824285640576 tw14816570204469164819 tw6065625605833640489 tw6820211608335847154 tw12556640414369154976 tw12895653040026163032 tw11375158970144744989 tw11368159090193620758 tw18093179573192141639 tw14216060609530655478 tw16058006313565478199 tw6079049802842357874 tw10793708292251860082 tw7763614303931160943 tw5354865955657454344 tw4036920968055352992 tw3648606957602964158 tw3576110413164742984 tw2488631757467945124 tw17304429489708106220 tw14161290384110089141 tw5065689415914564881 tw13569921343102554159 tw10234317093257646367 tw9448774814309263946 tw66446211914260163 tw6032964943521821153 tw17826082305415595393 tw170306951308103648 tw12622160055284843325 tw15414467280470680833 tw13407313037827441592 tw5981924776366075373 tw12103534305283544200 tw10219121599100652439 tw3840270645025966644 tw15167553449773335822 tw14978740312413355507 tw5341774237871762136 tw6788011691926130017 tw6289126082188396038 tw16647273037010115283 tw16589970729252534563 tw16011923270829512103 tw11583370330106769522 tw11174802716393399331 tw7234465024678206752 tw9294724864483926068 tw18254571934103136396 tw12686063632470113176 tw14808173962418262237 tw6897788257517786459 tw2183521584269064033 tw8055813968907699352 tw7388216280814431113 tw10216309082304848317 tw9671471708922905686 tw9494524874799375074 tw946779391876623538 tw9224778710806063205 tw9211860169571432502 tw9083942650989829724 tw9040326660576763136 tw9000401758672515239 tw8962943052582125042 tw8877654820942589928 tw8867285906415658088 tw874514857011408588 tw8449702330222321505 tw8130466146826413302 tw8129364647098777635 tw8044276957318387947 tw8006699640979962217 tw7986903689057359687 tw7855647175674974614 tw7755575032143498699 tw7749138857868663916 tw7722799232839295493 tw7713383494287256220 tw7155507313070875926 tw7108385978355247308 tw7065172304590348994 tw6970783071459382584 tw6917579301918581440 tw683005133438497686 tw6746592458224076403 tw6429874072550774038 tw6193922913589417106 tw6098902842795989567 tw5883266824402643326 tw5767100677217775918 tw5702181821271359913 tw559824355057911307 tw5573505141807643733 tw5531898720797142915 tw5197089857355575707 tw5119680960076488649 tw5038475339529278548 tw4964190595896364906 tw4857077969793306338 tw4789745446540107676 tw4759640426705609236 tw4620248076553263573 tw4460722917997837114 tw4360487622015263374 tw4355965664945167728 tw4302830438122736682 tw408805958722204022 tw3746975226584767752 tw3499469093521178827 tw3384162703738920422 tw3078151669423434408 tw2978468814908341429 tw2738300823348786859 tw2324250209846540237 tw226318281554783383 tw2246496615170310447 tw2155825995322081221 tw1880172151417882740 tw18423708115177422939 tw18367717232104886920 tw18361269250940649845 tw18219609290295884237 tw17995219732546654171 tw17837606212089560212 tw17796898250105468702 tw17720889845720470735 tw17704490568350058910 tw17317800732410682358 tw17283066794753953977 tw17272529626905064201 tw17220740480583922472 tw17214460479497712636 tw17167690555026584044 tw17150878721358574360 tw17138309331922523067 tw16916094523507756839 tw16915166938379070408 tw16878642538266179784 tw16824539167767977455 tw16812819785923861230 tw16488272112566625221 tw16408750677890814630 tw16333212419645081929 tw16278053562551434637 tw16147580538407719499 tw15909189509475770338 tw15494940144016893348 tw15248172583708656609 tw151540234673809813 tw15140627712987042101 tw15042331625783358631 tw14921175530636917794 tw14694523258186574067 tw14615313148810016869 tw14345890481308676643 tw14259787262033963691 tw14198552685567708789 tw14139277586071549861 tw14115855028350652841 tw1403704912399163936 tw13950724833959986686 tw13619081062431981108 tw13586883083063888563 tw13406383478633244838 tw13260665999260075609 tw1322022193722001401 tw13056517252429327988 tw1305246570025795 tw13025205597549161234 tw12961393050361069865 tw12944881426676235965 tw12753599518902586671 tw12683412502357336451 tw12671994291117304385 tw12392166027604194104 tw12174120361766079917 tw1196552161696256145 tw1186552862492770356 tw11858308688477953771 tw11620530423210141288 tw1151944375114290001 tw11487898402475106263 tw11480857819857921872 tw11425728304263376814 tw11320205774973048625 tw11188398891955983341 tw11154267586933069090 tw10954489344433631964 tw10553148887150769235 tw10497169306031650229 tw10375903678575696708 tw10299221582455692983 tw10220609005021251718:True)
set_option maxRecDepth 100000 in
set_option maxHeartbeats 0 in
theorem PySem.Challenge.cw_facework_k69_rows_that_are_stuck_holds : PySem.Challenge.rw_facework_k69_rows_that_are_stuck.Holds := by
 w_on;o_law;k_head;(case hw=>w_witness2)
 k_fill
 refine Fw.walk (l:=PySem.Challenge.rw_facework_k69_rows_that_are_stuck) rfl rfl (fun w h Y=>PySem.W.kIn_of Y) ?F
 case F=>
  intro w mg fa h KX G hmg
  refine' Fw.all_mk KX G hmg ?RB ?oH ?Bx ?Hw ?rA ?BJ ?RD ?Hx ?RG ?RJ ?RK ?oJ ?RL ?Hy ?RM ?aM ?cM ?mkM ?kcM ?nM0 ?nM1 ?nM2 ?nM3 ?nM4 ?nM5 ?mM0 ?aF ?cF ?mkF ?kcF ?nF0 ?nF1 ?mF0 ?aC ?cC ?mkC ?kcC ?nC0 ?nC1 ?nC2 ?mC0 ?mC1 ?mC2 ?aB ?cB ?mkB ?kcB ?nB0 ?nB1 ?mB0 ?aS ?aT ?aL ?aD ?a1 ?a2 ?a3 ?a4 ?aX ?kSS ?kTS ?kLS ?kDS ?kVS ?kNS ?xcS ?xiS ?kST ?kTT ?kLT ?kDT ?kVT ?kNT ?xcT ?xiT ?kSL ?kTL ?kLL ?kDL ?kVL ?kNL ?xcL ?xiL ?kSD ?kTD ?kLD ?kDD ?kVD ?kND ?xcD ?xiD ?vM ?ic ?hRk ?hRw ?d11 ?d14 ?d15 ?d16 ?d17 ?d19 ?d20 ?d21 ?d22 ?d28 ?d29 ?d30 ?d31 ?d32 ?d33 ?d34 ?d35 ?d36 ?d37 ?d38 ?d40 ?d41 ?d42 ?d43 ?d44 ?d46 ?d48 ?d49 ?d50 ?d51 ?d52 ?d53 ?d54 ?d55 ?d56 ?d57 ?d58 ?d59 ?d60 ?d61 ?d62 ?d63 ?d64 ?d65 ?d66 ?d67 ?d68 ?d69
  (case RB|oH|Bx|Hw|rA|BJ|RD|Hx|RG|RJ|RK|oJ|RL|Hy|RM|aM|mkM|kcM|aF|mkF|kcF|aC|mkC|kcC|aB|mkB|kcB|aS|aT|aL|aD|a1|a2|a3|a4|aX=>k_is)
  (case cM|cF|cC|cB=>refine' Fw.aaw ?pg ?hd ?po ?sa;(case pg=>k_is);(case hd=>k_is);(case po=>k_is);(case sa=>k_is))
  (case nM0|nM1|nM2|nM3|nM4|nM5|nF0|nF1|nC0|nC1|nC2|nB0|nB1=>refine' Fw.V7 ?n;(case n=>k_is))
  (case mM0|mF0|mC0|mC1|mC2|mB0=>refine' Fw.V6 ?a ?i ?l ?c ?k;(case a=>k_is);(case i=>k_is);(case l=>k_is);(case c=>k_is);(case k=>k_is))
  (case kSS|kTS|kLS|kDS|kVS|kNS|kST|kTT|kLT|kDT|kVT|kNT|kSL|kTL|kLL|kDL|kVL|kNL|kSD|kTD|kLD|kDD|kVD|kND=>kernel_rfl)
  (case xcS|xcT|xcL|xcD=>refine' Fw.aax ?xc0 ?xc1 ?xcb ?xc2 ?xc3 ?xc4 ?xc5 ?xcl;(case xc0=>k_is);(case xc1=>k_is);(case xcb=>k_is);(case xc2=>k_is);(case xc3=>k_is);(case xc4=>k_is);(case xc5=>k_is);(case xcl=>k_is))
  (case xiS|xiT|xiL|xiD=>refine' Fw.Ry ?l1 ?n1 ?n2 ?t1 ?l2 ?b1 ?b2;(case l1=>k_is);(case n1=>kernel_rfl);(case n2=>k_is);(case t1=>kernel_rfl);(case l2=>k_is);(case b1=>decide+kernel);(case b2=>decide+kernel))
  (case vM=>refine' Fw.V5 ?a ?e;(case a=>k_is);(case e=>decide+kernel))
  (case ic=>refine' Fw.aay ?i1 ?i2 ?i3 ?i4 ?i5 ?i6 ?i7 ?i8 ?i9;(case i1=>k_is);(case i2=>k_is);(case i3=>k_is);(case i4=>k_is);(case i5=>kernel_rfl);(case i6=>kernel_rfl);(case i7=>kernel_rfl);(case i8=>kernel_rfl);(case i9=>kernel_rfl))
  (case hRk=>refine' Fw.V8 ?a ?a0 ?a1 ?a2 ?a3 ?dl ?ds ?dx ?dp;(case a=>k_is);(case a0=>k_is);(case a1=>k_is);(case a2=>k_is);(case a3=>k_is);(case dl=>k_is);(case ds=>decide+kernel);(case dx=>exact⟨rfl,rfl,rfl⟩);(case dp=>exact .cons ⟨rfl,⟨_,rfl⟩,rfl⟩ (.cons ⟨rfl,⟨_,rfl⟩,rfl⟩ (.cons ⟨rfl,⟨_,rfl⟩,rfl⟩ (.cons ⟨rfl,⟨_,rfl⟩,rfl⟩ .nil)))))
  (case hRw=>refine' Fw.V9 ?a ?a0 ?a1 ?a2 ?a3 ?a4 ?a5 ?a6 ?a7 ?a8 ?a9 ?a10 ?a11 ?a12 ?a13 ?a14 ?dl ?ds ?dx ?dp;(case a=>k_is);(case a0=>k_is);(case a1=>k_is);(case a2=>k_is);(case a3=>k_is);(case a4=>k_is);(case a5=>k_is);(case a6=>k_is);(case a7=>k_is);(case a8=>k_is);(case a9=>k_is);(case a10=>k_is);(case a11=>k_is);(case a12=>k_is);(case a13=>k_is);(case a14=>k_is);(case dl=>k_is);(case ds=>decide+kernel);(case dx=>exact⟨rfl,rfl,rfl⟩);(case dp=>exact .cons ⟨rfl,⟨_,rfl⟩,rfl⟩ (.cons ⟨rfl,⟨_,rfl⟩,rfl⟩ (.cons ⟨rfl,⟨_,rfl⟩,rfl⟩ (.cons ⟨rfl,⟨_,rfl⟩,rfl⟩ (.cons ⟨rfl,⟨_,rfl⟩,rfl⟩ (.cons ⟨rfl,⟨_,rfl⟩,rfl⟩ (.cons ⟨rfl,⟨_,rfl⟩,rfl⟩ (.cons ⟨rfl,⟨_,rfl⟩,rfl⟩ (.cons ⟨rfl,⟨_,rfl⟩,rfl⟩ (.cons ⟨rfl,⟨_,rfl⟩,rfl⟩ (.cons ⟨rfl,⟨_,rfl⟩,rfl⟩ (.cons ⟨rfl,⟨_,rfl⟩,rfl⟩ (.cons ⟨rfl,⟨_,rfl⟩,rfl⟩ (.cons ⟨rfl,⟨_,rfl⟩,rfl⟩ (.cons ⟨rfl,⟨_,rfl⟩,rfl⟩ (.cons ⟨rfl,⟨_,rfl⟩,rfl⟩ (.cons ⟨rfl,⟨_,rfl⟩,rfl⟩ (.cons ⟨rfl,⟨_,rfl⟩,rfl⟩ (.cons ⟨rfl,⟨_,rfl⟩,rfl⟩ .nil))))))))))))))))))))
  (case d11|d14|d15|d16|d17|d19|d20|d21|d22|d28|d29|d30|d31|d32|d33|d34|d35|d36|d37|d38|d40|d41|d42|d43|d44|d48|d49|d50|d51|d52|d53|d54|d55|d56|d57|d58|d59|d60|d61|d62|d63|d64|d65|d66|d67|d68|d69=>refine' Fw.aav ?a ?l ?c ?k;(case a=>k_is);(case l=>k_is);(case c=>k_is);(case k=>k_is))
  (case d46=>refine' Fw.Wa ?a ?l ?c ?k ?t;(case a=>k_is);(case l=>k_is);(case c=>k_is);(case k=>k_is);(case t=>k_is))
