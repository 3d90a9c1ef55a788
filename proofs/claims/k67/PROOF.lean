import PyProof.Rows.All
import Wide.All
import OpenK.AllK
import Wide.FinOn
import Lean
import PyProof.EqAt
import PyProof.EqKinds
import PyProof.TupleCall
import PyProof.StationsW
import OpenK.KOwn
import PyProof.ExcBaseAll.ValueError
import PyProof.NsDelKeeps
import PyProof.RulesAs
import KE.KLam
import KE.KNest
import KE.KIsAll
import PyProof.ExcArgs
import PyProof.CompUse
import KE.KRevIter
import PyProof.CollectWalk
import PyProof.TupleOfSeq
import KE.KDictList
import PyProof.FitsBits
import PyProof.TupleOfGen
import PyProof.Rows.CountFlat
import PyProof.FactsAll.list_3
import PyProof.FitsInt
import PyProof.NeKinds
import PyProof.ZipIter
import PyProof.EnumFor
import PyProof.Draws
import PySem.Challenge.RW_facework_k67_blocks_and_cases
set_option bootstrap.genMatcherCode false
set_option genSizeOf false
noncomputable section
open PySem.W(Frag nsIn keepIn kitOne findIn fnOf mroIn instObj hideAll takesIn specialIn codeIn makesIn plainGet kitAny lookIn hasDictIn)
set_option Elab.async false
set_option linter.all false
set_option maxRecDepth 100000
def abI:=@PySem.wpAny_bind
def ahI:=@PySem.wpAny_pure
def ahJ:=@decide_eq_false
def ahK:=@if_pos
def ahL:=@if_neg
def ahM:=@of_decide_eq_true
def ahN:=@decide_eq_true
def ahO:=@Ne.symm
def ahP:=@or_false
def ahQ:=@Option.some.injEq
def ahR:=@Option.some.inj
def ahS:=@PySem.boot_len
def ahT:=@False.elim
def ahU:=@PySem.wpAny_field
def ahV:=@PySem.wpAny_holding
theorem ahW {α}{l:List α}{i a}:l[i]?=some a->∃h:i<l.length,l[i]=a:=List.getElem?_eq_some_iff.mp
def afu:=@List.length_append
def afv:=@Nat.le_refl
def afw:=@List.getElem?_eq_getElem
def afx:=@PySem.Heap.get?_push_of_some
def afy:=@Nat.le_trans
def afz:=@List.length_singleton
def afA:=@List.mem_cons_of_mem
def afB:=@PySem.Heap.lt_size
def afC:=@List.getElem?_append_left
def afD:=@Bool.false_ne_true
def afE:=@List.mem_cons_self
def afF:=@Nat.le_add_right
def afG:=@List.size_toArray
def afH:=@Nat.lt_of_lt_of_le
def afI:=@List.mem_append_right
def afJ:=@List.getElem?_map
def afK:=@PySem.Heap.get?_push_size
def afL:=@List.length_map
def afM:=@List.append_assoc
def afN:=@List.mem_singleton
def afO:=@Nat.succ_le_succ
def afP:=@List.not_mem_nil
def afQ:=@Nat.lt_irrefl
def afR:=@Nat.lt_of_lt_of_eq
def afS:=@List.getElem?_append_right
def afT:=@Nat.le_of_lt
def afU:=@List.mem_cons
def afV:=@Nat.ne_of_lt
def afW:=@List.map_cons
def afX:=@Nat.le_add_left
def afY:=@Nat.zero_le
def afZ:=@List.lookup_cons
def af0:=@List.map_append
def af2:=@Nat.add_assoc
def af3:=@List.drop_eq_getElem_cons
def af4:=@List.length_cons
def af5:=@Int.toNat_natCast
def af6:=@PySem.Heap.get?_update_other
def af7:=@PySem.Heap.get?_update_self
def af8:=@List.find?_cons
def af9:=@List.length_take
def af':=@PySem.F.plainAttrs_list
def aga:=@Nat.le_succ_of_le
def agb:=@Nat.le_succ
def agc:=@PySem.W.kia_one
def agd:=@List.mem_append
def agf:=@List.length_reverse
def agg:=@List.mem_append_left
def agh:=@List.append_nil
def agi:=@List.cons_append
def agj:=@PySem.Heap.size_push
def agk:=@List.mem_of_getElem?
def agl:=@Nat.le_max_right
def agm:=@PySem.F.excBase_ValueError
def agn:=@List.take_add_one
def ago:=@Nat.le_antisymm
def agp:=@Option.map_some
def agq:=@Nat.le_max_left
def agr:=@List.getElem?_eq_none
def ags:=@Bool.and_eq_true
def agt:=@Bool.false_eq_true
def agu:=@List.take_length
def agv:=@List.dropLast_concat
def agw:=@Nat.le_of_succ_le_succ
def agx:=@List.getElem_mem
def agy:=@Nat.le_of_eq
def agz:=@Nat.add_sub_cancel_left
def agA:=@PySem.F.slot_list_index
def agB:=@List.mem_map_of_mem
def agC:=@List.getElem?_range
def agD:=@Nat.lt_succ_self
def agE:=@Nat.lt_of_le_of_lt
def agF:=@Bool.eq_iff_iff
def agG:=@List.length_replicate
def agH:=@List.nodup_cons
def agI:=@List.any_cons
def agJ:=@List.reverse_cons
def agK:=@List.getElem?_set_ne
def agL:=@List.reverse_reverse
def agM:=@Nat.ne_of_gt
def agN:=@List.filterMap_cons
def agO:=@List.replicate_succ
def agP:=@PySem.W.callWith_K
def agQ:=@List.nil_append
def agR:=@List.getElem?_set_self
def agS:=@List.nodup_nil
def agT:=@PySem.W.looks_findIn
def agU:=@List.length_drop
def agV:=@List.getElem_toArray
def agW:=@List.drop_length
def agX:=@PySem.W.hideAll_get
def agY:=@List.length_set
def agZ:=@List.forIn_cons
def ag0:=@PySem.W.of_hideAll
def ag1:=@Nat.zero_add
def ag2:=@List.getElem?_replicate
def ag3:=@List.append_cancel_left
def ag4:=@PySem.F.type_list_index
def ag5:=@Nat.lt_add_of_pos_right
def ag6:=@List.flatten_cons
def ag7:=@PySem.W.cellsFrom_some
def ag8:=@List.take_of_length_le
def ag9:=@List.sublist_cons_self
def ag':=@List.drop_eq_nil_of_le
def aha:=@Bool.or_false
def ahb:=@List.take_append_drop
def ahc:=@List.of_mem_zip
def ahd:=@List.foldl_cons
def ahe:=@Nat.sub_self
def ahf:=@List.eq_nil_of_length_eq_zero
def ahg:=@Array.length_toList
def ahh:=@PySem.W.plainGet_of
def ahi:=@List.reverse_append
def ahj:=@List.getElem_of_mem
def ahk:=@List.forIn_nil
def ahl:=@Bool.false_or
def ahm:=@List.perm_append_singleton
def ahn:=@List.sum_cons
def aho:=@Nat.lt_succ_of_lt
def ahp:=@Nat.lt_succ_of_le
def ahq:=@List.getLast?_eq_getElem?
def ahr:=@List.getElem?_eq_none_iff
def ahs:=@PySem.F.args_list_index_2
def aht:=@Array.getElem?_eq_getElem
def ahu:=@List.getElem?_zip_eq_some
def ahv:=@PySem.F.args_tuple_add_2
def ahw:=@List.map_nil
def ahx:=@Nat.lt_trans
def ahy:=@PySem.F.slot_list_extend
def ahz:=@PySem.F.type_list_extend
def ahA:=@PySem.F.entry_list_index
def ahB:=@PySem.F.entry_tuple_add
def ahC:=@Int.eq_ofNat_of_zero_le
def ahD:=@PySem.F.slot_list_count
def ahE:=@Nat.min_eq_left
def ahF:=@Nat.not_lt_zero
def ahG:=@List.take_zero
def ahH:=@List.foldl_nil
open PySem PySem.Spec PyProof.Rows
abbrev aj:=Addr
abbrev ak:=Value
abbrev ao:=Shared
abbrev aq:=Around
abbrev aA:=Program
abbrev aG:=World
abbrev aH:=Expr
abbrev aJ:=Stmt
abbrev aK:=Heap
abbrev aN:=Frag
abbrev aO(α:Type):=Option α
abbrev aP(α:Type):=List α
namespace L2
abbrev Key:=Sum Int Str
noncomputable def zH:Key->ak->Bool
 |.inl k,v=>Value.isInt k v
 |.inr x,v=>Value.isStrOf x v
noncomputable def ad8 (w:aG):Key->Int
 |.inl k=>hashInt k
 |.inr x=>hashStr w x
theorem gA:∀{k:Key} {v:ak},zH k v=true->(∃i t,k=Sum.inl i/\v=Value.int i t)\/(∃x t,k=Sum.inr x/\v=Value.str x t)
 |.inl i,v,h=>by
  obtain⟨t,e⟩:=Value.isInt_shape (k:=i) (v:=v) h;exact .inl ⟨i,t,rfl,e⟩
 |.inr x,v,h=>by
  obtain⟨t,e⟩:=Value.isStrOf_shape (x:=x) (v:=v) h;exact .inr ⟨x,t,rfl,e⟩
theorem Mx (i:Int)(t:Tok):zH (.inl i) (.int i t)=true:=by simp[zH,Value.isInt]
theorem Mz (x:Str)(t:Tok):zH (.inr x) (.str x t)=true:=by simp[zH,Value.isStrOf]
theorem aai (a b:Int):decide ((Sum.inl a:Key)=Sum.inl b)=(a==b):=by
 by_cases e:a=b
 ·subst e;simp
 ·have h:¬(Sum.inl a:Key)=Sum.inl b:=λq=>e (Sum.inl.inj q)
  rw[ahJ h];exact(beq_eq_false_iff_ne.mpr e).symm
theorem aaj (a b:Str):decide ((Sum.inr a:Key)=Sum.inr b)=decide (a=b):=by
 by_cases e:a=b
 ·subst e;simp
 ·have h:¬(Sum.inr a:Key)=Sum.inr b:=λq=>e (Sum.inr.inj q)
  rw[ahJ h,ahJ e]
theorem aak (a:Int)(b:Str):decide ((Sum.inl a:Key)=Sum.inr b)=false:=ahJ (λq=>nomatch q)
theorem aal (a:Str)(b:Int):decide ((Sum.inr a:Key)=Sum.inl b)=false:=ahJ (λq=>nomatch q)
noncomputable def iu (prog:aA)(w:aG):PySem.KeyKind prog w Key where
 is:=zH
 hash:=ad8 w
 inj:=λv a b ha hb=>by
  rcases gA ha with ⟨i,t,rfl,rfl⟩|⟨x,t,rfl,rfl⟩
  ·rcases gA hb with ⟨j,u,rfl,e⟩|⟨y,u,rfl,e⟩
   ·injection e with e1 _;rw[e1]
   ·exact nomatch e
  ·rcases gA hb with ⟨j,u,rfl,e⟩|⟨y,u,rfl,e⟩
   ·exact nomatch e
   ·injection e with e1 _;rw[e1]
 byValue:=λk v h=>by
  rcases gA h with ⟨i,t,rfl,rfl⟩|⟨x,t,rfl,rfl⟩<;>rfl
 pyHash:=λhv h=>by
  rcases gA hv with ⟨i,t,rfl,rfl⟩|⟨x,t,rfl,rfl⟩
  ·exact wpAny_pyHash_int h
  ·exact wpAny_pyHash_str h
 eqBool:=λhu hv h=>by
  rcases gA hu with ⟨i,t,rfl,rfl⟩|⟨x,t,rfl,rfl⟩
  ·rcases gA hv with ⟨j,u,rfl,rfl⟩|⟨y,u,rfl,rfl⟩
   ·rw[aai]at h;exact wpAny_eqBool_int h
   ·rw[aak]at h;exact SeqAt.EqAt.int_str i t y u _ _ _ _ h
  ·rcases gA hv with ⟨j,u,rfl,rfl⟩|⟨y,u,rfl,rfl⟩
   ·rw[aal]at h;exact SeqAt.EqAt.str_int x t j u _ _ _ _ h
   ·rw[aaj]at h;exact wpAny_eqBool_str h
 «strs»:=λk x t v h=>by
  rcases gA h with ⟨i,u,rfl,e⟩|⟨y,u,rfl,e⟩
  ·exact nomatch e
  ·injection e with e1 _
   subst e1;cases v<;>rfl
theorem Eh (prog:aA)(w:aG)(i:Int)(t:Tok):(iu prog w).is (.inl i) (.int i t)=true:=Mx i t
theorem Ei (prog:aA)(w:aG)(x:Str)(t:Tok):(iu prog w).is (.inr x) (.str x t)=true:=Mz x t
inductive V where
 |non|bl (b:Bool)|int (i:Int)|str (x:Str)|MJ (b:Array UInt8)|flt (b:UInt64)|ref (a:aj)|ty (n:String)
 deriving DecidableEq
def RelV:V->ak->Prop
 |.non,u=>u=Value.none
 |.bl b,u=>u=Value.bool b
 |.int i,u=>∃t,u=Value.int i t
 |.str x,u=>∃t,u=Value.str x t
 |.MJ b,u=>∃t,u=Value.bytes b t
 |.flt b,u=>∃t,u=Value.float b t
 |.ref a,u=>u=Value.ref a
 |.ty n,u=>u=Value.type n
abbrev Vals:List V->List ak->Prop:=Paired RelV
theorem Vals.length {xs:aP V}{us:aP ak}(r:Vals xs us):xs.length=us.length:=Paired.length r
theorem Vals.get {xs:List V}{us:List ak}{i:Nat}{x:V}(h:Vals xs us)(e:xs[i]?=some x):∃u,us[i]?=some u/\RelV x u:=by
 induction h generalizing i with
 |nil=>simp at e
 |cons r _ ih=>cases i with
  |zero=>cases e;exact⟨_,rfl,r⟩
  |succ i=>exact(ih (i:=i) e:)
theorem Vals.set {x:V}{u:ak}(r:RelV x u){xs:List V}{us:List ak}(i:Nat)(h:Vals xs us):Vals (xs.set i x) (us.set i u):=by
 induction h generalizing i with
 |nil=>exact .nil
 |cons q t ih=>cases i with
  |zero=>exact .cons r t
  |succ i=>exact .cons q<|ih i
theorem Vals.append {xs ys:List V}{us ws:List ak}(h:Vals xs us)(s:Vals ys ws):Vals (xs++ys) (us++ws):=by
 induction h with
 |nil=>exact s
 |cons r _ ih=>exact .cons r ih
theorem Vals.take {xs:List V}{us:List ak}(n:Nat)(h:Vals xs us):Vals (xs.take n) (us.take n):=by
 induction h generalizing n with
 |nil=>cases n<;>exact .nil
 |cons r _ ih=>cases n with
  |zero=>exact .nil
  |succ n=>exact .cons r<|ih n
theorem Vals.drop {xs:List V}{us:List ak}(n:Nat)(h:Vals xs us):Vals (xs.drop n) (us.drop n):=by
 induction h generalizing n with
 |nil=>cases n<;>exact .nil
 |cons r t ih=>cases n with
  |zero=>exact .cons r t
  |succ n=>exact ih n
def nJ:Option V->Option ak->Prop
 |some v,some u=>RelV v u
 |none,none=>True
 |_,_=>False
def KV {κ:Type}:List (κ×V)->List (κ×ak)->Prop:=Paired λ(p:κ×V) (q:κ×ak)=>p.1=q.1/\RelV p.2 q.2
noncomputable def kV:Key->V
 |.inl i=>.int i
 |.inr x=>.str x
inductive HO where
 |lst (xs:List V)
 |tup (xs:List V)
 |dK (cI:List (Key×V))|dT (cI:List (List Key×V))
 |set (S:Int->Bool) (n:Nat)
 |ins (C dx:aj) (fs:List (Str×V))
 |own (x:aj)
 |xd (fs:List (Str×V))
 |met (f x:aj)
 |rng (lo hi:Int)
 |Hx (o:Obj) (u:HO)
 |YF (ps:Array ak)
 |ext (φ:aK->Prop)
abbrev Hp:=aj->Option HO
noncomputable def upd (H:Hp)(a:aj)(o:HO):Hp:=λb=>if b=a then some o else H b
theorem bA {H:Hp}{a:aj}{o:HO}:upd H a o a=some o:=by unfold upd;rw[ahK rfl]
theorem bV {H:Hp}{a b:aj}{o:HO}(h:b≠a):upd H a o b=H b:=by unfold upd;rw[ahL h]
theorem oH {H:Hp}{a:aj}{o u:HO}:upd (upd H a o) a u=upd H a u:=by
 funext b;unfold upd;split<;>rfl
theorem iY {H:Hp}{a b:aj}{o u:HO}(h:H a=some o)(h':H b=some u)(d:o≠u):a≠b:=by
 intro e;subst e;rw[h]at h';exact d<|ahR h'
theorem bY {H:Hp}{a b:aj}{o:HO}(h:H a=some o)(h':H b=none):a≠b:=by
 intro e;subst e;rw[h]at h';cases h'
section
variable (P:aA)(w:aG)
def fQ (H:Hp)(h:aK)(a:aj):HO->Prop
 |.lst xs=>xs.length<=sizeLine/\∃(bh:List ak) (n:Nat),Vals xs bh/\h.get? a=some {cls:=.type "list",data:=.seq bh.toArray n}
 |.tup xs=>xs.length<=sizeLine/\∃bh:List ak,Vals xs bh/\IsTup h a bh.toArray
 |.dK cI=>cI.length<=sizeLine/\(a==sysModules)=false/\∃vs,KV cI vs/\h.DictOf (iu P w) a vs
 |.dT cI=>cI.length<=sizeLine/\(a==sysModules)=false/\∃xs:List (List Key×aj×ak),
   Paired (λ(p:List Key×V) (q:List Key×aj×ak)=>p.1=q.1/\H q.2.1=some (.tup<|p.1.map kV)/\RelV p.2 q.2.2) cI xs/\
   ∃o es ep,h.get? a=some o/\o.ExactDict/\o.data=.dict es ep/\es.toList=xs.map (entryOfKey<|tupleKind (iu P w))/\(xs.map (·.1)).Nodup
 |.set S n=>h.SetOf (intKind P w) a S n
 |.ins C dx fs=>H dx=some (.own a)/\fs.length<=1000/\dx≠a/\h.get? a=some (instObj C dx)/\
   ∃mA,h.Ns1 dx mA/\(∀f,nJ (fs.lookup f)<|mA f)/\PySem.Within mA (fs.map (·.1))
 |.own _=>∃o,h.get? a=some o
 |.xd fs=>∃mA,h.Ns1 a mA/\∀f,nJ (fs.lookup f) (mA f)
 |.rng lo hi=>∃t u v,h.get? a=some {cls:=.type "range",data:=.fields #[.int lo t, .int hi u, .int 1 v]}
 |.Hx o u=>h.get? a=some o/\fQ H h a u
 |.YF ps=>h.get? a=some {cls:=.none,data:=.fields ps}
 |.met f x=>h.get? a=some (PySem.W.methodObj (.ref f)<|.ref x)
 |.ext φ=>φ h/\(∃o,h.get? a=some o)/\∀h1 h2:aK,φ h1->(∀o,h1.get? a=some o->h2.get? a=some o)->φ h2
def mj (H:Hp)(h:aK):Prop:=∀a o,H a=some o->fQ P w H h a o
end
section
variable {P:aA}{w:aG}{H H':Hp}{h h':aK}{a:aj}{o:HO}
theorem fQ.lt (x:fQ P w H h a o):a<h.objs.size:=by
 cases o with
 |lst xs=>obtain⟨_,_,_,_,e⟩:=x;exact afB e
 |tup xs=>obtain⟨_,_,_,p⟩:=x;exact p.lt
 |dK cI=>obtain⟨_,_,_,_,o,_,_,e,_⟩:=x;exact afB e
 |dT cI=>obtain⟨_,_,_,_,o,_,_,e,_⟩:=x;exact afB e
 |set S n=>obtain⟨o,_,_,_,e,_⟩:=x;exact afB e
 |ins C dx fs=>obtain⟨_,_,_,e,_⟩:=x;exact afB e
 |own y=>obtain⟨_,e⟩:=x;exact afB e
 |xd fs=>obtain⟨_,⟨_,_,_,e,_⟩,_⟩:=x;exact afB e
 |rng lo hi=>obtain⟨_,_,_,e⟩:=x;exact afB e
 |Hx ob u=>obtain⟨e,_⟩:=x;exact afB e
 |YF ps=>exact afB<|show h.get? a=some _ from x
 |met f y=>exact afB<|show h.get? a=some _ from x
 |ext φ=>obtain⟨_,⟨_,e⟩,_⟩:=x;exact afB e
theorem Paired.aci {α β:Type}{F G:α->β->Prop}{l₁:List α}{l₂:List β}(h:Paired F l₁ l₂)(f:∀a b,F a b->G a b):Paired G l₁ l₂:=by
 induction h with
 |nil=>exact .nil
 |cons r _ ih=>exact .cons (f _ _ r) ih
theorem fQ.stay (x:fQ P w H h a o)(k:∀b u,(b=a\/H b=some (.own a))->h.get? b=some u->h'.get? b=some u)
  (ho:∀b,H b=some (.own a)->H' b=some (.own a)) (ht:∀b xs,H b=some (.tup xs)->H' b=some (.tup xs)):fQ P w H' h' a o:=by
 induction o with
 |lst xs=>obtain⟨z,bh,n,r,e⟩:=x;exact⟨z,bh,n,r,k _ _ (.inl rfl) e⟩
 |tup xs=>obtain⟨z,bh,r,ob,e,c⟩:=x;exact⟨z,bh,r,ob,k _ _ (.inl rfl) e,c⟩
 |dK cI=>obtain⟨z,y,vs,r,ob,es,ep,e,c⟩:=x;exact⟨z,y,vs,r,ob,es,ep,k _ _ (.inl rfl) e,c⟩
 |dT cI=>
  obtain⟨z,y,xs,r,ob,es,ep,e,c⟩:=x;exact⟨z,y,xs,Paired.aci r λp q z=>⟨z.1,ht _ _ z.2.1,z.2.2⟩,ob,es,ep,k _ _ (.inl rfl) e,c⟩
 |set S n=>obtain⟨ob,es,ep,t,e,c⟩:=x;exact⟨ob,es,ep,t,k _ _ (.inl rfl) e,c⟩
 |ins C dx fs=>
  obtain⟨d,z,ne,e,mA,⟨od,es,ep,e2,c⟩,r⟩:=x;exact⟨ho _ d,z,ne,k _ _ (.inl rfl) e,mA,⟨od,es,ep,k _ _ (.inr d) e2,c⟩,r⟩
 |own y=>obtain⟨ob,e⟩:=x;exact⟨ob,k _ _ (.inl rfl) e⟩
 |xd fs=>obtain⟨mA,⟨od,es,ep,e,c⟩,r⟩:=x;exact⟨mA,⟨od,es,ep,k _ _ (.inl rfl) e,c⟩,r⟩
 |rng lo hi=>obtain⟨t,u,v,e⟩:=x;exact⟨t,u,v,k _ _ (.inl rfl) e⟩
 |Hx ob u ih=>obtain⟨e,q⟩:=x;exact⟨k _ _ (.inl rfl) e,ih q⟩
 |YF ps=>
  have e:h.get? a=some {cls:=.none,data:=.fields ps}:=x;show h'.get? a=some {cls:=.none,data:=.fields ps};exact k a _ (.inl rfl) e
 |met f y=>
  have e:h.get? a=some (PySem.W.methodObj (.ref f)<|.ref y):=x;show h'.get? a=some (PySem.W.methodObj (.ref f)<|.ref y);exact k a _ (.inl rfl) e
 |ext φ=>obtain⟨p,⟨o,e⟩,st⟩:=x;exact⟨st _ _ p λo q=>k _ _ (.inl rfl) q,⟨o,k _ _ (.inl rfl) e⟩,st⟩
theorem mj.lt (x:mj P w H h)(e:H a=some o):a<h.objs.size:=(x a o e).lt
theorem mj.fresh (x:mj P w H h)(e:h.objs.size<=a):H a=none:=by
 cases q:H a with
 |none=>rfl
 |some u=>exact absurd (afH (x.lt q) e)<|afQ _
theorem mj.kept (x:mj P w H h)(k:∀b u,h.get? b=some u->h'.get? b=some u):mj P w H h':=λa o e=>
 (x a o e).stay (λb u _ q=>k b u q) (λ_ q=>q) λ_ _ q=>q
theorem mj.laid (x:mj P w H h)(k:∀b u,h.get? b=some u->h'.get? b=some u)(hp:h.objs.size<=a)(new:fQ P w (upd H a o) h' a o):mj P w (upd H a o) h':=λb u e=>by
 have hn:=x.fresh hp;by_cases hb:b=a
 ·subst hb;rw[bA]at e;cases e;exact new
 ·rw[bV hb]at e
  exact(x b u e).stay (λc v _ q=>k c v q) (λc q=>by rw[bV (bY q hn)];exact q) λc xs q=>by rw[bV (bY q hn)];exact q
end
def Rd (H:Hp)(a:aj)(u:HO):Prop:=H a=some u\/∃o,H a=some (.Hx o u)
theorem Rd.ok {P:aA}{w:aG}{H:Hp}{h:aK}{a:aj}{u:HO}(r:Rd H a u)(x:mj P w H h):fQ P w H h a u:=by
 rcases r with r|⟨o,r⟩
 ·exact x a u r
 ·obtain⟨_,q⟩:=x a _ r
  exact q
def Mut:Option HO->Prop
 |some (.lst _)=>True
 |some (.dK _)=>True
 |some (.dT _)=>True
 |some (.set _ _)=>True
 |some (.ins _ _ _)=>True
 |some (.ext _)=>True
 |_=>False
section
variable {P:aA}{w:aG}{H:Hp}{h h':aK}{x e:aj}{o':HO}
theorem mj.write (ok:mj P w H h)(mu:Mut (H x))(he:e=x\/H e=some (.own x))(k:∀b u,b≠e->h.get? b=some u->h'.get? b=some u)(heo:∃u,h'.get? e=some u)
  (new:fQ P w (upd H x o') h' x o'):mj P w (upd H x o') h':=λb u q=>by
 have Hy:∀c y,H c=some (.own y)->c≠x:=λc y r z=>by subst z;rw[r]at mu;exact mu
 have ad9:∀c xs,H c=some (.tup xs)->c≠x:=λc xs r z=>by subst z;rw[r]at mu;exact mu
 by_cases hb:b=x
 ·subst hb;rw[bA]at q;cases q;exact new
 ·rw[bV hb]at q
  by_cases hbe:b=e
  ·have q':H b=some (.own x):=by
    rcases he with z|z
    ·exact absurd (hbe.trans z) hb
    ·rw[hbe];exact z
   rw[q]at q';cases q';obtain⟨v,hv⟩:=heo;exact⟨v,by rw[hbe];exact hv⟩
  ·refine(ok b u q).stay (λc v hc r=>k c v ?_ r) (λc r=>by rw[bV (Hy c b r)];exact r) λc xs r=>by rw[bV (ad9 c xs r)];exact r
   rcases hc with rfl|hc
   ·exact hbe
   ·rintro rfl
    rcases he with z|z
    ·exact Hy c b hc z
    ·rw[hc]at z;cases z;exact hb rfl
end
structure Un (fs ex:List aj)(H H':Hp)(h h':aK):Prop where
 keep:∀b o,h.get? b=some o->H b=none->b∉fs->b∉ex->h'.get? b=some o
 slot:∀b o,h.get? b=some o->H b=none->b∈fs->b∉ex->∃sl,h'.get? b=some {o with slots:=sl}
 free:∀b o,h.get? b=some o->H b=none->b∉ex->H' b=none
 there:∀b o,h.get? b=some o->b∉ex->∃o',h'.get? b=some o'
 tups:∀b xs,H b=some (.tup xs)->H' b=some (.tup xs)
 sE:∀b o u,H b=some (.Hx o u)->H' b=some (.Hx o u)
 ur:∀b ps,H b=some (.YF ps)->∃more,H' b=some (.YF<|ps++more)
section
variable {fs fs' ex ex':List aj}{H H1 H2:Hp}{h h1 h2 h':aK}{a x e:aj}{o:HO}
theorem Un.any (u:Un fs ex H H1 h h1){b:aj}{ob:Obj}(q:h.get? b=some ob)(n:H b=none)(hx:b∉ex):∃sl,h1.get? b=some {ob with slots:=sl}:=by
 by_cases hb:b∈fs
 ·exact u.slot b ob q n hb hx
 ·exact⟨ob.slots,u.keep b ob q n hb hx⟩
theorem Un.kept (k:∀b u,h.get? b=some u->h'.get? b=some u):Un fs ex H H h h' :=
 ⟨λb ob q _ _ _=>k b ob q,λb ob q _ _ _=>⟨ob.slots,k b ob q⟩,λ_ _ _ n _=>n,λb ob q _=>⟨ob,k b ob q⟩,λ_ _ q=>q,λ_ _ _ q=>q,λ_ ps q=>⟨#[],by rw[q];simp⟩⟩
theorem Un.refl:Un fs ex H H h h:=Un.kept λ_ _ q=>q
theorem Un.laid (k:∀b u,h.get? b=some u->h'.get? b=some u)(hp:h.objs.size<=a)(hn:H a=none):Un fs ex H (upd H a o) h h' where
 keep:=λb u q _ _ _=>k b u q
 slot:=λb u q _ _ _=>⟨u.slots,k b u q⟩
 free:=λb u q n _=>by rw[bV (afV<|afH (afB q) hp)];exact n
 there:=λb u q _=>⟨u,k b u q⟩
 tups:=λb xs q=>by rw[bV (bY q hn)];exact q
 sE:=λb u xs q=>by rw[bV (bY q hn)];exact q
 ur:=λb ps q=>⟨#[],by rw[bV (bY q hn),q];simp⟩
theorem Un.write (mu:Mut (H x))(he:e=x\/H e=some (.own x))(k:∀b u,b≠e->h.get? b=some u->h'.get? b=some u)(heo:∃u,h'.get? e=some u):Un fs ex H (upd H x o) h h':=by
 have hx:∀b,H b=none->b≠x:=λb n z=>by subst z;rw[n]at mu;exact mu
 have hb:∀b,H b=none->b≠e:=λb n z=>by
  subst z;rcases he with r|r
  ·exact hx b n r
  ·rw[n]at r;cases r
 have hm:∀b u,H b=some u->¬Mut (some u)->b≠x:=λb u q nm z=>by subst z;rw[q]at mu;exact nm mu
 refine⟨λb u q n _ _=>k b u (hb b n) q,λb u q n _ _=>⟨u.slots,k b u (hb b n) q⟩,λb u q n _=>by rw[bV (hx b n)];exact n,λb u q _=>?_,
  λb xs q=>by rw[bV (hm b _ q λz=>z)];exact q,λb u xs q=>by rw[bV (hm b _ q λz=>z)];exact q,λb ps q=>⟨#[],by rw[bV (hm b _ q λz=>z),q];simp⟩⟩
 by_cases hbe:b=e
 ·subst hbe;exact heo
 ·exact⟨u,k b u hbe q⟩
end
noncomputable def trk (h:aK)(H:Hp):List aj:=(List.range h.objs.size).filter λa=>(H a).isSome
def Bo (h:aK)(H:Hp):aK:=hideAll h (trk h H)
theorem MK (h:aK)(H:Hp):(Bo h H).objs.size=h.objs.size:=PySem.W.hideAll_size _ _
theorem Qt {h:aK}{H:Hp}{b:aj}{o:Obj}(e:h.get? b=some o)(n:H b=none):(Bo h H).get? b=some o :=
 agX _ e λhm=>by
  have q:(H b).isSome=true:=(List.mem_filter.mp hm).2;rw[n]at q;simp at q
theorem Vo {h:aK}{H:Hp}{b:aj}{o:Obj}(e:(Bo h H).get? b=some o):h.get? b=some o/\H b=none:=by
 have e':h.get? b=some o:=ag0 (trk h H) e;refine⟨e',?_⟩;cases q:H b with
 |none=>rfl
 |some x=>
  have hm:b∈trk h H:=List.mem_filter.mpr ⟨List.mem_range.mpr<|afB e',by simp[q]⟩;have z:(Bo h H).get? b=none:=PySem.W.hideAll_none (trk h H) hm;rw[z]at e;cases e
noncomputable def Vp (g h:aK)(L:aj):List (aj×Obj):=(List.range h.objs.size).filterMap λa=>if a=L\/(g.get? a).isSome=true then none else(h.get? a).map λo=>(a,o)
noncomputable def rest (g h:aK)(L d:aj):List (aj×Obj):=(Vp g h L).filter λp=>decide (p.1≠d)
structure Mod (K:aN)(mg:Str->Option ak)(aV:aK):Prop where
 MN:K.In aV
 glob:aV.Ns mainGlobals mg
 blt:∃mb,aV.Ns builtinsNs mb/\∀x:Str,x≠"__name__"->mb x=bootBuiltins x
 nolimit:aV.NoLimit
structure Cx where
 prog:aA
 w:aG
 K:aN
 mg:Str->Option ak
 base:aK
 A:aq
 N:List Str
 s₀:ao
 H₀:Hp
 env:Env
 outer:List Env
 stack:List Env
 ex:List aj
 fn:Str->Bool
 calm:Bool
 pn:List (aj×Obj)
 xe:ak->ao->Prop
noncomputable def frs (l:List Env):List aj:=l.filterMap (·.frame)
abbrev Cx.fs (X:Cx):List aj:=frs X.outer
def Vis (sc:Scope)(x:Str):Prop:=sc.names.lookup x=some .local\/sc.names.lookup x=some .cell\/sc.names.lookup x=some .free
def Loc (sc:Scope)(x:Str):Prop:=sc.names.lookup x=some .local\/sc.names.lookup x=some .cell
def Look (env:Env)(h:aK)(m:Str->Option ak)(x:Str)(u:ak):Prop :=
 (env.kindOf x=some .local/\m x=some u)\/((env.kindOf x=some .cell\/env.kindOf x=some .free)/\∃c,env.cells.lookup x=some c/\h.IsCell c (some u))
structure Cx.Ok (X:Cx):Prop where
 mod:Mod X.K X.mg X.base
 kind:X.env.scope.kind=.function
 glob:X.env.globals=mainGlobals
 blt:X.env.builtins=builtinsNs
 above:X.s₀.heap.objs.size<=X.env.locals
 inj:∀x y c,X.env.cells.lookup x=some c->X.env.cells.lookup y=some c->x=y
 has:∀x,(X.env.kindOf x=some .cell\/X.env.kindOf x=some .free)->∃c,X.env.cells.lookup x=some c
 cab:∀x c,X.fn x=true->X.env.cells.lookup x=some c->X.s₀.heap.objs.size<=c
 hd:X.calm=true->X.A.handled=none
 frames:X.A.frames=some X.stack
 stk:X.stack=X.outer\/(X.stack=X.env::X.outer/\X.env.frame=some X.env.locals)
 Vq:∀b∈X.ex,b≠X.env.locals/\∀x c,X.env.cells.lookup x=some c->c≠b
 bs:∀b o,X.base.get? b=some o->X.s₀.heap.get? b=some o/\X.H₀ b=none
 DR:X.base.objs.size<=X.s₀.heap.objs.size
 vG:∀b o,X.base.get? b=some o->b∉X.ex
 wM:∀b∈X.ex,b∉X.fs
 mU:X.s₀.heap.FunFrames X.base X.outer
 Hv:∀b∈X.fs,X.H₀ b=none
structure Inv (X:Cx)(bH:List (aj×Obj))(U:List (Option V))(H:Hp)(s:ao):Prop where
 ok:X.Ok
 os:s.os=X.s₀.os
 bare:AllBare s.gens
 base:Un X.fs X.ex X.H₀ H X.s₀.heap s.heap
 loc:∃m,s.heap.Ns X.env.locals m/\∀(i:Nat) (x:Str) (v:V),X.N[i]?=some x->U[i]?=some (some v)->Vis X.env.scope x->∃u,RelV v u/\Look X.env s.heap m x u
 cell:∀x c,X.env.cells.lookup x=some c->∃v,s.heap.IsCell c v
 free:H X.env.locals=none
 jx:∀x c,X.env.cells.lookup x=some c->H c=none
 pin:∀p∈X.pn++bH,s.heap.get? p.1=some p.2/\H p.1=none/\p.1≠X.env.locals/\p.1∉X.fs/\∀v,p.2.data≠.cell v
 hok:mj X.prog X.w H s.heap
 len:U.length=X.N.length
section
variable {X:Cx}{bH:List (aj×Obj)}{U:List (Option V)}{H H':Hp}{s:ao}{h':aK}
theorem Cx.Ok.Qu (ok:X.Ok){b:aj}{o:Obj}(e:X.base.get? b=some o):b∉X.fs:=λhb=>by
 have:=(ok.mU.mem hb).1;rw[e]at this;cases this
theorem Inv.bs (I:Inv X bH U H s):∀b o,X.base.get? b=some o->s.heap.get? b=some o/\H b=none:=λb o e=>
 ⟨I.base.keep b o (I.ok.bs b o e).1 (I.ok.bs b o e).2 (I.ok.Qu e)<|I.ok.vG b o e,I.base.free b o (I.ok.bs b o e).1 (I.ok.bs b o e).2<|I.ok.vG b o e⟩
theorem Inv.bk (I:Inv X bH U H s):∀b o,X.base.get? b=some o->s.heap.get? b=some o:=λb o e=>(I.bs b o e).1
theorem Inv.mod (I:Inv X bH U H s):Mod X.K X.mg X.base:=I.ok.mod
theorem Inv.qU (I:Inv X bH U H s):X.K.In s.heap:=I.ok.mod.MN.keeps I.bk
theorem Inv.lt (I:Inv X bH U H s):X.env.locals<s.heap.objs.size:=let ⟨_,hn,_⟩:=I.loc;hn.lt
theorem Inv.sz (I:Inv X bH U H s):X.s₀.heap.objs.size<=s.heap.objs.size:=afy I.ok.above (afT I.lt)
theorem Inv.Vr (I:Inv X bH U H s){a:aj}(h:s.heap.objs.size<=a):a∉X.fs:=λhb=>by
 obtain⟨_,o,ho,_⟩:=I.ok.mU.mem hb;exact absurd (afH (afB ho)<|afy I.sz h)<|afQ _
theorem Inv.Vs (I:Inv X bH U H s):∀x c,X.env.cells.lookup x=some c->c≠X.env.locals:=λx c e z=>by
 obtain⟨v,o,ho,hd⟩:=I.cell x c e;obtain⟨m,⟨o',es,ep,ho',hd',_⟩,_⟩:=I.loc;rw[z,ho']at ho;cases ho;rw[hd']at hd;cases hd
theorem Inv.mU (I:Inv X bH U H s):s.heap.FunFrames X.base X.outer:=by
 have all:∀(l:List Env),(∀b∈frs l,b∈X.fs)->X.s₀.heap.FunFrames X.base l->s.heap.FunFrames X.base l:=by
  intro l
  induction l with
  |nil=>intro _ _;trivial
  |cons env r ih=>
   intro hs hl;obtain⟨hk,⟨L,o,hf,hn,ho,hd⟩,hr⟩:=hl;have hL:L∈X.fs:=hs L (by unfold frs;rw[agN,hf];exact afE);obtain⟨sl,e⟩:=I.base.slot L o ho (I.ok.Hv L hL) hL λz=>I.ok.wM L z hL;exact⟨hk,⟨L,_,hf,hn,e,hd⟩,ih (λb hb=>hs b<|by unfold frs;rw[agN,hf];exact afA _ hb) hr⟩
 exact all X.outer (λ_ hb=>hb) I.ok.mU
theorem Inv.stack (I:Inv X bH U H s):s.heap.FunFrames X.base X.stack:=by
 rcases I.ok.stk with e|⟨e,hf⟩
 ·rw[e];exact I.mU
 ·rw[e]
  obtain⟨m,hn,_⟩:=I.loc;refine .cons (by rw[I.ok.kind];decide) hf hn ?_ I.mU;exact Heap.get?_none_of_le<|afy I.ok.DR I.ok.above
theorem Inv.jO (I:Inv X bH U H s):∀b∈frs X.stack,b∈X.env.locals::X.fs:=λb hb=>by
 rcases I.ok.stk with e|⟨e,hf⟩
 ·rw[e]at hb;exact afA _ hb
 ·rw[e]at hb
  unfold frs at hb;rw[agN,hf]at hb;exact hb
theorem Inv.oJ (I:Inv X bH U H s):∀b∈frs X.stack,H b=none:=λb hb=>by
 rcases afU.mp (I.jO b hb) with e|hb
 ·rw[e];exact I.free
 ·obtain⟨_,o,ho,_⟩:=I.ok.mU.mem hb
  exact I.base.free b o ho (I.ok.Hv b hb) λz=>I.ok.wM b z hb
theorem Inv.step {g':Array GenState}{t':Nat}{d':Drawn}{ch:aP aj}(I:Inv X bH U H s)
  (hch:∀b∈ch,(b∈X.ex\/X.s₀.heap.objs.size<=b)/\b≠X.env.locals/\(∀x c,X.env.cells.lookup x=some c->c≠b)/\∀p∈X.pn++bH,p.1≠b)
  (keep:∀b o,b≠X.env.locals->b∉X.fs->b∉ch->s.heap.get? b=some o->H b=none->h'.get? b=some o)
  (slot:∀b o,b≠X.env.locals->b∈X.fs->b∉ch->s.heap.get? b=some o->H b=none->∃sl,h'.get? b=some {o with slots:=sl}) (free:∀b o,b∉ch->s.heap.get? b=some o->H b=none->H' b=none)
  (there:∀b o,b∉ch->s.heap.get? b=some o->∃o',h'.get? b=some o')
  (tups:∀b xs,H b=some (.tup xs)->H' b=some (.tup xs)) (sE:∀b o u,H b=some (.Hx o u)->H' b=some (.Hx o u)) (ur:∀b ps,H b=some (.YF ps)->∃more,H' b=some (.YF<|ps++more))
  (ns:∀m,s.heap.Ns X.env.locals m->h'.Ns X.env.locals m) (hok:mj X.prog X.w H' h') (hg:AllBare g'):
  Inv X bH U H' {s with heap:=h',gens:=g',drawn:=d',toks:=t'}:=by
 have neL:∀b o,X.s₀.heap.get? b=some o->b≠X.env.locals:=λb o e=>afV (afH (afB e) I.ok.above);have neC:∀b o,X.s₀.heap.get? b=some o->b∉X.ex->b∉ch:=λb o e hx hb=>by
  rcases(hch b hb).1 with z|z
  ·exact hx z
  ·exact absurd (afH (afB e) z)<|afQ _
 have cellK:∀x c,X.env.cells.lookup x=some c->∀v,s.heap.IsCell c v->h'.IsCell c v:=λx c e v ⟨o,ho,hd⟩=>by
  have nch:c∉ch:=λz=>(hch c z).2.2.1 x c e rfl;by_cases hc:c∈X.fs
  ·obtain⟨sl,q⟩:=slot c o (I.Vs x c e) hc nch ho (I.jx x c e)
   exact⟨_,q,hd⟩
  ·exact⟨o,keep c o (I.Vs x c e) hc nch ho<|I.jx x c e,hd⟩
 refine⟨I.ok,I.os,hg,⟨λb o e n hb hx=>?_,λb o e n hb hx=>?_,λb o e n hx=>?_,λb o e hx=>?_,λb xs e=>tups b xs<|I.base.tups b xs e,λb o xs e=>sE b o xs<|I.base.sE b o xs e,λb ps e=>?_⟩,?_,λx c e=>?_,?_,λx c e=>?_,λp hp=>?_,hok,I.len⟩
 ·exact keep b o (neL b o e) hb (neC b o e hx) (I.base.keep b o e n hb hx)<|I.base.free b o e n hx
 ·obtain⟨sl,e1⟩:=I.base.slot b o e n hb hx
  obtain⟨sl',e2⟩:=slot b _ (neL b o e) hb (neC b o e hx) e1 (I.base.free b o e n hx);exact⟨sl',e2⟩
 ·obtain⟨o',e1⟩:=I.base.there b o e hx
  exact free b o' (neC b o e hx) e1<|I.base.free b o e n hx
 ·obtain⟨o',e1⟩:=I.base.there b o e hx
  exact there b o' (neC b o e hx) e1
 ·obtain⟨m1,e1⟩:=I.base.ur b ps e
  obtain⟨m2,e2⟩:=ur b _ e1;exact⟨m1++m2,by rw[e2,Array.append_assoc]⟩
 ·obtain⟨m,hn,hl⟩:=I.loc
  refine⟨m,ns m hn,λi x v e1 e2 e3=>?_⟩;obtain⟨u,r,l⟩:=hl i x v e1 e2 e3;refine⟨u,r,?_⟩;rcases l with l|⟨k,c,e,z⟩
  ·exact .inl l
  ·exact .inr ⟨k,c,e,cellK x c e _ z⟩
 ·obtain⟨v,z⟩:=I.cell x c e
  exact⟨v,cellK x c e v z⟩
 ·obtain⟨m,⟨o,_,_,ho,_⟩,_⟩:=I.loc
  exact free _ o (λz=>(hch _ z).2.1 rfl) ho I.free
 ·obtain⟨v,o,ho,hd⟩:=I.cell x c e
  exact free c o (λz=>(hch c z).2.2.1 x c e rfl) ho<|I.jx x c e
 ·obtain⟨e,n,ne,nf,d⟩:=I.pin p hp
  have nch:p.1∉ch:=λz=>(hch p.1 z).2.2.2 p hp rfl;exact⟨keep p.1 p.2 ne nf nch e n,free p.1 p.2 nch e n,ne,nf,d⟩
theorem Inv.un {t':Nat}(I:Inv X bH U H s)(u:Un X.fs [] H H' s.heap h')(hok:mj X.prog X.w H' h'):Inv X bH U H' {s with heap:=h',toks:=t'}:=by
 obtain⟨m,⟨o,es,ep,ho,r⟩,_⟩:=id I.loc;obtain⟨sl,hL⟩:=u.any ho I.free (by simp);exact I.step (g':=s.gens) (d':=s.drawn) (ch:=[]) (λ_ z=>nomatch z) (λb o _ hb _ e n=>u.keep b o e n hb<|by simp) (λb o _ hb _ e n=>u.slot b o e n hb<|by simp) (λb o _ e n=>u.free b o e n<|by simp) (λb o _ e=>u.there b o e<|by simp) u.tups u.sE u.ur (λm' hm=>by
  obtain⟨o',es',ep',ho',r'⟩:=hm;rw[ho]at ho';cases ho';exact⟨_,es',ep',hL,r'⟩) hok I.bare
theorem Inv.call {g':Array GenState}{t':Nat}{d':Drawn}{ch:aP aj}(I:Inv X bH U H s)(u:Un (frs X.stack) ch H H' s.heap h')(hok:mj X.prog X.w H' h')(hg:AllBare g')
  (hch:∀b∈ch,(b∈X.ex\/X.s₀.heap.objs.size<=b)/\b≠X.env.locals/\(∀x c,X.env.cells.lookup x=some c->c≠b)/\∀p∈X.pn++bH,p.1≠b):
  Inv X bH U H' {s with heap:=h',gens:=g',drawn:=d',toks:=t'}:=by
 obtain⟨m,⟨o,es,ep,ho,r⟩,_⟩:=id I.loc;obtain⟨sl,hL⟩:=u.any ho I.free λz=>(hch _ z).2.1 rfl;exact I.step (ch:=ch) hch (λb o hL hb hc e n=>u.keep b o e n (λz=>(afU.mp<|I.jO b z).elim hL hb) hc) (λb o _ _ hc e n=>u.any e n hc) (λb o hc e n=>u.free b o e n hc) (λb o hc e=>u.there b o e hc) u.tups u.sE u.ur (λm' hm=>by
  obtain⟨o',es',ep',ho',r'⟩:=hm;rw[ho]at ho';cases ho';exact⟨_,es',ep',hL,r'⟩) hok hg
theorem Inv.turned {t':Nat}{it:aj}(I:Inv X bH U H s)(k:∀b o,b≠it->s.heap.get? b=some o->h'.get? b=some o)(hn:H it=none)(hL:it≠X.env.locals)
  (h1:it∈X.ex\/X.s₀.heap.objs.size<=it) (h2:∀x c,X.env.cells.lookup x=some c->c≠it) (h3:∀p∈X.pn++bH,p.1≠it):Inv X bH U H {s with heap:=h',toks:=t'}:=by
 have nit:∀b u,H b=some u->b≠it:=λb u e z=>by rw[z,hn]at e;cases e
 refine I.step (g':=s.gens) (d':=s.drawn) (ch:=[it]) (λb hb=>?_) (λb o _ _ hc e _=>k b o (λz=>hc<|by simp[z]) e) (λb o _ _ hc e _=>⟨o.slots,k b o (λz=>hc<|by simp[z]) e⟩) (λ_ _ _ _ n=>n)
  (λb o hc e=>⟨o,k b o (λz=>hc<|by simp[z]) e⟩) (λ_ _ e=>e) (λ_ _ _ e=>e) (λb ps e=>⟨#[],by rw[e];simp⟩) (λm hm=>?_) (λb u e=>?_) I.bare
 ·have e:b=it:=by simpa using hb
  subst e;exact⟨h1,hL,h2,h3⟩
 ·obtain⟨o,es,ep,ho,r⟩:=hm
  exact⟨o,es,ep,k _ o (ahO hL) ho,r⟩
 ·refine(I.hok b u e).stay (λc v hc q=>k c v ?_ q) (λ_ q=>q) λ_ _ q=>q
  rcases hc with z|z
  ·rw[z];exact nit b u e
  ·exact nit c _ z
theorem Inv.tok (I:Inv X bH U H s)(t:Nat):Inv X bH U H {s with toks:=t}:=I.un (h':=s.heap) (t':=t) Un.refl I.hok
theorem Inv.kept {t':Nat}(I:Inv X bH U H s)(k:∀b u,s.heap.get? b=some u->h'.get? b=some u):Inv X bH U H {s with heap:=h',toks:=t'}:=I.un (Un.kept k) (I.hok.kept k)
theorem Inv.laid {a:aj}{o:HO}{t':Nat}(I:Inv X bH U H s)(k:∀b u,s.heap.get? b=some u->h'.get? b=some u)(hp:s.heap.objs.size<=a)(new:fQ X.prog X.w (upd H a o) h' a o):
  Inv X bH U (upd H a o) {s with heap:=h',toks:=t'}:=I.un (Un.laid k hp<|I.hok.fresh hp) (I.hok.laid k hp new)
theorem Inv.write {x e:aj}{o:HO}{t':Nat}(I:Inv X bH U H s)(mu:Mut (H x))(he:e=x\/H e=some (.own x))(k:∀b u,b≠e->s.heap.get? b=some u->h'.get? b=some u)(heo:∃u,h'.get? e=some u)
  (new:fQ X.prog X.w (upd H x o) h' x o):Inv X bH U (upd H x o) {s with heap:=h',toks:=t'}:=I.un (Un.write mu he k heo) (I.hok.write mu he k heo new)
theorem Inv.vP {YG:aP (aj×Obj)}(I:Inv X bH U H s)(h:∀p∈YG,s.heap.get? p.1=some p.2/\H p.1=none/\p.1≠X.env.locals/\p.1∉X.fs/\∀v,p.2.data≠.cell v):Inv X YG U H s :=
 ⟨I.ok,I.os,I.bare,I.base,I.loc,I.cell,I.free,I.jx,λp hp=>(agd.mp hp).elim (λz=>I.pin p<|agg _ z)<|h p,I.hok,I.len⟩
theorem Ej {N:aP Str}(hN:N.Nodup){i j:Nat}{x:Str}(a:N[i]?=some x)(b:N[j]?=some x):i=j:=by
 obtain⟨h1,e1⟩:=ahW a;obtain⟨h2,e2⟩:=ahW b;exact(List.getElem_inj hN).mp<|e1.trans e2.symm
theorem MP {M:Model}{A:aq}{E:ak->ao->Prop}{i:Nat}{x:Str}{v:V}{u:ak}{Q:Unit->ao->Prop}(I:Inv X bH U H s)(hN:X.N.Nodup)(hi:X.N[i]?=some x)(hx:Loc X.env.scope x)(r:RelV v u)
  (h:∀s',Inv X bH (U.set i<|some v) H s'->(∃a,Heap.SameBut a s.heap s'.heap/\(a=X.env.locals\/X.env.cells.lookup x=some a))->Q () s') (hf:X.fn x=true\/X.env.scope.names.lookup x=some .local:=by first|exact .inl rfl|exact .inr rfl|assumption):wpAny M A (storeName X.env x u) Q E s:=by
 obtain⟨m,hn,hl⟩:=id I.loc;have hcls:(X.env.scope.kind==.class||(X.env.scope.kind==.module&&X.env.locals !=X.env.globals))=false:=by rw[I.ok.kind];rfl
 have acj:i<U.length:=by rw[I.len];exact(ahW hi).1
 have Vs:=I.Vs;have tracked:∀{a:aj} {h':aK},(∃o,s.heap.get? a=some o/\H a=none)->Heap.SameBut a s.heap h'->mj X.prog X.w H h':=λ{a h'} ha hs b ob e=>by
  obtain⟨_,_,hfree⟩:=ha;refine(I.hok b ob e).stay (λc w' hc q=>(hs.2 c ?_).trans q) (λ_ q=>q) λ_ _ q=>q;rintro rfl;rcases hc with rfl|hc
  ·rw[hfree]at e;cases e
  ·rw[hfree]at hc;cases hc
 rcases hx with hk|hk
 ·refine wpAny_storeName_local hk hn (λh' hn' hs=>?_) hcls
  obtain⟨oL,_,_,hoL,_⟩:=id hn;refine h _ ⟨I.ok,I.os,I.bare,⟨λb o e n hb hx=>?_,λb o e n hb hx=>?_,I.base.free,λb o e hx=>?_,I.base.tups,I.base.sE,I.base.ur⟩,⟨_,hn',λj y v' e1 e2 e3=>?_⟩,λy c e=>?_,I.free,I.jx,λp hp=>?_,tracked ⟨oL,hoL,I.free⟩ hs,by simpa using I.len⟩ ⟨_,hs, .inl rfl⟩
  ·exact(hs.2 b<|afV (afH (afB e) I.ok.above)).trans<|I.base.keep b o e n hb hx
  ·obtain⟨sl,e1⟩:=I.base.slot b o e n hb hx
   exact⟨sl,(hs.2 b<|afV (afH (afB e) I.ok.above)).trans e1⟩
  ·obtain⟨o',e1⟩:=I.base.there b o e hx
   exact⟨o',(hs.2 b<|afV (afH (afB e) I.ok.above)).trans e1⟩
  ·by_cases hj:j=i
   ·subst hj
    rw[hi]at e1;cases e1;rw[agR acj]at e2;cases e2;exact⟨u,r, .inl ⟨hk,by simp⟩⟩
   ·rw[agK (ahO hj)]at e2
    obtain⟨u',r',q⟩:=hl j y v' e1 e2 e3;refine⟨u',r',?_⟩;rcases q with ⟨k,e⟩|⟨k,c,e,z⟩
    ·refine .inl ⟨k,?_⟩
     have:y≠x:=λe=>hj (Ej hN e1<|e ▸ hi);simp[this,e]
    ·exact .inr ⟨k,c,e,z.sameBut hs<|Vs y c e⟩
  ·obtain⟨w',z⟩:=I.cell y c e
   exact⟨w',z.sameBut hs<|Vs y c e⟩
  ·obtain⟨e,n,ne,nf,d⟩:=I.pin p hp
   exact⟨(hs.2 p.1 ne).trans e,n,ne,nf,d⟩
 ·have hfn:X.fn x=true:=by
   rcases hf with z|z
   ·exact z
   ·rw[z]at hk;cases hk
  obtain⟨c,hc⟩:=I.ok.has x (.inl hk);obtain⟨w',z⟩:=I.cell x c hc;refine wpAny_storeName_cell I.ok.kind hk hc z λh' hc' hs=>?_;obtain⟨oc,hoc,ad'⟩:=id z;refine h {s with heap:=h'} ⟨I.ok,I.os,I.bare,⟨λb o e n hb hx=>?_,λb o e n hb hx=>?_,I.base.free,λb o e hx=>?_,I.base.tups,I.base.sE,I.base.ur⟩,⟨m,hn.sameBut hs<|ahO (Vs x c hc),λj y v' e1 e2 e3=>?_⟩,λy c' e=>?_,I.free,I.jx,λp hp=>?_,tracked ⟨oc,hoc,I.jx x c hc⟩ hs,by simpa using I.len⟩ ⟨c,hs, .inr hc⟩
  ·exact(hs.2 b<|afV (afH (afB e)<|I.ok.cab x c hfn hc)).trans<|I.base.keep b o e n hb hx
  ·obtain⟨sl,e1⟩:=I.base.slot b o e n hb hx
   exact⟨sl,(hs.2 b<|afV (afH (afB e)<|I.ok.cab x c hfn hc)).trans e1⟩
  ·obtain⟨o',e1⟩:=I.base.there b o e hx
   exact⟨o',(hs.2 b<|afV (afH (afB e)<|I.ok.cab x c hfn hc)).trans e1⟩
  ·by_cases hj:j=i
   ·subst hj
    rw[hi]at e1;cases e1;rw[agR acj]at e2;cases e2;exact⟨u,r, .inr ⟨.inl hk,c,hc,hc'⟩⟩
   ·rw[agK (ahO hj)]at e2
    obtain⟨u',r',q⟩:=hl j y v' e1 e2 e3;refine⟨u',r',?_⟩;rcases q with q|⟨k,c',e,z'⟩
    ·exact .inl q
    ·refine .inr ⟨k,c',e,z'.sameBut hs ?_⟩
     rintro rfl;exact hj<|Ej hN e1 (I.ok.inj _ _ _ e hc ▸ hi)
  ·by_cases hcc:c'=c
   ·subst hcc;exact⟨_,hc'⟩
   ·obtain⟨w2,z2⟩:=I.cell y c' e
    exact⟨w2,z2.sameBut hs hcc⟩
  ·obtain⟨e,n,ne,nf,d⟩:=I.pin p hp
   refine⟨(hs.2 p.1 ?_).trans e,n,ne,nf,d⟩;intro q;rw[q,hoc]at e;have q':oc=p.2:=ahR e;exact d w' (by rw[<-q'];exact ad')
theorem wN {M:Model}{A:aq}{E:ak->ao->Prop}{i:Nat}{x:Str}{v:V}{u:ak}{Q:Unit->ao->Prop}(I:Inv X bH U H s)(hN:X.N.Nodup)(hi:X.N[i]?=some x)(hx:Loc X.env.scope x)(r:RelV v u)
  (h:∀s',Inv X bH (U.set i<|some v) H s'->Q () s') (hf:X.fn x=true\/X.env.scope.names.lookup x=some .local:=by first|exact .inl rfl|exact .inr rfl|assumption):wpAny M A (storeName X.env x u) Q E s :=
 MP I hN hi hx r (λs' I' _=>h s' I') hf
theorem Inv.call' {s':ao}{ch:aP aj}(I:Inv X bH U H s)(ho:s'.os=s.os)(u:Un (frs X.stack) ch H H' s.heap s'.heap)(hok:mj X.prog X.w H' s'.heap)(hg:AllBare s'.gens)
  (hch:∀b∈ch,(b∈X.ex\/X.s₀.heap.objs.size<=b)/\b≠X.env.locals/\(∀x c,X.env.cells.lookup x=some c->c≠b)/\∀p∈X.pn++bH,p.1≠b):Inv X bH U H' s':=by
 obtain⟨h',g',d',t',o'⟩:=s';have e:o'=s.os:=ho;subst e;exact I.call (g':=g') (t':=t') (d':=d') u hok hg hch
end
abbrev XK:=ak->Option aj->Hp->Prop
abbrev St:=List (Option V)
abbrev VK:=V->Hp->Prop
abbrev TE:=St->Hp->VK->Prop
abbrev TT:=St->Hp->(Bool->Hp->Prop)->Prop
abbrev TA:=St->Hp->(List V->Hp->Prop)->Prop
structure Ends where
 nx:St->Hp->Prop
 rt:VK
 bk:St->Hp->Prop:=λ_ _=>False
 ct:St->Hp->Prop:=λ_ _=>False
abbrev TS:=Ends->St->Hp->Prop
def Ends.of (Q:VK):Ends:={nx:=λ_ H'=>Q .non H',rt:=Q}
def Ends.lp (D:Ends)(n:St->Hp->Prop):Ends:={D with nx:=n,ct:=n,bk:=D.nx}
def EP (X:Cx)(bH:List (aj×Obj))(U:St)(Q:VK)(u:ak)(s':ao):Prop:=∃v H',Inv X bH U H' s'/\RelV v u/\Q v H'
def TP (X:Cx)(bH:List (aj×Obj))(U:St)(Q:Bool->Hp->Prop)(b:Bool)(s':ao):Prop:=∃H',Inv X bH U H' s'/\Q b H'
def AP (X:Cx)(bH:List (aj×Obj))(U:St)(Q:List V->Hp->Prop)(us:List ak)(s':ao):Prop:=∃vs H',Inv X bH U H' s'/\Vals vs us/\Q vs H'
def SP (X:Cx)(bH:List (aj×Obj))(D:Ends)(f:Flow)(s':ao):Prop :=
 match f with
 |.next=>∃U' H',Inv X bH U' H' s'/\D.nx U' H'
 |.brk=>∃U' H',Inv X bH U' H' s'/\D.bk U' H'
 |.cont=>∃U' H',Inv X bH U' H' s'/\D.ct U' H'
 |.ret u=>∃v U' H',Inv X bH U' H' s'/\RelV v u/\D.rt v H'
def PE (X:Cx)(e:aH)(t:TE):Prop :=
 ∀(bH:List (aj×Obj)) (s:ao) (U:St) (H:Hp) (Q:VK),Inv X bH U H s->t U H Q->wpAny (model X.prog X.w) X.A (eval e X.env) (EP X bH U Q) X.xe s
def PT (X:Cx)(e:aH)(t:TT):Prop :=
 ∀(bH:List (aj×Obj)) (s:ao) (U:St) (H:Hp) (Q:Bool->Hp->Prop),Inv X bH U H s->t U H Q->wpAny (model X.prog X.w) X.A (isTrue e X.env<|eval e X.env) (TP X bH U Q) X.xe s
def PW (X:Cx)(e:aH)(t:TT):Prop :=
 ∀(whole:Sem ak) (bH:List (aj×Obj)) (s:ao) (U:St) (H:Hp) (Q:Bool->Hp->Prop),Inv X bH U H s->t U H Q->wpAny (model X.prog X.w) X.A (isTrue e X.env whole) (TP X bH U Q) X.xe s
theorem PW.pt {X:Cx}{e:aH}{t:TT}(h:PW X e t):PT X e t:=h _
def PA (X:Cx)(es:List aH)(t:TA):Prop :=
 ∀(pos:Pos) (bH:List (aj×Obj)) (s:ao) (U:St) (H:Hp) (Q:List V->Hp->Prop),Inv X bH U H s->t U H Q->wpAny (model X.prog X.w) X.A (spliced<|backTo pos (starEach es X.env)) (AP X bH U Q) X.xe s
def PS (X:Cx)(st:aJ)(t:TS):Prop :=
 ∀(bH:List (aj×Obj)) (s:ao) (U:St) (H:Hp) (D:Ends),Inv X bH U H s->t D U H->wpAny (model X.prog X.w) X.A (exec st X.env) (SP X bH D) X.xe s
def yR (X:Cx)(st:List aJ)(t:TS):Prop :=
 ∀(bH:List (aj×Obj)) (s:ao) (U:St) (H:Hp) (D:Ends),Inv X bH U H s->t D U H->wpAny (model X.prog X.w) X.A (execs st X.env) (SP X bH D) X.xe s
theorem gk {α:Type}{t:Sem α}{Q Q':α->ao->Prop}{M:Model}{A:aq}{E:ak->ao->Prop}{s:ao}(h:wpAny M A t Q E s)(hQ:∀a s,Q a s->Q' a s):wpAny M A t Q' E s:=wpAny_mono h hQ λ_ _ x=>x
section
variable {X:Cx}
inductive YH (i:Nat)(U:St)(H:Hp)(Q:VK):Prop where
 |mk (v):(U[i]?=some (some v))->(Q v H)->YH i U H Q
def pL (i:Nat):TE:=YH i
def tC (v:V):TE:=λ_ H Q=>Q v H
theorem aam {i:Nat}{x:Str}{pos:Pos}(hN:X.N[i]?=some x)(hv:Vis X.env.scope x)(hd:(x==("__debug__":Str))=false:=by decide)(yX:(x==("__classdict__":Str))=false:=by decide):PE X (.Name x pos) (pL i):=by
 intro bH s U H Q I h;obtain⟨v,e,h⟩:=h;obtain⟨m,hn,hl⟩:=I.loc;obtain⟨u,r,l⟩:=hl i x v hN e hv;have fin:EP X bH U Q u s:=⟨v,H,I,r,h⟩;rcases l with ⟨hk,hm⟩|⟨hk,c,hc,hcell⟩
 ·exact wpAny_Name (wpAny_loadName_local I.ok.kind hk hn hm fin) hd
 ·rcases hk with hk|hk
  ·exact wpAny_Name (wpAny_loadName_cell I.ok.kind hk hc hcell fin) hd
  ·exact wpAny_Name (wpAny_loadName_free I.ok.kind hk hc hcell fin yX) hd
theorem bJ {i j pos}:PE X (.Constant (.int i) j pos) (tC<|.int i):=λ_ _ _ H _ I h=>wpAny_Constant_int ⟨.int i,H,I.tok _,⟨_,rfl⟩,h⟩
theorem J4 {b j pos}:PE X (.Constant (.bool b) j pos) (tC<|.bl b):=λ_ _ _ H _ I h=>Constant_bool ⟨.bl b,H,I,rfl,h⟩
theorem wO {j pos}:PE X (.Constant .none j pos) (tC .non):=λ_ _ _ H _ I h=>Constant_none ⟨.non,H,I,rfl,h⟩
theorem bU {x j pos}:PE X (.Constant (.str x) j pos) (tC<|.str x):=λ_ _ _ H _ I h=>Calls.Constant_str ⟨.str x,H,I.tok _,⟨_,rfl⟩,h⟩
def Gl (X:Cx)(x:Str):Prop:=X.env.kindOf x=some .globalImplicit
theorem oK {E:ak->ao->Prop}{bH:aP (aj×Obj)}{s:ao}{U:St}{H:Hp}{x:Str}{u:ak}{pos:Pos}{Q:ak->ao->Prop}(I:Inv X bH U H s)(hg:Gl X x)(hm:X.mg x=some u)(h:Q u s)
  (hd:(x==("__debug__":Str))=false:=by decide):wpAny (model X.prog X.w) X.A (eval (.Name x pos) X.env) Q E s :=
 Calls.Name_function_global I.ok.kind hg (Calls.loadGlobal_global (by rw[I.ok.glob];exact I.mod.glob.keeps I.bk) hm h) hd
theorem mV {E:ak->ao->Prop}{bH:aP (aj×Obj)}{s:ao}{U:St}{H:Hp}{x:Str}{u:ak}{pos:Pos}{Q:ak->ao->Prop}(I:Inv X bH U H s)(hg:Gl X x)(hm:X.mg x=none)(hv:bootBuiltins x=some u)(h:Q u s)
  (hn:x≠"__name__":=by decide) (hd:(x==("__debug__":Str))=false:=by decide):wpAny (model X.prog X.w) X.A (eval (.Name x pos) X.env) Q E s:=by
 obtain⟨mb,h1,h2⟩:=I.mod.blt;exact Calls.Name_function_global I.ok.kind hg (Calls.loadGlobal_builtin (by rw[I.ok.glob];exact I.mod.glob.keeps I.bk) hm (by rw[I.ok.blt];exact h1.keeps I.bk) ((h2 x hn).trans hv) h) hd
theorem jD {x:Str}{v:V}{u:ak}{pos:Pos}(hg:Gl X x)(hm:X.mg x=some u)(r:RelV v u)(hd:(x==("__debug__":Str))=false:=by decide):PE X (.Name x pos) (tC v) :=
 λ_ _ _ H _ I h=>oK I hg hm ⟨v,H,I,r,h⟩ hd
theorem oM {x:Str}{v:V}{u:ak}{pos:Pos}(hg:Gl X x)(hm:X.mg x=none)(hv:bootBuiltins x=some u)(r:RelV v u)(hn:x≠"__name__":=by decide)(hd:(x==("__debug__":Str))=false:=by decide):PE X (.Name x pos) (tC v) :=
 λ_ _ _ H _ I h=>mV I hg hm hv ⟨v,H,I,r,h⟩ hn hd
variable {a b:aH}{ta tb:TE}{pos:Pos}
def PC (X:Cx)(op:CmpOp)(a b:aH)(t:TE):Prop :=
 ∀(bH:List (aj×Obj)) (s:ao) (U:St) (H:Hp) (Q:VK),Inv X bH U H s->t U H Q->
  wpAny (model X.prog X.w) X.A (eval a X.env) (λv eF=>wpAny (model X.prog X.w) X.A (eval b X.env) (λu s₂=>wpAny (model X.prog X.w) X.A (compareOp op v u) (EP X bH U Q) X.xe s₂) X.xe eF) X.xe s
theorem acn (b:aH){op:CmpOp}(h:op≠.In)(h2:op≠.NotIn):behindInMarks op b=false:=by
 have e1:(op==CmpOp.In)=false:=by cases op<;>first|rfl|exact absurd rfl h
 have e2:(op==CmpOp.NotIn)=false:=by cases op<;>first|rfl|exact absurd rfl h2
 cases b<;>simp[behindInMarks,e1,e2]
def aco (ta:TE):TE:=λU H Q=>ta U H λx H1=>Q (.bl (!decide (x=.non))) H1
theorem RelV.Qv {x:V}{v:ak}(r:RelV x v):(v==Value.none)=decide (x=.non):=by
 cases x with
 |non=>cases r;rfl
 |bl _=>cases r;rfl
 |int _=>obtain⟨t,rfl⟩:=r;rfl
 |str _=>obtain⟨t,rfl⟩:=r;rfl
 |MJ _=>obtain⟨t,rfl⟩:=r;rfl
 |flt _=>obtain⟨t,rfl⟩:=r;rfl
 |ref _=>cases r;rfl
 |ty _=>cases r;rfl
theorem Vt {j oN}(ha:PE X a ta):PC X .IsNot a (.Constant .none j oN) (aco ta):=by
 intro bH s U H Q I h;refine gk (ha bH s U H _ I h) λv s1 ⟨x,H1,I1,r1,q1⟩=>?_;exact Constant_none (isnot_none_gen ⟨.bl _,H1,I1,by rw[r1.Qv];rfl,q1⟩)
def tB (t:TE):TT:=λU H Q=>t U H λx H1=>∃c,x=.bl c/\Q c H1
theorem aan {op:CmpOp}{t:TE}(h:PC X op a b t)(h1:behindInMarks op b=false):PT X (.Compare a [op] [b] pos) (tB t):=by
 intro bH s U H Q I hw;refine wpAny_isTrue_Compare1 (gk (h bH s U H _ I hw) λv s1 h1=>gk h1 λu s2 h2=>gk h2 λc s3 ⟨x,H1,I1,r1,q1⟩=>?_) h1;obtain⟨d,rfl,q⟩:=q1;cases r1;exact wpAny_truthy_bool ⟨H1,I1,q⟩
theorem pP {e:aH}{t:TE}(h:PE X e t)(he:∀whole,isTrue e X.env whole=(do let v <-whole;standAt e.pos;holding [v] (truthy v)):=by intro _;rfl):PT X e (tB t):=by
 intro bH s U H Q I hw;refine isTrue_plain (gk (h bH s U H _ I hw) λv s1 ⟨x,H1,I1,r1,q1⟩=>?_)<|he _;obtain⟨d,rfl,q⟩:=q1;cases r1;exact wpAny_truthy_bool ⟨H1,I1,q⟩
variable {tA tB':TT}{rest:List aH}
def aea (t u:TT):TT:=λU H Q=>t U H λc H1=>if c=true then u U H1 Q else Q false H1
def tOr (t u:TT):TT:=λU H Q=>t U H λc H1=>if c=true then Q true H1 else u U H1 Q
def aeb (t:TT):TT:=λU H Q=>t U H λc H1=>Q (!c) H1
theorem vQ (ha:PT X a tA):PW X (.BoolOp .And [a] pos) tA:=by
 intro wh bH s U H Q I h;refine isTrue_and<|gk (ha bH s U H Q I h) λc s1 e=>?_;cases c with
 |true=>exact isTrue_and_nil e
 |false=>exact e
theorem Hz (ha:PT X a tA):PW X (.BoolOp .Or [a] pos) tA:=by
 intro wh bH s U H Q I h;refine isTrue_or<|gk (ha bH s U H Q I h) λc s1 e=>?_;cases c with
 |false=>exact isTrue_or_nil e
 |true=>exact e
theorem uw (ha:PT X a tA)(hb:PW X (.BoolOp .And (b::rest) pos) tB'):PW X (.BoolOp .And (a::b::rest) pos) (aea tA tB'):=by
 intro wh bH s U H Q I h;refine isTrue_and<|gk (ha bH s U H _ I h) λc s1 ⟨H1,I1,q1⟩=>?_;cases c with
 |true=>exact hb wh bH s1 U H1 Q I1 q1
 |false=>exact⟨H1,I1,q1⟩
theorem Ka (ha:PT X a tA)(hb:PW X (.BoolOp .Or (b::rest) pos) tB'):PW X (.BoolOp .Or (a::b::rest) pos) (tOr tA tB'):=by
 intro wh bH s U H Q I h;refine isTrue_or<|gk (ha bH s U H _ I h) λc s1 ⟨H1,I1,q1⟩=>?_;cases c with
 |true=>exact⟨H1,I1,q1⟩
 |false=>exact hb wh bH s1 U H1 Q I1 q1
theorem ux (ha:PT X a tA):PT X (.UnaryOp .Not a pos) (aeb tA):=by
 intro bH s U H Q I h;exact isTrue_not<|ha bH s U H (λc H1=>Q (!c) H1) I h
def acp (ta tb:TE):TE:=λU H Q=>ta U H λx H1=>∃c,x=.bl c/\if c=true then tb U H1 Q else Q (.bl false) H1
def acq (ta:TE):TE:=λU H Q=>ta U H λx H1=>∃c,x=.bl c/\Q (.bl (!c)) H1
theorem aao {op}{t:TE}(h:PE X a t):PE X (.BoolOp op [a] pos) t:=λbH s U H Q I hw=>BoolOp_one (h bH s U H Q I hw)
theorem aap (ha:PE X a ta)(hb:PE X (.BoolOp .And (b::rest) pos) tb):PE X (.BoolOp .And (a::b::rest) pos) (acp ta tb):=by
 intro bH s U H Q I h;refine BoolOp_and<|gk (ha bH s U H _ I h) λv s1 ⟨x,H1,I1,r1,q1⟩=>?_;obtain⟨c,rfl,q1⟩:=q1;cases r1;refine wpAny_truthy_bool ?_;cases c with
 |true=>exact hb bH s1 U H1 Q I1 q1
 |false=>exact⟨.bl false,H1,I1,rfl,q1⟩
theorem aaq (ha:PE X a ta):PE X (.UnaryOp .Not a pos) (acq ta):=by
 intro bH s U H Q I h;refine UnaryOp_<|gk (ha bH s U H _ I h) λv s1 ⟨x,H1,I1,r1,q1⟩=>?_;obtain⟨c,rfl,q1⟩:=q1;cases r1;exact not_of<|wpAny_truthy_bool ⟨.bl (!c),H1,I1,rfl,q1⟩
def tIf (t:TT)(ta tb:TE):TE:=λU H Q=>t U H λc H1=>if c=true then ta U H1 Q else tb U H1 Q
theorem Qw {c:aH}(hc:PT X c tA)(ha:PE X a ta)(hb:PE X b tb):PE X (.IfExp c a b pos) (tIf tA ta tb):=by
 intro bH s U H Q I h;refine wpAny_IfExp<|gk (hc bH s U H _ I h) λd s1 ⟨H1,I1,q1⟩=>?_;cases d with
 |true=>exact ha bH s1 U H1 Q I1 q1
 |false=>exact hb bH s1 U H1 Q I1 q1
end
def dD (K:aN)(H:Hp)(a:aj)(xs:List V):Prop :=
 Rd H a (.lst xs)\/
  ∃(o:Obj) (bh:Array ak) (n:Nat),K.lookup a=some o/\o.cls=.type "list"/\o.dict=none/\o.data=.seq bh n/\bh.size<=sizeLine/\Vals xs bh.toList
def iM (K:aN)(H:Hp)(a:aj)(xs:List V):Prop :=
 Rd H a (.tup xs)\/
  ∃(o:Obj) (bh:Array ak) (n:Nat),K.lookup a=some o/\o.cls=.type "tuple"/\o.data=.seq bh n/\bh.size<=sizeLine/\Vals xs bh.toList
noncomputable def aec:ak->Option V
 |.none=>some .non
 |.bool b=>some (.bl b)
 |.int i _=>some (.int i)
 |.str x _=>some (.str x)
 |.bytes b _=>some (.MJ b)
 |.float b _=>some (.flt b)
 |.ref a=>some (.ref a)
 |.type n=>some (.ty n)
 |_=>none
theorem RelV.abs {x:V}{u:ak}(r:RelV x u):aec u=some x:=by
 cases x with
 |non=>cases r;rfl
 |bl _=>cases r;rfl
 |int _=>obtain⟨t,rfl⟩:=r;rfl
 |str _=>obtain⟨t,rfl⟩:=r;rfl
 |MJ _=>obtain⟨t,rfl⟩:=r;rfl
 |flt _=>obtain⟨t,rfl⟩:=r;rfl
 |ref _=>cases r;rfl
 |ty _=>cases r;rfl
theorem RelV.inj {x y:V}{u:ak}(r:RelV x u)(q:RelV y u):x=y:=ahR (r.abs.symm.trans q.abs)
theorem Vals.inj {xs ys:List V}{us:List ak}(h:Vals xs us)(k:Vals ys us):xs=ys:=by
 induction h generalizing ys with
 |nil=>cases k;rfl
 |cons r _ ih=>cases k with
  |cons q t=>rw[r.inj q,ih t]
section
variable {X:Cx}{bH:List (aj×Obj)}{U:St}{H:Hp}{s:ao}{a:aj}{xs ys:List V}
theorem dD.of {K:aN}(h:H a=some (.lst xs)):dD K H a xs:=.inl (.inl h)
theorem iM.of {K:aN}(h:H a=some (.tup xs)):iM K H a xs:=.inl (.inl h)
theorem Inv.list (I:Inv X bH U H s)(h:dD X.K H a xs):∃bh:aP ak,Vals xs bh/\PlainL s.heap a bh.toArray/\xs.length<=sizeLine:=by
 rcases h with h|⟨o,bh,n,hk,hc,hd,hs,hz,r⟩
 ·obtain⟨z,bh,n,r,e⟩:=h.ok I.hok
  exact⟨bh,r,⟨_,n,e,rfl,rfl,rfl⟩,z⟩
 ·refine⟨bh.toList,r,⟨o,n,I.qU a o hk,hc,hd,by simpa using hs⟩,?_⟩
  have e:=r.length;simp only[ahg]at e;omega
theorem Inv.tuple (I:Inv X bH U H s)(h:iM X.K H a xs):∃bh:aP ak,Vals xs bh/\IsTup s.heap a bh.toArray/\xs.length<=sizeLine:=by
 rcases h with h|⟨o,bh,n,hk,hc,hs,hz,r⟩
 ·obtain⟨z,bh,r,p⟩:=h.ok I.hok
  exact⟨bh,r,p,z⟩
 ·refine⟨bh.toList,r,⟨o,I.qU a o hk,hc,n,by simpa using hs⟩,?_⟩
  have e:=r.length;simp only[ahg]at e;omega
theorem Inv.Qx (I:Inv X bH U H s)(h:dD X.K H a xs)(h':dD X.K H a ys):xs=ys:=by
 obtain⟨bh,r,⟨o,n,e,_,_,d⟩,_⟩:=I.list h;obtain⟨its',r',⟨o',n',e',_,_,d'⟩,_⟩:=I.list h';rw[e]at e';cases e';rw[d]at d';injection d' with d1 _;have:bh=its':=by simpa using congrArg Array.toList d1
 subst this;exact r.inj r'
theorem Inv.M5 (I:Inv X bH U H s)(h:iM X.K H a xs)(h':iM X.K H a ys):xs=ys:=by
 obtain⟨bh,r,⟨o,e,_,n,d⟩,_⟩:=I.tuple h;obtain⟨its',r',⟨o',e',_,n',d'⟩,_⟩:=I.tuple h';rw[e]at e';cases e';rw[d]at d';injection d' with d1 _;have:bh=its':=by simpa using congrArg Array.toList d1
 subst this;exact r.inj r'
end
abbrev Cx.wish (X:Cx)(E:ak->ao->Prop):Cx:={X with xe:=E}
abbrev Cx.HB (X:Cx):Cx:=X.wish λ_ _=>False
theorem Cx.Ok.wish {X:Cx}(ok:X.Ok)(E:ak->ao->Prop):(X.wish E).Ok :=
 ⟨ok.mod,ok.kind,ok.glob,ok.blt,ok.above,ok.inj,ok.has,ok.cab,ok.hd,ok.frames,ok.stk,ok.Vq,ok.bs,ok.DR,ok.vG,ok.wM,ok.mU,ok.Hv⟩
theorem Cx.Ok.pQ {X:Cx}{E:ak->ao->Prop}(ok:(X.wish E).Ok):X.Ok :=
 ⟨ok.mod,ok.kind,ok.glob,ok.blt,ok.above,ok.inj,ok.has,ok.cab,ok.hd,ok.frames,ok.stk,ok.Vq,ok.bs,ok.DR,ok.vG,ok.wM,ok.mU,ok.Hv⟩
section
variable {X:Cx}{bH:List (aj×Obj)}{U:St}{H:Hp}{s:ao}{E:ak->ao->Prop}
theorem Inv.wish (I:Inv X bH U H s)(E:ak->ao->Prop):Inv (X.wish E) bH U H s:=⟨I.ok.wish E,I.os,I.bare,I.base,I.loc,I.cell,I.free,I.jx,I.pin,I.hok,I.len⟩
theorem Inv.pQ (I:Inv (X.wish E) bH U H s):Inv X bH U H s:=⟨I.ok.pQ,I.os,I.bare,I.base,I.loc,I.cell,I.free,I.jx,I.pin,I.hok,I.len⟩
theorem SP.pQ {D:Ends}{f:Flow}{s':ao}(h:SP (X.wish E) bH D f s'):SP X bH D f s':=by
 cases f with
 |next=>obtain⟨U',H',I,q⟩:=h;exact⟨U',H',I.pQ,q⟩
 |brk=>obtain⟨U',H',I,q⟩:=h;exact⟨U',H',I.pQ,q⟩
 |cont=>obtain⟨U',H',I,q⟩:=h;exact⟨U',H',I.pQ,q⟩
 |ret u=>obtain⟨v,U',H',I,r,q⟩:=h;exact⟨v,U',H',I.pQ,r,q⟩
theorem yR.HB {st:aP aJ}{t:TS}(h:yR X.HB st t):yR X st t:=λbH s U H D I hw=>
 wpAny_mono (h bH s U H D (I.wish _) hw) (λ_ _ q=>q.pQ) λ_ _ z=>ahT z
end
section
variable {X:Cx}{st:aJ}{rest:List aJ}{t u:TS}{e:aH}{te:TE}{pos:Pos}
def gP:TS:=λD U H=>D.nx U H
def Ends.to (D:Ends)(n:St->Hp->Prop):Ends:={D with nx:=n}
def jt (t u:TS):TS:=λD U H=>t (D.to<|u D) U H
theorem cR:yR X [] gP:=λ_ _ U H _ I h=>wpAny_execs_nil ⟨U,H,I,h⟩
theorem bI (h1:PS X st t)(h2:yR X rest u):yR X (st::rest) (jt t u):=by
 intro bH s U H D I h;refine wpAny_execs_cons<|gk (h1 bH s U H {D with nx:=u D} I h) λf s1 q=>?_;cases f with
 |next=>
  obtain⟨U',H',I',q⟩:=q;exact h2 bH s1 U' H' D I' q
 |ret v=>exact q
 |brk=>exact q
 |cont=>exact q
theorem bQ (h1:PS X st t):yR X [st] t:=by
 intro bH s U H D I h;refine wpAny_execs_cons<|gk (h1 bH s U H D I h) λf s1 q=>?_;cases f with
 |next=>exact wpAny_execs_nil q
 |ret v=>exact q
 |brk=>exact q
 |cont=>exact q
theorem Inv.quiet {bH:aP (aj×Obj)}{U:St}{H:Hp}{s:ao}(I:Inv X bH U H s):interactive X.env=false:=by simp[interactive,I.ok.kind]
def acr (te:TE):TS:=λD U H=>te U H λ_ H1=>D.nx U H1
theorem cD (he:PE X e te)(hs:swapsWith e none pos.line X.env=pure false:=by rfl):PS X (.Expr e pos) (acr te):=by
 intro bH s U H D I h;exact wpAny_Expr_any (gk (he bH s U H _ I h) λv s1 ⟨x,H1,I1,r1,q1⟩=>⟨U,H1,I1,q1⟩) I.quiet hs
def acs (te:TE):TS:=λD U H=>te U H D.rt
theorem cO (he:PE X e te):PS X (.Return (some e) pos) (acs te):=by
 intro bH s U H D I h;exact wpAny_Return_some<|gk (he bH s U H _ I h) λv s1 ⟨x,H1,I1,r1,q1⟩=>⟨x,U,H1,I1,r1,q1⟩
def acu:TS:=λD _ H=>D.rt .non H
theorem Vu:PS X (.Return none pos) acu:=λ_ _ U H _ I h=>wpAny_Return_none ⟨.non,U,H,I,rfl,h⟩
def dM (c:TT)(t u:TS):TS:=λD U H=>c U H λb H1=>if b=true then t D U H1 else u D U H1
theorem dB {c:aH}{a b:List aJ}{tc:TT}(hc:PT X c tc)(ha:yR X a t)(hb:yR X b u):PS X (.If c a b pos) (dM tc t u):=by
 intro bH s U H D I h;refine wpAny_If<|gk (hc bH s U H _ I h) λd s1 ⟨H1,I1,q1⟩=>?_;cases d with
 |true=>exact ha bH s1 U H1 D I1 q1
 |false=>exact hb bH s1 U H1 D I1 q1
def aar:TS:=λ_ _ _=>False
theorem iB:PS X st aar:=λ_ _ _ _ _ _ h=>h.elim
end
abbrev TG:=V->St->Hp->(St->Hp->Prop)->Prop
abbrev Vd:=List V->St->Hp->(St->Hp->Prop)->Prop
def PG (X:Cx)(target:aH)(t:TG):Prop :=
 ∀(bH:List (aj×Obj)) (s:ao) (U:St) (H:Hp) (v:V) (u:ak) (Q:St->Hp->Prop),Inv X bH U H s->RelV v u->t v U H Q->
  wpAny (model X.prog X.w) X.A (assign target X.env u) (λ_ s'=>∃U' H',Inv X bH U' H' s'/\Q U' H') X.xe s
def PGs (X:Cx)(ts:List aH)(t:Vd):Prop :=
 ∀(bH:List (aj×Obj)) (s:ao) (U:St) (H:Hp) (vs:List V) (us:List ak) (Q:St->Hp->Prop),Inv X bH U H s->Vals vs us->t vs U H Q->
  wpAny (model X.prog X.w) X.A (assignInOrder ((assignEach ts X.env).map (·.2)) us) (λ_ s'=>∃U' H',Inv X bH U' H' s'/\Q U' H') X.xe s
abbrev aas:=V->V->V->Hp->(Hp->Prop)->Prop
def acv (X:Cx)(t:aas):Prop :=
 ∀(bH:List (aj×Obj)) (s:ao) (U:St) (H:Hp) (o i v:V) (ov iv u:ak) (Q:Hp->Prop),Inv X bH U H s->RelV o ov->RelV i iv->RelV v u->t o i v H Q->
  wpAny (model X.prog X.w) X.A (setItem ov iv u) (λ_ s'=>∃H',Inv X bH U H' s'/\Q H') X.xe s
section
variable {X:Cx}{pos:Pos}
def jy (i:Nat):TG:=λv U H Q=>Q (U.set i<|some v) H
theorem dF {i:Nat}{x:Str}(hN:X.N.Nodup)(hi:X.N[i]?=some x)(hx:Loc X.env.scope x)(hf:X.fn x=true\/X.env.scope.names.lookup x=some .local:=by first|exact .inl rfl|exact .inr rfl|assumption):PG X (.Name x pos) (jy i):=by
 intro bH s U H v u Q I r h;exact wpAny_assign_Name<|wN I hN hi hx r (λs' I'=>⟨_,H,I',h⟩) hf
inductive YJ (vs:List V)(U:St)(H:Hp)(Q:St->Hp->Prop):Prop where
 |mk:(vs=[])->(Q U H)->YJ vs U H Q
def Qy:Vd:=YJ
inductive Qz (t:TG)(u:Vd)(vs:List V)(U:St)(H:Hp)(Q:St->Hp->Prop):Prop where
 |mk (v) (r):(vs=v::r)->(t v U H λU' H'=>u r U' H' Q)->Qz t u vs U H Q
def sG (t:TG)(u:Vd):Vd:=Qz t u
theorem mq:PGs X [] Qy:=by
 intro bH s U H vs us Q I r h;obtain⟨e,h⟩:=h;subst e;cases r;exact assignInOrder_nil ⟨U,H,I,h⟩
theorem fK {e:aH}{es:List aH}{t:TG}{u:Vd}(h1:PG X e t)(h2:PGs X es u)
  (hs:(assignEach (e::es) X.env).map (·.2)=assign e X.env::(assignEach es X.env).map (·.2):=by rfl):PGs X (e::es) (sG t u):=by
 intro bH s U H vs us Q I r h;obtain⟨v,vr,e1,h⟩:=h;subst e1;cases r with
 |cons r rr=>
  rw[hs];refine assignInOrder_cons<|gk (h1 bH s U H _ _ _ I r h) λ_ s1 ⟨U1,H1,I1,q1⟩=>?_;exact h2 bH s1 U1 H1 _ _ Q I1 rr q1
inductive YK (K:aN)(n:Nat)(t:Vd)(v:V)(U:St)(H:Hp)(Q:St->Hp->Prop):Prop where
 |mk (a) (xs):(v=.ref a)->(iM K H a xs)->(xs.length=n)->(t xs U H Q)->YK K n t v U H Q
def M6 (K:aN)(n:Nat)(t:Vd):TG:=YK K n t
theorem aat {es:aP aH}{k:Nat}{t:Vd}{n:Nat}(hc:X.calm=true)(h:PGs X es t)
  (hn:(assignEach es X.env).length=n:=by rfl) (jY:(assignEach es X.env).findIdx? (·.1)=none:=by rfl):PG X (.Tuple es k pos) (M6 X.K n t):=by
 intro bH s U H v u Q I r hw;obtain⟨a,xs,e1,hq,hl,hw⟩:=hw;subst e1;cases r;obtain⟨bh,rv,ht,hz⟩:=I.tuple hq;refine assign_Tuple_tuple (I.ok.hd hc) ht (by simp[hn,<-hl,rv.length]) jY λh' hx=>?_;have I1:Inv X bH U H {s with heap:=h'}:=I.kept (t':=s.toks) λb o e=>hx b o (afV<|afB e) e;exact h bH _ U H xs _ Q I1 (by simpa using rv) hw
def aed (to ti:TE)(t:aas):TG:=λv U H Q=>to U H λo H1=>ti U H1 λi H2=>t o i v H2 λH3=>Q U H3
theorem uy {o i:aH}{to ti:TE}{t:aas}(ho:PE X o to)(hi:PE X i ti)(hs:acv X t)
  (ha:∀v,assign (.Subscript o i pos) X.env v=(do
   let ov <-holding [v] (eval o X.env)
   let iv <-holding [v,ov] (eval i X.env)
   standAt pos
   holding [v,ov,iv] (setItem ov iv v)
   release [v,ov,iv] []):=by intro _;rfl):PG X (.Subscript o i pos) (aed to ti t):=by
 intro bH s U H v u Q I r h;rw[ha];refine abI<|ahV (gk (ho bH s U H _ I h) λov s1 ⟨x,H1,I1,r1,q1⟩=>?_);refine abI<|ahV (gk (hi bH s1 U H1 _ I1 q1) λiv s2 ⟨y,H2,I2,r2,q2⟩=>?_);refine abI<|wpAny_standAt (abI<|ahV (gk (hs bH s2 U H2 x y v ov iv u _ I2 r1 r2 r q2) λ_ s3 ⟨H3,I3,q3⟩=>?_));exact wpAny_release ⟨U,H3,I3,q3⟩
def vH (te:TE)(g:TG):TS:=λD U H=>te U H λx H1=>g x U H1 D.nx
theorem pR {tg e:aH}{te:TE}{g:TG}(he:PE X e te)(hg:PG X tg g)(hs:swapsWithSole [tg] e pos.line X.env=pure false:=by rfl)(hw:swappedStores [tg] e X.env=pure none:=by rfl)
  (h1:(assignEach [tg] X.env).map (·.2)=[assign tg X.env]:=by rfl):PS X (.Assign [tg] e pos) (vH te g):=by
 intro bH s U H D I h;refine wpAny_Assign_stores (gk (he bH s U H _ I h) λv s1 ⟨x,H1,I1,r1,q1⟩=>?_) hs hw;rw[h1];exact gk (hg bH s1 U H1 x v _ I1 r1 q1) λ_ s2 q=>q
theorem oO {i:Nat}{x:Str}{e:aH}{te:TE}{oN:Pos}(hN:X.N.Nodup)(hi:X.N[i]?=some x)(hx:Loc X.env.scope x)(he:PE X e te)(hs:swapsWith e (some<|.Name x oN) pos.line X.env=pure false:=by rfl)(hf:X.fn x=true\/X.env.scope.names.lookup x=some .local:=by first|exact .inl rfl|exact .inr rfl|assumption):
  PS X (.Assign [.Name x oN] e pos) (vH te<|jy i):=by
 intro bH s U H D I h;refine wpAny_Assign_Name (gk (he bH s U H _ I h) λv s1 ⟨y,H1,I1,r1,q1⟩=>?_) hs;exact wN I1 hN hi hx r1 (λs2 I2=>⟨_,H1,I2,q1⟩) hf
inductive acw (i:Nat)(j:Nat)(D:Ends)(U:St)(vs:List V)(H1:Hp):Prop where
 |mk (v) (w):(vs=[v,w])->(D.nx ((U.set i<|some v).set j<|some w) H1)->acw i j D U vs H1
end
section
variable {X:Cx}{pos:Pos}
def aau (c:TT)(tb:TS):TS:=λD U H=>∃W:Nat->St->Hp->Prop,(∃m,W m U H)/\∀m U H,W m U H->
 c U H λb H1=>if b=true then ∃N:St->Hp->Prop,(∀U' H',N U' H'->∃m',m'<m/\W m' U' H')/\tb (D.lp N) U H1 else D.nx U H1
theorem Ek {c:aH}{body:List aJ}{tc:TT}{tb:TS}(hp:PassesOwn (model X.prog X.w) X.A X.env X.xe)(hc:PT X c tc)(hb:yR X body tb):PS X (.While c body [] pos) (aau tc tb):=by
 intro bH s U H D I h;obtain⟨W,⟨m0,w0⟩,turn⟩:=h;refine wpAny_While<|codeAny_whileLoop (λn s'=>∃U' H',Inv X bH U' H' s'/\W n U' H') ?_ m0 ⟨U,H,I,w0⟩;rintro n s1 ⟨U1,H1,I1,w1⟩;refine wpAny_passesOwn hp<|gk (hc bH s1 U1 H1 _ I1<|turn n U1 H1 w1) λb s2 ⟨H2,I2,q2⟩=>?_;cases b with
 |true=>
  obtain⟨N,hN,q2⟩:=q2;rw[ahK rfl];refine wpAny_passesOwn hp<|gk (hb bH s2 U1 H2 _ I2 q2) λf s3 q3=>?_;cases f with
  |next=>
   obtain⟨U3,H3,I3,n3⟩:=q3;obtain⟨m',hm,w3⟩:=hN U3 H3 n3;exact⟨m',hm,U3,H3,I3,w3⟩
  |cont=>
   obtain⟨U3,H3,I3,n3⟩:=q3;obtain⟨m',hm,w3⟩:=hN U3 H3 n3;exact⟨m',hm,U3,H3,I3,w3⟩
  |brk=>exact q3
  |ret v=>exact q3
 |false=>
  rw[ahL afD];exact wpAny_execs_nil ⟨U1,H2,I2,q2⟩
end
structure It where
 go:Nat->Hp->Prop
 YL:Nat->Hp->V->Hp->Prop
 stop:Nat->Hp->Prop
def uz (X:Cx)(bH:List (aj×Obj))(H:Hp)(b:aj):Prop :=
 H b=none/\b≠X.env.locals/\b∉X.fs/\(b∈X.ex\/X.s₀.heap.objs.size<=b)/\(∀x c,X.env.cells.lookup x=some c->c≠b)/\∀p∈X.pn++bH,p.1≠b
theorem Inv.uD {X:Cx}{bH:aP (aj×Obj)}{U:St}{H H':Hp}{s:ao}{b:aj}(I:Inv X bH U H s)(hb:s.heap.objs.size<=b)(hn:H' b=none):uz X bH H' b:=by
 refine⟨hn,agM<|afH I.lt hb,I.Vr hb, .inr<|afy I.sz hb,λx c e z=>?_,λp hp z=>?_⟩
 ·obtain⟨v,q⟩:=I.cell x c e
  exact absurd (afH q.lt<|by rw[z];exact hb)<|afQ _
 ·exact absurd (afH (afB (I.pin p hp).1)<|by rw[z];exact hb)<|afQ _
structure Turn (P:aA)(w:aG)(K:aN)(tg:aH)(J:It)(fp:List aj)(it:aj)(tn:Nat->aK->Prop):Prop where
 mem:it∈fp
 obj:∀i h,tn i h->∀b∈fp,∃o,h.get? b=some o/\∀v,o.data≠.cell v
 keep:∀i h h',tn i h->(∀b∈fp,∀o,h.get? b=some o->h'.get? b=some o)->tn i h'
 item:∀(X:Cx),X.prog=P->X.w=w->X.K=K->X.calm=true->∀(i:Nat) (bH:List (aj×Obj)) (s:ao) (U:St) (H:Hp) (E:ak->ao->Prop),Inv X bH U H s->(∀b∈fp,uz X bH H b)->tn i s.heap->J.go i H->
  wpAny (model P w) X.A (pyNext<|.ref it) (λr s1=>∃u,r=some u/\
   wpAny (model P w) X.A (letOwnedTupleGo tg (.ref it) u) (λ_ s2=>∃x H',Inv X bH U H' s2/\RelV x u/\J.YL i H x H'/\tn (i+1) s2.heap/\∀b∈fp,H' b=none) E s1) E s
 done:∀(X:Cx),X.prog=P->X.w=w->X.K=K->X.calm=true->∀(i:Nat) (bH:List (aj×Obj)) (s:ao) (U:St) (H:Hp) (E:ak->ao->Prop),Inv X bH U H s->(∀b∈fp,uz X bH H b)->tn i s.heap->J.stop i H->
  wpAny (model P w) X.A (pyNext<|.ref it) (λr s1=>r=none/\Inv X bH U H s1) E s
 self:∀(A:aq) (i:Nat) (s:ao) (Q:ak->ao->Prop) (E:ak->ao->Prop),tn i s.heap->Q (.ref it) s->wpAny (model P w) A (pyIter<|.ref it) Q E s
abbrev TI:=St->Hp->(It->Hp->Prop)->Prop
def PIE (X:Cx)(bH:List (aj×Obj))(U:St)(tg:aH)(R:It->Hp->Prop)(itv:ak)(s2:ao):Prop :=
 ∃(it:aj) (fp:List aj) (tn:Nat->aK->Prop) (J:It) (H':Hp),itv=.ref it/\Inv X bH U H' s2/\Turn X.prog X.w X.K tg J fp it tn/\tn 0 s2.heap/\(∀b∈fp,uz X bH H' b)/\R J H'
def PI (X:Cx)(tg dR:aH)(wi:TI):Prop :=
 ∀(bH:List (aj×Obj)) (s:ao) (U:St) (H:Hp) (R:It->Hp->Prop),Inv X bH U H s->wi U H R->
  wpAny (model X.prog X.w) X.A (eval dR X.env) (λv s1=>wpAny (model X.prog X.w) X.A (pyIter v) (PIE X bH U tg R) X.xe s1) X.xe s
theorem QB {M:Model}{A:aq}{E:ak->ao->Prop}{s:ao}{tg:aH}{it:aj}{u:ak}{o:Obj}{n:String}{vs:Array ak}{Q:Unit->ao->Prop}(ho:s.heap.get? it=some o)(hc:o.cls=.type n)(hd:o.data=.fields vs)
  (hn:["enumerate","zip","dict_itemiterator","dict_reverseitemiterator","odict_iterator","itertools.zip_longest","itertools.pairwise"].contains n=false) (hQ:Q () s):wpAny M A (letOwnedTupleGo tg (.ref it) u) Q E s:=by
 unfold letOwnedTupleGo;cases tg<;>first
  |exact ahI hQ
  |(cases u<;>first
    |exact ahI hQ
    |(refine abI (wpAny_load ho ?_)
      rw[hc,hd];show wpAny M A (if(["enumerate","zip","dict_itemiterator","dict_reverseitemiterator","odict_iterator","itertools.zip_longest","itertools.pairwise"].contains n&&vs[0]?==some (rawInt _))=true then _ else _) Q E s;rw[ahL (by intro h;rw[hn,Bool.false_and]at h;cases h)];exact ahI hQ))
def Itl (K:aN)(a:aj):It :=
 ⟨λi H=>∃xs x,dD K H a xs/\xs[i]?=some x,λi H x H'=>H'=H/\∀xs,dD K H a xs->xs[i]?=some x,λi H=>∃xs,dD K H a xs/\xs.length<=i⟩
def Itt (K:aN)(a:aj):It :=
 ⟨λi H=>∃xs x,iM K H a xs/\xs[i]?=some x,λi H x H'=>H'=H/\∀xs,iM K H a xs->xs[i]?=some x,λi H=>∃xs,iM K H a xs/\xs.length<=i⟩
def Itr (lo:Int)(n:Nat):It:=⟨λi _=>i<n,λi H x H'=>H'=H/\x=.int (lo+i),λi _=>n<=i⟩
theorem M8 {P:aA}{w:aG}{K:aN}{tg:aH}(a it:aj):Turn P w K tg (Itl K a) [it] it (λi h=>h.IsListIter it a i) where
 mem:=by simp
 obj:=λi h st b hb=>by
  have e:b=it:=by simpa using hb
  subst e;obtain⟨o,e,c,d⟩:=st;exact⟨o,e,λv z=>by rw[d]at z;cases z⟩
 keep:=λi h h' st k=>st.at λo e=>k it (by simp) o e
 item:=by
  intro X hP hw hK hc i bH s U H E I hf st hg;subst hP hw hK;obtain⟨xs,x,hq,hx⟩:=hg;obtain⟨bh,rv,p,hz⟩:=I.list hq;obtain⟨u,hu,ru⟩:=rv.get hx;obtain⟨f0,f1,f2,f3,f4,f5⟩:=hf it (by simp);refine wpAny_pyNext_list_item st p.isList (x:=u) (by simpa using hu) λh' st' sb=>?_;have I1:Inv X bH U H {s with heap:=h'}:=I.turned (t':=s.toks) (λb o hb e=>(sb.2 b hb).trans e) f0 f1 f3 f4 f5;obtain⟨o,e,c,d⟩:=id st';exact⟨u,rfl,QB (s:={s with heap:=h'}) e c d (by decide) ⟨x,H,I1,ru,⟨rfl,λys hy=>by rw[I.Qx hy hq];exact hx⟩,st',λb hb=>(hf b hb).1⟩⟩
 done:=by
  intro X hP hw hK hc i bH s U H E I hf st hg;subst hP hw hK;obtain⟨xs,hq,hx⟩:=hg;obtain⟨bh,rv,p,hz⟩:=I.list hq;obtain⟨f0,f1,f2,f3,f4,f5⟩:=hf it (by simp);have hl:=rv.length;exact wpAny_pyNext_list_end (I.ok.hd hc) st p.isList (by simp;exact afy (agy hl.symm) hx) λh' eb=>⟨rfl,I.turned (t':=s.toks) (λb o hb e=>eb b o hb e) f0 f1 f3 f4 f5⟩
 self:=λ_ _ _ _ _ st h=>wpAny_pyIter_listiter st h
theorem HD {P:aA}{w:aG}{K:aN}{tg:aH}(a it:aj):Turn P w K tg (Itt K a) [it] it (λi h=>h.IsTupleIter it a i) where
 mem:=by simp
 obj:=λi h st b hb=>by
  have e:b=it:=by simpa using hb
  subst e;obtain⟨o,e,c,d⟩:=st;exact⟨o,e,λv z=>by rw[d]at z;cases z⟩
 keep:=λi h h' st k=>st.at λo e=>k it (by simp) o e
 item:=by
  intro X hP hw hK hc i bH s U H E I hf st hg;subst hP hw hK;obtain⟨xs,x,hq,hx⟩:=hg;obtain⟨bh,rv,p,hz⟩:=I.tuple hq;obtain⟨u,hu,ru⟩:=rv.get hx;obtain⟨f0,f1,f2,f3,f4,f5⟩:=hf it (by simp);refine wpAny_pyNext_tuple_item st (show s.heap.IsTuple a bh.toArray from p) (x:=u) (by simpa using hu) λh' st' sb=>?_;have I1:Inv X bH U H {s with heap:=h'}:=I.turned (t':=s.toks) (λb o hb e=>(sb.2 b hb).trans e) f0 f1 f3 f4 f5;obtain⟨o,e,c,d⟩:=id st';exact⟨u,rfl,QB (s:={s with heap:=h'}) e c d (by decide) ⟨x,H,I1,ru,⟨rfl,λys hy=>by rw[I.M5 hy hq];exact hx⟩,st',λb hb=>(hf b hb).1⟩⟩
 done:=by
  intro X hP hw hK hc i bH s U H E I hf st hg;subst hP hw hK;obtain⟨xs,hq,hx⟩:=hg;obtain⟨bh,rv,p,hz⟩:=I.tuple hq;obtain⟨f0,f1,f2,f3,f4,f5⟩:=hf it (by simp);have hl:=rv.length;exact wpAny_pyNext_tuple_end (I.ok.hd hc) st (show s.heap.IsTuple a bh.toArray from p) (by simp;exact afy (agy hl.symm) hx) λh' eb=>⟨rfl,I.turned (t':=s.toks) (λb o hb e=>eb b o hb e) f0 f1 f3 f4 f5⟩
 self:=λ_ _ _ _ _ st h=>wpAny_pyIter_tupleiter st h
theorem HF {P:aA}{w:aG}{K:aN}{tg:aH}(it:aj)(lo:Int)(n:Nat):Turn P w K tg (Itr lo n) [it] it (λi h=>IsRangeIter h it (lo+(i:Nat)*1) ((n:Int)-(i:Nat)) 1) where
 mem:=by simp
 obj:=λi h st b hb=>by
  have e:b=it:=by simpa using hb
  subst e;exact⟨_,st,λv z=>by
   have z':Data.fields _=Data.cell v:=z;cases z'⟩
 keep:=λi h h' st k=>k it (by simp) _ st
 item:=by
  intro X hP hw hK hc i bH s U H E I hf st hg;subst hP hw hK;obtain⟨f0,f1,f2,f3,f4,f5⟩:=hf it (by simp);have W:=Walks.range (prog:=X.prog) (w:=X.w) (I.ok.hd hc) it lo 1 n;refine W.item i s _ _ hg st λv h' tk hv st' kk=>?_;obtain⟨t,rfl⟩:=hv;have I1:Inv X bH U H {s with heap:=h',toks:=tk}:=I.turned (λb o hb e=>kk b o (by simpa using hb) e) f0 f1 f3 f4 f5;refine⟨_,rfl,QB (s:={s with heap:=h',toks:=tk}) (n:="range_iterator") st' rfl rfl (by decide) ⟨.int<|lo+i,H,I1,⟨t,?_⟩,⟨rfl,rfl⟩,st',λb hb=>(hf b hb).1⟩⟩;rw[Int.mul_one]
 done:=by
  intro X hP hw hK hc i bH s U H E I hf st hg;subst hP hw hK;obtain⟨f0,f1,f2,f3,f4,f5⟩:=hf it (by simp);exact wpAny_pyNext_range_end (I.ok.hd hc) st (by have:n<=i:=hg;omega) λh' eb=>⟨rfl,I.turned (t':=s.toks) (λb o hb e=>eb b o hb e) f0 f1 f3 f4 f5⟩
 self:=λ_ _ _ _ _ st h=>wpAny_pyIter_rangeiter st h
section
variable {X:Cx}{tg:aH}
inductive QC (K:aN)(R:It->Hp->Prop)(x:V)(H1:Hp):Prop where
 |mk (a):(x=.ref a)->((∃xs,dD K H1 a xs))->(R (Itl K a) H1)->QC K R x H1
def YM (K:aN)(tl:TE):TI:=λU H R=>tl U H (QC K R)
inductive YQ (K:aN)(R:It->Hp->Prop)(x:V)(H1:Hp):Prop where
 |mk (a):(x=.ref a)->((∃xs,iM K H1 a xs))->(R (Itt K a) H1)->YQ K R x H1
def acy (K:aN)(tl:TE):TI:=λU H R=>tl U H (YQ K R)
theorem Vv {l:aH}{tl:TE}(hl:PE X l tl):PI X tg l (YM X.K tl):=by
 intro bH s U H R I h;refine gk (hl bH s U H _ I h) λv s1 ⟨x,H1,I1,r1,q1⟩=>?_;obtain⟨a,e,⟨xs,hq⟩,q⟩:=q1;subst e;cases r1;obtain⟨bh,rv,p,hz⟩:=I1.list hq;refine wpAny_pyIter_list p.isList ?_;refine⟨s1.heap.objs.size,[s1.heap.objs.size],_,_,H1,rfl,I1.kept (t':=s1.toks) λb o e=>afx _ e,M8 a _,⟨_,afK _ rfl,rfl,rfl⟩,λb hb=>?_,q⟩;have e:b=s1.heap.objs.size:=by simpa using hb
 subst e;exact I1.uD (afv _)<|I1.hok.fresh (afv _)
theorem aav {l:aH}{tl:TE}(hl:PE X l tl):PI X tg l (acy X.K tl):=by
 intro bH s U H R I h;refine gk (hl bH s U H _ I h) λv s1 ⟨x,H1,I1,r1,q1⟩=>?_;obtain⟨a,e,⟨xs,hq⟩,q⟩:=q1;subst e;cases r1;obtain⟨bh,rv,p,hz⟩:=I1.tuple hq;refine wpAny_pyIter_tuple (show s1.heap.IsTuple a bh.toArray from p) ?_;refine⟨s1.heap.objs.size,[s1.heap.objs.size],_,_,H1,rfl,I1.kept (t':=s1.toks) λb o e=>afx _ e,HD a _,⟨_,afK _ rfl,rfl,rfl⟩,λb hb=>?_,q⟩;have e:b=s1.heap.objs.size:=by simpa using hb
 subst e;exact I1.uD (afv _)<|I1.hok.fresh (afv _)
theorem QD {bH:aP (aj×Obj)}{U:St}{H:Hp}{s:ao}{R:It->Hp->Prop}{E:ak->ao->Prop}{lo hi:Int}{t u v:Tok}{tk:Nat}(I:Inv X bH U H s)(h1: -(2^62)<=lo)(h2:lo<2^62)(h3: -(2^62)<=hi)(h4:hi<2^62)
  (q:R (Itr lo (hi-lo).toNat) H):wpAny (model X.prog X.w) X.A (pyIter<|.ref s.heap.objs.size) (PIE X bH U tg R) E {s with heap:=s.heap.push {cls:=.type "range",data:=.fields #[.int lo t, .int hi u, .int 1 v]},toks:=tk}:=by
 refine wpAny_pyIter_range (IsRange.new ..) (small_one h1 h2 h3 h4) ?_;have I1:Inv X bH U H {s with heap:=s.heap.push {cls:=.type "range",data:=.fields #[.int lo t, .int hi u, .int 1 v]},toks:=tk}:=I.kept λb o e=>afx _ e;refine⟨(s.heap.push {cls:=.type "range",data:=.fields #[.int lo t, .int hi u, .int 1 v]}).objs.size,[(s.heap.push {cls:=.type "range",data:=.fields #[.int lo t, .int hi u, .int 1 v]}).objs.size],_,_,H,rfl,
  I1.kept (t':=tk) λb o e=>afx _ e,HF _ lo (hi-lo).toNat,?_,λb hb=>?_,q⟩
 ·have e1:lo+((0:Nat):Int)*1=lo:=by simp
  have e2:(((hi-lo).toNat:Nat):Int)-((0:Nat):Int)=Builtin.Range.rangeSize lo hi 1:=by rw[rangeSize_one];split<;>omega
  show IsRangeIter _ _ (lo+((0:Nat):Int)*1) ((((hi-lo).toNat:Nat):Int)-((0:Nat):Int)) 1;rw[e1,e2];exact afK _ rfl
 ·have e:b=(s.heap.push {cls:=.type "range",data:=.fields #[.int lo t, .int hi u, .int 1 v]}).objs.size:=by simpa using hb
  subst e;exact I1.uD (afv _)<|I1.hok.fresh (afv _)
inductive QF (R:It->Hp->Prop)(vs:List V)(H1:Hp):Prop where
 |mk (j:Int):(vs=[.int j])->(-(2^62)<=j)->(j<2^62)->(R (Itr 0 j.toNat) H1)->QF R vs H1
def acz (ta:TA):TI:=λU H R=>ta U H (QF R)
theorem jK {a:aH}{ta:TA}{p pos:Pos}(hg:Gl X "range")(hm:X.mg "range"=none)(ha:PA X [a] ta)(hs:starEach [a] X.env=[(false,eval a X.env)]:=by rfl):PI X tg (.Call (.Name "range" p) [a] [] pos) (acz ta):=by
 intro bH s U H R I h;refine Call_<|mV I hg hm boot_range (PyProof.Rows.callWith_type1 (gk (ha pos bH s U H _ I h) λus s1 ⟨vs,H1,I1,r1,q1⟩=>?_) hs rfl);obtain⟨j,e,q1,q2,q⟩:=q1;subst e;cases r1 with
 |cons r rr=>
  cases rr;obtain⟨t,rfl⟩:=r;exact call_range_1 (QD I1 (by omega) (by omega) q1 q2<|by simpa using q)
def aaw (wi:TI)(g:TG)(tb:TS):TS:=λD U H=>wi U H λJ H1=>∃W:Nat->Nat->St->Hp->Prop,(∃m,W 0 m U H1)/\∀i m U H,W i m U H->
 (J.stop i H/\D.nx U H)\/(J.go i H/\∃N:St->Hp->Prop,(∀U' H',N U' H'->∃m',m'<m/\W (i+1) m' U' H')/\∀x H',J.YL i H x H'->g x U H' λU2 H2=>tb (D.lp N) U2 H2)
noncomputable def wQ (fp:List aj)(h:aK):List (aj×Obj):=fp.filterMap λb=>(h.get? b).map λo=>(b,o)
theorem oR {fp:aP aj}{h:aK}{b:aj}{o:Obj}(hb:b∈fp)(e:h.get? b=some o):(b,o)∈wQ fp h:=List.mem_filterMap.mpr ⟨b,hb,by rw[e];rfl⟩
theorem M9 {fp:List aj}{h:aK}{p:aj×Obj}(hp:p∈wQ fp h):p.1∈fp/\h.get? p.1=some p.2:=by
 obtain⟨b,hb,e⟩:=List.mem_filterMap.mp hp;cases q:h.get? b with
 |none=>rw[q]at e;cases e
 |some o=>
  rw[q]at e;have e':(b,o)=p:=ahR e;subst e';exact⟨hb,q⟩
theorem Inv.pinned {bH:aP (aj×Obj)}{U:St}{H:Hp}{s:ao}{fp:aP aj}(I:Inv X bH U H s)(hf:∀b∈fp,uz X bH H b)(ho:∀b∈fp,∃o,s.heap.get? b=some o/\∀v,o.data≠.cell v):Inv X (bH++wQ fp s.heap) U H s :=
 I.vP λp hp=>(agd.mp hp).elim (λz=>I.pin p<|afI _ z) λz=>by
  obtain⟨hb,e⟩:=M9 z;obtain⟨f0,f1,f2,_⟩:=hf p.1 hb;obtain⟨o,e',d⟩:=ho p.1 hb;rw[e]at e';cases e';exact⟨e,f0,f1,f2,d⟩
theorem Inv.kh {bH pl:aP (aj×Obj)}{U:St}{H:Hp}{s:ao}(I:Inv X (bH++pl) U H s):Inv X bH U H s:=I.vP λp hp=>I.pin p (afI _<|agg _ hp)
theorem mY {dR:aH}{body:List aJ}{wi:TI}{g:TG}{tb:TS}{pos:Pos}(hp:PassesOwn (model X.prog X.w) X.A X.env X.xe)(hc:X.calm=true)(hi:PI X tg dR wi)(hg:PG X tg g)(hb:yR X body tb)
  (hs:∀x,foldedSetIterable dR X.env x=pure x:=by intro _;rfl):PS X (.For tg dR body [] pos) (aaw wi g tb):=by
 intro bH s U H D I h;refine wpAny_For (gk (hi bH s U H _ I h) λv s1 h1=>gk h1 λitv s2 h2=>?_) hs;obtain⟨it,fp,tn,J,H2,e,I2,T,st2,f2,W,⟨m0,w0⟩,turn⟩:=h2;subst e;have stat:∀{H':Hp},(∀b∈fp,H' b=none)->∀b∈fp,uz X bH H' b:=λhn b hb=>⟨hn b hb,(f2 b hb).2⟩;refine codeAny_forLoop_any (λn s'=>∃i U' H',Inv X bH U' H' s'/\tn i s'.heap/\(∀b∈fp,H' b=none)/\W i n U' H') ?_ m0 ⟨0,U,H2,I2,st2,λb hb=>(f2 b hb).1,w0⟩;rintro n s3 ⟨i,U3,H3,I3,st3,fr3,w3⟩;rcases turn i n U3 H3 w3 with ⟨stop,qn⟩|⟨go,N,hN,step⟩
 ·refine wpAny_passesOwn hp (gk (T.done X rfl rfl rfl hc i bH s3 U3 H3 X.xe I3 (stat fr3) st3 stop) λr s4 ⟨hr,I4⟩=>?_)
  subst hr;exact wpAny_execs_nil ⟨U3,H3,I4,qn⟩
 ·refine wpAny_passesOwn hp (gk (T.item X rfl rfl rfl hc i bH s3 U3 H3 X.xe I3 (stat fr3) st3 go) λr s4 ⟨u,hr,h4⟩=>?_)
  subst hr;refine wpAny_passesOwn hp<|gk h4 λ_ s5 ⟨x,H5,I5,r5,y5,Ve,fr5⟩=>?_;have I5':=I5.pinned (stat fr5) (T.obj _ _ Ve);refine wpAny_passesOwn hp<|gk (hg _ s5 U3 H5 x u _ I5' r5<|step x H5 y5) λ_ s6 ⟨U6,H6,I6,q6⟩=>?_;refine wpAny_passesOwn hp<|gk (hb _ s6 U6 H6 _ I6 q6) λf s7 q7=>?_;have again:∀{U7:St} {H7:Hp},Inv X (bH++wQ fp s5.heap) U7 H7 s7->N U7 H7->∃m,m<n/\∃i U' H',Inv X bH U' H' s7/\tn i s7.heap/\(∀b∈fp,H' b=none)/\W i m U' H':=λ{U7 H7} I7 n7=>by
   obtain⟨m',hm,w7⟩:=hN U7 H7 n7;refine⟨m',hm,i+1,U7,H7,I7.kh,T.keep _ _ _ Ve λb hb o e=>(I7.pin (b,o)<|afI _ (afI _<|oR hb e)).1,λb hb=>?_,w7⟩;obtain⟨o,e,d⟩:=T.obj _ _ Ve b hb;exact(I7.pin (b,o)<|afI _ (afI _<|oR hb e)).2.1
  cases f with
  |next=>obtain⟨U7,H7,I7,n7⟩:=q7;exact again I7 n7
  |cont=>obtain⟨U7,H7,I7,n7⟩:=q7;exact again I7 n7
  |brk=>obtain⟨U7,H7,I7,q7⟩:=q7;exact⟨U7,H7,I7.kh,q7⟩
  |ret v=>obtain⟨x7,U7,H7,I7,r7,q7⟩:=q7;exact⟨x7,U7,H7,I7.kh,r7,q7⟩
end
theorem wR {K:aN}{a:aj}{xs:aP V}{g:TG}{tb:TS}{D:Ends}{U:St}{H:Hp}(Pv:Nat->St->Hp->Prop)(h0:Pv 0 U H)(hl:∀i U H,i<=xs.length->Pv i U H->dD K H a xs)
  (hs:∀i x U H,xs[i]?=some x->Pv i U H->g x U H λU2 H2=>tb (D.lp<|Pv (i+1)) U2 H2) (hd:∀U H,Pv xs.length U H->D.nx U H):
  ∃W:Nat->Nat->St->Hp->Prop,(∃m,W 0 m U H)/\∀i m U H,W i m U H->
   ((Itl K a).stop i H/\D.nx U H)\/((Itl K a).go i H/\∃N:St->Hp->Prop,(∀U' H',N U' H'->∃m',m'<m/\W (i+1) m' U' H')/\∀x H',(Itl K a).YL i H x H'->g x U H' λU2 H2=>tb (D.lp N) U2 H2):=by
 refine⟨λi m U H=>m=xs.length-i/\i<=xs.length/\Pv i U H,⟨xs.length,by simp,afY _,h0⟩,?_⟩;rintro i m U H ⟨rfl,hi,p⟩;have q:=hl i U H hi p;by_cases jf:i<xs.length
 ·refine .inr ⟨⟨xs,xs[i],q,by simp[jf]⟩,Pv<|i+1,λU' H' p'=>⟨xs.length-(i+1),by omega,rfl,jf,p'⟩,λx H' y=>?_⟩
  obtain⟨e,y⟩:=y;subst e;exact hs i x U _ (y xs q) p
 ·have e:i=xs.length:=by exact ago hi (Nat.not_lt.mp jf)
  subst e;exact .inl ⟨⟨xs,q,afv _⟩,hd U H p⟩
theorem Kc {K:aN}{a:aj}{xs:aP V}{g:TG}{tb:TS}{D:Ends}{U:St}{H:Hp}(Pv:Nat->St->Hp->Prop)(h0:Pv 0 U H)(hl:∀i U H,i<=xs.length->Pv i U H->iM K H a xs)
  (hs:∀i x U H,xs[i]?=some x->Pv i U H->g x U H λU2 H2=>tb (D.lp<|Pv (i+1)) U2 H2) (hd:∀U H,Pv xs.length U H->D.nx U H):
  ∃W:Nat->Nat->St->Hp->Prop,(∃m,W 0 m U H)/\∀i m U H,W i m U H->
   ((Itt K a).stop i H/\D.nx U H)\/((Itt K a).go i H/\∃N:St->Hp->Prop,(∀U' H',N U' H'->∃m',m'<m/\W (i+1) m' U' H')/\∀x H',(Itt K a).YL i H x H'->g x U H' λU2 H2=>tb (D.lp N) U2 H2):=by
 refine⟨λi m U H=>m=xs.length-i/\i<=xs.length/\Pv i U H,⟨xs.length,by simp,afY _,h0⟩,?_⟩;rintro i m U H ⟨rfl,hi,p⟩;have q:=hl i U H hi p;by_cases jf:i<xs.length
 ·refine .inr ⟨⟨xs,xs[i],q,by simp[jf]⟩,Pv<|i+1,λU' H' p'=>⟨xs.length-(i+1),by omega,rfl,jf,p'⟩,λx H' y=>?_⟩
  obtain⟨e,y⟩:=y;subst e;exact hs i x U _ (y xs q) p
 ·have e:i=xs.length:=by exact ago hi (Nat.not_lt.mp jf)
  subst e;exact .inl ⟨⟨xs,q,afv _⟩,hd U H p⟩
theorem qF {lo:Int}{n:Nat}{g:TG}{tb:TS}{D:Ends}{U:St}{H:Hp}(Pv:Nat->St->Hp->Prop)(h0:Pv 0 U H)
  (hs:∀i U H,i<n->Pv i U H->g (.int<|lo+i) U H λU2 H2=>tb (D.lp<|Pv (i+1)) U2 H2) (hd:∀U H,Pv n U H->D.nx U H):
  ∃W:Nat->Nat->St->Hp->Prop,(∃m,W 0 m U H)/\∀i m U H,W i m U H->
   ((Itr lo n).stop i H/\D.nx U H)\/((Itr lo n).go i H/\∃N:St->Hp->Prop,(∀U' H',N U' H'->∃m',m'<m/\W (i+1) m' U' H')/\∀x H',(Itr lo n).YL i H x H'->g x U H' λU2 H2=>tb (D.lp N) U2 H2):=by
 refine⟨λi m U H=>m=n-i/\i<=n/\Pv i U H,⟨n,by simp,afY _,h0⟩,?_⟩;rintro i m U H ⟨rfl,hi,p⟩;by_cases jf:i<n
 ·refine .inr ⟨jf,Pv<|i+1,λU' H' p'=>⟨n-(i+1),by omega,rfl,jf,p'⟩,λx H' y=>?_⟩
  obtain⟨e,y⟩:=y;subst e y;exact hs i U _ jf p
 ·have e:i=n:=by exact ago hi (Nat.not_lt.mp jf)
  subst e;exact .inl ⟨afv _,hd U H p⟩
abbrev R2:=V->V->Hp->VK->Prop
def qW (X:Cx)(f:ak->ak->Sem ak)(r:R2):Prop :=
 ∀(bH:List (aj×Obj)) (s:ao) (U:St) (H:Hp) (x y:V) (v u:ak) (Q:VK),Inv X bH U H s->RelV x v->RelV y u->r x y H Q->
  wpAny (model X.prog X.w) X.A (f v u) (EP X bH U Q) X.xe s
def jL (X:Cx)(f:ak)(r:List V->Hp->VK->Prop):Prop :=
 ∀(bH:List (aj×Obj)) (s:ao) (U:St) (H:Hp) (xs:List V) (us:List ak) (Q:VK),Inv X bH U H s->Vals xs us->r xs H Q->
  wpAny (model X.prog X.w) X.A (call f us) (EP X bH U Q) X.xe s
def Hw (r:R2)(ta tb:TE):TE:=λU H Q=>ta U H λx H1=>tb U H1 λy H2=>r x y H2 Q
inductive rI_ (C:Int->Int->Prop)(g:Int->Int->V)(x:V)(y:V)(H:Hp)(Q:VK):Prop where
 |mk (i) (j):(x=.int i)->(y=.int j)->(C i j)->(Q (g i j) H)->rI_ C g x y H Q
def rI (C:Int->Int->Prop)(g:Int->Int->V):R2:=rI_ C g
inductive acA (g:Int->Int->V)(x:V)(y:V)(H:Hp)(Q:VK):Prop where
 |mk (i) (j):(x=.int i)->(y=.int j)->(Q (g i j) H)->acA g x y H Q
def YS (g:Int->Int->V):R2:=acA g
section
variable {X:Cx}{a b c:aH}{ta tb tc:TE}{pos:Pos}
theorem aax (ha:PE X a ta)(hb:PE X b tb){bH:aP (aj×Obj)}{s:ao}{U:St}{H:Hp}{R:V->V->Hp->Prop}(I:Inv X bH U H s)
  (h:ta U H λx H1=>tb U H1 λy H2=>R x y H2) {Q:ak->ao->Prop} {f:ak->ak->Sem ak}
  (hf:∀v u s2 x y H2,Inv X bH U H2 s2->RelV x v->RelV y u->R x y H2->wpAny (model X.prog X.w) X.A (f v u) Q X.xe s2):
  wpAny (model X.prog X.w) X.A (eval a X.env) (λv eF=>wpAny (model X.prog X.w) X.A (eval b X.env) (λu s₂=>wpAny (model X.prog X.w) X.A (f v u) Q X.xe s₂) X.xe eF) X.xe s:=by
 refine gk (ha bH s U H _ I h) λv s1 ⟨x,H1,I1,r1,q1⟩=>?_;refine gk (hb bH s1 U H1 _ I1 q1) λu s2 ⟨y,H2,I2,r2,q2⟩=>?_;exact hf v u s2 x y H2 I2 r1 r2 q2
theorem cU {op:Operator}{r:R2}(ho:qW X (binaryOp op) r)(ha:PE X a ta)(hb:PE X b tb):PE X (.BinOp a op b pos) (Hw r ta tb):=by
 intro bH s U H Q I h;exact wpAny_BinOp<|aax ha hb I h λv u s2 x y H2 I2 rx ry q=>ho bH s2 U H2 x y v u Q I2 rx ry q
theorem opI {f:ak->ak->Sem ak}{C:Int->Int->Prop}{g:Int->Int->Int}
  (rule:∀(i j:Int) (t u:Tok) (s:ao) (Q:ak->ao->Prop) (E:ak->ao->Prop),C i j->Q (.int (g i j) s.toks) {s with toks:=s.toks+1}->wpAny (model X.prog X.w) X.A (f (.int i t)<|.int j u) Q E s):
  qW X f (rI C λi j=>.int<|g i j):=by
 intro bH s U H x y v u Q I rx ry h;obtain⟨i,j,rfl,rfl,hc,q⟩:=h;obtain⟨t,rfl⟩:=rx;obtain⟨t',rfl⟩:=ry;exact rule i j t t' s _ _ hc ⟨.int<|g i j,H,I.tok _,⟨_,rfl⟩,q⟩
theorem acB {f:ak->ak->Sem ak}{g:Int->Int->Int}
  (rule:∀(i j:Int) (t u:Tok) (s:ao) (Q:ak->ao->Prop) (E:ak->ao->Prop),Q (.int (g i j) s.toks) {s with toks:=s.toks+1}->wpAny (model X.prog X.w) X.A (f (.int i t)<|.int j u) Q E s):
  qW X f (YS λi j=>.int<|g i j):=by
 intro bH s U H x y v u Q I rx ry h;obtain⟨i,j,rfl,rfl,q⟩:=h;obtain⟨t,rfl⟩:=rx;obtain⟨t',rfl⟩:=ry;exact rule i j t t' s _ _ ⟨.int<|g i j,H,I.tok _,⟨_,rfl⟩,q⟩
theorem Vw {f:ak->ak->Sem ak}{g:Int->Int->Bool}
  (rule:∀(i j:Int) (t u:Tok) (s:ao) (Q:ak->ao->Prop) (E:ak->ao->Prop),Q (.bool<|g i j) s->wpAny (model X.prog X.w) X.A (f (.int i t)<|.int j u) Q E s):
  qW X f (YS λi j=>.bl<|g i j):=by
 intro bH s U H x y v u Q I rx ry h;obtain⟨i,j,rfl,rfl,q⟩:=h;obtain⟨t,rfl⟩:=rx;obtain⟨t',rfl⟩:=ry;exact rule i j t t' s _ _ ⟨.bl<|g i j,H,I,rfl,q⟩
def aee (i j:Int):Prop:=0<j/\j<1073741824
def aef (i j:Int):Prop:=0<=j/\j<=1000000/\i.natAbs<2^64
def aay (i j:Int):Prop:=(-(2^64)<i/\i<2^64)\/(-(2^64)<j/\j<2^64)
theorem aay.ok {i j:Int}(h:aay i j):IntMulOk i j:=by
 rcases h with ⟨h1,h2⟩|⟨h1,h2⟩
 ·exact .of_left<|intBits_le_64 h1 h2
 ·exact .of_right<|intBits_le_64 h1 h2
theorem gJ:qW X (binaryOp .Add) (YS λi j=>.int<|i+j):=acB λ_ _ _ _ _ _ _ q=>add_int q
theorem iw:qW X (binaryOp .Sub) (YS λi j=>.int<|i-j):=acB λ_ _ _ _ _ _ _ q=>sub_int q
theorem HJ:qW X (binaryOp .Mult) (rI aay λi j=>.int<|i*j):=opI λ_ _ _ _ _ _ _ hc q=>mul_int q hc.ok
theorem Bp:qW X (binaryOp .FloorDiv) (rI aee λi j=>.int<|i / j):=opI λi j _ _ _ _ _ hc q=>by
 have h1:(0:Int)<j:=hc.1;have h2:j<1073741824:=hc.2;exact floordiv_int (by omega) (by rw[Int.fdiv_eq_ediv_of_nonneg i (by omega)];exact q) (.inl (PyProof.noPylong_small<|by omega))
theorem rA:qW X (binaryOp .Mod) (rI (λ_ j=>0<j) λi j=>.int<|i%j):=opI λi j _ _ _ _ _ hc q=>by
 have h1:(0:Int)<j:=hc;exact mod_int' (by omega) (by rw[Int.fmod_eq_emod_of_nonneg i (by omega)];exact q)
theorem HS:qW X (binaryOp .Pow) (rI aef λi j=>.int<|i^j.toNat):=opI λ_ _ _ _ _ _ _ hc q=>pow_int_small hc.1 hc.2.1 hc.2.2 q
end
noncomputable def aaz:V->V->Bool
 |.non, .non=>true|.non, .int _=>true|.int _, .non=>true|.non, .bl _=>true|.bl _, .non=>true|.non, .str _=>true|.str _, .non=>true
 |.int _, .int _=>true|.bl _, .bl _=>true|.str _, .str _=>true|.MJ _, .MJ _=>true
 |.int _, .str _=>true|.str _, .int _=>true|.bl _, .str _=>true|.str _, .bl _=>true
 |_,_=>false
inductive acC (x:V)(y:V)(H:Hp)(Q:VK):Prop where
 |mk:(aaz x y=true)->(Q (.bl<|decide (x=y)) H)->acC x y H Q
def rEq:R2:=acC
inductive acD (x:V)(y:V)(H:Hp)(Q:VK):Prop where
 |mk:(aaz x y=true)->(Q (.bl (!decide (x=y))) H)->acD x y H Q
def rNe:R2:=acD
theorem Kf {i j:Int}:decide (V.int i=V.int j)=(i==j):=by
 rw[agF];simp
theorem QG {i j:Bool}:decide (V.bl i=V.bl j)=(i==j):=by
 rw[agF];simp
theorem Kg {i j:Str}:decide (V.str i=V.str j)=(i==j):=by
 rw[agF];simp
theorem Kh {i j:Array UInt8}:decide (V.MJ i=V.MJ j)=(i.toList==j.toList):=by
 rw[agF];cases i;cases j;simp
section
variable {X:Cx}{a b c:aH}{ta tb tc:TE}{pos:Pos}
theorem eE {bH:aP (aj×Obj)}{U:St}{H:Hp}{s:ao}{Q:VK}{k k':Bool}(I:Inv X bH U H s)(q:Q (.bl k) H)(e:k=k'):EP X bH U Q (.bool k') s:=by
 subst e;exact⟨.bl k,H,I,rfl,q⟩
theorem eV:qW X (compareOp .Eq) rEq:=by
 intro bH s U H x y v u Q I rx ry h;obtain⟨hs,q⟩:=h;cases x with
 |non=>
  cases rx;cases y with
  |non=>cases ry;exact PySem.EqNone.eq_none_none (eE I q<|by simp)
  |bl j=>cases ry;exact PySem.EqNone.eq_none_bool (eE I q<|by simp)
  |int j=>obtain⟨t',rfl⟩:=ry;exact PySem.EqNone.eq_none_int (eE I q<|by simp)
  |str j=>obtain⟨t',rfl⟩:=ry;exact PySem.EqNone.eq_none_str (eE I q<|by simp)
  |_=>exact absurd (show false=true from hs) afD
 |bl i=>
  cases rx;cases y with
  |non=>cases ry;exact PySem.EqNone.eq_bool_none (eE I q<|by simp)
  |bl j=>cases ry;exact eq_bool<|eE I q QG
  |str j=>obtain⟨t',rfl⟩:=ry;exact PySem.EqMixed.eq_bool_str (eE I q<|by simp)
  |_=>exact absurd (show false=true from hs) afD
 |int i=>
  obtain⟨t,rfl⟩:=rx;cases y with
  |non=>cases ry;exact PySem.EqNone.eq_int_none (eE I q<|by simp)
  |int j=>obtain⟨t',rfl⟩:=ry;exact eq_int<|eE I q Kf
  |str j=>obtain⟨t',rfl⟩:=ry;exact PySem.EqMixed.eq_int_str (eE I q<|by simp)
  |_=>exact absurd (show false=true from hs) afD
 |str i=>
  obtain⟨t,rfl⟩:=rx;cases y with
  |non=>cases ry;exact PySem.EqNone.eq_str_none (eE I q<|by simp)
  |bl j=>cases ry;exact PySem.EqMixed.eq_str_bool (eE I q<|by simp)
  |int j=>obtain⟨t',rfl⟩:=ry;exact PySem.EqMixed.eq_str_int (eE I q<|by simp)
  |str j=>obtain⟨t',rfl⟩:=ry;exact eq_str<|eE I q Kg
  |_=>exact absurd (show false=true from hs) afD
 |MJ i=>
  obtain⟨t,rfl⟩:=rx;cases y with
  |MJ j=>obtain⟨t',rfl⟩:=ry;exact PySem.W.eq_bytes<|eE I q Kh
  |_=>exact absurd (show false=true from hs) afD
 |_=>cases y<;>exact absurd (show false=true from hs) afD
theorem Kl:qW X (compareOp .NotEq) rNe:=by
 intro bH s U H x y v u Q I rx ry h;obtain⟨hs,q⟩:=h;cases x with
 |non=>
  cases rx;cases y with
  |non=>cases ry;exact PySem.EqNone.ne_none_none (eE I q<|by simp)
  |bl j=>cases ry;exact PySem.EqNone.ne_none_bool (eE I q<|by simp)
  |int j=>obtain⟨t',rfl⟩:=ry;exact PySem.EqNone.ne_none_int (eE I q<|by simp)
  |str j=>obtain⟨t',rfl⟩:=ry;exact PySem.EqNone.ne_none_str (eE I q<|by simp)
  |_=>exact absurd (show false=true from hs) afD
 |bl i=>
  cases rx;cases y with
  |non=>cases ry;exact PySem.EqNone.ne_bool_none (eE I q<|by simp)
  |bl j=>cases ry;exact ne_bool<|eE I q (congrArg not QG)
  |str j=>obtain⟨t',rfl⟩:=ry;exact PySem.EqMixed.ne_bool_str (eE I q<|by simp)
  |_=>exact absurd (show false=true from hs) afD
 |int i=>
  obtain⟨t,rfl⟩:=rx;cases y with
  |non=>cases ry;exact PySem.EqNone.ne_int_none (eE I q<|by simp)
  |int j=>obtain⟨t',rfl⟩:=ry;exact ne_int<|eE I q (congrArg not Kf)
  |str j=>obtain⟨t',rfl⟩:=ry;exact PySem.EqMixed.ne_int_str (eE I q<|by simp)
  |_=>exact absurd (show false=true from hs) afD
 |str i=>
  obtain⟨t,rfl⟩:=rx;cases y with
  |non=>cases ry;exact PySem.EqNone.ne_str_none (eE I q<|by simp)
  |bl j=>cases ry;exact PySem.EqMixed.ne_str_bool (eE I q<|by simp)
  |int j=>obtain⟨t',rfl⟩:=ry;exact PySem.EqMixed.ne_str_int (eE I q<|by simp)
  |str j=>obtain⟨t',rfl⟩:=ry;exact ne_str<|eE I q (congrArg not Kg)
  |_=>exact absurd (show false=true from hs) afD
 |MJ i=>
  obtain⟨t,rfl⟩:=rx;cases y with
  |MJ j=>obtain⟨t',rfl⟩:=ry;exact PySem.W.ne_bytes<|eE I q (congrArg not Kh)
  |_=>exact absurd (show false=true from hs) afD
 |_=>cases y<;>exact absurd (show false=true from hs) afD
theorem wU:qW X (compareOp .Lt) (YS λi j=>.bl<|decide (i<j)):=Vw λ_ _ _ _ _ _ _ q=>lt_int q
theorem acE:qW X (compareOp .LtE) (YS λi j=>.bl<|decide (i<=j)):=Vw λ_ _ _ _ _ _ _ q=>le_int q
theorem zJ:qW X (compareOp .Gt) (YS λi j=>.bl<|decide (j<i)):=Vw λ_ _ _ _ _ _ _ q=>gt_int q
theorem QH:qW X (compareOp .GtE) (YS λi j=>.bl<|decide (j<=i)):=Vw λ_ _ _ _ _ _ _ q=>ge_int q
theorem QJ (b:aH){op:CmpOp}(h:op≠.In:=by decide)(h2:op≠.NotIn:=by decide):behindInMarks op b=false:=by
 have e1:(op==CmpOp.In)=false:=by cases op<;>first|rfl|exact absurd rfl h
 have e2:(op==CmpOp.NotIn)=false:=by cases op<;>first|rfl|exact absurd rfl h2
 cases b<;>simp[behindInMarks,e1,e2]
theorem qG {op:CmpOp}{r:R2}(ho:qW X (compareOp op) r)(ha:PE X a ta)(hb:PE X b tb)(hm:behindInMarks op b=false:=by exact QJ _):PE X (.Compare a [op] [b] pos) (Hw r ta tb):=by
 intro bH s U H Q I h;exact wpAny_Compare1 (aax ha hb I h λv u s2 x y H2 I2 rx ry q=>ho bH s2 U H2 x y v u Q I2 rx ry q) hm
inductive QK (Q:Bool->Hp->Prop)(x:V)(H':Hp):Prop where
 |mk (k):(x=.bl k)->(Q k H')->QK Q x H'
def El (t:TE):TT:=λU H Q=>t U H (QK Q)
theorem cA {op:CmpOp}{r:R2}(ho:qW X (compareOp op) r)(ha:PE X a ta)(hb:PE X b tb)(hm:behindInMarks op b=false:=by exact QJ _):PT X (.Compare a [op] [b] pos) (El<|Hw r ta tb):=by
 intro bH s U H Q I h;refine wpAny_isTrue_Compare1 (gk (ha bH s U H _ I h) λv s1 ⟨x,H1,I1,r1,q1⟩=>gk (hb bH s1 U H1 _ I1 q1) λu s2 ⟨y,H2,I2,r2,q2⟩=>
  gk (ho bH s2 U H2 x y v u _ I2 r1 r2 q2) λc s3 ⟨z,H3,I3,r3,k,e,q3⟩=>?_) hm
 subst e;cases r3;exact wpAny_truthy_bool ⟨H3,I3,q3⟩
def aaA (r r':R2)(ta tb tc:TE):TE:=λU H Q=>ta U H λx H1=>tb U H1 λy H2=>r x y H2 λz H3=>∃k,z=.bl k/\
 (if k=true then tc U H3 λw' H4=>r' y w' H4 Q else Q (.bl false) H3)
theorem QL {op op':CmpOp}{r r':R2}(ho:qW X (compareOp op) r)(ho':qW X (compareOp op') r')(ha:PE X a ta)(hb:PE X b tb)(hc:PE X c tc)
  (hm:lastMarks [op,op'] [b,c]=false:=by with_unfolding_all rfl):PT X (.Compare a [op,op'] [b,c] pos) (El<|aaA r r' ta tb tc):=by
 intro bH s U H Q I h;refine isTrue_chain (gk (ha bH s U H _ I h) λv s1 ⟨x,H1,I1,r1,q1⟩=>test_link (gk (hb bH s1 U H1 _ I1 q1) λu s2 ⟨y,H2,I2,r2,q2⟩=>
  gk (ho bH s2 U H2 x y v u _ I2 r1 r2 q2) λd s3 ⟨z,H3,I3,r3,k,e,q3⟩=>?_)) hm
 subst e;cases r3;refine wpAny_truthy_bool ?_;cases k with
 |false=>
  obtain⟨k',e',q'⟩:=q3;cases e';exact ite_ff ⟨H3,I3,q'⟩
 |true=>
  refine ite_tt<|test_last (gk (hc bH s3 U H3 _ I3 q3) λw' s4 ⟨z',H4,I4,r4,q4⟩=>gk (ho' bH s4 U H4 y z' u w' _ I4 r2 r4 q4) λd' s5 ⟨z2,H5,I5,r5,k2,e2,q5⟩=>?_);subst e2;cases r5;exact wpAny_truthy_bool ⟨H5,I5,q5⟩
theorem oU:(sizeLine:Nat)<2^63:=by rw[sizeLine_eq];decide
inductive sH (x:V)(y:V)(H:Hp)(Q:VK):Prop where
 |mk (i) (j):(x=.str i)->(y=.str j)->(i.length+j.length<=sizeLine)->(Q (.str<|i++j) H)->sH x y H Q
theorem oV:qW X (binaryOp .Add) sH:=by
 intro bH s U H x y v u Q I rx ry h;obtain⟨i,j,rfl,rfl,hz,q⟩:=h;obtain⟨t,rfl⟩:=rx;obtain⟨t',rfl⟩:=ry;exact add_str (λt' tk=>⟨.str<|i++j,H,I.tok _,⟨_,rfl⟩,q⟩) hz
theorem vals1 {x:V}{us:List ak}(r:Vals [x] us):∃u,us=[u]/\RelV x u:=by
 cases r with
 |cons r1 r2=>cases r2;exact⟨_,rfl,r1⟩
theorem vals2 {x y:V}{us:List ak}(r:Vals [x,y] us):∃u w',us=[u,w']/\RelV x u/\RelV y w':=by
 cases r with
 |cons r1 r2=>
  cases r2 with
  |cons r3 r4=>cases r4;exact⟨_,_,rfl,r1,r3⟩
theorem Em:jL X (.builtin "abs") (λxs H Q=>∃i,xs=[.int i]/\Q (.int<|if i<0 then -i else i) H):=by
 intro bH s U H xs us Q I r h;obtain⟨i,rfl,q⟩:=h;obtain⟨u,rfl,t,rfl⟩:=vals1 r;exact call_abs_int λu tk=>⟨.int<|if i<0 then -i else i,H,I.tok _,⟨_,rfl⟩,q⟩
theorem Nb (hc:X.calm=true):jL X (.builtin "max") (λxs H Q=>∃i j,xs=[.int i, .int j]/\Q (.int<|if j>i then j else i) H):=by
 intro bH s U H xs us Q I r h;obtain⟨i,j,rfl,q⟩:=h;obtain⟨u,w',rfl,⟨t,rfl⟩,⟨t',rfl⟩⟩:=vals2 r;refine max_two_ints (I.ok.hd hc) λh' tk k=>⟨_,H,I.kept k,?_,q⟩;by_cases hj:j>i
 ·rw[ahK hj,ahK hj];exact⟨_,rfl⟩
 ·rw[ahL hj,ahL hj];exact⟨_,rfl⟩
theorem Nf (hc:X.calm=true):jL X (.builtin "min") (λxs H Q=>∃i j,xs=[.int i, .int j]/\Q (.int<|if j<i then j else i) H):=by
 intro bH s U H xs us Q I r h;obtain⟨i,j,rfl,q⟩:=h;obtain⟨u,w',rfl,⟨t,rfl⟩,⟨t',rfl⟩⟩:=vals2 r;refine min_two_ints (I.ok.hd hc) λh' tk k=>⟨_,H,I.kept k,?_,q⟩;by_cases hj:j<i
 ·rw[ahK hj,ahK hj];exact⟨_,rfl⟩
 ·rw[ahL hj,ahL hj];exact⟨_,rfl⟩
theorem lN:jL X (.type "int") (λxs H Q=>(∃i,xs=[.int i]/\Q (.int i) H)\/∃k,xs=[.bl k]/\Q (.int<|if k then 1 else 0) H):=by
 intro bH s U H xs us Q I r h;rcases h with ⟨i,rfl,q⟩|⟨k,rfl,q⟩
 ·obtain⟨u,rfl,t,rfl⟩:=vals1 r
  exact call_int_int ⟨.int i,H,I,⟨_,rfl⟩,q⟩
 ·obtain⟨u,rfl,r1⟩:=vals1 r
  cases r1;exact call_int_bool ⟨.int<|if k then 1 else 0,H,I.tok _,⟨_,rfl⟩,q⟩
inductive pU (xs:List V)(H:Hp)(Q:VK):Prop where
 |mk (i):(xs=[.int i])->(i.natAbs.log2<1920)->(Q (.str<|toString i) H)->pU xs H Q
theorem jP:jL X (.type "str") pU:=by
 intro bH s U H xs us Q I r h;obtain⟨i,rfl,hz,q⟩:=h;obtain⟨u,rfl,t,rfl⟩:=vals1 r;exact PySem.P.str_of_int hz ⟨.str _,H,I.tok _,⟨_,rfl⟩,q⟩
end
structure HW (h:aK)(x dx C:aj)(mA:Str->Option ak):Prop where
 obj:h.get? x=some (instObj C dx)
 ns:h.Ns1 dx mA
 ne:dx≠x
theorem Ng {h:aK}{dx:aj}{mA:Str->aO ak}(n:h.Ns1 dx mA):∃od,h.get? dx=some od/\∀name,lookIn name od=some (mA name):=by
 obtain⟨o,es,ep,ho,hd,hk,_,hm⟩:=n;refine⟨o,ho,λname=>?_⟩;have e:=hm name;unfold nsFind findBy at e;rw[<-Array.find?_toList]at e;unfold lookIn;rw[hd];dsimp only;split
 ·rename_i y q
  rw[q]at e;exact congrArg some e
 ·rename_i q
  rw[q]at e;have a:es.toList.any (·.refKey)=false:=by
   rw[List.any_eq_false];intro y hy;obtain⟨z,t,hkey⟩:=hk y (Array.mem_toList_iff.mp hy);simp[DictEntry.refKey,hkey]
  have a':¬es.toList.any (·.refKey)=true:=by rw[a];exact afD
  rw[ahL a'];exact congrArg some e
theorem HW.look {h:aK}{x dx C:aj}{mA:Str->aO ak}(I:HW h x dx C mA):∃od,PySem.W.InstAt h x (instObj C dx) C (some od)/\∀name,lookIn name od=some (mA name) :=
 let ⟨od,ho,hl⟩:=Ng I.ns
 ⟨od,⟨I.obj,rfl,rfl,ho⟩,hl⟩
section
variable {prog:aA}{w:aG}{A:aq}{E:ak->ao->Prop}{s:ao}{K:aN}{x dx C f:aj}{mA:Str->Option ak}{name:Str}{v:ak}
theorem get_map {expr:Bool}{Q:ak->ao->Prop}(X:K.In s.heap)(I:HW s.heap x dx C mA)(hg:plainGet K C name=true)(hh:hasDictIn K C=true)
  (ha:findIn K (.ref C) name=some none) (hv:mA name=some v) (hv':PySem.W.handedIn v=true) (h:Q v {s with toks:=s.toks+1}):
  wpAny (model prog w) A (getAttr (.ref x) name expr) Q E s:=by
 obtain⟨od,J,hl⟩:=I.look;exact PySem.W.get_value X J (ahh hg).1 (PySem.W.findObj_own hh ha rfl (by rw[hl,hv])) hv' h
theorem QM {pl:Sem Bool}{Q:ak×aP ak->ao->Prop}(X:K.In s.heap)(I:HW s.heap x dx C mA)(hg:plainGet K C name=true)
  (hf:findIn K (.ref C) name=some (some<|.ref f)) (ht:PySem.W.isFn K (.ref f)=true) (hv:mA name=none) (h:Q (.ref f,[.ref x]) s):
  wpAny (model prog w) A (getMethod (.ref x) name pl) Q E s:=by
 obtain⟨od,J,hl⟩:=I.look;exact PySem.W.method_fn X J (ahh hg).1 (ahh hg).2 hf (beq_iff_eq.mp ht) (by show(lookIn name od).map (·.isSome)=some false;rw[hl,hv];rfl) h
theorem Vx {ns:aP Str}{Q:Unit->ao->Prop}(X:K.In s.heap)(I:HW s.heap x dx C mA)
  (hs:findIn K (.ref C) "__setattr__"=some (some<|.builtin "object.__setattr__")) (hp:PySem.W.plainOver K C=true) (ht:PySem.W.takerIn K C name=some none) (hh:hasDictIn K C=true)
  (hw:PySem.Within mA ns) (hsz:ns.length<=sizeLine)
  (h:∀h',HW h' x dx C (λy=>if y=name then some v else mA y)->Heap.SameBut dx s.heap h'->Q () {s with heap:=h',toks:=s.toks+2}):
  wpAny (model prog w) A (setAttr (.ref x) name v) Q E s:=by
 obtain⟨od,J,hl⟩:=I.look;refine PySem.W.set_plain X J hs<|PySem.W.osa_open (s:={s with toks:=s.toks+1}) (r:=none) X J hp ht λb=>?_;obtain⟨cd,hc,hd'⟩:=PySem.W.any_some hh;have hx:s.heap.get? x=some ⟨.ref C,some dx, .plain,#[]⟩:=I.obj;refine abI<|ahI (abI<|abI (wpAny_loadPart hx<|abI (PySem.W.Looks.here (s:={s with toks:=s.toks+1}) (PySem.W.looks_clsIn X hc) ?_)));rw[hd'];refine ahI (a:=some dx)<|abI (ahI<|abI ?_);refine wpAny_nsSet1 (s:={s with toks:=s.toks+1}) I.ns λh' hn2 hs2=>?_;obtain⟨oD,esD,epD,hoD,hdD,hcD⟩:=hn2.count (PySem.Within.cons name v hw);refine abI (wpAny_lookBehind hoD (by rw[hdD];exact pastItsLine_dict (afy hcD<|by rw[af4];exact afO hsz)) ?_);exact ahI<|h _ ⟨(hs2.2 _<|ahO I.ne).trans I.obj,hn2,I.ne⟩ hs2
theorem QS {R:Result->ao->Prop}{vs:aP ak}{kw:aP (Str×ak)}(X:K.In s.heap)(hm:makesIn K C=true)
  (hi:findIn K (.ref C) "__init__"=some (some<|.ref f)) (hf:PySem.W.typeIn K (.ref f)=some (.type "function"))
  (h:codeAny (model prog w) (A.under<|.builtin "type.__call__" ⟨.ref C::vs,kw⟩) (.call (.ref f) ⟨.ref (s.heap.objs.size+1)::vs,kw⟩) (PySem.W.InitBack (s.heap.objs.size+1) R)
   {s with heap:=(s.heap.push PySem.W.emptyDict).push (instObj C s.heap.objs.size)}):
  codeAny (model prog w) A (.call (.ref C) ⟨vs,kw⟩) R s:=by
 obtain⟨hh,g,d,t,os⟩:=s;exact PySem.W.make_core (PySem.W.makes_of X hm) (agT X hi) (λself=>PySem.W.bind_fn X self hf) (.inl rfl) h
end
noncomputable def ju (f:Str)(v:V):List (Str×V)->List (Str×V)
 |[]=>[(f,v)]
 |(g,x)::r=>if g=f then(g,v)::r else(g,x)::ju f v r
theorem uU (f g:Str)(v:V):∀fs:List (Str×V),(ju f v fs).lookup g=if g=f then some v else fs.lookup g
 |[]=>by
  show List.lookup g [(f,v)]=_;by_cases h:g=f
  ·have hb:(g==f)=true:=beq_iff_eq.mpr h
   simp only[List.lookup,hb,ahK h]
  ·have hb:(g==f)=false:=beq_eq_false_iff_ne.mpr h
   simp only[List.lookup,hb,ahL h]
 |(k,x)::r=>by
  have ih:=uU f g v r;rw[show ju f v ((k,x)::r)=(if k=f then(k,v)::r else(k,x)::ju f v r) from rfl];by_cases hk:k=f
  ·rw[ahK hk]
   by_cases h:g=k
   ·have hb:(g==k)=true:=beq_iff_eq.mpr h
    simp only[List.lookup,hb,ahK (h.trans hk)]
   ·have hb:(g==k)=false:=beq_eq_false_iff_ne.mpr h
    simp only[List.lookup,hb,ahL (λe:g=f=>h<|e.trans hk.symm)]
  ·rw[ahL hk]
   by_cases h:g=k
   ·have hb:(g==k)=true:=beq_iff_eq.mpr h
    simp only[List.lookup,hb,ahL (λe:g=f=>hk<|h.symm.trans e)]
   ·have hb:(g==k)=false:=beq_eq_false_iff_ne.mpr h
    simp only[List.lookup,hb];exact ih
theorem uE (f:Str)(v:V):∀fs:List (Str×V),f∈(ju f v fs).map (·.1)/\∀g,g∈fs.map (·.1)->g∈(ju f v fs).map (·.1)
 |[]=>⟨by simp[ju],λg h=>by simp at h⟩
 |(k,x)::r=>by
  obtain⟨i1,i2⟩:=uE f v r;rw[show ju f v ((k,x)::r)=(if k=f then(k,v)::r else(k,x)::ju f v r) from rfl];by_cases hk:k=f
  ·rw[ahK hk]
   subst hk;exact⟨by simp,λg h=>by simpa using h⟩
  ·rw[ahL hk]
   refine⟨?_,λg h=>?_⟩
   ·rw[afW]
    exact afA _ i1
   ·rw[afW]at h ⊢
    rcases afU.mp h with e|e
    ·exact afU.mpr<|.inl e
    ·exact afA _<|i2 g e
theorem uV (f:Str)(v:V):∀fs:List (Str×V),(ju f v fs).length<=fs.length+1
 |[]=>by simp[ju]
 |(k,x)::r=>by
  have ih:=uV f v r;rw[show ju f v ((k,x)::r)=(if k=f then(k,v)::r else(k,x)::ju f v r) from rfl];by_cases hk:k=f
  ·rw[ahK hk,af4,af4];exact agb _
  ·rw[ahL hk,af4,af4];exact afO ih
theorem nJ.some_of {v:V}{o:Option ak}(r:nJ (some v) o):∃u,o=some u/\RelV v u:=by
 cases o with
 |none=>exact(show False from r).elim
 |some u=>exact⟨u,rfl,r⟩
theorem nJ.none_of {o:Option ak}(r:nJ none o):o=none:=by
 cases o with
 |none=>rfl
 |some u=>exact(show False from r).elim
theorem Nh {v:V}{u:ak}(r:RelV v u):PySem.W.handedIn u=true:=by
 cases v with
 |non=>cases(show u=Value.none from r);rfl
 |bl b=>cases(show u=Value.bool b from r);rfl
 |int i=>obtain⟨t,e⟩:=(show ∃t,u=Value.int i t from r);cases e;rfl
 |str x=>obtain⟨t,e⟩:=(show ∃t,u=Value.str x t from r);cases e;rfl
 |MJ b=>obtain⟨t,e⟩:=(show ∃t,u=Value.bytes b t from r);cases e;rfl
 |flt b=>obtain⟨t,e⟩:=(show ∃t,u=Value.float b t from r);cases e;rfl
 |ref a=>cases(show u=Value.ref a from r);rfl
 |ty n=>cases(show u=Value.type n from r);rfl
section
variable {P:aA}{w:aG}{H H':Hp}{h h':aK}{a C dx:aj}{fs fs':List (Str×V)}
theorem vR (hok:mj P w H h)(e:H a=some (.ins C dx fs)):∃mA,HW h a dx C mA/\(∀f,nJ (fs.lookup f)<|mA f)/\PySem.Within mA (fs.map (·.1))/\fs.length<=1000/\H dx=some (.own a):=by
 obtain⟨d,z,ne,ob,mA,n,r,q⟩:=(show fQ P w H h a (.ins C dx fs) from hok a _ e);exact⟨mA,⟨ob,n,ne⟩,r,q,z,d⟩
end
structure Cls (K:aN)(C:aj):Prop where
 pg:plainGet K C Str.empty=true
 hd:hasDictIn K C=true
 po:PySem.W.plainOver K C=true
 sa:findIn K (.ref C) "__setattr__"=some (some<|.builtin "object.__setattr__")
theorem Cls.get {K:aN}{C:aj}(c:Cls K C)(f:Str):plainGet K C f=true:=c.pg
def dW (K:aN)(C:aj)(f:Str):Prop:=findIn K (.ref C) f=some none
theorem dW.taker {K:aN}{C:aj}{f:Str}(n:dW K C f):PySem.W.takerIn K C f=some none:=by
 unfold PySem.W.takerIn;rw[show findIn K (.ref C) f=some none from n]
 rfl
structure Meth (K:aN)(C:aj)(m:Str)(f:aj):Prop where
 at_:findIn K (.ref C) m=some (some<|.ref f)
 fn:PySem.W.isFn K (.ref f)=true
 kp:keepIn K (.ref f)=true
section
variable {X:Cx}{bH:List (aj×Obj)}{U:St}{H:Hp}{s:ao}{a C dx:aj}{fs:List (Str×V)}{f:Str}{v:V}{A:aq}{E:ak->ao->Prop}
theorem HX {b:Bool}{Q:ak->ao->Prop}(I:Inv X bH U H s)(e:H a=some (.ins C dx fs))(c:Cls X.K C)(n:dW X.K C f)(l:fs.lookup f=some v)
  (h:∀u s',Inv X bH U H s'->RelV v u->Q u s'):wpAny (model X.prog X.w) A (getAttr (.ref a) f b) Q E s:=by
 obtain⟨mA,O,r,_,_,_⟩:=vR I.hok e;obtain⟨u,hu,ru⟩:=nJ.some_of (v:=v) (o:=mA f) (by rw[<-l];exact r f);exact get_map I.qU O (c.get f) c.hd n hu (Nh ru)<|h u _ (I.tok _) ru
theorem HY {m:Str}{g:aj}{pl:Sem Bool}{Q:ak×aP ak->ao->Prop}(I:Inv X bH U H s)(e:H a=some (.ins C dx fs))(c:Cls X.K C)(k:Meth X.K C m g)(l:fs.lookup m=none)
  (h:Q (.ref g,[.ref a]) s):wpAny (model X.prog X.w) A (getMethod (.ref a) m pl) Q E s:=by
 obtain⟨mA,O,r,_,_,_⟩:=vR I.hok e;have hn:mA m=none:=nJ.none_of (by rw[<-l];exact r m);exact QM I.qU O (c.get m) k.at_ k.fn hn h
theorem Ia {y:V}{u:ak}{Q:Unit->ao->Prop}(I:Inv X bH U H s)(e:H a=some (.ins C dx fs))(c:Cls X.K C)(n:dW X.K C f)(hl:fs.length<1000)(ry:RelV y u)
  (h:∀s',Inv X bH U (upd H a<|.ins C dx (ju f y fs)) s'->Q () s'):wpAny (model X.prog X.w) A (setAttr (.ref a) f u) Q E s:=by
 obtain⟨mA,O,r,wi,_,ho⟩:=vR I.hok e;have hz:(fs.map (·.1)).length<=sizeLine:=by rw[afL,sizeLine_eq];omega
 refine Vx I.qU O c.sa c.po n.taker c.hd wi hz λh' O' sb=>h _ ?_;have hd:∃o,h'.get? dx=some o:=let ⟨o,_,_,e',_⟩:=O'.ns;⟨o,e'⟩;refine I.write (x:=a) (e:=dx) (by rw[e];exact True.intro) (.inr ho) (λb q hb z=>(sb.2 b hb).trans z) hd ?_;refine⟨by rw[bV O.ne];exact ho,?_,O.ne,O'.obj,_,O'.ns,λg=>?_,λg hg=>?_⟩
 ·have:=uV f y fs;exact afy this hl
 ·show nJ ((ju f y fs).lookup g) (if g=f then some u else mA g)
  rw[uU];by_cases q:g=f
  ·rw[ahK q,ahK q];exact ry
  ·rw[ahL q,ahL q];exact r g
 ·by_cases q:g=f
  ·rw[q];exact(uE f y fs).1
  ·refine(uE f y fs).2 g (wi g λz=>hg ?_)
   show(if g=f then some u else mA g)=none;rw[ahL q];exact z
theorem Inv.made (I:Inv X bH U H s):Inv X bH U (upd (upd H s.heap.objs.size<|.own (s.heap.objs.size+1)) (s.heap.objs.size+1)<|.ins C s.heap.objs.size [])
  {s with heap:=(s.heap.push PySem.W.emptyDict).push (instObj C s.heap.objs.size)}:=by
 have e1:(s.heap.push PySem.W.emptyDict).get? s.heap.objs.size=some PySem.W.emptyDict:=afK s.heap rfl;have e2:((s.heap.push PySem.W.emptyDict).push<|instObj C s.heap.objs.size).get? (s.heap.objs.size+1)=some (instObj C s.heap.objs.size):=by
  have:=afK (s.heap.push PySem.W.emptyDict) (o:=instObj C s.heap.objs.size) rfl
  rwa [agj]at this
 have e3:(s.heap.push PySem.W.emptyDict).Ns s.heap.objs.size (λ_=>none):=⟨PySem.W.emptyDict,#[],_,e1,rfl,(λe he=>absurd he<|by simp),λ_=>rfl⟩;have I1:=I.laid (a:=s.heap.objs.size) (o:=.own<|s.heap.objs.size+1) (h':=s.heap.push PySem.W.emptyDict) (t':=s.toks) (λb u q=>afx _ q) (afv _) ⟨_,e1⟩;refine I1.laid (a:=s.heap.objs.size+1) (o:=.ins C s.heap.objs.size []) (t':=s.toks) (λb u q=>afx _ q) (agy<|agj _ _) ?_;have ne:s.heap.objs.size≠s.heap.objs.size+1:=afV (agD _);refine⟨by rw[bV ne,bA],afY _,ne,e2,λ_=>none,(Heap.Ns1.of_empty e3).at λo q=>afx _ q,λ_=>True.intro,λy hy=>absurd rfl hy⟩
theorem Vy {prog:aA}{w:aG}{env:Env}{e:aH}{f:Str}{pos:Pos}{s:ao}{Q:ak->ao->Prop}(hb:attributeBase e f env (eval e env)=eval e env)
  (h:wpAny (model prog w) A (eval e env) (λo eF=>wpAny (model prog w) A (getAttr o f true) Q E eF) E s):wpAny (model prog w) A (eval (.Attribute e f pos) env) Q E s :=
 Attribute_any_ h (by rw[arm_eval_Attribute,hb])
end
inductive YT (K:aN)(f:Str)(Q:VK)(x:V)(H1:Hp):Prop where
 |mk (a) (C) (dx) (fs) (v):(x=.ref a)->(H1 a=some (.ins C dx fs))->(Cls K C)->(dW K C f)->(fs.lookup f=some v)->(Q v H1)->YT K f Q x H1
def Vz (K:aN)(ta:TE)(f:Str):TE:=λU H Q=>ta U H (YT K f Q)
inductive YW (K:aN)(f:Str)(D:Ends)(U:St)(y:V)(x:V)(H2:Hp):Prop where
 |mk (a) (C) (dx) (fs):(x=.ref a)->(H2 a=some (.ins C dx fs))->(Cls K C)->(dW K C f)->(fs.length<1000)->(D.nx U<|upd H2 a (.ins C dx<|ju f y fs))->YW K f D U y x H2
def acF (K:aN)(ta tv:TE)(f:Str):TS:=λD U H=>tv U H λy H1=>ta U H1 (YW K f D U y)
section
variable {X:Cx}{o e value:aH}{f:Str}{pos oN tpos:Pos}{ta tv:TE}
theorem aaB (he:PE X e ta)(hb:attributeBase e f X.env (eval e X.env)=eval e X.env):PE X (.Attribute e f pos) (Vz X.K ta f):=by
 intro bH s U H Q I h;refine Vy hb<|gk (he bH s U H _ I h) λu s1 ⟨x,H1,I1,rx,a,C,dx,fs,v,ex,ea,c,n,l,q⟩=>?_;subst ex;obtain rfl:u=Value.ref a:=rx;exact HX I1 ea c n l λu' s2 I2 ru=>⟨v,H1,I2,ru,q⟩
theorem aaC (ha:PE X o ta)(hv:PE X value tv)(hs:swapsWith value (some<|.Attribute o f oN) pos.line X.env=pure false):PS X (.Assign [.Attribute o f oN] value pos) (acF X.K ta tv f):=by
 intro bH s U H D I h;refine plainObj_wpAny_Assign_Attribute (gk (hv bH s U H _ I h) λu s1 ⟨y,H1,I1,ry,q⟩=>gk (ha bH s1 U H1 _ I1 q) λov s2 ⟨x,H2,I2,rx,a,C,dx,fs,ex,ea,c,n,l,q2⟩=>?_) hs;subst ex;obtain rfl:ov=Value.ref a:=rx;exact Ia I2 ea c n l ry λs3 I3=>⟨U,_,I3,q2⟩
end
section
variable {X:Cx}{bH:List (aj×Obj)}{U:St}{H:Hp}{s:ao}{A:aq}{E:ak->ao->Prop}{Q:ak->ao->Prop}{c:ak}{b:Bool}
inductive sJ (K:aN)(H:Hp):V->ak->Prop where
 |non:sJ K H .non (.type "NoneType")
 |bl (x:Bool):sJ K H (.bl x) (.type "bool")
 |int (i:Int):sJ K H (.int i) (.type "int")
 |str (x:Str):sJ K H (.str x) (.type "str")
 |flt (x:UInt64):sJ K H (.flt x) (.type "float")
 |lst {a:aj} {xs:List V} (e:H a=some (.lst xs)):sJ K H (.ref a) (.type "list")
 |Hx {a:aj} {o:Obj} {xs:List V} (e:H a=some (.Hx o<|.lst xs)):sJ K H (.ref a) (.type "list")
 |tup {a:aj} {xs:List V} (e:H a=some (.tup xs)):sJ K H (.ref a) (.type "tuple")
 |dK {a:aj} {cI:List (Key×V)} (e:H a=some (.dK cI)):sJ K H (.ref a) (.type "dict")
 |dT {a:aj} {cI:List (List Key×V)} (e:H a=some (.dT cI)):sJ K H (.ref a) (.type "dict")
 |ins {a C dx:aj} {fs:List (Str×V)} (e:H a=some (.ins C dx fs)) (cl:Cls K C) (ha:findIn K (.ref C) "__class__"=some (some<|.builtin "object.__class__"))
   (hn:specialIn K (.builtin "object.__class__") "__get__"=some (some<|.builtin "getset_descriptor.__get__")) (htk:takesIn K (.builtin "object.__class__")=some true)
   (hm:mroIn K C (.type "object")=some true):sJ K H (.ref a) (.ref C)
theorem zK {x:V}{u t:ak}(I:Inv X bH U H s)(rx:RelV x u)(ty:sJ X.K H x t)(e:kitOne X.K t c=some b)(h:∀tk,Q (.bool b) {s with toks:=tk}):
  wpAny (model X.prog X.w) A (call (.builtin "isinstance") [u,c]) Q E s:=by
 cases ty with
 |non=>cases(show u=Value.none from rx);exact agc PySem.W.kitx_none I.qU True.intro e (λz=>nomatch z) h
 |bl y=>cases(show u=Value.bool y from rx);exact agc PySem.W.kitx_bool I.qU True.intro e (λz=>nomatch z) h
 |int i=>obtain⟨t,q⟩:=(show ∃t,u=Value.int i t from rx);cases q;exact agc PySem.W.kitx_int I.qU True.intro e (λz=>nomatch z) h
 |str y=>obtain⟨t,q⟩:=(show ∃t,u=Value.str y t from rx);cases q;exact agc PySem.W.kitx_str I.qU True.intro e (λz=>nomatch z) h
 |flt y=>obtain⟨t,q⟩:=(show ∃t,u=Value.float y t from rx);cases q;exact agc PySem.W.kitx_float I.qU True.intro e (λz=>nomatch z) h
 |@lst a xs ea=>
  cases(show u=Value.ref a from rx);obtain⟨_,_,n,_,h1⟩:=(show fQ X.prog X.w H s.heap a (.lst xs) from I.hok a _ ea);exact agc PySem.W.kitx_list I.qU ⟨_,h1,rfl⟩ e (λz=>nomatch z) h
 |@Hx a ob xs ea=>
  cases(show u=Value.ref a from rx);obtain⟨_,_,_,n,_,h1⟩:=(show fQ X.prog X.w H s.heap a (.Hx ob<|.lst xs) from I.hok a _ ea);exact agc PySem.W.kitx_list I.qU ⟨_,h1,rfl⟩ e (λz=>nomatch z) h
 |@tup a xs ea=>
  cases(show u=Value.ref a from rx);obtain⟨_,_,_,p⟩:=(show fQ X.prog X.w H s.heap a (.tup xs) from I.hok a _ ea);obtain⟨o,h1,h2,_⟩:=p;exact agc PySem.W.kitx_tuple I.qU ⟨o,h1,h2⟩ e (λz=>nomatch z) h
 |@dK a cI ea=>
  cases(show u=Value.ref a from rx);obtain⟨_,_,vs,_,p⟩:=(show fQ X.prog X.w H s.heap a (.dK cI) from I.hok a _ ea);obtain⟨o,es,ep,h1,h2,_⟩:=p;exact agc PySem.W.kitx_dict I.qU ⟨o,h1,h2.1⟩ e (λz=>nomatch z) h
 |@dT a cI ea=>
  cases(show u=Value.ref a from rx);obtain⟨_,_,xs,_,o,es,ep,h1,h2,_⟩:=(show fQ X.prog X.w H s.heap a (.dT cI) from I.hok a _ ea);exact agc PySem.W.kitx_dict I.qU ⟨o,h1,h2.1⟩ e (λz=>nomatch z) h
 |@ins a C dx fs ea cl ha hn htk hm=>
  cases(show u=Value.ref a from rx);obtain⟨mA,O,_⟩:=vR I.hok ea;obtain⟨od,J,_⟩:=O.look;exact agc (PySem.W.kitx_own (cl.get _) cl.hd ha hn htk hm) I.qU J e (λz=>nomatch z) h
end
structure gK (k:Nat)(A:aq):Prop where
 hd:A.handled=none
 dp:A.depth+3*k+5<recursionLimit
 un:A.units+16*k+200<cLine
theorem gK.mono {j k:Nat}{A:aq}(r:gK k A)(h:j<=k):gK j A:=⟨r.hd,by have:=r.dp;omega,by have:=r.un;omega⟩
theorem gK.deeper {k:Nat}{A:aq}(r:gK (k+1) A)(env:Env):gK k (A.deeper env) :=
 ⟨r.hd,by have:=r.dp;show A.depth+1+3*k+5<_;omega,by have:=r.un;show A.units+3+16*k+200<_;omega⟩
theorem Ib {A:aq}{C:aj}{us:aP ak}{kw:aP (Str×ak)}:(A.under<|.builtin "type.__call__" ⟨.ref C::us,kw⟩).depth=A.depth+1:=by
 first|rfl|simp[Around.under,Code.weight,Code.isCreation,Code.isGuard,Code.isCaller,Code.frames,Code.isFrame,guardIds]
theorem Ie {A:aq}{C:aj}{us:aP ak}{kw:aP (Str×ak)}:(A.under<|.builtin "type.__call__" ⟨.ref C::us,kw⟩).units=A.units+1:=by
 first|rfl|simp[Around.under,Code.cUnits,Code.frames,Code.isFrame]
theorem gK.make {k:Nat}{A:aq}(r:gK (k+1) A)(C:aj)(us:aP ak)(kw:aP (Str×ak)):gK k (A.under<|.builtin "type.__call__" ⟨.ref C::us,kw⟩) :=
 ⟨r.hd,by have:=r.dp;rw[Ib];omega,by have:=r.un;rw[Ie];omega⟩
theorem gK.depth {k:Nat}{A:aq}(r:gK k A):A.depth<recursionLimit:=by have:=r.dp;omega
theorem gK.units {k:Nat}{A:aq}(r:gK k A):A.units+64<cLine:=by have:=r.un;omega
theorem gK.QT {k:Nat}{A:aq}(r:gK k A):A.units<cLine:=by have:=r.un;omega
def sO:TA:=λ_ H Q=>Q [] H
def ig (ta:TE)(tr:TA):TA:=λU H Q=>ta U H λx H1=>tr U H1 λxs H2=>Q (x::xs) H2
section
variable {X:Cx}{e:aH}{es:List aH}{te:TE}{t:TA}{pos:Pos}
theorem bG:PA X [] sO:=λ_ _ _ _ H Q I h=>Calls.spliced_nil ⟨[],H,I, .nil,h⟩
theorem bx (ha:PE X e te)(hr:PA X es t)(hs:starEach (e::es) X.env=(false,eval e X.env)::starEach es X.env:=by rfl):PA X (e::es) (ig te t):=by
 intro pos bH s U H Q I h;rw[hs];show wpAny _ _ (spliced ((false,eval e X.env)::backTo pos (starEach es X.env))) _ _ s;refine Calls.spliced_cons<|gk (ha bH s U H _ I h) λu s1 ⟨x,H1,I1,r1,q1⟩=>?_;exact gk (hr pos bH s1 U H1 _ I1 q1) λus s2 ⟨xs,H2,I2,r2,q2⟩=>⟨x::xs,H2,I2, .cons r1 r2,q2⟩
inductive YX (Q:VK)(xs:List V)(H1:Hp):Prop where
 |mk:(xs.length<=sizeLine)->(∀p,H1 p=none->Q (.ref p) (upd H1 p<|.tup xs))->YX Q xs H1
def Ni (t:TA):TE:=λU H Q=>t U H (YX Q)
inductive YZ (Q:VK)(xs:List V)(H1:Hp):Prop where
 |mk:(xs.length<=sizeLine)->(∀p,H1 p=none->Q (.ref p) (upd H1 p<|.lst xs))->YZ Q xs H1
def VB (t:TA):TE:=λU H Q=>t U H (YZ Q)
theorem cV {x1}(h:PA X es t):PE X (.Tuple es x1 pos) (Ni t):=by
 intro bH s U H Q I hq;refine wpAny_Tuple_spliced (gk (h pos bH s U H _ I hq) λus s1 ⟨xs,H1,I1,r,z,q⟩=>⟨by rw[<-r.length];exact z,?_⟩);have hf:H1 s1.heap.objs.size=none:=I1.hok.fresh (afv _);refine⟨.ref s1.heap.objs.size,upd H1 s1.heap.objs.size<|.tup xs,I1.laid (t':=s1.toks) (λb u e=>afx _ e) (afv _) ?_,rfl,q _ hf⟩;exact⟨z,us,r,⟨_,afK _ rfl,rfl,_,rfl⟩⟩
theorem dO (h:PA X es t):PE X (.List es pos) (VB t):=by
 intro bH s U H Q I hq;refine wpAny_List_spliced (gk (h pos bH s U H _ I hq) λus s1 ⟨xs,H1,I1,r,z,q⟩=>⟨by rw[<-r.length];exact z,?_⟩);have hf:H1 s1.heap.objs.size=none:=I1.hok.fresh (afv _);refine⟨.ref s1.heap.objs.size,upd H1 s1.heap.objs.size<|.lst xs,I1.laid (t':=s1.toks) (λb u e=>afx _ e) (afv _) ?_,rfl,q _ hf⟩;exact⟨z,us,0,r,afK _ rfl⟩
end
abbrev Sp:=List V->Hp->VK->XK->Prop
abbrev Km:=List Env->Hp->ao->XK->ak->ao->Prop
structure yZ (P:aA)(w:aG)(K:aN)(mg:Str->Option ak)(aV:aK)(A:aq)(aU:List Env)(s:ao)(H:Hp):Prop where
 frames:A.frames=some aU
 mod:Mod K mg aV
 bs:∀b o,aV.get? b=some o->s.heap.get? b=some o/\H b=none
 DR:aV.objs.size<=s.heap.objs.size
 mU:s.heap.FunFrames aV aU
 Hv:∀b∈frs aU,H b=none
 hok:mj P w H s.heap
 bare:AllBare s.gens
def CE (aU:List Env)(P:aA)(w:aG)(H:Hp)(s:ao)(Q:VK)(u:ak)(s':ao):Prop :=
 ∃v H',s'.os=s.os/\AllBare s'.gens/\Un (frs aU) [] H H' s.heap s'.heap/\mj P w H' s'.heap/\RelV v u/\Q v H'
def CR (CX:Km)(aU:List Env)(P:aA)(w:aG)(H:Hp)(s:ao)(Q:VK)(E:XK)(r:Result)(s':ao):Prop :=
 match r with
 |.ok (.ret u)=>CE aU P w H s Q u s'
 |.ok _=>False
 |.error e=>CX aU H s E e s'
structure cX (P:aA)(w:aG)(K:aN)(mg:Str->Option ak)(aV:aK)(CX:Km)(k:Nat)(f:aj)(fd:FuncData)(ps:List Str)(sp:Sp):Prop where
 len:∀vs H Q E,sp vs H Q E->vs.length=ps.length
 run:∀(A:aq) (aU:List Env) (s:ao) (H:Hp) (args:Args) (us:List ak) (vs:List V) (Q:VK) (E:XK),gK k A->yZ P w K mg aV A aU s H->BindsTo s fd args (ps.zip us)->Vals vs us->sp vs H Q E->
  codeAny (model P w) A (.call (.ref f) args) (CR CX aU P w H s Q E) s
theorem yZ.make {P:aA}{w:aG}{K:aN}{mg:Str->aO ak}{aV:aK}{A:aq}{aU:aP Env}{s:ao}{H:Hp}(e:yZ P w K mg aV A aU s H)(C:aj)(us:aP ak)(kw:aP (Str×ak)):
  yZ P w K mg aV (A.under<|.builtin "type.__call__" ⟨.ref C::us,kw⟩) aU s H:=⟨by first|exact e.frames|(simpa[Around.under,Code.envs,Code.isFrame,pushEnvs] using e.frames),e.mod,e.bs,e.DR,e.mU,e.Hv,e.hok,e.bare⟩
section
variable {X:Cx}{bH:List (aj×Obj)}{U:St}{H:Hp}{s s':ao}
theorem Inv.env0 (I:Inv X bH U H s):yZ X.prog X.w X.K X.mg X.base X.A X.stack s H :=
 ⟨I.ok.frames,I.ok.mod,I.bs,afy I.ok.DR I.sz,I.stack,I.oJ,I.hok,I.bare⟩
theorem Inv.after {Q:VK}{u:ak}(I:Inv X bH U H s)(h:CE X.stack X.prog X.w H s Q u s'):EP X bH U Q u s':=by
 obtain⟨v,H',os,bare,un,hok,r,q⟩:=h;obtain⟨hh,g,d,t,os'⟩:=s';obtain rfl:os'=s.os:=os;exact⟨v,H',I.call (h':=hh) (g':=g) (d':=d) (t':=t) (ch:=[]) un hok bare (λb z=>absurd z<|by simp),r,q⟩
end
def En (sp:Sp)(yS:List V)(E:XK)(t:TA):TE:=λU H Q=>t U H λvs H1=>sp (vs++yS) H1 Q E
inductive QV (C:aj)(m:Str)(sp:Sp)(yS:List V)(E:XK)(t:TA)(U:St)(Q:VK)(x:V)(H1:Hp):Prop where
 |mk (a) (dx) (fs):(x=.ref a)->(H1 a=some (.ins C dx fs))->(fs.lookup m=none)->(t U H1 λvs H2=>sp (x::(vs++yS)) H2 Q E)->QV C m sp yS E t U Q x H1
def acG (C:aj)(m:Str)(sp:Sp)(yS:List V)(E:XK)(ta:TE)(t:TA):TE:=λU H Q=>ta U H (QV C m sp yS E t U Q)
def acH (C:aj)(sp:Sp)(yS:List V)(E:XK)(t:TA):TE:=λU H Q=>t U H λvs H1=>∀x dx,H1 x=none->H1 dx=none->dx≠x->
 sp (.ref x::(vs++yS)) (upd (upd H1 dx<|.own x) x<|.ins C dx []) (λv H2=>v=.non/\Q (.ref x) H2) E
def Binds (K:aN)(fd:FuncData)(ps:List Str)(ds:List ak):Prop :=
 ∀(s:ao) (us:List ak),K.In s.heap->(us++ds).length=ps.length->BindsTo s fd ⟨us,[]⟩ (ps.zip<|us++ds)
theorem Binds.all {K:aN}{fd:FuncData}{ps:aP Str}(h:∀us:aP ak,us.length=ps.length->bindArgs fd ⟨us,[]⟩=pure (ps.zip us)):Binds K fd ps []:=λs us _ hl=>by
 rw[agh]at hl ⊢;exact .of_eq<|h us hl
def Passes (CX:Km)(X:Cx)(E:XK):Prop:=∀(bH:List (aj×Obj)) (U:St) (H:Hp) (s:ao) (e:ak) (s':ao),Inv X bH U H s->CX X.stack H s E e s'->X.xe e s'
section
variable {X:Cx}{CX:Km}{k:Nat}{f C:aj}{fd:FuncData}{ps:List Str}{sp:Sp}{yS:List V}{ds:List ak}{E:XK}{x m:Str}{p pos nM:Pos}{e o:aH}{es:List aH}{ta:TE}{t:TA}
theorem Ig {bH:List (aj×Obj)}{U:St}{H:Hp}{s:ao}{Q:VK}{us:List ak}{vs:List V}(F:cX X.prog X.w X.K X.mg X.base CX k f fd ps sp)(hr:gK k X.A)(hb:Binds X.K fd ps ds)(hd:Vals yS ds)(hx:Passes CX X E)
  (I:Inv X bH U H s) (r:Vals vs us) (h:sp (vs++yS) H Q E):wpAny (model X.prog X.w) X.A (call (.ref f) us) (EP X bH U Q) X.xe s:=by
 have r2:Vals (vs++yS) (us++ds):=r.append hd;have hl:(us++ds).length=ps.length:=by rw[<-r2.length];exact F.len _ _ _ _ h
 refine wpAny_call<|codeAny_mono (F.run X.A X.stack s H ⟨us,[]⟩ (us++ds) (vs++yS) Q E hr I.env0 (hb s us I.qU hl) r2 h) λr s' hq=>?_;cases r with
 |error e=>exact hx bH U H s e s' I hq
 |ok fl=>
  cases fl with
  |ret u=>exact I.after hq
  |next=>exact ahT hq
  |brk=>exact ahT hq
  |cont=>exact ahT hq
theorem gU (F:cX X.prog X.w X.K X.mg X.base CX k f fd ps sp)(hr:gK k X.A)(hg:Gl X x)(hm:X.mg x=some (.ref f))(hk:keepIn X.K (.ref f)=true)(hb:Binds X.K fd ps ds)(hd:Vals yS ds)(hx:Passes CX X E)
  (ha:PA X (e::es) t) (hdb:(x==("__debug__":Str))=false:=by decide) (he:starEach (e::es) X.env=(false,eval e X.env)::starEach es X.env:=by rfl) (lC:(backTo pos<|starEach es X.env).any (·.1)=false:=by rfl):
  PE X (.Call (.Name x p) (e::es) [] pos) (En sp yS E t):=by
 intro bH s U H Q I h;refine wpAny_Call_Name_kw<|oK I hg hm ?_ hdb;refine agP (h₀:=X.base) I.ok.mod.MN hk (gk (ha pos bH s U H _ I h) λus s1 ⟨vs,H1,I1,r,q⟩=>⟨I1.qU,?_⟩) he lC;exact Ig F hr hb hd hx I1 r q
theorem Eo {pl:Sem Bool}(he:PE X o ta)(c:Cls X.K C)(hm:Meth X.K C m f)(F:cX X.prog X.w X.K X.mg X.base CX k f fd ps sp)(hr:gK k X.A)(hb:Binds X.K fd ps ds)(hd:Vals yS ds)(hx:Passes CX X E)
  (ht:eval (.Call (.Attribute o m nM) [] [] pos) X.env=(do
   let ov <-eval o X.env
   standAt nM.atName
   let (f,first) <-holding [ov] (getMethod ov m pl)
   callWith pos f first (backTo pos<|starEach [] X.env) (backToKw pos<|keywordEach [] X.env)):=by rfl):
  PE X (.Call (.Attribute o m nM) [] [] pos) (acG C m sp yS E ta sO):=by
 intro bH s U H Q I h;refine PySem.W.methodCall_KW (pl:=pl) (gk (he bH s U H _ I h) λu s1 ⟨x,H1,I1,rx,a,dx,fs,ex,ea,l,q⟩=>?_) ht;subst ex;obtain rfl:u=Value.ref a:=rx;refine HY I1 ea c hm l ?_;exact PySem.W.callWith_K0 (first:=[.ref a]) I1.qU hm.kp<|Ig (us:=[.ref a]) (vs:=[.ref a]) F hr hb hd hx I1 (.cons rfl .nil) q
structure Mk (K:aN)(C f:aj):Prop where
 makes:makesIn K C=true
 init:findIn K (.ref C) "__init__"=some (some<|.ref f)
 fn:PySem.W.isFn K (.ref f)=true
 kp:keepIn K (.ref C)=true
theorem QW {bH:List (aj×Obj)}{U:St}{H:Hp}{s:ao}{Q:VK}{us:List ak}{vs:List V}(M:Mk X.K C f)(F:cX X.prog X.w X.K X.mg X.base CX k f fd ps sp)(hr:gK (k+1) X.A)(hb:Binds X.K fd ps ds)(hd:Vals yS ds)
  (hx:Passes CX X E) (I:Inv X bH U H s) (r:Vals vs us)
  (h:∀x dx,H x=none->H dx=none->dx≠x->sp (.ref x::(vs++yS)) (upd (upd H dx<|.own x) x<|.ins C dx []) (λv H2=>v=.non/\Q (.ref x) H2) E):
  wpAny (model X.prog X.w) X.A (call (.ref C) us) (EP X bH U Q) X.xe s:=by
 have hq:=h (s.heap.objs.size+1) s.heap.objs.size (I.hok.fresh<|agb _) (I.hok.fresh<|afv _) (afV<|agD _);have I2:=Inv.made (C:=C) I;have r2:Vals (V.ref (s.heap.objs.size+1)::(vs++yS)) (Value.ref (s.heap.objs.size+1)::(us++ds)):=.cons rfl (r.append hd);have hl:(Value.ref (s.heap.objs.size+1)::us++ds).length=ps.length:=by
  have e:=r2.length;rw[F.len _ _ _ _ hq]at e;exact e.symm
 refine wpAny_call (QS (f:=f) I.qU M.makes M.init (beq_iff_eq.mp M.fn) (codeAny_mono (F.run _ X.stack _ _ ⟨Value.ref (s.heap.objs.size+1)::us,[]⟩ (Value.ref (s.heap.objs.size+1)::(us++ds)) _ _ E (hr.make C us [])
  (I2.env0.make C us []) (hb _ (Value.ref (s.heap.objs.size+1)::us) I2.qU hl) r2 hq) λr s' hq'=>?_))
 cases r with
 |error e=>exact hx bH U _ _ e s' I2 hq'
 |ok fl=>
  cases fl with
  |ret u=>
   obtain⟨v,H',I3,rv,ev,q3⟩:=I2.after hq';subst ev;exact⟨rv,⟨V.ref<|s.heap.objs.size+1,H',I3,rfl,q3⟩⟩
  |next=>exact ahT hq'
  |brk=>exact ahT hq'
  |cont=>exact ahT hq'
theorem sU (M:Mk X.K C f)(F:cX X.prog X.w X.K X.mg X.base CX k f fd ps sp)(hr:gK (k+1) X.A)(hg:Gl X x)(hm:X.mg x=some (.ref C))(hb:Binds X.K fd ps ds)(hd:Vals yS ds)(hx:Passes CX X E)
  (ha:PA X (e::es) t) (hdb:(x==("__debug__":Str))=false:=by decide) (he:starEach (e::es) X.env=(false,eval e X.env)::starEach es X.env:=by rfl) (lC:(backTo pos<|starEach es X.env).any (·.1)=false:=by rfl):
  PE X (.Call (.Name x p) (e::es) [] pos) (acH C sp yS E t):=by
 intro bH s U H Q I h;refine wpAny_Call_Name_kw<|oK I hg hm ?_ hdb;refine agP (h₀:=X.base) I.ok.mod.MN M.kp (gk (ha pos bH s U H _ I h) λus s1 ⟨vs,H1,I1,r,q⟩=>⟨I1.qU,?_⟩) he lC;exact QW M F hr hb hd hx I1 r q
end
section
variable {X:Cx}{CX:Km}{k:Nat}{f C:aj}{fd:FuncData}{ps ks:List Str}{sp:Sp}{E:XK}{x m:Str}{p pos nM kpos:Pos}{e o:aH}{es:List aH}{kws:List Keyword}{te ta:TE}{t tk:TA}{nm:Option Str}
variable {g:List ak->List ak->List ak}{gV:List V->List V->List V}
end
structure cu (N P:List Str)(sc:Scope):Prop where
 kind:sc.kind=.function:=by rfl
 co:sc.isCoroutine=false:=by rfl
 gen:sc.isGenerator=false:=by rfl
 nd:N.Nodup:=by decide+kernel
 pre:N.take P.length=P:=by rfl
 par:∀x∈P,sc.names.lookup x=some .local\/sc.names.lookup x=some .cell:=by decide+kernel
 aaD:∀y∈sc.names,y.2≠.free:=by decide+kernel
theorem zL {kindOf:Str->Option NameKind}{x:Str}:∀{binds:List (Str×ak)} {m:Str->Option ak},(∀v,(x,v)∉binds)->bindL kindOf binds m x=m x
 |[],_,_=>rfl
 |(n,v)::r,m,h=>by
  unfold bindL;rw[zL λw hw=>h w (afA _ hw)];split
  ·have:x≠n:=by rintro rfl;exact h v afE
   simp[this]
  ·rfl
theorem zM {kindOf:Str->Option NameKind}{x:Str}:∀{binds:List (Str×ak)} {m:Str->Option ak},(∀v,(x,v)∉binds)->bindC kindOf binds m x=m x
 |[],_,_=>rfl
 |(n,v)::r,m,h=>by
  unfold bindC;rw[zM λw hw=>h w (afA _ hw)];split
  ·rfl
  ·have:x≠n:=by rintro rfl;exact h v afE
   simp[this]
theorem Nj {kindOf:Str->Option NameKind}{x:Str}{v:ak}{P:List Str}{vs:List ak}{i:Nat}{m:Str->Option ak}(nd:P.Nodup)(h1:P[i]?=some x)(h2:vs[i]?=some v)(hk:kindOf x=some .local):
  bindL kindOf (P.zip vs) m x=some v:=by
 induction P generalizing vs i m with
 |nil=>simp at h1
 |cons p P ih=>cases vs with
  |nil=>simp at h2
  |cons w vs=>
   show bindL kindOf ((p,w)::P.zip vs) m x=_;unfold bindL;cases i with
   |zero=>
    cases h1;cases h2;rw[zL λv hv=>(agH.mp nd).1 (ahc hv).1,ahK hk];simp
   |succ i=>exact ih (i:=i) (agH.mp nd).2 h1 h2
theorem Nk {kindOf:Str->Option NameKind}{x:Str}{v:ak}{P:List Str}{vs:List ak}{i:Nat}{m:Str->Option ak}(nd:P.Nodup)(h1:P[i]?=some x)(h2:vs[i]?=some v)(hk:kindOf x≠some .local):
  bindC kindOf (P.zip vs) m x=some v:=by
 induction P generalizing vs i m with
 |nil=>simp at h1
 |cons p P ih=>cases vs with
  |nil=>simp at h2
  |cons w vs=>
   show bindC kindOf ((p,w)::P.zip vs) m x=_;unfold bindC;cases i with
   |zero=>
    cases h1;cases h2;rw[zM λv hv=>(agH.mp nd).1 (ahc hv).1,ahL hk];simp
   |succ i=>exact ih (i:=i) (agH.mp nd).2 h1 h2
noncomputable def start (N:List Str)(vs:List V):St:=vs.map some++List.replicate (N.length-vs.length) none
noncomputable def dX (CX:Km)(P:aA)(w:aG)(K:aN)(mg:Str->Option ak)(aV:aK)(N:List Str)(bf:Str)(aZ:Scope)(f:aj)(cd:ak)(A:aq)(aU:List Env)(s:ao)(H:Hp)(E:XK):Cx where
 prog:=P
 w:=w
 K:=K
 mg:=mg
 base:=aV
 A:=A.deeper (envOfC bf aZ s.heap.objs.size f cd)
 N:=N
 s₀:=s
 H₀:=H
 env:=envOfC bf aZ s.heap.objs.size f cd
 outer:=aU
 stack:=envOfC bf aZ s.heap.objs.size f cd::aU
 ex:=[]
 calm:=true
 fn:=λ_=>true
 pn:=[]
 xe:=λe s'=>wpAny (model P w) (A.deeper<|envOfC bf aZ s.heap.objs.size f cd) (leaving (envOfC bf aZ s.heap.objs.size f cd) e) (λ_ s''=>CX aU H s E e s'') (λe' s''=>CX aU H s E e' s'') s'
theorem Ep {sc:Scope}{n:Nat}{x:Str}(h:sc.names.lookup x=some .cell):∃c,(cellsFrom n sc.names []).lookup x=some c:=by
 have q:=ag7 sc.names n [] (.inl h);exact Option.isSome_iff_exists.mp q
theorem zN {CX:Km}{P:aA}{w:aG}{K:aN}{mg:Str->aO ak}{aV:aK}{N ps:aP Str}{bf:Str}{aZ:Scope}{f:aj}{cd:ak}{A:aq}{aU:aP Env}{s s1:ao}{H:Hp}{E:XK}{us:aP ak}{vs:aP V}
  (S:cu N ps aZ) (hd:A.handled=none) (e0:yZ P w K mg aV A aU s H) (hl:vs.length=ps.length) (r:Vals vs us)
  (x:InCallC s s.heap.objs.size (bindL (envOfC bf aZ s.heap.objs.size f cd).kindOf (ps.zip us) λ_=>none) (cellsFrom (s.heap.objs.size+1) aZ.names []) (bindC (envOfC bf aZ s.heap.objs.size f cd).kindOf (ps.zip us) λ_=>none) s1):
  Inv (dX CX P w K mg aV N bf aZ f cd A aU s H E) [] (start N vs) H s1:=by
 have lC:ps.length<=N.length:=by have:=congrArg List.length S.pre;rw[af9]at this;omega
 obtain⟨h1,tk,rfl,hk⟩:=x.done;have noA:∀b:aj,b∉(dX CX P w K mg aV N bf aZ f cd A aU s H E).ex:=λb z=>absurd (show b∈([]:aP aj) from z) (by simp);refine⟨⟨e0.mod,S.kind,rfl,rfl,afv _,λy z c h1 h2=>?_,λy hy=>?_,λy c _ h=>?_,λ_=>hd,Around.frames_deeper e0.frames, .inr ⟨rfl,rfl⟩,λb z=>absurd z<|noA b,e0.bs,e0.DR,λb _ _=>noA b,λb z=>absurd z<|noA b,e0.mU,e0.Hv⟩,
  rfl,e0.bare,Un.kept hk,⟨_,x.toInCall.ns,λi y v h1 h2 h3=>?_⟩,λy c h=>⟨_,x.cell y c h⟩,e0.hok.fresh<|afv _,λy c h=>?_,λp hp=>absurd (show p∈([]:aP (aj×Obj)) from hp) (by simp),e0.hok.kept hk,?_⟩
 ·exact name_of_addr x.apart (PySem.mem_of_lookup h1)<|PySem.mem_of_lookup h2
 ·have hy:aZ.names.lookup y=some .cell\/aZ.names.lookup y=some .free:=hy
  rcases hy with hy|hy
  ·exact Ep hy
  ·exact absurd rfl (S.aaD _<|PySem.mem_of_lookup hy)
 ·exact afT<|x.above y c (PySem.mem_of_lookup h)
 ·have hi:i<vs.length:=by
   unfold start at h2;by_cases hi:i<vs.length
   ·exact hi
   ·rw[afS (by simpa using hi)]at h2
    rw[ag2]at h2;split at h2<;>cases h2
  have ha:vs[i]?=some v:=by
   unfold start at h2;rw[afC (by simpa using hi),afJ]at h2;cases e:vs[i]? with
   |none=>rw[e]at h2;cases h2
   |some a=>rw[e]at h2;cases h2;rfl
  obtain⟨u,hu,rv⟩:=r.get ha;have hp:ps[i]?=some y:=by
   rw[<-S.pre,List.getElem?_take_of_lt (by exact afR hi hl)];exact h1
  have ndP:ps.Nodup:=by rw[<-S.pre];exact S.nd.sublist<|List.take_sublist _ _
  refine⟨u,rv,?_⟩;rcases S.par y (agk hp) with k|k
  ·exact .inl ⟨k,Nj ndP hp hu k⟩
  ·obtain⟨c,e⟩:=Ep (n:=s.heap.objs.size+1) k
   refine .inr ⟨.inl k,c,e,?_⟩;have q:=x.cell y c e;rw[Nk ndP hp hu (by show aZ.names.lookup y≠_;rw[k];decide)]at q;exact q
 ·exact e0.hok.fresh<|afT (x.above y c<|PySem.mem_of_lookup h)
 ·unfold start
  show _=N.length;rw[afu,afL,agG];omega
theorem QX {CX:Km}{P:aA}{w:aG}{K:aN}{mg:Str->Option ak}{aV:aK}{k:Nat}{f:aj}{name bf:Str}{params:Arguments}{body:List aJ}{aZ:Scope}{dV kV nF pm dJ ct oc:ak}{an od:Option aj}
  {osl:Array (Option ak)} {N ps:List Str} {sp:Sp} (lk:K.lookup f=some ⟨oc,od, .func<|fnOf name bf params body aZ dV kV nF pm an dJ ct,osl⟩) (yX:codeIn K dJ bf=true) (S:cu N ps aZ)
  (len:∀vs H Q E,sp vs H Q E->vs.length=ps.length)
  (hbody:∀(A:aq) (aU:List Env) (s:ao) (H:Hp) (vs:List V) (Q:VK) (E:XK),gK k (A.deeper<|envOfC bf aZ s.heap.objs.size f dJ)->sp vs H Q E->
   ∃t,yR (dX CX P w K mg aV N bf aZ f dJ A aU s H E) body t/\t (Ends.of Q) (start N vs) H):
  cX P w K mg aV CX (k+1) f (fnOf name bf params body aZ dV kV nF pm an dJ ct) ps sp:=by
 refine⟨len,λA aU s H args us vs Q E hr e0 hb r hsp=>?_⟩;have hl:=len _ _ _ _ hsp;have KX:K.In s.heap:=e0.mod.MN.keeps λb o e=>(e0.bs b o e).1;have lim:s.heap.NoLimit:=e0.mod.nolimit.keeps λb o e=>(e0.bs b o e).1;have hkind:∀y∈ps.zip us,aZ.names.lookup y.1=some .local\/(aZ.names.lookup y.1=some .cell/\((cellsFrom (s.heap.objs.size+1) aZ.names []).lookup y.1).isSome=true):=λ⟨n,v⟩ hy=>by
  rcases S.par n (ahc hy).1 with q|q
  ·exact .inl q
  ·exact .inr ⟨q,ag7 _ _ _<|.inl q⟩
 refine codeAny_call_function hr.depth (KX _ _ lk) rfl S.co S.gen rfl (PySem.W.codeRec_of KX yX) (hb _ _ _ _ ?_);refine wpAny_newFunctionEnv_cells S.kind hkind λenv he s1 x=>?_;subst he;refine⟨lim.keeps x.toInCall.keep,codeAny_func ?_⟩;obtain⟨t,ht,hq⟩:=hbody A aU s H vs Q E (hr.deeper _) hsp;have I:Inv (dX CX P w K mg aV N bf aZ f dJ A aU s H E) [] (start N vs) H s1:=zN S hr.hd e0 hl r x;refine wpAny_mono (ht [] s1 (start N vs) H _ I hq) (λfl s' hs=>?_) λe s' hs=>hs;have fin:∀{U':St} {H':Hp} {v:V} {u:ak},Inv (dX CX P w K mg aV N bf aZ f dJ A aU s H E) [] U' H' s'->RelV v u->Q v H'->CE aU P w H s Q u s' :=
  λ{U' H' v u} J rv q=>⟨v,H',J.os,J.bare,J.base,J.hok,rv,q⟩
 cases fl with
 |ret u=>
  obtain⟨v,U',H',J,rv,q⟩:=hs;exact fin J rv q
 |next=>
  obtain⟨U',H',J,q⟩:=hs;exact fin (v:=V.non) (u:=Value.none) J rfl q
 |brk=>
  obtain⟨_,_,_,q⟩:=hs;exact ahT q
 |cont=>
  obtain⟨_,_,_,q⟩:=hs;exact ahT q
section
variable {X:Cx}{x:Str}{p pos:Pos}{e:aH}{es:List aH}{t:TA}{id T:String}{r:List V->Hp->VK->Prop}
def tCB (r:List V->Hp->VK->Prop)(t:TA):TE:=λU H Q=>t U H λvs H1=>r vs H1 Q
theorem cJ (hc:jL X (.builtin id) r)(hg:Gl X x)(hm:X.mg x=none)(hv:bootBuiltins x=some (.builtin id))(ha:PA X (e::es) t)(hn:x≠"__name__":=by decide)(hdb:(x==("__debug__":Str))=false:=by decide)
  (he:starEach (e::es) X.env=(false,eval e X.env)::starEach es X.env:=by rfl) (lC:(backTo pos<|starEach es X.env).any (·.1)=false:=by rfl):PE X (.Call (.Name x p) (e::es) [] pos) (tCB r t):=by
 intro bH s U H Q I h;refine wpAny_Call_Name_kw<|mV I hg hm hv ?_ hn hdb;exact PyProof.Rows.callWith_builtin1 (gk (ha pos bH s U H _ I h) λus s1 ⟨vs,H1,I1,r1,q1⟩=>hc bH s1 U H1 vs us Q I1 r1 q1) he lC
theorem cZ (hc:jL X (.type T) r)(hg:Gl X x)(hm:X.mg x=none)(hv:bootBuiltins x=some (.type T))(ha:PA X (e::es) t)(hn:x≠"__name__":=by decide)(hdb:(x==("__debug__":Str))=false:=by decide)
  (he:starEach (e::es) X.env=(false,eval e X.env)::starEach es X.env:=by rfl) (lC:(backTo pos<|starEach es X.env).any (·.1)=false:=by rfl):PE X (.Call (.Name x p) (e::es) [] pos) (tCB r t):=by
 intro bH s U H Q I h;refine wpAny_Call_Name_kw<|mV I hg hm hv ?_ hn hdb;exact PyProof.Rows.callWith_type1 (gk (ha pos bH s U H _ I h) λus s1 ⟨vs,H1,I1,r1,q1⟩=>hc bH s1 U H1 vs us Q I1 r1 q1) he lC
end
end L2
namespace HT
open PySem PyProof.Rows
section
open PySem.SeqAt
open PySem.AutoSeq1 (wpAny_loadPart')
open PySem.MeetsSeq PySem.MeetsSeq2 PySem.MeetsSeq3
end
section
variable {prog:aA}{w:aG}{A:aq}{E:ak->ao->Prop}{s:ao}
theorem VD {t b:aj}{vs ws:aP ak}{Q:ak->ao->Prop}(ht:IsTup s.heap t vs.toArray)(hb:IsTup s.heap b ws.toArray)(hv:vs≠[])
  (h1:ws=[]->Q (.ref t) s) (h2:ws≠[]->Q (.ref s.heap.objs.size) {s with heap:=s.heap.push {cls:=.type "tuple",data:=.seq (vs++ws).toArray}})
  (hsz:vs.length+ws.length<=sizeLine):wpAny (model prog w) A (binaryOp .Add (.ref t)<|.ref b) Q E s:=by
 obtain⟨⟨cls,dd,data,sl⟩,ho,hc,n,hd⟩:=id ht;obtain⟨⟨cls2,dd2,data2,sl2⟩,ho2,hc2,n2,hd2⟩:=id hb;simp only at hc hd hc2 hd2;subst hc hd hc2 hd2;have e:vs.toArray++ws.toArray=(vs++ws).toArray:=by simp
 by_cases hw:ws=[]
 ·exact concat_meets ⟨_,ho,rfl⟩ ⟨_,ho2,rfl⟩ noFill_tuple_add seq_tuple_add PySem.F.slot_tuple_add ahB (ahv _ _)
   (tuple_addW1 t b vs.toArray ws.toArray n n2 dd dd2 sl sl2 (by simpa using hv)<|by simp[hw]) ⟨ho,ho2,h1 hw⟩
 ·refine concat_meets ⟨_,ho,rfl⟩ ⟨_,ho2,rfl⟩ noFill_tuple_add seq_tuple_add PySem.F.slot_tuple_add ahB (ahv _ _)
   (tuple_addW2 t b vs.toArray ws.toArray n n2 dd dd2 sl sl2 (by simpa using hv) (by simpa using hw)<|by rw[afG,afG];exact hsz) ⟨ho,ho2,?_⟩
  rw[e];exact h2 hw
noncomputable def nG (n d:Nat):Option Int->Nat
 |none=>d
 |some v=>if v<0 then(v+(n:Int)).toNat else min v.toNat n
theorem QZ (n d:Nat):nG n d none=d:=rfl
theorem Ko (n d k:Nat):nG n d (some (k:Int))=min k n:=by
 show(if(k:Int)<0 then((k:Int)+(n:Int)).toNat else min (k:Int).toNat n)=min k n;rw[ahL (by omega),af5]
theorem aaE (n d:Nat)(hd:d<=n)(o:Option Int):nG n d o<=n:=by
 cases o with
 |none=>exact hd
 |some v=>
  show(if v<0 then(v+(n:Int)).toNat else min v.toNat n)<=n;by_cases hv:v<0
  ·rw[ahK hv];omega
  ·rw[ahL hv];exact Nat.min_le_right _ _
theorem Kq (v:Int)(n d:Nat):(if v<0 then max (v+(n:Int)) 0 else min v (n:Int))=((nG n d (some v):Nat):Int):=by
 show(if v<0 then max (v+(n:Int)) 0 else min v (n:Int))=(((if v<0 then(v+(n:Int)).toNat else min v.toNat n):Nat):Int);by_cases hv:v<0
 ·simp only[ahK hv];omega
 ·simp only[ahL hv];omega
theorem Ih (lo hi:Option Int)(n:Nat):Builtin.Slice.sliceAdjust lo hi 1 (n:Int)=(((nG n 0 lo:Nat):Int),((nG n n hi:Nat):Int)):=by
 have h1:¬((1:Int)<0):=by omega
 unfold Builtin.Slice.sliceAdjust;simp only[h1,if_false];refine Prod.ext ?_ ?_
 ·cases lo with
  |none=>rfl
  |some v=>exact Kq v n 0
 ·cases hi with
  |none=>rfl
  |some v=>exact Kq v n n
theorem Ii (i j:Nat):Builtin.Slice.slicePlaces (i:Int) (j:Int) 1=j-i:=by
 unfold Builtin.Slice.slicePlaces;have h1:(1:Int)>0:=by omega
 simp only[h1,if_true,Int.ediv_one];split<;>omega
theorem wV {v:ak}{o:Option Int}{Q:Option Int->ao->Prop}(p:IsPart v o)(h:Q o s):wpAny (model prog w) A (Builtin.Slice.slicePartIndex v) Q E s:=by
 cases p with
 |none=>exact slicePart_none h
 |int i t=>exact slicePart_int h
theorem uF {sl:aj}{vl vu:ak}{lo hi:aO Int}{n:Nat}{Q:Int×Int×Nat->ao->Prop}(hs:s.heap.IsSliceOf sl vl vu .none)(pl:IsPart vl lo)(pu:IsPart vu hi)
  (h:Q (((nG n 0 lo:Nat):Int),1,nG n n hi-nG n 0 lo) s):wpAny (model prog w) A (Builtin.Slice.sliceApplied (.ref sl)<|pure (n:Int)) Q E s:=by
 obtain⟨os,hos,hcs,hds⟩:=id hs;unfold Builtin.Slice.sliceApplied Builtin.Slice.sliceFields;refine abI<|abI (ahU hos hds (x:=vl) rfl (abI<|ahU hos hds (x:=vu) rfl (abI<|ahU hos hds (x:=.none) rfl (ahI ?_))));refine abI<|slicePart_none ?_;show wpAny _ _ (if((1:Int)==0)=true then _ else _) _ _ s;rw[ahL (by decide)];refine abI<|wV pl (abI<|wV pu (abI<|ahI ?_));show wpAny _ _ (match Builtin.Slice.sliceAdjust lo hi 1 (n:Int) with|(lo,hi)=>pure (lo,(1:Int),Builtin.Slice.slicePlaces lo hi 1)) _ _ s;rw[Ih lo hi n];show wpAny _ _ (pure (((nG n 0 lo:Nat):Int),(1:Int),Builtin.Slice.slicePlaces ((nG n 0 lo:Nat):Int) ((nG n n hi:Nat):Int) 1)) _ _ s;rw[Ii];exact ahI h
theorem Q0 (xs:Array ak)(i k:Nat):((List.range k).filterMap λ(m:Nat)=>xs[((i:Int)+(m:Int)*1).toNat]?).toArray=((xs.toList.drop i).take k).toArray:=by
 have e:(λ(m:Nat)=>xs[((i:Int)+(m:Int)*1).toNat]?)=λm=>xs[i+m]?:=by
  funext m;have:((i:Int)+(m:Int)*1).toNat=i+m:=by omega
  rw[this]
 rw[e];have:=pick_run xs i k;rw[List.filterMap_map]at this;have e2:((λx=>xs[x]?)∘λx=>i+x)=λm=>xs[i+m]?:=rfl;rw[e2]at this;rw[this]
theorem sV {t sl:aj}{items:Array ak}{vl vu:ak}{lo hi:Option Int}{Q:ak->ao->Prop}(ht:IsTup s.heap t items)(hs:s.heap.IsSliceOf sl vl vu .none)(pl:IsPart vl lo)(pu:IsPart vu hi)
  (hw:¬(nG items.size 0 lo=0/\nG items.size items.size hi=items.size))
  (h:Q (.ref s.heap.objs.size) {s with heap:=s.heap.push {cls:=.type "tuple",data:=.seq ((items.toList.drop<|nG items.size 0 lo).take<|nG items.size items.size hi-nG items.size 0 lo).toArray}})
  (hsz:items.size<=sizeLine):wpAny (model prog w) A (getItem (.ref t)<|.ref sl) Q E s:=by
 have Kr:sizeOk (.seq ((items.toList.drop<|nG items.size 0 lo).take<|nG items.size items.size hi-nG items.size 0 lo).toArray):=by
  show((items.toList.drop<|nG items.size 0 lo).take<|nG items.size items.size hi-nG items.size 0 lo).toArray.size<=sizeLine;rw[afG,af9,agU,ahg];omega
 have hj:nG items.size items.size hi<=items.size:=aaE _ _ (afv _) hi;obtain⟨os,hos,hcs,hds⟩:=id hs;have hTs:s.TypeIs (.ref sl) "slice":=⟨os,hos,hcs⟩;unfold getItem
 try with_reducible refine ahV ?_
 first|refine abI (ahI ?_)|skip
 refine abI (wpAny_sequenceKey ht.typeIs (by decide) ?_);refine abI (wpAny_callSpecial?_slot (name:=Str.ofString "__getitem__") ht.typeIs PyProof.Rows.slot_tuple_getitem
  (wpAny_call_entry PyProof.Rows.slot_tuple_getitem ht.typeIs entry_tuple_getitem ?_<|args_tuple_getitem _ _))
 show wpAny _ _ (Builtin.Tuple.tupleItemsOf (.ref t)>>=_) _ _ s;refine abI<|tupleItemsOf_ ht ?_;refine abI<|wpAny_typeOf hTs ?_;rw[ahK (by decide)];refine abI<|uF hs pl pu ?_;have hno:¬((((nG items.size 0 lo:Nat):Int)==0&&(1:Int)==1&&(nG items.size items.size hi-nG items.size 0 lo)==items.size)=true):=by
  intro q;rw[ags,ags]at q;have q1:((nG items.size 0 lo:Nat):Int)=0:=eq_of_beq q.1.1;have q2:nG items.size items.size hi-nG items.size 0 lo=items.size:=eq_of_beq q.2;exact hw ⟨by omega,by omega⟩
 show wpAny _ _ (if(((nG items.size 0 lo:Nat):Int)==0&&(1:Int)==1&&(nG items.size items.size hi-nG items.size 0 lo)==items.size)=true then _ else _) _ _ s;rw[ahL hno,Q0]
 first
  |exact abI (m:=Builtin.Tuple.tupleExact _)<|wpAny_newObj_type (ahI ⟨_,rfl,ahI h⟩) Kr
  |exact abI (m:=Builtin.Tuple.tupleExact _)<|wpAny_newObj_type (abI<|ahI (ahI ⟨_,rfl,ahI h⟩)) Kr
  |exact abI<|abI (m:=Builtin.Tuple.tupleExact _) (wpAny_newObj_type (ahI<|ahI ⟨_,rfl,ahI h⟩) Kr)
  |exact abI<|abI (m:=Builtin.Tuple.tupleExact _) (wpAny_newObj_type (ahI ⟨_,rfl,ahI h⟩) Kr)
end
end HT
namespace L2
abbrev TO:=St->Hp->(Option Int->Hp->Prop)->Prop
def PO (X:Cx)(e:Option aH)(t:TO):Prop :=
 ∀(bH:List (aj×Obj)) (s:ao) (U:St) (H:Hp) (Q:Option Int->Hp->Prop),Inv X bH U H s->t U H Q->
  wpAny (model X.prog X.w) X.A (evalPart e X.env) (λu s'=>∃o H',Inv X bH U H' s'/\IsPart u o/\Q o H') X.xe s
def VF:TO:=λ_ H Q=>Q none H
inductive Q5 (Q:Option Int->Hp->Prop)(x:V)(H1:Hp):Prop where
 |mk (i):(x=.int i)->(Q (some i) H1)->Q5 Q x H1
def acI (t:TE):TO:=λU H Q=>t U H (Q5 Q)
section
variable {X:Cx}{e:aH}{te:TE}{lo hi:Option aH}{tl th:TO}{pos p2:Pos}
theorem VG:PO X none VF:=by
 intro bH s U H Q I h;rw[evalPart_none];exact ahI ⟨none,H,I, .none,h⟩
theorem VH (h:PE X e te):PO X (some e) (acI te):=by
 intro bH s U H Q I hw;rw[evalPart_some];refine gk (h bH s U H _ I hw) λu s1 ⟨x,H1,I1,r1,q1⟩=>?_;obtain⟨i,rfl,q⟩:=q1;obtain⟨t,rfl⟩:=r1;exact⟨some i,H1,I1, .int i t,q⟩
def SlR (X:Cx)(r:V->Option Int->Option Int->Hp->VK->Prop):Prop :=
 ∀(bH:List (aj×Obj)) (s:ao) (U:St) (H:Hp) (x:V) (v vl vu:ak) (lo hi:Option Int) (sl:aj) (Q:VK),Inv X bH U H s->RelV x v->s.heap.IsSliceOf sl vl vu .none->IsPart vl lo->IsPart vu hi->r x lo hi H Q->
  ∃T id,typeLookup (.type T) "__getitem__"=pure (some<|.builtin id)/\s.TypeIs v T/\wpAny (model X.prog X.w) X.A (getItem v<|.ref sl) (EP X bH U Q) X.xe s
def tSl (r:V->Option Int->Option Int->Hp->VK->Prop)(te:TE)(tl th:TO):TE:=λU H Q=>te U H λx H1=>tl U H1 λl H2=>th U H2 λu H3=>r x l u H3 Q
theorem Q6 {r:V->aO Int->aO Int->Hp->VK->Prop}(hr:SlR X r)(he:PE X e te)(hl:PO X lo tl)(hu:PO X hi th):PE X (.Subscript e (.Slice lo hi none p2) pos) (tSl r te tl th):=by
 intro bH s U H Q I h;refine Subscript_<|gk (he bH s U H _ I h) λv s1 ⟨x,H1,I1,r1,q1⟩=>?_;refine wpAny_Slice<|gk (hl bH s1 U H1 _ I1 q1) λvl s2 ⟨l,H2,I2,pl,q2⟩=>gk (hu bH s2 U H2 _ I2 q2) λvu s3 ⟨u,H3,I3,pu,q3⟩=>?_;rw[evalPart_none];refine ahI ?_;have I4:Inv X bH U H3 {s3 with heap:=s3.heap.push {cls:=.type "slice",data:=.fields #[vl,vu, .none]}}:=I3.kept (t':=s3.toks) λb ob q=>afx _ q;obtain⟨T,id,hT,ht,hg⟩:=hr bH {s3 with heap:=s3.heap.push {cls:=.type "slice",data:=.fields #[vl,vu, .none]}} U H3 x v vl vu l u s3.heap.objs.size Q I4 r1 (Heap.IsSliceOf.new ..) pl pu q3;show wpAny (model X.prog X.w) X.A (subscriptTail e (.Slice lo hi none p2) v<|.ref s3.heap.objs.size) (EP X bH U Q) X.xe {s3 with heap:=s3.heap.push {cls:=.type "slice",data:=.fields #[vl,vu, .none]}};exact tail_any (ops:=[.ref s3.heap.objs.size,v]) ht hT hg (by with_unfolding_all rfl)
noncomputable def Nm (xs:List V)(lo hi:Option Int):List V:=(xs.drop<|HT.nG xs.length 0 lo).take (HT.nG xs.length xs.length hi-HT.nG xs.length 0 lo)
theorem Er (xs:aP V)(lo hi:aO Int):(Nm xs lo hi).length<=xs.length:=by
 unfold Nm;rw[af9,agU];omega
inductive Y0 (K:aN)(x:V)(lo:Option Int)(hi:Option Int)(H:Hp)(Q:VK):Prop where
 |mk (a) (xs):(x=.ref a)->(iM K H a xs)->(¬(HT.nG xs.length 0 lo=0/\HT.nG xs.length xs.length hi=xs.length))->(∀p,H p=none->Q (.ref p) (upd H p<|.tup (Nm xs lo hi)))->Y0 K x lo hi H Q
def acJ (K:aN):V->Option Int->Option Int->Hp->VK->Prop:=Y0 K
theorem aaF:SlR X (acJ X.K):=by
 intro bH s U H x v vl vu lo hi sl Q I rx hs pl pu h;obtain⟨a,xs,rfl,hx,hw,q⟩:=h;cases rx;obtain⟨bh,r,ht,hz⟩:=I.tuple hx;have jX:bh.toArray.size=xs.length:=by rw[afG];exact r.length.symm
 refine⟨"tuple",_,PyProof.Rows.slot_tuple_getitem.lookup,ht.typeIs,?_⟩;refine HT.sV ht hs pl pu (by rw[jX];exact hw) ?_ (by rw[jX];exact hz);rw[jX];refine⟨.ref s.heap.objs.size,_,I.laid (t':=s.toks) (o:=.tup<|Nm xs lo hi) (λb ob q=>afx _ q) (afv _) ?_,rfl,q _<|I.hok.fresh (afv _)⟩;exact⟨afy (Er xs lo hi) hz,_,(r.drop<|HT.nG xs.length 0 lo).take<|HT.nG xs.length xs.length hi-HT.nG xs.length 0 lo,IsTup.new _ _⟩
inductive Q7 (K:aN)(x:V)(y:V)(H:Hp)(Q:VK):Prop where
 |mk (a) (b) (xs) (ys):(x=.ref a)->(y=.ref b)->(iM K H a xs)->(iM K H b ys)->(xs≠[])->(xs.length+ys.length<=sizeLine)->((ys=[]->Q (.ref a) H))->((ys≠[]->∀p,H p=none->Q (.ref p) (upd H p<|.tup (xs++ys))))->Q7 K x y H Q
def Y4 (K:aN):R2:=Q7 K
theorem Vals.Bq {xs:List V}{us:List ak}(r:Vals xs us):us=[]↔xs=[]:=by
 cases r with
 |nil=>simp
 |cons _ _=>simp
theorem VJ:qW X (binaryOp .Add) (Y4 X.K):=by
 intro bH s U H x y v u Q I rx ry h;obtain⟨a,b,xs,ys,rfl,rfl,ha,hb,hx,hz,q1,q2⟩:=h;cases rx;cases ry;obtain⟨bh,r1,p1,_⟩:=I.tuple ha;obtain⟨iQ,r2,p2,_⟩:=I.tuple hb;refine HT.VD p1 p2 (λz=>hx<|r1.Bq.mp z) (λz=>⟨.ref a,H,I,rfl,q1<|r2.Bq.mp z⟩) (λz=>?_) (by rw[<-r1.length,<-r2.length];exact hz);refine⟨.ref s.heap.objs.size,_,I.laid (t':=s.toks) (o:=.tup<|xs++ys) (λb ob q=>afx _ q) (afv _) ?_,rfl,q2 (λw=>z<|r2.Bq.mpr w) _<|I.hok.fresh (afv _)⟩;exact⟨by rw[afu];exact hz,_,r1.append r2,IsTup.new _ _⟩
end
noncomputable def VL (n:Nat)(i:Int):Option Nat:=if 0<=i then(if i<n then some i.toNat else none) else if -(n:Int)<=i then some (i+n).toNat else none
noncomputable def Vf {α:Type}(xs:List α)(i:Int):Option α:=(VL xs.length i).bind λj=>xs[j]?
theorem Ks {n:Nat}{i:Int}{j:Nat}(h:VL n i=some j):seqIndex? i n=some j/\j<n/\-(n:Int)<=i/\i<n:=by
 unfold VL at h;by_cases h0:0<=i
 ·rw[ahK h0]at h
  by_cases h1:i<n
  ·rw[ahK h1]at h
   have e:i.toNat=j:=ahR h;exact⟨by rw[seqIndex_of h0 h1,e],by omega,by omega,h1⟩
  ·rw[ahL h1]at h;cases h
 ·rw[ahL h0]at h
  by_cases h1: -(n:Int)<=i
  ·rw[ahK h1]at h
   have e:(i+n).toNat=j:=ahR h;exact⟨by rw[seqIndex_neg (by omega) h1,e],by omega,h1,by omega⟩
  ·rw[ahL h1]at h;cases h
theorem Ku {α:Type}{xs:List α}{i:Int}{v:α}(h:Vf xs i=some v):∃j,seqIndex? i xs.length=some j/\xs[j]?=some v/\j<xs.length/\-(xs.length:Int)<=i/\i<xs.length:=by
 unfold Vf at h;cases e:VL xs.length i with
 |none=>rw[e]at h;cases h
 |some j=>
  rw[e]at h;obtain⟨h1,h2,h3,h4⟩:=Ks e;exact⟨j,h1,h,h2,h3,h4⟩
theorem cg {α:Type}{xs:aP α}{j:Nat}{v:α}(h:xs[j]?=some v):Vf xs (j:Int)=some v:=by
 have hj:j<xs.length:=(ahW h).1;have e:VL xs.length (j:Int)=some j:=by
  unfold VL;rw[ahK (by omega),ahK (by omega)];simp
 unfold Vf;rw[e];exact h
def Kv (b:aH):Prop:=∀o i,subscripted b false o i=operate [o,i] (getItem o i)
def IxR (X:Cx)(r:R2):Prop :=
 ∀(value slice:aH) (bH:List (aj×Obj)) (s:ao) (U:St) (H:Hp) (x y:V) (v u:ak) (Q:VK),Inv X bH U H s->RelV x v->RelV y u->r x y H Q->
  subscripted slice false v u=operate [v,u] (getItem v u)->wpAny (model X.prog X.w) X.A (subscriptTail value slice v u) (EP X bH U Q) X.xe s
def MtR (X:Cx)(id:String)(r:V->List V->Hp->VK->Prop):Prop :=
 ∀(bH:List (aj×Obj)) (s:ao) (U:St) (H:Hp) (x:V) (xs:List V) (v:ak) (us:List ak) (Q:VK),Inv X bH U H s->RelV x v->Vals xs us->r x xs H Q->
  wpAny (model X.prog X.w) X.A (call (.builtin id) (v::us)) (EP X bH U Q) X.xe s
section
variable {X:Cx}{a b:aH}{ta tb:TE}{pos:Pos}
theorem bZ {r:R2}(hr:IxR X r)(ha:PE X a ta)(hb:PE X b tb)(hs:Kv b:=by intro _ _;rfl):PE X (.Subscript a b pos) (Hw r ta tb):=by
 intro bH s U H Q I h;exact Subscript_<|aax ha hb I h λv u s2 x y H2 I2 rx ry q=>hr a b bH s2 U H2 x y v u Q I2 rx ry q (hs _ _)
inductive Y5 (K:aN)(x:V)(y:V)(H:Hp)(Q:VK):Prop where
 |mk (p) (xs) (i) (v):(x=.ref p)->(y=.int i)->(dD K H p xs)->(Vf xs i=some v)->(Q v H)->Y5 K x y H Q
def VN (K:aN):R2:=Y5 K
inductive Y6 (K:aN)(x:V)(y:V)(H:Hp)(Q:VK):Prop where
 |mk (p) (xs) (i) (v):(x=.ref p)->(y=.int i)->(iM K H p xs)->(Vf xs i=some v)->(Q v H)->Y6 K x y H Q
def Np (K:aN):R2:=Y6 K
theorem VP:IxR X (VN X.K):=by
 intro value slice bH s U H x y v u Q I rx ry h hs;obtain⟨p,xs,i,z,rfl,rfl,hq,he,q⟩:=h;cases rx;obtain⟨t,rfl⟩:=ry;obtain⟨bh,r,pl,hz⟩:=I.list hq;obtain⟨j,h1,h2,h3,h4,h5⟩:=Ku he;obtain⟨w,ew,Q8⟩:=r.get h2;have hl:=r.length;have hn:=oU;have fin:EP X bH U Q w s:=⟨z,H,I,Q8,q⟩;by_cases h0:0<=i
 ·have hj:i.toNat=j:=by
   rw[seqIndex_of h0 h5]at h1;exact ahR h1
  exact item_listR pl.isList h0 (by omega) (by rw[hj];simpa using ew) fin hs
 ·have hj:(i+(bh.toArray.size:Int)).toNat=j:=by
   rw[seqIndex_neg (by omega) h4]at h1;rw[afG,<-hl];exact ahR h1
  exact subscriptTail_builtinR (x:=w) pl.isList.typeIs slot_list_getitem.lookup
   (wpAny_getItem_list_neg (Q:=λr s'=>r=w/\EP X bH U Q r s') pl.isList (by omega) (by rw[afG]<;>omega) (by omega) (by rw[hj];simpa using ew) ⟨rfl,fin⟩) hs
theorem aaG:IxR X (Np X.K):=by
 intro value slice bH s U H x y v u Q I rx ry h hs;obtain⟨p,xs,i,z,rfl,rfl,hq,he,q⟩:=h;cases rx;obtain⟨t,rfl⟩:=ry;obtain⟨bh,r,pl,hz⟩:=I.tuple hq;obtain⟨j,h1,h2,h3,h4,h5⟩:=Ku he;obtain⟨w,ew,Q8⟩:=r.get h2;have hl:=r.length;have hn:=oU;have fin:EP X bH U Q w s:=⟨z,H,I,Q8,q⟩;exact subscriptTail_builtinR (x:=w) pl.typeIs slot_tuple_getitem.lookup
  (getItem_tuple (j:=j) (Q:=λr s'=>r=w/\EP X bH U Q r s') pl (by omega) (by omega) (by rw[afG,<-hl];exact h1) (by simpa using ew) ⟨rfl,fin⟩) hs
theorem Ij (bh:aP ak)(n j:Nat)(u:ak):Obj.mapSeq (·.setIfInBounds j u) {cls:=.type "list",data:=.seq bh.toArray n}={cls:=.type "list",data:=.seq (bh.set j u).toArray n}:=by
 simp[Obj.mapSeq]
theorem Inv.lst {bH:aP (aj×Obj)}{U:St}{H:Hp}{s:ao}{p:aj}{xs:aP V}(I:Inv X bH U H s)(h:H p=some (.lst xs)):
  ∃(bh:aP ak) (n:Nat),Vals xs bh/\s.heap.get? p=some {cls:=.type "list",data:=.seq bh.toArray n}/\xs.length<=sizeLine:=by
 obtain⟨z,bh,n,r,e⟩:=I.hok p _ h;exact⟨bh,n,r,e,z⟩
theorem Inv.aaH {bH:aP (aj×Obj)}{U:St}{H:Hp}{s:ao}{p:aj}{xs ys:aP V}{bh its':aP ak}{n n':Nat}{f:Obj->Obj}(I:Inv X bH U H s)(h:H p=some (.lst xs))
  (ho:s.heap.get? p=some {cls:=.type "list",data:=.seq bh.toArray n}) (hf:f {cls:=.type "list",data:=.seq bh.toArray n}={cls:=.type "list",data:=.seq its'.toArray n'}) (r:Vals ys its') (hz:ys.length<=sizeLine) (t:Nat):
  Inv X bH U (upd H p<|.lst ys) {s with heap:=s.heap.update p f,toks:=t}:=by
 have e:(s.heap.update p f).get? p=some {cls:=.type "list",data:=.seq its'.toArray n'}:=by
  rw[af7 f ho (by rw[hf]<;>rfl),hf]
 refine I.write (x:=p) (e:=p) (by rw[h];trivial) (.inl rfl) (λb u hb q=>(af6 _ _<|ahO hb).trans q) ⟨_,e⟩ ?_;exact⟨hz,its',n',r,e⟩
inductive Q9 (o:V)(i:V)(v:V)(H:Hp)(Q:Hp->Prop):Prop where
 |mk (p) (xs) (k) (j):(o=.ref p)->(i=.int k)->(H p=some (.lst xs))->(VL xs.length k=some j)->(Q<|upd H p (.lst<|xs.set j v))->Q9 o i v H Q
def acK:V->V->V->Hp->(Hp->Prop)->Prop:=Q9
theorem set_list:acv X acK:=by
 intro bH s U H o i v ov iv u Q I ro ri rv h;obtain⟨p,xs,k,j,rfl,rfl,hp,hj,q⟩:=h;cases ro;obtain⟨t,rfl⟩:=ri;obtain⟨bh,n,r,ho,hz⟩:=I.lst hp;obtain⟨h1,h2,h3,h4⟩:=Ks hj;have hl:=r.length;have hn:=oU;have I':Inv X bH U (upd H p<|.lst (xs.set j v)) {s with heap:=s.heap.update p (Obj.mapSeq (·.setIfInBounds j u))} :=
  I.aaH hp ho (Ij bh n j u) (r.set rv j) (by rw[agY];exact hz) s.toks
 by_cases h0:0<=k
 ·have hk:k.toNat=j:=by
   rw[seqIndex_of h0 h4]at h1;exact ahR h1
  exact PySem.W.ki_setAt ho h0 (by omega) (by rw[afG,<-hl];exact h4) (by rw[hk];exact⟨_,I',q⟩)
 ·have hk:(k+(bh.toArray.size:Int)).toNat=j:=by
   rw[seqIndex_neg (by omega) h3]at h1;rw[afG,<-hl];exact ahR h1
  exact PySem.W.ki_setBack ho (by omega) (by rw[afG,<-hl];exact h3) (by omega) (by rw[hk];exact⟨_,I',q⟩)
noncomputable def uW:V->Bool
 |.non=>true
 |.bl _=>true
 |.int _=>true
 |.str _=>true
 |_=>false
noncomputable def Y7:V->V->Bool
 |.non, .non=>true
 |.bl a, .bl b=>a==b
 |.bl a, .int b=>(if a then 1 else 0)==b
 |.int a, .bl b=>a==(if b then 1 else 0)
 |.int a, .int b=>a==b
 |.str a, .str b=>a==b
 |_,_=>false
theorem aaI {A:aq}{s:ao}{y x:V}{u v:ak}(ry:RelV y u)(rx:RelV x v)(fy:uW y=true)(fx:uW x=true):SeqAt.EqAt A s u v (Y7 y x):=by
 cases y with
 |non=>
  cases ry;cases x with
  |non=>cases rx;exact SeqAt.EqAt.same _
  |bl b=>cases rx;exact SeqAt.EqAt.none_bool b
  |int b=>obtain⟨t,rfl⟩:=rx;exact SeqAt.EqAt.none_int b t
  |str b=>obtain⟨t,rfl⟩:=rx;exact SeqAt.EqAt.none_str b t
  |_=>exact absurd (show false=true from fx) afD
 |bl a=>
  cases ry;cases x with
  |non=>cases rx;exact SeqAt.EqAt.bool_none a
  |bl b=>cases rx;exact SeqAt.EqAt.bool_bool a b
  |int b=>obtain⟨t,rfl⟩:=rx;exact SeqAt.EqAt.bool_int a b t
  |str b=>obtain⟨t,rfl⟩:=rx;exact SeqAt.EqAt.bool_str a b t
  |_=>exact absurd (show false=true from fx) afD
 |int a=>
  obtain⟨t',rfl⟩:=ry;cases x with
  |non=>cases rx;exact SeqAt.EqAt.int_none a t'
  |bl b=>cases rx;exact SeqAt.EqAt.int_bool a t' b
  |int b=>obtain⟨t,rfl⟩:=rx;exact SeqAt.EqAt.int_int a t' b t
  |str b=>obtain⟨t,rfl⟩:=rx;exact SeqAt.EqAt.int_str a t' b t
  |_=>exact absurd (show false=true from fx) afD
 |str a=>
  obtain⟨t',rfl⟩:=ry;cases x with
  |non=>cases rx;exact SeqAt.EqAt.str_none a t'
  |bl b=>cases rx;exact SeqAt.EqAt.str_bool a t' b
  |int b=>obtain⟨t,rfl⟩:=rx;exact SeqAt.EqAt.str_int a t' b t
  |str b=>obtain⟨t,rfl⟩:=rx;exact SeqAt.EqAt.str_str a t' b t
  |_=>exact absurd (show false=true from fx) afD
 |_=>exact absurd (show false=true from fy) afD
noncomputable def V0 (x:V)(u:ak):Bool:=match u with
 |.none=>Y7 .non x
 |.bool b=>Y7 (.bl b) x
 |.int i _=>Y7 (.int i) x
 |.str z _=>Y7 (.str z) x
 |_=>false
theorem Ra {x y:V}{u:ak}(r:RelV y u)(f:uW y=true):V0 x u=Y7 y x:=by
 cases y with
 |non=>cases r;rfl
 |bl b=>cases r;rfl
 |int i=>obtain⟨t,rfl⟩:=r;rfl
 |str z=>obtain⟨t,rfl⟩:=r;rfl
 |_=>exact absurd (show false=true from f) afD
theorem Ky {x:V}{xs:List V}{us:List ak}(h:Vals xs us)(f:xs.all uW=true):us.any (V0 x)=xs.any λy=>Y7 y x:=by
 induction h with
 |nil=>rfl
 |cons r _ ih=>
  rw[List.all_cons,ags]at f;rw[agI,agI,Ra r f.1,ih f.2]
theorem Es {A:aq}{s:ao}{x:V}{v:ak}(rx:RelV x v)(fx:uW x=true){xs:List V}{us:List ak}(h:Vals xs us)(f:xs.all uW=true):∀u∈us,SeqAt.EqAt A s u v (V0 x u):=by
 induction h with
 |nil=>exact λu hu=>by cases hu
 |cons r _ ih=>
  intro u' hu;rw[List.all_cons,ags]at f;rcases afU.mp hu with rfl|hu
  ·rw[Ra r f.1];exact aaI r rx f.1 fx
  ·exact ih f.2 u' hu
noncomputable def inV (x:V)(xs:List V):Bool:=xs.any λy=>Y7 y x
inductive acL (K:aN)(neg:Bool)(x:V)(y:V)(H:Hp)(Q:VK):Prop where
 |mk (p) (xs):(y=.ref p)->((dD K H p xs\/iM K H p xs))->(uW x=true)->(xs.all uW=true)->(Q (.bl<|if neg then !inV x xs else inV x xs) H)->acL K neg x y H Q
def rIn (K:aN)(neg:Bool):R2:=acL K neg
theorem Nq:qW X (compareOp .In) (rIn X.K false):=by
 intro bH s U H x y v u Q I rx ry h;obtain⟨p,xs,rfl,hq,fx,fs,q⟩:=h;cases ry;rcases hq with hq|hq
 ·obtain⟨bh,r,pl,hz⟩:=I.list hq
  refine SeqAt.in_listAt (V0 x) pl.isList (λw hw=>Es rx fx r fs w<|by simpa using hw) ⟨.bl _,H,I,rfl,?_⟩;rw[show bh.toArray.any (V0 x)=bh.any (V0 x) by simp,Ky r fs];exact q
 ·obtain⟨bh,r,pl,hz⟩:=I.tuple hq
  refine SeqAt.in_tupleAt (V0 x) pl (λw hw=>Es rx fx r fs w<|by simpa using hw) ⟨.bl _,H,I,rfl,?_⟩;rw[show bh.toArray.any (V0 x)=bh.any (V0 x) by simp,Ky r fs];exact q
inductive lO (K:aN)(xs:List V)(H:Hp)(Q:VK):Prop where
 |mk (p) (ys):(xs=[.ref p])->((dD K H p ys\/iM K H p ys))->(Q (.int ys.length) H)->lO K xs H Q
theorem Br:jL X (.builtin "len") (lO X.K):=by
 intro bH s U H xs us Q I r h;obtain⟨p,ys,rfl,hq,q⟩:=h;obtain⟨u,rfl,rx⟩:=vals1 r;cases rx;have hn:=oU;rcases hq with hq|hq
 ·obtain⟨bh,r',pl,hz⟩:=I.list hq
  have jX:=r'.length;exact Calls.call_len_list pl.isList (by simp only[afG]<;>omega) ⟨.int ys.length,H,I.tok _,⟨s.toks+1,by rw[afG,jX]⟩,q⟩
 ·obtain⟨bh,r',pl,hz⟩:=I.tuple hq
  have jX:=r'.length;exact len_tuple pl (by simp only[afG]<;>omega) ⟨.int ys.length,H,I.tok _,⟨s.toks+1,by rw[afG,jX]⟩,q⟩
theorem Bs:jL X (.builtin "len") (λxs H Q=>∃z,xs=[.str z]/\z.length<=sizeLine/\Q (.int z.length) H):=by
 intro bH s U H xs us Q I r h;obtain⟨z,rfl,hz,q⟩:=h;obtain⟨u,rfl,t,rfl⟩:=vals1 r;have hn:=oU;exact len_str (by omega) ⟨.int z.length,H,I.tok _,⟨_,rfl⟩,q⟩
inductive lQ (K:aN)(xs:List V)(H:Hp)(Q:VK):Prop where
 |mk (p) (ys):(xs=[.ref p])->((dD K H p ys\/iM K H p ys))->(∀l,H l=none->Q (.ref l) (upd H l<|.lst ys))->lQ K xs H Q
theorem Bt:jL X (.type "list") (lQ X.K):=by
 intro bH s U H xs us Q I r h;obtain⟨p,ys,rfl,hq,q⟩:=h;obtain⟨u,rfl,rx⟩:=vals1 r;cases rx;have fin:∀(bh:aP ak),Vals ys bh->ys.length<=sizeLine->∀(h':aK) (c':Nat),(∀b o',s.heap.get? b=some o'->h'.get? b=some o')->
   h'.get? s.heap.objs.size=some {cls:=.type "list",dict:=none,data:=.seq bh.toArray c',slots:=#[]}->EP X bH U Q (.ref s.heap.objs.size) {s with heap:=h'}:=λbh r' hz h' c' kp e=>
  ⟨.ref s.heap.objs.size,_,I.laid (t':=s.toks) kp (afv _)<|show fQ X.prog X.w _ h' _ (.lst ys) from⟨hz,bh,c',r',e⟩,rfl,q _<|I.hok.fresh (afv _)⟩
 rcases hq with hq|hq
 ·obtain⟨bh,r',pl,hz⟩:=I.list hq
  have jX:=r'.length;obtain⟨o,ho,hc,n,hd⟩:=pl.isList;exact call_list_seq p (.inl rfl) ho hc hd (λh' c' kp e=>fin bh r' hz h' c' kp e) (by simp only[afG]<;>omega)
 ·obtain⟨bh,r',pl,hz⟩:=I.tuple hq
  have jX:=r'.length;obtain⟨o,ho,hc,n,hd⟩:=pl;exact call_list_seq p (.inr rfl) ho hc hd (λh' c' kp e=>fin bh r' hz h' c' kp e) (by simp only[afG]<;>omega)
inductive kY (K:aN)(xs:List V)(H:Hp)(Q:VK):Prop where
 |mk (p) (ys):(xs=[.ref p])->(((dD K H p ys/\∀l,H l=none->Q (.ref l) (upd H l<|.tup ys))\/(iM K H p ys/\Q (.ref p) H)))->kY K xs H Q
theorem zc:jL X (.type "tuple") (kY X.K):=by
 intro bH s U H xs us Q I r h;obtain⟨p,ys,rfl,h⟩:=h;obtain⟨u,rfl,rx⟩:=vals1 r;cases rx;rcases h with ⟨hq,q⟩|⟨hq,q⟩
 ·obtain⟨bh,r',pl,hz⟩:=I.list hq
  have jX:=r'.length;refine call_tuple_list pl.isList (λh' kp=>?_) (by simp only[afG]<;>omega);have I1:Inv X bH U H {s with heap:=h'}:=I.kept (t':=s.toks) kp;have I2:Inv X bH U (upd H h'.objs.size<|.tup ys) {s with heap:=h'.push {cls:=.type "tuple",data:=.seq bh.toArray}} :=
   I1.laid (t':=s.toks) (λb o e=>afx _ e) (afv _) (show fQ X.prog X.w _ _ _ (.tup ys) from⟨hz,bh,r',IsTup.new _ _⟩)
  exact⟨.ref h'.objs.size,_,I2,rfl,q _<|I1.hok.fresh (afv _)⟩
 ·obtain⟨bh,r',pl,hz⟩:=I.tuple hq
  exact call_tuple_same pl ⟨.ref p,H,I,rfl,q⟩
def tyV (K:aN)(T:String)(x:V)(H:Hp):Prop:=match x with
 |.str _=>T="str"
 |.int _=>T="int"
 |.ref p=>(T="list"/\∃xs,dD K H p xs)\/(T="tuple"/\∃o,K.lookup p=some o/\o.cls=.type "tuple"/\o.dict=none)\/
   (T="dict"/\((∃cI,H p=some (.dK cI))\/∃cI,H p=some (.dT cI)))\/(T="set"/\∃S n,H p=some (.set S n))
 |_=>False
theorem Rb {bH:List (aj×Obj)}{U:St}{H:Hp}{s:ao}{T:String}{x:V}{v:ak}(I:Inv X bH U H s)(r:RelV x v)(ty:tyV X.K T x H):
  s.TypeIs v T/\∀a,v=.ref a->∃ob,s.heap.get? a=some ob/\ob.dict=none:=by
 cases x with
 |str z=>
  obtain⟨t,rfl⟩:=r;cases(show T="str" from ty);exact⟨typeIs_str s z t,λ_ e=>nomatch e⟩
 |int i=>
  obtain⟨t,rfl⟩:=r;cases(show T="int" from ty);exact⟨typeIs_int s i t,λ_ e=>nomatch e⟩
 |ref p=>
  cases r;rcases ty with ⟨rfl,xs,hq⟩|⟨rfl,o,hk,hc,hd⟩|⟨rfl,hk⟩|⟨rfl,S,n,hk⟩
  ·obtain⟨bh,_,pl,_⟩:=I.list hq
   refine⟨pl.isList.typeIs,λa e=>?_⟩;cases e;obtain⟨o,n,e,c,hd,_⟩:=pl;exact⟨o,e,hd⟩
  ·refine⟨⟨o,I.qU p o hk,hc⟩,λa e=>?_⟩
   cases e;exact⟨o,I.qU _ o hk,hd⟩
  ·have z:∃o,s.heap.get? p=some o/\o.ExactDict:=by
    rcases hk with ⟨cI,hk⟩|⟨cI,hk⟩
    ·obtain⟨_,_,_,_,o,_,_,e,ex,_⟩:=I.hok p _ hk
     exact⟨o,e,ex⟩
    ·obtain⟨_,_,_,_,o,_,_,e,ex,_⟩:=I.hok p _ hk
     exact⟨o,e,ex⟩
   obtain⟨o,e,ex⟩:=z;refine⟨⟨o,e,ex.1⟩,λa e2=>?_⟩;cases e2;exact⟨o,e,ex.2.1⟩
  ·obtain⟨o,_,_,_,e,ex,_⟩:=I.hok p _ hk
   refine⟨⟨o,e,ex.1⟩,λa e2=>?_⟩;cases e2;exact⟨o,e,ex.2.1⟩
 |_=>exact ahT ty
inductive Y8 (K:aN)(T:String)(r:V->List V->Hp->VK->Prop)(Q:VK)(x:V)(H1:Hp):Prop where
 |mk:(tyV K T x H1)->(r x [] H1 Q)->Y8 K T r Q x H1
def acM (K:aN)(T:String)(r:V->List V->Hp->VK->Prop)(to:TE):TE:=λU H Q=>to U H (Y8 K T r Q)
inductive acN (K:aN)(T:String)(r:V->List V->Hp->VK->Prop)(t:TA)(U:St)(Q:VK)(x:V)(H1:Hp):Prop where
 |mk:(tyV K T x H1)->(t U H1 λxs H2=>r x xs H2 Q)->acN K T r t U Q x H1
def tBM (K:aN)(T:String)(r:V->List V->Hp->VK->Prop)(to:TE)(t:TA):TE:=λU H Q=>to U H (acN K T r t U Q)
variable {o e:aH}{es:List aH}{to:TE}{t:TA}{name:Str}{nM jg:Pos}{T id:String}{r:V->List V->Hp->VK->Prop}
theorem Rc (pa:PlainAttrs T)(slot:Slot T name id)(hty:typeOf (.builtin id)=pure (.type "method_descriptor"))(hm:MtR X id r)(ho:PE X o to)
  (pW:attributeBase o name X.env (eval o X.env)=eval o X.env:=by rfl) (hline:(nM.endLine==jg.line)=true:=by rfl):PE X (.Call (.Attribute o name nM) [] [] jg) (acM X.K T r to):=by
 intro bH s U H Q I h;refine wpAny_Call_method0_late pW hline<|gk (ho bH s U H _ I h) λv s1 ⟨x,H1,I1,r1,ty,q1⟩=>?_;obtain⟨h1,h2⟩:=Rb I1 r1 ty;exact⟨T,id,pa,slot,hty,h1,h2,Calls.callWith_builtin rfl (PySem.evalArgs_none<|hm bH s1 U H1 x [] v [] Q I1 r1 .nil q1)⟩
theorem wW (pa:PlainAttrs T)(slot:Slot T name id)(hty:typeOf (.builtin id)=pure (.type "method_descriptor"))(hm:MtR X id r)(ho:PE X o to)(ha:PA X (e::es) t)
  (pW:attributeBase o name X.env (eval o X.env)=eval o X.env:=by rfl)
  (hfew:((backTo jg<|starEach (e::es) X.env).all (λx=>!x.1)&&(backToKw jg<|keywordEach [] X.env).all (λx=>x.1.isSome)
   &&decide ((e::es).length+([]:aP Keyword).length+(if([]:aP Keyword).isEmpty then 0 else 1)<30))=true:=by rfl)
  (hline:(nM.endLine==jg.line)=true:=by rfl) (hs:starEach (e::es) X.env=(false,eval e X.env)::starEach es X.env:=by rfl) (hplain:(backTo jg<|starEach es X.env).any (·.1)=false:=by rfl):
  PE X (.Call (.Attribute o name nM) (e::es) [] jg) (tBM X.K T r to t):=by
 intro bH s U H Q I h;refine wpAny_Call_method_late pW hfew hline rfl (gk (ho bH s U H _ I h) λv s1 ⟨x,H1,I1,r1,ty,q1⟩=>?_);obtain⟨h1,h2⟩:=Rb I1 r1 ty;refine⟨T,id,pa,slot,hty,h1,h2,?_⟩;have hA:=ha jg bH s1 U H1 _ I1 q1;rw[hs]at hA ⊢;refine Calls.callWith_builtin (by show(false||(backTo jg<|starEach es X.env).any (·.1))=false;rw[hplain]<;>rfl)<|Calls.evalArgs_plain ?_;exact gk hA λus s2 ⟨vs,H2,I2,r2,q2⟩=>hm bH s2 U H2 x vs v us Q I2 r1 r2 q2
end
def Y9 (X:Cx)(id:String)(r:V->List V->Hp->VK->Prop):Prop :=
 ∀(bH:List (aj×Obj)) (s:ao) (U:St) (H:Hp) (x:V) (xs:List V) (v:ak) (us:List ak) (Q:VK),Inv X bH U H s->RelV x v->Vals xs us->r x xs H Q->
  wpAny (model X.prog X.w) X.A (call (.builtin id) (v::us)) (EP X bH U Q) X.xe s
theorem Vals.one {x:V}{us:List ak}(h:Vals [x] us):∃u,us=[u]/\RelV x u:=by
 cases h with
 |cons r t=>cases t;exact⟨_,rfl,r⟩
theorem Vals.zero:∀{us:List ak},Vals [] us->us=[]
 |_, .nil=>rfl
theorem Vals.dropLast {xs:List V}{us:List ak}(h:Vals xs us):Vals xs.dropLast us.dropLast:=by
 induction h with
 |nil=>exact .nil
 |cons r t ih=>
  cases t with
  |nil=>exact .nil
  |cons q t'=>exact .cons r ih
theorem Vals.reverse {xs:List V}{us:List ak}(h:Vals xs us):Vals xs.reverse us.reverse:=by
 induction h with
 |nil=>exact .nil
 |cons r t ih=>rw[agJ,agJ];exact Vals.append ih<|.cons r .nil
theorem Vals.rep {xs:List V}{us:List ak}(h:Vals xs us):∀k:Nat,Vals (List.replicate k xs).flatten (List.replicate k us).flatten
 |0=>.nil
 |k+1=>by
  rw[agO,agO,ag6,ag6];exact Vals.append h<|Vals.rep h k
theorem Ik {α:Type}(l:List α):l.eraseIdx (l.length-1)=l.dropLast:=by
 induction l with
 |nil=>rfl
 |cons a r ih=>
  cases r with
  |nil=>rfl
  |cons b r=>
   have e:(a::b::r).length-1=((b::r).length-1)+1:=by
    have h1:(a::b::r).length=r.length+2:=rfl;have h2:(b::r).length=r.length+1:=rfl;exact rfl
   rw[e,List.eraseIdx_cons_succ,ih]
   all_goals rfl
theorem foldl_rep (bh:List ak):∀(k:Nat) (iR:List ak),
  List.foldl (λx1 x2=>x1++x2) iR.toArray (List.replicate k bh.toArray)=(iR++(List.replicate k bh).flatten).toArray
 |0,iR=>by simp
 |k+1,iR=>by
  have e:iR.toArray++bh.toArray=(iR++bh).toArray:=by simp
  have e2:(iR++bh)++(List.replicate k bh).flatten=iR++(List.replicate (k+1) bh).flatten:=by
   rw[agO,ag6,afM]
  rw[<-e2,<-foldl_rep bh k (iR++bh),<-e,agO,ahd]
section
variable {X:Cx}{bH:List (aj×Obj)}{U:St}{H:Hp}{s:ao}{l b:aj}{xs ys zs:List V}
theorem Inv.Rf {bh its':aP ak}{n:Nat}{f:Array ak->Array ak}{t':Nat}(I:Inv X bH U H s)(hH:H l=some (.lst xs))
  (e:s.heap.get? l=some {cls:=.type "list",data:=.seq bh.toArray n}) (hf:f bh.toArray=its'.toArray) (hv:Vals ys its') (hz:ys.length<=sizeLine):
  Inv X bH U (upd H l<|.lst ys) {s with heap:=s.heap.update l<|Obj.mapSeq f,toks:=t'}:=by
 have q:=PySem.IsL.update e f;rw[hf]at q;refine I.write (x:=l) (e:=l) (by rw[hH];exact trivial) (.inl rfl) (λb' u hb hu=>(af6 s.heap (Obj.mapSeq f)<|ahO hb).trans hu) ⟨_,q⟩ ?_;exact⟨hz,its',_,hv,q⟩
theorem Inv.acO {bh:aP ak}{t':Nat}(I:Inv X bH U H s)(hv:Vals ys bh)(hz:ys.length<=sizeLine):
  Inv X bH U (upd H s.heap.objs.size<|.lst ys) {s with heap:=s.heap.push {cls:=.type "list",data:=.seq bh.toArray},toks:=t'} :=
 I.laid (λ_ _ q=>afx _ q) (afv _) ⟨hz,bh,0,hv,afK _ rfl⟩
theorem Inv.fresh (I:Inv X bH U H s):H s.heap.objs.size=none:=I.hok.fresh (afv _)
theorem Inv.uG (I:Inv X bH U H s)(hH:H l=some (.lst xs)):xs.length<=sizeLine/\∃(bh:aP ak) (n:Nat),Vals xs bh/\xs.length=bh.length/\s.heap.get? l=some {cls:=.type "list",data:=.seq bh.toArray n}:=by
 obtain⟨z,bh,n,r,e⟩:=I.hok l _ hH;exact⟨z,bh,n,r,r.length,e⟩
theorem wX {n:Nat}(h:n<=sizeLine):Builtin.List.listTooLong n=false:=by
 unfold Builtin.List.listTooLong;exact ahJ (by exact Nat.not_lt.mpr h)
end
section
variable {X:Cx}
inductive Et (x:V)(vs:List V)(H:Hp)(Q:VK):Prop where
 |mk (l) (xs) (y):(x=.ref l)->(vs=[y])->(H l=some (.lst xs))->(xs.length<sizeLine)->(Q .non<|upd H l (.lst<|xs++[y]))->Et x vs H Q
def Bu:V->List V->Hp->VK->Prop:=Et
theorem Nr:Y9 X "list.append" Bu:=by
 intro bH s U H x vs v us Q I rx rv h;obtain⟨l,xs,y,rfl,rfl,hH,hz,q⟩:=h;cases rx;obtain⟨u,rfl,ru⟩:=rv.one;obtain⟨z,bh,n,r,hl,e⟩:=I.uG hH;refine call_meets F.slot_list_append ⟨_,e,rfl⟩ F.entry_list_append (F.args_list_append_2 _ _) (PySem.list_append l bh.toArray n u<|by rw[afG];omega) ⟨e,?_⟩;refine⟨.non,_,I.Rf (its':=bh++[u]) hH e (by simp) (r.append<|.cons ru .nil) ?_,rfl,q⟩;rw[afu,afz];exact hz
inductive Eu (x:V)(vs:List V)(H:Hp)(Q:VK):Prop where
 |mk (l) (b) (xs) (zs):(x=.ref l)->(vs=[.ref b])->(H l=some (.lst xs))->(H b=some (.lst zs))->(xs.length+zs.length<=sizeLine)->(Q .non<|upd H l (.lst<|xs++zs))->Eu x vs H Q
def V1:V->List V->Hp->VK->Prop:=Eu
theorem Nt:Y9 X "list.extend" V1:=by
 intro bH s U H x vs v us Q I rx rv h;obtain⟨l,b,xs,zs,rfl,rfl,hH,hB,hz,q⟩:=h;cases rx;obtain⟨u,rfl,ru⟩:=rv.one;cases ru;obtain⟨z,bh,n,r,hl,e⟩:=I.uG hH;obtain⟨z2,iQ,n2,r2,hl2,e2⟩:=I.uG hB;have hsz:bh.toArray.size+iQ.toArray.size<=sizeLine:=by rw[afG,afG];omega
 have Ew:¬(!bh.toArray.isEmpty&&Builtin.List.listTooLong (bh.toArray.size+iQ.toArray.size))=true:=by
  rw[wX hsz,Bool.and_false];exact afD
 refine call_meets F.slot_list_extend ⟨_,e,rfl⟩ F.entry_list_extend (F.args_list_extend_2 _ _)
  (AutoSeq1.list_extend_list_list_0 l bh.toArray n b iQ.toArray n2 Ew (by rw[afG];exact afy (afF _ _) hsz)<|by exact aga hsz) ⟨e,e2,?_⟩
 refine⟨.non,_,I.Rf (its':=bh++iQ) hH e (by simp) (r.append r2) ?_,rfl,q⟩;rw[afu];exact hz
inductive Za (x:V)(vs:List V)(H:Hp)(Q:VK):Prop where
 |mk (l) (xs) (y):(x=.ref l)->(vs=[])->(H l=some (.lst xs))->(xs[xs.length-1]?=some y)->(Q y<|upd H l (.lst xs.dropLast))->Za x vs H Q
def acP:V->List V->Hp->VK->Prop:=Za
theorem aaJ:Y9 X "list.pop" acP:=by
 intro bH s U H x vs v us Q I rx rv h;obtain⟨l,xs,y,rfl,rfl,hH,hy,q⟩:=h;cases rx;have hus:=rv.zero;subst hus;obtain⟨z,bh,n,r,hl,e⟩:=I.uG hH;obtain⟨u,hu,ru⟩:=r.get hy;have hy':bh.toArray[bh.toArray.size-1]?=some u:=by
  show bh.toArray[bh.length-1]?=some u;rw[<-Array.getElem?_toList,<-hl];exact hu
 refine call_meets F.slot_list_pop ⟨_,e,rfl⟩ F.entry_list_pop (F.args_list_pop_1 _) (MeetsSeq.list_pop_last l bh.toArray n u hy'<|by rw[afG];omega) ⟨e,?_⟩;refine⟨y,_,I.Rf (its':=bh.dropLast) hH e ?_ r.dropLast ?_,ru,q⟩
 ·show bh.toArray.eraseIdxIfInBounds (bh.toArray.size-1)=bh.dropLast.toArray
  rw[afG,List.eraseIdxIfInBounds_toArray,Ik]
 ·rw[List.length_dropLast]
  omega
inductive zO (x:V)(vs:List V)(H:Hp)(Q:VK):Prop where
 |mk (l) (xs):(x=.ref l)->(vs=[])->(H l=some (.lst xs))->(Q .non<|upd H l (.lst xs.reverse))->zO x vs H Q
def Rg:V->List V->Hp->VK->Prop:=zO
theorem Il:Y9 X "list.reverse" Rg:=by
 intro bH s U H x vs v us Q I rx rv h;obtain⟨l,xs,rfl,rfl,hH,q⟩:=h;cases rx;have hus:=rv.zero;subst hus;obtain⟨z,bh,n,r,hl,e⟩:=I.uG hH;refine call_meets F.slot_list_reverse ⟨_,e,rfl⟩ F.entry_list_reverse (F.args_list_reverse_1 _) (AutoSeq1.list_reverse_list_0 l bh.toArray n<|by rw[afG];omega) ⟨e,?_⟩;refine⟨.non,_,I.Rf (its':=bh.reverse) hH e (by simp) r.reverse ?_,rfl,q⟩;rw[agf];exact z
inductive Zb (x:V)(y:V)(H:Hp)(Q:VK):Prop where
 |mk (l) (b) (xs) (zs):(x=.ref l)->(y=.ref b)->(H l=some (.lst xs))->(H b=some (.lst zs))->(xs.length+zs.length<=sizeLine)->(∀p,H p=none->Q (.ref p) (upd H p<|.lst (xs++zs)))->Zb x y H Q
def acQ:R2:=Zb
theorem lU:qW X (binaryOp .Add) acQ:=by
 intro bH s U H x y v u Q I rx ry h;obtain⟨l,b,xs,zs,rfl,rfl,hH,hB,hz,q⟩:=h;cases rx;cases ry;obtain⟨z,bh,n,r,hl,e⟩:=I.uG hH;obtain⟨z2,iQ,n2,r2,hl2,e2⟩:=I.uG hB;refine PySem.P.add_list e e2 ?_ (by rw[afG,afG];omega);have ea:bh.toArray++iQ.toArray=(bh++iQ).toArray:=by simp
 rw[ea];exact⟨.ref _,_,I.acO (t':=s.toks) (r.append r2) (by rw[afu];exact hz),rfl,q _ I.fresh⟩
inductive Zc (x:V)(y:V)(H:Hp)(Q:VK):Prop where
 |mk (l) (k) (xs):(x=.ref l)->(y=.int k)->(H l=some (.lst xs))->(-(2^63)<=k)->(k<2^63)->(xs.length*k.toNat<=sizeLine)->(∀p,H p=none->Q (.ref p) (upd H p<|.lst (List.replicate k.toNat xs).flatten))->Zc x y H Q
def aeg:R2:=Zc
theorem len_rep {α:Type}(xs:List α)(k:Nat):(List.replicate k xs).flatten.length=k*xs.length:=by
 induction k with
 |zero=>simp
 |succ k ih=>rw[agO,ag6,afu,ih,Nat.succ_mul,Nat.add_comm]
theorem aaK:qW X (binaryOp .Mult) aeg:=by
 intro bH s U H x y v u Q I rx ry h;obtain⟨l,k,xs,rfl,rfl,hH,h1,h2,hz,q⟩:=h;cases rx;obtain⟨t,rfl⟩:=ry;obtain⟨z,bh,n,r,hl,e⟩:=I.uG hH;have jX:bh.toArray.size*k.toNat<=sizeLine:=by rw[afG,<-hl];exact hz
 have hcap:¬bh.toArray.size*k.toNat>(2^63-1) / 8:=by
  have:(sizeLine:Nat)<=(2^63-1) / 8:=by decide
  omega
 have hfit:¬(!Builtin.List.listFitsIndex k)=true:=by
  rw[fitsIndex_both h1 h2];exact afD
 have Ew:¬Builtin.List.listTooLong (bh.toArray.size*k.toNat)=true:=by
  rw[wX jX];exact afD
 have hnew:List.foldl (λx1 x2=>x1++x2) #[] (List.replicate (if bh.toArray.isEmpty=true then 0 else k.toNat) bh.toArray)=(List.replicate k.toNat bh).flatten.toArray:=by
  have f0:∀m:Nat,List.foldl (λx1 x2=>x1++x2) #[] (List.replicate m bh.toArray)=(List.replicate m bh).flatten.toArray:=λm=>by
   have:=foldl_rep bh m [];rw[agQ]at this;exact this
  rw[f0];cases bh with
  |nil=>simp
  |cons a r'=>rw[ahL (by simp)]
 refine wpAny_binaryOp_repeat_ref (T:="list") (U:="int") (by decide) ⟨_,e,rfl⟩ (λs'=>typeIs_int s' k t) noFill_list_mul F.fills_int_mul F.slot_int_rmul repeat_list F.slot_int_index.lookup
  (call_meets F.slot_int_rmul (typeIs_int s k t) F.entry_int_rmul (F.args_int_rmul_2 _ _) (int___rmul___int_list k t l bh.toArray n)
   ⟨e,rfl,⟨_,e,rfl⟩,call_meets F.slot_list_mul ⟨_,e,rfl⟩ F.entry_list_mul (F.args_list_mul_2 _ _) (AutoListH.list___mul___list_int_3 l bh.toArray n k t hfit hcap Ew) ⟨e,?_⟩⟩)
 rw[hnew];exact⟨.ref _,_,I.acO (t':=s.toks) (r.rep k.toNat) (by rw[len_rep,Nat.mul_comm];exact hz),rfl,q _ I.fresh⟩
end
section
variable {prog:aA}{w:aG}{A:aq}{E:ak->ao->Prop}{s:ao}
end
section
variable {X:Cx}
end
end L2
namespace Att
open PySem PySem.W PySem.Calls PyProof.Rows
theorem vI {P:Params}{h:aK}:∀(ns:List Int) (vs:List ak),WellAll P h vs (ns.map WData.int)->IntsAre vs ns:=by
 intro ns
 induction ns with
 |nil=>
  intro vs w;rw[ahw]at w;cases w;exact .nil
 |cons n ns ih=>
  intro vs w;rw[afW]at w;cases w with
  |cons a b=>
   cases a;exact .cons _ _<|ih _ b
theorem Nu {l:OpenLaw}{n:Nat}(hn:l.most=some n){P:Params}{h:aK}{args:List WData}{vals:List ak}
  (hpre:l.row.toRowW.claim.pre args=true) (hwl:WellAll P h vals args):
  ∃a vs ns,vals=[Value.ref a]/\args=[WData.list (ns.map WData.int)]/\h.get? a=some {cls:=.type "list",data:=.seq vs.toArray}/\IntsAre vs ns/\ns.length<=n:=by
 have hsh:WShape.hasAll [] args [.list .int]=true:=(pre_splitW hpre).1;have hc:l.pre.holds [] {args:=args}=true:=(pre_splitW hpre).2;obtain⟨d,r,rfl,h1,h2⟩:=hasAllW_cons hsh;obtain rfl:=hasAllW_nil h2;obtain⟨xs,rfl,h3⟩:=hasW_list h1;obtain⟨ns,rfl⟩:=items_int h3;have jX:ns.length<=n:=by
  unfold OpenLaw.pre at hc;have h4:(WTm.not<|.lt (.lit<|.int (n:Int)) (.len<|.arg 0)).holds [] {args:=[.list (ns.map .int)]}=true:=by
   have h4:=(holds_andW hc).1;rw[hn]at h4;exact h4
  have h5:=condW_of h4 (w_not<|w_lt w_lit (w_len_list<|w_arg rfl));rw[afL]at h5;refine Nat.le_of_not_lt λq=>?_;have q':(n:Int)<((ns.length:Nat):Int):=by omega
  first
   |(rw[ahN q']at h5;exact absurd h5<|by decide)
   |(simp at h5;omega)
 cases hwl with
 |cons w1 w2=>
  cases w2;cases w1 with
  |list ho hall=>exact⟨_,_,ns,rfl,rfl,ho,vI ns _ hall,jX⟩
theorem Nv (l:OpenLaw)(args:aP WData):l.row.toRowW.claim.post args (.bool true) args=true :=
 postW_of (r:=l.row.toRowW) (X:=(true==true))
  (show WShape.has [] (.bool true) .bool=true by first|rfl|decide|simp[WShape.has,WShape.arms,WShape.armsAll])
  (show(WTm.eq .res<|.lit (.bool true)).value [] {args:=args,res:=some<|.bool true,after:=args}=some (.bool<|true==true) from w_eq_bool (w_res rfl) w_lit) rfl
theorem Ey {l:OpenLaw}{n:Nat}{q:aA}{loose:aP Str}{XP:(Str->aO ak)->aK->Prop}{YP:aG->aK->Prop}{d:DefRec}
  (hn:l.most=some n) (hdf:d.params.defaults=[])
  (call:∀(w:aG) (s₀ eF:ao) (mg mb:Str->aO ak) (fa:aj) (o:Obj) (pm cd nF:ak) (a:aj) (vs:aP ak) (ns:aP Int),
   Ground q loose [] XP w s₀ mg mb eF.heap->YP w eF.heap->
   eF.heap.get? fa=some o->o.data=.func (docDef d.name d.params d.body d.scope pm cd nF)->eF.heap.CodeRec cd d.name->mg d.name=some (.ref fa)->
   eF.heap.get? a=some {cls:=.type "list",data:=.seq vs.toArray}->IntsAre vs ns->ns.length<=n->eF.gens=#[]->
   codeAny (model l.prog w) callerA (.call (.ref fa) ⟨[.ref a],[]⟩) (λr s'=>r=.ok (.ret<|.bool true)/\OldK eF.heap s'.heap/\s'.os=eF.os/\AllBare s'.gens) eF):
  WalkO q loose XP YP l.row.toRowW d [] (λf vs=>PySem.call f vs):=by
 intro w s₀ eF mg mb G Y fa o pm cd nF dV kV ho hd yX hD hmg hg args vals as hpre hlay hrd hwl qX;obtain rfl:dV=.none:=Dflts.none hD hdf;obtain rfl:kV=.none:=Dflts.noKw hD;obtain⟨a,vs,ns,rfl,rfl,hobj,hints,jX⟩:=Nu hn hpre hwl;refine enter_call<|codeAny_mono (call w s₀ eF mg mb fa o pm cd nF a vs ns G Y ho (fd_plain hd) yX hmg hobj hints jX hg) λr s' hq=>?_;obtain⟨rfl,h2,h3,h4⟩:=hq;exact⟨.inl ⟨.bool true, .bool true,[],rfl,λ_=>rfl, .bool true,Nv l _,λ_=>⟨List.Pairwise.nil,λ_ hm=>(nomatch hm)⟩⟩,h2,h3,h4⟩
section
variable {prog:aA}{w:aG}{A:aq}{E:ak->ao->Prop}{s:ao}{K:aN}
end
end Att
namespace L2
theorem zP:∀{vs:List ak} {ns:List Int},IntsAre vs ns->Vals (ns.map V.int) vs
 |_,_, .nil=>.nil
 |_,_, .cons n t h=>.cons ⟨t,rfl⟩ (zP h)
def Only (H:Hp):Prop:=∀b,H b=none\/∃o xs,H b=some (.Hx o<|.lst xs)
theorem Rh {P:aA}{w:aG}{K:aN}{mg mb:Str->Option ak}{CX:Km}{k:Nat}{fa a:aj}{fd:FuncData}{x:Str}{sp:Sp}{eF:ao}{vs:List ak}{ns:List Int}
  (KX:K.In eF.heap) (hns:eF.heap.Ns mainGlobals mg) (hb:eF.heap.Ns builtinsNs mb) (hbb:∀x:Str,x≠"__name__"->mb x=bootBuiltins x) (hlim:eF.heap.NoLimit) (hg:eF.gens=#[])
  (ha:eF.heap.get? a=some {cls:=.type "list",data:=.seq vs.toArray}) (hi:IntsAre vs ns) (hl:ns.length<=sizeLine) (hr:gK k callerA)
  (F:∀aV:aK,K.In aV->aV.Ns mainGlobals mg->cX P w K mg aV CX k fa fd [x] sp) (hbind:∀(s:ao) (u:ak),BindsTo s fd ⟨[u],[]⟩ [(x,u)])
  (hsp:∀H:Hp,Only H->dD K H a (ns.map V.int)->sp [.ref a] H (λv _=>v=.bl true) λ_ _ _=>False)
  (hCX:∀H e s',CX [] H eF (λ_ _ _=>False) e s'->False):
  codeAny (model P w) callerA (.call (.ref fa) ⟨[.ref a],[]⟩) (λr s'=>r=.ok (.ret<|.bool true)/\OldK eF.heap s'.heap/\s'.os=eF.os/\AllBare s'.gens) eF:=by
 have rv:=zP hi;have lenV:=hi.length;have core:∀H:Hp,Only H->dD K H a (ns.map V.int)->mj P w H eF.heap->(∀b,H b≠none->b=a)->(H a≠none->K.lookup a=none)->
   codeAny (model P w) callerA (.call (.ref fa) ⟨[.ref a],[]⟩) (λr s'=>r=.ok (.ret<|.bool true)/\OldK eF.heap s'.heap/\s'.os=eF.os/\AllBare s'.gens) eF:=by
  intro H hO hS hok hA hK;have Kz:∀{b:aj} {o:Obj},eF.heap.get? b=some o->H b=none->(Bo eF.heap H).get? b=some o:=λe n=>Qt e n;have noA:∀{b:aj} {o:Obj} {es:Array DictEntry} {ep:Nat},eF.heap.get? b=some o->o.data=.dict es ep->H b=none:=λ{b o es ep} e d=>by
   cases q:H b with
   |none=>rfl
   |some u=>
    have e':b=a:=hA b (by rw[q];simp);subst e';rw[ha]at e;cases e;have d':Data.seq vs.toArray _=Data.dict es ep:=d;cases d'
  have nsK:∀{b:aj} {m:Str->Option ak},eF.heap.Ns b m->(Bo eF.heap H).Ns b m:=λ{b m} ⟨o,es,ep,e,d,r⟩=>⟨o,es,ep,Kz e<|noA e d,d,r⟩;have hKb:K.In (Bo eF.heap H):=λb o e=>Kz (KX b o e) (by
   cases q:H b with
   |none=>rfl
   |some u=>
    have e':b=a:=hA b (by rw[q];simp);subst e';rw[hK (by rw[q];simp)]at e;cases e)
  have hM:Mod K mg (Bo eF.heap H):=⟨hKb,nsK hns,⟨mb,nsK hb,hbb⟩,let ⟨mc,h1,h2⟩:=hlim;⟨mc,nsK h1,h2⟩⟩;have e0:yZ P w K mg (Bo eF.heap H) callerA [] eF H:=⟨rfl,hM,λb o e=>Vo e,agy<|MK _ _,trivial,λb hb=>absurd (show b∈([]:List aj) from hb) (by simp),hok, .of_eq hg⟩;refine codeAny_mono ((F _ hKb<|nsK hns).run callerA [] eF H ⟨[.ref a],[]⟩ [.ref a] [.ref a] _ _ hr e0 (hbind eF<|.ref a) (.cons rfl .nil) (hsp H hO hS)) λr s' h=>?_;cases r with
  |error e=>exact(hCX H e s' h).elim
  |ok fl=>
   cases fl with
   |next=>exact ahT h
   |brk=>exact ahT h
   |cont=>exact ahT h
   |ret u=>
    obtain⟨v,H',os,bare,un,hok',r',q⟩:=h;have q':v=.bl true:=q;subst q';obtain rfl:u=Value.bool true:=r';refine⟨rfl,OldK.of_keep λb o e=>?_,os,bare⟩;cases q:H b with
    |none=>exact un.keep b o e q (by intro z;exact absurd (show b∈([]:List aj) from z)<|by simp) (by simp)
    |some u=>
     rcases hO b with z|⟨ob,xs,z⟩
     ·rw[q]at z;cases z
     ·have z2:=un.sE b ob _ z
      obtain⟨e1,_⟩:=hok b _ z;obtain⟨e2,_⟩:=hok' b _ z2;rw[e]at e1;cases e1;exact e2
 cases hk:K.lookup a with
 |some o=>
  have e:=KX a o hk;rw[ha]at e;cases e;refine core (λ_=>none) (λ_=>.inl rfl) (.inr ⟨_,vs.toArray,_,hk,rfl,rfl,rfl,by rw[afG,lenV];exact hl,by simpa using rv⟩) (λb u z=>by have z':(none:Option HO)=some u:=z;cases z') (λb z=>absurd rfl z) λz=>absurd rfl z
 |none=>
  refine core (λb=>if b=a then some (.Hx {cls:=.type "list",data:=.seq vs.toArray} (.lst<|ns.map V.int)) else none) (λb=>?_) (.inl<|.inr ⟨{cls:=.type "list",data:=.seq vs.toArray},ahK rfl⟩) (λb u z=>?_) (λb z=>?_) λ_=>hk
  ·by_cases hb:b=a
   ·exact .inr ⟨_,_,ahK hb⟩
   ·exact .inl<|ahL hb
  ·by_cases hb:b=a
   ·have z':=(ahK hb).symm.trans z
    cases z';subst hb;exact⟨ha,by rw[afL];exact hl,vs,_,rv,ha⟩
   ·have z':=(ahL hb).symm.trans z
    cases z'
  ·by_cases hb:b=a
   ·exact hb
   ·exact absurd (ahL hb) z
theorem V2 {l:PySem.W.OpenLaw}{n k:Nat}{q:aA}{loose:aP Str}{XP:(Str->aO ak)->aK->Prop}{YP:aG->aK->Prop}{d:DefRec}{K:Params->aN}{CX:aG->Km}{sp:aG->Sp}{x:Str}
  (hn:l.most=some n) (hn2:n<=sizeLine) (hdf:d.params.defaults=[]) (hr:gK k callerA)
  (hY:∀(w:aG) (h:aK),YP w h->(K w.params).In h)
  (F:∀(w:aG) (mg:Str->aO ak) (fa:aj) (h:aK),(K w.params).In h->h.Ns mainGlobals mg->mg d.name=some (.ref fa)->
   ∃fd:FuncData,(∀(s:ao) (u:ak),BindsTo s fd ⟨[u],[]⟩ [(x,u)])/\
    ∀aV:aK,(K w.params).In aV->aV.Ns mainGlobals mg->cX l.prog w (K w.params) mg aV (CX w) k fa fd [x] (sp w))
  (hsp:∀(w:aG) (H:Hp) (a:aj) (ns:aP Int),ns.length<=n->Only H->dD (K w.params) H a (ns.map V.int)->sp w [.ref a] H (λv _=>v=.bl true) λ_ _ _=>False)
  (hCX:∀(w:aG) (H:Hp) (s:ao) (e:ak) (s':ao),CX w [] H s (λ_ _ _=>False) e s'->False):
  PySem.W.WalkO q loose XP YP l.row.toRowW d [] (λf vs=>PySem.call f vs):=by
 refine Att.Ey hn hdf λw s₀ eF mg mb fa o pm cd nF a vs ns G Y ho hd yX hmg hobj hints jX hg=>?_;have KX:=hY w _ Y;obtain⟨fd,hb,hF⟩:=F w mg fa _ KX G.T.g hmg;exact Rh KX G.T.g G.T.b G.T.builtins G.T.nolimit hg hobj hints (afy jX hn2) hr hF hb (λH hO hS=>hsp w H a ns jX hO hS) λH e s'=>hCX w H eF e s'
noncomputable def inClass (s:aJ)(j:Nat):aJ:=match s with
 |.ClassDef _ _ _ body _ _ _ _ _ _ _=>body.getD j (.Pass ⟨0,0,0,0⟩)
 |_=>.Pass ⟨0,0,0,0⟩
noncomputable def jE (s:aJ):Arguments:=match s with
 |.FunctionDef _ a _ _ _ _ _ _ _ _=>a
 |_=>{posonlyargs:=[],args:=[],vararg:=none,kwonlyargs:=[],kw_defaults:=[],kwarg:=none,defaults:=[]}
noncomputable def cY (s:aJ):List aJ:=match s with
 |.FunctionDef _ _ b _ _ _ _ _ _ _=>b
 |_=>[]
noncomputable def bN (s:aJ):Scope:=match s with
 |.FunctionDef _ _ _ _ _ _ sc _ _ _=>sc
 |_=>{kind:=.function,names:=[],isGenerator:=false,isCoroutine:=false}
abbrev jG:Km:=λ_ _ _ _ _ _=>False
abbrev E0:XK:=λ_ _ _=>False
theorem wY {X:Cx}:Passes jG X E0:=λ_ _ _ _ _ _ _ h=>h.elim
structure gY (K:aN)(x bf:Str)(st:aJ)(f:aj)(fd:FuncData):Prop where
 ex:∃(oc:ak) (od:Option aj) (kV nF pm:ak) (an:Option aj) (dJ ct:ak) (osl:Array (Option ak)),
  fd=fnOf x bf (jE st) (cY st) (bN st) .none kV nF pm an dJ ct/\K.lookup f=some ⟨oc,od, .func fd,osl⟩/\codeIn K dJ bf=true
 kp:keepIn K (.ref f)=true
section
variable {P:aA}{w:aG}{K:aN}{mg:Str->Option ak}{aV:aK}
theorem gY.ok {x bf:Str}{st:aJ}{f:aj}{fd:FuncData}{N ps:aP Str}{k:Nat}{sp:Sp}(F:gY K x bf st f fd)(S:cu N ps (bN st))
  (hbody:∀(dJ:ak) (A:aq) (aU:aP Env) (s:ao) (H:Hp) (vs:aP V) (Q:VK) (E:XK),gK k (A.deeper<|envOfC bf (bN st) s.heap.objs.size f dJ)->sp vs H Q E->
   ∃t,yR (dX jG P w K mg aV N bf (bN st) f dJ A aU s H E).HB (cY st) t/\t (Ends.of Q) (start N vs) H) (len:∀vs H Q E,sp vs H Q E->vs.length=ps.length:=by rintro _ _ _ _ ⟨⟩;subst_vars;rfl):cX P w K mg aV jG (k+1) f fd ps sp:=by
 obtain⟨oc,od,kV,nF,pm,an,dJ,ct,osl,rfl,lk,yX⟩:=F.ex;refine QX lk yX S len λA aU s H vs Q E hr hsp=>?_;obtain⟨t,h,q⟩:=hbody dJ A aU s H vs Q E hr hsp;exact⟨t,h.HB,q⟩
theorem gY.binds {x bf:Str}{st:aJ}{f:aj}{fd:FuncData}{ps:aP Str}(F:gY K x bf st f fd)
  (h:∀(kV nF pm:ak) (an:aO aj) (dJ ct:ak) (us:aP ak),us.length=ps.length->bindArgs (fnOf x bf (jE st) (cY st) (bN st) .none kV nF pm an dJ ct) ⟨us,[]⟩=pure (ps.zip us)):Binds K fd ps []:=by
 obtain⟨oc,od,kV,nF,pm,an,dJ,ct,osl,rfl,lk,yX⟩:=F.ex;exact .all<|h kV nF pm an dJ ct
theorem Ri {x bf:Str}{st:aJ}{f:aj}{oc:ak}{od an:aO aj}{osl:Array (aO ak)}{kV nF pm dJ ct:ak}(l:K.lookup f=some ⟨oc,od, .func<|fnOf x bf (jE st) (cY st) (bN st) .none kV nF pm an dJ ct,osl⟩)
  (c:codeIn K dJ bf=true) (k:keepIn K (.ref f)=true):gY K x bf st f (fnOf x bf (jE st) (cY st) (bN st) .none kV nF pm an dJ ct):=⟨⟨oc,od,kV,nF,pm,an,dJ,ct,osl,rfl,l,c⟩,k⟩
end
theorem pX {A:aq}{k:Nat}(hr:gK k A):A.units+1<cLine:=agE (Nat.add_le_add_left (by decide:1<=64) _) hr.units
section
variable {X:Cx}
theorem pv (i:Nat){x:Str}{pos:Pos}(hN:X.N[i]?=some x:=by rfl)(hv:Vis X.env.scope x:=by first|exact Or.inl rfl|exact Or.inr (Or.inl rfl)|exact Or.inr<|Or.inr rfl)(hd:(x==("__debug__":Str))=false:=by decide)
  (yX:(x==("__classdict__":Str))=false:=by decide):PE X (.Name x pos) (pL i):=aam hN hv hd yX
end
theorem vJ {A B:Prop}(h:B):if false=true then A else B:=by
 rw[ahL afD];exact h
theorem uH {A B:Prop}(h:A):if true=true then A else B:=by
 rw[ahK rfl];exact h
theorem gO {c A B:Prop}[Decidable c](h1:c->A)(h2:¬c->B):if c then A else B:=by
 by_cases h:c
 ·rw[ahK h]
  exact h1 h
 ·rw[ahL h]
  exact h2 h
def Same (H H':Hp):Prop:=∀b o,H b=some o->H' b=some o
theorem Same.refl (H:Hp):Same H H:=λ_ _ h=>h
theorem Same.trans {H H1 H2:Hp}(a:Same H H1)(b:Same H1 H2):Same H H2:=λc o h=>b c o (a c o h)
theorem Same.free {H H':Hp}(e:Same H H'){l:aj}(h:H' l=Option.none):H l=Option.none:=by
 cases q:H l with
 |none=>rfl
 |some o=>
  rw[e l o q]at h;cases h
theorem Same.seq {K:aN}{H H':Hp}{a:aj}{xs:aP V}(e:Same H H')(h:dD K H a xs):dD K H' a xs:=by
 rcases h with (h|⟨o,h⟩)|h
 ·exact .inl<|.inl (e _ _ h)
 ·exact .inl<|.inr ⟨o,e _ _ h⟩
 ·exact .inr h
noncomputable def jZ (cells:List (Str×aj)):List (Str×NameKind)->List (Str×aj)->List (Str×aj)
 |[],iR=>iR
 |(n,k)::r,iR=>if k==.free then(match cells.lookup n with|some c=>jZ cells r ((n,c)::iR)|none=>jZ cells r iR) else jZ cells r iR
theorem Ez {env:Env}:∀(names:List (Str×NameKind)) (iR:List (Str×aj)),(∀p∈names,p.2=.free->∃c,env.cells.lookup p.1=some c)->
  (forIn names iR λ(x:Str×NameKind) (r:List (Str×aj))=>(if(x.2==NameKind.free)=true then(do let a <-cellOf env x.1;pure (ForInStep.yield ((x.1,a)::r))) else pure (ForInStep.yield r):Sem (ForInStep<|List (Str×aj))))=pure (jZ env.cells names iR):=by
 intro names
 induction names with
 |nil=>intro iR _;rfl
 |cons p r ih=>
  intro iR h;obtain⟨n,k⟩:=p;rw[agZ];cases hk:k==NameKind.free with
  |false=>
   simp only[hk,agt,if_false,pure_bind,jZ];exact ih iR λq hq=>h q (afA _ hq)
  |true=>
   have e:k=.free:=by simpa using hk
   obtain⟨c,hc⟩:=h (n,k) afE e;simp only[hk,if_true,jZ,cellOf,hc,pure_bind];exact ih _ λq hq=>h q (afA _ hq)
theorem Rj {aZ:Scope}{env:Env}(h:∀p∈aZ.names,p.2=.free->∃c,env.cells.lookup p.1=some c):closureFor aZ env=pure (jZ env.cells aZ.names []):=by
 have q:=Ez (env:=env) aZ.names [] h;simp only[closureFor]
 first
  |exact q
  |(rw[<-q];simp)
  |simpa using q
theorem Im {cells:List (Str×aj)}:∀(names:List (Str×NameKind)) (iR:List (Str×aj)) (y:Str) (c:aj),(jZ cells names iR).lookup y=some c->cells.lookup y=some c\/iR.lookup y=some c:=by
 intro names
 induction names with
 |nil=>intro iR y c h;exact .inr h
 |cons p r ih=>
  intro iR y c h;obtain⟨n,k⟩:=p;unfold jZ at h;split at h
  ·split at h
   ·rename_i c' hc
    rcases ih _ y c h with q|q
    ·exact .inl q
    ·rw[afZ]at q
     cases e:y==n with
     |true=>
      rw[e]at q;have e':y=n:=by simpa using e
      subst e';have q':some c'=some c:=q;rw[<-q'];exact .inl hc
     |false=>rw[e]at q;exact .inr q
   ·exact ih _ y c h
  ·exact ih _ y c h
theorem Ny {cells:List (Str×aj)}:∀(names:List (Str×NameKind)) (iR:List (Str×aj)) (y:Str),(∃c,iR.lookup y=some c)->∃c,(jZ cells names iR).lookup y=some c:=by
 intro names
 induction names with
 |nil=>intro iR y h;exact h
 |cons p r ih=>
  intro iR y h;obtain⟨n,k⟩:=p;unfold jZ;split
  ·split
   ·refine ih _ y ?_
    rw[afZ];cases e:y==n with
    |true=>exact⟨_,rfl⟩
    |false=>exact h
   ·exact ih _ y h
  ·exact ih _ y h
theorem zQ {cells:List (Str×aj)}:∀(names:List (Str×NameKind)) (iR:List (Str×aj)) (y:Str),(y,NameKind.free)∈names->(∃c,cells.lookup y=some c)->∃c,(jZ cells names iR).lookup y=some c:=by
 intro names
 induction names with
 |nil=>intro iR y h _;cases h
 |cons p r ih=>
  intro iR y h hc;obtain⟨n,k⟩:=p;unfold jZ;rcases afU.mp h with e|h
  ·cases e
   obtain⟨c,hc⟩:=hc;simp only[beq_self_eq_true,if_true,hc];exact Ny _ _ _ ⟨c,by rw[afZ,beq_self_eq_true]⟩
  ·split
   ·split
    ·exact ih _ y h hc
    ·exact ih _ y h hc
   ·exact ih _ y h hc
noncomputable def fj (X:Cx)(N':List Str)(aZ:Scope)(C:aj)(s₀:ao)(H₀:Hp)(ex:List aj):Cx :=
 {X with N:=N',s₀:=s₀,H₀:=H₀,env:=compEnvC aZ (jZ X.env.cells aZ.names []) C X.env,outer:=X.stack,stack:=X.stack,ex:=ex,fn:=λ_=>false,xe:=λ_ _=>False}
noncomputable def gj (X:Cx)(N':List Str)(aZ:Scope)(C:aj)(s₀:ao)(H₀:Hp)(ex:List aj)(XE:aj->ao->Hp->List aj->ak->ao->Prop):Cx:={fj X N' aZ C s₀ H₀ ex with xe:=XE C s₀ H₀ ex}
def noX:aj->ao->Hp->List aj->ak->ao->Prop:=λ_ _ _ _ _ _=>False
theorem uI (X:Cx)(N':aP Str)(aZ:Scope)(C:aj)(s₀:ao)(H₀:Hp)(ex:aP aj):gj X N' aZ C s₀ H₀ ex noX=fj X N' aZ C s₀ H₀ ex:=rfl
def Rk (X:Cx)(ifs:List aH)(t:TT):Prop :=
 ∀(bH:List (aj×Obj)) (s:ao) (U:St) (H:Hp) (Q:Bool->Hp->Prop),Inv X bH U H s->t U H Q->
  wpAny (model X.prog X.w) X.A (forIn ifs true λc r=>if r=true then do let ok <-isTrue c X.env (eval c X.env);pure (ForInStep.yield ok) else pure (ForInStep.yield r)) (TP X bH U Q) X.xe s
def EY:TT:=λ_ H Q=>Q true H
theorem j8 {X:Cx}:Rk X [] EY:=λ_ _ _ H _ I h=>wpAny_tests_nil ⟨H,I,h⟩
theorem KC {X:Cx}{c:aH}{t:TT}(h:PT X c t):Rk X [c] t:=λbH s U H Q I q=>wpAny_tests_one (h bH s U H Q I q)
section
variable {prog:aA}{w:aG}{A:aq}{R:Result->ao->Prop}{s:ao}
theorem Fd {nH target dR:aH}{ifs:List aH}{aZ:Scope}{pos:Pos}{it iR:ak}{env:Env}(I:Nat->ao->Prop)(E':ak->ao->Prop)(hE:∀e s,E' e s->notedBy (model prog w) A env (λx s'=>R (.error x) s') e s)
  (turn:∀n s,I n s->wpAny (model prog w) A (pyNext it) (λr eF=>match r with
   |none=>R (.ok .next) eF
   |some v=>wpAny (model prog w) A (letOwnedTupleGo target it v) (λ_ s₀=>wpAny (model prog w) A (assign target env v) (λ_ s₂=>
     wpAny (model prog w) A (forIn ifs true λc r=>if r=true then do let ok <-isTrue c env (eval c env);pure (ForInStep.yield ok) else pure (ForInStep.yield r)) (λok s₃=>
      if ok=true then wpAny (model prog w) A (eval nH env) (λx s₄=>
       wpAny (model prog w) A (call (.builtin "list.append") [iR,x]) (λ_ s₅=>∃m,m<n/\I m s₅) E' s₄) E' s₃
      else ∃m,m<n/\I m s₃) E' s₂) E' s₀) E' eF) E' s)
  (n:Nat) (h:I n s):
  codeAny (model prog w) A (.compLoop (.ListComp nH [⟨target,dR,ifs,0⟩] aZ pos) 0 it iR env) R s:=by
 refine codeAny_loop rfl I (λn s hI=>?_) n h;show wpAny _ A ((compTurn (.ListComp nH [⟨target,dR,ifs,0⟩] aZ pos) 0 it iR env).onRaise λx=>do noteFrame x env;theTreesLotGoes x) _ _ s;refine wpAny_noted ?_;rw[compTurn_list];refine abI<|wpAny_standAt (abI<|wpAny_mono (turn n s hI) (λr eF rB=>?_) hE);cases r with
 |none=>exact ahI rB
 |some v=>
  refine abI<|wpAny_mono rB (λ_ s₀ h₀=>?_) hE;refine abI<|wpAny_mono h₀ (λ_ s₂ h₂=>abI<|wpAny_mono h₂ (λok s₃ h₃=>?_) hE) hE;cases ok with
  |false=>exact ahI ⟨rfl,h₃⟩
  |true=>
   exact abI<|abI (wpAny_mono h₃ (λx s₄ h₄=>abI<|wpAny_mono h₄ (λ_ s₅ h₅=>ahI<|ahI ⟨rfl,h₅⟩) hE) hE)
end
structure qH (X:Cx)(x:Str)(cG:List Str)(jF:List Nat)(aZ:Scope):Prop where
 kind:aZ.kind=.function
 uJ:∀y∈aZ.names,y.2≠.cell
 loc:∀y∈aZ.names,y.2=.local->aZ.names.lookup y.1=some .local
 tgt:aZ.names.lookup x=some .local
 nd:(x::cG).Nodup
 fr:∀y∈aZ.names,y.2=.free->X.env.kindOf y.1=some .cell\/X.env.kindOf y.1=some .free
 ix:∀(j:Nat) (y:Str),cG[j]?=some y->∃k,jF[j]?=some k/\X.N[k]?=some y
 len:jF.length=cG.length
 cl:∀y∈cG,(y,NameKind.free)∈aZ.names
noncomputable def outs (U:St)(jF:List Nat):St:=jF.map λk=>(U[k]?).join
def Fe (J:It)(tt:TT)(te:TE)(U':St)(Q:VK)(H1:Hp):Prop:=∃W:Nat->Nat->List V->Hp->Prop,(∃m,W 0 m [] H1)/\∀i m vs H2,W i m vs H2->
 vs.length<sizeLine/\((J.stop i H2/\∀l,H2 l=none->Q (.ref l) (upd H2 l<|.lst vs))\/
  (J.go i H2/\∀x H3,J.YL i H2 x H3->tt (some x::U') H3 λb H4=>if b=true then te (some x::U') H4 λv H5=>∃m',m'<m/\W (i+1) m' (vs++[v]) H5 else ∃m',m'<m/\W (i+1) m' vs H4))
def uX (jF:List Nat)(wi:TI)(tt:TT)(te:TE):TE:=λU H Q=>wi U H λJ H1=>Fe J tt te (outs U jF) Q H1
theorem Vals.snoc {xs:aP V}{us:aP ak}{x:V}{u:ak}(h:Vals xs us)(r:RelV x u):Vals (xs++[x]) (us++[u]):=Vals.append h (.cons r .nil)
theorem jQ {α β:Type}[BEq α][LawfulBEq α]{l:List (α×β)}{x:α}{b:β}(h:l.lookup x=some b):(x,b)∈l:=by
 induction l with
 |nil=>simp at h
 |cons p r ih=>
  obtain⟨n,k⟩:=p;rw[afZ]at h;cases e:x==n with
  |true=>
   rw[e]at h;have e':x=n:=by simpa using e
   have h':k=b:=ahR h;subst e' h';exact afE
  |false=>rw[e]at h;exact afA _<|ih h
theorem Bv {aZ:Scope}{env:Env}{y:Str}(h:(relabel aZ env).names.lookup y=some .cell\/(relabel aZ env).names.lookup y=some .free)(hc:∀y∈aZ.names,y.2≠.cell):(y,NameKind.free)∈aZ.names:=by
 have q:∃k,(y,k)∈(relabel aZ env).names/\(k=.cell\/k=.free):=by
  rcases h with h|h
  ·exact⟨_,jQ h, .inl rfl⟩
  ·exact⟨_,jQ h, .inr rfl⟩
 obtain⟨k,hm,hk⟩:=q;obtain⟨⟨n,k'⟩,hm',e⟩:=List.mem_map.mp hm;dsimp only at e;split at e
 ·rename_i hf
  cases e;have:k'=.free:=by
   simp only[ags,beq_iff_eq]at hf;exact hf.1.1
  subst this;exact hm'
 ·cases e
  rcases hk with rfl|rfl
  ·exact absurd rfl (hc _ hm')
  ·exact hm'
theorem lD {env:Env}:∀{names:List (Str×NameKind)} {x:Str},names.lookup x=some .free->
  ((names.map λ(n,k)=>if(k==NameKind.free&&env.scope.kind==.function&&env.kindOf n==some .cell) then(n,NameKind.cell) else(n,k)).lookup x=some .cell\/
   (names.map λ(n,k)=>if(k==NameKind.free&&env.scope.kind==.function&&env.kindOf n==some .cell) then(n,NameKind.cell) else(n,k)).lookup x=some .free)
 |[],_,h=>by simp at h
 |(n,k)::r,x,h=>by
  have ih:=@lD env r x;rw[afW];cases hx:x==n with
  |true=>
   simp only[afZ,hx]at h;have hk:k=.free:=ahR h;subst hk;by_cases hc:(NameKind.free==NameKind.free&&env.scope.kind==.function&&env.kindOf n==some .cell)=true
   ·left
    simp only[hc,if_true,afZ,hx]
   ·right
    simp only[hc,if_false,afZ,hx,agt]
  |false=>
   simp only[afZ,hx]at h;by_cases hc:(k==NameKind.free&&env.scope.kind==.function&&env.kindOf n==some .cell)=true
   ·simp only[hc,if_true,afZ,hx];exact ih h
   ·simp only[hc,if_false,afZ,hx,agt];exact ih h
theorem Inv.track {X:Cx}{bH:aP (aj×Obj)}{U:St}{H:Hp}{s:ao}{D:aj}{vs:aP V}{bh:aP ak}{k:Nat}(I:Inv X bH U H s)(hD:H D=none)(hz:vs.length<=sizeLine)(hv:Vals vs bh)
  (e:s.heap.get? D=some {cls:=.type "list",data:=.seq bh.toArray k}) (h1:D∈X.ex\/X.s₀.heap.objs.size<=D) (h2:D≠X.env.locals) (h3:∀x c,X.env.cells.lookup x=some c->c≠D) (h4:∀p∈X.pn++bH,p.1≠D):
  Inv X bH U (upd H D<|.lst vs) s:=by
 obtain⟨hh,g,d,t,o⟩:=s;have nD:∀b u,H b=some u->b≠D:=λb u q z=>by rw[z,hD]at q;cases q
 refine I.step (g':=g) (d':=d) (t':=t) (h':=hh) (ch:=[D]) (λb hb=>?_) (λb o _ _ _ q _=>q) (λb o _ _ _ q _=>⟨o.slots,q⟩) (λb o hb q n=>?_) (λb o _ q=>⟨o,q⟩)
  (λb xs q=>by rw[bV (nD b _ q)];exact q) (λb o u q=>by rw[bV (nD b _ q)];exact q) (λb ps q=>⟨#[],by rw[bV (nD b _ q),q];simp⟩) (λm q=>q) (λb u q=>?_) I.bare
 ·have z:b=D:=by simpa using hb
  subst z;exact⟨h1,h2,h3,h4⟩
 ·rw[bV (by simpa using hb)];exact n
 ·by_cases z:b=D
  ·subst z
   rw[bA]at q;cases q;exact⟨hz,bh,k,hv,e⟩
  ·rw[bV z]at q
   exact(I.hok b u q).stay (λ_ _ _ q=>q) (λc q=>by rw[bV (nD c _ q)];exact q) λc xs q=>by rw[bV (nD c _ q)];exact q
structure oW (X:Cx)(cG:List Str)(jF:List Nat)(aZ:Scope):Prop where
 kind:aZ.kind=.function
 uJ:∀y∈aZ.names,y.2≠.cell
 loc:∀y∈aZ.names,y.2=.local->aZ.names.lookup y.1=some .local
 fr:∀y∈aZ.names,y.2=.free->X.env.kindOf y.1=some .cell\/X.env.kindOf y.1=some .free
 ix:∀(j:Nat) (y:Str),cG[j]?=some y->∃k,jF[j]?=some k/\X.N[k]?=some y
 len:jF.length=cG.length
 cl:∀y∈cG,(y,NameKind.free)∈aZ.names
def Bw (n:Nat)(J:It)(g:TG)(tt:TT)(te:TE)(U':St)(Q:VK)(H1:Hp):Prop:=∃W:Nat->Nat->List V->Hp->Prop,(∃m,W 0 m [] H1)/\∀i m vs H2,W i m vs H2->
 vs.length<sizeLine/\((J.stop i H2/\∀l,H2 l=none->Q (.ref l) (upd H2 l<|.lst vs))\/
  (J.go i H2/\∀(τ:St) x H3,τ.length=n->J.YL i H2 x H3->g x (τ++U') H3 λU1 H4=>(∃Zd:St,U1=Zd++U'/\Zd.length=n)/\
   tt U1 H4 λb H5=>if b=true then te U1 H5 λv H6=>∃m',m'<m/\W (i+1) m' (vs++[v]) H6 else ∃m',m'<m/\W (i+1) m' vs H5))
def rD (n:Nat)(jF:List Nat)(wi:TI)(g:TG)(tt:TT)(te:TE):TE:=λU H Q=>wi U H λJ H1=>Bw n J g tt te (outs U jF) Q H1
theorem uK {X:Cx}{nH dR tg:aH}{M:aP Str}{g:TG}{pos p1:Pos}{ifs:aP aH}{aZ:Scope}{cG:aP Str}{jF:aP Nat}{wi:TI}{tt:TT}{te:TE}{XE:aj->ao->Hp->aP aj->ak->ao->Prop}
  (hc:X.calm=true) (S:oW X cG jF aZ) (hfl:∀y∈cG,aZ.names.lookup y=some .free) (hi:PI X tg dR wi) (hg:∀C s₀ H₀ ex,PG (gj X (M++cG) aZ C s₀ H₀ ex XE) tg g)
  (ht:∀C s₀ H₀ ex,Rk (gj X (M++cG) aZ C s₀ H₀ ex XE) ifs tt) (he:∀C s₀ H₀ ex,PE (gj X (M++cG) aZ C s₀ H₀ ex XE) nH te)
  (hs:∀v,foldedSetIterable dR X.env v=pure v) {use:aO (ak->Sem Unit)} {Q':ak->ao->Prop} {bH:aP (aj×Obj)} {s:ao} {U:St} {H:Hp} {Q:VK} (I:Inv X bH U H s) (h:rD M.length jF wi g tt te U H Q)
  (hxe:∀C s2 H2 ex D,Inv X bH U H2 s2->(∀b∈ex,uz X bH H2 b)->s2.heap.objs.size<=C->D≠C->∀e s',XE C s2 H2 ex e s'->notedBy (model X.prog X.w) X.A (compEnvC aZ (jZ X.env.cells aZ.names []) C X.env) (λx s''=>compPost (model X.prog X.w) X.A X.xe use Q' (.ref D) C (.error x) s'') e s')
  (hpost:∀(D C:aj) (H':Hp) m4 (s4:ao),s4.heap.Ns C m4->(∀h',Heap.SameBut C s4.heap h'->Inv X bH U H' {s4 with heap:=h'})->H' C=none->C≠X.env.locals->C∉X.fs->X.s₀.heap.objs.size<=C->(∀z c,X.env.cells.lookup z=some c->c≠C)->(∀p∈X.pn++bH,p.1≠C)->Q (.ref D) H'->
   compPost (model X.prog X.w) X.A X.xe use Q' (.ref D) C (.ok .next) s4):
  wpAny (model X.prog X.w) X.A (comprehension (.ListComp nH [⟨tg,dR,ifs,0⟩] aZ pos) aZ X.env p1 (newList []) (firstAsync [⟨tg,dR,ifs,0⟩]) (firstIter [⟨tg,dR,ifs,0⟩] X.env) use) Q' X.xe s:=by
 have hclos:=Rj (aZ:=aZ) (env:=X.env) λp hp hf=>I.ok.has p.1 (S.fr p hp hf);refine wpAny_comprehension_free (use:=use) rfl hs hclos S.kind S.loc (gk (hi bH s U H _ I h) λv s1 h1=>gk h1 λitv s2 h2=>?_);obtain⟨it,fp,tn,J,H2,rfl,I2,T,st2,f2,W,⟨m0,w0⟩,turn⟩:=h2;refine wpAny_newObj_type (wpAny_newFunctionEnv S.uJ (by intro y hy;simp at hy) (λrB hns₁ hsb₁=>?_) S.kind);dsimp only at hns₁ hsb₁ ⊢;generalize hH2:s2.heap.push {cls:=.type "list",dict:=none,data:=.seq ([]:aP ak).toArray}=G2 at hns₁ hsb₁ ⊢;have hCe:G2.objs.size=s2.heap.objs.size+1:=by rw[<-hH2,agj]
 generalize hC:G2.objs.size=C at hns₁ hsb₁ hCe ⊢;have hCle:s2.heap.objs.size<=C:=by omega
 have hDC:s2.heap.objs.size≠C:=by omega
 have below:∀b,b<s2.heap.objs.size->b≠C:=λb hb=>by omega
 have old:∀b o,s2.heap.get? b=some o->rB.get? b=some o:=λb o e=>hsb₁.extBut b o (below b<|afB e) (afx _<|hH2 ▸ afx _ e);have hacc:∃k,rB.get? s2.heap.objs.size=some {cls:=.type "list",data:=.seq ([]:aP ak).toArray k}:=⟨_,hsb₁.extBut _ _ hDC<|afx _ (hH2 ▸ afK _ rfl)⟩;have look:∀y c,(jZ X.env.cells aZ.names []).lookup y=some c->X.env.cells.lookup y=some c:=λy c e=>by
  rcases Im _ _ y c e with q|q
  ·exact q
  ·cases q
 have fpD:∀b∈fp,b<s2.heap.objs.size:=λb hb=>by
  obtain⟨o,e,_⟩:=T.obj _ _ st2 b hb;exact afB e
 have ok':(gj X (M++cG) aZ C s2 H2 fp XE).Ok:={
  mod:=I2.ok.mod
  kind:=S.kind
  glob:=I2.ok.glob
  blt:=I2.ok.blt
  above:=hCle
  inj:=λy z c e1 e2=>I2.ok.inj y z c (look y c e1) (look z c e2)
  has:=λy hy=>by
   have q:=Bv (aZ:=aZ) (env:=X.env) hy S.uJ;exact zQ _ _ y q<|I2.ok.has y (S.fr _ q rfl)
  cab:=λy c hf=>by cases hf
  hd:=I2.ok.hd
  frames:=I2.ok.frames
  stk:=.inl rfl
  Vq:=λb hb=>⟨below b<|fpD b hb,λy c e=>(f2 b hb).2.2.2.2.1 y c<|look y c e⟩
  bs:=I2.bs
  DR:=afy I2.ok.DR I2.sz
  vG:=λb o e hb=>by
   rcases(f2 b hb).2.2.2.1 with z|z
   ·exact I2.ok.vG b o e z
   ·exact absurd (afH (afB e)<|afy I2.ok.DR z)<|afQ _
  wM:=λb hb hf=>by
   rcases afU.mp (I2.jO b hf) with z|z
   ·exact(f2 b hb).2.1 z
   ·exact(f2 b hb).2.2.1 z
  mU:=I2.stack
  Hv:=I2.oJ}
 have Dfs:s2.heap.objs.size∉frs X.stack:=λhb=>by
  rcases afU.mp (I2.jO _ hb) with z|z
  ·have q:=I2.lt
   rw[<-z]at q;exact afQ _ q
  ·exact I2.Vr (afv _) z
 have Ze:∀y c,X.env.cells.lookup y=some c->c≠s2.heap.objs.size:=λy c e z=>by
  obtain⟨v,q⟩:=I2.cell y c e;have q':=q.lt;rw[z]at q';exact afQ _ q'
 have acR:∀p∈X.pn++bH,p.1≠s2.heap.objs.size:=λp hp z=>by
  have q':=afB (I2.pin p hp).1;rw[z]at q';exact afQ _ q'
 have I3:Inv (gj X (M++cG) aZ C s2 H2 fp XE) bH (List.replicate M.length none++outs U jF) H2 {s2 with heap:=rB,toks:=s2.toks+([]:aP (Str×ak)).length}:={
  ok:=ok'
  os:=rfl
  bare:=I2.bare
  base:=Un.kept old
  loc:=by
   refine⟨_,hns₁,λi y v e1 e2 e3=>?_⟩;by_cases hi':i<M.length
   ·rw[afC (by rw[agG];exact hi'),ag2,ahK hi']at e2
    cases e2
   ·obtain⟨j,rfl⟩:∃j,i=M.length+j:=⟨i-M.length,by omega⟩
    have e1':cG[j]?=some y:=by
     have acS:(M++cG)[M.length+j]?=some y:=e1;rw[afS (afF _ _),agz]at acS;exact acS
    have e2':(outs U jF)[j]?=some (some v):=by
     rw[afS (by rw[agG];exact afF _ _),agG,agz]at e2;exact e2
    obtain⟨k,hk,hN⟩:=S.ix j y e1';have hy:y∈cG:=agk e1';have e4:U[k]?=some (some v):=by
     unfold outs at e2';rw[afJ,hk]at e2';have e5:(U[k]?).join=some v:=ahR e2';cases q:U[k]? with
     |none=>rw[q]at e5;cases e5
     |some o=>rw[q]at e5;exact congrArg some e5
    obtain⟨m,hn,hl⟩:=I2.loc;have MN:=S.fr _ (S.cl y hy) rfl;have vis:Vis X.env.scope y:=by
     rcases MN with z|z
     ·exact .inr<|.inl z
     ·exact .inr<|.inr z
    obtain⟨u,r,l⟩:=hl k y v hN e4 vis;refine⟨u,r, .inr ⟨lD (env:=X.env)<|hfl y hy,?_⟩⟩;rcases l with ⟨z,_⟩|⟨_,c,ec,ic⟩
    ·rcases MN with z'|z'
     ·have z'':X.env.kindOf y=some .cell:=z'
      rw[z]at z'';cases z''
     ·have z'':X.env.kindOf y=some .free:=z'
      rw[z]at z'';cases z''
    ·obtain⟨c',ec'⟩:=zQ (cells:=X.env.cells) aZ.names [] y (S.cl y hy) ⟨c,ec⟩
     have:c'=c:=ahR ((look y c' ec').symm.trans ec);subst this;obtain⟨o,ho,hd⟩:=ic;exact⟨c',ec',o,old _ _ ho,hd⟩
  cell:=λy c e=>by
   obtain⟨v,o,ho,hd⟩:=I2.cell y c (look y c e);exact⟨v,o,old _ _ ho,hd⟩
  free:=I2.hok.fresh hCle
  jx:=λy c e=>I2.jx y c (look y c e)
  pin:=λp hp=>by
   obtain⟨e,n,ne,nf,d⟩:=I2.pin p hp;refine⟨old _ _ e,n,below _<|afB e,λhb=>?_,d⟩;rcases afU.mp (I2.jO _ hb) with z|z
   ·exact ne z
   ·exact nf z
  hok:=I2.hok.kept old
  len:=by simp[gj,fj,outs,S.len]}
 have fok:∀{pp:aP (aj×Obj)} {H':Hp},(∀b∈fp,H' b=none)->(∀p∈pp,p.1=s2.heap.objs.size)->∀b∈fp,uz (gj X (M++cG) aZ C s2 H2 fp XE) (bH++pp) H' b:=λ{pp H'} hn hp b hb=>by
  obtain⟨_,f1,f2',f3,f4,f5⟩:=f2 b hb;refine⟨hn b hb,below b<|fpD b hb,λhf=>?_, .inl hb,λy c e=>f4 y c<|look y c e,λp hpp z=>?_⟩
  ·rcases afU.mp (I2.jO b hf) with z|z
   ·exact f1 z
   ·exact f2' z
  ·have acT:p∈X.pn++(bH++pp):=hpp
   rw[<-afM]at acT;rcases agd.mp acT with q|q
   ·exact f5 p q z
   ·have q':=fpD b hb
    rw[<-z,hp p q]at q';exact afQ _ q'
 have loop:∀s3:ao,s3={s2 with heap:=rB,toks:=s2.toks+([]:aP (Str×ak)).length}->
   codeAny (model X.prog X.w) X.A (.compLoop (.ListComp nH [⟨tg,dR,ifs,0⟩] aZ pos) 0 (.ref it) (.ref s2.heap.objs.size)<|compEnvC aZ (jZ X.env.cells aZ.names []) C X.env)
    (compPost (model X.prog X.w) X.A X.xe use Q' (.ref s2.heap.objs.size) C) s3:=by
  rintro s3 rfl;obtain⟨k0,hacc⟩:=hacc;refine Fd (λn s'=>∃i τ vs H' bh k,(τ:St).length=M.length/\Inv (gj X (M++cG) aZ C s2 H2 fp XE) bH (τ++outs U jF) H' s'/\tn i s'.heap/\(∀b∈fp,H' b=none)/\H' s2.heap.objs.size=none/\
   s'.heap.get? s2.heap.objs.size=some {cls:=.type "list",data:=.seq bh.toArray k}/\Vals vs bh/\W i n vs H') (XE C s2 H2 fp) (hxe C s2 H2 fp s2.heap.objs.size I2 f2 hCle hDC) ?_ m0
   ⟨0,List.replicate M.length none,[],H2,[],k0,by simp,I3,T.keep _ _ _ st2 λb _ o e=>old b o e,λb hb=>(f2 b hb).1,I2.hok.fresh<|afv _,hacc, .nil,w0⟩
  rintro n s' ⟨i,τ,vs,H',bh,k,Nz,I',st',fr',hD',hg',hv',w'⟩;obtain⟨jX,alt⟩:=turn i n vs H' w';have IP:Inv (gj X (M++cG) aZ C s2 H2 fp XE) (bH++[(s2.heap.objs.size,{cls:=.type "list",data:=.seq bh.toArray k})]) (τ++outs U jF) H' s' :=
   I'.vP λp hp=>(agd.mp hp).elim (λz=>I'.pin p<|afI _ z) λz=>by
    have z':p=(s2.heap.objs.size,{cls:=.type "list",data:=.seq bh.toArray k}):=by simpa using z
    subst z';exact⟨hg',hD',hDC,Dfs,λv q=>by cases q⟩
  have FP:=fok (pp:=[(s2.heap.objs.size,{cls:=.type "list",data:=.seq bh.toArray k})]) fr' (λp hp=>by
   have z':p=(s2.heap.objs.size,{cls:=.type "list",data:=.seq bh.toArray k}):=by simpa using hp
   rw[z'])
  rcases alt with ⟨stop,qn⟩|⟨go,step⟩
  ·refine gk (T.done (gj X (M++cG) aZ C s2 H2 fp XE) rfl rfl rfl hc i _ s' _ H' (XE C s2 H2 fp) IP FP st' stop) λr s4 ⟨hr,I4⟩=>?_
   subst hr;obtain⟨m4,hn4,_⟩:=id I4.loc;refine hpost s2.heap.objs.size C (upd H' s2.heap.objs.size<|.lst vs) m4 s4 hn4 (λh' hsb=>?_) (by rw[bV (ahO hDC)];exact I4.free) (λz=>by have q:=I2.lt;rw[<-z]at q;exact afQ _<|afH q hCle) (I2.Vr hCle) (afy I2.sz hCle) (λz c e zz=>by
    obtain⟨v,q⟩:=I2.cell z c e;have q':=q.lt;rw[zz]at q';exact afQ _<|afH q' hCle) (λp hp zz=>by
    have q':=afB (I2.pin p hp).1;rw[zz]at q';exact afQ _<|afH q' hCle)<|qn _ hD'
   have gD:s4.heap.get? s2.heap.objs.size=some {cls:=.type "list",data:=.seq bh.toArray k}:=(I4.pin (s2.heap.objs.size,_)<|afI _ (afI _<|afN.mpr rfl)).1;have hx:∀b o,b≠C->s4.heap.get? b=some o->h'.get? b=some o:=λb o hb e=>(hsb.2 b hb).trans e;have J1:Inv X bH U H' {s4 with heap:=h'}:=by
    refine I2.call' (ch:=fp) I4.os ⟨λb o e n hb hx'=>?_,λb o e n hb hx'=>?_,I4.base.free,λb o e hx'=>?_,I4.base.tups,I4.base.sE,I4.base.ur⟩ (λb u e=>?_) I4.bare λb hb=>?_
    ·exact hx b o (below b<|afB e)<|I4.base.keep b o e n hb hx'
    ·obtain⟨sl,q⟩:=I4.base.slot b o e n hb hx'
     exact⟨sl,hx b _ (below b<|afB e) q⟩
    ·obtain⟨o',q⟩:=I4.base.there b o e hx'
     exact⟨o',hx b _ (below b<|afB e) q⟩
    ·refine(I4.hok b u e).stay (λc v hcc q=>hx c v ?_ q) (λ_ q=>q) λ_ _ q=>q
     rintro rfl;rcases hcc with z|z
     ·rw[<-z]at e
      have:=I4.free;rw[show H' c=none from this]at e;cases e
     ·have:=I4.free
      rw[show H' c=none from this]at z;cases z
    ·obtain⟨_,f1,f2',f3,f4,f5⟩:=f2 b hb
     exact⟨f3,f1,f4,f5⟩
   exact J1.track hD' (afT jX) hv' (hx _ _ hDC gD) (.inr I2.sz) (λz=>by have q:=I2.lt;rw[<-z]at q;exact afQ _ q) Ze acR
  ·refine gk (T.item (gj X (M++cG) aZ C s2 H2 fp XE) rfl rfl rfl hc i _ s' _ H' (XE C s2 H2 fp) IP FP st' go) λr s4 ⟨u,hr,h4⟩=>?_
   subst hr;refine gk h4 λ_ s5 ⟨xv,H5,I5,r5,y5,Ve,fr5⟩=>?_;have I5':=I5.pinned (fok (pp:=[(s2.heap.objs.size,{cls:=.type "list",data:=.seq bh.toArray k})]) fr5 (λp hp=>by
    have z':p=(s2.heap.objs.size,{cls:=.type "list",data:=.seq bh.toArray k}):=by simpa using hp
    rw[z'])) (T.obj _ _ Ve)
   have q6:=step τ xv H5 Nz y5;refine gk (hg C s2 H2 fp _ s5 _ H5 xv _ _ I5' r5 q6) λ_ s6 ⟨U6,H6,I6,⟨τ6,e6,l6⟩,q6'⟩=>?_;subst e6;refine gk (ht C s2 H2 fp _ s6 _ H6 _ I6 q6') λb s7 ⟨H7,I7,q7⟩=>?_;have Zf:∀{s8:ao} {U8:St} {H8:Hp},Inv (gj X (M++cG) aZ C s2 H2 fp XE) ((bH++[(s2.heap.objs.size,{cls:=.type "list",data:=.seq bh.toArray k})])++wQ fp s5.heap) U8 H8 s8->
     tn (i+1) s8.heap/\(∀b∈fp,H8 b=none)/\H8 s2.heap.objs.size=none/\s8.heap.get? s2.heap.objs.size=some {cls:=.type "list",data:=.seq bh.toArray k}:=λ{s8 U8 H8} I8=>by
    refine⟨T.keep _ _ _ Ve λb hb o e=>(I8.pin (b,o)<|afI _ (afI _<|oR hb e)).1,λb hb=>?_,?_,?_⟩
    ·obtain⟨o,e,d⟩:=T.obj _ _ Ve b hb
     exact(I8.pin (b,o)<|afI _ (afI _<|oR hb e)).2.1
    ·exact(I8.pin (s2.heap.objs.size,_)<|afI _ (agg _<|afI _ (afN.mpr rfl))).2.1
    ·exact(I8.pin (s2.heap.objs.size,_)<|afI _ (agg _<|afI _ (afN.mpr rfl))).1
   cases b with
   |false=>
    rw[ahL afD]at q7 ⊢;obtain⟨m',hm,w7⟩:=q7;obtain⟨a1,a2,a3,a4⟩:=Zf I7;exact⟨m',hm,i+1,τ6,vs,H7,bh,k,l6,I7.kh.kh,a1,a2,a3,a4,hv',w7⟩
   |true=>
    rw[ahK rfl]at q7 ⊢;refine gk (he C s2 H2 fp _ s7 _ H7 _ I7 q7) λu8 s8 ⟨v8,H8,I8,r8,m',hm,w8⟩=>?_;obtain⟨a1,a2,a3,a4⟩:=Zf I8;refine wpAny_list_append_plain (items:=bh.toArray) ⟨k,a4⟩ (λh9 pl sb=>?_) (by rw[afG,<-hv'.length];exact afT jX);obtain⟨k9,e9⟩:=pl;have ne:∀b∈fp,b≠s2.heap.objs.size:=λb hb=>afV (fpD b hb);have I9:Inv (gj X (M++cG) aZ C s2 H2 fp XE) bH (τ6++outs U jF) H8 {s8 with heap:=h9} :=
     I8.kh.kh.turned (t':=s8.toks) (λb o hb e=>(sb.2 b hb).trans e) a3 hDC (.inr<|afv _) (λy c e=>Ze y c<|look y c e) acR
    refine⟨m',hm,i+1,τ6,vs++[v8],H8,bh++[u8],k9,l6,I9,T.keep _ _ _ a1 λb hb o e=>(sb.2 b<|ne b hb).trans e,a2,a3,?_,hv'.snoc r8,w8⟩;rw[List.push_toArray]at e9;exact e9
 exact codeAny_compStart_list (loop _ rfl)<|T.self _ 0 _ _ _ (T.keep _ _ _ st2 λb _ o e=>old b o e) (loop _ rfl)
theorem zR {X:Cx}{nH dR tg:aH}{M:aP Str}{g:TG}{pos:Pos}{ifs:aP aH}{aZ:Scope}{cG:aP Str}{jF:aP Nat}{wi:TI}{tt:TT}{te:TE}
  (hc:X.calm=true) (S:oW X cG jF aZ) (hfl:∀y∈cG,aZ.names.lookup y=some .free) (hi:PI X tg dR wi) (hg:∀C s₀ H₀ ex,PG (fj X (M++cG) aZ C s₀ H₀ ex) tg g)
  (ht:∀C s₀ H₀ ex,Rk (fj X (M++cG) aZ C s₀ H₀ ex) ifs tt) (he:∀C s₀ H₀ ex,PE (fj X (M++cG) aZ C s₀ H₀ ex) nH te)
  (hs:∀v,foldedSetIterable dR X.env v=pure v:=by intro _;rfl):PE X (.ListComp nH [⟨tg,dR,ifs,0⟩] aZ pos) (rD M.length jF wi g tt te):=by
 intro bH s U H Q I h;rw[eval_ListComp];exact uK (M:=M) (g:=g) (XE:=noX) (use:=none) (Q':=EP X bH U Q) hc S hfl hi (λC s₀ H₀ ex=>by rw[uI];exact hg C s₀ H₀ ex) (λC s₀ H₀ ex=>by rw[uI];exact ht C s₀ H₀ ex) (λC s₀ H₀ ex=>by rw[uI];exact he C s₀ H₀ ex) hs I h (λ_ _ _ _ _ _ _ _ _ _ _ (z:False)=>z.elim) λD C H' m4 s4 hn hJ _ _ _ _ _ _ q=>by
  show ∃m,s4.heap.Ns C m/\∀h',Heap.SameBut C s4.heap h'->EP X bH U Q (.ref D) {s4 with heap:=h'};exact⟨m4,hn,λh' hsb=>⟨.ref D,H',hJ h' hsb,rfl,q⟩⟩
theorem V3 {J:It}{tt:TT}{te:TE}{U':St}{Q:VK}{H1:Hp}:Bw 1 J (jy 0) tt te U' Q H1=Fe J tt te U' Q H1:=by
 refine propext ⟨λ⟨W,h0,h⟩=>⟨W,h0,λi m vs H2 w=>?_⟩,λ⟨W,h0,h⟩=>⟨W,h0,λi m vs H2 w=>?_⟩⟩
 ·obtain⟨l,h⟩:=h i m vs H2 w
  exact⟨l,h.imp id λ⟨go,st⟩=>⟨go,λx H3 y=>(st [none] x H3 rfl y).2⟩⟩
 ·obtain⟨l,h⟩:=h i m vs H2 w
  refine⟨l,h.imp id λ⟨go,st⟩=>⟨go,λτ x H3 Nz y=>?_⟩⟩
  match τ,Nz with
  |[o],_=>exact⟨⟨[some x],rfl,rfl⟩,st x H3 y⟩
theorem Bx {jF:aP Nat}{wi:TI}{tt:TT}{te:TE}:rD 1 jF wi (jy 0) tt te=uX jF wi tt te:=by
 funext U H Q;unfold rD uX;exact congrArg (wi U H) (funext λJ=>funext λH1=>V3)
theorem Rm {X:Cx}{nH dR:aH}{x:Str}{px pos:Pos}{ifs:aP aH}{aZ:Scope}{cG:aP Str}{jF:aP Nat}{wi:TI}{tt:TT}{te:TE}
  (hc:X.calm=true) (S:qH X x cG jF aZ) (hfl:∀y∈cG,aZ.names.lookup y=some .free) (hi:PI X (.Name x px) dR wi)
  (ht:∀C s₀ H₀ ex,Rk (fj X (x::cG) aZ C s₀ H₀ ex) ifs tt) (he:∀C s₀ H₀ ex,PE (fj X (x::cG) aZ C s₀ H₀ ex) nH te)
  (hs:∀v,foldedSetIterable dR X.env v=pure v:=by intro _;rfl):PE X (.ListComp nH [⟨.Name x px,dR,ifs,0⟩] aZ pos) (uX jF wi tt te):=by
 have h:=zR (M:=[x]) (g:=jy 0) (pos:=pos) hc ⟨S.kind,S.uJ,S.loc,S.fr,S.ix,S.len,S.cl⟩ hfl hi (λC s₀ H₀ ex=>dF (i:=0) S.nd rfl (.inl<|lookup_relabel_local S.tgt) (.inr<|lookup_relabel_local S.tgt)) ht he hs;exact Bx ▸ h
section
variable {X:Cx}
theorem nO:jL X (.builtin "isinstance") (λxs H Q=>∃x t T b,xs=[x, .ty T]/\sJ X.K H x t/\kitOne X.K t (.type T)=some b/\Q (.bl b) H):=by
 intro bH s U H xs us Q I r h;obtain⟨x,t,T,b,rfl,ty,e,q⟩:=h;obtain⟨u,w',rfl,rx,ry⟩:=vals2 r;cases(show w'=Value.type T from ry);exact zK I rx ty e λtk=>⟨.bl b,H,I.tok tk,rfl,q⟩
end
noncomputable def wZ (rZ:Scope)(N:List Str)(x:Str)(cG:List Str)(jF:List Nat)(aZ:Scope):Bool :=
 aZ.kind==.function&&(aZ.names.all (λy=>y.2 !=.cell)&&(aZ.names.all (λy=>y.2 !=.local||aZ.names.lookup y.1==some .local)&&(aZ.names.all (λy=>y.2 !=.free||(rZ.names.lookup y.1==some .cell||rZ.names.lookup y.1==some .free))&&
 (aZ.names.lookup x==some .local&&(decide (x::cG).Nodup&&(jF.length==cG.length&&((jF.zip cG).all (λp=>N[p.1]?==some p.2)&&cG.all (λy=>aZ.names.lookup y==some .free))))))))
theorem zip_get {α β:Type}{l:List α}{r:List β}{j:Nat}{y:β}(e:l.length=r.length)(h:r[j]?=some y):∃k,l[j]?=some k/\(k,y)∈l.zip r:=by
 induction l generalizing r j with
 |nil=>cases r with
  |nil=>simp at h
  |cons=>cases e
 |cons a l ih=>cases r with
  |nil=>cases e
  |cons b r=>cases j with
   |zero=>cases h;exact⟨a,rfl,by simp⟩
   |succ j=>
    obtain⟨k,h1,h2⟩:=ih (j:=j) (Nat.succ.inj e) h;exact⟨k,h1,afA _ h2⟩
theorem oX {X:Cx}{rZ:Scope}{N:aP Str}{x:Str}{cG:aP Str}{jF:aP Nat}{aZ:Scope}(h:wZ rZ N x cG jF aZ=true)(ho:X.env.scope=rZ)(hN:X.N=N):
  qH X x cG jF aZ/\∀y∈cG,aZ.names.lookup y=some .free:=by
 unfold wZ at h;simp only[ags,List.all_eq_true,Bool.or_eq_true,bne_iff_ne,beq_iff_eq,decide_eq_true_eq]at h;obtain⟨h1,h2,h3,h4,h5,h6,h7,h8,h9⟩:=h;have fl:∀y∈cG,aZ.names.lookup y=some .free:=λy hy=>h9 y hy;refine⟨⟨h1,h2,λy hy e=>?_,h5,h6,λy hy e=>?_,λj y hj=>?_,h7,λy hy=>jQ<|fl y hy⟩,fl⟩
 ·rcases h3 y hy with q|q
  ·exact absurd e q
  ·exact q
 ·have q:rZ.names.lookup y.1=some .cell\/rZ.names.lookup y.1=some .free:=by
   rcases h4 y hy with q|q
   ·exact absurd e q
   ·exact q
  rw[<-ho]at q;exact q
 ·obtain⟨k,e1,e2⟩:=zip_get h7 hj
  exact⟨k,e1,by rw[hN];exact h8 (k,y) e2⟩
theorem KD {X:Cx}{nH dR:aH}{x:Str}{px pos:Pos}{ifs:aP aH}{aZ:Scope}{wi:TI}{tt:TT}{te:TE}(rZ:Scope)(N:aP Str)(cG:aP Str)(jF:aP Nat)
  (hk:wZ rZ N x cG jF aZ=true) (hi:PI X (.Name x px) dR wi)
  (ht:∀C s₀ H₀ ex,Rk (fj X (x::cG) aZ C s₀ H₀ ex) ifs tt) (he:∀C s₀ H₀ ex,PE (fj X (x::cG) aZ C s₀ H₀ ex) nH te)
  (ho:X.env.scope=rZ:=by rfl) (hN:X.N=N:=by rfl) (hc:X.calm=true:=by rfl) (hs:∀v,foldedSetIterable dR X.env v=pure v:=by intro _;rfl):PE X (.ListComp nH [⟨.Name x px,dR,ifs,0⟩] aZ pos) (uX jF wi tt te):=by
 obtain⟨S,fl⟩:=oX (X:=X) hk ho hN;exact Rm hc S fl hi ht he hs
def Nx (n i:Nat)(p:Prop):Prop:=∃m',m'<n-i/\m'=n-(i+1)/\i+1<=n/\p
theorem nx {n i:Nat}{p:Prop}(h:i<n)(q:p):Nx n i p:=⟨n-(i+1),by omega,rfl,h,q⟩
theorem oY {lo:Int}{n:Nat}{tt:TT}{te:TE}{U':St}{Q:VK}{H:Hp}(Pv:Nat->aP V->Hp->Prop)(h0:Pv 0 [] H)(jX:∀i vs H2,i<=n->Pv i vs H2->vs.length<sizeLine)
  (hs:∀i vs H2,i<n->Pv i vs H2->tt (some (.int<|lo+i)::U') H2 λb H4=>if b=true then te (some (.int<|lo+i)::U') H4 λv H5=>Nx n i (Pv (i+1) (vs++[v]) H5) else Nx n i (Pv (i+1) vs H4))
  (hd:∀vs H2,Pv n vs H2->∀l,H2 l=none->Q (.ref l) (upd H2 l<|.lst vs)):Fe (Itr lo n) tt te U' Q H:=by
 refine⟨λi m vs H=>m=n-i/\i<=n/\Pv i vs H,⟨n,by simp,afY _,h0⟩,?_⟩;rintro i m vs H2 ⟨rfl,hi,p⟩;refine⟨jX i vs H2 hi p,?_⟩;by_cases jf:i<n
 ·refine .inr ⟨jf,?_⟩
  rintro v H3 ⟨rfl,rfl⟩;exact hs i vs H3 jf p
 ·have e:i=n:=by exact ago hi (Nat.not_lt.mp jf)
  subst e;exact .inl ⟨afv _,hd vs H2 p⟩
def sW (w:aG)(p:Str×V)(e:DictEntry):Prop:=e.hash=hashStr w p.1/\(∃t,e.key=.str p.1 t)/\RelV p.2 e.val
def qI (K:aN)(w:aG)(a:aj)(fs:List (Str×V)):Prop :=
 (a==sysModules)=false/\∃o es ep,K.lookup a=some o/\o.ExactDict/\o.data=.dict es ep/\Paired (sW w) fs es.toList
theorem BJ {w:aG}{P:aA}{fs:List (Str×V)}{es:List DictEntry}(k:Str)(hh:Paired (sW w) fs es):nJ (fs.lookup k) ((es.find? λe=>(strKind P w).is k e.key).map (·.val)):=by
 induction hh with
 |nil=>trivial
 |@cons p e _ _ h t ih=>
  obtain⟨h1,⟨t',h2⟩,h3⟩:=h;obtain⟨x,v⟩:=p;rw[afZ,af8];have q:(strKind P w).is k e.key=(k==x):=by
   show Value.isStrOf k e.key=_;rw[h2];show Value.isStrOf k (.str x t')=_;rw[agF];simp[Value.isStrOf]
   first|done|(constructor<;>intro z<;>first|exact z|exact z.symm)
  rw[q];cases k==x with
  |true=>exact h3
  |false=>exact ih
section
variable {X:Cx}{bH:List (aj×Obj)}{U:St}{H:Hp}{s:ao}
theorem Inv.V4 {a:aj}{fs:aP (Str×V)}(I:Inv X bH U H s)(d:qI X.K X.w a fs):∃f,s.heap.MapOf (strKind X.prog X.w) a f/\∀k,nJ (fs.lookup k) (f k):=by
 obtain⟨_,o,es,ep,h1,h2,h3,h4⟩:=d;refine⟨λk=>findBy (strKind X.prog X.w).is es k,⟨o,es,ep,I.qU _ _ h1,h2,h3,λe he=>?_,λk=>rfl⟩,λk=>?_⟩
 ·have key:∀{fs:aP (Str×V)} {l:aP DictEntry},Paired (sW X.w) fs l->e∈l->∃k,(strKind X.prog X.w).is k e.key=true/\e.hash=(strKind X.prog X.w).hash k:=by
   intro fs l p
   induction p with
   |nil=>intro hm;cases hm
   |@cons p e' l₁ l₂ h t ih=>
    intro hm;rcases afU.mp hm with rfl|hm
    ·obtain⟨q1,⟨t',q2⟩,_⟩:=h
     refine⟨p.1,?_,q1⟩;show Value.isStrOf p.1 e.key=true;rw[q2];simp[Value.isStrOf]
    ·exact ih hm
  exact key h4<|Array.mem_toList_iff.mpr he
 ·have q:=BJ (P:=X.prog) k h4
  show nJ (fs.lookup k) ((Array.find? (λe=>(strKind X.prog X.w).is k e.key) es).map (·.val));rw[<-Array.find?_toList];exact q
theorem KH:IxR X (λx y H Q=>∃z a fs v,x=.ref a/\y=.str z/\qI X.K X.w a fs/\fs.lookup z=some v/\Q v H):=by
 intro value slice bH s U H x y v u Q I rx ry h hs;obtain⟨z,a,fs,r,rfl,rfl,d,hl,q⟩:=h;cases rx;obtain⟨t,rfl⟩:=ry;obtain⟨f,hm,hf⟩:=I.V4 d;have:=hf z;rw[hl]at this;obtain⟨w',e,Q8⟩:=nJ.some_of this;exact tail_any (ops:=[.ref a, .str z t]) hm.typeIs PySem.F.slot_dict_getitem.lookup (wpAny_getItem_of (knd:=strKind X.prog X.w) (k:=z) (by show Value.isStrOf z (.str z t)=true;simp[Value.isStrOf]) hm e ⟨r,H,I.tok _,Q8,q⟩) hs
theorem Fg {CX:Km}{func:aH}{tf:TE}{pos:Pos}{e:aH}{es:aP aH}{t:TA}{E:XK}(ok:aj->Sp->Prop)
  (hok:∀f sp,ok f sp->∃k fd ps,cX X.prog X.w X.K X.mg X.base CX k f fd ps sp/\gK k X.A/\keepIn X.K (.ref f)=true/\Binds X.K fd ps []) (hf:PE X func tf) (hx:Passes CX X E)
  (ha:PA X (e::es) t) (hev:eval (.Call func (e::es) [] pos) X.env=(do callWith pos (<-eval func X.env) [] (backTo pos<|starEach (e::es) X.env) (backToKw pos<|keywordEach [] X.env)):=by rfl)
  (he:starEach (e::es) X.env=(false,eval e X.env)::starEach es X.env:=by rfl) (lC:(backTo pos<|starEach es X.env).any (·.1)=false:=by rfl):
  PE X (.Call func (e::es) [] pos) (λU H Q=>tf U H λx H1=>∃f sp,x=.ref f/\ok f sp/\En sp [] E t U H1 Q):=by
 intro bH s U H Q I h;refine Call_ (gk (hf bH s U H _ I h) λu s1 ⟨x,H1,I1,r1,f,sp,ex,hfo,q⟩=>?_) hev;subst ex;cases r1;obtain⟨k,fd,ps,F,hr,hk,hb⟩:=hok f sp hfo;refine agP (h₀:=X.base) I1.ok.mod.MN hk (gk (ha pos bH s1 U H1 _ I1 q) λus s2 ⟨vs,H2,I2,r,q2⟩=>⟨I2.qU,?_⟩) he lC;exact Ig F hr hb .nil hx I2 r q2
end
section
variable {X:Cx}
end
end L2
namespace Fw
open L2
inductive T where
 |int (i:Int)
 |str (x:Str)
 |tup (l:List T)
mutual
noncomputable def T.sz:T->Nat
 |.int _=>1
 |.str _=>1
 |.tup l=>1+szs l
noncomputable def szs:List T->Nat
 |[]=>0
 |t::r=>t.sz+szs r
end
mutual
inductive Rep (H:Hp):V->T->Prop where
 |int (i:Int):Rep H (.int i) (.int i)
 |str (x:Str) (h:x.length<=100000):Rep H (.str x) (.str x)
 |tup {a:aj} {vs:List V} {ts:List T} (h:H a=some (.tup vs)) (r:V5 H vs ts):Rep H (.ref a) (.tup ts)
inductive V5 (H:Hp):List V->List T->Prop where
 |nil:V5 H [] []
 |cons {v:V} {t:T} {vs:List V} {ts:List T} (r:Rep H v t) (q:V5 H vs ts):V5 H (v::vs) (t::ts)
end
theorem Same.tups {H H':Hp}(e:Same H H'):∀b xs,H b=some (.tup xs)->H' b=some (.tup xs):=λb xs h=>e b _ h
theorem bK {H:Hp}{p:aj}(h:H p=none)(o:HO):Same H (upd H p o):=λb u q=>by rw[bV (bY q h)];exact q
section
variable (kids:T->Option (List T))
inductive Good:T->Prop where
 |mk {t:T} {l:List T} (h:kids t=some l) (q:∀k∈l,Good k):Good t
inductive Bad:T->Prop where
 |none {t:T} (h:kids t=none):Bad t
 |kid {t:T} {l:List T} {k:T} (h:kids t=some l) (m:k∈l) (q:Bad k):Bad t
end
def Has (P:aA)(w:aG)(K:aN)(mg:Str->Option ak)(aV:aK)(k:Nat)(x:Str)(ps:List Str)(sp:Sp):Prop :=
 ∃f fd,cX P w K mg aV jG k f fd ps sp/\Binds K fd ps []/\keepIn K (.ref f)=true/\mg x=some (.ref f)
theorem cP {X:Cx}{k j:Nat}{x:Str}{ps:aP Str}{sp:Sp}{p pos:Pos}{e:aH}{es:aP aH}{t:TA}(h:Has X.prog X.w X.K X.mg X.base k x ps sp)(hr:gK j X.A)(hkj:k<=j)(hg:Gl X x)(ha:PA X (e::es) t)
  (hdb:(x==("__debug__":Str))=false:=by decide) (he:starEach (e::es) X.env=(false,eval e X.env)::starEach es X.env:=by rfl) (lC:(backTo pos<|starEach es X.env).any (·.1)=false:=by rfl):
  PE X (.Call (.Name x p) (e::es) [] pos) (En sp [] E0 t):=by
 obtain⟨f,fd,h1,h2,h3,h4⟩:=h;exact gU h1 (hr.mono hkj) hg h4 h3 h2 .nil wY ha hdb he lC
theorem Zg {U:L2.St}{H:Hp}{Q:Bool->Hp->Prop}(h:Q true H):EY U H Q:=h
theorem small {n:Nat}(h:n<=1000000):n<=sizeLine:=afy h (by decide)
theorem cW {n:Nat}(h:n<=1000000):n<sizeLine:=agE h (by decide)
theorem fH (n:Nat)(h:n<=1000000:=by decide):n<=sizeLine:=small h
theorem n4 {n:Nat}(h:n<4):n=0\/n=1\/n=2\/n=3:=by
 have k:∀n,n<4->(n=0\/n=1\/n=2\/n=3):=by decide
 exact k n h
theorem n5 {n:Nat}(h:n<5):n=0\/n=1\/n=2\/n=3\/n=4:=by
 have k:∀n,n<5->(n=0\/n=1\/n=2\/n=3\/n=4):=by decide
 exact k n h
theorem n6 {n:Nat}(h:n<6):n=0\/n=1\/n=2\/n=3\/n=4\/n=5:=by
 have k:∀n,n<6->(n=0\/n=1\/n=2\/n=3\/n=4\/n=5):=by decide
 exact k n h
theorem n7 {n:Nat}(h:n<7):n=0\/n=1\/n=2\/n=3\/n=4\/n=5\/n=6:=by
 have k:∀n,n<7->(n=0\/n=1\/n=2\/n=3\/n=4\/n=5\/n=6):=by decide
 exact k n h
theorem i4 {e:Int}(h0:0<=e)(h:e<4):e=0\/e=1\/e=2\/e=3:=by
 obtain⟨n,rfl⟩:=ahC h0;rcases n4 (n:=n) (Int.ofNat_lt.mp h) with rfl|rfl|rfl|rfl<;>simp
theorem i7 {e:Int}(h0:0<=e)(h:e<7):e=0\/e=1\/e=2\/e=3\/e=4\/e=5\/e=6:=by
 obtain⟨n,rfl⟩:=ahC h0;rcases n7 (n:=n) (Int.ofNat_lt.mp h) with rfl|rfl|rfl|rfl|rfl|rfl|rfl<;>simp
section
variable {ta tb tc:TE}{t u:TT}{U:L2.St}{H:Hp}{v x y z:V}{c c1 c2:Bool}{K:aN}
end
end Fw
namespace L2
section
variable {X:Cx}
end
def acU (P:aA)(w:aG)(l:List Env)(H:Hp)(s:ao)(C ea:aj)(H':Hp)(s':ao):Prop :=
 s'.os=s.os/\AllBare s'.gens/\Un (frs l) [] H H' s.heap s'.heap/\mj P w H' s'.heap/\H' ea=none/\
 ∃(B:aK) (t:aj),Heap.FlyingW B l ea (.ref C) (.ref t) s'.heap/\∀b o,s'.heap.get? b=some o->b∉frs l->(H' b≠none\/∃o',s.heap.get? b=some o')->B.get? b=some o
def gw (P:aA)(w:aG):Km:=λl H s E e s'=>∃ea C H',e=.ref ea/\acU P w l H s C ea H' s'/\E (.ref C) (some ea) H'
section
variable {P:aA}{w:aG}{K:aN}{mg:Str->Option ak}{aV:aK}{N:List Str}{bf:Str}{aZ:Scope}{f:aj}{cd:ak}{A:aq}{aU:List Env}{s:ao}{H:Hp}{E:XK}{CX:Km}
theorem mj.Zh {H:Hp}{h h':aK}(ok:mj P w H h)(k:∀b u,H b≠none->h.get? b=some u->h'.get? b=some u):mj P w H h':=λa o e=>
 (ok a o e).stay (λb u hb q=>k b u (by
  rcases hb with z|z
  ·rw[z,e];simp
  ·rw[z];simp) q) (λ_ q=>q) λ_ _ q=>q
theorem fQ.there {H:Hp}{h:aK}{a:aj}{o:HO}(x:fQ P w H h a o):∃ob,h.get? a=some ob:=by
 cases o with
 |lst xs=>obtain⟨_,_,_,_,e⟩:=x;exact⟨_,e⟩
 |tup xs=>obtain⟨_,_,_,ob,e,_⟩:=x;exact⟨_,e⟩
 |dK cI=>obtain⟨_,_,_,_,o,_,_,e,_⟩:=x;exact⟨_,e⟩
 |dT cI=>obtain⟨_,_,_,_,o,_,_,e,_⟩:=x;exact⟨_,e⟩
 |set S n=>obtain⟨o,_,_,_,e,_⟩:=x;exact⟨_,e⟩
 |ins C dx fs=>obtain⟨_,_,_,e,_⟩:=x;exact⟨_,e⟩
 |own y=>exact x
 |xd fs=>obtain⟨mA,⟨o,es,ep,e,_⟩,_⟩:=x;exact⟨_,e⟩
 |rng lo hi=>obtain⟨_,_,_,e⟩:=x;exact⟨_,e⟩
 |Hx o u=>exact⟨_,x.1⟩
 |YF ps=>exact⟨_,x⟩
 |met f y=>exact⟨_,x⟩
 |ext φ=>exact x.2.1
theorem Fi {X:Cx}{bH:aP (aj×Obj)}{U:St}{H1:Hp}{s1:ao}{h':aK}(hex:X.ex=[])(I:Inv X bH U H1 s1)
  (kp:∀b o,s1.heap.get? b=some o->b∉frs X.stack->(H1 b≠none\/∃o',X.s₀.heap.get? b=some o')->h'.get? b=some o)
  (sl:∀b o,b∈X.fs->s1.heap.get? b=some o->(∀vs,o.data≠.fields vs)->∃sl,h'.get? b=some {o with slots:=sl}):Un X.fs [] X.H₀ H1 X.s₀.heap h'/\mj X.prog X.w H1 h':=by
 have nx:∀b:aj,b∉X.ex:=λb z=>by rw[hex]at z;cases z
 have Zi:∀{b o},X.s₀.heap.get? b=some o->b∉X.fs->b∉frs X.stack:=λ{b o} e hb z=>by
  rcases afU.mp (I.jO b z) with q|q
  ·have h1:=afB e
   have h2:=I.ok.above;rw[q]at h1;exact absurd (afH h1 h2)<|afQ _
  ·exact hb q
 have trk:∀{b},H1 b≠none->b∉frs X.stack:=λ{b} n z=>n (I.oJ b z);have frame:∀{b o},X.s₀.heap.get? b=some o->X.H₀ b=none->b∈X.fs->∃sl',h'.get? b=some {o with slots:=sl'}:=λ{b o} e n hb=>by
  obtain⟨s2,q⟩:=I.base.slot b o e n hb (nx b);obtain⟨_,o',ho',hnf⟩:=I.ok.mU.mem hb;rw[e]at ho';cases ho';obtain⟨s3,q3⟩:=sl b _ hb q hnf;exact⟨s3,q3⟩
 refine⟨⟨λb o e n hb _=>kp b o (I.base.keep b o e n hb<|nx b) (Zi e hb)<|.inr ⟨o,e⟩,λb o e n hb _=>frame e n hb,λb o e n _=>I.base.free b o e n<|nx b,λb o e _=>?_,I.base.tups,I.base.sE,I.base.ur⟩,I.hok.Zh λb u n q=>kp b u q (trk n)<|.inl n⟩;by_cases hb:b∈X.fs
 ·obtain⟨s3,q3⟩:=frame e (I.ok.Hv b hb) hb
  exact⟨_,q3⟩
 ·obtain⟨o',q⟩:=I.base.there b o e (nx b)
  exact⟨o',kp b o' q (Zi e hb)<|.inr ⟨o,e⟩⟩
theorem BK {X:Cx}{bH:aP (aj×Obj)}{U:St}{H1:Hp}{s1:ao}{h':aK}(hex:X.ex=[])(I:Inv X bH U H1 s1)
  (kp:∀b o,s1.heap.get? b=some o->b∉frs X.stack->(H1 b≠none\/∃o',X.s₀.heap.get? b=some o')->h'.get? b=some o)
  (sl:s1.heap.UpToSlots h'):Un X.fs [] X.H₀ H1 X.s₀.heap h'/\mj X.prog X.w H1 h':=Fi hex I kp λb o _=>sl b o
theorem dY:Passes (gw P w) (dX (gw P w) P w K mg aV N bf aZ f cd A aU s H E) E:=by
 intro bH U H1 s1 e s' I h;obtain⟨ea,C,H',rfl,⟨os,bare,un,hok,BL,B,t,fl,mG⟩,hE⟩:=h;have J:Inv (dX (gw P w) P w K mg aV N bf aZ f cd A aU s H E) bH U H' s':=I.call' os un hok bare (λb z=>absurd z<|by simp);show wpAny _ _ (leaving _<|.ref ea) _ _ s';refine wpAny_leaves_onW I.ok.frames rfl fl λh' x1 x2=>?_;have kp:∀b o,s'.heap.get? b=some o->b∉frs (dX (gw P w) P w K mg aV N bf aZ f cd A aU s H E).stack->(H' b≠none\/∃o',s.heap.get? b=some o')->h'.get? b=some o:=λb o q hb hc=>x1.1 b o (mG b o q hb (by
  rcases hc with z|⟨o',z⟩
  ·exact .inl z
  ·exact .inr (I.base.there b o' z<|by intro q;cases q)))
 obtain⟨un',hok'⟩:=BK rfl J kp x2;refine⟨ea,C,H',rfl,⟨J.os,J.bare,un',hok',BL,B,t,x1,λb o q hb hc=>?_⟩,hE⟩;have yU:b∉frs (dX (gw P w) P w K mg aV N bf aZ f cd A aU s H E).stack:=λz=>by
  rcases afU.mp (J.jO b z) with z1|z1
  ·rcases hc with z2|⟨o',z2⟩
   ·exact z2<|J.oJ b z
   ·have h1:=afB z2
    have h2:=J.ok.above;rw[z1]at h1;exact absurd (afH h1 h2)<|afQ _
  ·exact hb z1
 obtain⟨o2,q2⟩:∃o2,s'.heap.get? b=some o2:=by
  rcases hc with z|⟨o',z⟩
  ·cases hz:H' b with
   |none=>exact absurd hz z
   |some u=>exact(J.hok b u hz).there
  ·exact J.base.there b o' z (by intro q;cases q)
 have q3:=kp b o2 q2 yU hc;rw[q]at q3;cases q3;refine mG b o q2 yU ?_;rcases hc with z|⟨o',z⟩
 ·exact .inl z
 ·exact .inr (I.base.there b o' z<|by intro q;cases q)
end
section
variable {P:aA}{w:aG}{K:aN}{mg:Str->Option ak}{aV:aK}{N:List Str}{bf:Str}{aZ:Scope}{f:aj}{cd:ak}{A:aq}{aU:List Env}{s:ao}{H:Hp}{E:XK}
def aaL (C:aj)(E:XK)(t:TA):TS:=λ_ U H=>t U H λvs H1=>vs.length<=sizeLine/\∀ea,H1 ea=none->E (.ref C) (some ea) H1
theorem nQ {x:Str}{C:aj}{np jg pos:Pos}{e₀:aH}{rest:List aH}{t:TA}{bm:List ak}{jo B lV:String}(O:OwnCls x C bm jo mg aV)(FB:ExcBaseFacts B jo lV bm)
  (hg:Gl (dX (gw P w) P w K mg aV N bf aZ f cd A aU s H E) x) (ha:PA (dX (gw P w) P w K mg aV N bf aZ f cd A aU s H E) (e₀::rest) t) (hdb:(x==("__debug__":Str))=false:=by decide)
  (he:starEach (e₀::rest) (dX (gw P w) P w K mg aV N bf aZ f cd A aU s H E).env=(false,eval e₀ (dX (gw P w) P w K mg aV N bf aZ f cd A aU s H E).env)::starEach rest (dX (gw P w) P w K mg aV N bf aZ f cd A aU s H E).env:=by rfl)
  (lC:(backTo jg<|starEach rest (dX (gw P w) P w K mg aV N bf aZ f cd A aU s H E).env).any (·.1)=false:=by rfl):
  PS (dX (gw P w) P w K mg aV N bf aZ f cd A aU s H E) (.Raise (some<|.Call (.Name x np) (e₀::rest) [] jg) none pos) (aaL C E t):=by
 intro bH s1 U H1 D I h;obtain⟨tl,Nn,nm,q,bs,hdct,sn,sub,ab,col,dd,k0,k1,k2,k3,k5,mN,hC,hN,hni,T⟩:=O.obj;refine wpAny_Raise_call_subT (C:=C) (nm:=nm) (q:=q) (N:=Nn) (bs:=bs) (bm:=tl) (hdct:=hdct) (sn:=sn) (sub:=sub) (ab:=ab) (col:=col) (dd:=dd) (k0:=k0) (k1:=k1) (k2:=k2) (k3:=k3) (k5:=k5)
  FB (mN:=mN) (T.hasType FB.hasBase) (I.ok.hd rfl) (by rw[he];show(false||(backTo jg<|starEach rest _).any (·.1))=false;rw[lC];rfl) hni (oK I hg O.bound ⟨rfl,?_⟩ hdb)
 have hA:=ha jg bH s1 U H1 _ I h;rw[he]at hA ⊢;refine Calls.evalArgs_plain (gk hA λus s2 ⟨vs,H2,I2,r,hl,hE⟩=>⟨rfl,by rw[<-r.length];exact hl,I2.bk _ _ hC,hN.keeps I2.bk,T.keeps I2.bk,λh' e hm=>?_⟩);show wpAny _ _ (leaving _<|.ref e) _ _ _;have hin:∀env∈(dX (gw P w) P w K mg aV N bf aZ f cd A aU s H E).stack,∀b,env.frame=some b->b∈frs (dX (gw P w) P w K mg aV N bf aZ f cd A aU s H E).stack:=λenv he b hb=>List.mem_filterMap.mpr ⟨env,he,hb⟩;have BL:H2 e=none:=by
  cases hz:H2 e with
  |none=>rfl
  |some u=>
   obtain⟨ob,q⟩:=(I2.hok e u hz).there;have:=hm.new;rw[q]at this;cases this
 refine wpAny_leaves_madeW (base:=hideAll s2.heap<|frs (dX (gw P w) P w K mg aV N bf aZ f cd A aU s H E).stack) (h:=s2.heap) I2.ok.frames rfl (λb o q=>ag0 _ q) (PySem.W.funFrames_hide I2.stack hin) hm λh'' t' x1 x2 x3 x4=>?_;have up:s2.heap.UpToSlots h'':=(Heap.UpToSlots.of_keeps hm.keeps).trans x4;have kp:∀b o,s2.heap.get? b=some o->b∉frs (dX (gw P w) P w K mg aV N bf aZ f cd A aU s H E).stack->h''.get? b=some o:=λb o q hb=>x1.1 b o (agX _ q hb);obtain⟨un',hok'⟩:=BK rfl I2 (λb o q hb _=>kp b o q hb) up;refine⟨e,C,H2,rfl,⟨I2.os,I2.bare,un',hok',BL,_,t',x1,λb o q hb hc=>?_⟩,hE e BL⟩;have yU:b∉frs (dX (gw P w) P w K mg aV N bf aZ f cd A aU s H E).stack:=λz=>by
  rcases afU.mp (I2.jO b z) with z1|z1
  ·rcases hc with z2|⟨o',z2⟩
   ·exact z2<|I2.oJ b z
   ·have h1:=afB z2
    have h2:=I2.ok.above;rw[z1]at h1;exact absurd (afH h1 h2)<|afQ _
  ·exact hb z1
 obtain⟨o2,q2⟩:∃o2,s2.heap.get? b=some o2:=by
  rcases hc with z|⟨o',z⟩
  ·cases hz:H2 b with
   |none=>exact absurd hz z
   |some u=>exact(I2.hok b u hz).there
  ·exact I2.base.there b o' z (by intro q;cases q)
 have q3:=kp b o2 q2 yU;rw[q]at q3;cases q3;exact agX _ q2 yU
theorem gY.vU {x:Str}{st:aJ}{fd:FuncData}{ps:aP Str}{k:Nat}{sp:Sp}(F:gY K x bf st f fd)(S:cu N ps (bN st))
  (hbody:∀(dJ:ak) (A:aq) (aU:aP Env) (s:ao) (H:Hp) (vs:aP V) (Q:VK) (E:XK),gK k (A.deeper<|envOfC bf (bN st) s.heap.objs.size f dJ)->sp vs H Q E->
   ∃t,yR (dX (gw P w) P w K mg aV N bf (bN st) f dJ A aU s H E) (cY st) t/\t (Ends.of Q) (start N vs) H) (len:∀vs H Q E,sp vs H Q E->vs.length=ps.length:=by rintro _ _ _ _ ⟨⟩;subst_vars;rfl):cX P w K mg aV (gw P w) (k+1) f fd ps sp:=by
 obtain⟨oc,od,kV,nF,pm,an,dJ,ct,osl,rfl,lk,yX⟩:=F.ex;exact QX lk yX S len λA aU s H vs Q E hr hsp=>hbody dJ A aU s H vs Q E hr hsp
end
end L2
namespace PySem
theorem pY {M:Model}{A:aq}{E:ak->ao->Prop}{nm q nm' q':Str}{C N D N':aj}{bs bm bs' bm':aP ak}{hdct KJ:Bool}{sn sn':aP Str}{sub sub':aP ak}{ab ab':Bool}{col col':aO Bool}{dd Fj:aO aj}{k0 k1 k2 k3 k5 j0 j1 j2 j3 j5:aO ak}{jo j4:String}
  {h:aK} {g:Array GenState} {d:Drawn} {t:Nat} {os:OsState} {e:aj} {oe:Obj} {Q:Bool->ao->Prop}
  (hC:h.get? C=some (excClassObj nm q C N bs bm hdct sn sub ab col dd k0 k1 k2 k3 k5 jo)) (hD:h.get? D=some (excClassObj nm' q' D N' bs' bm' KJ sn' sub' ab' col' Fj j0 j1 j2 j3 j5 j4)) (he:h.get? e=some oe) (hcls:oe.cls=.ref C) (pW:bm'.contains (.type "BaseException")=true) (hsub:(Value.ref C::bm).contains (.ref D)=true)
  (hq:Q true ⟨h,g,d,t,os⟩):wpAny M A (excMatches (.ref e)<|.ref D) Q E ⟨h,g,d,t,os⟩:=by
 have hcB:(Value.ref D::bm').contains (.type "BaseException")=true:=by rw[List.contains_cons,pW,Bool.or_true]
 have f:=tc_notTuple;unfold excMatches
 repeat (first|(with_reducible refine wpAny_loadPart_at he ?_;rw[hcls])|with_reducible refine wpAny_loadPart_at hD ?_|(with_reducible refine wpAny_isSubtype_exc hD ?_;rw[hcB])|(with_reducible refine wpAny_isSubtype_exc hC ?_;rw[hsub])|wp_step)
 exact hq
end PySem
namespace L2
noncomputable def jz (X:Cx)(bH:List (aj×Obj))(xe:ak->ao->Prop):Cx:={X with pn:=X.pn++bH,xe:=xe}
section
variable {X:Cx}{bH p2:List (aj×Obj)}{U:St}{H:Hp}{s:ao}{xe:ak->ao->Prop}
theorem Rn (ok:X.Ok):(jz X bH xe).Ok:=⟨ok.mod,ok.kind,ok.glob,ok.blt,ok.above,ok.inj,ok.has,ok.cab,ok.hd,ok.frames,ok.stk,ok.Vq,ok.bs,ok.DR,ok.vG,ok.wM,ok.mU,ok.Hv⟩
theorem Ro (ok:(jz X bH xe).Ok):X.Ok:=⟨ok.mod,ok.kind,ok.glob,ok.blt,ok.above,ok.inj,ok.has,ok.cab,ok.hd,ok.frames,ok.stk,ok.Vq,ok.bs,ok.DR,ok.vG,ok.wM,ok.mU,ok.Hv⟩
theorem Inv.acV (I:Inv X bH U H s):Inv (jz X bH xe) [] U H s :=
 ⟨Rn I.ok,I.os,I.bare,I.base,I.loc,I.cell,I.free,I.jx,λp hp=>I.pin p (by
  have:p∈(X.pn++bH)++[]:=hp
  rwa [agh]at this),I.hok,I.len⟩
theorem Inv.zT (I:Inv (jz X bH xe) p2 U H s):Inv X bH U H s :=
 ⟨Ro I.ok,I.os,I.bare,I.base,I.loc,I.cell,I.free,I.jx,λp hp=>I.pin p<|agg _ hp,I.hok,I.len⟩
theorem Inv.stays {h':aK}(hex:X.ex=[])(I:Inv X bH U H s)
  (kp:∀b o,s.heap.get? b=some o->b∉frs X.stack->(H b≠none\/(∃o',X.s₀.heap.get? b=some o')\/b∈(X.pn++bH).map (·.1))->h'.get? b=some o) (sl:s.heap.UpToSlots h'):Inv X bH U H {s with heap:=h'}:=by
 obtain⟨un,hok⟩:=BK hex I (λb o q hb hc=>kp b o q hb<|hc.elim .inl λz=>.inr<|.inl z) sl;obtain⟨m,hn,hl⟩:=I.loc;have cel:∀{c v},s.heap.IsCell c v->h'.IsCell c v:=λ{c v} ⟨o,q,hd⟩=>by
  obtain⟨sl',q'⟩:=sl c o q (λvs z=>by rw[hd]at z;cases z);exact⟨_,q',hd⟩
 have un2:Un X.fs X.ex X.H₀ H X.s₀.heap h':=by rw[hex];exact un
 refine⟨I.ok,I.os,I.bare,un2,⟨m,sl.ns hn,λi x v q1 q2 q3=>?_⟩,λx c q=>?_,I.free,I.jx,λp hp=>?_,hok,I.len⟩
 ·obtain⟨u,r,l⟩:=hl i x v q1 q2 q3
  refine⟨u,r,?_⟩;rcases l with l|⟨l1,c,l2,l3⟩
  ·exact .inl l
  ·exact .inr ⟨l1,c,l2,cel l3⟩
 ·obtain⟨v,q'⟩:=I.cell x c q
  exact⟨v,cel q'⟩
 ·obtain⟨p1,p2,p3,p4,p5⟩:=I.pin p hp
  refine⟨kp _ _ p1 (λz=>?_)<|.inr (.inr<|agB hp),p2,p3,p4,p5⟩;rcases afU.mp (I.jO _ z) with z1|z1
  ·exact p3 z1
  ·exact p4 z1
end
def XT (X:Cx)(bH:List (aj×Obj))(EX:St->XK):ak->ao->Prop:=λe s'=>∃ea C U H',e=.ref ea/\Inv X bH U H' s'/\H' ea=none/\
 (∃(B:aK) (t:aj),Heap.FlyingW B X.stack ea (.ref C) (.ref t) s'.heap/\(∀p∈X.pn++bH,p.1≠ea)/\∀b o,s'.heap.get? b=some o->b∉frs X.stack->(H' b≠none\/(∃o',X.s₀.heap.get? b=some o')\/b∈(X.pn++bH).map (·.1))->B.get? b=some o)/\EX U (.ref C) (some ea) H'
def aaM (sp:Sp)(EX:St->XK)(t:TA):TE:=λU H Q=>t U H λvs H1=>sp vs H1 Q (EX U)
noncomputable def sX (X:Cx)(ea:aj)(bH:List (aj×Obj)):Cx:={X with A:=X.A.mark<|some (.ref ea),calm:=false,pn:=X.pn++bH,xe:=λ_ _=>False}
section
variable {X:Cx}{bH p2:List (aj×Obj)}{U:St}{H:Hp}{s:ao}{ea:aj}
theorem Inv.KN (I:Inv X bH U H s):Inv (sX X ea bH) [] U H s :=
 ⟨⟨I.ok.mod,I.ok.kind,I.ok.glob,I.ok.blt,I.ok.above,I.ok.inj,I.ok.has,I.ok.cab,(λz=>by cases z),I.ok.frames,I.ok.stk,I.ok.Vq,I.ok.bs,I.ok.DR,I.ok.vG,I.ok.wM,I.ok.mU,I.ok.Hv⟩,
  I.os,I.bare,I.base,I.loc,I.cell,I.free,I.jx,λp hp=>I.pin p (by
  have:p∈(X.pn++bH)++[]:=hp
  rwa [agh]at this),I.hok,I.len⟩
theorem Inv.vV (hd:X.calm=true->X.A.handled=none)(I:Inv (sX X ea bH) p2 U H s):Inv X bH U H s :=
 ⟨⟨I.ok.mod,I.ok.kind,I.ok.glob,I.ok.blt,I.ok.above,I.ok.inj,I.ok.has,I.ok.cab,hd,I.ok.frames,I.ok.stk,I.ok.Vq,I.ok.bs,I.ok.DR,I.ok.vG,I.ok.wM,I.ok.mU,I.ok.Hv⟩,
  I.os,I.bare,I.base,I.loc,I.cell,I.free,I.jx,λp hp=>I.pin p<|agg _ hp,I.hok,I.len⟩
theorem Inv.V6 {o:Obj}(I:Inv X bH U H s)(e:s.heap.get? ea=some o)(n:H ea=none)(nl:ea≠X.env.locals)(nf:ea∉X.fs)(nc:∀v,o.data≠.cell v):Inv X (bH++[(ea,o)]) U H s :=
 ⟨I.ok,I.os,I.bare,I.base,I.loc,I.cell,I.free,I.jx,λp hp=>by
  rw[<-afM]at hp;rcases agd.mp hp with hp|hp
  ·exact I.pin p hp
  ·rw[afN]at hp
   subst hp;exact⟨e,n,nl,nf,nc⟩,I.hok,I.len⟩
theorem Inv.vW (I:Inv X (bH++p2) U H s):Inv X bH U H s :=
 ⟨I.ok,I.os,I.bare,I.base,I.loc,I.cell,I.free,I.jx,λp hp=>I.pin p (by rw[<-afM];exact agg _ hp),I.hok,I.len⟩
theorem qJ {M:Model}{A:aq}{E:ak->ao->Prop}{i:Nat}{n:Str}{pos:Pos}{Q:Unit->ao->Prop}(I:Inv X bH U H s)(hN:X.N.Nodup)(hi:X.N[i]?=some n)(hn:X.env.scope.names.lookup n=some .local)
  (h:∀s',Inv X bH (U.set i none) H s'->Q () s'):wpAny M A (do bindName X.env n .none;unbindBehindTheSuite X.env n pos) Q E s:=by
 obtain⟨m,hns,hl⟩:=I.loc;refine wpAny_nameGoes_keeps (m:=m) hn hns (by rw[I.ok.kind];rfl) λh' v hns' hsb=>h _ ?_;have same:∀{b},b≠X.env.locals->h'.get? b=s.heap.get? b:=λnb=>hsb.2 _ nb;have old:∀{b o},X.s₀.heap.get? b=some o->b≠X.env.locals:=λ{b o} e z=>by
  have h1:=afB e;have h2:=I.ok.above;rw[z]at h1;exact absurd (afH h1 h2)<|afQ _
 have cel:∀{c u},c≠X.env.locals->s.heap.IsCell c u->h'.IsCell c u:=λnc ⟨o,q,hd⟩=>⟨o,(same nc).trans q,hd⟩;refine⟨I.ok,I.os,I.bare,⟨λb o e n' hb hx=>(same<|old e).trans<|I.base.keep b o e n' hb hx,λb o e n' hb hx=>?_,I.base.free,λb o e hx=>?_,I.base.tups,I.base.sE,I.base.ur⟩,⟨_,hns',λj y u e1 e2 e3=>?_⟩,λx c q=>?_,I.free,I.jx,λp hp=>?_,I.hok.Zh λb u nb q=>?_,by rw[agY];exact I.len⟩
 ·obtain⟨sl,q⟩:=I.base.slot b o e n' hb hx
  exact⟨sl,(same<|old e).trans q⟩
 ·obtain⟨o',q⟩:=I.base.there b o e hx
  exact⟨o',(same<|old e).trans q⟩
 ·have hji:j≠i:=λz=>by
   rw[z,List.getElem?_set]at e2;simp only[if_true]at e2;split at e2<;>cases e2
  rw[agK (ahO hji)]at e2;have hyn:y≠n:=λz=>by
   rw[z]at e1;obtain⟨l1,q1⟩:=ahW e1;obtain⟨l2,q2⟩:=ahW hi;rcases Nat.lt_or_gt_of_ne hji with lt|lt
   ·exact List.pairwise_iff_getElem.mp hN _ _ l1 l2 lt<|q1.trans q2.symm
   ·exact List.pairwise_iff_getElem.mp hN _ _ l2 l1 lt<|q2.trans q1.symm
  obtain⟨w',r,l⟩:=hl j y u e1 e2 e3;refine⟨w',r,?_⟩;rcases l with ⟨l1,l2⟩|⟨l1,c,l2,l3⟩
  ·exact .inl ⟨l1,by show(if y=n then v else m y)=some w';rw[ahL hyn];exact l2⟩
  ·exact .inr ⟨l1,c,l2,cel (I.Vs y c l2) l3⟩
 ·obtain⟨v',q'⟩:=I.cell x c q
  exact⟨v',cel (I.Vs x c q) q'⟩
 ·obtain⟨p1,p2',p3,p4,p5⟩:=I.pin p hp
  exact⟨(same p3).trans p1,p2',p3,p4,p5⟩
 ·exact(same λz=>nb<|by rw[z];exact I.free).trans q
end
def mH (h:aK)(C D:aj):Prop:=∃(nm q nm' q':Str) (N N':aj) (bs bm bs' bm':List ak) (hdct KJ:Bool) (sn sn':List Str) (sub sub':List ak) (ab ab':Bool) (col col':Option Bool) (dd Fj:Option aj) (k0 k1 k2 k3 k5 j0 j1 j2 j3 j5:Option ak) (jo j4:String),
 h.get? C=some (excClassObj nm q C N bs bm hdct sn sub ab col dd k0 k1 k2 k3 k5 jo)/\h.get? D=some (excClassObj nm' q' D N' bs' bm' KJ sn' sub' ab' col' Fj j0 j1 j2 j3 j5 j4)/\bm'.contains (.type "BaseException")=true/\(Value.ref C::bm).contains (.ref D)=true
def Fp (i:Nat)(D:Ends):Ends:={nx:=λU H=>D.nx (U.set i none) H,rt:=D.rt,bk:=λU H=>D.bk (U.set i none) H,ct:=λU H=>D.ct (U.set i none) H}
def aeh (i:Nat)(EX:St->XK)(tb:TS)(ts:aj->aj->TS):TS:=λD U H=>tb D U H/\∀U' C ea H',EX U' (.ref C) (some ea) H'->H' ea=none->ts ea C (Fp i D) (U'.set i<|some (.ref ea)) H'
def pZ (a:aj)(o:Obj):HO:=.ext λh=>h.get? a=some o
noncomputable def del (H:Hp)(c:aj):Hp:=λb=>if b=c then none else H b
section
variable {P:aA}{w:aG}{H H':Hp}{h h':aK}{a b c:aj}{o:Obj}
theorem Fq:del H c c=none:=ahK rfl
theorem qd (n:b≠c):del H c b=H b:=ahL n
theorem V7 (e:h.get? a=some o):fQ P w H h a (pZ a o):=⟨e,⟨o,e⟩,λh1 h2 q k=>k o q⟩
theorem vX (ok:mj P w H h)(q:H a=some (pZ a o)):h.get? a=some o:=(ok a _ q).1
theorem Rp {y:aj}(e:H c=some (pZ c o))(q:H b=some (.own y)):b≠c:=λz=>by
 rw[z,e]at q;have q':some (HO.ext _)=some (HO.own y):=q;cases q'
theorem Rq {xs:aP V}(e:H c=some (pZ c o))(q:H b=some (.tup xs)):b≠c:=λz=>by
 rw[z,e]at q;have q':some (HO.ext _)=some (HO.tup xs):=q;cases q'
theorem mj.del (ok:mj P w H h)(e:H c=some (pZ c o)):mj P w (L2.del H c) h:=λb u q=>by
 by_cases hb:b=c
 ·rw[hb,Fq]at q;cases q
 ·rw[qd hb]at q
  exact(ok b u q).stay (λ_ _ _ e=>e) (λd r=>by rw[qd (Rp e r)];exact r) λd xs r=>by rw[qd (Rq e r)];exact r
theorem mj.obj (ok:mj P w H h)(n:H c=none)(e:h.get? c=some o):mj P w (upd H c<|pZ c o) h:=λb u q=>by
 by_cases hb:b=c
 ·subst hb;rw[bA]at q;cases q;exact V7 e
 ·rw[bV hb]at q
  exact(ok b u q).stay (λ_ _ _ e=>e) (λd r=>by rw[bV (bY r n)];exact r) λd xs r=>by rw[bV (bY r n)];exact r
theorem Un.lent {fs:aP aj}{H1:Hp}(un:Un fs [] (upd H c<|pZ c o) H1 h h')(n:H c=none)(e:h.get? c=some o)(e':H1 c=some (pZ c o))(k:h'.get? c=some o):Un fs [] H (L2.del H1 c) h h' where
 keep:=λb ob q m hb hx=>by
  by_cases z:b=c
  ·subst z;rw[e]at q;cases q;exact k
  ·exact un.keep b ob q (by rw[bV z];exact m) hb hx
 slot:=λb ob q m hb hx=>by
  by_cases z:b=c
  ·subst z;rw[e]at q;cases q;exact⟨o.slots,k⟩
  ·exact un.slot b ob q (by rw[bV z];exact m) hb hx
 free:=λb ob q m hx=>by
  by_cases z:b=c
  ·rw[z];exact Fq
  ·rw[qd z];exact un.free b ob q (by rw[bV z];exact m) hx
 there:=λb ob q hx=>un.there b ob q hx
 tups:=λb xs q=>by
  have z:=bY q n;rw[qd z];exact un.tups b xs (by rw[bV z];exact q)
 sE:=λb ob u q=>by
  have z:=bY q n;rw[qd z];exact un.sE b ob u (by rw[bV z];exact q)
 ur:=λb ps q=>by
  have z:=bY q n;rw[qd z];exact un.ur b ps (by rw[bV z];exact q)
end
open PySem.Builtin.Getset_descriptor
section
variable {K:aN}{M:Model}{h:aK}{x C:aj}{name:Str}{ax gx:ak}
theorem BP {ob:Obj}(e:h.get? x=some ob)(c:ob.cls=.ref C):PySem.W.Looks M h (typeOf<|.ref x) (.ref C):=by
 rw[<-c];exact(PySem.W.Looks.ld e).andThen .now
theorem NK (X:K.In h)(h1:findIn K (.ref C) name=some (some ax))(h2:specialIn K ax "__get__"=some (some gx))(h3:takesIn K ax=some true):
  PySem.W.Looks M h (Builtin.ObjectAttr.find (.ref x) (.ref C) name) (.bind gx ax):=by
 have e1:=agT (M:=M) X h1;have e2:PySem.W.Looks M h (Builtin.ObjectAttr.getOf<|some ax) (some gx):=PySem.W.looks_specialIn X h2;have e3:PySem.W.Looks M h (Builtin.ObjectAttr.dataDescriptor? (some ax)<|some gx) (some (gx,ax)):=(PySem.W.looks_takesIn X h3).andThen .now;exact e1.andThen<|e2.andThen (e3.andThen<|.tag .now)
end
section
variable {prog:aA}{w:aG}{A:aq}{E:ak->ao->Prop}{s:ao}{K:aN}{x C:aj}{ob:Obj}
theorem zf {R:Result->ao->Prop}{tp:ak}(X:K.In s.heap)(e:s.heap.get? x=some ob)(c:ob.cls=.ref C)(hm:mroIn K C (.type "object")=some true)(q:R (.ok<|.ret (.ref C)) s):
  codeAny (model prog w) A (.call (.builtin "getset_descriptor.__get__") ⟨[.builtin "object.__class__", .ref x,tp],[]⟩) R s:=by
 obtain⟨hp,gn,dr,tk,os⟩:=s;have y1:=BP (M:=model prog w) e c;have y2:=PySem.W.looks_mroIn (M:=model prog w) X hm;refine codeAny_call_builtin PySem.W.KF.slot_gs.plain PySem.W.KF.entry_gs ?_;refine PySem.W.KF.slot_gs.check _ _ _ _ _ _ _ _ PySem.W.KF.type_class (PySem.W.KF.args_gs _ _ _) ?_;unfold Builtin.«getset_descriptor.__get__»;unfold descrGet;rw[PySem.W.dga_obj];refine abI<|ahI ?_;unfold descrGetter descrCheckInstance;unfold descrNameAndClass isInstance;simp only[PySem.W.KF.owner_class]
 repeat lk
 refine⟨Code.quiet_builtin _ (by decide+kernel),?_⟩;refine codeAny_builtin PySem.W.KF.entry_class ?_;unfold Builtin.«object.__class__»;unfold shownTypeOf
 repeat lk
 exact q
theorem NP {Q:Unit->ao->Prop}{nameV:ak}(X:K.In s.heap)(e:s.heap.get? x=some ob)(c:ob.cls=.ref C)(gb:mroIn K C (.type "BaseException")=some true)(q:Q () s):
  wpAny (model prog w) A (checkBuiltinCall "BaseException.__getattribute__" ⟨[.ref x,nameV],[]⟩) Q E s:=by
 obtain⟨hp,gn,dr,tk,os⟩:=s;have y1:=BP (M:=model prog w) e c;have y2:=PySem.W.looks_mroIn (M:=model prog w) X gb;have k1:builtinKind "BaseException.__getattribute__"=some .slot:=by decide+kernel
 have k2:splitId "BaseException.__getattribute__"=some ("BaseException","__getattribute__"):=by decide+kernel
 have k3:=F.args_bexc_ga (.ref x) nameV;simp only[checkBuiltinCall,k1,k2];unfold isInstance;refine abI<|abI (y1.at<|y2.at ?_);rw[ahL (by decide)];cases hz:Manifest.signature? "BaseException.__getattribute__" with
 |none=>exact ahI q
 |some sig=>
  simp only[argsOk,hz]at k3;have k4:Bind.checkArgs "BaseException.__getattribute__" sig ⟨[.ref x,nameV],[]⟩=pure ():=k3;show wpAny _ _ (Bind.checkArgs "BaseException.__getattribute__" sig ⟨[.ref x,nameV],[]⟩) _ _ _;rw[k4];exact ahI q
variable (g0:findIn K (.ref C) "__getattribute__"=some (some<|.builtin "BaseException.__getattribute__"))(g1:findIn K (.ref C) "__getattr__"=some none)(gb:mroIn K C (.type "BaseException")=some true)
 (g2:findIn K (.ref C) "__class__"=some (some<|.builtin "object.__class__")) (g3:specialIn K (.builtin "object.__class__") "__get__"=some (some<|.builtin "getset_descriptor.__get__"))
 (g4:takesIn K (.builtin "object.__class__")=some true) (g5:mroIn K C (.type "object")=some true)
include g0 g1 gb g2 g3 g4 g5
theorem NQ {Q:aO ak->ao->Prop}(X:K.In s.heap)(e:s.heap.get? x=some ob)(c:ob.cls=.ref C)(q:Q (some<|.ref C) {s with toks:=s.toks+1}):wpAny (model prog w) A (getAttr? (.ref x) "__class__") Q E s:=by
 obtain⟨hp,gn,dr,tk,os⟩:=s;have y1:=BP (M:=model prog w) e c;have y2:=agT (M:=model prog w) X g0;have y3:=agT (M:=model prog w) X g1;have y4:=NK (M:=model prog w) (x:=x) X g2 g3 g4;unfold getAttr? getAttrBy?;unfold getAttrBy;refine abI<|wpAny_mkText ?_;refine abI<|wpAny_attempt (ahV ?_);refine abI<|y1.at ?_;refine abI<|y2.at ?_;show wpAny _ _ (getAttrByItsOwn _ _ _ _ _ _) _ _ _;unfold getAttrByItsOwn;refine abI<|(show PySem.W.Looks (model prog w) hp (hookBefore<|.ref C) none from y3).at ?_;refine abI<|wpAny_attempt (ahV ?_);show wpAny _ _ (boundAndCalled _ _ _) _ _ _;unfold boundAndCalled;rw[F.excAttr_ValueError.ga.bind];refine abI<|ahI (wpAny_call<|codeAny_call_builtin F.excAttr_ValueError.ga.plain F.entry_bexc_ga (NP X e c gb ?_));unfold Builtin.«object.__getattribute__»;refine abI<|ahI (abI<|ahI (abI<|y1.at (abI<|y4.at ?_)));show wpAny _ _ (holding [_] (call _ [_,_,_])>>=ret) _ _ _;refine abI<|ahV (wpAny_call<|zf X e c g5 ?_);refine ahI ?_;exact PySem.W.handed_on rfl (ahI q)
end
structure oZ (K:aN)(C:aj):Prop where
 g0:findIn K (.ref C) "__getattribute__"=some (some<|.builtin "BaseException.__getattribute__")
 g1:findIn K (.ref C) "__getattr__"=some none
 gb:mroIn K C (.type "BaseException")=some true
 g2:findIn K (.ref C) "__class__"=some (some<|.builtin "object.__class__")
 g3:specialIn K (.builtin "object.__class__") "__get__"=some (some<|.builtin "getset_descriptor.__get__")
 g4:takesIn K (.builtin "object.__class__")=some true
 g5:mroIn K C (.type "object")=some true
 lk:∃c0 d0 cd sl,K.lookup C=some ⟨c0,d0, .cls cd,sl⟩
theorem xg {K:aN}{x C:aj}(S:oZ K C):PySem.W.KitX K (.ref x) (.ref C) (λh=>∃ob,h.get? x=some ob/\ob.cls=.ref C) where
 ty:=λ_ _ _ ⟨ob,e,c⟩=>BP e c
 it:=λM h X _=>by
  obtain⟨c0,d0,cd,sl,q⟩:=S.lk;intro A' Q' E' s' k z;unfold isType;unfold loadHead;exact abI<|wpAny_loadPart (k _ _<|X _ _ q) (ahI z)
 ne:=λh tp dd bh n sl X e=>by
  obtain⟨c0,d0,cd,sl',q⟩:=S.lk;cases hz:(Value.ref C==Value.ref tp) with
  |false=>rfl
  |true=>
   have z:C=tp:=by simpa using hz
   have e2:=X _ _ q;rw[z,e]at e2;cases e2
 ca:=λ{prog w A E Q s} X ⟨ob,e,c⟩ k=>NQ S.g0 S.g1 S.gb S.g2 S.g3 S.g4 S.g5 X e c k
section
variable {X:Cx}
theorem qK:jL X (.builtin "isinstance") (λxs H Q=>∃ea ob C D b,xs=[.ref ea, .ref D]/\H ea=some (pZ ea ob)/\ob.cls=.ref C/\oZ X.K C/\kitOne X.K (.ref C) (.ref D)=some b/\Q (.bl b) H):=by
 intro bH s U H xs us Q I r h;obtain⟨ea,ob,C,D,b,rfl,e,c,S,k,q⟩:=h;obtain⟨u,u',rfl,rx,ry⟩:=vals2 r;cases(show u=Value.ref ea from rx);cases(show u'=Value.ref D from ry);exact agc (xg S) I.qU ⟨ob,vX I.hok e,c⟩ k (λz=>nomatch z) λtk=>⟨.bl b,H,I.tok tk,rfl,q⟩
theorem NT:jL X (.builtin "isinstance") (λxs H Q=>∃ea ob C T b,xs=[.ref ea, .ty T]/\H ea=some (pZ ea ob)/\ob.cls=.ref C/\oZ X.K C/\kitOne X.K (.ref C) (.type T)=some b/\Q (.bl b) H):=by
 intro bH s U H xs us Q I r h;obtain⟨ea,ob,C,T,b,rfl,e,c,S,k,q⟩:=h;obtain⟨u,u',rfl,rx,ry⟩:=vals2 r;cases(show u=Value.ref ea from rx);cases(show u'=Value.type T from ry);exact agc (xg S) I.qU ⟨ob,vX I.hok e,c⟩ k (λz=>nomatch z) λtk=>⟨.bl b,H,I.tok tk,rfl,q⟩
theorem zU:∀{ds:List aj} {us:List ak},Vals (ds.map V.ref) us->us=ds.map Value.ref
 |[],us,r=>by cases r;rfl
 |d::ds,us,r=>by
  cases r with
  |cons a b=>rw[afW,<-zU b];cases(show _=Value.ref d from a);rfl
theorem NZ:jL X (.builtin "isinstance") (λxs H Q=>∃(ea:aj) (ob:Obj) (C tp:aj) (ds:aP aj) (b:Bool),xs=[.ref ea, .ref tp]/\H ea=some (pZ ea ob)/\ob.cls=.ref C/\oZ X.K C/\H tp=some (.tup<|ds.map V.ref)/\kitAny X.K (.ref C) (ds.map Value.ref)=some b/\Q (.bl b) H):=by
 intro bH s U H xs us Q I r h;obtain⟨ea,ob,C,tp,ds,b,rfl,e,c,S,et,k,q⟩:=h;obtain⟨u,u',rfl,rx,ry⟩:=vals2 r;cases(show u=Value.ref ea from rx);cases(show u'=Value.ref tp from ry);obtain⟨_,bh,rv,o,ho,hc,n,hd⟩:=(show fQ X.prog X.w H s.heap tp (.tup<|ds.map V.ref) from I.hok tp _ et);have ei:=zU rv;subst ei;obtain⟨oc,od,dt,sl⟩:=o;have hc':oc=.type "tuple":=hc;have hd':dt=.seq (ds.map Value.ref).toArray n:=hd;subst hc' hd';exact PySem.W.kia_tup (xg S) I.qU ⟨ob,vX I.hok e,c⟩ ho k (λz=>nomatch z) λtk=>⟨.bl b,H,I.tok tk,rfl,q⟩
end
structure xq (k:Nat)(A:aq):Prop where
 dp:A.depth+3*k+5<recursionLimit
 un:A.units+16*k+200<cLine
theorem gK.marked {k:Nat}{A:aq}{e:aO ak}(r:gK k A):xq k (A.mark e):=⟨r.dp,r.un⟩
theorem xq.deeper {k:Nat}{A:aq}(r:xq (k+1) A)(env:Env):xq k (A.deeper env) :=
 ⟨by have:=r.dp;show A.depth+1+3*k+5<_;omega,by have:=r.un;show A.units+3+16*k+200<_;omega⟩
structure Fv (P:aA)(w:aG)(K:aN)(mg:Str->Option ak)(aV:aK)(k:Nat)(f:aj)(fd:FuncData)(ps:List Str)(sp:Sp):Prop where
 len:∀vs H Q E,sp vs H Q E->vs.length=ps.length
 run:∀(A:aq) (aU:List Env) (s:ao) (H:Hp) (args:Args) (us:List ak) (vs:List V) (Q:VK) (E:XK),xq k A->yZ P w K mg aV A aU s H->BindsTo s fd args (ps.zip us)->Vals vs us->sp vs H Q E->
  codeAny (model P w) A (.call (.ref f) args) (CR jG aU P w H s Q E) s
noncomputable def Zj (P:aA)(w:aG)(K:aN)(mg:Str->Option ak)(aV:aK)(N:List Str)(bf:Str)(aZ:Scope)(f:aj)(cd:ak)(A:aq)(aU:List Env)(s:ao)(H:Hp):Cx :=
 {dX jG P w K mg aV N bf aZ f cd A aU s H E0 with calm:=false,xe:=λ_ _=>False}
theorem gY.okM {P:aA}{w:aG}{K:aN}{mg:Str->Option ak}{aV:aK}{x bf:Str}{st:aJ}{f:aj}{fd:FuncData}{N ps:List Str}{k:Nat}{sp:Sp}(F:gY K x bf st f fd)(S:cu N ps (bN st))
  (hbody:∀(dJ:ak) (A:aq) (aU:List Env) (s:ao) (H:Hp) (vs:List V) (Q:VK) (E:XK),xq k (A.deeper<|envOfC bf (bN st) s.heap.objs.size f dJ)->sp vs H Q E->
   ∃t,yR (Zj P w K mg aV N bf (bN st) f dJ A aU s H) (cY st) t/\t (Ends.of Q) (start N vs) H) (len:∀vs H Q E,sp vs H Q E->vs.length=ps.length:=by rintro _ _ _ _ ⟨⟩;subst_vars;rfl):Fv P w K mg aV (k+1) f fd ps sp:=by
 obtain⟨oc,od,kV,nF,pm,an,dJ,ct,osl,rfl,lk,yX⟩:=F.ex;refine⟨len,λA aU s H args us vs Q E hr e0 hb r hsp=>?_⟩;have hl:=len _ _ _ _ hsp;have KX:K.In s.heap:=e0.mod.MN.keeps λb o q=>(e0.bs b o q).1;have lim:s.heap.NoLimit:=e0.mod.nolimit.keeps λb o q=>(e0.bs b o q).1;have aei:A.depth<recursionLimit:=by have:=hr.dp;omega
 have kinds:∀y∈ps.zip us,(bN st).names.lookup y.1=some .local\/((bN st).names.lookup y.1=some .cell/\((cellsFrom (s.heap.objs.size+1) (bN st).names []).lookup y.1).isSome=true):=λy hy=>by
  have hm:(y.1,y.2)∈ps.zip us:=hy;rcases S.par y.1 (ahc hm).1 with z|z
  ·exact .inl z
  ·exact .inr ⟨z,ag7 _ _ _<|.inl z⟩
 refine codeAny_call_function aei (KX _ _ lk) rfl S.co S.gen rfl (PySem.W.codeRec_of KX yX) ?_;refine hb _ _ _ _ ?_;refine wpAny_newFunctionEnv_cells S.kind kinds λenv he s1 y=>?_;subst he;refine⟨lim.keeps y.toInCall.keep,?_⟩;refine codeAny_func ?_;obtain⟨t,ht,hq⟩:=hbody dJ A aU s H vs Q E (hr.deeper _) hsp;have e1:yZ P w K mg aV {A with handled:=none} aU s H:=⟨e0.frames,e0.mod,e0.bs,e0.DR,e0.mU,e0.Hv,e0.hok,e0.bare⟩;have I0:=zN (CX:=jG) (bf:=bf) (f:=f) (cd:=dJ) (E:=E0) S (A:={A with handled:=none}) rfl e1 hl r y;have I:Inv (Zj P w K mg aV N bf (bN st) f dJ A aU s H) [] (start N vs) H s1 :=
  ⟨⟨I0.ok.mod,I0.ok.kind,I0.ok.glob,I0.ok.blt,I0.ok.above,I0.ok.inj,I0.ok.has,I0.ok.cab,(λz=>by cases z),Around.frames_deeper e0.frames,I0.ok.stk,I0.ok.Vq,I0.ok.bs,I0.ok.DR,I0.ok.vG,I0.ok.wM,I0.ok.mU,I0.ok.Hv⟩,
   I0.os,I0.bare,I0.base,I0.loc,I0.cell,I0.free,I0.jx,I0.pin,I0.hok,I0.len⟩
 refine wpAny_mono (ht [] s1 (start N vs) H _ I hq) (λfl s' hs=>?_) λe s' z=>ahT z;cases fl with
 |ret u=>
  obtain⟨v,U',H',J,rv,q⟩:=hs;exact⟨v,H',J.os,J.bare,J.base,J.hok,rv,q⟩
 |next=>
  obtain⟨U',H',J,q⟩:=hs;exact⟨V.non,H',J.os,J.bare,J.base,J.hok,rfl,q⟩
 |brk=>
  obtain⟨_,_,_,q⟩:=hs;exact ahT q
 |cont=>
  obtain⟨_,_,_,q⟩:=hs;exact ahT q
def Io (ea:aj)(oe:Obj)(sp:Sp)(t:TA):TE:=λU H Q=>t U H λvs H1=>H1 ea=none->sp vs (upd H1 ea<|pZ ea oe) (λr H'=>H' ea=some (pZ ea oe)/\Q r (del H' ea)) E0
theorem Fx {X:Cx}{k:Nat}{x:Str}{ps:List Str}{sp:Sp}{p pos:Pos}{e:aH}{es:List aH}{t:TA}{f ea:aj}{oe:Obj}{fd:FuncData}(F:Fv X.prog X.w X.K X.mg X.base k f fd ps sp)(hb:Binds X.K fd ps [])(hk:keepIn X.K (.ref f)=true)(hm:X.mg x=some (.ref f))(hr:xq k X.A)(hg:Gl X x)
  (hp:(ea,oe)∈X.pn) (nb:X.base.get? ea=none) (ha:PA X (e::es) t)
  (hdb:(x==("__debug__":Str))=false:=by decide) (he:starEach (e::es) X.env=(false,eval e X.env)::starEach es X.env:=by rfl) (lC:(backTo pos<|starEach es X.env).any (·.1)=false:=by rfl):
  PE X (.Call (.Name x p) (e::es) [] pos) (Io ea oe sp t):=by
 intro bH s U H Q I h;refine wpAny_Call_Name_kw<|oK I hg hm ?_ hdb;refine agP (h₀:=X.base) I.ok.mod.MN hk (gk (ha pos bH s U H _ I h) λus s1 ⟨vs,H1,I1,r,q⟩=>⟨I1.qU,?_⟩) he lC;obtain⟨ho,n1,p3,p4,p5⟩:=I1.pin (ea,oe) (agg _ hp);have e0:yZ X.prog X.w X.K X.mg X.base X.A X.stack s1 (upd H1 ea<|pZ ea oe):=⟨I1.ok.frames,I1.ok.mod,λb o q=>⟨(I1.bs b o q).1,by
   rw[bV (λz=>by rw[z,nb]at q;cases q)];exact(I1.bs b o q).2⟩,afy I1.ok.DR I1.sz,I1.stack,λb hb'=>by
   have z:b≠ea:=λz=>by
    rcases afU.mp (I1.jO b hb') with z1|z1
    ·exact p3<|z.symm.trans z1
    ·exact p4<|z ▸ z1
   rw[bV z];exact I1.oJ b hb',I1.hok.obj n1 ho,I1.bare⟩
 have q':=q n1;have hl':us.length=ps.length:=by rw[<-r.length];exact F.len _ _ _ _ q'
 have bt:BindsTo s1 fd ⟨us,[]⟩ (ps.zip us):=by
  have:=hb s1 us I1.qU (by rw[agh];exact hl');rw[agh]at this;exact this
 refine wpAny_call<|codeAny_mono (F.run X.A X.stack s1 _ ⟨us,[]⟩ us vs _ _ hr e0 bt r q') λr' s' hq=>?_;cases r' with
 |error e=>exact ahT hq
 |ok fl=>
  cases fl with
  |ret u'=>
   obtain⟨v',H',os,bare,un,hok,r2,q1,q2⟩:=hq;exact I1.after ⟨v',_,os,bare,un.lent n1 ho q1<|vX hok q1,hok.del q1,r2,q2⟩
  |next=>exact ahT hq
  |brk=>exact ahT hq
  |cont=>exact ahT hq
def HT (X:Cx)(bH:List (aj×Obj))(EX:St->XK):ak->ao->Prop:=λe s2=>∃(ea C:aj) (U:St) (H':Hp) (s1:ao) (B:aK) (t:aj) (h4:aK),e=.ref ea/\s2={s1 with heap:=h4}/\Inv X bH U H' s1/\H' ea=none/\
 Heap.HeldW B (X.env::X.outer) ea (.ref C) (.ref t) X.env.locals h4/\s1.heap.UpToSlots h4/\(∀p∈X.pn++bH,p.1≠ea)/\
 (∀b o,s1.heap.get? b=some o->b∉frs X.stack->(H' b≠none\/(∃o',X.s₀.heap.get? b=some o')\/b∈(X.pn++bH).map (·.1))->B.get? b=some o)/\EX U (.ref C) (some ea) H'
def LT (X:Cx)(bH:List (aj×Obj))(EX:St->XK):ak->ao->Prop:=λe s=>wpAny (model X.prog X.w) X.A (noteFrame e X.env) (λ_ s2=>HT X bH EX e s2) (λ_ _=>False) s
theorem acW {X:Cx}{bH:aP (aj×Obj)}{EX:St->XK}{e:ak}{s1:ao}(jY:X.stack=X.env::X.outer)(hfr:X.env.frame=some X.env.locals)(q:XT X bH EX e s1):LT X bH EX e s1:=by
 obtain⟨ea,C,U',H',rfl,J,BL,⟨B,t,fl,acX,mG⟩,hE⟩:=q;have fl':Heap.FlyingW B (X.env::X.outer) ea (.ref C) (.ref t) s1.heap:=by rw[<-jY];exact fl
 have aej:X.A.frames=some (X.env::X.outer):=by rw[<-jY];exact J.ok.frames
 exact wpAny_looks_onW aej hfr fl' λh4 KQ sm4=>⟨ea,C,U',H',s1,B,t,h4,rfl,rfl,J,BL,KQ,sm4,acX,mG,hE⟩
theorem aaN {X:Cx}{bH:aP (aj×Obj)}{EX:St->XK}:PassesOwn (model (jz X bH<|LT X bH EX).prog (jz X bH<|LT X bH EX).w) (jz X bH<|LT X bH EX).A (jz X bH<|LT X bH EX).env (jz X bH<|LT X bH EX).xe:=PassesOwn.looking (M:=model X.prog X.w) (A:=X.A) (env:=X.env) (K:=HT X bH EX) (E₁:=λ_ _=>False)
theorem V8 {X:Cx}{bH:aP (aj×Obj)}{EX:St->XK}{tg dR:aH}{body:aP aJ}{wi:TI}{g:TG}{tb:TS}{pos:Pos}(hc:(jz X bH<|LT X bH EX).calm=true)(hi:PI (jz X bH<|LT X bH EX) tg dR wi)(hg:PG (jz X bH<|LT X bH EX) tg g)(hb:yR (jz X bH<|LT X bH EX) body tb)
  (hs:∀x,foldedSetIterable dR (jz X bH<|LT X bH EX).env x=pure x:=by intro _;rfl):PS (jz X bH<|LT X bH EX) (.For tg dR body [] pos) (aaw wi g tb):=mY aaN hc hi hg hb hs
theorem uL {X:Cx}{xr:List (aj×Obj)}{EX:St->XK}{k:Nat}{x:Str}{ps:List Str}{sp:Sp}{p pos:Pos}{e:aH}{es:List aH}{t:TA}{f:aj}{fd:FuncData}(jY:X.stack=X.env::X.outer)(hfr:X.env.frame=some X.env.locals)(hex:X.ex=[])(F:cX X.prog X.w X.K X.mg X.base (gw X.prog X.w) k f fd ps sp)(hb:Binds X.K fd ps [])(hk:keepIn X.K (.ref f)=true)(hm:X.mg x=some (.ref f))(hr:gK k X.A)(hg:Gl X x)
  (ha:PA (jz X xr<|LT X xr EX) (e::es) t) (hdb:(x==("__debug__":Str))=false:=by decide) (he:starEach (e::es) X.env=(false,eval e X.env)::starEach es X.env:=by rfl) (lC:(backTo pos<|starEach es X.env).any (·.1)=false:=by rfl):
  PE (jz X xr<|LT X xr EX) (.Call (.Name x p) (e::es) [] pos) (aaM sp EX t):=by
 intro bH s U H Q I h;refine wpAny_Call_Name_kw<|oK I hg hm ?_ hdb;refine agP (h₀:=X.base) I.ok.mod.MN hk (gk (ha pos bH s U H _ I h) λus s1 ⟨vs,H1,I1,r,q⟩=>⟨I1.qU,?_⟩) he lC;have hl':us.length=ps.length:=by rw[<-r.length];exact F.len _ _ _ _ q
 have bt:BindsTo s1 fd ⟨us,[]⟩ (ps.zip us):=by
  have:=hb s1 us I1.qU (by rw[agh];exact hl');rw[agh]at this;exact this
 refine wpAny_call<|codeAny_mono (F.run X.A X.stack s1 H1 ⟨us,[]⟩ us vs Q (EX U) hr I1.env0 bt r q) λr' s' hq=>?_;cases r' with
 |error e=>
  obtain⟨ea,C,H',rfl,⟨os,bare,un,hok,BL,B,tt,fl,mG⟩,hE⟩:=hq;have J0:Inv (jz X xr<|LT X xr EX) bH U H' s':=I1.call' os un hok bare (λb z=>absurd z<|by simp);have J:=J0.zT;have I1':=I1.zT;have nfr:∀{b},b∈(X.pn++xr).map (·.1)->b∉frs X.stack:=λ{b} hb z=>by
   obtain⟨p,hp,rfl⟩:=List.mem_map.mp hb;obtain⟨p1,p2,p3,p4,p5⟩:=I1'.pin p hp;rcases afU.mp (I1'.jO _ z) with z1|z1
   ·exact p3 z1
   ·exact p4 z1
  refine acW jY hfr ⟨ea,C,U,H',rfl,J,BL,⟨B,tt,fl,λp hp z=>?_,λb o q hb hc=>mG b o q hb ?_⟩,hE⟩
  ·obtain⟨p1,_⟩:=I1'.pin p hp
   have j1:=(J.pin p hp).1;have:=mG p.1 p.2 j1 (nfr<|agB hp) (.inr ⟨_,p1⟩);rw[z,fl.2.1]at this;cases this
  ·rcases hc with z|⟨o',z⟩|z
   ·exact .inl z
   ·exact .inr (I1'.base.there b o' z<|by rw[hex];simp)
   ·obtain⟨p,hp,rfl⟩:=List.mem_map.mp z
    exact .inr ⟨_,(I1'.pin p hp).1⟩
 |ok fl=>
  cases fl with
  |ret u=>exact I1.after hq
  |next=>exact ahT hq
  |brk=>exact ahT hq
  |cont=>exact ahT hq
theorem KR {X:Cx}{body suite:List aJ}{b₀:aJ}{y n:Str}{np hpos pos:Pos}{tb:TS}{ts:aj->aj->TS}{EX:St->XK}{D:aj}{i:Nat}(hex:X.ex=[])(jY:X.stack=X.env::X.outer)(hfr:X.env.frame=some X.env.locals)
  (hN:X.N.Nodup) (hi:X.N[i]?=some n) (hn:X.env.scope.names.lookup n=some .local) (hg:Gl X y) (hm:X.mg y=some (.ref D)) (hcls:∀U C ea H',EX U (.ref C) ea H'->mH X.base C D)
  (hb:∀bH,yR (jz X bH<|LT X bH EX) body tb) (hs:∀ea C oe bH,(ea,oe)∈bH->oe.cls=.ref C->X.base.get? ea=none->yR (sX X ea bH) (b₀::suite) (ts ea C)) (hdb:(y==("__debug__":Str))=false:=by decide):
  PS X (.Try body [.ExceptHandler (some<|.Name y np) (some n) (b₀::suite) hpos] [] [] pos) (aeh i EX tb ts):=by
 intro bH s U H De I h;obtain⟨h1,h2⟩:=h;refine wpAny_Try_except<|wpAny_mono (hb bH [] s U H De I.acV h1) (λf s1 q=>?_) (λe s1 q=>?_)
 ·cases f with
  |next=>obtain⟨U',H',J,q⟩:=q;exact wpAny_execs_nil ⟨U',H',J.zT,q⟩
  |ret u=>obtain⟨v,U',H',J,r,q⟩:=q;exact⟨v,U',H',J.zT,r,q⟩
  |brk=>obtain⟨U',H',J,q⟩:=q;exact⟨U',H',J.zT,q⟩
  |cont=>obtain⟨U',H',J,q⟩:=q;exact⟨U',H',J.zT,q⟩
 ·refine wpAny_mono q (λ_ s2 hq=>?_) (λ_ _ z=>z.elim)
  obtain⟨ea,C,U',H',s1,B,t,h4,rfl,rfl,J,BL,KQ,sm4,acX,mG,hE⟩:=hq;refine wpAny_landsW KQ λh5 fl5 sm5=>?_;have J5:Inv X bH U' H' {s1 with heap:=h5}:=J.stays hex (λb o q hb hc=>fl5.1 b o<|mG b o q hb hc) (sm4.trans sm5);have rel:∀{b},(H' b≠none\/(∃o',X.s₀.heap.get? b=some o')\/b∈(X.pn++bH).map (·.1))->∃o1,s1.heap.get? b=some o1:=λ{b} hc=>by
   rcases hc with z|⟨o',z⟩|z
   ·cases hz:H' b with
    |none=>exact absurd hz z
    |some u=>exact(J.hok b u hz).there
   ·exact J.base.there b o' z (by rw[hex];simp)
   ·obtain⟨p,hp,rfl⟩:=List.mem_map.mp z
    exact⟨_,(J.pin p hp).1⟩
  obtain⟨oe,hoe,hoec⟩:=fl5.there;obtain⟨nm,q,nm',q',N,N',bs,bm,bs',bm',hdct,KJ,sn,sn',sub,sub',ab,ab',col,col',dd,Fj,k0,k1,k2,k3,k5,j0,j1,j2,j3,j5,jo,j4,hC,hD,pW,hsub⟩:=hcls U' C _ H' hE;refine wpAny_handleBy_cons (codeAny_handlers_test<|oK (X:=sX X ea bH) J5.KN hg hm ?_ hdb) (by intro q;cases q);refine pY (J5.bk _ _ hC) (J5.bk _ _ hD) hoe hoec pW hsub ?_;refine codeAny_handlers_suite_as ?_;refine lands_againW fl5 λh6 fl6 sm6=>?_;have J6:Inv X bH U' H' {s1 with heap:=h6}:=Inv.stays (s:={s1 with heap:=h5}) hex J5 (λb o q hb hc=>by
   obtain⟨o1,q1⟩:=rel hc;have k1':=mG b o1 q1 hb hc;have k2':=fl5.1 b o1 k1';have q':h5.get? b=some o:=q;rw[k2']at q';cases q';exact fl6.1 b o k1') sm6
  obtain⟨oe6,aek,acY⟩:=fl6.there;obtain⟨_,_,_,oe7,ws7,_,_,_,aaO,afi,Zk,_⟩:=fl6;have yU:ea∉frs X.stack:=λz=>by
   obtain⟨_,o,ho,hnf⟩:=J6.stack.mem z;have e1:h6.get? ea=some oe7:=aaO;have e2:h6.get? ea=some o:=ho;rw[e1]at e2;cases e2;exact hnf _ Zk
  have nl:ea≠X.env.locals:=λz=>yU (by rw[jY,z];unfold frs;rw[agN,hfr];exact afE);have nf:ea∉X.fs:=λz=>yU (by rw[jY];unfold frs;rw[agN,hfr];exact afA _ z);have ael:oe7.cls=.ref C:=by
   have e1:h6.get? ea=some oe7:=aaO;have e2:h6.get? ea=some oe6:=aek;rw[e1]at e2;cases e2;exact acY
  have nb:X.base.get? ea=none:=by
   cases hz:X.base.get? ea with
   |none=>rfl
   |some o=>
    have k1':=mG ea o (J.bk _ _ hz) yU (.inr<|.inl ⟨o,(J.ok.bs _ _ hz).1⟩);rw[KQ.2.1]at k1';cases k1'
  have Jp:Inv X (bH++[(ea,oe7)]) U' H' {s1 with heap:=h6}:=J6.V6 aaO BL nl nf (λv z=>by rw[Zk]at z;cases z);refine wN (X:=sX X ea<|bH++[(ea,oe7)]) Jp.KN hN hi (Or.inl hn) (v:=.ref ea) rfl (λs7 J7=>?_) (.inr hn);refine wpAny_mono (hs ea C oe7 (bH++[(ea,oe7)]) (afI _ afE) ael nb [] s7 (U'.set i<|some (.ref ea)) H' (Fp i De) J7 (h2 U' C ea H' hE BL)) (λf s8 q8=>?_) λ_ _ z=>ahT z;cases f with
  |next=>
   obtain⟨U8,H8,J8,q⟩:=q8;exact qJ (J8.vV I.ok.hd).vW hN hi hn λs9 J9=>⟨_,H8,J9,q⟩
  |ret u=>
   obtain⟨v,U8,H8,J8,r,q⟩:=q8;exact qJ (J8.vV I.ok.hd).vW hN hi hn λs9 J9=>⟨v,_,H8,J9,r,q⟩
  |brk=>
   obtain⟨U8,H8,J8,q⟩:=q8;exact qJ (J8.vV I.ok.hd).vW hN hi hn λs9 J9=>⟨_,H8,J9,q⟩
  |cont=>
   obtain⟨U8,H8,J8,q⟩:=q8;exact qJ (J8.vV I.ok.hd).vW hN hi hn λs9 J9=>⟨_,H8,J9,q⟩
structure Ip (X:Cx)(e:aH)(t:TE):Prop where
 h:PE X e t
structure PAx (X:Cx)(es:List aH)(t:TA):Prop where
 h:PA X es t
structure Ir (X:Cx)(st:aJ)(t:TS):Prop where
 h:PS X st t
structure N5 (X:Cx)(sts:List aJ)(t:TS):Prop where
 h:yR X sts t
section
variable {X:Cx}
theorem Rr {es' es:aP aH}{x1}{p:Pos}{env:Env}:starEach (.Tuple es' x1 p::es) env=(false,eval (.Tuple es' x1 p) env)::starEach es env:=rfl
theorem Rt {v}{j}{es:aP aH}{p:Pos}{env:Env}:starEach (.Constant v j p::es) env=(false,eval (.Constant v j p) env)::starEach es env:=rfl
theorem sY {es:aP aH}{x1}{p:Pos}{t:TA}(h:PAx X es t):Ip X (.Tuple es x1 p) (Ni t):=⟨cV h.h⟩
theorem uY {es:aP aH}{p:Pos}{t:TA}(h:PAx X es t):Ip X (.List es p) (VB t):=⟨dO h.h⟩
theorem kj:PAx X [] sO:=⟨bG⟩
theorem fO {x:Str}{j}{es:aP aH}{p:Pos}{t:TA}(hr:PAx X es t):PAx X (.Constant (.str x) j p::es) (ig (tC<|.str x) t):=⟨bx bU hr.h Rt⟩
theorem V9 {es' es:aP aH}{x1}{p:Pos}{te:TE}{t:TA}(ha:Ip X (.Tuple es' x1 p) te)(hr:PAx X es t):PAx X (.Tuple es' x1 p::es) (ig te t):=⟨bx ha.h hr.h Rr⟩
theorem Ru (i:Nat){x:Str}{pos:Pos}(hN:X.N[i]?=some x:=by rfl)(hv:Vis X.env.scope x:=by first|exact Or.inl rfl|exact Or.inr (Or.inl rfl)|exact Or.inr<|Or.inr rfl)(hd:(x==("__debug__":Str))=false:=by decide)
  (yX:(x==("__classdict__":Str))=false:=by decide):Ip X (.Name x pos) (pL i):=⟨pv i hN hv hd yX⟩
theorem zV {i:Nat}{x:Str}{e:aH}{te:TE}{oN pos:Pos}(hN:X.N.Nodup)(hi:X.N[i]?=some x)(hx:Loc X.env.scope x)(he:Ip X e te)(hs:swapsWith e (some<|.Name x oN) pos.line X.env=pure false:=by rfl)
  (hf:X.fn x=true\/X.env.scope.names.lookup x=some .local:=by first|exact .inl rfl|exact .inr rfl|assumption):Ir X (.Assign [.Name x oN] e pos) (vH te<|jy i):=⟨oO hN hi hx he.h hs hf⟩
theorem acZ {e:aH}{te:TE}{pos:Pos}(he:Ip X e te):Ir X (.Return (some e) pos) (acs te):=⟨cO he.h⟩
theorem qe {st:aJ}{rest:aP aJ}{t u:TS}(h1:Ir X st t)(h2:N5 X rest u):N5 X (st::rest) (jt t u):=⟨bI h1.h h2.h⟩
theorem ac0 {st:aJ}{t:TS}(h1:Ir X st t):N5 X [st] t:=⟨bQ h1.h⟩
theorem uM {b:aJ}{t t':TS}(h:Ir X b t)(k:∀D U H,t' D U H->t D U H):Ir X b t':=⟨λbH s U H D I q=>h.h bH s U H D I<|k D U H q⟩
theorem Wa {b:aP aJ}{t t':TS}(h:N5 X b t)(k:∀D U H,t' D U H->t D U H):N5 X b t':=⟨λbH s U H D I q=>h.h bH s U H D I<|k D U H q⟩
theorem ac1 {tg dR:aH}{body:aP aJ}{wi:TI}{g:TG}{tb:TS}{pos:Pos}(hp:PassesOwn (model X.prog X.w) X.A X.env X.xe)(hc:X.calm=true)(hi:PI X tg dR wi)(hg:PG X tg g)(hb:N5 X body tb)
  (hs:∀x,foldedSetIterable dR X.env x=pure x:=by intro _;rfl):Ir X (.For tg dR body [] pos) (aaw wi g tb):=⟨mY hp hc hi hg hb.h hs⟩
theorem ac2 {x:Int}{j}{p:Pos}:Ip X (.Constant (.int x) j p) (tC<|.int x):=⟨bJ⟩
end
section
variable {κ:Type}[DecidableEq κ]
noncomputable def eO (cI:List (κ×V))(k:κ):Option V:=(cI.find? λkv=>decide<|kv.1=k).map (·.2)
noncomputable def putK (cI:List (κ×V))(k:κ)(v:V):List (κ×V) :=
 if(cI.any λkv=>decide<|kv.1=k)=true then cI.map (λkv=>if kv.1=k then(kv.1,v) else kv) else cI++[(k,v)]
theorem iZ {p:κ×V}{r:aP (κ×V)}{k:κ}(e:p.1=k):eO (p::r) k=some p.2:=by simp[eO,af8,e]
theorem jc {p:κ×V}{r:aP (κ×V)}{k:κ}(e:¬p.1=k):eO (p::r) k=eO r k:=by simp[eO,af8,e]
theorem nR (k:κ):∀cI:List (κ×V),(cI.any λkv=>decide<|kv.1=k)=(eO cI k).isSome
 |[]=>rfl
 |p::r=>by
  rw[agI];by_cases e:p.1=k
  ·simp only[iZ e,ahN e,Bool.true_or,Option.isSome_some]
  ·rw[jc e,ahJ e,ahl];exact nR k r
theorem FJ (k j:κ)(y:V):∀cI:List (κ×V),eO (cI.map λkv=>if kv.1=k then(kv.1,y) else kv) j=(eO cI j).map λx=>if j=k then y else x
 |[]=>rfl
 |p::r=>by
  have ih:=FJ k j y r;rw[afW];by_cases h:p.1=k
  ·rw[ahK h]
   by_cases e:p.1=j
   ·rw[iZ (p:=(p.1,y)) e,iZ e,agp,ahK (e.symm.trans h)]
   ·rw[jc (p:=(p.1,y)) e,jc e,ih]
  ·rw[ahL h]
   by_cases e:p.1=j
   ·rw[iZ (p:=p) e,iZ e,agp,ahL (λz=>h<|e.trans z)]
   ·rw[jc (p:=p) e,jc e,ih]
theorem zW (k j:κ)(y:V):∀cI:List (κ×V),eO cI k=none->eO (cI++[(k,y)]) j=if j=k then some y else eO cI j
 |[],_=>by
  by_cases e:k=j
  ·rw[ahK e.symm];exact iZ (p:=(k,y)) e
  ·rw[ahL (λz=>e z.symm)];exact jc (p:=(k,y)) e
 |p::r,hn=>by
  rw[agi];have hk:¬p.1=k:=λz=>by rw[iZ z]at hn;cases hn
  rw[jc hk]at hn;have ih:=zW k j y r hn;by_cases e:p.1=j
  ·rw[iZ e,iZ e,ahL (λz=>hk<|e.trans z)]
  ·rw[jc e,jc e,ih]
theorem jA (cI:List (κ×V))(k j:κ)(y:V):eO (putK cI k y) j=if j=k then some y else eO cI j:=by
 unfold putK;by_cases a:(cI.any λkv=>decide<|kv.1=k)=true
 ·rw[ahK a,FJ]
  rw[nR]at a;by_cases e:j=k
  ·obtain⟨x,hx⟩:=Option.isSome_iff_exists.mp a
   rw[ahK e,e,hx,agp,ahK rfl]
  ·rw[ahL e]
   cases eO cI j with
   |none=>rfl
   |some x=>rw[agp,ahL e]
 ·rw[ahL a]
  refine zW k j y cI ?_;rw[nR]at a;cases q:eO cI k with
  |none=>rfl
  |some x=>rw[q]at a;exact(a rfl).elim
theorem qg (cI:aP (κ×V))(k:κ)(v:V):(putK cI k v).length<=cI.length+1:=by
 unfold putK;split
 ·rw[afL];exact agb _
 ·rw[afu,af4,List.length_nil];exact afv _
theorem FN {cI:aP (κ×V)}{k:κ}(v:V)(h:eO cI k=none):putK cI k v=cI++[(k,v)]:=by
 unfold putK;rw[nR,h];exact ahL (by decide)
theorem nJ.N6 {o:Option V}{u:Option ak}(r:nJ o u):o.isSome=u.isSome:=by
 cases o with
 |none=>cases u with
  |none=>rfl
  |some _=>exact(show False from r).elim
 |some _=>cases u with
  |none=>exact(show False from r).elim
  |some _=>rfl
theorem KV.val {cI:List (κ×V)}{vs:List (κ×ak)}(r:KV cI vs)(k:κ):nJ (eO cI k) (valueAt vs k):=by
 unfold KV at r
 induction r with
 |nil=>exact True.intro
 |@cons p q ps qs h t ih=>
  obtain⟨h1,h2⟩:=h;by_cases e:p.1=k
  ·have e':q.1=k:=h1.symm.trans e
   have b:valueAt (q::qs) k=some q.2:=by simp[valueAt,af8,e']
   rw[iZ e,b];exact h2
  ·have e':¬q.1=k:=λz=>e (h1.trans z)
   have b:valueAt (q::qs) k=valueAt qs k:=by simp[valueAt,af8,e']
   rw[jc e,b];exact ih
theorem KV.any {cI:List (κ×V)}{vs:List (κ×ak)}(r:KV cI vs)(k:κ):(cI.any λkv=>decide<|kv.1=k)=vs.any λkv=>decide (kv.1=k):=by
 unfold KV at r
 induction r with
 |nil=>rfl
 |cons h t ih=>rw[agI,agI,ih,h.1]
theorem KV.repl {cI:List (κ×V)}{vs:List (κ×ak)}(r:KV cI vs)(k:κ){y:V}{u:ak}(ry:RelV y u):
  KV (cI.map λkv=>if kv.1=k then(kv.1,y) else kv) (vs.map λkv=>if kv.1=k then(kv.1,u) else kv):=by
 unfold KV at r ⊢
 induction r with
 |nil=>exact .nil
 |@cons p q ps qs h t ih=>
  rw[afW,afW];refine .cons ?_ ih;obtain⟨h1,h2⟩:=h;by_cases e:p.1=k
  ·rw[ahK e,ahK (h1.symm.trans e)];exact⟨h1,ry⟩
  ·rw[ahL e,ahL (λz=>e<|h1.trans z)];exact⟨h1,h2⟩
theorem KV.put {cI:aP (κ×V)}{vs:aP (κ×ak)}(r:KV cI vs)(k:κ){y:V}{u:ak}(ry:RelV y u):KV (putK cI k y) (stored vs k u):=by
 unfold putK stored;rw[r.any k];by_cases e:(vs.any λkv=>decide<|kv.1=k)=true
 ·rw[ahK e,ahK e];exact r.repl k ry
 ·rw[ahL e,ahL e];exact Paired.snoc r ⟨rfl,ry⟩
theorem KV.length {cI:aP (κ×V)}{vs:aP (κ×ak)}(r:KV cI vs):cI.length=vs.length:=Paired.length r
end
theorem KY {P:aA}{w:aG}{k:Key}{u:ak}(r:RelV (kV k) u):(iu P w).is k u=true:=by
 cases k with
 |inl i=>obtain⟨t,e⟩:=(show ∃t,u=Value.int i t from r);subst e;exact Eh P w i t
 |inr x=>obtain⟨t,e⟩:=(show ∃t,u=Value.str x t from r);subst e;exact Ei P w x t
theorem zX {P:aA}{w:aG}:∀{ks:List Key} {us:List ak},Vals (ks.map kV) us->ItemsAre (iu P w) ks us
 |[],_,r=>by rw[ahw]at r;cases r;exact .nil
 |k::ks,_,r=>by
  rw[afW]at r;cases r with
  |cons h t=>exact .cons (KY h)<|zX t
abbrev KT (H:Hp):List (List Key×V)->List (List Key×aj×ak)->Prop:=Paired λp q=>p.1=q.1/\H q.2.1=some (.tup<|p.1.map kV)/\RelV p.2 q.2.2
theorem KT.val {H:Hp}{cI:List (List Key×V)}{xs:List (List Key×aj×ak)}(r:KT H cI xs)(k:List Key):nJ (eO cI k) ((atKey xs k).map (·.2)):=by
 induction r with
 |nil=>exact True.intro
 |@cons p q ps qs h t ih=>
  obtain⟨h1,_,h2⟩:=h;by_cases e:p.1=k
  ·have e':q.1=k:=h1.symm.trans e
   have b:atKey (q::qs) k=some q.2:=by simp[atKey,af8,e']
   rw[iZ e,b];exact h2
  ·have e':¬q.1=k:=λz=>e (h1.trans z)
   have b:atKey (q::qs) k=atKey qs k:=by simp[atKey,af8,e']
   rw[jc e,b];exact ih
theorem KT.repl {H:Hp}{cI:List (List Key×V)}{xs:List (List Key×aj×ak)}(r:KT H cI xs)(k:List Key){y:V}{u:ak}(ry:RelV y u):
  KT H (cI.map λkv=>if kv.1=k then(kv.1,y) else kv) (xs.map<|putAt k u):=by
 induction r with
 |nil=>exact .nil
 |@cons p q ps qs h t ih=>
  rw[afW,afW];refine .cons ?_ ih;obtain⟨h1,h2,h3⟩:=h;unfold putAt;by_cases e:p.1=k
  ·rw[ahK e,ahK (h1.symm.trans e)];exact⟨h1,h2,ry⟩
  ·rw[ahL e,ahL (λz=>e<|h1.trans z)];exact⟨h1,h2,h3⟩
theorem KT.put {H:Hp}{cI:aP (aP Key×V)}{xs:aP (aP Key×aj×ak)}(r:KT H cI xs)(k:aP Key){b:aj}{y:V}{u:ak}(hb:H b=some (.tup<|k.map kV))(ry:RelV y u):
  KT H (putK cI k y) (storedH xs k b u):=by
 have e:(cI.any λkv=>decide<|kv.1=k)=(atKey xs k).isSome:=by
  rw[nR,(r.val k).N6,Option.isSome_map]
 unfold putK storedH;rw[e];by_cases q:(atKey xs k).isSome=true
 ·rw[ahK q,ahK q];exact r.repl k ry
 ·rw[ahL q,ahL q];exact Paired.snoc r ⟨rfl,hb,ry⟩
theorem KT.keeps {H H':Hp}{cI:aP (aP Key×V)}{xs:aP (aP Key×aj×ak)}(r:KT H cI xs)(ht:∀b ys,H b=some (.tup ys)->H' b=some (.tup ys)):KT H' cI xs :=
 Paired.aci r λ_ _ z=>⟨z.1,ht _ _ z.2.1,z.2.2⟩
section
variable {P:aA}{w:aG}{H:Hp}{h:aK}{a:aj}
theorem Zm {u:HO}(ok:mj P w H h)(e:Rd H a u):fQ P w H h a u:=e.ok ok
theorem KZ {cI:aP (Key×V)}(ok:mj P w H h)(e:Rd H a (.dK cI)):cI.length<=sizeLine/\(a==sysModules)=false/\∃vs,KV cI vs/\h.DictOf (iu P w) a vs :=
 show fQ P w H h a (.dK cI) from Zm ok e
theorem Zn {cI:aP (Key×V)}(ok:mj P w H h)(e:H a=some (.dK cI)):cI.length<=sizeLine/\(a==sysModules)=false/\∃vs,KV cI vs/\h.DictOf (iu P w) a vs:=KZ ok (.inl e)
theorem Iu {ks:aP Key}(ok:mj P w H h)(e:H a=some (.tup<|ks.map kV)):(tupleKind<|iu P w).is h ks a:=by
 obtain⟨_,bh,r,o,h1,h2,n,h3⟩:=(show fQ P w H h a (.tup<|ks.map kV) from ok a _ e);exact⟨o,bh.toArray,n,h1,h2,h3,by simpa using zX r⟩
theorem Rv {cI:List (List Key×V)}(ok:mj P w H h)(e:Rd H a (.dT cI)):cI.length<=sizeLine/\(a==sysModules)=false/\
  ∃xs,KT H cI xs/\h.DictOfH (tupleKind<|iu P w) a xs:=by
 obtain⟨z,y,xs,r,o,es,ep,h1,h2,h3,h4,h5⟩:=(show fQ P w H h a (.dT cI) from Zm ok e);refine⟨z,y,xs,r,o,es,ep,h1,h2,h3,h4,λx hx=>?_,h5⟩;have all:∀{l:List (List Key×V)} {m:List (List Key×aj×ak)},KT H l m->∀x∈m,(tupleKind<|iu P w).is h x.1 x.2.1:=by
  intro l m q
  induction q with
  |nil=>intro x hx;exact nomatch hx
  |@cons p q ps qs hq t ih=>
   intro x hx;rcases afU.mp hx with e|hx
   ·subst e
    exact Iu ok (by rw[<-hq.1];exact hq.2.1)
   ·exact ih x hx
 exact all r x hx
theorem ac3 {cI:aP (aP Key×V)}(ok:mj P w H h)(e:H a=some (.dT cI)):cI.length<=sizeLine/\(a==sysModules)=false/\
  ∃xs,KT H cI xs/\h.DictOfH (tupleKind<|iu P w) a xs:=Rv ok (.inl e)
end
def aaP (H:Hp)(a:aj)(y:V)(r:Option V):Prop :=
 (∃cI k,Rd H a (.dK cI)/\y=kV k/\r=eO cI k)\/∃cI k b,Rd H a (.dT cI)/\y=.ref b/\H b=some (.tup<|k.map kV)/\r=eO cI k
def zj (H:Hp)(a:aj)(y v:V)(H':Hp):Prop :=
 (∃cI k,H a=some (.dK cI)/\y=kV k/\cI.length<sizeLine/\H'=upd H a (.dK<|putK cI k v))\/
 ∃cI k b,H a=some (.dT cI)/\y=.ref b/\H b=some (.tup<|k.map kV)/\cI.length<sizeLine/\H'=upd H a (.dT<|putK cI k v)
theorem zj.k {H:Hp}{a:aj}{cI:aP (Key×V)}{k:Key}{v:V}(e:H a=some (.dK cI))(hl:cI.length<sizeLine):zj H a (kV k) v (upd H a<|.dK (putK cI k v)):=.inl ⟨cI,k,e,rfl,hl,rfl⟩
section
variable {X:Cx}{bH:List (aj×Obj)}{U:St}{H:Hp}{s:ao}{a:aj}{y v:V}{u r:ak}{o:Option V}{A:aq}{E:ak->ao->Prop}
theorem Inv.big (I:Inv X bH U H s):sysModules<s.heap.objs.size:=by
 have h:mainGlobals<s.heap.objs.size:=(I.mod.glob.keeps I.bk).lt;exact ahx (by decide) h
theorem N7 {Q:ak->ao->Prop}(hu:A.units+1<cLine)(I:Inv X bH U H s)(g:aaP H a y (some v))(ry:RelV y u)(h:∀w' s',Inv X bH U H s'->RelV v w'->Q w' s'):
  wpAny (model X.prog X.w) A (getItem (.ref a) u) Q E s:=by
 rcases g with ⟨cI,k,e,ey,l⟩|⟨cI,k,b,e,ey,eb,l⟩
 ·subst ey
  obtain⟨z,hd,vs,rel,dd⟩:=KZ I.hok e;obtain⟨w',hw,Q8⟩:=nJ.some_of (v:=v) (o:=valueAt vs k) (by rw[l];exact rel.val k);exact wpAny_getItem_of (KY ry) dd.mapOf hw<|h w' _ (I.tok _) Q8
 ·subst ey
  cases(show u=Value.ref b from ry);obtain⟨z,hd,xs,rel,dd⟩:=Rv I.hok e;obtain⟨w',hw,Q8⟩:=nJ.some_of (v:=v) (o:=(atKey xs k).map (·.2)) (by rw[l];exact rel.val k);obtain⟨p,hp,hp2⟩:=Option.map_eq_some_iff.mp hw;refine wpAny_getItem_heap (tupleKind_room_in1 hu) (Iu I.hok eb) dd hp ?_;rw[hp2];exact h w' _ (I.tok _) Q8
theorem BR {h':aK}{t':Nat}{ob:HO}(I:Inv X bH U H s)(mu:Mut (H a))(hs:Heap.SameBut a s.heap h')(he:∃q,h'.get? a=some q)(new:fQ X.prog X.w (upd H a ob) h' a ob):
  Inv X bH U (upd H a ob) {s with heap:=h',toks:=t'} :=
 I.write (x:=a) (e:=a) mu (.inl rfl) (λb q hb z=>(hs.2 b hb).trans z) he new
theorem Iv {P:aA}{w:aG}{H':Hp}{h':aK}{cI:aP (Key×V)}{vs:aP (Key×ak)}(z:cI.length<=sizeLine)(hd:(a==sysModules)=false)(rel:KV cI vs)(dd:h'.DictOf (iu P w) a vs):
  fQ P w H' h' a (.dK cI):=⟨z,hd,vs,rel,dd⟩
theorem N8 {H':Hp}{Q:Unit->ao->Prop}(hu:A.units+1<cLine)(I:Inv X bH U H s)(g:zj H a y v H')(ry:RelV y u)(rv:RelV v r)(h:∀s',Inv X bH U H' s'->Q () s'):
  wpAny (model X.prog X.w) A (setItem (.ref a) u r) Q E s:=by
 rcases g with ⟨cI,k,e,ey,l,eH⟩|⟨cI,k,b,e,ey,eb,l,eH⟩
 ·subst ey eH
  obtain⟨z,hd,vs,rel,dd⟩:=Zn I.hok e;have hz:vs.length<=sizeLine:=by rw[<-rel.length];exact z
  have hl:(putK cI k v).length<=sizeLine:=by have:=qg cI k v;exact afy this l
  refine wpAny_setItem_pairs (hsz:=hz) (KY ry) dd λh' Fj hs=>h _ ?_;have he:∃q,h'.get? a=some q:=let ⟨q,_,_,hq,_⟩:=Fj;⟨q,hq⟩;exact BR I (by rw[e];exact True.intro) hs he<|Iv hl hd (rel.put k rv) Fj
 ·subst ey eH
  cases(show u=Value.ref b from ry);obtain⟨z,hd,xs,rel,dd⟩:=ac3 I.hok e;have hz:xs.length<=sizeLine:=by rw[<-Paired.length rel];exact z
  have hl:(putK cI k v).length<=sizeLine:=by have:=qg cI k v;exact afy this l
  refine wpAny_setItem_heap (hsz:=hz) (tupleKind_room_in1 hu) (Iu I.hok eb) dd λh' Fj hs=>h _ ?_;obtain⟨q,es,ep,hq,h2,h3,h4,_,h5⟩:=Fj;refine BR I (by rw[e];exact True.intro) hs ⟨q,hq⟩ ⟨hl,hd,_,(rel.put k eb rv).keeps λc ys ec=>?_,q,es,ep,hq,h2,h3,h4,h5⟩;rw[bV (iY ec e λz=>nomatch z)];exact ec
end
section
variable {X:Cx}{bH:List (aj×Obj)}{U:St}{H:Hp}{s:ao}{a:aj}{cI:List (Key×V)}{k:Key}{u:ak}{A:aq}{E:ak->ao->Prop}
end
def ac4 (i:aH):Prop:=∀ov iv,subscripted i false ov iv=operate [ov,iv] (getItem ov iv)
theorem Wb {prog:aA}{w:aG}{A:aq}{E:ak->ao->Prop}{s:ao}{env:Env}{value slice:aH}{pos:Pos}{T id:String}{Q:ak->ao->Prop}
  (hl:typeLookup (.type T) "__getitem__"=pure (some<|.builtin id)) (hs:ac4 slice)
  (h:wpAny (model prog w) A (eval value env) (λo eF=>wpAny (model prog w) A (eval slice env) (λi s₂=>s₂.TypeIs o T/\wpAny (model prog w) A (getItem o i) Q E s₂) E eF) E s):
  wpAny (model prog w) A (eval (.Subscript value slice pos) env) Q E s:=by
 refine Subscript_<|wpAny_mono h (λo eF rB=>wpAny_mono rB (λi s₂ h₂=>?_) λ_ _ x=>x) λ_ _ x=>x;obtain⟨hT,h₂⟩:=h₂;unfold subscriptTail;refine abI ?_;rw[getitemInPython_of_ne hT.not_modules];refine abI<|wpAny_specialOf hT hl ?_;have fin:wpAny (model prog w) A (subscripted slice false o i) (λr s₃=>wpAny (model prog w) A (letTemporaryGo value o r>>=λ_=>pure r) Q E s₃) E s₂:=by
  rw[hs o i];exact wpAny_operating<|wpAny_mono h₂ (λr s₃ h₃=>abI<|wpAny_letTemporaryGo (ahI h₃)) λ_ _ x=>x
 first
  |exact ahI<|abI fin
  |exact abI<|ahI (abI fin)
  |exact abI fin
theorem FQ {X:Cx}{bH:aP (aj×Obj)}{U:St}{H:Hp}{s:ao}{a:aj}{y:V}{o:aO V}(I:Inv X bH U H s)(g:aaP H a y o):s.TypeIs (.ref a) "dict":=by
 rcases g with ⟨cI,k,e,_,_⟩|⟨cI,k,b,e,_,_,_⟩
 ·obtain⟨_,_,vs,_,dd⟩:=KZ I.hok e
  exact dd.typeIs
 ·obtain⟨_,_,xs,_,dd⟩:=Rv I.hok e
  exact dd.typeIs
inductive Rx (Q:VK)(x:V)(y:V)(H2:Hp):Prop where
 |mk (a) (v):(x=.ref a)->(aaP H2 a y<|some v)->(Q v H2)->Rx Q x y H2
def Zo (td ty:TE):TE:=λU H Q=>td U H λx H1=>ty U H1 (Rx Q x)
inductive Ry (D:Ends)(U:St)(v:V)(x:V)(y:V)(H3:Hp):Prop where
 |mk (a) (H4):(x=.ref a)->(zj H3 a y v H4)->(D.nx U H4)->Ry D U v x y H3
def ac5 (td ty tv:TE):TS:=λD U H=>tv U H λv H1=>td U H1 λx H2=>ty U H2 (Ry D U v x)
section
variable {X:Cx}{o i e value:aH}{pos oN tpos:Pos}{td ty tv:TE}
theorem cT (hu:X.A.units+1<cLine)(ho:PE X o td)(hi:PE X i ty)(hs:ac4 i:=by intro _ _;rfl):PE X (.Subscript o i pos) (Zo td ty):=by
 intro bH s U H Q I h;refine Wb PySem.F.slot_dict_getitem.lookup hs<|gk (ho bH s U H _ I h) λu s1 ⟨x,H1,I1,rx,q1⟩=>gk (hi bH s1 U H1 _ I1 q1) λiv s2 ⟨y,H2,I2,ry,a,v,ex,g,q2⟩=>?_;subst ex;obtain rfl:u=Value.ref a:=rx;exact⟨FQ I2 g,N7 hu I2 g ry λw' s3 I3 Q8=>⟨v,H2,I3,Q8,q2⟩⟩
theorem qL (hu:X.A.units+1<cLine)(ho:PE X o td)(hi:PE X i ty)(hv:PE X value tv)(hs:swapsWith value (some<|.Subscript o i oN) pos.line X.env=pure false):
  PS X (.Assign [.Subscript o i oN] value pos) (ac5 td ty tv):=by
 intro bH s U H D I h;refine wpAny_Assign_Subscript (gk (hv bH s U H _ I h) λr s1 ⟨v,H1,I1,rv,q1⟩=>gk (ho bH s1 U H1 _ I1 q1) λu s2 ⟨x,H2,I2,rx,q2⟩=>gk (hi bH s2 U H2 _ I2 q2) λiv s3 ⟨y,H3,I3,ry,a,H4,ex,g,q3⟩=>?_) hs;subst ex;obtain rfl:u=Value.ref a:=rx;exact N8 hu I3 g ry rv λs4 I4=>⟨U,H4,I4,q3⟩
end
theorem FT {P:aA}{w:aG}{H:Hp}(h:aK)(hb:sysModules<h.objs.size):fQ P w H (h.push {cls:=.type "dict",data:=.dict #[]}) h.objs.size (.dK []) :=
 ⟨afY _,beq_eq_false_iff_ne.mpr<|ahO (afV hb),[], .nil,Heap.DictOf.new h⟩
def aaQ:TE:=λ_ H Q=>∀p,H p=none->Q (.ref p) (upd H p<|.dK [])
section
variable {X:Cx}{pos:Pos}
theorem FW:PE X (.Dict [] [] pos) aaQ:=λbH s U H Q I h=>
 wpAny_Dict_empty ⟨.ref s.heap.objs.size,_,I.laid (a:=s.heap.objs.size) (o:=.dK []) (t':=s.toks) (λ_ _ q=>afx _ q) (afv _)<|FT s.heap I.big,rfl,h _<|I.hok.fresh (afv _)⟩
end
def Iw:List (TE×TE)->St->Hp->(List (V×V)->Hp->Prop)->Prop
 |[],_,H,Q=>Q [] H
 |(tk,tv)::r,U,H,Q=>tk U H λx H1=>tv U H1 λy H2=>Iw r U H2 λps H3=>Q ((x,y)::ps) H3
abbrev VV:List (V×V)->List (ak×ak)->Prop:=Paired λp q=>RelV p.1 q.1/\RelV p.2 q.2
def PPs (X:Cx)(pos:Pos)(keys:List (Option aH))(values:List aH)(FZ:List (TE×TE)):Prop :=
 ∀(bH:List (aj×Obj)) (s:ao) (U:St) (H:Hp) (Q:List (V×V)->Hp->Prop),Inv X bH U H s->Iw FZ U H Q->
  wpAny (model X.prog X.w) X.A (evalPairs<|pairTrees keys values X.env pos) (λvs s'=>∃ps H',Inv X bH U H' s'/\VV ps vs/\Q ps H') X.xe s
theorem K3 {X:Cx}{pos:Pos}:PPs X pos [] [] []:=λbH s U H Q I h=>pairTrees_nil_walk ⟨[],H,I, .nil,h⟩
theorem qj {X:Cx}{pos:Pos}{k v:aH}{ks:aP (aO aH)}{vs:aP aH}{tk tv:TE}{FZ:aP (TE×TE)}(hk:PE X k tk)(hv:PE X v tv)(hr:PPs X pos ks vs FZ):
  PPs X pos (some k::ks) (v::vs) ((tk,tv)::FZ):=λbH s U H Q I h=>
 pairTrees_cons_walk (gk (hk bH s U H _ I h) λu s1 ⟨x,H1,I1,rx,q1⟩=>gk (hv bH s1 U H1 _ I1 q1) λw2 s2 ⟨y,H2,I2,ry,q2⟩=>
  gk (hr bH s2 U H2 _ I2 q2) λws s3 ⟨ps,H3,I3,rel,q3⟩=>⟨(x,y)::ps,H3,I3, .cons ⟨rx,ry⟩ rel,q3⟩)
noncomputable def jR (cI more:List (Key×V)):List (Key×V):=more.foldl (λiR kv=>putK iR kv.1 kv.2) cI
theorem KV.merge:∀{more:List (Key×V)} {rs:List (Key×ak)} {cI:List (Key×V)} {vs:List (Key×ak)},KV more rs->KV cI vs->KV (jR cI more) (merged vs rs):=by
 intro more rs cI vs r;unfold KV at r
 induction r generalizing cI vs with
 |nil=>intro q;exact q
 |@cons p q ps qs h t ih=>
  intro r0;have e:KV (putK cI p.1 p.2) (stored vs q.1 q.2):=by
   have:=r0.put p.1 h.2;rw[<-h.1];exact this
  exact ih e
theorem qY:∀(more cI:List (Key×V)),(jR cI more).length<=cI.length+more.length
 |[],cI=>by show cI.length<=cI.length+0;exact afv _
 |p::r,cI=>by
  have h1:=qY r (putK cI p.1 p.2);have h2:=qg cI p.1 p.2;show(jR (putK cI p.1 p.2) r).length<=_;rw[af4];omega
theorem Iz {P:aA}{w:aG}{cI:List (Key×V)}{ws:List (ak×ak)}(r:VV (cI.map λkv=>(kV kv.1,kv.2)) ws):∃rs,Carries (iu P w) ws rs/\KV cI rs:=by
 induction cI generalizing ws with
 |nil=>rw[ahw]at r;cases r;exact⟨[],True.intro, .nil⟩
 |cons p cI ih=>
  rw[afW]at r;cases r with
  |@cons a b as bs h t=>
   obtain⟨rs,c,q⟩:=ih t;obtain⟨b1,b2⟩:=b;exact⟨(p.1,b2)::rs,⟨KY h.1,rfl,c⟩, .cons ⟨rfl,h.2⟩ q⟩
def Zq (FZ:List (TE×TE)):TE:=λU H Q=>∀p,H p=none->Iw FZ U (upd H p<|.dK []) λps H2=>H2 p=some (.dK [])/\∃cI:List (Key×V),ps=cI.map (λkv=>(kV kv.1,kv.2))/\cI.length<=15/\Q (.ref p) (upd H2 p<|.dK (jR [] cI))
theorem K4 {X:Cx}{pos:Pos}{keys:aP (aO aH)}{values:aP aH}{FZ:aP (TE×TE)}(h:PPs X pos keys values FZ)(hall:keys.all (·.isSome)=true)(hl:keys.length=values.length)(h0:keys≠[])
  (h15:keys.length<=15):PE X (.Dict keys values pos) (Zq FZ):=by
 intro bH s U H Q I q;have hn:=I.hok.fresh (afv s.heap.objs.size);have I1:=I.laid (a:=s.heap.objs.size) (o:=.dK []) (h':=s.heap.push {cls:=.type "dict",data:=.dict #[]}) (t':=s.toks) (λ_ _ q=>afx _ q) (afv _) (FT s.heap I.big);refine wpAny_Dict_walk (knd:=iu X.prog X.w) hall hl h0 h15<|gk (h bH _ U _ _ I1<|q _ hn) λws s2 ⟨ps,H2,I2,rel,e,cI,ep,lk,q2⟩=>?_;subst ep;obtain⟨rs,c,rk⟩:=Iz (P:=X.prog) (w:=X.w) rel;obtain⟨z,hd,vs0,r0,dd⟩:=Zn I2.hok e;cases r0;refine⟨rs,c,dd,λh' Fj hs=>⟨.ref s.heap.objs.size,_,?_,rfl,q2⟩⟩;have hz:(jR [] cI).length<=sizeLine:=by
  have h1:=qY cI [];rw[List.length_nil]at h1;rw[sizeLine_eq];omega
 have he:∃q,h'.get? s.heap.objs.size=some q:=let ⟨q,_,_,hq,_⟩:=Fj;⟨q,hq⟩;exact BR I2 (by rw[e];exact True.intro) hs he<|Iv hz hd (rk.merge .nil) Fj
structure M1 (X:Cx)(o:aH)(m:Str)(nM:Pos)(e:aH)(jg:Pos):Prop where
 base:attributeBase o m X.env (eval o X.env)=eval o X.env
 few:((backTo jg<|starEach [e] X.env).all (λx=>!x.1)&&(backToKw jg<|keywordEach [] X.env).all (λx=>x.1.isSome)
  &&decide (([e]:List aH).length+([]:List Keyword).length+(if([]:List Keyword).isEmpty then 0 else 1)<30))=true
 line:(nM.endLine==jg.line)=true
 trees:backTo jg (starEach [e] X.env)=[(false,eval e X.env)]
structure M2 (X:Cx)(o:aH)(m:Str)(nM:Pos)(e f:aH)(jg:Pos):Prop where
 base:attributeBase o m X.env (eval o X.env)=eval o X.env
 few:((backTo jg<|starEach [e,f] X.env).all (λx=>!x.1)&&(backToKw jg<|keywordEach [] X.env).all (λx=>x.1.isSome)
  &&decide (([e,f]:List aH).length+([]:List Keyword).length+(if([]:List Keyword).isEmpty then 0 else 1)<30))=true
 line:(nM.endLine==jg.line)=true
 trees:backTo jg (starEach [e,f] X.env)=[(false,eval e X.env),(false,eval f X.env)]
section
variable {X:Cx}{bH:List (aj×Obj)}{U:St}{H:Hp}{s:ao}{a:aj}{y d:V}{u r:ak}{o:Option V}{A:aq}{E:ak->ao->Prop}
end
section
variable {X:Cx}{o e f:aH}{nM jg:Pos}{td ty tx:TE}
end
section
variable {X:Cx}{bH:List (aj×Obj)}{U:St}{H:Hp}{s:ao}{a:aj}{cI:List (Key×V)}{A:aq}{E:ak->ao->Prop}
theorem Rz {Q:ak->ao->Prop}(I:Inv X bH U H s)(e:Rd H a (.dK cI))(h:∀p s',H p=none->Inv X bH U (upd H p<|.dK cI) s'->Q (.ref p) s'):wpAny (model X.prog X.w) A (call (.type "dict") [.ref a]) Q E s:=by
 obtain⟨z,hd,vs,rel,dd⟩:=KZ I.hok e;refine kt_call_dict hd dd (by rw[<-rel.length];exact z) λh' Fj hs=>?_;refine h _ _ (I.hok.fresh<|afv _)<|I.laid (a:=s.heap.objs.size) (o:=.dK cI) (t':=s.toks) (λb q hq=>?_) (afv _) (Iv z (beq_eq_false_iff_ne.mpr<|ahO (afV I.big)) rel Fj);exact(hs.2 b<|afV (afB hq)).trans<|afx _ hq
end
section
variable {X:Cx}{bH:List (aj×Obj)}{U:St}{H:Hp}{s:ao}{a:aj}{y:V}{u:ak}{A:aq}{E:ak->ao->Prop}
end
section
variable {X:Cx}
end
section
variable {κ:Type}[DecidableEq κ]
end
section
variable {X:Cx}
structure Wf (X:Cx)(pos:Pos)(keys:List (Option aH))(values:List aH)(FZ:List (TE×TE)):Prop where
 h:PPs X pos keys values FZ
theorem RB {pos:Pos}:Wf X pos [] [] []:=⟨K3⟩
theorem pA {pos p:Pos}{z:Str}{j}{v:aH}{ks:aP (aO aH)}{vs:aP aH}{tv:TE}{FZ:aP (TE×TE)}(hv:Ip X v tv)(hr:Wf X pos ks vs FZ):Wf X pos (some (.Constant (.str z) j p)::ks) (v::vs) ((tC<|.str z,tv)::FZ):=⟨qj bU hv.h hr.h⟩
theorem RD {pos:Pos}{keys:aP (aO aH)}{values:aP aH}{FZ:aP (TE×TE)}(h:Wf X pos keys values FZ)(hall:keys.all (·.isSome)=true)(hl:keys.length=values.length)(h0:keys≠[])(h15:keys.length<=15):Ip X (.Dict keys values pos) (Zq FZ):=⟨K4 h.h hall hl h0 h15⟩
theorem xu {ks:aP (aO aH)}{vs:aP aH}{x:Str}{p p':Pos}{l}{env:Env}:swapsWith (.Dict ks vs p) (some<|.Name x p') l env=pure false:=rfl
theorem ac6 {a b:aH}{op:Operator}{pos:Pos}{ta tb:TE}{r:R2}(ho:qW X (binaryOp op) r)(ha:Ip X a ta)(hb:Ip X b tb):Ip X (.BinOp a op b pos) (Hw r ta tb):=⟨cU ho ha.h hb.h⟩
theorem zY {a b:aH}{op:Operator}{x:Str}{p p':Pos}{l}{env:Env}:swapsWith (.BinOp a op b p) (some<|.Name x p') l env=pure false:=rfl
theorem Oa {es:aP aH}{x:Str}{p p':Pos}{l}{env:Env}:swapsWith (.List es p) (some<|.Name x p') l env=pure false:=rfl
theorem ac7 {a b:aH}{pos:Pos}{ta tb:TE}{r:R2}(hr:IxR X r)(ha:Ip X a ta)(hb:Ip X b tb)(hs:Kv b):Ip X (.Subscript a b pos) (Hw r ta tb):=⟨bZ hr ha.h hb.h hs⟩
theorem Ob {a b:aH}{x:Str}{p p':Pos}{l}{env:Env}:swapsWith (.Subscript a b p) (some<|.Name x p') l env=pure false:=rfl
end
section
variable {K:aN}{i:Nat}{w z:Str}{t u e:TS}{D:Ends}{U:St}{H:Hp}{a:aj}{xs:List V}
abbrev jq (K:aN)(i:Nat)(w:Str):TT:=El (Hw rEq (Hw (Np K) (pL i)<|tC (.int 0))<|tC (.str w))
theorem dg (h0:U[i]?=some (some<|.ref a))(ha:H a=some (.tup (.str z::xs)))(ne:z≠w)(q:e D U H):dM (jq K i w) t e D U H :=
 ⟨_,h0,a,_,0,_,rfl,rfl,iM.of ha,cg (j:=0) rfl,rfl,_,rfl,gO (λc=>absurd (V.str.inj<|ahM c) ne) λ_=>q⟩
theorem mZ (h0:U[i]?=some (some<|.ref a))(ha:H a=some (.tup (.str w::xs)))(q:t D U H):dM (jq K i w) t e D U H :=
 ⟨_,h0,a,_,0,_,rfl,rfl,iM.of ha,cg (j:=0) rfl,rfl,_,rfl,gO (λ_=>q) λc=>absurd (ahN rfl) c⟩
theorem fX (h0:U[i]?=some (some<|.ref a))(ha:H a=some (.tup (.str z::xs)))(ne:z≠w)(q:u D U H):jt (dM (jq K i w) t gP) u D U H:=dg (e:=gP) h0 ha ne q
theorem lE (h0:U[i]?=some (some<|.ref a))(ha:H a=some (.tup (.str w::xs)))(q:∀nx,t ⟨nx,D.rt,D.bk,D.ct⟩ U H):jt (dM (jq K i w) t gP) u D U H:=mZ (e:=gP) h0 ha (q<|u D)
theorem tn2 {w1 w2:Str}{t1 t2:TS}(h0:U[i]?=some (some<|.ref a))(ha:H a=some (.tup (.str z::xs)))(n1:z≠w1)(n2:z≠w2)(q:u D U H):(jt (dM (jq K i w1) t1 gP)<|jt (dM (jq K i w2) t2 gP) u) D U H:=fX h0 ha n1 (fX h0 ha n2 q)
theorem te2 {w1 w2:Str}{t1 t2:TS}(h0:U[i]?=some (some<|.ref a))(ha:H a=some (.tup (.str z::xs)))(n1:z≠w1)(n2:z≠w2)(q:e D U H):(dM (jq K i w1) t1<|dM (jq K i w2) t2 e) D U H:=dg h0 ha n1 (dg h0 ha n2 q)
theorem tn3 {w1 w2 w3:Str}{t1 t2 t3:TS}(h0:U[i]?=some (some<|.ref a))(ha:H a=some (.tup (.str z::xs)))(n1:z≠w1)(n2:z≠w2)(n3:z≠w3)(q:u D U H):(jt (dM (jq K i w1) t1 gP)<|jt (dM (jq K i w2) t2 gP) (jt (dM (jq K i w3) t3 gP) u)) D U H:=fX h0 ha n1 (fX h0 ha n2<|fX h0 ha n3 q)
theorem te3 {w1 w2 w3:Str}{t1 t2 t3:TS}(h0:U[i]?=some (some<|.ref a))(ha:H a=some (.tup (.str z::xs)))(n1:z≠w1)(n2:z≠w2)(n3:z≠w3)(q:e D U H):(dM (jq K i w1) t1<|dM (jq K i w2) t2 (dM (jq K i w3) t3 e)) D U H:=dg h0 ha n1 (dg h0 ha n2<|dg h0 ha n3 q)
theorem tn4 {w1 w2 w3 w4:Str}{t1 t2 t3 t4:TS}(h0:U[i]?=some (some<|.ref a))(ha:H a=some (.tup (.str z::xs)))(n1:z≠w1)(n2:z≠w2)(n3:z≠w3)(n4:z≠w4)(q:u D U H):(jt (dM (jq K i w1) t1 gP)<|jt (dM (jq K i w2) t2 gP) (jt (dM (jq K i w3) t3 gP)<|jt (dM (jq K i w4) t4 gP) u)) D U H:=fX h0 ha n1 (fX h0 ha n2<|fX h0 ha n3 (fX h0 ha n4 q))
theorem te4 {w1 w2 w3 w4:Str}{t1 t2 t3 t4:TS}(h0:U[i]?=some (some<|.ref a))(ha:H a=some (.tup (.str z::xs)))(n1:z≠w1)(n2:z≠w2)(n3:z≠w3)(n4:z≠w4)(q:e D U H):(dM (jq K i w1) t1<|dM (jq K i w2) t2 (dM (jq K i w3) t3<|dM (jq K i w4) t4 e)) D U H:=dg h0 ha n1 (dg h0 ha n2<|dg h0 ha n3 (dg h0 ha n4 q))
theorem tn5 {w1 w2 w3 w4 w5:Str}{t1 t2 t3 t4 t5:TS}(h0:U[i]?=some (some<|.ref a))(ha:H a=some (.tup (.str z::xs)))(n1:z≠w1)(n2:z≠w2)(n3:z≠w3)(n4:z≠w4)(n5:z≠w5)(q:u D U H):(jt (dM (jq K i w1) t1 gP)<|jt (dM (jq K i w2) t2 gP) (jt (dM (jq K i w3) t3 gP)<|jt (dM (jq K i w4) t4 gP) (jt (dM (jq K i w5) t5 gP) u))) D U H:=fX h0 ha n1 (fX h0 ha n2<|fX h0 ha n3 (fX h0 ha n4<|fX h0 ha n5 q))
theorem te5 {w1 w2 w3 w4 w5:Str}{t1 t2 t3 t4 t5:TS}(h0:U[i]?=some (some<|.ref a))(ha:H a=some (.tup (.str z::xs)))(n1:z≠w1)(n2:z≠w2)(n3:z≠w3)(n4:z≠w4)(n5:z≠w5)(q:e D U H):(dM (jq K i w1) t1<|dM (jq K i w2) t2 (dM (jq K i w3) t3<|dM (jq K i w4) t4 (dM (jq K i w5) t5 e))) D U H:=dg h0 ha n1 (dg h0 ha n2<|dg h0 ha n3 (dg h0 ha n4<|dg h0 ha n5 q))
theorem tn6 {w1 w2 w3 w4 w5 w6:Str}{t1 t2 t3 t4 t5 t6:TS}(h0:U[i]?=some (some<|.ref a))(ha:H a=some (.tup (.str z::xs)))(n1:z≠w1)(n2:z≠w2)(n3:z≠w3)(n4:z≠w4)(n5:z≠w5)(n6:z≠w6)(q:u D U H):(jt (dM (jq K i w1) t1 gP)<|jt (dM (jq K i w2) t2 gP) (jt (dM (jq K i w3) t3 gP)<|jt (dM (jq K i w4) t4 gP) (jt (dM (jq K i w5) t5 gP)<|jt (dM (jq K i w6) t6 gP) u))) D U H:=fX h0 ha n1 (fX h0 ha n2<|fX h0 ha n3 (fX h0 ha n4<|fX h0 ha n5 (fX h0 ha n6 q)))
theorem te6 {w1 w2 w3 w4 w5 w6:Str}{t1 t2 t3 t4 t5 t6:TS}(h0:U[i]?=some (some<|.ref a))(ha:H a=some (.tup (.str z::xs)))(n1:z≠w1)(n2:z≠w2)(n3:z≠w3)(n4:z≠w4)(n5:z≠w5)(n6:z≠w6)(q:e D U H):(dM (jq K i w1) t1<|dM (jq K i w2) t2 (dM (jq K i w3) t3<|dM (jq K i w4) t4 (dM (jq K i w5) t5<|dM (jq K i w6) t6 e))) D U H:=dg h0 ha n1 (dg h0 ha n2<|dg h0 ha n3 (dg h0 ha n4<|dg h0 ha n5 (dg h0 ha n6 q)))
theorem te7 {w1 w2 w3 w4 w5 w6 w7:Str}{t1 t2 t3 t4 t5 t6 t7:TS}(h0:U[i]?=some (some<|.ref a))(ha:H a=some (.tup (.str z::xs)))(n1:z≠w1)(n2:z≠w2)(n3:z≠w3)(n4:z≠w4)(n5:z≠w5)(n6:z≠w6)(n7:z≠w7)(q:e D U H):(dM (jq K i w1) t1<|dM (jq K i w2) t2 (dM (jq K i w3) t3<|dM (jq K i w4) t4 (dM (jq K i w5) t5<|dM (jq K i w6) t6 (dM (jq K i w7) t7 e)))) D U H:=dg h0 ha n1 (dg h0 ha n2<|dg h0 ha n3 (dg h0 ha n4<|dg h0 ha n5 (dg h0 ha n6<|dg h0 ha n7 q)))
theorem te8 {w1 w2 w3 w4 w5 w6 w7 w8:Str}{t1 t2 t3 t4 t5 t6 t7 t8:TS}(h0:U[i]?=some (some<|.ref a))(ha:H a=some (.tup (.str z::xs)))(n1:z≠w1)(n2:z≠w2)(n3:z≠w3)(n4:z≠w4)(n5:z≠w5)(n6:z≠w6)(n7:z≠w7)(n8:z≠w8)(q:e D U H):(dM (jq K i w1) t1<|dM (jq K i w2) t2 (dM (jq K i w3) t3<|dM (jq K i w4) t4 (dM (jq K i w5) t5<|dM (jq K i w6) t6 (dM (jq K i w7) t7<|dM (jq K i w8) t8 e)))) D U H:=dg h0 ha n1 (dg h0 ha n2<|dg h0 ha n3 (dg h0 ha n4<|dg h0 ha n5 (dg h0 ha n6<|dg h0 ha n7 (dg h0 ha n8 q))))
theorem te9 {w1 w2 w3 w4 w5 w6 w7 w8 w9:Str}{t1 t2 t3 t4 t5 t6 t7 t8 t9:TS}(h0:U[i]?=some (some<|.ref a))(ha:H a=some (.tup (.str z::xs)))(n1:z≠w1)(n2:z≠w2)(n3:z≠w3)(n4:z≠w4)(n5:z≠w5)(n6:z≠w6)(n7:z≠w7)(n8:z≠w8)(n9:z≠w9)(q:e D U H):(dM (jq K i w1) t1<|dM (jq K i w2) t2 (dM (jq K i w3) t3<|dM (jq K i w4) t4 (dM (jq K i w5) t5<|dM (jq K i w6) t6 (dM (jq K i w7) t7<|dM (jq K i w8) t8 (dM (jq K i w9) t9 e))))) D U H:=dg h0 ha n1 (dg h0 ha n2<|dg h0 ha n3 (dg h0 ha n4<|dg h0 ha n5 (dg h0 ha n6<|dg h0 ha n7 (dg h0 ha n8<|dg h0 ha n9 q))))
theorem dG (h:∀nx:St->Hp->Prop,(∀U' H',u D U' H'->nx U' H')->t ⟨nx,D.rt,D.bk,D.ct⟩ U H):jt t u D U H:=h (u D) λ_ _ h=>h
theorem dN {j:Nat}{v:V}{Q:VK}(h0:U[i]?=some (some<|.ref a))(ha:H a=some (.tup xs))(hj:xs[j]?=some v)(q:Q v H):Hw (Np K) (pL i) (tC<|.int (j:Int)) U H Q:=⟨_,h0,a,_,_,_,rfl,rfl,iM.of ha,cg (j:=j) hj,q⟩
theorem dU {key:Str}{cI:aP (Key×V)}{v:V}{Q:VK}(h0:U[i]?=some (some<|.ref a))(h:H a=some (.dK cI))(g:eO cI (Sum.inr key)=some v)(q:Q v H):Zo (pL i) (tC<|.str key) U H Q:=⟨_,h0,a,_,rfl, .inl ⟨cI,Sum.inr key,(by first|exact h|exact .inl h),rfl,g.symm⟩,q⟩
end
theorem Zr {α:Type}{n:Nat}{l:List α}(h:l.length=n+1):∃a r,l=a::r/\r.length=n:=by
 cases l with
 |nil=>exact absurd h.symm<|Nat.succ_ne_zero n
 |cons a r=>exact⟨a,r,rfl,Nat.succ.inj h⟩
theorem len2 {τ:St}(h:τ.length=2):∃a b,τ=[a,b]:=by
 obtain⟨a,r,rfl,h1⟩:=Zr h;obtain⟨b,q,rfl,h2⟩:=Zr h1;exact⟨a,b,by rw[ahf h2]⟩
section
variable {X:Cx}
theorem fG (K:aN)(h:X.K=K:=by rfl):IxR X (Np K):=h ▸ aaG
theorem rE (K:aN)(h:X.K=K:=by rfl):IxR X (VN K):=h ▸ VP
theorem kI (K:aN)(h:X.K=K:=by rfl):jL X (.builtin "len") (lO K):=h ▸ Br
theorem piL (K:aN){tg l:aH}{tl:TE}(hl:PE X l tl)(h:X.K=K:=by rfl):PI X tg l (YM K tl):=h ▸ Vv hl
theorem piT (K:aN){tg l:aH}{tl:TE}(hl:PE X l tl)(h:X.K=K:=by rfl):PI X tg l (acy K tl):=h ▸ aav hl
theorem fU (K:aN){e:aH}{f:Str}{pos:Pos}{ta:TE}(he:PE X e ta)(hb:attributeBase e f X.env (eval e X.env)=eval e X.env)(h:X.K=K:=by rfl):PE X (.Attribute e f pos) (Vz K ta f):=h ▸ aaB he hb
theorem iC (K:aN){o value:aH}{f:Str}{pos oN:Pos}{ta tv:TE}(ha:PE X o ta)(hv:PE X value tv)(hs:swapsWith value (some<|.Attribute o f oN) pos.line X.env=pure false)(h:X.K=K:=by rfl):PS X (.Assign [.Attribute o f oN] value pos) (acF K ta tv f):=h ▸ aaC ha hv hs
theorem Zt (K:aN){es:aP aH}{k:Nat}{t:Vd}{n:Nat}{pos:Pos}(hc:X.calm=true)(hq:PGs X es t)(hn:(assignEach es X.env).length=n:=by rfl)(jY:(assignEach es X.env).findIdx? (·.1)=none:=by rfl)(h:X.K=K:=by rfl):PG X (.Tuple es k pos) (M6 K n t):=h ▸ aat hc hq hn jY
theorem BW (K:aN)(h:X.K=K:=by rfl):jL X (.type "tuple") (kY K):=h ▸ zc
theorem RG (K:aN)(h:X.K=K:=by rfl):jL X (.type "list") (lQ K):=h ▸ Bt
theorem jd (K:aN){o e:aH}{es:aP aH}{nM jg:Pos}{to:TE}{t:TA}(ho:PE X o to)(ha:PA X (e::es) t)(pW:attributeBase o "append" X.env (eval o X.env)=eval o X.env:=by rfl)
  (hfew:((backTo jg<|starEach (e::es) X.env).all (λx=>!x.1)&&(backToKw jg<|keywordEach [] X.env).all (λx=>x.1.isSome)&&decide ((e::es).length+([]:aP Keyword).length+(if([]:aP Keyword).isEmpty then 0 else 1)<30))=true:=by rfl)
  (hline:(nM.endLine==jg.line)=true:=by rfl) (hs:starEach (e::es) X.env=(false,eval e X.env)::starEach es X.env:=by rfl) (hplain:(backTo jg<|starEach es X.env).any (·.1)=false:=by rfl) (h:X.K=K:=by rfl):
  PE X (.Call (.Attribute o "append" nM) (e::es) [] jg) (tBM K "list" Bu to t):=h ▸ wW af' PySem.F.slot_list_append PySem.F.type_list_append Nr ho ha pW hfew hline hs hplain
theorem BX (K:aN){o:aH}{nM jg:Pos}{to:TE}(ho:PE X o to)(pW:attributeBase o "pop" X.env (eval o X.env)=eval o X.env:=by rfl)(hline:(nM.endLine==jg.line)=true:=by rfl)(h:X.K=K:=by rfl):
  PE X (.Call (.Attribute o "pop" nM) [] [] jg) (acM K "list" acP to):=h ▸ Rc af' PySem.F.slot_list_pop PySem.F.type_list_pop aaJ ho pW hline
theorem eU (i:Nat){x:Str}{e:aH}{te:TE}{pos oN:Pos}(hN:X.N.Nodup)(he:PE X e te)(hi:X.N[i]?=some x:=by rfl)(hx:Loc X.env.scope x:=by exact Or.inl rfl)(hs:swapsWith e (some<|.Name x oN) pos.line X.env=pure false:=by rfl)(hf:X.fn x=true\/X.env.scope.names.lookup x=some .local:=by first|exact .inl rfl|exact .inr rfl):
  PS X (.Assign [.Name x oN] e pos) (vH te<|jy i):=oO hN hi hx he hs hf
end
noncomputable def vY (rZ:Scope)(N:List Str)(cG:List Str)(jF:List Nat)(aZ:Scope):Bool :=
 aZ.kind==.function&&(aZ.names.all (λy=>y.2 !=.cell)&&(aZ.names.all (λy=>y.2 !=.local||aZ.names.lookup y.1==some .local)&&(aZ.names.all (λy=>y.2 !=.free||(rZ.names.lookup y.1==some .cell||rZ.names.lookup y.1==some .free))&&
 (jF.length==cG.length&&((jF.zip cG).all (λp=>N[p.1]?==some p.2)&&cG.all (λy=>aZ.names.lookup y==some .free))))))
theorem qZ {X:Cx}{rZ:Scope}{N:aP Str}{cG:aP Str}{jF:aP Nat}{aZ:Scope}(h:vY rZ N cG jF aZ=true)(ho:X.env.scope=rZ)(hN:X.N=N):
  oW X cG jF aZ/\∀y∈cG,aZ.names.lookup y=some .free:=by
 unfold vY at h;simp only[ags,List.all_eq_true,Bool.or_eq_true,bne_iff_ne,beq_iff_eq,decide_eq_true_eq]at h;obtain⟨h1,h2,h3,h4,h7,h8,h9⟩:=h;have fl:∀y∈cG,aZ.names.lookup y=some .free:=λy hy=>h9 y hy;refine⟨⟨h1,h2,λy hy e=>?_,λy hy e=>?_,λj y hj=>?_,h7,λy hy=>jQ<|fl y hy⟩,fl⟩
 ·rcases h3 y hy with q|q
  ·exact absurd e q
  ·exact q
 ·have q:rZ.names.lookup y.1=some .cell\/rZ.names.lookup y.1=some .free:=by
   rcases h4 y hy with q|q
   ·exact absurd e q
   ·exact q
  rw[<-ho]at q;exact q
 ·obtain⟨k,e1,e2⟩:=zip_get h7 hj
  exact⟨k,e1,by rw[hN];exact h8 (k,y) e2⟩
theorem RJ {X:Cx}{nH dR tg:aH}{pos:Pos}{ifs:aP aH}{aZ:Scope}{wi:TI}{g:TG}{tt:TT}{te:TE}(rZ:Scope)(N:aP Str)(M cG:aP Str)(jF:aP Nat)
  (hk:vY rZ N cG jF aZ=true) (hi:PI X tg dR wi) (hg:∀C s₀ H₀ ex,PG (fj X (M++cG) aZ C s₀ H₀ ex) tg g)
  (ht:∀C s₀ H₀ ex,Rk (fj X (M++cG) aZ C s₀ H₀ ex) ifs tt) (he:∀C s₀ H₀ ex,PE (fj X (M++cG) aZ C s₀ H₀ ex) nH te)
  (ho:X.env.scope=rZ:=by rfl) (hN:X.N=N:=by rfl) (hc:X.calm=true:=by rfl) (hs:∀v,foldedSetIterable dR X.env v=pure v:=by intro _;rfl):PE X (.ListComp nH [⟨tg,dR,ifs,0⟩] aZ pos) (rD M.length jF wi g tt te):=by
 obtain⟨S,fl⟩:=qZ (X:=X) hk ho hN;exact zR hc S fl hi hg ht he hs
theorem zZ {X:Cx}{nH dR tg:aH}{M:aP Str}{g gy:TG}{y:Str}{py pos xG:Pos}{ifs:aP aH}{aZ:Scope}{cG:aP Str}{jF:aP Nat}{wi:TI}{tt:TT}{te:TE}
  (hc:X.calm=true) (S:oW X cG jF aZ) (hfl:∀y∈cG,aZ.names.lookup y=some .free) (hi:PI X tg dR wi) (hgy:PG X (.Name y py) gy) (hg:∀C s₀ H₀ ex,PG (fj X (M++cG) aZ C s₀ H₀ ex) tg g)
  (ht:∀C s₀ H₀ ex,Rk (fj X (M++cG) aZ C s₀ H₀ ex) ifs tt) (he:∀C s₀ H₀ ex,PE (fj X (M++cG) aZ C s₀ H₀ ex) nH te)
  (hsw:swapsWith (.ListComp nH [⟨tg,dR,ifs,0⟩] aZ pos) (some<|.Name y py) xG.line X.env=pure true)
  (hs:∀v,foldedSetIterable dR X.env v=pure v:=by intro _;rfl):PS X (.Assign [.Name y py] (.ListComp nH [⟨tg,dR,ifs,0⟩] aZ pos) xG) (vH (rD M.length jF wi g tt te) gy):=by
 intro bH s U H D I h;rw[exec_Assign_Name_used _ _ _ _ hsw];refine abI<|wpAny_standAt ?_;refine abI ?_;show wpAny _ _ (comprehension (.ListComp nH [⟨tg,dR,ifs,0⟩] aZ pos) aZ X.env _ (newList []) _ _ (some<|assign (.Name y py) X.env)>>=λ_=>pure ()) _ _ s;refine abI<|wpAny_mono (Q:=λ_ s'=>∃U' H',Inv X bH U' H' s'/\D.nx U' H') ?_ (λ_ s' h'=>ahI<|ahI h') λ_ _ h'=>h';refine uK (M:=M) (g:=g) (XE:=noX) (use:=some<|assign (.Name y py) X.env) (Q':=λ_ s'=>∃U' H',Inv X bH U' H' s'/\D.nx U' H') hc S hfl hi (λC s₀ H₀ ex=>by rw[uI];exact hg C s₀ H₀ ex) (λC s₀ H₀ ex=>by rw[uI];exact ht C s₀ H₀ ex) (λC s₀ H₀ ex=>by rw[uI];exact he C s₀ H₀ ex) hs I h (λ_ _ _ _ _ _ _ _ _ _ _ (z:False)=>z.elim) λDd C H' m4 s4 hn4 hJ HC nC nfC szC aem aen q=>?_;show wpAny _ _ (assign (.Name y py) X.env<|.ref Dd) _ _ s4;have I5:=hJ s4.heap ⟨rfl,λ_ _=>rfl⟩;obtain⟨oC,es,ep,gC,rC⟩:=id hn4;have IPn:Inv X (bH++[(C,oC)]) U H' s4:=I5.vP λp hp=>(agd.mp hp).elim (λz=>I5.pin p<|afI _ z) λz=>by
  have z':p=(C,oC):=by simpa using z
  subst z';exact⟨gC,HC,nC,nfC,λv q=>by have q2:oC.data=.cell v:=q;have q3:=rC.1;rw[q2]at q3;cases q3⟩
 refine gk (hgy _ s4 U _ (.ref Dd) _ _ IPn rfl q) λ_ s6 ⟨U6,H6,I6,q6⟩=>?_;have pC:=I6.pin (C,oC) (afI _<|afI _ (afN.mpr rfl));exact⟨m4,hn4.at' (λo e=>by rw[gC]at e;cases e;exact pC.1),λh'' sb=>⟨U6,H6,I6.kh.turned (t':=s6.toks) (λb o hb e=>(sb.2 b hb).trans e) pC.2.1 nC (.inr szC) aem aen,q6⟩⟩
theorem RK {X:Cx}{nH dR:aH}{x y:Str}{px py pos xG:Pos}{ifs:aP aH}{aZ:Scope}{cG:aP Str}{jF:aP Nat}{wi:TI}{tt:TT}{te:TE}{g:TG}
  (hc:X.calm=true) (S:qH X x cG jF aZ) (hfl:∀y∈cG,aZ.names.lookup y=some .free) (hi:PI X (.Name x px) dR wi) (hgy:PG X (.Name y py) g)
  (ht:∀C s₀ H₀ ex,Rk (fj X (x::cG) aZ C s₀ H₀ ex) ifs tt) (he:∀C s₀ H₀ ex,PE (fj X (x::cG) aZ C s₀ H₀ ex) nH te)
  (hsw:swapsWith (.ListComp nH [⟨.Name x px,dR,ifs,0⟩] aZ pos) (some<|.Name y py) xG.line X.env=pure true)
  (hs:∀v,foldedSetIterable dR X.env v=pure v:=by intro _;rfl):PS X (.Assign [.Name y py] (.ListComp nH [⟨.Name x px,dR,ifs,0⟩] aZ pos) xG) (vH (uX jF wi tt te) g):=by
 have h:=zZ (M:=[x]) (g:=jy 0) hc ⟨S.kind,S.uJ,S.loc,S.fr,S.ix,S.len,S.cl⟩ hfl hi hgy (λC s₀ H₀ ex=>dF (i:=0) S.nd rfl (.inl<|lookup_relabel_local S.tgt) (.inr<|lookup_relabel_local S.tgt)) ht he hsw hs;exact Bx ▸ h
theorem RL {X:Cx}{nH dR:aH}{x y:Str}{px py pos xG:Pos}{ifs:aP aH}{aZ:Scope}{wi:TI}{tt:TT}{te:TE}{g:TG}(rZ:Scope)(N:aP Str)(cG:aP Str)(jF:aP Nat)
  (hk:wZ rZ N x cG jF aZ=true) (hi:PI X (.Name x px) dR wi) (hgy:PG X (.Name y py) g)
  (ht:∀C s₀ H₀ ex,Rk (fj X (x::cG) aZ C s₀ H₀ ex) ifs tt) (he:∀C s₀ H₀ ex,PE (fj X (x::cG) aZ C s₀ H₀ ex) nH te)
  (hsw:swapsWith (.ListComp nH [⟨.Name x px,dR,ifs,0⟩] aZ pos) (some<|.Name y py) xG.line X.env=pure true)
  (ho:X.env.scope=rZ:=by rfl) (hN:X.N=N:=by rfl) (hc:X.calm=true:=by rfl) (hs:∀v,foldedSetIterable dR X.env v=pure v:=by intro _;rfl):
  PS X (.Assign [.Name y py] (.ListComp nH [⟨.Name x px,dR,ifs,0⟩] aZ pos) xG) (vH (uX jF wi tt te) g):=by
 obtain⟨S,fl⟩:=oX (X:=X) hk ho hN;exact RK hc S fl hi hgy ht he hsw hs
end L2
namespace PySem
open PyProof.Rows
namespace F
end F
section
variable {prog:aA}{w:aG}{A:aq}{E:ak->ao->Prop}{s:ao}
end
end PySem
namespace PySem
open PyProof.Rows
section
variable {prog:aA}{w:aG}{A:aq}{E:ak->ao->Prop}{s:ao}
end
section
variable {prog:aA}{w:aG}{A:aq}{s:ao}{R:Result->ao->Prop}
end
section
variable {prog:aA}{w:aG}{A:aq}{E:ak->ao->Prop}{s:ao}
end
end PySem
namespace L2
section
variable {X:Cx}
theorem RM:bootBuiltins "reversed"=some (.type "reversed"):=PyProof.Rows.boot_reversed
theorem Vals.of_get:∀{xs:List V} {us:List ak},xs.length=us.length->(∀(i:Nat) (x:V) (u:ak),xs[i]?=some x->us[i]?=some u->RelV x u)->Vals xs us
 |[],[],_,_=>.nil
 |[],_::_,h,_=>by simp at h
 |_::_,[],h,_=>by simp at h
 |x::xs,u::us,h,g=>.cons (g 0 x u rfl rfl) (Vals.of_get (by simpa using h) λi a b e f=>g (i+1) a b (by simpa using e)<|by simpa using f)
end
open PySem.W
inductive zm (xs:List V)(H:Hp)(Q:VK):Prop where
 |mk (a) (cI):(xs=[V.ref a])->(H a=some (.dK cI))->(∀l,H l=none->Q (.ref l) (upd H l<|.lst (cI.map λkv=>kV kv.1)))->zm xs H Q
end L2
namespace Fw
open L2
noncomputable def top (i:Nat):aJ:=PySem.Challenge.pw_facework_k67_blocks_and_cases.main.body.getD i (.Pass ⟨0,0,0,0⟩)
noncomputable def IK:Int:=10^60
theorem RN:IK<2^200:=by unfold IK;decide
theorem K5 {i:Int}(h1: -(2^200)<i)(h2:i<2^200):Builtin.Int.intBits i<=2^20:=by
 have hb:Builtin.Int.intBits i<=200:=by
  unfold Builtin.Int.intBits;by_cases h0:i=0
  ·subst h0;decide
  ·have hz:(i==0)=false:=by simpa using h0
   rw[hz];have hn:i.natAbs≠0:=by omega
   have:=(Nat.log2_lt hn (k:=200)).mpr (by omega);show i.natAbs.log2+1<=200;exact this
 exact afy hb (by decide)
theorem IV {i j:Int}(h1: -IK<i)(h2:i<IK)(h3: -IK<j)(h4:j<IK):IntMulOk i j:=by
 have:=RN;exact IntMulOk.of_bits (K5 (by omega)<|by omega) (K5 (by omega)<|by omega)
end Fw
namespace L2
theorem BZ {X:Cx}:qW X (binaryOp .Mult) (rI (λi j=>IntMulOk i j) λi j=>.int<|i*j):=opI λ_ _ _ _ _ _ _ hc q=>mul_int q hc
end L2
variable {P:aA}{w:aG}{K:aN}{mg:Str->Option ak}{aV:aK}{f:aj}{fd:FuncData}
namespace Fw
open L2
def K6:Sp:=λvs H Q _=>∃i:Int,vs=[.int i]/\Q (.bl true) H
def K7:Sp:=λvs H Q _=>∃i:Int,vs=[.int i]/\∀H',Same H H'->Q (.int i) H'
noncomputable def rk (w:Nat)(i j:Int):Int:=match w with
 |0=>i+j
 |1=>i-j
 |2=>i*j
 |_=>if i<j then 1 else 0
def kZ (i:Int):Prop:=-IK<i/\i<IK
inductive Cg (w:Nat)(vs:List V)(H:Hp)(Q:VK)(E_:XK):Prop where
 |mk (i j:Int):vs=[.int i, .int j]->kZ i->kZ j->Q (.int<|rk w i j) H->Cg w vs H Q E_
section
theorem K8 (K:aN):kitOne K (.type "int") (.type "int")=some true:=by first|rfl|kernel_rfl
theorem Ga (K:aN):kitOne K (.type "int") (.type "bool")=some false:=by first|rfl|kernel_rfl
theorem xH:bootBuiltins "bool"=some (.type "bool"):=by decide+kernel
abbrev Ci:aJ:=top 11
theorem RP:cu ["thing"] ["thing"] (bN Ci):={}
theorem RQ (F:gY K "is_whole" "is_whole" Ci f fd)(mi:mg "isinstance"=none)(mI:mg "int"=none)(mB:mg "bool"=none):cX P w K mg aV jG 1 f fd ["thing"] K6:=by
 refine F.ok RP (λdJ A aU s H vs Q E hr h=>?_) (by rintro _ _ _ _ ⟨_,rfl,_⟩;rfl);obtain⟨i,rfl,q⟩:=h;refine⟨_,bQ<|cO (aap (cJ nO rfl mi boot_isinstance (bx (pv 0)<|bx (oM (v:=.ty "int") rfl mI boot_int rfl) bG))<|aao (aaq<|cJ nO rfl mi boot_isinstance (bx (pv 0)<|bx (oM (v:=.ty "bool") rfl mB xH rfl) bG))),?_⟩;refine⟨_,rfl,_,_,_,_,rfl, .int i,K8 K,_,rfl,uH ?_⟩;exact⟨_,rfl,_,_,_,_,rfl, .int i,Ga K,_,rfl,q⟩
abbrev s_num:aJ:=top 19
theorem aaR:cu ["value"] ["value"] (bN s_num):={}
theorem aaS (F:gY K "number_of" "number_of" s_num f fd)(h1:Has P w K mg aV 1 "is_whole" ["thing"] K6):cX P w K mg aV jG 2 f fd ["value"] K7:=by
 refine F.ok aaR (λdJ A aU s H vs Q E hr h=>?_) (by rintro _ _ _ _ ⟨_,rfl,_⟩;rfl);obtain⟨i,rfl,q⟩:=h;refine⟨_,bI (dB (ux (pP (cP h1 hr (by decide) rfl (bx (pv 0) bG)))) (bQ iB) cR)<|bQ (cO<|pv 0),?_⟩;exact⟨_,rfl,i,rfl,true,rfl,vJ ⟨_,rfl,q H<|Same.refl _⟩⟩
abbrev vK (n:Nat):aJ:=top (14+n)
theorem aaT:cu ["one","other"] ["one","other"] (bN<|vK 0):={}
theorem aaU:cu ["one","other"] ["one","other"] (bN<|vK 1):={}
theorem aaV:cu ["one","other"] ["one","other"] (bN<|vK 2):={}
theorem aaW:cu ["one","other"] ["one","other"] (bN<|vK 3):={}
theorem Cj {n:Nat}:∀vs H Q E,Cg n vs H Q E->vs.length=(["one","other"]:aP Str).length:=λvs H Q E h=>by
 obtain⟨i,j,rfl,_⟩:=h
 rfl
theorem aaX (F:gY K "sum_of" "sum_of" (vK 0) f fd):cX P w K mg aV jG 1 f fd ["one","other"] (Cg 0):=by
 refine F.ok aaT (λdJ A aU s H vs Q E hr h=>?_) Cj;obtain⟨i,j,rfl,_,_,q⟩:=h;exact⟨_,bQ<|cO (cU gJ (pv 0)<|pv 1),_,rfl,_,rfl,i,j,rfl,rfl,q⟩
theorem aaY (F:gY K "difference_of" "difference_of" (vK 1) f fd):cX P w K mg aV jG 1 f fd ["one","other"] (Cg 1):=by
 refine F.ok aaU (λdJ A aU s H vs Q E hr h=>?_) Cj;obtain⟨i,j,rfl,_,_,q⟩:=h;exact⟨_,bQ<|cO (cU iw (pv 0)<|pv 1),_,rfl,_,rfl,i,j,rfl,rfl,q⟩
theorem aaZ (F:gY K "product_of" "product_of" (vK 2) f fd):cX P w K mg aV jG 1 f fd ["one","other"] (Cg 2):=by
 refine F.ok aaV (λdJ A aU s H vs Q E hr h=>?_) Cj;obtain⟨i,j,rfl,h1,h2,q⟩:=h;exact⟨_,bQ<|cO (cU BZ (pv 0)<|pv 1),_,rfl,_,rfl,i,j,rfl,rfl,IV h1.1 h1.2 h2.1 h2.2,q⟩
theorem aa0 (F:gY K "is_less" "is_less" (vK 3) f fd):cX P w K mg aV jG 1 f fd ["one","other"] (Cg 3):=by
 refine F.ok aaW (λdJ A aU s H vs Q E hr h=>?_) Cj;obtain⟨i,j,rfl,_,_,q⟩:=h;refine⟨_,bQ<|cO (Qw (cA wU (pv 0)<|pv 1) bJ bJ),_,rfl,_,rfl,i,j,rfl,rfl,_,rfl,gO (λc=>?_) λc=>?_⟩
 ·have c1:i<j:=ahM c
  show Q (.int 1) H;have e:rk 3 i j=1:=ahK c1;rw[e]at q;exact q
 ·have c1:¬i<j:=λz=>c (ahN z)
  show Q (.int 0) H;have e:rk 3 i j=0:=ahL c1;rw[e]at q;exact q
end
noncomputable def wordOf:Nat->Str
 |0=>"plus"
 |1=>"minus"
 |2=>"times"
 |_=>"less"
noncomputable def Wg (fr:Nat->aj):List (Str×V):=[("plus", .ref<|fr 0),("minus", .ref<|fr 1),("times", .ref<|fr 2),("less", .ref<|fr 3)]
theorem lW:("minus":Str)≠"plus"/\("times":Str)≠"plus"/\("times":Str)≠"minus"/\("less":Str)≠"plus"/\("less":Str)≠"minus"/\("less":Str)≠"times":=by decide+kernel
theorem Wh (fr:Nat->aj):∀k,k<=3->(Wg fr).lookup (wordOf k)=some (.ref<|fr k)
 |0,_=>by first|rfl|(unfold Wg wordOf;simp[afZ])
 |1,_=>by
  have h:=lW;have b:∀{x y:Str},x≠y->(x==y)=false:=λn=>by simpa using n
  show(Wg fr).lookup ("minus":Str)=_;unfold Wg;simp only[afZ,b h.1,beq_self_eq_true]
 |2,_=>by
  have h:=lW;have b:∀{x y:Str},x≠y->(x==y)=false:=λn=>by simpa using n
  show(Wg fr).lookup ("times":Str)=_;unfold Wg;simp only[afZ,b h.2.1,b h.2.2.1,beq_self_eq_true]
 |3,_=>by
  have h:=lW;have b:∀{x y:Str},x≠y->(x==y)=false:=λn=>by simpa using n
  show(Wg fr).lookup ("less":Str)=_;unfold Wg;simp only[afZ,b h.2.2.2.1,b h.2.2.2.2.1,b h.2.2.2.2.2,beq_self_eq_true]
 |n+4,h=>by omega
inductive IW (CT:aj)(vs:List V)(H:Hp)(Q:VK)(E:XK):Prop where
 |mk (k:Nat) (i j:Int):vs=[.str (wordOf k), .int i, .int j]->k<=3->kZ i->kZ j->(kZ (rk k i j)->∀H',Same H H'->Q (.int<|rk k i j) H')->(¬kZ (rk k i j)->∀ea H',Same H H'->E (.ref CT) (some ea) H')->IW CT vs H Q E
theorem RT (n:Int):(IK<=if n<0 then -n else n)↔¬kZ n:=by
 unfold kZ;split<;>omega
section
abbrev Ja:aJ:=top 20
theorem K9:cu ["word","one","other","number"] ["word","one","other"] (bN Ja):={}
theorem Aa:bootBuiltins "abs"=some (.builtin "abs"):=by decide+kernel
set_option maxHeartbeats 1000000 in
theorem Wi {CT dr:aj}{fr:Nat->aj}{bm:aP ak}{jo B lV:String}(F:gY K "reckoned" "reckoned" Ja f fd)(O:OwnCls "TooGreat" CT bm jo mg aV)(FB:ExcBaseFacts B jo lV bm)(ma:mg "abs"=none)(hR:mg "RECKONINGS"=some (.ref dr))(D:qI K w dr (Wg fr))
  (hF:∀n,n<=3->∃fd,cX P w K mg aV jG 1 (fr n) fd ["one","other"] (Cg n)/\keepIn K (.ref<|fr n)=true/\Binds K fd ["one","other"] []) (h1:Has P w K mg aV 2 "number_of" ["value"] K7):
  cX P w K mg aV (gw P w) 3 f fd ["word","one","other"] (IW CT):=by
 refine F.vU K9 λdJ A aU s H vs Q E hr h=>?_;obtain⟨k,i,j,rfl,hk,hi,hj,q1,q2⟩:=h;refine⟨_,bI (eU 3 K9.nd (Fg (E:=E0) (λf sp=>∃n,n<=3/\f=fr n/\sp=Cg n) (λf sp ⟨n,hn,e1,e2⟩=>by
    obtain⟨fd',G,kp,b⟩:=hF n hn;rw[e1,e2];exact⟨1,fd',_,G,hr.mono (by decide),kp,b⟩) (bZ KH (jD (v:=.ref dr) rfl hR rfl)<|pv 0) wY
   (bx (cP h1 hr (by decide) rfl (bx (pv 1) bG)) (bx (cP h1 hr (by decide) rfl (bx (pv 2) bG)) bG))))
  (bI (dB (cA QH (cJ Em rfl ma Aa (bx (pv 3) bG))<|cU HS bJ bJ) (bQ<|nQ O FB rfl (bx bU bG)) cR)
  (bQ<|cO (pv 3))),?_⟩
 refine⟨_,rfl,wordOf k,dr,_, .ref<|fr k,rfl,rfl,D,Wh fr k hk,fr k,Cg k,rfl,⟨k,hk,rfl,rfl⟩,_,rfl,i,rfl,λH1 s1=>⟨_,rfl,j,rfl,λH2 s2=>⟨i,j,rfl,hi,hj,?_⟩⟩⟩;have s12:=s1.trans s2;refine⟨_,rfl,_,rfl,10,60,rfl,rfl,⟨by decide,by decide,by decide⟩,_,_,rfl,rfl,_,rfl,gO (λc=>?_) λc=>?_⟩
 ·have c1:IK<=if rk k i j<0 then -(rk k i j) else rk k i j:=ahM c
  exact⟨(fH 1),λea _=>q2 ((RT _).mp c1) ea H2 s12⟩
 ·have c1:¬(IK<=if rk k i j<0 then -(rk k i j) else rk k i j):=λz=>c (ahN z)
  have c2:kZ (rk k i j):=by
   by_cases z:kZ (rk k i j)
   ·exact z
   ·exact absurd ((RT _).mpr z) c1
  exact⟨_,rfl,q1 c2 H2 s12⟩
end
end Fw
namespace PySem
open PyProof.Rows
namespace F
theorem zp:Slot "list_reverseiterator" "__length_hint__" "list_reverseiterator.__length_hint__" :=
 .of (owner:="list_reverseiterator") (n:="__length_hint__") (by rw[typeLookup_type,builtinLookup_eq_fast];kernel_rfl) (by decide+kernel) (by decide+kernel) (by decide+kernel)
  (by first|exact .inl (by decide+kernel)|exact .inr<|by decide+kernel) (by rw[isSubtype_type];kernel_rfl)
theorem Oc:typeLookup (.type "list_reverseiterator") "__len__"=pure none:=by rw[typeLookup_type,builtinLookup_eq_fast];kernel_rfl
end F
section
variable {prog:aA}{w:aG}{A:aq}{s:ao}{R:Result->ao->Prop}
theorem uN (hh:A.handled=none)(S I l:aj)(res:ak)(c₀:Nat){xs:Array ak}(hn:xs.size<=sizeLine)(hlI:l≠I)(hSI:S≠I)(hSl:S≠l)(pO:s.heap.IsRevIter I l ((xs.size:Int)-1))(hl:s.heap.IsList l xs)
  (hS:s.heap.get? S=some {cls:=.type "list",data:=.seq #[] c₀})
  (hR:∀s' acc' c',Moved [S,I] (λa b=>a=b) s s'->s'.heap.get? S=some {cls:=.type "list",dict:=none,data:=.seq acc' c',slots:=#[]}->ItemsOf (λi v=>xs[xs.size-1-i]?=some v) acc' xs.size->R (.ok<|.ret res) s'):
  wpAny (model prog w) A.in1 (Builtin.List.listExtendWith (.ref S) (.ref I) res)
   (λfin s'=>match fin with|.done f=>R (.ok f) s'|.again c'=>c'.quiet=true/\codeAny (model prog w) A c' R s') (λe s'=>R (.error e) s') s:=by
 have l63:=L2.oU;have hz:(xs.size:Int)<2^63:=by omega
 have W:=(Walks.listRev (prog:=prog) (w:=w) (A:=A.in1) hh I l hlI xs).toS;have hSf:S∉[I,l]:=by simp[hSI,hSl]
 unfold Builtin.List.listExtendWith;refine abI<|wpAny_typeOf pO.typeIs ?_;have h1:Builtin.List.listSameRef (.ref S) (.ref I)=false:=by simp[Builtin.List.listSameRef,hSI]
 have h2:(Value.type "list_reverseiterator"==Value.type "list")=false:=by decide
 have h3:(Value.type "list_reverseiterator"==Value.type "tuple")=false:=by decide
 simp only[h1,h2,h3,aha,agt,if_false];refine abI<|wpAny_pyIter_revIter pO ?_;refine abI<|ahV ?_;unfold Builtin.List.listLengthHint;refine abI<|wpAny_specialOf pO.typeIs F.Oc ?_;show wpAny _ A.in1 (specialOf (Value.ref I) (Str.ofString "__length_hint__")>>=_) _ _ _;refine abI<|wpAny_specialOf pO.typeIs F.zp.lookup ?_
 (generalize hid:("list_reverseiterator.__length_hint__":String)=id0;(fail_if_success (clear hid id0));wp_delta;rw[show splitId id0=some ("list_reverseiterator","__length_hint__") from by subst hid;decide+kernel];subst hid)
 refine abI (wpAny_isInstance (b:=true) pO.typeIs (by rw[isSubtype_type];kernel_rfl) ?_);rw[ahL (by decide)];dsimp only;rw[ahK (by decide+kernel),ahL (by decide+kernel)];refine ahI ?_;have key:∀(h':aK) (c₁:Nat),h'.get? S=some {cls:=.type "list",data:=.seq #[] c₁}->(∀b o,b≠S->s.heap.get? b=some o->h'.get? b=some o)->
   codeAny (model prog w) A (.builtin "list.extend.loop" ⟨[.ref S, .ref I,res],[]⟩) R {s with heap:=h'}:=λh' c₁ hS' kp=>by
  have st:(λ(i:Nat) (s:ao)=>i<=xs.size/\s.heap.IsRevIter I l ((xs.size:Int)-1-(i:Int))/\s.heap.IsList l xs) 0 {s with heap:=h'}:=by
   refine⟨afY _,?_,?_⟩
   ·have e:(xs.size:Int)-1-((0:Nat):Int)=(xs.size:Int)-1:=by omega
    show Heap.IsRevIter h' I l ((xs.size:Int)-1-((0:Nat):Int));rw[e];exact pO.at λo e=>kp I _ (ahO hSI) e
   ·exact hl.at λo e=>kp l _ (ahO hSl) e
  refine codeAny_extend_loopS W hn S hSf res xs.size 0 _ #[] c₁ rfl (afY _) st hS' (ItemsOf.nil _) λs' acc' c' hm hS'' hacc=>?_;exact hR s' acc' c' ⟨λb o hb e=>hm.heap b o hb (kp b o (λz=>hb<|by simp[z]) e),hm.gens.symm,hm.drawn,hm.os,hm.toks⟩ hS'' hacc
 split
 ·refine abI (wpAny_rule ?_)
  refine abI ?_;show wpAny _ A.in1 (updateSeq S (·.push .none)>>=λ_=>updateSeq S (·.pop)) _ _ _;clear l63 hz hn;refine abI<|wpAny_updateSeq hS rfl ?_;have hS₂:=af7 (Obj.mapSeq (·.push Value.none)) hS rfl;refine wpAny_updateSeq (hz:=by seq_fits) hS₂ rfl ?_;have hS₃:=af7 (Obj.mapSeq (·.pop)) hS₂ rfl;exact ahI ⟨plainId_quiet F.plain_extend_loop _,key _ _ hS₃ λb o hb e=>(af6 _ _<|ahO hb).trans<|(af6 _ _<|ahO hb).trans e⟩
 ·exact ahI ⟨plainId_quiet F.plain_extend_loop _,key _ _ hS λb o _ e=>e⟩
end
section
variable {prog:aA}{w:aG}{A:aq}{E:ak->ao->Prop}{s:ao}
theorem sZ {Q:aP ak->ao->Prop}(hh:A.handled=none)(I l:aj){xs:Array ak}(hn:xs.size<=sizeLine)(hlI:l≠I)(pO:s.heap.IsRevIter I l ((xs.size:Int)-1))(hl:s.heap.IsList l xs)
  (hQ:∀s' iR,s.heap.objs.size<s'.heap.objs.size->Moved [s.heap.objs.size,I] (λa b=>a=b) s s'->ItemsOf (λi v=>xs[xs.size-1-i]?=some v) iR xs.size->Q iR.toList s'):wpAny (model prog w) A (collect<|.ref I) Q E s:=by
 have hSI:s.heap.objs.size≠I:=λe=>by
  obtain⟨o,ho,_⟩:=pO;have:=afB ho;rw[<-e]at this;exact afQ _ this
 have hSl:s.heap.objs.size≠l:=λe=>by
  obtain⟨o,ho,_⟩:=hl;have:=afB ho;rw[<-e]at this;exact afQ _ this
 unfold collect;refine abI<|wpAny_runValue ?_;generalize hR:(λr s'=>_:Result->ao->Prop)=R;refine codeAny_builtin F.entry_proto_collect ?_;rw[Around.under_plainId F.plain_proto_collect _];show wpAny _ A.in1 (newList []>>=λl=>again<|.builtin "list.__iadd__" ⟨[l, .ref I],[]⟩) _ _ s;refine abI<|wpAny_newObj_type ?_;refine ahI ⟨plainId_quiet F.plain_list_iadd _,codeAny_builtin F.entry_list_iadd ?_⟩;rw[Around.under_plainId F.plain_list_iadd _];show wpAny _ A.in1 (Builtin.List.listExtendWith (.ref s.heap.objs.size) (.ref I)<|.ref s.heap.objs.size) _ _ _;refine uN (A:=A) (s:={s with heap:=s.heap.push {cls:=.type "list",data:=.seq ([]:aP ak).toArray}}) hh s.heap.objs.size I l (.ref s.heap.objs.size) _ hn hlI hSI hSl (pO.at λo e=>afx _ e) (hl.at λo e=>afx _ e) (afK _ rfl) λs' acc' c' hm hS' hacc=>?_;subst hR;show wpAny _ A (load s.heap.objs.size>>=_) _ _ s';refine abI<|wpAny_load hS' ?_;exact ahI<|hQ s' acc' (afB hS') ⟨λb o hb e=>hm.heap b o hb<|afx _ e,hm.gens,hm.drawn,hm.os,hm.toks⟩ hacc
theorem rF {Q₁:ak->ao->Prop}(hh:A.handled=none)(I l:aj){xs:Array ak}(hn:xs.size<=sizeLine)(hlI:l≠I)(pO:s.heap.IsRevIter I l ((xs.size:Int)-1))(hl:s.heap.IsList l xs)
  (h:∀s' iR,s.heap.objs.size<s'.heap.objs.size->Moved [s.heap.objs.size,I] (λa b=>a=b) s s'->ItemsOf (λi v=>xs[xs.size-1-i]?=some v) iR xs.size->Q₁ (.ref s'.heap.objs.size) {s' with heap:=s'.heap.push {cls:=.type "tuple",data:=.seq iR}}):
  codeAny (model prog w) A (.call (.builtin "tuple.__new__") ⟨[.type "tuple", .ref I],[]⟩) (wants Q₁ E) s:=by
 refine codeAny_of_tree ?_;show wpAny _ A.in1 (do checkBuiltinCall "tuple.__new__" ⟨[.type "tuple", .ref I],[]⟩;again (.builtin "tuple.__new__" ⟨[.type "tuple", .ref I],[]⟩)) _ _ s;refine abI<|wpAny_of_eq (F.newCall_tuple_1 _) (ahI ⟨plainId_quiet F.plain_tuple_new _,codeAny_builtin F.entry_tuple_new ?_⟩);rw[Around.under_plainId F.plain_tuple_new _];have hsub:=sub_tuple_self;have hinit:=init_tuple_lookup;have hmh:=madeHere_tuple;have hTI:=pO.typeIs
 wp_walk using wpAny_typeOf hTI,sZ (A:=A.in1) hh I l hn hlI pO hl
 intro s' iR jf hm hacc;show wpAny _ _ (Builtin.Tuple.tupleExact iR.toList.toArray>>=λv=>ret v) _ _ _;unfold Builtin.Tuple.tupleExact;refine abI (wpAny_newObj_type ?_<|by show iR.toList.toArray.size<=sizeLine;simp only[Array.toArray_toList];rw[hacc.1];exact hn);refine ahI ?_;have e:iR.toList.toArray=iR:=by simp
 rw[e];exact h s' iR jf hm hacc
theorem xJ {Q:ak->ao->Prop}(hh:A.handled=none)(I l:aj){xs:Array ak}(hn:xs.size<=sizeLine)(hlI:l≠I)(pO:s.heap.IsRevIter I l ((xs.size:Int)-1))(hl:s.heap.IsList l xs)
  (hQ:∀s' iR,s.heap.objs.size<s'.heap.objs.size->Moved [s.heap.objs.size,I] (λa b=>a=b) s s'->ItemsOf (λi v=>xs[xs.size-1-i]?=some v) iR xs.size->Q (.ref s'.heap.objs.size) {s' with heap:=s'.heap.push {cls:=.type "tuple",data:=.seq iR}}):
  wpAny (model prog w) A (call (.type "tuple") [.ref I]) Q E s:=by
 refine callType_codes (Q₁:=λobj eF=>eF.TypeIs obj "tuple"/\Q obj eF) F.called_tuple (F.typeCall_tuple_1 _) F.entry_object_init
  (rF (A:=A.in1) hh I l hn hlI pO hl λs' iR jf hm hacc=>⟨⟨_,afK _ rfl,rfl⟩,hQ s' iR jf hm hacc⟩) λobj eF rB=>?_
 exact⟨rB.1,F.args_object_init_2 obj _,object_init_meets F.called_tuple.init.lookup F.called_tuple.made (by decide) prog w A.in1 _ eF ⟨rB.1,rfl,rB.2⟩⟩
end
end PySem
namespace L2
section
variable {X:Cx}
def Wj (K:aN)(te:TE):TE:=λU H Q=>te U H λx H1=>∃a xs,x=.ref a/\dD K H1 a xs/\∀l,H1 l=none->Q (.ref l) (upd H1 l<|.tup xs.reverse)
theorem Od {e:aH}{te:TE}{p pos p2 pos2:Pos}(hc:X.calm=true)(hgl:Gl X "tuple")(hml:X.mg "tuple"=none)(hgr:Gl X "reversed")(hmr:X.mg "reversed"=none)(he:PE X e te)
  (hs1:starEach [Expr.Call (.Name "reversed" p2) [e] [] pos2] X.env=[(false,eval (Expr.Call (.Name "reversed" p2) [e] [] pos2) X.env)]:=by rfl) (hs2:starEach [e] X.env=[(false,eval e X.env)]:=by rfl):
  PE X (.Call (.Name "tuple" p) [.Call (.Name "reversed" p2) [e] [] pos2] [] pos) (Wj X.K te):=by
 intro bH s U H Q I h;refine wpAny_Call_Name_kw (mV I hgl hml PyProof.Rows.boot_tuple ?_ (by decide)<|by decide);refine PyProof.Rows.callWith_type1 ?_ hs1 rfl;rw[hs1];refine Calls.spliced_cons ?_;refine wpAny_Call_Name_kw (mV I hgr hmr RM ?_ (by decide)<|by decide);refine PyProof.Rows.callWith_type1 ?_ hs2 rfl;rw[hs2];refine Calls.spliced_cons<|gk (he bH s U H _ I h) λu s1 ⟨x,H1,I1,r1,q1⟩=>?_;refine Calls.spliced_nil ?_;obtain⟨a,xs,rfl,hq,q⟩:=q1;cases r1;obtain⟨bh,rv,pt,hz⟩:=I1.list hq;have jX:=rv.length;have h63:=oU;refine call_reversed_list pt.isList ?_;refine Calls.spliced_nil ?_;have ha:a<s1.heap.objs.size:=by obtain⟨o,ho,_⟩:=pt.isList;exact afB ho
 have hl:Heap.IsList (s1.heap.push<|revObj a ((bh.toArray.size:Int)-1)) a bh.toArray:=pt.isList.at λo e=>afx _ e;refine xJ (s:={s1 with heap:=s1.heap.push (revObj a<|(bh.toArray.size:Int)-1)}) (I1.ok.hd hc) s1.heap.objs.size a (xs:=bh.toArray) (by simp;omega) (afV ha) ⟨_,afK _ rfl,rfl,rfl⟩ hl λs' iR jf hm hacc=>?_;obtain⟨h',g',d',t',o'⟩:=s';have eg:s1.gens=g':=hm.gens;have ed:d'=s1.drawn:=hm.drawn;have eo:o'=s1.os:=hm.os;subst eg ed eo;have sz:(s1.heap.push<|revObj a (((bh.toArray).size:Int)-1)).objs.size=s1.heap.objs.size+1:=agj ..;have hlt':s1.heap.objs.size+1<h'.objs.size:=by rw[<-sz];exact jf
 have kp:∀b o,s1.heap.get? b=some o->(h'.push {cls:=.type "tuple",data:=.seq iR}).get? b=some o:=λb o e=>by
  have hb:=afB e;refine afx _<|hm.heap b o ?_ (afx _ e);simp only[afU,afP,ahP,not_or];exact⟨afV (afH hb (afT<|by rw[sz];exact agD _)),afV hb⟩
 have va:Vals xs.reverse iR.toList:=by
  refine Vals.of_get (by rw[agf,jX];have:=hacc.1;simp at this;simp[this]) λi x u e f=>?_;have hi:i<xs.length:=by have:=(ahW e).1;simpa using this
  rw[List.getElem?_reverse hi]at e;have f':iR[i]?=some u:=by simpa using f
  have g:=hacc.2 i u f';have g':bh[xs.length-1-i]?=some u:=by
   have:bh.toArray[bh.toArray.size-1-i]?=some u:=g;simp only[afG,List.getElem?_toArray]at this;rw[jX];exact this
  obtain⟨u',hu',ru⟩:=rv.get e;rw[g']at hu';cases hu';exact ru
 have ea:iR.toList.toArray=iR:=by simp
 have hle:s1.heap.objs.size<=h'.objs.size:=afT (ahx (agD _) hlt');have hz':xs.reverse.length<=sizeLine:=by simpa using hz
 refine⟨.ref _,_,I1.laid (t':=t') kp (a:=h'.objs.size) hle<|show fQ X.prog X.w _ _ _ (.tup xs.reverse) from⟨hz',iR.toList,va,_,afK _ rfl,rfl,?_⟩,rfl,q _<|I1.hok.fresh hle⟩;exact⟨_,by rw[ea]⟩
end
end L2
namespace Fw
open L2
def Ck (pl:aj)(H H':Hp):Prop:=∀b o,b≠pl->H b=some o->H' b=some o
inductive tD (vs:List V)(H:Hp)(Q:VK)(E_:XK):Prop where
 |mk (pl:aj) (p a:List V) (n:Nat):vs=[.ref pl, .int (n:Int)]->H pl=some (.lst<|p++a)->a.length=n->n<=100->(∀t H',H t=none->H' t=some (.tup a)->H' pl=some (.lst p)->Ck pl H H'->Q (.ref t) H')->tD vs H Q E_
section
variable {CM CF CC:aj}
abbrev vZ:aJ:=top 21
noncomputable abbrev nT:List Str:=["pile","count","told"]
theorem Gb:cu nT ["pile","count"] (bN vZ):={}
theorem RV {a:aP V}{i:Nat}(hi:i<a.length):∃v,(a.take<|a.length-i).getLast?=some v/\(a.take<|a.length-i).dropLast=a.take (a.length-(i+1))/\a.reverse.take i++[v]=a.reverse.take (i+1):=by
 have h1:a.length-1-i<a.length:=by omega
 refine⟨a[a.length-1-i],?_,?_,?_⟩
 ·rw[ahq,af9,List.getElem?_take]
  have e:min (a.length-i) a.length-1=a.length-1-i:=by rw[ahE (Nat.sub_le _ _)];exact Nat.sub_right_comm _ _ _
  rw[e,ahK (by omega)];exact afw h1
 ·rw[List.dropLast_eq_take,af9,List.take_take,ahE<|Nat.sub_le _ _,ahE<|Nat.sub_le _ _,Nat.sub_sub]
 ·rw[agn,List.getElem?_reverse hi,afw h1]
  rfl
theorem RW (F:gY K "taken_off" "taken_off" vZ f fd)(mt:mg "tuple"=none)(mr:mg "reversed"=none)(mg':mg "range"=none):cX P w K mg aV jG 1 f fd ["pile","count"] tD:=by
 refine F.ok Gb λdJ A aU s H vs Q E hr h=>?_;obtain⟨pl,p,a,n,rfl,hp,la,ln,q⟩:=h;subst la;have hz:=sizeLine_eq;refine⟨_,bI (RL (bN vZ) nT ["pile"] [0] (by decide+kernel) (jK rfl mg' (bx (pv 1) bG)) (dF (i:=2) Gb.nd rfl (Or.inl rfl)) (λC s₀ H₀ ex=>j8)
   (λC s₀ H₀ ex=>BX K<|pv 1) (by with_unfolding_all rfl))
  (bQ<|cO (Od rfl rfl mt rfl mr (pv 2))),?_⟩
 refine⟨_,rfl,(a.length:Int),rfl,by omega,by omega,?_⟩;rw[af5];refine oY (n:=a.length) (λi vs H'=>vs=a.reverse.take i/\H' pl=some (.lst<|p++a.take (a.length-i))/\Ck pl H H'/\(∀b,b≠pl->H' b=H b)) ⟨rfl,?_,λb o _ h=>h,λ_ _=>rfl⟩ ?_ ?_ ?_
 ·rw[Nat.sub_zero,agu]
  exact hp
 ·rintro i vs H' hi ⟨rfl,_⟩
  rw[af9,agf];omega
 ·rintro i vs H' hi ⟨rfl,hp',kp,ke⟩
  obtain⟨v,e1,e2,e3⟩:=RV hi;refine⟨_,rfl, .inl ⟨rfl,_,dD.of hp'⟩,pl,_,v,rfl,rfl,hp',?_,nx hi ⟨e3,?_,λb o nb hb=>?_,λb nb=>?_⟩⟩
  ·rw[<-ahq,List.getLast?_append,e1]
   rfl
  ·have ne:a.take (a.length-i)≠[]:=λz=>by rw[z]at e1;cases e1
   rw[bA,List.dropLast_append_of_ne_nil ne,e2]
  ·rw[bV nb]
   exact kp b o nb hb
  ·rw[bV nb]
   exact ke b nb
 ·rintro vs H' ⟨rfl,hp',kp,ke⟩ l hl
  have lpl:l≠pl:=λz=>by rw[z,hp']at hl;cases hl
  rw[ahe,ahG,agh]at hp';have e1:a.reverse.take a.length=a.reverse:=ag8 (by rw[agf];exact afv _);rw[e1];refine⟨_,rfl,l,a.reverse,rfl,dD.of bA,λt ht=>?_⟩;rw[agL];have tl:t≠l:=λz=>by rw[z,bA]at ht;cases ht
  rw[bV tl]at ht;have tpl:t≠pl:=λz=>by rw[z,hp']at ht;cases ht
  refine q t _ (by rw[<-ke t tpl];exact ht) bA (by rw[bV (ahO tpl),bV (ahO lpl)];exact hp') λb o nb hb=>?_;have h1:=kp b o nb hb;rw[bV (λz=>by rw[z,ht]at h1;cases h1),bV (λz=>by rw[z,hl]at h1;cases h1)];exact h1
end
noncomputable def xK (cl pl fr gZ st:aj)(ah:V):List (Str×V):=[("calls", .ref cl),("pile", .ref pl),("frame", .ref fr),("outer_frames", .ref gZ),("stored", .ref st),("ahead",ah)]
noncomputable def P0 (own:aj)(be:V):List (Str×V):=[("own", .ref own),("behind",be)]
noncomputable def v9 (most begun under:V):List (Str×V):=[("most",most),("begun",begun),("under_way",under)]
noncomputable def Wk (to:V)(k:aj):List (Str×V):=[("to",to),("kept", .ref k)]
structure wg (K:aN)(CM CF CC CL:aj):Prop where
 cm:Cls K CM
 m1:dW K CM "calls"
 m2:dW K CM "pile"
 m3:dW K CM "frame"
 m4:dW K CM "outer_frames"
 m5:dW K CM "stored"
 m6:dW K CM "ahead"
 cf:Cls K CF
 f1:dW K CF "own"
 f2:dW K CF "behind"
 cc:Cls K CC
 c1:dW K CC "most"
 c2:dW K CC "begun"
 c3:dW K CC "under_way"
 cl:Cls K CL
 l1:dW K CL "to"
 l2:dW K CL "kept"
section
variable (cl pl fr gZ st:aj)(ah v:V)
theorem mf1:(xK cl pl fr gZ st ah).lookup ("calls":Str)=some (V.ref cl):=by kernel_rfl
theorem mf2:(xK cl pl fr gZ st ah).lookup ("pile":Str)=some (V.ref pl):=by kernel_rfl
theorem mf3:(xK cl pl fr gZ st ah).lookup ("frame":Str)=some (V.ref fr):=by kernel_rfl
theorem mf4:(xK cl pl fr gZ st ah).lookup ("outer_frames":Str)=some (V.ref gZ):=by kernel_rfl
theorem mf5:(xK cl pl fr gZ st ah).lookup ("stored":Str)=some (V.ref st):=by kernel_rfl
theorem mf6:(xK cl pl fr gZ st ah).lookup ("ahead":Str)=some ah:=by kernel_rfl
theorem mp6:ju "ahead" v (xK cl pl fr gZ st ah)=xK cl pl fr gZ st v:=by kernel_rfl
theorem mp3 (fr':aj):ju "frame" (V.ref fr') (xK cl pl fr gZ st ah)=xK cl pl fr' gZ st ah:=by kernel_rfl
theorem ff1:(P0 pl v).lookup ("own":Str)=some (V.ref pl):=by kernel_rfl
theorem ff2:(P0 pl v).lookup ("behind":Str)=some v:=by kernel_rfl
theorem cf1 (x y z:V):(v9 x y z).lookup ("most":Str)=some x:=by kernel_rfl
theorem cf2 (x y z:V):(v9 x y z).lookup ("begun":Str)=some y:=by kernel_rfl
theorem cf3 (x y z:V):(v9 x y z).lookup ("under_way":Str)=some z:=by kernel_rfl
theorem cp2 (x y z:V):ju "begun" v (v9 x y z)=v9 x v z:=by kernel_rfl
theorem cp3 (x y z:V):ju "under_way" v (v9 x y z)=v9 x y v:=by kernel_rfl
theorem lf1:(Wk v pl).lookup ("to":Str)=some v:=by kernel_rfl
theorem lf2:(Wk v pl).lookup ("kept":Str)=some (V.ref pl):=by kernel_rfl
end
structure MA where
 (m dx pl gZ cl Oe st:aj)
structure Fm where
 (fr qM own:aj)
 vs:List V
 be:V
structure mJ where
 pile:List V
 cur:Fm
 outer:List Fm
 vL:List V
 ah:V
 (most begun under:Int)
structure MS (CM CF CC:aj)(H:Hp)(a:MA)(s:mJ):Prop where
 ob:H a.m=some (.ins CM a.dx<|xK a.cl a.pl s.cur.fr a.gZ a.st s.ah)
 hp:H a.pl=some (.lst s.pile)
 hf:H a.gZ=some (.lst<|s.outer.map λf=>V.ref f.fr)
 hc:H a.cl=some (.ins CC a.Oe<|v9 (.int s.most) (.int s.begun) (.int s.under))
 hs:H a.st=some (.lst s.vL)
 fs:∀f∈s.cur::s.outer,H f.fr=some (.ins CF f.qM<|P0 f.own f.be)/\H f.own=some (.lst f.vs)
 nd:(a.pl::a.gZ::a.st::(s.cur::s.outer).map (·.own)).Nodup
def Mu (a:MA)(s:mJ)(b:aj):Prop:=b=a.m\/b=a.cl\/b∈a.pl::a.gZ::a.st::(s.cur::s.outer).map (·.own)
def Ext (a:MA)(s:mJ)(H:Hp)(s':mJ)(H':Hp):Prop:=∀b o,¬Mu a s b->H b=some o->¬Mu a s' b/\H' b=some o
theorem Ext.trans {a:MA}{s s1 s2:mJ}{H H1 H2:Hp}(x:Ext a s H s1 H1)(y:Ext a s1 H1 s2 H2):Ext a s H s2 H2:=λb o n h=>y b o (x b o n h).1 (x b o n h).2
theorem Same.ext {a:MA}{s:mJ}{H H':Hp}(e:Same H H'):Ext a s H s H':=λb o n h=>⟨n,e b o h⟩
theorem dH {H:Hp}{a b:aj}{o x:HO}(h:H a=some o)(n:a≠b):(upd H b x) a=some o:=by rw[bV n];exact h
theorem obl {H:Hp}{a b C dx:aj}{fs:aP (Str×V)}{xs:aP V}(h:H a=some (.ins C dx fs))(q:H b=some (.lst xs)):a≠b:=iY h q (by intro z;cases z)
theorem obo {H:Hp}{a b C dx C' dx':aj}{fs fs':aP (Str×V)}(h:H a=some (.ins C dx fs))(q:H b=some (.ins C' dx' fs'))(n:fs.length≠fs'.length):a≠b:=iY h q (by intro z;injection z with _ _ e;exact n<|congrArg List.length e)
noncomputable def mJ.fV (s:mJ)(p:List V):mJ:={s with pile:=p}
noncomputable def mJ.rG (s:mJ)(o:List V):mJ:={s with cur:={s.cur with vs:=o}}
noncomputable def mJ.RX (s:mJ)(o:List V):mJ:={s with vL:=o}
noncomputable def mJ.nU (s:mJ)(v:V):mJ:={s with ah:=v}
noncomputable def mJ.setC (s:mJ)(b u:Int):mJ:={s with begun:=b,under:=u}
section
variable {CM CF CC:aj}{H H':Hp}{a:MA}{s:mJ}
theorem MS.fc (M:MS CM CF CC H a s):H s.cur.fr=some (.ins CF s.cur.qM<|P0 s.cur.own s.cur.be):=(M.fs _ afE).1
theorem MS.ho (M:MS CM CF CC H a s):H s.cur.own=some (.lst s.cur.vs):=(M.fs _ afE).2
theorem MS.same (M:MS CM CF CC H a s)(e:Same H H'):MS CM CF CC H' a s:=⟨e _ _ M.ob,e _ _ M.hp,e _ _ M.hf,e _ _ M.hc,e _ _ M.hs,λf hf=>⟨e _ _ (M.fs f hf).1,e _ _ (M.fs f hf).2⟩,M.nd⟩
theorem MS.Zu (M:MS CM CF CC H a s):a.pl∉a.gZ::a.st::(s.cur::s.outer).map (·.own):=(agH.mp M.nd).1
theorem MS.nof (M:MS CM CF CC H a s):a.gZ∉a.st::(s.cur::s.outer).map (·.own):=(agH.mp (agH.mp M.nd).2).1
theorem MS.yU (M:MS CM CF CC H a s):a.st∉(s.cur::s.outer).map (·.own):=(agH.mp (agH.mp (agH.mp M.nd).2).2).1
theorem MS.now (M:MS CM CF CC H a s):s.cur.own∉s.outer.map (·.own):=(agH.mp (agH.mp (agH.mp (agH.mp M.nd).2).2).2).1
theorem MS.Wm (M:MS CM CF CC H a s):a.gZ≠a.pl:=λe=>M.Zu (e ▸ afE)
theorem MS.aa1 (M:MS CM CF CC H a s):a.st≠a.pl:=λe=>M.Zu (e ▸ afA _ afE)
theorem MS.aa2 (M:MS CM CF CC H a s):a.st≠a.gZ:=λe=>M.nof (e ▸ afE)
theorem MS.fpl (M:MS CM CF CC H a s){f:Fm}(hf:f∈s.cur::s.outer):f.own≠a.pl:=λe=>M.Zu (e ▸ afA _ (afA _<|agB hf))
theorem MS.fof (M:MS CM CF CC H a s){f:Fm}(hf:f∈s.cur::s.outer):f.own≠a.gZ:=λe=>M.nof (e ▸ afA _ (agB hf))
theorem MS.fst (M:MS CM CF CC H a s){f:Fm}(hf:f∈s.cur::s.outer):f.own≠a.st:=λe=>M.yU (e ▸ agB hf)
theorem MS.fow (M:MS CM CF CC H a s){f:Fm}(hf:f∈s.outer):f.own≠s.cur.own:=λe=>M.now (e ▸ agB hf)
theorem MS.mcl (M:MS CM CF CC H a s):a.m≠a.cl:=obo M.ob M.hc (by show ¬((6:Nat)=3);decide)
theorem MS.fm (M:MS CM CF CC H a s){f:Fm}(hf:f∈s.cur::s.outer):f.fr≠a.m:=obo (M.fs f hf).1 M.ob (by show ¬((2:Nat)=6);decide)
theorem MS.fcl (M:MS CM CF CC H a s){f:Fm}(hf:f∈s.cur::s.outer):f.fr≠a.cl:=obo (M.fs f hf).1 M.hc (by show ¬((2:Nat)=3);decide)
theorem MS.fV (M:MS CM CF CC H a s)(p:aP V):MS CM CF CC (upd H a.pl<|.lst p) a (s.fV p) :=
 ⟨dH M.ob<|obl M.ob M.hp,bA,dH M.hf M.Wm,dH M.hc<|obl M.hc M.hp,dH M.hs M.aa1,λf hf=>⟨dH (M.fs f hf).1<|obl (M.fs f hf).1 M.hp,dH (M.fs f hf).2<|M.fpl hf⟩,M.nd⟩
theorem MS.RX (M:MS CM CF CC H a s)(p:aP V):MS CM CF CC (upd H a.st<|.lst p) a (s.RX p) :=
 ⟨dH M.ob<|obl M.ob M.hs,dH M.hp<|ahO M.aa1,dH M.hf<|ahO M.aa2,dH M.hc<|obl M.hc M.hs,bA,λf hf=>⟨dH (M.fs f hf).1<|obl (M.fs f hf).1 M.hs,dH (M.fs f hf).2<|M.fst hf⟩,M.nd⟩
theorem MS.rG (M:MS CM CF CC H a s)(p:aP V):MS CM CF CC (upd H s.cur.own<|.lst p) a (s.rG p):=by
 have hm:s.cur∈s.cur::s.outer:=afE;refine⟨dH M.ob<|obl M.ob M.ho,dH M.hp<|ahO (M.fpl hm),dH M.hf<|ahO (M.fof hm),dH M.hc<|obl M.hc M.ho,dH M.hs<|ahO (M.fst hm),λf hf=>?_,M.nd⟩;rcases afU.mp hf with rfl|hf'
 ·exact⟨dH M.fc<|obl M.fc M.ho,bA⟩
 ·have h:=M.fs f (afA _ hf')
  exact⟨dH h.1<|obl h.1 M.ho,dH h.2<|M.fow hf'⟩
theorem MS.nU (M:MS CM CF CC H a s)(v:V):MS CM CF CC (upd H a.m<|.ins CM a.dx (xK a.cl a.pl s.cur.fr a.gZ a.st v)) a (s.nU v) :=
 ⟨bA,dH M.hp<|ahO (obl M.ob M.hp),dH M.hf<|ahO (obl M.ob M.hf),dH M.hc<|ahO M.mcl,dH M.hs<|ahO (obl M.ob M.hs),λf hf=>⟨dH (M.fs f hf).1<|M.fm hf,dH (M.fs f hf).2<|ahO (obl M.ob (M.fs f hf).2)⟩,M.nd⟩
theorem MS.setC (M:MS CM CF CC H a s)(b u:Int):MS CM CF CC (upd H a.cl<|.ins CC a.Oe (v9 (.int s.most) (.int b)<|.int u)) a (s.setC b u) :=
 ⟨dH M.ob M.mcl,dH M.hp<|ahO (obl M.hc M.hp),dH M.hf<|ahO (obl M.hc M.hf),bA,dH M.hs<|ahO (obl M.hc M.hs),λf hf=>⟨dH (M.fs f hf).1<|M.fcl hf,dH (M.fs f hf).2<|ahO (obl M.hc (M.fs f hf).2)⟩,M.nd⟩
theorem Qh {x:HO}{p:aP V}:Ext a s H (s.fV p) (upd H a.pl x):=λb o n h=>⟨n,dH h λe=>by subst e;exact n<|.inr (.inr afE)⟩
theorem xtS {x:HO}{p:aP V}:Ext a s H (s.RX p) (upd H a.st x):=λb o n h=>⟨n,dH h λe=>by subst e;exact n<|.inr (.inr<|afA _ (afA _ afE))⟩
theorem xtO {x:HO}{p:aP V}:Ext a s H (s.rG p) (upd H s.cur.own x):=λb o n h=>⟨n,dH h λe=>by subst e;exact n<|.inr (.inr<|afA _ (afA _<|afA _ afE))⟩
theorem xtA {x:HO}{v:V}:Ext a s H (s.nU v) (upd H a.m x):=λb o n h=>⟨n,dH h λe=>by subst e;exact n<|.inl rfl⟩
theorem xtC {x:HO}{i j:Int}:Ext a s H (s.setC i j) (upd H a.cl x):=λb o n h=>⟨n,dH h λe=>by subst e;exact n<|.inr (.inl rfl)⟩
theorem MS.xM (M:MS CM CF CC H a s){r:aj}{xs:aP V}(h:H r=some (.tup xs)):¬Mu a s r:=by
 rintro(rfl|rfl|hm)
 ·rw[M.ob]at h;cases h
 ·rw[M.hc]at h;cases h
 ·rcases afU.mp hm with rfl|hm
  ·rw[M.hp]at h;cases h
  ·rcases afU.mp hm with rfl|hm
   ·rw[M.hf]at h;cases h
   ·rcases afU.mp hm with rfl|hm
    ·rw[M.hs]at h;cases h
    ·obtain⟨f,hf,rfl⟩:=List.mem_map.mp hm
     rw[(M.fs f hf).2]at h;cases h
theorem MS.La (M:MS CM CF CC H a s){r:aj}(h:H r=none):¬Mu a s r:=by
 rintro(rfl|rfl|hm)
 ·rw[M.ob]at h;cases h
 ·rw[M.hc]at h;cases h
 ·rcases afU.mp hm with rfl|hm
  ·rw[M.hp]at h;cases h
  ·rcases afU.mp hm with rfl|hm
   ·rw[M.hf]at h;cases h
   ·rcases afU.mp hm with rfl|hm
    ·rw[M.hs]at h;cases h
    ·obtain⟨f,hf,rfl⟩:=List.mem_map.mp hm
     rw[(M.fs f hf).2]at h;cases h
theorem Ck.xt {p':aP V}(k:Ck a.pl H H'):Ext a s H (s.fV p') H':=λb o n h=>⟨n,k b o (λe=>by subst e;exact n<|.inr (.inr afE)) h⟩
theorem MS.kp1 (M:MS CM CF CC H a s){p':aP V}(k:Ck a.pl H H')(hp:H' a.pl=some (.lst p')):MS CM CF CC H' a (s.fV p') :=
 ⟨k _ _ (obl M.ob M.hp) M.ob,hp,k _ _ M.Wm M.hf,k _ _ (obl M.hc M.hp) M.hc,k _ _ M.aa1 M.hs,λf hf=>⟨k _ _ (obl (M.fs f hf).1 M.hp) (M.fs f hf).1,k _ _ (M.fpl hf) (M.fs f hf).2⟩,M.nd⟩
end
noncomputable def nm:Nat->Str
 |0=>"number"|1=>"local"|2=>"global"|3=>"keep"|4=>"drop"|5=>"store"|10=>"unless"|11=>"jump"|_=>"back"
def RS (n:Nat)(args:List V)(s s':mJ):Prop:=match n with
 |0=>∃v,args=[v]/\s'=s.fV (s.pile++[v])
 |1=>∃(j:Nat) (v:V),args=[.int (j:Int)]/\s.cur.vs[j]?=some v/\s'=s.fV (s.pile++[v])
 |2=>∃(j:Nat) (v:V),args=[.int (j:Int)]/\s.vL[j]?=some v/\s'=s.fV (s.pile++[v])
 |3=>∃(p:List V) (v:V),args=[]/\s.pile=p++[v]/\s'=(s.fV p).rG (s.cur.vs++[v])
 |4=>∃(o u:List V) (n:Nat),args=[.int (n:Int)]/\s.cur.vs=o++u/\u.length=n/\s'=s.rG o
 |5=>∃(p:List V) (v:V),args=[]/\s.pile=p++[v]/\s'=(s.fV p).RX (s.vL++[v])
 |10=>∃(p:List V) (t:V) (i:Int),args=[t]/\s.pile=p++[.int i]/\s'=if i=0 then(s.fV p).nU t else s.fV p
 |11=>∃t,args=[t]/\s'=s.nU t
 |_=>args=[]/\s.outer=[]/\s'=s.nU .non
inductive ql (CM CF CC:aj)(n:Nat)(vs:List V)(H:Hp)(Q:VK)(E_:XK):Prop where
 |mk (a:MA) (s s':mJ) (r:aj) (args:List V):vs=[.ref a.m, .ref r]->MS CM CF CC H a s->H r=some (.tup (.str (nm n)::args))->RS n args s s'->s.pile.length<=500->s.cur.vs.length<=500->s.vL.length<=500->(∀H',MS CM CF CC H' a s'->Ext a s H s' H'->Q .non H')->ql CM CF CC n vs H Q E_
section
variable {CM CF CC CL:aj}
theorem mK {n:Nat}:∀vs H Q E,ql CM CF CC n vs H Q E->vs.length=(["machine","row"]:aP Str).length:=λvs H Q E h=>by
 obtain⟨a,s,s',r,args,rfl,_⟩:=h
 rfl
abbrev lH (n:Nat):aJ:=top (28+n)
theorem aa3:cu ["machine","row"] ["machine","row"] (bN<|lH 0):={}
theorem aa4:cu ["machine","row"] ["machine","row"] (bN<|lH 1):={}
theorem aa5:cu ["machine","row"] ["machine","row"] (bN<|lH 2):={}
theorem aa6:cu ["machine","row"] ["machine","row"] (bN<|lH 3):={}
theorem RZ:cu ["machine","row","place"] ["machine","row"] (bN<|lH 4):={}
theorem aa7:cu ["machine","row"] ["machine","row"] (bN<|lH 5):={}
theorem aa8:cu ["machine","row"] ["machine","row"] (bN<|lH 7):={}
theorem aa9:cu ["machine","row"] ["machine","row"] (bN<|lH 8):={}
theorem aa' (F:gY K "do_number" "do_number" (lH 0) f fd)(Tx:wg K CM CF CC CL):cX P w K mg aV (gw P w) 1 f fd ["machine","row"] (ql CM CF CC 0):=by
 refine F.vU aa3 (λdJ A aU s H vs Q E hr h=>?_) mK;obtain⟨a,s,s',r,args,rfl,M,rH,⟨v,rfl,rfl⟩,lp,lo,ls,q⟩:=h;refine⟨_,bQ<|cD (jd K (fU K (pv 0) rfl)<|bx (bZ (fG K) (pv 1) bJ) bG),?_⟩;refine⟨_,rfl,a.m,CM,a.dx,_, .ref a.pl,rfl,M.ob,Tx.cm,Tx.m2,mf2 _ _ _ _ _ _, .inl ⟨rfl,_,dD.of M.hp⟩,_,rfl,r,_,1,v,rfl,rfl,iM.of rH,cg (j:=1) rfl,a.pl,s.pile,v,rfl,rfl,M.hp,cW (by exact afy lp<|by decide),?_⟩;exact q _ (M.fV _) Qh
theorem abb (F:gY K "do_local" "do_local" (lH 1) f fd)(Tx:wg K CM CF CC CL):cX P w K mg aV (gw P w) 1 f fd ["machine","row"] (ql CM CF CC 1):=by
 refine F.vU aa4 (λdJ A aU s H vs Q E hr h=>?_) mK;obtain⟨a,s,s',r,args,rfl,M,rH,⟨j,v,rfl,hv,rfl⟩,lp,lo,ls,q⟩:=h;refine⟨_,bQ<|cD (jd K (fU K (pv 0) rfl)<|bx (bZ (rE K) (fU K (fU K (pv 0) rfl) rfl)<|bZ (fG K) (pv 1) bJ) bG),?_⟩;refine⟨_,rfl,a.m,CM,a.dx,_, .ref a.pl,rfl,M.ob,Tx.cm,Tx.m2,mf2 _ _ _ _ _ _, .inl ⟨rfl,_,dD.of M.hp⟩,_,rfl,a.m,CM,a.dx,_, .ref s.cur.fr,rfl,M.ob,Tx.cm,Tx.m3,mf3 _ _ _ _ _ _,s.cur.fr,CF,s.cur.qM,_, .ref s.cur.own,rfl,M.fc,Tx.cf,Tx.f1,ff1 _ _,_,rfl,r,_,1, .int j,rfl,rfl,iM.of rH,cg (j:=1) rfl,s.cur.own,_,j,v,rfl,rfl,dD.of M.ho,cg (j:=j) hv,a.pl,s.pile,v,rfl,rfl,M.hp,cW (by exact afy lp<|by decide),?_⟩;exact q _ (M.fV _) Qh
theorem abd (F:gY K "do_global" "do_global" (lH 2) f fd)(Tx:wg K CM CF CC CL):cX P w K mg aV (gw P w) 1 f fd ["machine","row"] (ql CM CF CC 2):=by
 refine F.vU aa5 (λdJ A aU s H vs Q E hr h=>?_) mK;obtain⟨a,s,s',r,args,rfl,M,rH,⟨j,v,rfl,hv,rfl⟩,lp,lo,ls,q⟩:=h;refine⟨_,bQ<|cD (jd K (fU K (pv 0) rfl)<|bx (bZ (rE K) (fU K (pv 0) rfl)<|bZ (fG K) (pv 1) bJ) bG),?_⟩;refine⟨_,rfl,a.m,CM,a.dx,_, .ref a.pl,rfl,M.ob,Tx.cm,Tx.m2,mf2 _ _ _ _ _ _, .inl ⟨rfl,_,dD.of M.hp⟩,_,rfl,a.m,CM,a.dx,_, .ref a.st,rfl,M.ob,Tx.cm,Tx.m5,mf5 _ _ _ _ _ _,_,rfl,r,_,1, .int j,rfl,rfl,iM.of rH,cg (j:=1) rfl,a.st,_,j,v,rfl,rfl,dD.of M.hs,cg (j:=j) hv,a.pl,s.pile,v,rfl,rfl,M.hp,cW (by exact afy lp<|by decide),?_⟩;exact q _ (M.fV _) Qh
theorem abe (F:gY K "do_keep" "do_keep" (lH 3) f fd)(Tx:wg K CM CF CC CL):cX P w K mg aV (gw P w) 1 f fd ["machine","row"] (ql CM CF CC 3):=by
 refine F.vU aa6 (λdJ A aU s H vs Q E hr h=>?_) mK;obtain⟨a,s,s',r,args,rfl,M,rH,⟨p,v,rfl,hp,rfl⟩,lp,lo,ls,q⟩:=h;refine⟨_,bQ<|cD (jd K (fU K (fU K (pv 0) rfl) rfl)<|bx (BX K<|fU K (pv 0) rfl) bG),?_⟩;have M1:=M.fV p;have lC:=M.hp;rw[hp]at lC;refine⟨_,rfl,a.m,CM,a.dx,_, .ref s.cur.fr,rfl,M.ob,Tx.cm,Tx.m3,mf3 _ _ _ _ _ _,s.cur.fr,CF,s.cur.qM,_, .ref s.cur.own,rfl,M.fc,Tx.cf,Tx.f1,ff1 _ _, .inl ⟨rfl,_,dD.of M.ho⟩,_,rfl,a.m,CM,a.dx,_, .ref a.pl,rfl,M.ob,Tx.cm,Tx.m2,mf2 _ _ _ _ _ _, .inl ⟨rfl,_,dD.of M.hp⟩,a.pl,_,v,rfl,rfl,lC,by simp,?_⟩;rw[agv];exact⟨s.cur.own,s.cur.vs,v,rfl,rfl,M1.ho,cW (by exact afy lo<|by decide),q _ (M1.rG _)<|Qh.trans xtO⟩
theorem drop_one {o u:aP V}{i n:Nat}(l:u.length=n)(h:i<n):∃v,o++u.take (n-i)=(o++u.take (n-(i+1)))++[v]:=by
 have hl:n-(i+1)<u.length:=by omega
 refine⟨u[n-(i+1)],?_⟩;rw[afM,show n-i=n-(i+1)+1 by omega,agn,afw hl]
 rfl
theorem abf (F:gY K "do_drop" "do_drop" (lH 4) f fd)(Tx:wg K CM CF CC CL)(mr:mg "range"=none):cX P w K mg aV (gw P w) 1 f fd ["machine","row"] (ql CM CF CC 4):=by
 refine F.vU RZ (λdJ A aU s H vs Q E hr h=>?_) mK;obtain⟨a,s,s',r,args,rfl,M,rH,⟨o,u,n,rfl,hv,lu,rfl⟩,lp,lo,ls,q⟩:=h;have ln:n<=500:=by rw[hv,afu]at lo;omega
 refine⟨_,bQ<|mY PassesOwn.leaving rfl (jK rfl mr (bx (bZ (fG K) (pv 1) bJ) bG)) (dF (i:=2) RZ.nd rfl (Or.inl rfl)) (bQ<|cD (BX K<|fU K (fU K (pv 0) rfl) rfl)),?_⟩;refine⟨_,rfl,r,_,1, .int (n:Int),rfl,rfl,iM.of rH,cg (j:=1) rfl,(n:Int),rfl,by omega,by omega,?_⟩;refine qF (n:=n) (λi U H'=>(∃z,U=[some (.ref a.m),some<|.ref r,z])/\MS CM CF CC H' a (s.rG<|o++u.take (n-i))/\Ext a s H (s.rG o) H') ⟨⟨none,rfl⟩,?_,λb o n h=>⟨n,h⟩⟩ ?_ ?_
 ·rw[Nat.sub_zero,<-lu,agu,<-hv]
  exact M
 ·rintro i U H' hi ⟨⟨z,rfl⟩,M',x⟩
  obtain⟨v,e⟩:=drop_one (o:=o) lu hi;rw[e]at M';have lC:H' s.cur.own=some (.lst<|(o++u.take (n-(i+1)))++[v]):=M'.ho;refine⟨_,rfl,a.m,CM,a.dx,_, .ref s.cur.fr,rfl,M'.ob,Tx.cm,Tx.m3,mf3 _ _ _ _ _ _,s.cur.fr,CF,s.cur.qM,_, .ref s.cur.own,rfl,M'.fc,Tx.cf,Tx.f1,ff1 _ _, .inl ⟨rfl,_,dD.of M'.ho⟩,s.cur.own,_,v,rfl,rfl,lC,by simp,⟨_,rfl⟩,?_,?_⟩
  ·rw[agv]
   exact M'.rG _
  ·exact x.trans<|xtO (s:=s.rG o) (p:=o)
 ·rintro U H' ⟨_,M',x⟩
  rw[ahe,ahG,agh]at M';exact q _ M' x
theorem abg (F:gY K "do_store" "do_store" (lH 5) f fd)(Tx:wg K CM CF CC CL):cX P w K mg aV (gw P w) 1 f fd ["machine","row"] (ql CM CF CC 5):=by
 refine F.vU aa7 (λdJ A aU s H vs Q E hr h=>?_) mK;obtain⟨a,s,s',r,args,rfl,M,rH,⟨p,v,rfl,hp,rfl⟩,lp,lo,ls,q⟩:=h;refine⟨_,bQ<|cD (jd K (fU K (pv 0) rfl)<|bx (BX K<|fU K (pv 0) rfl) bG),?_⟩;have M1:=M.fV p;have lC:=M.hp;rw[hp]at lC;refine⟨_,rfl,a.m,CM,a.dx,_, .ref a.st,rfl,M.ob,Tx.cm,Tx.m5,mf5 _ _ _ _ _ _, .inl ⟨rfl,_,dD.of M.hs⟩,_,rfl,a.m,CM,a.dx,_, .ref a.pl,rfl,M.ob,Tx.cm,Tx.m2,mf2 _ _ _ _ _ _, .inl ⟨rfl,_,dD.of M.hp⟩,a.pl,_,v,rfl,rfl,lC,by simp,?_⟩;rw[agv];exact⟨a.st,s.vL,v,rfl,rfl,M1.hs,cW (by exact afy ls<|by decide),q _ (M1.RX _)<|Qh.trans xtS⟩
theorem abh (F:gY K "do_jump" "do_jump" (lH 8) f fd)(Tx:wg K CM CF CC CL):cX P w K mg aV (gw P w) 1 f fd ["machine","row"] (ql CM CF CC 11):=by
 refine F.vU aa9 (λdJ A aU s H vs Q E hr h=>?_) mK;obtain⟨a,s,s',r,args,rfl,M,rH,⟨t,rfl,rfl⟩,lp,lo,ls,q⟩:=h;refine⟨_,bQ<|iC K (pv 0) (bZ (fG K) (pv 1) bJ) rfl,?_⟩;refine⟨_,rfl,r,_,1,t,rfl,rfl,iM.of rH,cg (j:=1) rfl,_,rfl,a.m,CM,a.dx,_,rfl,M.ob,Tx.cm,Tx.m6,(by show 6<1000;decide),?_⟩;rw[mp6];exact q _ (M.nU _) xtA
theorem abj (F:gY K "do_unless" "do_unless" (lH 7) f fd)(Tx:wg K CM CF CC CL)(h1:Has P w K mg aV 2 "number_of" ["value"] K7):cX P w K mg aV (gw P w) 3 f fd ["machine","row"] (ql CM CF CC 10):=by
 refine F.vU aa8 (λdJ A aU s H vs Q E hr h=>?_) mK;obtain⟨a,s,s',r,args,rfl,M,rH,⟨p,t,i,rfl,hp,rfl⟩,lp,lo,ls,q⟩:=h;have lC:=M.hp;rw[hp]at lC;refine⟨_,bQ (dB (cA eV (cP h1 hr (by decide) rfl (bx (BX K<|fU K (pv 0) rfl) bG)) bJ) (bQ<|iC K (pv 0) (bZ (fG K) (pv 1) bJ) rfl) cR),?_⟩;refine⟨_,rfl,a.m,CM,a.dx,_, .ref a.pl,rfl,M.ob,Tx.cm,Tx.m2,mf2 _ _ _ _ _ _, .inl ⟨rfl,_,dD.of M.hp⟩,a.pl,_, .int i,rfl,rfl,lC,by simp,?_⟩;rw[agv];refine⟨i,rfl,λH1 s1=>⟨rfl,_,rfl,?_⟩⟩;have M1:=(M.fV p).same s1;have k1:Ext a s H (s.fV p) H1:=Qh.trans (Same.ext s1);refine gO (λc=>?_) λc=>?_
 ·have c1:V.int i=V.int 0:=ahM c
  have c2:i=0:=by injection c1
  rw[ahK c2]at q;have hr1:=(k1 r _ (M.xM rH) rH).2;refine(dN (a:=r) (j:=1) rfl hr1 rfl ⟨_,rfl,a.m,CM,a.dx,_,rfl,M1.ob,Tx.cm,Tx.m6,(by show 6<1000;decide),?_⟩);rw[mp6];exact q _ (M1.nU t)<|k1.trans xtA
 ·have c2:¬i=0:=λz=>c (by rw[z];rfl)
  rw[ahL c2]at q;exact q _ M1 k1
end
inductive tE (CM CF CC CT:aj)(vs:List V)(H:Hp)(Q:VK)(E:XK):Prop where
 |mk (a:MA) (s:mJ) (r:aj) (p:List V) (k:Nat) (i j:Int):vs=[.ref a.m, .ref r]->MS CM CF CC H a s->s.pile=p++[.int i, .int j]->H r=some (.tup [.str (wordOf k)])->k<=3->p.length<=500->kZ i->kZ j->(kZ (rk k i j)->∀H',MS CM CF CC H' a (s.fV<|p++[.int (rk k i j)])->Ext a s H (s.fV<|p++[.int (rk k i j)]) H'->Q .non H')->(¬kZ (rk k i j)->∀ea H',(∀b o,¬Mu a s b->H b=some o->H' b=some o)->E (.ref CT) (some ea) H')->tE CM CF CC CT vs H Q E
section
variable {CM CF CC CL CT:aj}
abbrev xO:aJ:=top 34
theorem Ab:cu ["machine","row","numbers"] ["machine","row"] (bN xO):={}
theorem Og {fR:aj}{gR:FuncData}(F:gY K "do_reckon" "do_reckon" xO f fd)(Tx:wg K CM CF CC CL)(h1:Has P w K mg aV 1 "taken_off" ["pile","count"] tD)
  (G:cX P w K mg aV (gw P w) 3 fR gR ["word","one","other"] (IW CT)) (hm:mg "reckoned"=some (.ref fR)) (kp:keepIn K (.ref fR)=true) (b:Binds K gR ["word","one","other"] []):
  cX P w K mg aV (gw P w) 4 f fd ["machine","row"] (tE CM CF CC CT):=by
 refine F.vU Ab λdJ A aU s H vs Q E hr h=>?_;obtain⟨a,s,r,p,k,i,j,rfl,M,hp,rH,hk,lp,hi,hj,q1,q2⟩:=h;have lC:=M.hp;rw[hp]at lC;refine⟨_,bI (eU 2 Ab.nd (cP h1 hr (by decide) rfl (bx (fU K (pv 0) rfl)<|bx bJ bG)))
  (bQ (cD (jd K (fU K (pv 0) rfl) (bx (gU G hr rfl hm kp b .nil dY
   (bx (bZ (fG K) (pv 1) bJ)<|bx (bZ (fG K) (pv 2) bJ) (bx (bZ (fG K) (pv 2) bJ) bG))) bG)))),?_⟩
 refine⟨_,rfl,a.m,CM,a.dx,_, .ref a.pl,rfl,M.ob,Tx.cm,Tx.m2,mf2 _ _ _ _ _ _,a.pl,p,[.int i, .int j],2,rfl,lC,rfl,by decide,λt H1 ht0 ht hp1 k1=>?_⟩;have M1:=M.kp1 k1 hp1;have x1:Ext a s H (s.fV p) H1:=Ck.xt k1;have hr1:=(x1 r _ (M.xM rH) rH).2;refine⟨_,rfl,a.m,CM,a.dx,_, .ref a.pl,rfl,M1.ob,Tx.cm,Tx.m2,mf2 _ _ _ _ _ _, .inl ⟨rfl,_,dD.of M1.hp⟩,dN (a:=r) (j:=0) rfl hr1 rfl ⟨_,rfl,t,_,0, .int i,rfl,rfl,iM.of ht,cg (j:=0) rfl,
  dN (a:=t) (j:=1) rfl ht rfl ⟨k,i,j,rfl,hk,hi,hj,λhin H2 s2=>?_,λhout ea H2 s2=>q2 hout ea H2 λb o n h=>s2 b o (x1 b o n h).2⟩⟩⟩
 have M2:=M1.same s2;exact⟨a.pl,p,_,rfl,rfl,M2.hp,cW (by exact afy lp<|by decide),q1 hin _ (M2.fV _)<|(x1.trans<|Same.ext s2).trans Qh⟩
end
end Fw
namespace L2
theorem Oh {X:Cx}:jL X (.builtin "isinstance") (λxs H Q=>∃x t C b,xs=[x, .ref C]/\sJ X.K H x t/\kitOne X.K t (.ref C)=some b/\Q (.bl b) H):=by
 intro bH s U H xs us Q I r h;obtain⟨x,t,C,b,rfl,ty,e,q⟩:=h;obtain⟨u,w',rfl,rx,ry⟩:=vals2 r;cases(show w'=Value.ref C from ry);exact zK I rx ty e λtk=>⟨.bl b,H,I.tok tk,rfl,q⟩
end L2
namespace Fw
open L2
theorem Ck.trans {m:aj}{H H1 H2:Hp}(a:Ck m H H1)(b:Ck m H1 H2):Ck m H H2:=λc o n h=>b c o n (a c o n h)
theorem Ck.free {m b:aj}{H H':Hp}(k:Ck m H H')(n:b≠m)(h:H' b=none):H b=none:=by
 cases hz:H b with
 |none=>rfl
 |some o=>rw[k b o n hz]at h;cases h
theorem abk {H:Hp}{d m C dx:aj}{o:HO}{fs fs':aP (Str×V)}(hm:H m=some (.ins C dx fs))(hd:H d=none):
  (upd H d o) m=some (.ins C dx fs)/\(upd (upd H d o) m<|.ins C dx fs') m=some (.ins C dx fs')/\(upd (upd H d o) m<|.ins C dx fs') d=some o/\Ck m H (upd (upd H d o) m<|.ins C dx fs')/\d≠m:=by
 have n:m≠d:=bY hm hd;refine⟨by rw[bV n];exact hm,bA,by rw[bV (ahO n),bA],λb x nb h=>?_,ahO n⟩;rw[bV nb,bV (bY h hd)];exact h
theorem Lb {H:Hp}{x y:aj}{C:aj}{fs:aP (Str×V)}(hx:H x=none)(hy:H y=none)(n:y≠x):
  (upd (upd (upd H y<|.own x) x<|.ins C y []) x<|.ins C y fs) x=some (.ins C y fs)/\∀b o,H b=some o->(upd (upd (upd H y<|.own x) x<|.ins C y []) x<|.ins C y fs) b=some o:=by
 refine⟨bA,λb o h=>?_⟩;rw[bV (bY h hx),bV<|bY h hx,bV (bY h hy)];exact h
inductive Cm (CC:aj)(vs:List V)(H:Hp)(Q:VK)(E_:XK):Prop where
 |mk (p dx:aj) (v:V):vs=[.ref p,v]->H p=some (.ins CC dx [])->Q .non (upd H p<|.ins CC dx (v9 v (.int 0)<|.int 0))->Cm CC vs H Q E_
inductive wj (CF:aj)(vs:List V)(H:Hp)(Q:VK)(E_:XK):Prop where
 |mk (p dx own:aj) (be:V):vs=[.ref p, .ref own,be]->H p=some (.ins CF dx [])->Q .non (upd H p<|.ins CF dx (P0 own be))->wj CF vs H Q E_
inductive xP (CL:aj)(vs:List V)(H:Hp)(Q:VK)(E_:XK):Prop where
 |mk (p dx k:aj) (to:V):vs=[.ref p,to, .ref k]->H p=some (.ins CL dx [])->Q .non (upd H p<|.ins CL dx (Wk to k))->xP CL vs H Q E_
inductive Cp (CC iG iH:aj)(vs:List V)(H:Hp)(Q:VK)(E:XK):Prop where
 |mk (p dx:aj) (m b u:Int):vs=[.ref p]->H p=some (.ins CC dx<|v9 (.int m) (.int b) (.int u))->(m<b+1->∀ea,E (.ref iG) (some ea) H)->(b+1<=m->10<u+1->∀ea,E (.ref iH) (some ea) H)->(b+1<=m->u+1<=10->Q .non (upd H p<|.ins CC dx (v9 (.int m) (.int<|b+1)<|.int (u+1))))->Cp CC iG iH vs H Q E
inductive rJ (CC:aj)(vs:List V)(H:Hp)(Q:VK)(E_:XK):Prop where
 |mk (p dx:aj) (m b u:Int):vs=[.ref p]->H p=some (.ins CC dx<|v9 (.int m) (.int b) (.int u))->Q .non (upd H p<|.ins CC dx (v9 (.int m) (.int b)<|.int (u-1)))->rJ CC vs H Q E_
section
variable {CM CF CC CL iG iH:aj}
abbrev Cq:aJ:=inClass (top 23) 0
abbrev Cr:aJ:=inClass (top 23) 1
abbrev Cu:aJ:=inClass (top 23) 2
abbrev xQ:aJ:=inClass (top 25) 0
abbrev Cw:aJ:=inClass (top 26) 0
abbrev Jb:aJ:=inClass (top 27) 0
theorem R0:cu ["self","most"] ["self","most"] (bN Cq):={}
theorem R4:cu ["self"] ["self"] (bN Cr):={}
theorem R5:cu ["self"] ["self"] (bN Cu):={}
theorem Oi:cu ["self","to","kept"] ["self","to","kept"] (bN xQ):={}
theorem R6:cu ["self","own","behind"] ["self","own","behind"] (bN Cw):={}
theorem Wn:cu ["self","most"] ["self","most"] (bN Jb):={}
theorem c1 (a:V):ju "most" a []=([("most",a)]:aP (Str×V)):=by kernel_rfl
theorem c2 (a b:V):ju "begun" b [("most",a)]=([("most",a),("begun",b)]:aP (Str×V)):=by kernel_rfl
theorem c3 (a b c:V):ju "under_way" c [("most",a),("begun",b)]=([("most",a),("begun",b),("under_way",c)]:aP (Str×V)):=by kernel_rfl
theorem f1 (a:V):ju "own" a []=([("own",a)]:aP (Str×V)):=by kernel_rfl
theorem f2 (a b:V):ju "behind" b [("own",a)]=([("own",a),("behind",b)]:aP (Str×V)):=by kernel_rfl
theorem l1 (a:V):ju "to" a []=([("to",a)]:aP (Str×V)):=by kernel_rfl
theorem l2 (a b:V):ju "kept" b [("to",a)]=([("to",a),("kept",b)]:aP (Str×V)):=by kernel_rfl
theorem R7 (F:gY K "__init__" "Calls.__init__" Cq f fd)(Tx:wg K CM CF CC CL):cX P w K mg aV jG 1 f fd ["self","most"] (Cm CC):=by
 refine F.ok R0 λdJ A aU s H vs Q E hr h=>?_;obtain⟨p,dx,v,rfl,hp,q⟩:=h;refine⟨_,bI (iC K (pv 0) (pv 1) rfl)<|bI (iC K (pv 0) bJ rfl) (bQ<|iC K (pv 0) bJ rfl),?_⟩;refine⟨_,rfl,_,rfl,p,CC,dx,[],rfl,hp,Tx.cc,Tx.c1,(by show 0<1000;decide),?_⟩;rw[c1];refine⟨_,rfl,p,CC,dx,_,rfl,bA,Tx.cc,Tx.c2,(by show 1<1000;decide),?_⟩;rw[c2];refine⟨_,rfl,p,CC,dx,_,rfl,bA,Tx.cc,Tx.c3,(by show 2<1000;decide),?_⟩;rw[c3,oH,oH];exact q
theorem Gd (F:gY K "__init__" "Frame.__init__" Cw f fd)(Tx:wg K CM CF CC CL):cX P w K mg aV jG 1 f fd ["self","own","behind"] (wj CF):=by
 refine F.ok R6 λdJ A aU s H vs Q E hr h=>?_;obtain⟨p,dx,own,be,rfl,hp,q⟩:=h;refine⟨_,bI (iC K (pv 0) (pv 1) rfl)<|bQ (iC K (pv 0) (pv 2) rfl),?_⟩;refine⟨_,rfl,_,rfl,p,CF,dx,[],rfl,hp,Tx.cf,Tx.f1,(by show 0<1000;decide),?_⟩;rw[f1];refine⟨_,rfl,_,rfl,p,CF,dx,_,rfl,bA,Tx.cf,Tx.f2,(by show 1<1000;decide),?_⟩;rw[f2,oH];exact q
theorem Oj (F:gY K "__init__" "Closed.__init__" xQ f fd)(Tx:wg K CM CF CC CL):cX P w K mg aV jG 1 f fd ["self","to","kept"] (xP CL):=by
 refine F.ok Oi λdJ A aU s H vs Q E hr h=>?_;obtain⟨p,dx,k,to,rfl,hp,q⟩:=h;refine⟨_,bI (iC K (pv 0) (pv 1) rfl)<|bQ (iC K (pv 0) (pv 2) rfl),?_⟩;refine⟨_,rfl,_,rfl,p,CL,dx,[],rfl,hp,Tx.cl,Tx.l1,(by show 0<1000;decide),?_⟩;rw[l1];refine⟨_,rfl,_,rfl,p,CL,dx,_,rfl,bA,Tx.cl,Tx.l2,(by show 1<1000;decide),?_⟩;rw[l2,oH];exact q
theorem R8 {bm bm':aP ak}{jo B lV j4 B' tG:String}{tk:Tok}(F:gY K "begin" "Calls.begin" Cr f fd)(Tx:wg K CM CF CC CL)(O:OwnCls "TooLong" iG bm jo mg aV)(FB:ExcBaseFacts B jo lV bm)(O':OwnCls "TooDeep" iH bm' j4 mg aV)(FB':ExcBaseFacts B' j4 tG bm')
  (hM:mg "MOST_UNDER_WAY"=some (.int 10 tk)):cX P w K mg aV (gw P w) 1 f fd ["self"] (Cp CC iG iH):=by
 refine F.vU R4 λdJ A aU s H vs Q E hr h=>?_;obtain⟨p,dx,m,b,u,rfl,hp,q1,q2,q3⟩:=h;refine⟨_,bI (dB (cA zJ (cU gJ (fU K (pv 0) rfl) bJ)<|fU K (pv 0) rfl) (bQ<|nQ O FB rfl (bx bU bG)) cR)
  (bI (dB (cA zJ (cU gJ (fU K (pv 0) rfl) bJ)<|jD (v:=.int 10) rfl hM ⟨_,rfl⟩) (bQ<|nQ O' FB' rfl (bx bU bG)) cR)
  (bI (iC K (pv 0) (cU gJ (fU K (pv 0) rfl) bJ) rfl)<|bQ (iC K (pv 0) (cU gJ (fU K (pv 0) rfl) bJ) rfl))),?_⟩
 refine⟨_,rfl,p,CC,dx,_,_,rfl,hp,Tx.cc,Tx.c2,cf2 _ _ _,b,1,rfl,rfl,_,rfl,p,CC,dx,_,_,rfl,hp,Tx.cc,Tx.c1,cf1 _ _ _,b+1,m,rfl,rfl,_,rfl,gO (λc=>?_) λc=>?_⟩
 ·exact⟨(fH 1),λea _=>q1 (ahM c) ea⟩
 have c1:b+1<=m:=Int.not_lt.mp λz=>c (ahN z);refine⟨_,rfl,p,CC,dx,_,_,rfl,hp,Tx.cc,Tx.c3,cf3 _ _ _,u,1,rfl,rfl,u+1,10,rfl,rfl,_,rfl,gO (λc'=>?_) λc'=>?_⟩
 ·exact⟨(fH 1),λea _=>q2 c1 (ahM c') ea⟩
 have c2:u+1<=10:=Int.not_lt.mp λz=>c' (ahN z);refine⟨_,rfl,p,CC,dx,_,_,rfl,hp,Tx.cc,Tx.c2,cf2 _ _ _,b,1,rfl,rfl,_,rfl,p,CC,dx,_,rfl,hp,Tx.cc,Tx.c2,(by show 3<1000;decide),?_⟩;rw[cp2];refine⟨_,rfl,p,CC,dx,_,_,rfl,bA,Tx.cc,Tx.c3,cf3 _ _ _,u,1,rfl,rfl,_,rfl,p,CC,dx,_,rfl,bA,Tx.cc,Tx.c3,(by show 3<1000;decide),?_⟩;rw[cp3,oH];exact q3 c1 c2
theorem R9 (F:gY K "come_back" "Calls.come_back" Cu f fd)(Tx:wg K CM CF CC CL):cX P w K mg aV (gw P w) 1 f fd ["self"] (rJ CC):=by
 refine F.vU R5 λdJ A aU s H vs Q E hr h=>?_;obtain⟨p,dx,m,b,u,rfl,hp,q⟩:=h;refine⟨_,bQ<|iC K (pv 0) (cU iw (fU K (pv 0) rfl) bJ) rfl,?_⟩;refine⟨_,rfl,p,CC,dx,_,_,rfl,hp,Tx.cc,Tx.c3,cf3 _ _ _,u,1,rfl,rfl,_,rfl,p,CC,dx,_,rfl,hp,Tx.cc,Tx.c3,(by show 3<1000;decide),?_⟩;rw[cp3];exact q
end
theorem Ge {K:aN}{H:Hp}{a:aj}{xs:aP V}{tt:TT}{te:TE}{U':L2.St}{Q:VK}(Pv:Nat->aP V->Hp->Prop)(h0:Pv 0 [] H)(hl:∀i vs H,i<=xs.length->Pv i vs H->iM K H a xs/\vs.length<sizeLine)
  (hs:∀i x vs H2,i<xs.length->xs[i]?=some x->Pv i vs H2->tt (some x::U') H2 λb H4=>if b=true then te (some x::U') H4 λv H5=>Nx xs.length i (Pv (i+1) (vs++[v]) H5) else Nx xs.length i (Pv (i+1) vs H4))
  (hd:∀vs H2,Pv xs.length vs H2->∀l,H2 l=none->Q (.ref l) (upd H2 l<|.lst vs)):Fe (Itt K a) tt te U' Q H:=by
 refine⟨λi m vs H=>m=xs.length-i/\i<=xs.length/\Pv i vs H,⟨xs.length,by simp,afY _,h0⟩,?_⟩;rintro i m vs H2 ⟨rfl,hi,p⟩;obtain⟨q1,q2⟩:=hl i vs H2 hi p;refine⟨q2,?_⟩;by_cases jf:i<xs.length
 ·refine .inr ⟨⟨xs,xs[i],q1,by simp[jf]⟩,?_⟩
  rintro x H3 ⟨e,y⟩;subst e;exact hs i x vs _ jf (y xs q1) p
 ·have e:i=xs.length:=by exact ago hi (Nat.not_lt.mp jf)
  subst e;exact .inl ⟨⟨xs,q1,afv _⟩,hd vs H2 p⟩
noncomputable def mJ.push (s:mJ)(f:Fm)(t:V):mJ:={s with cur:=f,outer:=s.outer++[s.cur],ah:=t}
noncomputable def mJ.pop (s:mJ)(f:Fm)(O:List Fm)(t:V):mJ:={s with cur:=f,outer:=O,ah:=t}
section
variable {CM CF CC:aj}{H H':Hp}{a:MA}{s:mJ}
theorem MS.aeo (M:MS CM CF CC H a s){b:aj}(h:b∈a.pl::a.gZ::a.st::(s.cur::s.outer).map (·.own)):∃xs,H b=some (.lst xs):=by
 rcases afU.mp h with rfl|hm
 ·exact⟨_,M.hp⟩
 ·rcases afU.mp hm with rfl|hm
  ·exact⟨_,M.hf⟩
  ·rcases afU.mp hm with rfl|hm
   ·exact⟨_,M.hs⟩
   ·obtain⟨f,hf,rfl⟩:=List.mem_map.mp hm
    exact⟨_,(M.fs f hf).2⟩
theorem MS.push (M:MS CM CF CC H a s){f:Fm}{t:V}(h1:H' a.m=some (.ins CM a.dx<|xK a.cl a.pl f.fr a.gZ a.st t))(h2:H' a.gZ=some (.lst<|(s.outer++[s.cur]).map λf=>V.ref f.fr))
  (h3:H' f.fr=some (.ins CF f.qM<|P0 f.own f.be)) (h4:H' f.own=some (.lst f.vs)) (h5:H f.own=none) (k:∀b o,b≠a.m->b≠a.gZ->H b=some o->H' b=some o):MS CM CF CC H' a (s.push f t)/\Ext a s H (s.push f t) H':=by
 have hin:∀g∈s.outer++[s.cur],g∈s.cur::s.outer:=λg hg=>by
  rcases agd.mp hg with h|h
  ·exact afA _ h
  ·rw[afN.mp h];exact afE
 have keep:∀g∈s.cur::s.outer,H' g.fr=some (.ins CF g.qM<|P0 g.own g.be)/\H' g.own=some (.lst g.vs):=λg hg=>
  ⟨k _ _ (M.fm hg) (obl (M.fs g hg).1 M.hf) (M.fs g hg).1,k _ _ (ahO<|obl M.ob (M.fs g hg).2) (M.fof hg) (M.fs g hg).2⟩
 refine⟨⟨h1,k _ _ (ahO<|obl M.ob M.hp) (ahO M.Wm) M.hp,h2,k _ _ (ahO M.mcl) (obl M.hc M.hf) M.hc,k _ _ (ahO<|obl M.ob M.hs) M.aa2 M.hs,λg hg=>?_,?_⟩,λb o n h=>⟨?_,?_⟩⟩
 ·rcases afU.mp hg with rfl|hg'
  ·exact⟨h3,h4⟩
  ·exact keep g<|hin g hg'
 ·have n0:f.own∉a.pl::a.gZ::a.st::(s.cur::s.outer).map (·.own):=λhm=>by
   obtain⟨xs,hx⟩:=M.aeo hm;rw[hx]at h5;cases h5
  have n1:(f.own::a.pl::a.gZ::a.st::(s.cur::s.outer).map (·.own)).Nodup:=agH.mpr ⟨n0,M.nd⟩;refine(List.Perm.nodup_iff ?_).mpr n1;show(a.pl::a.gZ::a.st::f.own::(s.outer++[s.cur]).map (·.own)).Perm _;rw[af0];refine List.Perm.trans ?_<|List.perm_middle (l₁:=[a.pl,a.gZ,a.st]) (a:=f.own) (l₂:=(s.cur::s.outer).map (·.own));exact((((ahm s.cur.own<|s.outer.map (·.own)).cons _).cons _).cons _).cons _
 ·rintro(rfl|rfl|hm)
  ·exact n<|.inl rfl
  ·exact n<|.inr (.inl rfl)
  ·have hm':b∈a.pl::a.gZ::a.st::f.own::(s.outer++[s.cur]).map (·.own):=hm
   by_cases e:b=f.own
   ·rw[e,h5]at h;cases h
   ·refine n (.inr<|.inr ?_)
    simp only[afU,afW,af0,agd,ahw,afP,ahP]at hm' ⊢;rcases hm' with h|h|h|h|h|h
    ·exact .inl h
    ·exact .inr<|.inl h
    ·exact .inr<|.inr (.inl h)
    ·exact absurd h e
    ·exact .inr<|.inr (.inr<|.inr h)
    ·exact .inr<|.inr (.inr<|.inl h)
 ·exact k b o (λe=>n<|.inl e) (λe=>n<|.inr (.inr<|e ▸ afA _ afE)) h
theorem MS.pop (M:MS CM CF CC H a s){f:Fm}{O:aP Fm}{t:V}(ho:s.outer=O++[f])(h1:H' a.m=some (.ins CM a.dx<|xK a.cl a.pl f.fr a.gZ a.st t))(h2:H' a.gZ=some (.lst<|O.map λf=>V.ref f.fr))
  (k:∀b o,b≠a.m->b≠a.gZ->H b=some o->H' b=some o):MS CM CF CC H' a (s.pop f O t)/\Ext a s H (s.pop f O t) H':=by
 have hin:∀g∈f::O,g∈s.cur::s.outer:=λg hg=>by
  rw[ho];rcases afU.mp hg with rfl|h
  ·exact afA _<|afI _ (afN.mpr rfl)
  ·exact afA _<|agg _ h
 refine⟨⟨h1,k _ _ (ahO<|obl M.ob M.hp) (ahO M.Wm) M.hp,h2,k _ _ (ahO M.mcl) (obl M.hc M.hf) M.hc,k _ _ (ahO<|obl M.ob M.hs) M.aa2 M.hs,λg hg=>?_,?_⟩,λb o n h=>⟨?_,?_⟩⟩
 ·have hg':=hin g hg
  exact⟨k _ _ (M.fm hg') (obl (M.fs g hg').1 M.hf) (M.fs g hg').1,k _ _ (ahO<|obl M.ob (M.fs g hg').2) (M.fof hg') (M.fs g hg').2⟩
 ·have n1:=M.nd
  rw[ho]at n1;have n2:(a.pl::a.gZ::a.st::(O++[f]).map (·.own)).Nodup:=n1.sublist ((((ag9 _ _).cons₂ _).cons₂ _).cons₂ _);rw[af0]at n2;exact(List.Perm.nodup_iff<|(((ahm f.own<|O.map (·.own)).symm.cons _).cons _).cons _).mpr n2
 ·rintro(rfl|rfl|hm)
  ·exact n<|.inl rfl
  ·exact n<|.inr (.inl rfl)
  ·have hm':b∈a.pl::a.gZ::a.st::(f::O).map (·.own):=hm
   refine n<|.inr (.inr ?_);rcases afU.mp hm' with h|h
   ·exact h ▸ afE
   ·refine afA _ ?_
    rcases afU.mp h with h|h
    ·exact h ▸ afE
    ·refine afA _ ?_
     rcases afU.mp h with h|h
     ·exact h ▸ afE
     ·refine afA _ ?_
      obtain⟨g,hg,e⟩:=List.mem_map.mp h;exact List.mem_map.mpr ⟨g,hin g hg,e⟩
 ·exact k b o (λe=>n<|.inl e) (λe=>n<|.inr (.inr<|e ▸ afA _ afE)) h
end
inductive xR (CM CF CC:aj)(vs:List V)(H:Hp)(Q:VK)(E_:XK):Prop where
 |mk (a:MA) (s:mJ) (pt:aj) (js:List Nat) (ws:List V):vs=[.ref a.m, .ref pt]->MS CM CF CC H a s->H pt=some (.tup (js.map λj:Nat=>V.int (j:Int)))->js.map (λj=>s.cur.vs[j]?)=ws.map some->js.length<=500->(∀k,H k=none->Q (.ref k) (upd H k<|.lst ws))->xR CM CF CC vs H Q E_
section
variable {CM CF CC CL iG iH:aj}
abbrev tH:aJ:=top 37
theorem Ol:cu ["machine","places"] ["machine","places"] (bN tH):={}
theorem Om (F:gY K "locals_at" "locals_at" tH f fd)(Tx:wg K CM CF CC CL):cX P w K mg aV jG 1 f fd ["machine","places"] (xR CM CF CC):=by
 refine F.ok Ol λdJ A aU s H vs Q E hr h=>?_;obtain⟨a,s,pt,js,ws,rfl,M,hpt,hjs,lj,q⟩:=h;have hz:=sizeLine_eq;have hl:ws.length=js.length:=by
  have:=congrArg List.length hjs;simpa using this.symm
 refine⟨_,bQ (cO (KD (bN tH) ["machine","places"] ["machine"] [0] (by decide+kernel) (piT K<|pv 1) (λC s₀ H₀ ex=>j8)
  (λC s₀ H₀ ex=>show PE _ _ (Hw (VN K) (Vz K (Vz K _ "frame") "own") _) from bZ (rE K) (fU K (fU K (pv 1) rfl) rfl) (pv 0) λ_ _=>rfl))),?_⟩
 refine⟨_,rfl,pt,rfl,⟨_,iM.of hpt⟩,Ge (xs:=js.map λj:Nat=>V.int (j:Int)) (λi vs H'=>H'=H/\vs=ws.take i) ⟨rfl,rfl⟩ ?_ ?_ ?_⟩
 ·rintro i vs H' hi ⟨rfl,rfl⟩
  exact⟨iM.of hpt,by rw[af9];omega⟩
 ·rintro i x vs H' hi hx ⟨rfl,rfl⟩
  rw[afJ]at hx;cases hj:js[i]? with
  |none=>rw[hj]at hx;cases hx
  |some j=>
   rw[hj]at hx;cases hx;have e:=congrArg (·[i]?) hjs;simp only[afJ,hj,agp]at e;cases hw:ws[i]? with
   |none=>rw[hw]at e;cases e
   |some v=>
    rw[hw]at e;have e':s.cur.vs[j]?=some v:=by injection e
    refine Zg<|uH ⟨_,rfl,a.m,CM,a.dx,_, .ref s.cur.fr,rfl,M.ob,Tx.cm,Tx.m3,mf3 _ _ _ _ _ _,s.cur.fr,CF,s.cur.qM,_, .ref s.cur.own,rfl,M.fc,Tx.cf,Tx.f1,ff1 _ _,_,rfl,s.cur.own,_,j,v,rfl,rfl,dD.of M.ho,cg (j:=j) e',nx hi ⟨rfl,?_⟩⟩;rw[agn,hw]
    rfl
 ·rintro vs H' ⟨rfl,rfl⟩ l hl'
  rw[afL,<-hl,agu];exact q l hl'
end
structure IsC (K:aN)(C:aj):Prop where
 i1:findIn K (.ref C) "__class__"=some (some<|.builtin "object.__class__")
 i2:specialIn K (.builtin "object.__class__") "__get__"=some (some<|.builtin "getset_descriptor.__get__")
 i3:takesIn K (.builtin "object.__class__")=some true
 i4:mroIn K C (.type "object")=some true
 i5:kitOne K (.ref C) (.ref C)=some true
inductive Cy (CM CF CC CL:aj)(vs:List V)(H:Hp)(Q:VK)(E_:XK):Prop where
 |mk (a:MA) (s:mJ) (r pt:aj) (to:V) (js:List Nat) (ws:List V):vs=[.ref a.m, .ref r]->MS CM CF CC H a s->H r=some (.tup [.str "close",to, .ref pt])->H pt=some (.tup (js.map λj:Nat=>V.int (j:Int)))->js.map (λj=>s.cur.vs[j]?)=ws.map some->js.length<=500->s.pile.length<=500->(∀c Cz k H',MS CM CF CC H' a (s.fV<|s.pile++[.ref c])->H' c=some (.ins CL Cz<|Wk to k)->H' k=some (.lst ws)->¬Mu a s c->¬Mu a s k->Ext a s H (s.fV<|s.pile++[.ref c]) H'->Q .non H')->Cy CM CF CC CL vs H Q E_
inductive CG (CM CF CC CL iG iH:aj)(vs:List V)(H:Hp)(Q:VK)(E:XK):Prop where
 |mk (a:MA) (s:mJ) (r c Cz k:aj) (p ws:List V) (v to:V):vs=[.ref a.m, .ref r]->MS CM CF CC H a s->s.pile=p++[.ref c,v]->H c=some (.ins CL Cz<|Wk to k)->H k=some (.lst ws)->¬Mu a s c->¬Mu a s k->p.length<=500->ws.length<=500->s.outer.length<=500->(s.most<s.begun+1->∀ea H',(∀b o,¬Mu a s b->H b=some o->H' b=some o)->E (.ref iG) (some ea) H')->(s.begun+1<=s.most->10<s.under+1->∀ea H',(∀b o,¬Mu a s b->H b=some o->H' b=some o)->E (.ref iH) (some ea) H')->(s.begun+1<=s.most->s.under+1<=10->∀fr qM own H',MS CM CF CC H' a (((s.fV p).setC (s.begun+1)<|s.under+1).push ⟨fr,qM,own,ws++[v],s.ah⟩ to)->Ext a s H (((s.fV p).setC (s.begun+1)<|s.under+1).push ⟨fr,qM,own,ws++[v],s.ah⟩ to) H'->Q .non H')->CG CM CF CC CL iG iH vs H Q E
inductive CJ (CM CF CC:aj)(vs:List V)(H:Hp)(Q:VK)(E_:XK):Prop where
 |mk (a:MA) (s:mJ) (r:aj):vs=[.ref a.m, .ref r]->MS CM CF CC H a s->s.outer.length<=500->(s.outer=[]->∀H',MS CM CF CC H' a (s.nU .non)->Ext a s H (s.nU .non) H'->Q .non H')->(∀O f,s.outer=O++[f]->∀H',MS CM CF CC H' a ((s.setC s.begun<|s.under-1).pop f O s.cur.be)->Ext a s H ((s.setC s.begun<|s.under-1).pop f O s.cur.be) H'->Q .non H')->CJ CM CF CC vs H Q E_
section
variable {CM CF CC CL iG iH:aj}
abbrev uO:aJ:=top 38
abbrev xT:aJ:=top 40
abbrev xU:aJ:=top 41
theorem Jc:cu ["machine","row"] ["machine","row"] (bN uO):={}
theorem uP:cu ["machine","row","values","function"] ["machine","row"] (bN xT):={}
theorem Oo:cu ["machine","row"] ["machine","row"] (bN xU):={}
theorem Jd {fL:aj}{gL:FuncData}(F:gY K "do_close" "do_close" uO f fd)(Tx:wg K CM CF CC CL)(ML:Mk K CL fL)(GL:cX P w K mg aV jG 1 fL gL ["self","to","kept"] (xP CL))(bL:Binds K gL ["self","to","kept"] [])(hL:mg "Closed"=some (.ref CL))
  (h1:Has P w K mg aV 1 "locals_at" ["machine","places"] (xR CM CF CC)):cX P w K mg aV (gw P w) 3 f fd ["machine","row"] (Cy CM CF CC CL):=by
 refine F.vU Jc λdJ A aU s H vs Q E hr h=>?_;obtain⟨a,s,r,pt,to,js,ws,rfl,M,rH,hpt,hjs,lj,lp,q⟩:=h;refine⟨_,bQ (cD (jd K (fU K (pv 0) rfl) (bx (sU ML GL hr rfl hL bL .nil wY
  (bx (bZ (fG K) (pv 1) bJ) (bx (cP h1 hr (by decide) rfl (bx (pv 0)<|bx (bZ (fG K) (pv 1) bJ) bG)) bG))) bG))),?_⟩
 refine⟨_,rfl,a.m,CM,a.dx,_, .ref a.pl,rfl,M.ob,Tx.cm,Tx.m2,mf2 _ _ _ _ _ _, .inl ⟨rfl,_,dD.of M.hp⟩,_,rfl,r,_,1,to,rfl,rfl,iM.of rH,cg (j:=1) rfl,_,rfl,_,rfl,r,_,2, .ref pt,rfl,rfl,iM.of rH,cg (j:=2) rfl,
  a,s,pt,js,ws,rfl,M,hpt,hjs,lj,λk hk=>λc Cz hc hdx ncd=>⟨c,Cz,k,to,rfl,bA,rfl,?_⟩⟩
 have s1:=bK hk (.lst ws);have hk1:(upd H k<|.lst ws) k=some (.lst ws):=bA;revert s1 hk1 hc hdx;generalize upd H k (.lst ws)=H1;intro hc hdx s1 hk1;obtain⟨a5,k5⟩:=Lb (C:=CL) (fs:=Wk to k) hc hdx ncd;revert a5 k5;generalize upd (upd (upd H1 Cz<|.own c) c<|.ins CL Cz []) c (.ins CL Cz<|Wk to k)=H2;intro a5 k5;have M2:=(M.same s1).same k5;have n1:c≠a.pl:=ahO (bY (s1 _ _ M.hp) hc);have n2:k≠a.pl:=ahO (bY M.hp hk);refine⟨a.pl,s.pile, .ref c,rfl,rfl,M2.hp,cW (by exact afy lp<|by decide),q c Cz k _ (M2.fV _) (dH a5 n1) (dH (k5 _ _ hk1) n2) ((M.same s1).La hc) (M.La hk) ?_⟩;exact((Same.ext s1).trans<|Same.ext k5).trans Qh
theorem Oq {fB:aj}{gB:FuncData}(F:gY K "do_back" "do_back" xU f fd)(Tx:wg K CM CF CC CL)(ml:mg "len"=none)(MB:Meth K CC "come_back" fB)(GB:cX P w K mg aV (gw P w) 1 fB gB ["self"] (rJ CC))(bB:Binds K gB ["self"] []):
  cX P w K mg aV (gw P w) 2 f fd ["machine","row"] (CJ CM CF CC):=by
 refine F.vU Oo λdJ A aU s H vs Q E hr h=>?_;obtain⟨a,s,r,rfl,M,lo,q1,q2⟩:=h;refine⟨_,bI (dB (cA eV (cJ (kI K) rfl ml ahS (bx (fU K (pv 0) rfl) bG)) bJ) (bI (iC K (pv 0) wO rfl)<|bQ Vu) cR)
  (bI (cD<|Eo (E:=E) (fU K (pv 0) rfl) Tx.cc MB GB hr bB .nil dY)
  (bI (iC K (pv 0) (fU K (fU K (pv 0) rfl) rfl) rfl)
  (bQ<|iC K (pv 0) (BX K<|fU K (pv 0) rfl) rfl))),?_⟩
 refine⟨_,rfl,a.m,CM,a.dx,_, .ref a.gZ,rfl,M.ob,Tx.cm,Tx.m4,mf4 _ _ _ _ _ _,a.gZ,_,rfl, .inl<|dD.of M.hf,rfl,_,rfl,gO (λc=>?_) λc=>?_⟩
 ·have c1:V.int ((s.outer.map λf=>V.ref f.fr).length:Nat)=V.int 0:=ahM c
  have c2:s.outer=[]:=by
   have e:(((s.outer.map λf=>V.ref f.fr).length:Nat):Int)=0:=by injection c1
   rw[afL]at e;exact List.length_eq_zero_iff.mp (by omega)
  refine⟨_,rfl,a.m,CM,a.dx,_,rfl,M.ob,Tx.cm,Tx.m6,(by show 6<1000;decide),?_⟩;rw[mp6];exact q1 c2 _ (M.nU .non) xtA
 ·have c2:s.outer≠[]:=λz=>c (by rw[z];rfl)
  obtain⟨O,f,ho⟩:∃O f,s.outer=O++[f]:=⟨s.outer.dropLast,s.outer.getLast c2,(List.dropLast_concat_getLast c2).symm⟩;have hof:H a.gZ=some (.lst<|(O.map λf=>V.ref f.fr)++[V.ref f.fr]):=by
   have h:=M.hf;rw[ho,af0]at h;exact h
  refine⟨_,rfl,a.m,CM,a.dx,_, .ref a.cl,rfl,M.ob,Tx.cm,Tx.m1,mf1 _ _ _ _ _ _,a.cl,a.Oe,_,rfl,M.hc,rfl,a.cl,a.Oe,s.most,s.begun,s.under,rfl,M.hc,?_⟩;have M1:=M.setC s.begun (s.under-1);have x1:Ext a s H (s.setC s.begun<|s.under-1) (upd H a.cl<|.ins CC a.Oe (v9 (.int s.most) (.int s.begun)<|.int (s.under-1))):=xtC;have abl:=dH (b:=a.cl) (x:=.ins CC a.Oe<|v9 (.int s.most) (.int s.begun) (.int<|s.under-1)) hof (ahO<|obl M.hc M.hf);revert M1 x1 abl;generalize upd H a.cl (.ins CC a.Oe<|v9 (.int s.most) (.int s.begun) (.int<|s.under-1))=H1;intro M1 x1 abl;refine⟨_,rfl,a.m,CM,a.dx,_, .ref s.cur.fr,rfl,M1.ob,Tx.cm,Tx.m3,mf3 _ _ _ _ _ _,s.cur.fr,CF,s.cur.qM,_,s.cur.be,rfl,M1.fc,Tx.cf,Tx.f2,ff2 _ _,_,rfl,a.m,CM,a.dx,_,rfl,M1.ob,Tx.cm,Tx.m6,(by show 6<1000;decide),?_⟩;rw[mp6];have M2:=M1.nU s.cur.be;have nm:a.gZ≠a.m:=ahO (obl M.ob M.hf);have ac8:=dH (b:=a.m) (x:=.ins CM a.dx<|xK a.cl a.pl s.cur.fr a.gZ a.st s.cur.be) abl nm;refine⟨_,rfl,a.m,CM,a.dx,_, .ref a.gZ,rfl,bA,Tx.cm,Tx.m4,mf4 _ _ _ _ _ _, .inl ⟨rfl,_,dD.of ac8⟩,a.gZ,_, .ref f.fr,rfl,rfl,ac8,by simp,?_⟩;rw[agv];refine⟨_,rfl,a.m,CM,a.dx,_,rfl,dH bA<|ahO nm,Tx.cm,Tx.m3,(by show 6<1000;decide),?_⟩;rw[mp3];obtain⟨M3,x3⟩:=M1.pop (f:=f) (O:=O) (t:=s.cur.be) (H':=upd (upd (upd H1 a.m<|.ins CM a.dx (xK a.cl a.pl s.cur.fr a.gZ a.st s.cur.be)) a.gZ<|.lst (O.map λf=>V.ref f.fr)) a.m<|.ins CM a.dx (xK a.cl a.pl f.fr a.gZ a.st s.cur.be)) ho bA (dH bA nm)
   λb o n1 n2 h=>by rw[bV n1,bV n2,bV n1];exact h
  exact q2 O f ho _ M3<|x1.trans x3
end
section
variable {CM CF CC CL iG iH:aj}
theorem Ot {fB fF:aj}{gB gF:FuncData}(F:gY K "do_call" "do_call" xT f fd)(Tx:wg K CM CF CC CL)(IC:IsC K CL)(mi:mg "isinstance"=none)(h1:Has P w K mg aV 1 "taken_off" ["pile","count"] tD)(hL:mg "Closed"=some (.ref CL))
  (MB:Meth K CC "begin" fB) (GB:cX P w K mg aV (gw P w) 1 fB gB ["self"] (Cp CC iG iH)) (bB:Binds K gB ["self"] []) (MF:Mk K CF fF) (GF:cX P w K mg aV jG 1 fF gF ["self","own","behind"] (wj CF)) (bF:Binds K gF ["self","own","behind"] []) (hF:mg "Frame"=some (.ref CF)):
  cX P w K mg aV (gw P w) 3 f fd ["machine","row"] (CG CM CF CC CL iG iH):=by
 refine F.vU uP λdJ A aU s H vs Q E hr h=>?_;obtain⟨a,s,r,c,Cz,k,p,ws,v,to,rfl,M,hp,hc,hk,nc,nk,lp,lw,lo,q1,q2,q3⟩:=h;have lC:=M.hp;rw[hp]at lC;refine⟨_,bI (eU 2 uP.nd (cP h1 hr (by decide) rfl (bx (fU K (pv 0) rfl)<|bx bJ bG)))
  (bI (eU 3 uP.nd<|bZ (fG K) (pv 2) bJ)
  (bI (dB (ux<|pP (cJ Oh rfl mi boot_isinstance (bx (pv 3)<|bx (jD (v:=.ref CL) rfl hL rfl) bG))) (bQ iB) cR)
  (bI (cD (Eo (E:=E) (fU K (pv 0) rfl) Tx.cc MB GB (hr.mono<|by decide) bB .nil dY))
  (bI (cD<|jd K (fU K (pv 0) rfl) (bx (fU K (pv 0) rfl) bG))
  (bI (iC K (pv 0) (sU MF GF hr rfl hF bF .nil wY (bx (cU lU (fU K (pv 3) rfl)<|dO (bx (bZ (fG K) (pv 2) bJ) bG))<|bx (fU K (pv 0) rfl) bG)) rfl)
  (bQ<|iC K (pv 0) (fU K (pv 3) rfl) rfl)))))),?_⟩
 refine⟨_,rfl,a.m,CM,a.dx,_, .ref a.pl,rfl,M.ob,Tx.cm,Tx.m2,mf2 _ _ _ _ _ _,a.pl,p,[.ref c,v],2,rfl,lC,rfl,by decide,λt H1 ht0 ht hp1 k1=>?_⟩;have M1:=M.kp1 k1 hp1;have x1:Ext a s H (s.fV p) H1:=Ck.xt k1;have hc1:=(x1 c _ nc hc).2;have hk1:=(x1 k _ nk hk).2;refine(dN (a:=t) (j:=0) rfl ht rfl ?_);refine⟨_,rfl,_,_,_,_,rfl, .ins hc1 Tx.cl IC.i1 IC.i2 IC.i3 IC.i4,IC.i5,true,rfl,vJ ?_⟩;refine⟨_,rfl,a.m,CM,a.dx,_, .ref a.cl,rfl,M1.ob,Tx.cm,Tx.m1,mf1 _ _ _ _ _ _,a.cl,a.Oe,_,rfl,M1.hc,rfl,a.cl,a.Oe,s.most,s.begun,s.under,rfl,M1.hc,
  λz ea=>q1 z ea H1 λb o n h=>(x1 b o n h).2,λz z' ea=>q2 z z' ea H1 λb o n h=>(x1 b o n h).2,λz z'=>?_⟩
 have M2:MS CM CF CC (upd H1 a.cl<|.ins CC a.Oe (v9 (.int s.most) (.int<|s.begun+1)<|.int (s.under+1))) a ((s.fV p).setC (s.begun+1)<|s.under+1):=M1.setC (s.begun+1) (s.under+1);have x2:Ext a s H ((s.fV p).setC (s.begun+1)<|s.under+1) (upd H1 a.cl<|.ins CC a.Oe (v9 (.int s.most) (.int<|s.begun+1)<|.int (s.under+1))):=x1.trans xtC;have Zv:=dH (b:=a.cl) (x:=.ins CC a.Oe<|v9 (.int s.most) (.int<|s.begun+1) (.int<|s.under+1)) ht (ahO (iY M1.hc ht<|by intro z;cases z));have hc2:=(x2 c _ nc hc).2;have hk2:=(x2 k _ nk hk).2;have nc2:=(x2 c _ nc hc).1;have nk2:=(x2 k _ nk hk).1;revert M2 x2 Zv hc2 hk2;generalize upd H1 a.cl (.ins CC a.Oe<|v9 (.int s.most) (.int<|s.begun+1) (.int<|s.under+1))=H2;intro M2 x2 Zv hc2 hk2;have no:a.gZ≠a.m:=ahO (obl M2.ob M2.hf);have nco:c≠a.gZ:=obl hc2 M2.hf;have nko:k≠a.gZ:=λe=>nk2 (.inr<|.inr (e ▸ afA _ afE));have nto:t≠a.gZ:=iY Zv M2.hf (by intro z;cases z);refine⟨_,rfl,a.m,CM,a.dx,_, .ref a.gZ,rfl,M2.ob,Tx.cm,Tx.m4,mf4 _ _ _ _ _ _, .inl ⟨rfl,_,dD.of M2.hf⟩,_,rfl,a.m,CM,a.dx,_, .ref s.cur.fr,rfl,M2.ob,Tx.cm,Tx.m3,mf3 _ _ _ _ _ _,a.gZ,_, .ref s.cur.fr,rfl,rfl,M2.hf,cW (by rw[afL];show s.outer.length<=1000000;exact afy lo<|by decide),?_⟩;have k3:∀b o,b≠a.gZ->H2 b=some o->(upd H2 a.gZ<|.lst ((s.outer.map λf=>V.ref f.fr)++[.ref s.cur.fr])) b=some o:=λb o n h=>dH h n;have o3:(upd H2 a.gZ<|.lst ((s.outer.map λf=>V.ref f.fr)++[.ref s.cur.fr])) a.gZ=some (.lst<|(s.outer.map λf=>V.ref f.fr)++[.ref s.cur.fr]):=bA;have f3:∀b,b≠a.gZ->(upd H2 a.gZ<|.lst ((s.outer.map λf=>V.ref f.fr)++[.ref s.cur.fr])) b=H2 b:=λb n=>bV n;revert k3 o3 f3;generalize hH3:upd H2 a.gZ (.lst<|(s.outer.map λf=>V.ref f.fr)++[.ref s.cur.fr])=H3;intro k3 o3 f3;rw[show(upd H2 a.gZ<|.lst ((((s.fV p).setC (s.begun+1)<|s.under+1).outer.map λf=>V.ref f.fr)++[.ref s.cur.fr]))=H3 from hH3];have ob3:H3 a.m=some (.ins CM a.dx<|xK a.cl a.pl s.cur.fr a.gZ a.st s.ah):=k3 _ _ (ahO no) M2.ob;have hc3:=k3 _ _ nco hc2;have hk3:=k3 _ _ nko hk2;have Ou:=k3 _ _ nto Zv;refine⟨_,rfl,c,CL,Cz,_, .ref k,rfl,hc3,Tx.cl,Tx.l2,lf2 _ _,dN (a:=t) (j:=1) rfl Ou rfl ⟨(fH 1),λl1 hl1=>?_⟩⟩;have s4:=bK hl1 (.lst [v]);have l4:(upd H3 l1<|.lst [v]) l1=some (.lst [v]):=bA;revert s4 l4;generalize upd H3 l1 (.lst [v])=H4;intro s4 l4;refine⟨k,l1,ws,[v],rfl,rfl,s4 _ _ hk3,l4,small (by show ws.length+1<=1000000;exact agE lw<|by decide),λown hown=>?_⟩;have s5:=bK hown (.lst<|ws++[v]);have o5:(upd H4 own<|.lst (ws++[v])) own=some (.lst<|ws++[v]):=bA;have aep:H2 own=none:=by
  have e:own≠a.gZ:=ahO (bY (s4 _ _ o3) hown);rw[<-f3 own e];exact Same.free s4 hown
 revert s5 o5;generalize upd H4 own (.lst<|ws++[v])=H5;intro s5 o5;have Je:Same H3 H5:=s4.trans s5;refine⟨_,rfl,a.m,CM,a.dx,_,s.ah,rfl,Je _ _ ob3,Tx.cm,Tx.m6,mf6 _ _ _ _ _ _,λfr qM hfr abm nfr=>⟨fr,qM,own,s.ah,rfl,bA,rfl,?_⟩⟩;obtain⟨a6,k6⟩:=Lb (C:=CF) (fs:=P0 own s.ah) hfr abm nfr;revert a6 k6;generalize upd (upd (upd H5 qM<|.own fr) fr<|.ins CF qM []) fr (.ins CF qM<|P0 own s.ah)=H6;intro a6 k6;have Vg:Same H3 H6:=Je.trans k6;refine⟨_,rfl,a.m,CM,a.dx,_,rfl,Vg _ _ ob3,Tx.cm,Tx.m3,(by show 6<1000;decide),?_⟩;rw[mp3];have ncm:c≠a.m:=obo hc3 ob3 (by show ¬((2:Nat)=6);decide);refine⟨_,rfl,c,CL,Cz,_,to,rfl,dH (Vg _ _ hc3) ncm,Tx.cl,Tx.l1,lf1 _ _,_,rfl,a.m,CM,a.dx,_,rfl,bA,Tx.cm,Tx.m6,(by show 6<1000;decide),?_⟩;rw[mp6,oH];have frm:fr≠a.m:=ahO (bY (Je _ _ ob3) hfr);have owm:own≠a.m:=ahO (bY (s4 _ _ ob3) hown);obtain⟨M7,x7⟩:=M2.push (f:=⟨fr,qM,own,ws++[v],s.ah⟩) (t:=to) (H':=upd H6 a.m<|.ins CM a.dx (xK a.cl a.pl fr a.gZ a.st to)) bA
  (by rw[af0];exact dH (Vg _ _ o3) no) (dH a6 frm) (dH (k6 _ _ o5) owm) aep λb o n1 n2 h=>dH (Vg _ _<|k3 b o n2 h) n1
 exact q3 z z' fr qM own _ M7<|x2.trans x7
end
inductive Jf (CM CF CC:aj)(vs:List V)(H:Hp)(Q:VK)(E_:XK):Prop where
 |mk (m dx:aj) (mo:Int):vs=[.ref m, .int mo]->H m=some (.ins CM dx [])->(∀(a:MA) fr qM own H',a.m=m->MS CM CF CC H' a ⟨[],⟨fr,qM,own,[], .int 0⟩,[],[], .int 0,mo,0,0⟩->Ck m H H'->(∀b,Mu a ⟨[],⟨fr,qM,own,[], .int 0⟩,[],[], .int 0,mo,0,0⟩ b->b=m\/H b=none)->Q .non H')->Jf CM CF CC vs H Q E_
section
variable {CM CF CC CL:aj}
theorem m1 (a:V):ju "calls" a []=([("calls",a)]:aP (Str×V)):=by kernel_rfl
theorem m2 (a b:V):ju "pile" b [("calls",a)]=([("calls",a),("pile",b)]:aP (Str×V)):=by kernel_rfl
theorem m3 (a b c:V):ju "frame" c [("calls",a),("pile",b)]=([("calls",a),("pile",b),("frame",c)]:aP (Str×V)):=by kernel_rfl
theorem m4 (a b c d:V):ju "outer_frames" d [("calls",a),("pile",b),("frame",c)]=([("calls",a),("pile",b),("frame",c),("outer_frames",d)]:aP (Str×V)):=by kernel_rfl
theorem m5 (a b c d e:V):ju "stored" e [("calls",a),("pile",b),("frame",c),("outer_frames",d)]=([("calls",a),("pile",b),("frame",c),("outer_frames",d),("stored",e)]:aP (Str×V)):=by kernel_rfl
theorem m6 (a b c d e g:V):ju "ahead" g [("calls",a),("pile",b),("frame",c),("outer_frames",d),("stored",e)]=([("calls",a),("pile",b),("frame",c),("outer_frames",d),("stored",e),("ahead",g)]:aP (Str×V)):=by kernel_rfl
theorem Wo (F:gY K "__init__" "Machine.__init__" Jb f fd)(Tx:wg K CM CF CC CL){fC fF:aj}{gC gF:FuncData}(MC:Mk K CC fC)(GC:cX P w K mg aV jG 1 fC gC ["self","most"] (Cm CC))(bC:Binds K gC ["self","most"] [])(hC:mg "Calls"=some (.ref CC))
  (MF:Mk K CF fF) (GF:cX P w K mg aV jG 1 fF gF ["self","own","behind"] (wj CF)) (bF:Binds K gF ["self","own","behind"] []) (hF:mg "Frame"=some (.ref CF)):cX P w K mg aV jG 3 f fd ["self","most"] (Jf CM CF CC):=by
 refine F.ok Wn λdJ A aU s H vs Q E hr h=>?_;obtain⟨m,dx,mo,rfl,hm,q⟩:=h;have hr2:gK 2 _:=hr.mono (by decide);refine⟨_,bI (iC K (pv 0) (sU MC GC hr2 rfl hC bC .nil wY (bx (pv 1) bG)) rfl) (bI (iC K (pv 0) (dO bG) rfl)
  (bI (iC K (pv 0) (sU MF GF hr2 rfl hF bF .nil wY (bx (dO bG)<|bx bJ bG)) rfl)
  (bI (iC K (pv 0) (dO bG) rfl)<|bI (iC K (pv 0) (dO bG) rfl) (bQ<|iC K (pv 0) bJ rfl)))),?_⟩
 refine⟨_,rfl,λcl dx1 hx hdx nx=>⟨cl,dx1, .int mo,rfl,bA,rfl,?_⟩⟩;obtain⟨a1,k1⟩:=Lb (C:=CC) (fs:=v9 (.int mo) (.int 0)<|.int 0) hx hdx nx;revert a1 k1;generalize upd (upd (upd H dx1<|.own cl) cl<|.ins CC dx1 []) cl (.ins CC dx1<|v9 (.int mo) (.int 0) (.int 0))=H1;intro a1 k1;have ncl:cl≠m:=ahO (bY hm hx);refine⟨_,rfl,m,CM,dx,[],rfl,k1 _ _ hm,Tx.cm,Tx.m1,(by show 0<1000;decide),?_⟩;rw[m1];have k2:Ck m H (upd H1 m<|.ins CM dx [("calls", .ref cl)]):=λb o nb h=>by rw[bV nb];exact k1 b o h
 have b2:(upd H1 m<|.ins CM dx [("calls", .ref cl)]) m=some (.ins CM dx [("calls", .ref cl)]):=bA;have cl2:(upd H1 m<|.ins CM dx [("calls", .ref cl)]) cl=some (.ins CC dx1<|v9 (.int mo) (.int 0) (.int 0)):=by rw[bV ncl];exact a1
 revert k2 b2 cl2;generalize upd H1 m (.ins CM dx [("calls", .ref cl)])=H2;intro k2 b2 cl2;refine⟨(fH 0),λpl lC=>?_⟩;obtain⟨a3,b3,c3,k3,Zu⟩:=abk (o:=.lst []) (fs':=[("calls", .ref cl),("pile", .ref pl)]) b2 lC;refine⟨_,rfl,m,CM,dx,_,rfl,a3,Tx.cm,Tx.m2,(by show 1<1000;decide),?_⟩;rw[m2];revert b3 c3 k3;generalize upd (upd H2 pl<|.lst []) m (.ins CM dx [("calls", .ref cl),("pile", .ref pl)])=H3;intro b3 c3 k3;refine⟨(fH 0),λown hown=>?_⟩;have Hy:own≠m:=ahO (bY b3 hown);have e4:=bK hown (.lst []);have c4:(upd H3 own<|.lst []) own=some (.lst []):=bA;revert e4 c4;generalize upd H3 own (.lst [])=H4;intro e4 c4;intro fr qM hfr abm nfr;refine⟨fr,qM,own, .int 0,rfl,bA,rfl,?_⟩;obtain⟨a5,k5⟩:=Lb (C:=CF) (fs:=P0 own<|.int 0) hfr abm nfr;have nfm:fr≠m:=ahO (bY (e4 _ _ b3) hfr);revert a5 k5;generalize upd (upd (upd H4 qM<|.own fr) fr<|.ins CF qM []) fr (.ins CF qM<|P0 own (.int 0))=H5;intro a5 k5;refine⟨_,rfl,m,CM,dx,_,rfl,k5 _ _<|e4 _ _ b3,Tx.cm,Tx.m3,(by show 2<1000;decide),?_⟩;rw[m3];have k6:Ck m H3 (upd H5 m<|.ins CM dx [("calls", .ref cl),("pile", .ref pl),("frame", .ref fr)]):=λb o nb h=>by rw[bV nb];exact k5 _ _<|e4 _ _ h
 have b6:(upd H5 m<|.ins CM dx [("calls", .ref cl),("pile", .ref pl),("frame", .ref fr)]) m=some (.ins CM dx [("calls", .ref cl),("pile", .ref pl),("frame", .ref fr)]):=bA;have o6:(upd H5 m<|.ins CM dx [("calls", .ref cl),("pile", .ref pl),("frame", .ref fr)]) own=some (.lst []):=by rw[bV Hy];exact k5 _ _ c4
 have f6:(upd H5 m<|.ins CM dx [("calls", .ref cl),("pile", .ref pl),("frame", .ref fr)]) fr=some (.ins CF qM<|P0 own (.int 0)):=by rw[bV nfm];exact a5
 have p6:=k6 _ _ Zu c3;revert k6 b6 o6 f6 p6;generalize upd H5 m (.ins CM dx [("calls", .ref cl),("pile", .ref pl),("frame", .ref fr)])=H6;intro k6 b6 o6 f6 p6;refine⟨(fH 0),λgZ Wq=>?_⟩;obtain⟨a7,b7,c7,k7,Qu⟩:=abk (o:=.lst []) (fs':=[("calls", .ref cl),("pile", .ref pl),("frame", .ref fr),("outer_frames", .ref gZ)]) b6 Wq;have n2:gZ≠pl:=ahO (bY p6 Wq);have n3:gZ≠own:=ahO (bY o6 Wq);refine⟨_,rfl,m,CM,dx,_,rfl,a7,Tx.cm,Tx.m4,(by show 3<1000;decide),?_⟩;rw[m4];revert b7 c7 k7;generalize upd (upd H6 gZ<|.lst []) m (.ins CM dx [("calls", .ref cl),("pile", .ref pl),("frame", .ref fr),("outer_frames", .ref gZ)])=H7;intro b7 c7 k7;refine⟨(fH 0),λst jY=>?_⟩;obtain⟨a8,b8,c8,k8,yU⟩:=abk (o:=.lst []) (fs':=[("calls", .ref cl),("pile", .ref pl),("frame", .ref fr),("outer_frames", .ref gZ),("stored", .ref st)]) b7 jY;refine⟨_,rfl,m,CM,dx,_,rfl,a8,Tx.cm,Tx.m5,(by show 4<1000;decide),?_⟩;rw[m5];revert b8 c8 k8;generalize upd (upd H7 st<|.lst []) m (.ins CM dx [("calls", .ref cl),("pile", .ref pl),("frame", .ref fr),("outer_frames", .ref gZ),("stored", .ref st)])=H8;intro b8 c8 k8;refine⟨_,rfl,m,CM,dx,_,rfl,b8,Tx.cm,Tx.m6,(by show 5<1000;decide),?_⟩;rw[m6];have k68:Ck m H6 (upd H8 m<|.ins CM dx (xK cl pl fr gZ st<|.int 0)):=λb o nb h=>by rw[bV nb];exact k8 _ _ nb<|k7 _ _ nb h
 have n5:st≠own:=ahO (bY (k7 _ _ Hy o6) jY);have n1:pl≠own:=bY c3 hown;have n4:st≠pl:=ahO (bY (k7 _ _ Zu p6) jY);have n6:st≠gZ:=ahO (bY c7 jY);refine q ⟨m,dx,pl,gZ,cl,dx1,st⟩ fr qM own _ rfl ⟨bA,k68 _ _ Zu p6,by rw[bV Qu];exact k8 _ _ Qu c7,k68 _ _ ncl<|k6 _ _ ncl (k3 _ _ ncl cl2),by rw[bV yU];exact c8,λg hg=>?_,?_⟩ ((k2.trans<|k3.trans k6).trans k68) λb hb=>?_
 ·rw[afN.mp hg]
  exact⟨k68 _ _ nfm f6,k68 _ _ Hy o6⟩
 ·show[pl,gZ,st,own].Nodup
  simp[n1,ahO n2,n3,ahO n4,n5,ahO n6]
 ·rcases hb with h|h|h
  ·exact .inl h
  ·exact .inr (by rw[show b=cl from h];exact hx)
  ·have h':b∈[pl,gZ,st,own]:=h
   simp only[afU,afP,ahP]at h';rcases h' with h|h|h|h
   ·exact .inr<|h ▸ k2.free Zu lC
   ·exact .inr<|h ▸ (k2.trans<|k3.trans k6).free Qu Wq
   ·exact .inr<|h ▸ (k2.trans<|k3.trans (k6.trans k7)).free yU jY
   ·exact .inr<|h ▸ (k2.trans k3).free Hy hown
end
inductive Wv where
 |num (i:Int)
 |fn (to:Nat) (kept:List Wv)
 |bl (k:Int) (vs:List Wv)
mutual
inductive Wr (CL:aj)(N:aj->Prop)(H:Hp):V->Wv->Prop where
 |num (i:Int):Wr CL N H (.int i) (.num i)
 |fn {c Cz k:aj} {to:Nat} {ws:List V} {kept:List Wv}:H c=some (.ins CL Cz<|Wk (.int (to:Int)) k)->H k=some (.lst ws)->N c->N k->lJ CL N H ws kept->Wr CL N H (.ref c) (.fn to kept)
 |bl {c:aj} {k:Int} {ws:List V} {vs:List Wv}:H c=some (.tup (.int k::ws))->N c->lJ CL N H ws vs->Wr CL N H (.ref c) (.bl k vs)
inductive lJ (CL:aj)(N:aj->Prop)(H:Hp):List V->List Wv->Prop where
 |nil:lJ CL N H [] []
 |cons {v:V} {t:Wv} {vs:List V} {ts:List Wv}:Wr CL N H v t->lJ CL N H vs ts->lJ CL N H (v::vs) (t::ts)
end
section
variable {CL:aj}{N N':aj->Prop}{H H':Hp}
@[elab_as_elim] theorem lJ.ind {C:List V->List Wv->Prop} {vs:List V} {ts:List Wv} (h:lJ CL N H vs ts) (n:C [] []) (c:∀{v t vs ts},Wr CL N H v t->lJ CL N H vs ts->C vs ts->C (v::vs) (t::ts)):C vs ts:=by
 induction ts generalizing vs with
 |nil=>cases h;exact n
 |cons t ts ih=>cases h with
  |cons r q=>exact c r q<|ih q
theorem lJ.mono (x:∀b o,N b->H b=some o->N' b/\H' b=some o){vs:aP V}{ts:aP Wv}(h:lJ CL N H vs ts):lJ CL N' H' vs ts :=
 lJ.rec (motive_1:=λv t _=>Wr CL N' H' v t) (motive_2:=λv t _=>lJ CL N' H' v t) .num (λh1 h2 n1 n2 _=>.fn (x _ _ n1 h1).2 (x _ _ n2 h2).2 (x _ _ n1 h1).1 (x _ _ n2 h2).1) (λh1 n1 _=>.bl (x _ _ n1 h1).2 (x _ _ n1 h1).1) .nil (λ_ _=>.cons) h
theorem Wr.mono (x:∀b o,N b->H b=some o->N' b/\H' b=some o){v:V}{t:Wv}(h:Wr CL N H v t):Wr CL N' H' v t:=by
 cases lJ.mono x (.cons h .nil) with
 |cons r _=>exact r
theorem lJ.len {vs:aP V}{ts:aP Wv}(h:lJ CL N H vs ts):vs.length=ts.length:=h.ind rfl λ_ _ ih=>congrArg (·+1) ih
theorem lJ.app {vs ws:aP V}{ts us:aP Wv}(p:lJ CL N H vs ts)(q:lJ CL N H ws us):lJ CL N H (vs++ws) (ts++us):=p.ind q λr _ ih=>.cons r ih
theorem lJ.snoc {vs:aP V}{ts:aP Wv}{v:V}{t:Wv}(r:lJ CL N H vs ts)(q:Wr CL N H v t):lJ CL N H (vs++[v]) (ts++[t]):=r.app (.cons q .nil)
theorem lJ.get {vs:List V}{ts:List Wv}{j:Nat}{t:Wv}(h:lJ CL N H vs ts)(e:ts[j]?=some t):∃v,vs[j]?=some v/\Wr CL N H v t:=by
 induction ts generalizing vs j with
 |nil=>simp at e
 |cons u us ih=>cases h with
  |cons r q=>cases j with
   |zero=>cases e;exact⟨_,rfl,r⟩
   |succ j=>exact(ih (j:=j) q e:)
theorem lJ.pick {vs:List V}{ts:List Wv}(r:lJ CL N H vs ts){js:List Nat}{us:List Wv}(h:js.map (λj=>ts[j]?)=us.map some):∃ws,js.map (λj=>vs[j]?)=ws.map some/\lJ CL N H ws us:=by
 induction js generalizing us with
 |nil=>cases us with
  |nil=>exact⟨[],rfl, .nil⟩
  |cons=>cases h
 |cons j js ih=>cases us with
  |nil=>cases h
  |cons u us=>
   simp only[afW,List.cons.injEq]at h;obtain⟨v,e,q⟩:=r.get h.1;obtain⟨ws,e2,q2⟩:=ih h.2;exact⟨v::ws,by simp only[afW,e,e2], .cons q q2⟩
end
inductive Frs (CL:aj)(N:aj->Prop)(H:Hp):List Fm->List (List Wv×Nat)->Prop where
 |nil:Frs CL N H [] []
 |cons {f:Fm} {o:List Wv} {b:Nat} {fs:List Fm} {os:List (List Wv×Nat)}:lJ CL N H f.vs o->f.be=.int (b:Int)->Frs CL N H fs os->Frs CL N H (f::fs) ((o,b)::os)
theorem Frs.mono {CL:aj}{N N':aj->Prop}{H H':Hp}(x:∀b o,N b->H b=some o->N' b/\H' b=some o){fs:List Fm}{os:List (List Wv×Nat)}(h:Frs CL N H fs os):Frs CL N' H' fs os:=by
 induction h with
 |nil=>exact .nil
 |cons r e _ ih=>exact .cons (r.mono x) e ih
theorem Frs.len {CL:aj}{N:aj->Prop}{H:Hp}{fs:List Fm}{os:List (List Wv×Nat)}(h:Frs CL N H fs os):fs.length=os.length:=by
 induction h with
 |nil=>rfl
 |cons _ _ _ ih=>exact congrArg (·+1) ih
structure AS where
 pile:List Wv
 own:List Wv
 be:Nat
 outer:List (List Wv×Nat)
 vL:List Wv
 pc:Nat
 begun:Nat
inductive Rw where
 |num (i:Int)|loc (j:Nat)|glob (j:Nat)|keep|drop (n:Nat)|store|nW (k:Nat)|CK (t:Nat)|jump (t:Nat)|close (to:Nat) (js:List Nat)|call|back|block (k:Int) (n:Nat)|field (j:Nat)|case (fs:List Nat)
inductive Out where
 |num (i:Int)|long|deep|great|stuck
deriving DecidableEq
noncomputable def gG (i:Int):Bool:=decide (-(10^60)<i)&&decide (i<10^60)
noncomputable def picked (own:List Wv):List Nat->Option (List Wv)
 |[]=>some []
 |j::js=>match own[j]?,picked own js with
  |some v,some vs=>some (v::vs)
  |_,_=>none
noncomputable def tK:Wv->Option (Nat×List Wv)
 |.num _=>none
 |.fn to kept=>some (to,kept)
 |.bl _ _=>none
noncomputable def fJ (most:Int)(row:Rw)(A:AS):Option (AS ⊕ Out) :=
 if A.pile.length<=490/\A.own.length<=400/\A.vL.length<=400/\A.outer.length<=400 then
 match row with
 |.num i=>some (.inl {A with pile:=.num i::A.pile})
 |.loc j=>(A.own[j]?).map λv=>.inl {A with pile:=v::A.pile}
 |.glob j=>(A.vL[j]?).map λv=>.inl {A with pile:=v::A.pile}
 |.keep=>match A.pile with
  |v::p=>some (.inl {A with pile:=p,own:=A.own++[v]})
  |[]=>none
 |.drop n=>if n<=A.own.length then some (.inl {A with own:=A.own.take (A.own.length-n)}) else none
 |.store=>match A.pile with
  |v::p=>some (.inl {A with pile:=p,vL:=A.vL++[v]})
  |[]=>none
 |.nW k=>match A.pile with
  |.num j::.num i::p=>if k<=3/\gG i=true/\gG j=true then some (if gG (rk k i j)=true then .inl {A with pile:=.num (rk k i j)::p} else .inr .great) else none
  |_::_::_=>if k<=3 then some (.inr .stuck) else none
  |_=>none
 |.CK t=>match A.pile with
  |.num i::p=>some (.inl<|if i=0 then{A with pile:=p,pc:=t} else{A with pile:=p})
  |_::_=>some (.inr .stuck)
  |[]=>none
 |.jump t=>some (.inl {A with pc:=t})
 |.close to js=>if js.length<=400 then(picked A.own js).map λvs=>.inl {A with pile:=.fn to vs::A.pile} else none
 |.call=>match A.pile with
  |v::u::p=>match tK u with
   |none=>some (.inr .stuck)
   |some (to,kept)=>if kept.length<=400 then some (if most<(A.begun:Int)+1 then .inr .long else if 10<A.outer.length+1 then .inr .deep else
    .inl {A with pile:=p,own:=kept++[v],be:=A.pc,outer:=(A.own,A.be)::A.outer,pc:=to,begun:=A.begun+1}) else none
  |_=>none
 |.back=>match A.outer with
  |[]=>match A.pile with
   |.num i::_=>some (.inr<|.num i)
   |_::_=>some (.inr .stuck)
   |[]=>none
  |(o,b)::fs=>some (.inl {A with own:=o,be:=b,outer:=fs,pc:=A.be})
 |.block k n=>if n<=A.pile.length/\n<=100 then some (.inl {A with pile:=.bl k (A.pile.take n).reverse::A.pile.drop n}) else none
 |.field j=>match A.pile with
  |.bl _ vs::p=>(vs[j]?).map λv=>.inl {A with pile:=v::p}
  |_::_=>some (.inr .stuck)
  |[]=>none
 |.case fs=>match A.pile with
  |.bl k vs::p=>if 0<=k/\k<(fs.length:Int) then(if vs.length<=400 then(fs[k.toNat]?).map λt=>.inl {A with pile:=p,own:=A.own++vs,pc:=t} else none) else some (.inr .stuck)
  |_::_=>some (.inr .stuck)
  |[]=>none
 else none
noncomputable def xV (most:Int)(aW:List Rw):Nat->AS->Option Out
 |0,_=>none
 |n+1,A=>match aW[A.pc]? with
  |none=>none
  |some row=>match fJ most row {A with pc:=A.pc+1} with
   |none=>none
   |some (.inr o)=>some o
   |some (.inl A')=>xV most aW n A'
def Qi (H:Hp)(r:aj):Rw->Prop
 |.num i=>H r=some (.tup [.str "number", .int i])
 |.loc j=>H r=some (.tup [.str "local", .int (j:Int)])
 |.glob j=>H r=some (.tup [.str "global", .int (j:Int)])
 |.keep=>H r=some (.tup [.str "keep"])
 |.drop n=>H r=some (.tup [.str "drop", .int (n:Int)])
 |.store=>H r=some (.tup [.str "store"])
 |.nW k=>H r=some (.tup [.str (wordOf k)])
 |.CK t=>H r=some (.tup [.str "unless", .int (t:Int)])
 |.jump t=>H r=some (.tup [.str "jump", .int (t:Int)])
 |.close to js=>∃pt,H r=some (.tup [.str "close", .int (to:Int), .ref pt])/\H pt=some (.tup (js.map λj:Nat=>V.int (j:Int)))
 |.call=>H r=some (.tup [.str "call"])
 |.back=>H r=some (.tup [.str "back"])
 |.block k n=>H r=some (.tup [.str "block", .int k, .int (n:Int)])
 |.field j=>H r=some (.tup [.str "field", .int (j:Int)])
 |.case fs=>∃pt,H r=some (.tup [.str "case", .ref pt])/\H pt=some (.tup (fs.map λj:Nat=>V.int (j:Int)))
structure AR (CL:aj)(H:Hp)(a:MA)(s:mJ)(A:AS):Prop where
 pl:lJ CL (λb=>¬Mu a s b) H s.pile.reverse A.pile
 ow:lJ CL (λb=>¬Mu a s b) H s.cur.vs A.own
 be:s.cur.be=.int (A.be:Int)
 ou:Frs CL (λb=>¬Mu a s b) H s.outer.reverse A.outer
 st:lJ CL (λb=>¬Mu a s b) H s.vL A.vL
 pc:s.ah=.int (A.pc:Int)
 bg:s.begun=(A.begun:Int)
 un:s.under=(A.outer.length:Int)
theorem xW {own:List Wv}:∀{js:List Nat} {us:List Wv},picked own js=some us->js.map (λj=>own[j]?)=us.map some
 |[],us,h=>by cases h;rfl
 |j::js,us,h=>by
  unfold picked at h;split at h
  ·rename_i v vs e1 e2
   cases h;simp only[afW,e1,xW e2]
  ·cases h
section
variable {CL:aj}{N:aj->Prop}{H:Hp}
theorem Wr.kept {v:V}{u:Wv}{to:Nat}{kept:List Wv}(r:Wr CL N H v u)(h:tK u=some (to,kept)):∃c Cz k ws,v=.ref c/\H c=some (.ins CL Cz<|Wk (.int (to:Int)) k)/\H k=some (.lst ws)/\N c/\N k/\lJ CL N H ws kept:=by
 cases r with
 |num i=>cases h
 |fn h1 h2 n1 n2 r=>cases h;exact⟨_,_,_,_,rfl,h1,h2,n1,n2,r⟩
 |bl h1 n1 r=>cases h
end
end Fw
namespace L2
theorem Ws (l:aj)(xs:Array ak)(n:Nat)(b:aj)(ys:Array ak)(n2:Nat)(dd:aO aj)(sl:Array (aO ak))(h0:¬(!xs.isEmpty&&Builtin.List.listTooLong (xs.size+ys.size))=true)(h1:xs.size<=sizeLine)(h2:xs.size+ys.size<=sizeLine+1):
  Meets (Builtin.«list.extend» ⟨[.ref l, .ref b],[]⟩) (λ_ R s=>s.heap.get? l=some ⟨.type "list",none, .seq xs n,#[]⟩/\s.heap.get? b=some ⟨.type "tuple",dd, .seq ys n2,sl⟩/\R (.ok<|.ret Value.none) {s with heap:=s.heap.update l<|Obj.mapSeq λx=>x++ys,toks:=s.toks}) :=
 .of_wp λprog w A R s h=>by
  obtain⟨hp,g,d,tk,os⟩:=s;obtain⟨hl,hb,h⟩:=h;have f2:=AutoSeq1.sub_tuple_tuple;have f3:=AutoSeq1.sub_list_list;have f4:=AutoSeq1.sub_tuple_list;have f5:=AutoSeq1.sub_list_tuple;have hz':(xs++ys).size<=sizeLine+1:=by rw[Array.size_append];exact h2
  wp_walk using(wpAny_updateSeq hl rfl (hz:=h1) (_hz':=hz')),AutoSeq1.wpAny_loadPart' hl,AutoSeq1.wpAny_loadPart' hb
  exact⟨_,rfl,h⟩
section
variable {X:Cx}
def ac9:V->List V->Hp->VK->Prop:=λx vs H Q=>∃l b xs zs,x=.ref l/\vs=[.ref b]/\H l=some (.lst xs)/\H b=some (.tup zs)/\xs.length+zs.length<=sizeLine/\Q .non (upd H l<|.lst (xs++zs))
theorem Wt:Y9 X "list.extend" ac9:=by
 intro bH s U H x vs v us Q I rx rv h;obtain⟨l,b,xs,zs,rfl,rfl,hH,hB,hz,q⟩:=h;cases rx;obtain⟨u,rfl,ru⟩:=rv.one;cases ru;obtain⟨z,bh,n,r,hl,e⟩:=I.uG hH;obtain⟨z2,iQ,r2,p2⟩:=I.hok b _ hB;obtain⟨⟨cc,dd,dt,sl⟩,e2,ec,k2,ed⟩:=p2;dsimp only at ec ed;subst ec;subst ed;have hl2:=r2.length;have hsz:bh.toArray.size+iQ.toArray.size<=sizeLine:=by rw[afG,afG];omega
 have Ew:¬(!bh.toArray.isEmpty&&Builtin.List.listTooLong (bh.toArray.size+iQ.toArray.size))=true:=by
  rw[wX hsz,Bool.and_false];exact afD
 refine call_meets F.slot_list_extend ⟨_,e,rfl⟩ F.entry_list_extend (F.args_list_extend_2 _ _)
  (Ws l bh.toArray n b iQ.toArray k2 dd sl Ew (by rw[afG];exact afy (afF _ _) hsz)<|by exact aga hsz) ⟨e,e2,?_⟩
 refine⟨.non,_,I.Rf (its':=bh++iQ) hH e (by simp) (r.append r2) ?_,rfl,q⟩;rw[afu];exact hz
theorem aer (K:aN)(h:X.K=K:=by rfl):qW X (binaryOp .Add) (Y4 K):=h ▸ VJ
theorem slT (K:aN)(h:X.K=K:=by rfl):SlR X (acJ K):=h ▸ aaF
end
end L2
namespace Fw
open L2
inductive qN (vs:List V)(H:Hp)(Q:VK)(E:XK):Prop where
 |mk (t:aj) (xs:List V):vs=[.ref t]->H t=some (.tup xs)->(∀H',Same H H'->Q (.ref t) H')->qN vs H Q E
inductive Sd (CM CF CC:aj)(vs:List V)(H:Hp)(Q:VK)(E:XK):Prop where
 |mk (a:MA) (s:mJ) (r:aj) (k:Int) (n:Nat) (p u:List V):vs=[.ref a.m, .ref r]->MS CM CF CC H a s->H r=some (.tup [.str "block", .int k, .int (n:Int)])->s.pile=p++u->u.length=n->n<=100->p.length<=500->(∀t H',MS CM CF CC H' a (s.fV<|p++[.ref t])->H' t=some (.tup (.int k::u))->¬Mu a s t->Ext a s H (s.fV<|p++[.ref t]) H'->Q .non H')->Sd CM CF CC vs H Q E
inductive Sg (CM CF CC:aj)(vs:List V)(H:Hp)(Q:VK)(E:XK):Prop where
 |mk (a:MA) (s:mJ) (r t:aj) (j:Nat) (p xs:List V) (v:V):vs=[.ref a.m, .ref r]->MS CM CF CC H a s->H r=some (.tup [.str "field", .int (j:Int)])->s.pile=p++[.ref t]->H t=some (.tup xs)->xs[j+1]?=some v->p.length<=500->(∀H',MS CM CF CC H' a (s.fV<|p++[v])->Ext a s H (s.fV<|p++[v]) H'->Q .non H')->Sg CM CF CC vs H Q E
inductive Jg (CM CF CC:aj)(vs:List V)(H:Hp)(Q:VK)(E:XK):Prop where
 |mk (a:MA) (s:mJ) (r t pt:aj) (k:Nat) (p ws:List V) (fs:List Nat) (to:Nat):vs=[.ref a.m, .ref r]->MS CM CF CC H a s->H r=some (.tup [.str "case", .ref pt])->H pt=some (.tup (fs.map λj:Nat=>V.int (j:Int)))->s.pile=p++[.ref t]->H t=some (.tup (.int (k:Int)::ws))->fs[k]?=some to->s.cur.vs.length+ws.length<=1000->
  (∀H',MS CM CF CC H' a (((s.fV p).rG<|s.cur.vs++ws).nU<|.int (to:Int))->Ext a s H (((s.fV p).rG<|s.cur.vs++ws).nU<|.int (to:Int)) H'->Q .non H')->Jg CM CF CC vs H Q E
section
variable {CM CF CC CL:aj}
abbrev Sh:aJ:=top 22
abbrev CN:aJ:=top 42
abbrev CP:aJ:=top 43
abbrev xX:aJ:=top 44
theorem abn:cu ["value"] ["value"] (bN Sh):={}
theorem Sq:cu ["machine","row"] ["machine","row"] (bN CN):={}
theorem Gf:cu ["machine","row","block"] ["machine","row"] (bN CP):={}
theorem Ac:cu ["machine","row","block"] ["machine","row"] (bN xX):={}
theorem kit_tp (K:aN):kitOne K (.type "tuple") (.type "tuple")=some true:=by first|rfl|kernel_rfl
theorem abo (F:gY K "block_of" "block_of" Sh f fd)(mi:mg "isinstance"=none)(mt:mg "tuple"=none):cX P w K mg aV jG 1 f fd ["value"] qN:=by
 refine F.ok abn λdJ A aU s H vs Q E hr h=>?_;obtain⟨t,xs,rfl,ht,q⟩:=h;refine⟨_,bI (dB (ux<|pP (cJ nO rfl mi boot_isinstance (bx (pv 0)<|bx (oM (v:=.ty "tuple") rfl mt boot_tuple rfl) bG))) (bQ iB) cR)<|bQ (cO<|pv 0),?_⟩;exact⟨_,rfl,_,_,_,_,rfl, .tup ht,kit_tp K,true,rfl,vJ ⟨_,rfl,q H<|Same.refl _⟩⟩
theorem Ss (F:gY K "do_block" "do_block" CN f fd)(Tx:wg K CM CF CC CL)(h1:Has P w K mg aV 1 "taken_off" ["pile","count"] tD):cX P w K mg aV (gw P w) 2 f fd ["machine","row"] (Sd CM CF CC):=by
 refine F.vU Sq λdJ A aU s H vs Q E hr h=>?_;obtain⟨a,s,r,k,n,p,u,rfl,M,rH,hp,lu,ln,lp,q⟩:=h;refine⟨_,bQ (cD (jd K (fU K (pv 0) rfl) (bx (cU (aer K) (cV<|bx (bZ (fG K) (pv 1) bJ) bG)
  (cP h1 hr (by decide) rfl (bx (fU K (pv 0) rfl)<|bx (bZ (fG K) (pv 1) bJ) bG))) bG))),?_⟩
 refine⟨_,rfl,a.m,CM,a.dx,_, .ref a.pl,rfl,M.ob,Tx.cm,Tx.m2,mf2 _ _ _ _ _ _, .inl ⟨rfl,_,dD.of M.hp⟩,dN (a:=r) (j:=1) rfl rH rfl ⟨(fH 1),λt1 ht1=>?_⟩⟩;have s1:=bK ht1 (.tup [.int k]);have b1:(upd H t1<|.tup [.int k]) t1=some (.tup [.int k]):=bA;revert s1 b1;generalize upd H t1 (.tup [.int k])=H1;intro s1 b1;have M1:=M.same s1;have lC:=M1.hp;rw[hp]at lC;refine⟨_,rfl,a.m,CM,a.dx,_, .ref a.pl,rfl,M1.ob,Tx.cm,Tx.m2,mf2 _ _ _ _ _ _,dN (a:=r) (j:=2) rfl (s1 _ _ rH) rfl ⟨a.pl,p,u,n,rfl,lC,lu,ln,λt2 H2 Zv b2 hp2 k2=>?_⟩⟩;have M2:=M1.kp1 k2 hp2;have x2:Ext a s H (s.fV p) H2:=(Same.ext s1).trans (Ck.xt k2);have hz:=sizeLine_eq;have b12:H2 t1=some (.tup [.int k]):=k2 _ _ (iY b1 M1.hp<|by intro z;cases z) b1;have n1:¬Mu a s t1:=M.La ht1;have fin:∀(t:aj) H3,Same H2 H3->H3 t=some (.tup (.int k::u))->¬Mu a s t->Bu (.ref a.pl) [.ref t] H3 (λ_ H'=>Q .non H'):=λt H3 s3 b3 n3=>by
  have M3:=M2.same s3;refine⟨a.pl,p, .ref t,rfl,rfl,M3.hp,cW (by exact afy lp<|by decide),q t _ (M3.fV _) ?_ n3<|(x2.trans<|Same.ext s3).trans Qh⟩;exact dH b3 (iY b3 M3.hp<|by intro z;cases z)
 refine⟨t1,t2,[.int k],u,rfl,rfl,iM.of b12,iM.of b2,by simp,by simp;omega,λe=>?_,λ_ t3 Ou=>?_⟩
 ·subst e
  exact fin t1 H2 (Same.refl _) b12 n1
 ·refine fin t3 _ (bK Ou _) bA ?_
  have h3:H1 t3=none:=by
   cases e:H1 t3 with
   |none=>rfl
   |some o=>
    by_cases z:t3=a.pl
    ·subst z;rw[hp2]at Ou;cases Ou
    ·rw[k2 _ _ z e]at Ou;cases Ou
  exact M.La<|s1.free h3
theorem Sv (F:gY K "do_field" "do_field" CP f fd)(Tx:wg K CM CF CC CL)(h1:Has P w K mg aV 1 "block_of" ["value"] qN):cX P w K mg aV (gw P w) 2 f fd ["machine","row"] (Sg CM CF CC):=by
 refine F.vU Gf λdJ A aU s H vs Q E hr h=>?_;obtain⟨a,s,r,t,j,p,xs,v,rfl,M,rH,hp,ht,hv,lp,q⟩:=h;refine⟨_,bI (eU 2 Gf.nd (cP h1 hr (by decide) rfl (bx (BX K<|fU K (pv 0) rfl) bG)))
  (bQ<|cD (jd K (fU K (pv 0) rfl)<|bx (bZ (fG K) (pv 2)<|cU gJ (bZ (fG K) (pv 1) bJ) bJ) bG)),?_⟩
 have lC:=M.hp;rw[hp]at lC;refine⟨_,rfl,a.m,CM,a.dx,_, .ref a.pl,rfl,M.ob,Tx.cm,Tx.m2,mf2 _ _ _ _ _ _, .inl ⟨rfl,_,dD.of M.hp⟩,a.pl,_, .ref t,rfl,rfl,lC,by simp,?_⟩;rw[agv];have M1:=M.fV p;have x1:Ext a s H (s.fV p) (upd H a.pl<|.lst p):=Qh;revert M1 x1;generalize upd H a.pl (.lst p)=H1;intro M1 x1;have ht1:=(x1 t _ (M.xM ht) ht).2;have hr1:=(x1 r _ (M.xM rH) rH).2;refine⟨t,xs,rfl,ht1,λH2 s2=>?_⟩;have M2:=M1.same s2;refine⟨_,rfl,a.m,CM,a.dx,_, .ref a.pl,rfl,M2.ob,Tx.cm,Tx.m2,mf2 _ _ _ _ _ _, .inl ⟨rfl,_,dD.of M2.hp⟩,_,rfl,dN (a:=r) (j:=1) rfl (s2 _ _ hr1) rfl ⟨_,_,rfl,rfl,t,xs,_,v,rfl,rfl,iM.of<|s2 _ _ ht1,?_,a.pl,p,v,rfl,rfl,M2.hp,cW (by exact afy lp<|by decide),?_⟩⟩
 ·exact cg (j:=j+1) hv
 ·exact q _ (M2.fV _)<|(x1.trans<|Same.ext s2).trans Qh
theorem aes (x:V)(xs:aP V):Nm (x::xs) (some 1) none=xs:=by
 unfold Nm;have e1:HT.nG (x::xs).length 0 (some 1)=1:=by
  have:=HT.Ko (x::xs).length 0 1;rw[show((1:Nat):Int)=1 from rfl]at this;rw[this,af4];exact rfl
 rw[e1,HT.QZ];simp
theorem Ov (F:gY K "do_case" "do_case" xX f fd)(Tx:wg K CM CF CC CL)(ml:mg "len"=none)(h1:Has P w K mg aV 1 "block_of" ["value"] qN):cX P w K mg aV (gw P w) 2 f fd ["machine","row"] (Jg CM CF CC):=by
 refine F.vU Ac λdJ A aU s H vs Q E hr h=>?_;obtain⟨a,s,r,t,pt,k,p,ws,fs,to,rfl,M,rH,hpt,hp,ht,hto,lw,q⟩:=h;have hz:=sizeLine_eq;refine⟨_,bI (eU 2 Ac.nd (cP h1 hr (by decide) rfl (bx (BX K<|fU K (pv 0) rfl) bG)))
  (bI (dB (ux<|QL acE wU bJ (bZ (fG K) (pv 2) bJ) (cJ (kI K) rfl ml ahS (bx (bZ (fG K) (pv 1) bJ) bG))) (bQ iB) cR)
  (bI (cD<|wW af' ahy ahz Wt (fU K (fU K (pv 0) rfl) rfl) (bx (Q6 (slT K) (pv 2) (VH bJ) VG) bG))
  (bQ<|iC K (pv 0) (bZ (fG K) (bZ (fG K) (pv 1) bJ)<|bZ (fG K) (pv 2) bJ) rfl))),?_⟩
 have lC:=M.hp;rw[hp]at lC;refine⟨_,rfl,a.m,CM,a.dx,_, .ref a.pl,rfl,M.ob,Tx.cm,Tx.m2,mf2 _ _ _ _ _ _, .inl ⟨rfl,_,dD.of M.hp⟩,a.pl,_, .ref t,rfl,rfl,lC,by simp,?_⟩;rw[agv];have M1:=M.fV p;have x1:Ext a s H (s.fV p) (upd H a.pl<|.lst p):=Qh;revert M1 x1;generalize upd H a.pl (.lst p)=H1;intro M1 x1;refine⟨t,_,rfl,(x1 t _ (M.xM ht) ht).2,λH2 s2=>?_⟩;have M2:=M1.same s2;have x2:=x1.trans (Same.ext s2);have Zv:=(x2 t _ (M.xM ht) ht).2;have hr2:=(x2 r _ (M.xM rH) rH).2;have aeu:=(x2 pt _ (M.xM hpt) hpt).2;have lf:k<fs.length:=(ahW hto).1;show jt _ _ _ [some (.ref a.m),some<|.ref r,some (.ref t)] H2;refine dN (a:=t) (j:=0) rfl Zv rfl ⟨_,_,rfl,rfl,true,?_,uH<|dN (a:=r) (j:=1) rfl hr2 rfl ⟨pt,_,rfl, .inr<|iM.of aeu,_,_,rfl,rfl,true,?_,vJ ?_⟩⟩
 ·exact congrArg V.bl (ahN<|by omega)
 ·rw[afL];exact congrArg V.bl (ahN<|by omega)
 refine⟨_,rfl,a.m,CM,a.dx,_, .ref s.cur.fr,rfl,M2.ob,Tx.cm,Tx.m3,mf3 _ _ _ _ _ _,s.cur.fr,CF,s.cur.qM,_, .ref s.cur.own,rfl,M2.fc,Tx.cf,Tx.f1,ff1 _ _, .inl ⟨rfl,_,dD.of M2.ho⟩,_,rfl,1,rfl,t,_,rfl,iM.of Zv,?_,λt3 Ou=>?_⟩
 ·rintro⟨z,_⟩
  have:=HT.Ko (V.int (k:Int)::ws).length 0 1;rw[show((1:Nat):Int)=1 from rfl]at this;rw[this,af4]at z;omega
 rw[aes];have s3:=bK Ou (.tup ws);have b3:(upd H2 t3<|.tup ws) t3=some (.tup ws):=bA;revert s3 b3;generalize upd H2 t3 (.tup ws)=H3;intro s3 b3;have M3:=M2.same s3;have x3:=x2.trans (Same.ext s3);refine⟨s.cur.own,t3,s.cur.vs,ws,rfl,rfl,M3.ho,b3,by exact afy lw (by decide),?_⟩;have M4:MS CM CF CC (upd H3 s.cur.own<|.lst (s.cur.vs++ws)) a ((s.fV p).rG<|s.cur.vs++ws):=M3.rG (s.cur.vs++ws);have x4:Ext a s H ((s.fV p).rG<|s.cur.vs++ws) (upd H3 s.cur.own<|.lst (s.cur.vs++ws)):=x3.trans (xtO (s:=s.fV p));revert M4 x4;generalize upd H3 s.cur.own (.lst<|s.cur.vs++ws)=H4;intro M4 x4;have ht4:=(x4 t _ (M.xM ht) ht).2;have hr4:=(x4 r _ (M.xM rH) rH).2;have aev:=(x4 pt _ (M.xM hpt) hpt).2;refine dN (a:=r) (j:=1) rfl hr4 rfl (dN (a:=t) (j:=0) rfl ht4 rfl ⟨pt,_,(k:Int), .int (to:Int),rfl,rfl,iM.of aev,cg (j:=k) (by rw[afJ,hto];rfl),?_⟩);refine⟨_,rfl,a.m,CM,a.dx,_,rfl,M4.ob,Tx.cm,Tx.m6,(by show 6<1000;decide),?_⟩;rw[mp6];exact q _ (M4.nU _)<|x4.trans xtA
end
theorem lJ.top {CL:aj}{N:aj->Prop}{H:Hp}{l:List V}{t:Wv}{p:List Wv}(r:lJ CL N H l.reverse (t::p)):∃l' v,l=l'++[v]/\Wr CL N H v t/\lJ CL N H l'.reverse p:=by
 generalize e:l.reverse=k at r;cases r with
 |@cons v _ vs _ w q=>exact⟨vs.reverse,v,by rw[<-agL l,e,agJ],w,by rw[agL];exact q⟩
theorem lJ.push {CL:aj}{N:aj->Prop}{H:Hp}{l:aP V}{v:V}{t:Wv}{p:aP Wv}(r:lJ CL N H l.reverse p)(w:Wr CL N H v t):lJ CL N H (l++[v]).reverse (t::p):=by
 rw[ahi];exact .cons w r
theorem Ld {i:Int}:gG i=true↔kZ i:=by
 unfold gG kZ IK;simp
theorem lJ.take {CL:aj}{N:aj->Prop}{H:Hp}:∀{vs:List V} {ts:List Wv} (n:Nat),lJ CL N H vs ts->lJ CL N H (vs.take n) (ts.take n)
 |_,_,0,_=>by simp only[ahG];exact .nil
 |_,_,n+1, .nil=>by simp only[List.take_nil];exact .nil
 |_,_,n+1, .cons r q=>by simp only[List.take_succ_cons];exact .cons r<|q.take n
theorem lJ.drop {CL:aj}{N:aj->Prop}{H:Hp}:∀{vs:List V} {ts:List Wv} (n:Nat),lJ CL N H vs ts->lJ CL N H (vs.drop n) (ts.drop n)
 |_,_,0,r=>r
 |_,_,n+1, .nil=>by simp only[List.drop_nil];exact .nil
 |_,_,n+1, .cons r q=>q.drop n
theorem lJ.rev {CL:aj}{N:aj->Prop}{H:Hp}{vs:aP V}{ts:aP Wv}(h:lJ CL N H vs ts):lJ CL N H vs.reverse ts.reverse:=h.ind .nil λr _ ih=>by rw[agJ,agJ];exact ih.snoc r
noncomputable def Zw:Rw->Nat
 |.num _=>0|.loc _=>1|.glob _=>2|.keep=>3|.drop _=>4|.store=>5|.nW k=>6+k|.CK _=>10|.jump _=>11|.close _ _=>12|.call=>14|.back=>15|.block _ _=>16|.field _=>17|.case _=>18
def Ad (CM CF CC CL CT iG iH:aj)(n:Nat):Sp:=if n=16 then Sd CM CF CC else if n=17 then Sg CM CF CC else if n=18 then Jg CM CF CC else if n=12 then Cy CM CF CC CL else if n=14 then CG CM CF CC CL iG iH else if n=15 then CJ CM CF CC else if 6<=n/\n<=9 then tE CM CF CC CT else ql CM CF CC n
section
variable {CM CF CC CL CT iG iH:aj}{H:Hp}{a:MA}{s:mJ}{A:AS}
set_option maxHeartbeats 1000000 in
theorem Sw {r:aj}{row:Rw}{res:AS ⊕ Out}{Q:VK}{E:XK}(M:MS CM CF CC H a s)(R:AR CL H a s A)(hr:Qi H r row)(h:fJ s.most row A=some res)(ns:res≠.inr .stuck)
  (q1:∀A',res=.inl A'->∀s' H',MS CM CF CC H' a s'->AR CL H' a s' A'->Ext a s H s' H'->s'.most=s.most->Q .non H')
  (q2:∀i,res=.inr (.num i)->∀p s' H',s'.pile=p++[.int i]->s'.ah=.non->MS CM CF CC H' a s'->Ext a s H s' H'->Q .non H')
  (q3:res=.inr .long->∀ea H',(∀b o,¬Mu a s b->H b=some o->H' b=some o)->E (.ref iG) (some ea) H')
  (q4:res=.inr .deep->∀ea H',(∀b o,¬Mu a s b->H b=some o->H' b=some o)->E (.ref iH) (some ea) H')
  (q5:res=.inr .great->∀ea H',(∀b o,¬Mu a s b->H b=some o->H' b=some o)->E (.ref CT) (some ea) H'):
  Ad CM CF CC CL CT iG iH (Zw row) [.ref a.m, .ref r] H Q E:=by
 have lp:s.pile.length=A.pile.length:=by have:=R.pl.len;rwa [agf]at this
 have lo:=R.ow.len;have ls:=R.st.len;have lou:s.outer.length=A.outer.length:=by have:=R.ou.len;rwa [agf]at this
 unfold fJ at h;split at h
 case isFalse=>cases h
 rename_i c
 obtain⟨c1,c2,c3,c4⟩:=c;cases row with
 |num i=>
  cases h;exact⟨a,s,_,r,[.int i],rfl,M,hr,⟨_,rfl,rfl⟩,by omega,by omega,by omega,λH' M' x=>q1 _ rfl _ H' M' ⟨(R.pl.mono x).push<|.num i,R.ow.mono x,R.be,R.ou.mono x,R.st.mono x,R.pc,R.bg,R.un⟩ x rfl⟩
 |loc j=>
  cases hv:A.own[j]? with
  |none=>simp[hv]at h
  |some t=>
   simp only[hv,agp,ahQ]at h;subst h;obtain⟨v,ev,wv⟩:=R.ow.get hv;exact⟨a,s,_,r,[.int j],rfl,M,hr,⟨j,v,rfl,ev,rfl⟩,by omega,by omega,by omega,λH' M' x=>q1 _ rfl _ H' M' ⟨(R.pl.mono x).push<|wv.mono x,R.ow.mono x,R.be,R.ou.mono x,R.st.mono x,R.pc,R.bg,R.un⟩ x rfl⟩
 |glob j=>
  cases hv:A.vL[j]? with
  |none=>simp[hv]at h
  |some t=>
   simp only[hv,agp,ahQ]at h;subst h;obtain⟨v,ev,wv⟩:=R.st.get hv;exact⟨a,s,_,r,[.int j],rfl,M,hr,⟨j,v,rfl,ev,rfl⟩,by omega,by omega,by omega,λH' M' x=>q1 _ rfl _ H' M' ⟨(R.pl.mono x).push<|wv.mono x,R.ow.mono x,R.be,R.ou.mono x,R.st.mono x,R.pc,R.bg,R.un⟩ x rfl⟩
 |keep=>
  have rp:=R.pl;cases hp:A.pile with
  |nil=>simp[hp]at h
  |cons t p=>
   simp only[hp,ahQ]at h;subst h;rw[hp]at rp;obtain⟨l,v,e,w,Jh⟩:=rp.top;exact⟨a,s,_,r,[],rfl,M,hr,⟨l,v,rfl,e,rfl⟩,by omega,by omega,by omega,λH' M' x=>q1 _ rfl _ H' M' ⟨Jh.mono x,(R.ow.mono x).snoc<|w.mono x,R.be,R.ou.mono x,R.st.mono x,R.pc,R.bg,R.un⟩ x rfl⟩
 |drop n=>
  simp only at h;split at h
  case isFalse=>cases h
  rename_i cn
  simp only[ahQ]at h;subst h;exact⟨a,s,_,r,[.int (n:Int)],rfl,M,hr,⟨s.cur.vs.take<|s.cur.vs.length-n,s.cur.vs.drop<|s.cur.vs.length-n,n,rfl,(ahb _ _).symm,by rw[agU];omega,rfl⟩,by omega,by omega,by omega,λH' M' x=>q1 _ rfl _ H' M' ⟨R.pl.mono x,by
   show lJ _ _ _ (s.cur.vs.take<|s.cur.vs.length-n) (A.own.take<|A.own.length-n);rw[lo];exact(R.ow.mono x).take _,R.be,R.ou.mono x,R.st.mono x,R.pc,R.bg,R.un⟩ x rfl⟩
 |store=>
  have rp:=R.pl;cases hp:A.pile with
  |nil=>simp[hp]at h
  |cons t p=>
   simp only[hp,ahQ]at h;subst h;rw[hp]at rp;obtain⟨l,v,e,w,Jh⟩:=rp.top;exact⟨a,s,_,r,[],rfl,M,hr,⟨l,v,rfl,e,rfl⟩,by omega,by omega,by omega,λH' M' x=>q1 _ rfl _ H' M' ⟨Jh.mono x,R.ow.mono x,R.be,R.ou.mono x,(R.st.mono x).snoc<|w.mono x,R.pc,R.bg,R.un⟩ x rfl⟩
 |jump t=>
  cases h;exact⟨a,s,_,r,[.int t],rfl,M,hr,⟨_,rfl,rfl⟩,by omega,by omega,by omega,λH' M' x=>q1 _ rfl _ H' M' ⟨R.pl.mono x,R.ow.mono x,R.be,R.ou.mono x,R.st.mono x,rfl,R.bg,R.un⟩ x rfl⟩
 |CK t=>
  have rp:=R.pl;rcases hp:A.pile with _|⟨_|⟨_,_⟩|⟨_,_⟩,p⟩
  ·simp[hp]at h
  ·rename_i i
   simp only[hp,ahQ]at h;subst h;rw[hp]at rp;obtain⟨l,v,e,w,Jh⟩:=rp.top;cases w;refine⟨a,s,_,r,[.int t],rfl,M,hr,⟨l,_,i,rfl,e,rfl⟩,by omega,by omega,by omega,λH' M' x=>?_⟩;by_cases z:i=0
   ·simp only[ahK z]at M' x
    exact q1 _ rfl _ H' M' ⟨by rw[ahK z];exact Jh.mono x,by rw[ahK z];exact R.ow.mono x,by rw[ahK z];exact R.be,by rw[ahK z];exact R.ou.mono x,by rw[ahK z];exact R.st.mono x,by rw[ahK z];rfl,by rw[ahK z];exact R.bg,by rw[ahK z];exact R.un⟩ x rfl
   ·simp only[ahL z]at M' x
    exact q1 _ rfl _ H' M' ⟨by rw[ahL z];exact Jh.mono x,by rw[ahL z];exact R.ow.mono x,by rw[ahL z];exact R.be,by rw[ahL z];exact R.ou.mono x,by rw[ahL z];exact R.st.mono x,by rw[ahL z];exact R.pc,by rw[ahL z];exact R.bg,by rw[ahL z];exact R.un⟩ x rfl
  ·simp only[hp,ahQ]at h;exact absurd h.symm ns
  ·simp only[hp,ahQ]at h;exact absurd h.symm ns
 |close to js=>
  obtain⟨pt,hr1,hpt⟩:=hr;simp only at h;split at h
  case isFalse=>cases h
  rename_i cj
  cases hpk:picked A.own js with
  |none=>simp[hpk]at h
  |some us=>
   simp only[hpk,agp,ahQ]at h;subst h;obtain⟨ws,ews,rws⟩:=R.ow.pick (xW hpk);exact⟨a,s,r,pt, .int to,js,ws,rfl,M,hr1,hpt,ews,by exact afy cj (by decide),by omega,λcc Cz k H' M' hc hk nc nk x=>q1 _ rfl _ H' M' ⟨(R.pl.mono x).push<|.fn hc hk nc nk (rws.mono x),R.ow.mono x,R.be,R.ou.mono x,R.st.mono x,R.pc,R.bg,R.un⟩ x rfl⟩
 |nW k=>
  have rp:=R.pl;rcases hp:A.pile with _|⟨_|⟨_,_⟩|⟨_,_⟩,_|⟨_|⟨_,_⟩|⟨_,_⟩,p⟩⟩
  ·simp[hp]at h
  ·simp[hp]at h
  ·rename_i j i
   simp only[hp]at h;split at h
   case isFalse=>cases h
   rename_i cc
   obtain⟨hk,hi,hj⟩:=cc;simp only[ahQ]at h;rw[hp]at rp;obtain⟨l,v,e,w,Jh⟩:=rp.top;obtain⟨l',v',e',w',rp2⟩:=Jh.top;cases w;cases w';subst e';have hN:Ad CM CF CC CL CT iG iH (Zw<|.nW k)=tE CM CF CC CT:=by
    show Ad CM CF CC CL CT iG iH (6+k)=_;unfold Ad;rw[ahL (by omega),ahL (by omega),ahL (by omega),ahL (by omega),ahL (by omega),ahL (by omega),ahK (by omega)]
   rw[hN];refine⟨a,s,r,l',k,i,j,rfl,M,by rw[e,afM];rfl,hr,hk,by have:=congrArg List.length e;simp at this;omega,Ld.mp hi,Ld.mp hj,λhin H' M' x=>?_,λhout ea H' kp=>?_⟩
   ·rw[ahK (Ld.mpr hin)]at h
    exact q1 _ h.symm _ H' M' ⟨(rp2.mono x).push<|.num _,R.ow.mono x,R.be,R.ou.mono x,R.st.mono x,R.pc,R.bg,R.un⟩ x rfl
   ·rw[ahL (λz=>hout<|Ld.mp z)]at h
    exact q5 h.symm ea H' kp
  all_goals first
   |(simp[hp]at h;done)
   |(simp only[hp]at h;split at h<;>first|exact absurd (ahR h).symm ns|cases h)
 |call=>
  have rp:=R.pl;rcases hp:A.pile with _|⟨t,_|⟨u,p⟩⟩
  ·simp[hp]at h
  ·simp[hp]at h
  ·simp only[hp]at h
   cases hkw:tK u with
   |none=>rw[hkw]at h;exact absurd (ahR h).symm ns
   |some tk=>
   obtain⟨to,kept⟩:=tk;rw[hkw]at h;simp only at h;split at h
   case isFalse=>cases h
   rename_i ck
   simp only[ahQ]at h;rw[hp]at rp;obtain⟨l,v,e,w,Jh⟩:=rp.top;obtain⟨l',v',e',w',rp2⟩:=Jh.top;obtain⟨cc,Cz,k,ws,ev',hc,hk,nc,nk,rws⟩:=w'.kept hkw
   ·subst ev'
    subst e';have lw:=rws.len;refine⟨a,s,r,cc,Cz,k,l',ws,v, .int to,rfl,M,by rw[e,afM];rfl,hc,hk,nc,nk,by have:=congrArg List.length e;simp at this;omega,by omega,by omega,λz ea H' kp=>?_,λz z' ea H' kp=>?_,λz z' fr qM own H' M' x=>?_⟩
    ·rw[R.bg]at z
     rw[ahK z]at h;exact q3 h.symm ea H' kp
    ·rw[R.bg]at z
     rw[R.un]at z';rw[ahL (by omega),ahK (by omega)]at h;exact q4 h.symm ea H' kp
    ·have z1:=z
     have z2:=z';rw[R.bg]at z1;rw[R.un]at z2;rw[ahL (by omega),ahL (by omega)]at h;refine q1 _ h.symm _ H' M' ⟨rp2.mono x,(rws.mono x).snoc<|w.mono x,R.pc,?_,R.st.mono x,rfl,?_,?_⟩ x rfl
     ·show Frs _ _ _ (s.outer++[s.cur]).reverse _
      rw[ahi];exact .cons (R.ow.mono x) R.be<|R.ou.mono x
     ·show s.begun+1=((A.begun+1:Nat):Int)
      rw[R.bg]
      rfl
     ·show s.under+1=((A.outer.length+1:Nat):Int)
      rw[R.un]
      rfl
 |back=>
  have rp:=R.pl;have ro:=R.ou;rcases ho:A.outer with _|⟨⟨o,b⟩,fs⟩
  ·rcases hp:A.pile with _|⟨_|⟨_,_⟩|⟨_,_⟩,p⟩
   ·simp[ho,hp]at h
   ·rename_i i
    simp only[ho,hp,ahQ]at h;rw[hp]at rp;obtain⟨l,v,e,w,Jh⟩:=rp.top;cases w;have so:s.outer=[]:=List.length_eq_zero_iff.mp (by rw[lou,ho];rfl);exact⟨a,s,r,rfl,M,by omega,λ_ H' M' x=>q2 i h.symm l (s.nU .non) H' e rfl M' x,λO f hO=>by rw[so]at hO;exact absurd hO<|by simp⟩
   ·simp only[ho,hp,ahQ]at h;exact absurd h.symm ns
   ·simp only[ho,hp,ahQ]at h;exact absurd h.symm ns
  ·simp only[ho,ahQ]at h
   refine⟨a,s,r,rfl,M,by omega,λso=>?_,λO f hO H' M' x=>?_⟩
   ·rw[so,ho]at lou
    simp at lou
   ·rw[hO,ho,ahi]at ro
    cases ro with
    |cons w eb rest=>
     refine q1 _ h.symm _ H' M' ⟨R.pl.mono x,w.mono x,eb,?_,R.st.mono x,R.be,R.bg,?_⟩ x rfl
     ·exact rest.mono x
     ·show s.under-1=(fs.length:Int)
      rw[R.un,ho];simp
 |block k n=>
  simp only at h;split at h
  case isFalse=>cases h
  rename_i cn
  obtain⟨cn1,cn2⟩:=cn;simp only[ahQ]at h;subst h;have r1:=R.pl.take n;have r2:=R.pl.drop n;rw[List.take_reverse]at r1;rw[List.drop_reverse]at r2;have r3:=r1.rev;rw[agL]at r3;exact⟨a,s,r,k,n,s.pile.take<|s.pile.length-n,s.pile.drop<|s.pile.length-n,rfl,M,hr,(ahb _ _).symm,by rw[agU];omega,by exact cn2,by rw[af9];omega,λt H' M' ht nt x=>q1 _ rfl _ H' M' ⟨(r2.mono x).push<|.bl ht nt (r3.mono x),R.ow.mono x,R.be,R.ou.mono x,R.st.mono x,R.pc,R.bg,R.un⟩ x rfl⟩
 |field j=>
  have rp:=R.pl;rcases hp:A.pile with _|⟨_|⟨_,_⟩|⟨k,vs⟩,p⟩
  ·simp[hp]at h
  ·simp only[hp,ahQ]at h;exact absurd h.symm ns
  ·simp only[hp,ahQ]at h;exact absurd h.symm ns
  ·simp only[hp]at h
   rw[hp]at rp;obtain⟨l,v,e,w,Jh⟩:=rp.top;cases w with
   |@bl c _ ws _ hc nc rws=>
    cases hv:vs[j]? with
    |none=>rw[hv]at h;cases h
    |some u=>
     rw[hv]at h;simp only[agp,ahQ]at h;subst h;obtain⟨v',e2,w2⟩:=rws.get hv;exact⟨a,s,r,c,j,l, .int k::ws,v',rfl,M,hr,e,hc,by simpa using e2,by have:=congrArg List.length e;simp at this;omega,λH' M' x=>q1 _ rfl _ H' M' ⟨(Jh.mono x).push<|w2.mono x,R.ow.mono x,R.be,R.ou.mono x,R.st.mono x,R.pc,R.bg,R.un⟩ x rfl⟩
 |case fs=>
  have rp:=R.pl;obtain⟨pt,hr1,hpt⟩:=hr;rcases hp:A.pile with _|⟨_|⟨_,_⟩|⟨k,vs⟩,p⟩
  ·simp[hp]at h
  ·simp only[hp,ahQ]at h;exact absurd h.symm ns
  ·simp only[hp,ahQ]at h;exact absurd h.symm ns
  ·simp only[hp]at h
   rw[hp]at rp;obtain⟨l,v,e,w,Jh⟩:=rp.top;by_cases z:0<=k/\k<(fs.length:Int)
   ·rw[ahK z]at h
    by_cases y:vs.length<=400
    ·rw[ahK y]at h
     cases w with
     |@bl c _ ws _ hc nc rws=>
      have lw:=rws.len;cases hv:fs[k.toNat]? with
      |none=>rw[hv]at h;cases h
      |some to=>
       rw[hv]at h;simp only[agp,ahQ]at h;subst h;exact⟨a,s,r,c,pt,k.toNat,l,ws,fs,to,rfl,M,hr1,hpt,e,by rw[show((k.toNat:Nat):Int)=k by omega];exact hc,hv,by omega,λH' M' x=>q1 _ rfl _ H' M' ⟨Jh.mono x,(R.ow.mono x).app<|rws.mono x,R.be,R.ou.mono x,R.st.mono x,rfl,R.bg,R.un⟩ x rfl⟩
    ·rw[ahL y]at h;cases h
   ·rw[ahL z]at h
    exact absurd (ahR h).symm ns
end
end Fw
namespace L2
structure Ow (K:aN)(x bf:Str)(st:aJ)(f:aj)(fd:FuncData)(T:aj)(bh:Array ak):Prop where
 ex:∃(oc:ak) (od:Option aj) (kV nF pm:ak) (an:Option aj) (dJ ct:ak) (osl:Array (Option ak)),
  fd=fnOf x bf (jE st) (cY st) (bN st) (.ref T) kV nF pm an dJ ct/\K.lookup f=some ⟨oc,od, .func fd,osl⟩/\codeIn K dJ bf=true
 kp:keepIn K (.ref f)=true
 df:∃oc od n sl,K.lookup T=some ⟨oc,od, .seq bh n,sl⟩
section
variable {P:aA}{w:aG}{K:aN}{mg:Str->Option ak}{aV:aK}{N:List Str}{bf:Str}{f:aj}{T:aj}{bh:Array ak}
theorem Ow.vU {x:Str}{st:aJ}{fd:FuncData}{ps:aP Str}{k:Nat}{sp:Sp}(F:Ow K x bf st f fd T bh)(S:cu N ps (bN st))(len:∀vs H Q E,sp vs H Q E->vs.length=ps.length)
  (hbody:∀(dJ:ak) (A:aq) (aU:aP Env) (s:ao) (H:Hp) (vs:aP V) (Q:VK) (E:XK),gK k (A.deeper<|envOfC bf (bN st) s.heap.objs.size f dJ)->sp vs H Q E->
   ∃t,yR (dX (gw P w) P w K mg aV N bf (bN st) f dJ A aU s H E) (cY st) t/\t (Ends.of Q) (start N vs) H):cX P w K mg aV (gw P w) (k+1) f fd ps sp:=by
 obtain⟨oc,od,kV,nF,pm,an,dJ,ct,osl,rfl,lk,yX⟩:=F.ex;exact QX lk yX S len λA aU s H vs Q E hr hsp=>hbody dJ A aU s H vs Q E hr hsp
theorem Ow.binds {x:Str}{st:aJ}{fd:FuncData}{ps:aP Str}(F:Ow K x bf st f fd T bh)
  (h:∀(kV nF pm:ak) (an:aO aj) (dJ ct:ak) (us:aP ak),us.length=ps.length->∃k:aO (Array ak)->Sem (aP<|Str×ak),bindArgs (fnOf x bf (jE st) (cY st) (bN st) (.ref T) kV nF pm an dJ ct) ⟨us,[]⟩=seqItems? (.ref T)>>=k/\k (some bh)=pure (ps.zip us)):Binds K fd ps []:=by
 obtain⟨oc,od,kV,nF,pm,an,dJ,ct,osl,rfl,lk,yX⟩:=F.ex;obtain⟨oc',od',n,sl,hT⟩:=F.df;intro s us hK hl;rw[agh]at hl ⊢;obtain⟨k,e1,e2⟩:=h kV nF pm an dJ ct us hl;exact BindsTo.of_defaults rfl (hK T _ hT) rfl e1 e2
end
end L2
namespace Fw
open L2
noncomputable def jB (fr:Nat->aj):List (Str×V):=[("number", .ref<|fr 0),("local", .ref<|fr 1),("global", .ref<|fr 2),("keep", .ref<|fr 3),("drop", .ref<|fr 4),("store", .ref<|fr 5),("plus", .ref<|fr 6),("minus", .ref<|fr 7),("times", .ref<|fr 8),("less", .ref<|fr 9),("unless", .ref<|fr 10),("jump", .ref<|fr 11),("close", .ref<|fr 12),("ring", .ref<|fr 13),("call", .ref<|fr 14),("back", .ref<|fr 15),("block", .ref<|fr 16),("field", .ref<|fr 17),("case", .ref<|fr 18)]
section
variable (fr:Nat->aj)
theorem rl0:(jB fr).lookup ("number":Str)=some (.ref<|fr 0):=by kernel_rfl
theorem rl1:(jB fr).lookup ("local":Str)=some (.ref<|fr 1):=by kernel_rfl
theorem rl3:(jB fr).lookup ("keep":Str)=some (.ref<|fr 3):=by kernel_rfl
theorem rl6:(jB fr).lookup ("plus":Str)=some (.ref<|fr 6):=by kernel_rfl
theorem rl7:(jB fr).lookup ("minus":Str)=some (.ref<|fr 7):=by kernel_rfl
theorem rl8:(jB fr).lookup ("times":Str)=some (.ref<|fr 8):=by kernel_rfl
theorem rl9:(jB fr).lookup ("less":Str)=some (.ref<|fr 9):=by kernel_rfl
theorem rl2:(jB fr).lookup ("global":Str)=some (.ref<|fr 2):=by kernel_rfl
theorem rl4:(jB fr).lookup ("drop":Str)=some (.ref<|fr 4):=by kernel_rfl
theorem rl5:(jB fr).lookup ("store":Str)=some (.ref<|fr 5):=by kernel_rfl
theorem aew:(jB fr).lookup ("unless":Str)=some (.ref<|fr 10):=by kernel_rfl
theorem aex:(jB fr).lookup ("jump":Str)=some (.ref<|fr 11):=by kernel_rfl
theorem aey:(jB fr).lookup ("back":Str)=some (.ref<|fr 15):=by kernel_rfl
theorem aez:(jB fr).lookup ("close":Str)=some (.ref<|fr 12):=by kernel_rfl
theorem aeA:(jB fr).lookup ("call":Str)=some (.ref<|fr 14):=by kernel_rfl
theorem aeB:(jB fr).lookup ("case":Str)=some (.ref<|fr 18):=by kernel_rfl
theorem aeC:(jB fr).lookup ("block":Str)=some (.ref<|fr 16):=by kernel_rfl
theorem aeD:(jB fr).lookup ("field":Str)=some (.ref<|fr 17):=by kernel_rfl
theorem Wu:∀k,k<=3->(jB fr).lookup (wordOf k)=some (.ref<|fr (6+k))
 |0,_=>rl6 fr
 |1,_=>rl7 fr
 |2,_=>rl8 fr
 |3,_=>rl9 fr
 |n+4,h=>by omega
end
noncomputable def Ww:Rw->Str
 |.num _=>"number"|.loc _=>"local"|.glob _=>"global"|.keep=>"keep"|.drop _=>"drop"|.store=>"store"|.nW k=>wordOf k|.CK _=>"unless"|.jump _=>"jump"|.close _ _=>"close"|.call=>"call"|.back=>"back"|.block _ _=>"block"|.field _=>"field"|.case _=>"case"
def abp:Rw->Prop
 |.nW k=>k<=3
 |_=>True
theorem ac' (fr:Nat->aj){row:Rw}(h:abp row):(jB fr).lookup (Ww row)=some (.ref<|fr (Zw row)):=by
 cases row with
 |num i=>exact rl0 fr
 |loc j=>exact rl1 fr
 |glob j=>exact rl2 fr
 |keep=>exact rl3 fr
 |drop n=>exact rl4 fr
 |store=>exact rl5 fr
 |nW k=>exact Wu fr k h
 |CK t=>exact aew fr
 |jump t=>exact aex fr
 |close to js=>exact aez fr
 |call=>exact aeA fr
 |back=>exact aey fr
 |block k n=>exact aeC fr
 |field j=>exact aeD fr
 |case fs=>exact aeB fr
def tL (n:Nat):Prop:=n<=12\/(14<=n/\n<=18)
theorem Wx {row:Rw}(h:abp row):tL (Zw row):=by
 cases row with
 |nW k=>
  have h':k<=3:=h;exact .inl (by show 6+k<=12;omega)
 |_=>simp[tL,Zw]
theorem Wy {most:Int}{row:Rw}{A:AS}{res:AS ⊕ Out}(h:fJ most row A=some res):abp row:=by
 cases row with
 |nW k=>
  show k<=3;unfold fJ at h;by_cases c:k<=3
  ·exact c
  ·split at h
   ·simp only at h
    split at h
    ·split at h
     ·rename_i z;exact absurd z.1 c
     ·cases h
    ·rw[ahL c]at h;cases h
    ·cases h
   ·cases h
 |_=>trivial
theorem Le {H:Hp}{r:aj}{row:Rw}(h:Qi H r row):∃args,H r=some (.tup (.str (Ww row)::args)):=by
 cases row with
 |close to js=>obtain⟨pt,h1,_⟩:=h;exact⟨_,h1⟩
 |case fs=>obtain⟨pt,h1,_⟩:=h;exact⟨_,h1⟩
 |_=>exact⟨_,h⟩
theorem Qi.same {H H':Hp}{r:aj}{row:Rw}(e:Same H H')(h:Qi H r row):Qi H' r row:=by
 cases row with
 |close to js=>obtain⟨pt,h1,h2⟩:=h;exact⟨pt,e _ _ h1,e _ _ h2⟩
 |case fs=>obtain⟨pt,h1,h2⟩:=h;exact⟨pt,e _ _ h1,e _ _ h2⟩
 |_=>exact e _ _ h
def uZ (H:Hp)(jr:List V)(aY:List Rw):Prop:=jr.length=aY.length/\∀(i:Nat) (row:Rw),aY[i]?=some row->∃r:aj,jr[i]?=some (V.ref r)/\Qi H r row
def A0:AS:=⟨[],[],0,[],[],0,0⟩
inductive Ji (CT iG iH:aj)(vs:List V)(H:Hp)(Q:VK)(E:XK):Prop where
 |mk (c:aj) (most:Int) (jr:List V) (aY:List Rw) (out:Out) (n:Nat):vs=[.ref c, .int most]->H c=some (.tup jr)->uZ H jr aY->xV most aY n A0=some out->out≠.stuck->(∀i,out=.num i->∀H',Same H H'->Q (.int i) H')->(out=.long->∀ea H',Same H H'->E (.ref iG) (some ea) H')->(out=.deep->∀ea H',Same H H'->E (.ref iH) (some ea) H')->(out=.great->∀ea H',Same H H'->E (.ref CT) (some ea) H')->Ji CT iG iH vs H Q E
def Ke (H0:Hp)(a:MA)(s:mJ)(H:Hp):Prop:=∀b o,H0 b=some o->¬Mu a s b/\H b=some o
theorem Ke.ext {H0 H H':Hp}{a:MA}{s s':mJ}(k:Ke H0 a s H)(x:Ext a s H s' H'):Ke H0 a s' H':=λb o h=>x b o (k b o h).1 (k b o h).2
def Wd (CM CF CC CL:aj)(H0:Hp)(c:aj)(a:MA)(most:Int)(aY:List Rw)(out:Out)(m:Nat)(U:L2.St)(H:Hp):Prop:=∃o,U=[some (.ref c),some<|.int most,some<|.ref a.m,o]/\
 ((∃s A,MS CM CF CC H a s/\AR CL H a s A/\Ke H0 a s H/\s.most=most/\xV most aY m A=some out)\/(∃(s:mJ) (p:List V) (i:Int),MS CM CF CC H a s/\Ke H0 a s H/\s.pile=p++[.int i]/\s.ah=.non/\out=.num i/\m=0))
section
variable {CM CF CC CL CT iG iH:aj}
abbrev Jk:aJ:=top 46
theorem CQ:cu ["code","most","machine","row"] ["code","most"] (bN Jk):={}
set_option maxHeartbeats 2000000 in
theorem Wz {T dr fM:aj}{gM:FuncData}{bh:Array ak}{fr:Nat->aj}(F:Ow K "done" "done" Jk f fd T bh)(Tx:wg K CM CF CC CL)(MM:Mk K CM fM)(GM:cX P w K mg aV jG 3 fM gM ["self","most"] (Jf CM CF CC))(bM:Binds K gM ["self","most"] [])(hM:mg "Machine"=some (.ref CM))
  (hR:mg "ROWS"=some (.ref dr)) (D:qI K w dr (jB fr)) (hF:∀n,tL n->∃k fd,k<=4/\cX P w K mg aV (gw P w) k (fr n) fd ["machine","row"] (Ad CM CF CC CL CT iG iH n)/\keepIn K (.ref<|fr n)=true/\Binds K fd ["machine","row"] [])
  (hN:Has P w K mg aV 2 "number_of" ["value"] K7):cX P w K mg aV (gw P w) 5 f fd ["code","most"] (Ji CT iG iH):=by
 refine F.vU CQ (λvs H Q E h=>?_) λdJ A aU s H vs Q E hr h=>?_
 ·obtain⟨c,most,jr,aY,out,n,rfl,_⟩:=h
  rfl
 obtain⟨c,most,jr,aY,out,n,rfl,hc,cd,ex,ns,q1,q2,q3,q4⟩:=h;refine⟨_,bI (eU 2 CQ.nd<|sU MM GM hr rfl hM bM .nil wY (bx (pv 1) bG))
  (bI (Ek PassesOwn.leaving (aan (Vt<|fU K (pv 2) rfl) rfl)
   (bI (eU 3 CQ.nd<|bZ (fG K) (pv 0) (fU K (pv 2) rfl))
   (bI (iC K (pv 2) (cU gJ (fU K (pv 2) rfl) bJ) rfl)
   (bQ (cD (Fg (E:=E) (λf sp=>∃n,tL n/\f=fr n/\sp=Ad CM CF CC CL CT iG iH n) (λf sp ⟨n,hn,e1,e2⟩=>by
    obtain⟨k,fd',hk,G,kp,b⟩:=hF n hn;rw[e1,e2];exact⟨k,fd',_,G,hr.mono hk,kp,b⟩) (bZ KH (jD (v:=.ref dr) rfl hR rfl)<|bZ (fG K) (pv 3) bJ) dY<|bx (pv 2) (bx (pv 3) bG)))))))
  (bQ (cO (cP hN hr (by decide) rfl (bx (BX K<|fU K (pv 2) rfl) bG))))),?_⟩
 refine⟨_,rfl,λmm dx hmm hdx nmm=>⟨mm,dx,most,rfl,bA,λa frm qM own H1 ea M1 k1 f1=>⟨rfl,?_⟩⟩⟩;subst ea;have ke1:Ke H a ⟨[],⟨frm,qM,own,[], .int 0⟩,[],[], .int 0,most,0,0⟩ H1:=λb o h=>by
  have hb:(upd (upd H dx<|.own a.m) a.m<|.ins CM dx []) b=some o:=by rw[bV (bY h hmm),bV (bY h hdx)];exact h
  refine⟨λz=>?_,k1 b o (bY h hmm) hb⟩;rcases f1 b z with e|e
  ·exact bY h hmm e
  ·rw[hb]at e;cases e
 have r1:AR CL H1 a ⟨[],⟨frm,qM,own,[], .int 0⟩,[],[], .int 0,most,0,0⟩ A0:=⟨.nil, .nil,rfl, .nil, .nil,rfl,rfl,rfl⟩;refine⟨Wd CM CF CC CL H c a most aY out,⟨n,none,rfl, .inl ⟨_,A0,M1,r1,ke1,rfl,ex⟩⟩,?_⟩;rintro m U H2 ⟨o,rfl,⟨s,A,M,R,ke,hm,Jl⟩|⟨s,p,i,M,ke,hp,ha,rfl,rfl⟩⟩
 ·cases m with
  |zero=>cases Jl
  |succ m=>
   refine⟨_,rfl,a.m,CM,a.dx,_,_,rfl,M.ob,Tx.cm,Tx.m6,mf6 _ _ _ _ _ _,_,rfl,?_⟩;rw[R.pc];refine gO (λ_=>?_) λz=>absurd rfl z;refine⟨_,λ_ _ h=>h,?_⟩;unfold xV at Jl;cases hrow:aY[A.pc]? with
   |none=>rw[hrow]at Jl;cases Jl
   |some row=>
    rw[hrow]at Jl;dsimp only at Jl;obtain⟨r,er,hr2⟩:=cd.2 _ row hrow;have obm:H2 a.m=some (.ins CM a.dx<|xK a.cl a.pl s.cur.fr a.gZ a.st (.int (A.pc:Int))):=by have:=M.ob;rwa [R.pc]at this
    refine⟨_,rfl,_,rfl,a.m,CM,a.dx,_, .int A.pc,rfl,obm,Tx.cm,Tx.m6,mf6 _ _ _ _ _ _,c,jr,(A.pc:Int), .ref r,rfl,rfl,iM.of (ke _ _ hc).2,cg (j:=A.pc) er,?_⟩;refine⟨_,rfl,a.m,CM,a.dx,_, .int A.pc,rfl,obm,Tx.cm,Tx.m6,mf6 _ _ _ _ _ _,_,_,rfl,rfl,_,rfl,a.m,CM,a.dx,_,rfl,obm,Tx.cm,Tx.m6,(by show 6<1000;decide),?_⟩;rw[mp6];rw[show(A.pc:Int)+1=((A.pc+1:Nat):Int) from rfl];have M3:=M.nU (.int ((A.pc+1:Nat):Int));have x3:Ext a s H2 (s.nU<|.int ((A.pc+1:Nat):Int)) (upd H2 a.m<|.ins CM a.dx (xK a.cl a.pl s.cur.fr a.gZ a.st<|.int ((A.pc+1:Nat):Int))):=xtA;revert M3 x3;generalize upd H2 a.m (.ins CM a.dx<|xK a.cl a.pl s.cur.fr a.gZ a.st (.int ((A.pc+1:Nat):Int)))=H3;intro M3 x3;have WD:=ke.ext x3;have s3:Same H H3:=λb o h=>(WD b o h).2;have R3:AR CL H3 a (s.nU<|.int ((A.pc+1:Nat):Int)) {A with pc:=A.pc+1}:=⟨R.pl.mono x3,R.ow.mono x3,R.be,R.ou.mono x3,R.st.mono x3,rfl,R.bg,R.un⟩;have hr3:=Qi.same s3 hr2;cases jY:fJ most row {A with pc:=A.pc+1} with
    |none=>rw[jY]at Jl;cases Jl
    |some res=>
     rw[jY]at Jl;obtain⟨args,hra⟩:=Le hr3;have okr:=Wy jY;refine(dN (a:=r) (j:=0) rfl hra rfl ⟨Ww row,dr,_, .ref<|fr (Zw row),rfl,rfl,D,ac' fr okr,fr<|Zw row,_,rfl,⟨Zw row,Wx okr,rfl,rfl⟩,_,rfl,_,rfl,?_⟩);rw[<-hm]at jY;refine Sw (s:=s.nU<|.int ((A.pc+1:Nat):Int)) M3 R3 hr3 jY (λz=>by subst z;cases Jl;exact ns rfl) ?_ ?_ ?_ ?_ ?_
     ·rintro A' rfl s' H' M' R' x' hm'
      exact⟨m,by exact afv _,_,rfl, .inl ⟨s',A',M',R',WD.ext x',hm'.trans hm,Jl⟩⟩
     ·rintro i rfl p s' H' hp ha M' x'
      cases Jl;exact⟨0,by exact afX _ _,_,rfl, .inr ⟨s',p,i,M',WD.ext x',hp,ha,rfl,rfl⟩⟩
     ·rintro rfl ea H' kp
      cases Jl;exact q2 rfl ea H' λb o h=>kp b o (WD b o h).1 (WD b o h).2
     ·rintro rfl ea H' kp
      cases Jl;exact q3 rfl ea H' λb o h=>kp b o (WD b o h).1 (WD b o h).2
     ·rintro rfl ea H' kp
      cases Jl;exact q4 rfl ea H' λb o h=>kp b o (WD b o h).1 (WD b o h).2
 ·refine⟨_,rfl,a.m,CM,a.dx,_,_,rfl,M.ob,Tx.cm,Tx.m6,mf6 _ _ _ _ _ _,_,rfl,?_⟩
  rw[ha];refine gO (λz=>absurd z<|by decide) λ_=>?_;have lC:=M.hp;rw[hp]at lC;refine⟨_,rfl,a.m,CM,a.dx,_, .ref a.pl,rfl,M.ob,Tx.cm,Tx.m2,mf2 _ _ _ _ _ _, .inl ⟨rfl,_,dD.of M.hp⟩,a.pl,_, .int i,rfl,rfl,lC,by simp,i,rfl,λH3 s3=>q1 i rfl _ λb o h=>s3 b o<|dH (ke b o h).2 λe=>(ke b o h).1<|.inr (.inr<|e ▸ afE)⟩
end
inductive Kd where
 |n
 |b
 |r
 |f (a r:Kd)
deriving DecidableEq
noncomputable def iU:Nat->List Kd
 |0=>[]
 |1=>[.n]
 |2=>[.n, .b]
 |3=>[.b, .n, .n]
 |4=>[.n, .n, .n, .n]
 |_=>[.n, .b, .n, .n, .n]
theorem xY (k:Nat):(iU k).length<=5:=by
 match k with
 |0=>decide
 |1=>decide
 |2=>decide
 |3=>decide
 |4=>decide
 |_+5=>exact afv _
inductive Tm where
 |n (i:Int)
 |v (x:Nat)
 |g (j:Nat)
 |lt (x:Nat) (t b:Tm)
 |rK (c a b:Tm)
 |fn (x:Nat) (b:Tm)
 |op (k:Nat) (a b:Tm)
 |call (a b:Tm)
 |block (k:Int) (ts:List Tm)
 |field (j:Nat) (t:Tm)
 |case (x:Nat) (t:Tm) (ms:List Nat) (bs:List Tm)
mutual
noncomputable def dep:Tm->Nat
 |.n _=>0
 |.v _=>0
 |.g _=>0
 |.lt _ t b=>max (dep t) (dep b)+1
 |.rK c a b=>max (dep c) (max (dep a)<|dep b)+1
 |.fn _ b=>dep b+1
 |.op _ a b=>max (dep a) (dep b)+1
 |.call a b=>max (dep a) (dep b)+1
 |.block _ ts=>iJ ts+1
 |.field _ t=>dep t+1
 |.case _ t _ bs=>max (dep t) (iJ bs)+1
noncomputable def iJ:List Tm->Nat
 |[]=>0
 |t::ts=>max (dep t) (iJ ts)
end
theorem pB:∀{bs:List Tm} {i:Nat} {b:Tm},bs[i]?=some b->dep b<=iJ bs
 |[],_,_,h=>by simp at h
 |t::ts,0,b,h=>by simp at h;subst h;unfold iJ;omega
 |t::ts,i+1,b,h=>by
  have:=pB (bs:=ts) (by simpa using h);unfold iJ;omega
mutual
def WT (M R:Nat)(S:List Kd):List Kd->Tm->Kd->Prop
 |_, .n i,k=>k=.n/\gG i=true
 |Γ, .v x,k=>Γ[x]?=some k
 |_, .g j,k=>S[j]?=some k
 |Γ, .lt x t b,k=>x=Γ.length/\∃k',WT M R S Γ t k'/\WT M R S (Γ++[k']) b k
 |Γ, .rK c a b,k=>WT M R S Γ c .n/\WT M R S Γ a k/\WT M R S Γ b k
 |Γ, .fn x b,k=>x=Γ.length/\∃a r,k=.f a r/\WT M R S (Γ++[a]) b r
 |Γ, .op j a b,k=>k=.n/\j<=3/\WT M R S Γ a .n/\WT M R S Γ b .n
 |Γ, .call a b,k=>∃k',WT M R S Γ a (.f k' k)/\WT M R S Γ b k'
 |Γ, .block i ts,k=>ts.length<=5/\((k=.b/\∃q:Nat,i=(q:Int)/\q<M/\u0 M R S Γ ts (iU q))\/(k=.r/\i=0/\u0 M R S Γ ts (List.replicate R .n)))
 |Γ, .field j t,k=>k=.n/\j<R/\WT M R S Γ t .r
 |Γ, .case x t ms bs,k=>x=Γ.length/\bs.length=M/\M<=6/\ms=(List.range M).map (λq=>(iU q).length)/\WT M R S Γ t .b/\Gg M R S Γ bs 0 k
def u0 (M R:Nat)(S:List Kd):List Kd->List Tm->List Kd->Prop
 |_,[],ks=>ks=[]
 |Γ,t::ts,ks=>∃k ks',ks=k::ks'/\WT M R S Γ t k/\u0 M R S Γ ts ks'
def Gg (M R:Nat)(S:List Kd):List Kd->List Tm->Nat->Kd->Prop
 |_,[],_,_=>True
 |Γ,t::ts,q,k=>WT M R S (Γ++iU q) t k/\Gg M R S Γ ts (q+1) k
end
section
variable {M R:Nat}
theorem u0.len {S Γ:List Kd}:∀{ts:List Tm} {ks:List Kd},u0 M R S Γ ts ks->ts.length=ks.length
 |[],_,h=>by cases h;rfl
 |u::us,ks,⟨k,ks',e,w,q⟩=>by subst e;simp[u0.len q]
theorem abq {S Γ:List Kd}{k:Kd}{ts:List Tm}{q i:Nat}{t:Tm}(w:Gg M R S Γ ts q k)(h:ts[i]?=some t):WT M R S (Γ++iU (q+i)) t k:=by
 induction ts generalizing q i with
 |nil=>simp at h
 |cons u us ih=>cases i with
  |zero=>cases h;exact w.1
  |succ i=>
   have:=ih (i:=i) w.2 h
   rwa [show q+1+i=q+(i+1) by omega]at this
mutual
theorem WT.more {S S':List Kd}(e:∀(j:Nat) k,S[j]?=some k->S'[j]?=some k):∀{t:Tm} {Γ:List Kd} {k:Kd},WT M R S Γ t k->WT M R S' Γ t k
 |.n _,_,_,h=>h
 |.v _,_,_,h=>h
 |.g _,_,_,h=>e _ _ h
 |.lt _ _ _,_,_,h=>⟨h.1,h.2.elim λk h=>⟨k,WT.more e h.1,WT.more e h.2⟩⟩
 |.rK _ _ _,_,_,h=>⟨WT.more e h.1,WT.more e h.2.1,WT.more e h.2.2⟩
 |.fn _ _,_,_,h=>⟨h.1,h.2.elim λa h=>h.elim λr h=>⟨a,r,h.1,WT.more e h.2⟩⟩
 |.op _ _ _,_,_,h=>⟨h.1,h.2.1,WT.more e h.2.2.1,WT.more e h.2.2.2⟩
 |.call _ _,_,_,h=>h.elim λk h=>⟨k,WT.more e h.1,WT.more e h.2⟩
 |.block _ _,_,_,h=>⟨h.1,h.2.elim (λh=>.inl ⟨h.1,h.2.elim λq h=>⟨q,h.1,h.2.1,u0.more e h.2.2⟩⟩) λh=>.inr ⟨h.1,h.2.1,u0.more e h.2.2⟩⟩
 |.field _ _,_,_,h=>⟨h.1,h.2.1,WT.more e h.2.2⟩
 |.case _ _ _ _,_,_,h=>⟨h.1,h.2.1,h.2.2.1,h.2.2.2.1,WT.more e h.2.2.2.2.1,Gg.more e h.2.2.2.2.2⟩
theorem u0.more {S S':List Kd}(e:∀(j:Nat) k,S[j]?=some k->S'[j]?=some k):∀{ts:List Tm} {Γ ks:List Kd},u0 M R S Γ ts ks->u0 M R S' Γ ts ks
 |[],_,_,h=>h
 |_::_,_,_,h=>h.elim λk h=>h.elim λq h=>⟨k,q,h.1,WT.more e h.2.1,u0.more e h.2.2⟩
theorem Gg.more {S S':List Kd}(e:∀(j:Nat) k,S[j]?=some k->S'[j]?=some k):∀{ts:List Tm} {Γ:List Kd} {q:Nat} {k:Kd},Gg M R S Γ ts q k->Gg M R S' Γ ts q k
 |[],_,_,_,h=>h
 |_::_,_,_,_,h=>⟨WT.more e h.1,Gg.more e h.2⟩
end
end
inductive Vl where
 |num (i:Int)
 |fn (x:Nat) (b:Tm) (env:List Vl)
 |bl (k:Int) (vs:List Vl)
noncomputable def u6:Vl->Option (Tm×List Vl)
 |.num _=>none
 |.fn _ b env=>some (b,env)
 |.bl _ _=>none
inductive Rs where
 |val (v:Vl)|long|deep|great|stuck
noncomputable def evs (f:Tm->Nat->Option (Rs×Nat)):List Tm->Nat->Option ((List Vl ⊕ Rs)×Nat)
 |[],c=>some (.inl [],c)
 |t::ts,c=>match f t c with
  |some (.val v,c1)=>match evs f ts c1 with
   |some (.inl vs,c2)=>some (.inl (v::vs),c2)
   |r=>r
  |some (r,c1)=>some (.inr r,c1)
  |none=>none
noncomputable def ev (most:Int)(S:List Vl):Nat->Nat->Tm->List Vl->Nat->Option (Rs×Nat)
 |0,_,_,_,_=>none
 |_+1,_, .n i,_,c=>some (.val<|.num i,c)
 |_+1,_, .v x,env,c=>(env[x]?).map λv=>(.val v,c)
 |_+1,_, .g j,_,c=>(S[j]?).map λv=>(.val v,c)
 |_+1,_, .fn x b,env,c=>some (.val<|.fn x b env,c)
 |m+1,d, .lt _ t b,env,c=>match ev most S m d t env c with
  |some (.val v,c1)=>ev most S m d b (env++[v]) c1
  |r=>r
 |m+1,d, .rK t a b,env,c=>match ev most S m d t env c with
  |some (.val<|.num i,c1)=>ev most S m d (if i=0 then b else a) env c1
  |some (.val _,c1)=>some (.stuck,c1)
  |r=>r
 |m+1,d, .op k a b,env,c=>match ev most S m d a env c with
  |some (.val v,c1)=>match ev most S m d b env c1 with
   |some (.val w,c2)=>match v,w with
    |.num i, .num j=>some (if gG (rk k i j)=true then .val (.num<|rk k i j) else .great,c2)
    |_,_=>some (.stuck,c2)
   |r=>r
  |r=>r
 |m+1,d, .call a b,env,c=>match ev most S m d a env c with
  |some (.val v,c1)=>match ev most S m d b env c1 with
   |some (.val w,c2)=>match u6 v with
    |some (body,jH)=>if most<(c2:Int)+1 then some (.long,c2) else if 10<d+1 then some (.deep,c2) else ev most S m (d+1) body (jH++[w]) (c2+1)
    |none=>some (.stuck,c2)
   |r=>r
  |r=>r
 |m+1,d, .block k ts,env,c=>match evs (λt c=>ev most S m d t env c) ts c with
  |some (.inl vs,c1)=>some (.val<|.bl k vs,c1)
  |some (.inr r,c1)=>some (r,c1)
  |none=>none
 |m+1,d, .field j t,env,c=>match ev most S m d t env c with
  |some (.val<|.bl _ vs,c1)=>(vs[j]?).map λv=>(.val v,c1)
  |some (.val _,c1)=>some (.stuck,c1)
  |r=>r
 |m+1,d, .case _ t ms bs,env,c=>match ev most S m d t env c with
  |some (.val<|.bl k vs,c1)=>if 0<=k/\k<(bs.length:Int) then(match bs[k.toNat]? with
    |some b=>if ms[k.toNat]?=some vs.length then ev most S m d b (env++vs) c1 else none
    |none=>none) else some (.stuck,c1)
  |some (.val _,c1)=>some (.stuck,c1)
  |r=>r
mutual
inductive VT (M R:Nat)(S:List Kd):Vl->Kd->Prop where
 |num {i:Int}:gG i=true->VT M R S (.num i) .n
 |fn {x:Nat} {b:Tm} {env:List Vl} {Γ:List Kd} {a r:Kd}:WT M R S (Γ++[a]) b r->ET M R S env Γ->x=Γ.length->dep b<=9->VT M R S (.fn x b env) (.f a r)
 |bl {q:Nat} {vs:List Vl}:q<M->ET M R S vs (iU q)->VT M R S (.bl (q:Int) vs) .b
 |ro {vs:List Vl}:ET M R S vs (List.replicate R .n)->VT M R S (.bl 0 vs) .r
inductive ET (M R:Nat)(S:List Kd):List Vl->List Kd->Prop where
 |nil:ET M R S [] []
 |cons {v:Vl} {k:Kd} {vs:List Vl} {ks:List Kd}:VT M R S v k->ET M R S vs ks->ET M R S (v::vs) (k::ks)
end
section
variable {M R:Nat}
@[elab_as_elim] theorem ET.ind {S:List Kd} {C:List Vl->List Kd->Prop} {vs:List Vl} {ts:List Kd} (h:ET M R S vs ts) (n:C [] []) (c:∀{v t vs ts},VT M R S v t->ET M R S vs ts->C vs ts->C (v::vs) (t::ts)):C vs ts:=by
 induction ts generalizing vs with
 |nil=>cases h;exact n
 |cons t ts ih=>cases h with
  |cons r q=>exact c r q<|ih q
theorem ET.more {S S':aP Kd}(e:∀(j:Nat) k,S[j]?=some k->S'[j]?=some k){vs:aP Vl}{ks:aP Kd}(h:ET M R S vs ks):ET M R S' vs ks :=
 ET.rec (motive_1:=λv k _=>VT M R S' v k) (motive_2:=λv k _=>ET M R S' v k) .num (λh1 _ h3 h4 h2=>.fn (h1.more e) h2 h3 h4) (λh1 _=>.bl h1) (λ_=>.ro) .nil (λ_ _=>.cons) h
theorem VT.more {S S':List Kd}(e:∀(j:Nat) k,S[j]?=some k->S'[j]?=some k){v:Vl}{k:Kd}(h:VT M R S v k):VT M R S' v k:=by
 cases ET.more e (.cons h .nil) with
 |cons r _=>exact r
theorem ET.get {S:List Kd}{vs:List Vl}{ts:List Kd}{j:Nat}{t:Kd}(h:ET M R S vs ts)(e:ts[j]?=some t):∃v,vs[j]?=some v/\VT M R S v t:=by
 induction ts generalizing vs j with
 |nil=>simp at e
 |cons u us ih=>cases h with
  |cons r q=>cases j with
   |zero=>cases e;exact⟨_,rfl,r⟩
   |succ j=>exact(ih (j:=j) q e:)
theorem ET.len {S:aP Kd}{vs:aP Vl}{ks:aP Kd}(h:ET M R S vs ks):vs.length=ks.length:=h.ind rfl λ_ _ ih=>congrArg (·+1) ih
theorem ET.app {S:aP Kd}{vs ws:aP Vl}{ks ls:aP Kd}(h:ET M R S vs ks)(k:ET M R S ws ls):ET M R S (vs++ws) (ks++ls):=h.ind k λr _ ih=>.cons r ih
theorem ET.snoc {S:aP Kd}{v:Vl}{k:Kd}{vs:aP Vl}{ks:aP Kd}(h:ET M R S vs ks)(q:VT M R S v k):ET M R S (vs++[v]) (ks++[k]):=h.app (.cons q .nil)
theorem VT.call {S:List Kd}{v:Vl}{a r:Kd}(h:VT M R S v (.f a r)):∃b env Γ,u6 v=some (b,env)/\WT M R S (Γ++[a]) b r/\ET M R S env Γ/\dep b<=9:=by
 cases h with
 |fn h1 h2 h3 h4=>exact⟨_,_,_,rfl,h1,h2,h4⟩
def Jm (M R:Nat)(S:List Kd)(k:Kd)(r:Rs):Prop:=(∀v,r=.val v->VT M R S v k)/\r≠.stuck
theorem pD {S:aP Kd}{k:Kd}{r:Rs}(h1:∀v,r≠.val v)(h2:r≠.stuck):Jm M R S k r:=⟨λv e=>absurd e<|h1 v,h2⟩
theorem Jm.other {S:aP Kd}{k k':Kd}{r:Rs}(h:Jm M R S k r)(h1:∀v,r≠.val v):Jm M R S k' r:=⟨λv e=>absurd e<|h1 v,h.2⟩
theorem Ae {S Γ:List Kd}{f:Tm->Nat->Option (Rs×Nat)}(D:Nat)(hf:∀t k c,WT M R S Γ t k->dep t<=D->∃r c',f t c=some (r,c')/\Jm M R S k r):∀{ts:List Tm} {ks:List Kd} {c:Nat},u0 M R S Γ ts ks->iJ ts<=D->
  ∃o c',evs f ts c=some (o,c')/\(∀vs,o=.inl vs->ET M R S vs ks)/\∀r,o=.inr r->(∀v,r≠.val v)/\r≠.stuck
 |[],ks,c,h,hd=>by cases h;exact⟨_,_,rfl,λvs e=>by cases e;exact .nil,λr e=>by cases e⟩
 |t::ts,ks,c,⟨k,ks',e,h1,h2⟩,hd=>by
  subst e;unfold iJ at hd;obtain⟨r,c1,e1,q1⟩:=hf t k c h1 (by omega);unfold evs;rw[e1];cases r with
  |val v=>
   obtain⟨o,c2,e2,q2,q3⟩:=Ae D hf (c:=c1) h2 (by omega)
   try dsimp only
   rw[e2];cases o with
   |inl vs=>exact⟨_,_,rfl,λws z=>by cases z;exact .cons (q1.1 v rfl)<|q2 vs rfl,λr z=>by cases z⟩
   |inr r=>exact⟨_,_,rfl,λws z=>(by cases z),λr' z=>by cases z;exact q3 r rfl⟩
  |long=>exact⟨_,_,rfl,λws z=>(by cases z),λr' z=>by cases z;exact⟨λv z=>(by cases z),λz=>(by cases z)⟩⟩
  |deep=>exact⟨_,_,rfl,λws z=>(by cases z),λr' z=>by cases z;exact⟨λv z=>(by cases z),λz=>(by cases z)⟩⟩
  |great=>exact⟨_,_,rfl,λws z=>(by cases z),λr' z=>by cases z;exact⟨λv z=>(by cases z),λz=>(by cases z)⟩⟩
  |stuck=>exact absurd rfl q1.2
theorem fP {most:Int}{S:List Vl}{SK:List Kd}(hS:ET M R SK S SK):∀(m d:Nat) (t:Tm) (Γ:List Kd) (k:Kd) (env:List Vl) (c:Nat),WT M R SK Γ t k->ET M R SK env Γ->dep t<=10->d<=10->10*(10-d)+dep t+1<=m->
  ∃r c',ev most S m d t env c=some (r,c')/\Jm M R SK k r
 |0,d,t,Γ,k,env,c,h,he,hd,h10,hm=>by omega
 |m+1,d, .n i,Γ,k,env,c,h,he,hd,h10,hm=>⟨_,_,rfl,λv e=>by cases e;obtain⟨rfl,h2⟩:=h;exact .num h2,λz=>by cases z⟩
 |m+1,d, .v x,Γ,k,env,c,h,he,hd,h10,hm=>by
  obtain⟨v,e,q⟩:=he.get h;exact⟨.val v,c,by unfold ev;rw[e];rfl,λw z=>by cases z;exact q,λz=>by cases z⟩
 |m+1,d, .g j,Γ,k,env,c,h,he,hd,h10,hm=>by
  obtain⟨v,e,q⟩:=hS.get h;exact⟨.val v,c,by unfold ev;rw[e];rfl,λw z=>by cases z;exact q,λz=>by cases z⟩
 |m+1,d, .fn x b,Γ,k,env,c,h,he,hd,h10,hm=>by
  obtain⟨hx,a,r,rfl,hb⟩:=h;simp only[dep]at hd;exact⟨_,_,rfl,λw z=>by cases z;exact .fn hb he hx (by exact agw hd),λz=>by cases z⟩
 |m+1,d, .lt x t b,Γ,k,env,c,h,he,hd,h10,hm=>by
  obtain⟨hx,k',h1,h2⟩:=h;simp only[dep]at hd hm;obtain⟨r,c1,e1,q1⟩:=fP hS m d t Γ k' env c h1 he (by omega) h10 (by omega);unfold ev;rw[e1];cases r with
  |val v=>exact fP hS m d b (Γ++[k']) k (env++[v]) c1 h2 (he.snoc<|q1.1 v rfl) (by omega) h10 (by omega)
  |stuck=>exact absurd rfl q1.2
  |_=>exact⟨_,_,rfl,q1.other λv z=>by cases z⟩
 |m+1,d, .rK t a b,Γ,k,env,c,h,he,hd,h10,hm=>by
  obtain⟨h0,h1,h2⟩:=h;simp only[dep]at hd hm;obtain⟨r,c1,e1,q1⟩:=fP hS m d t Γ .n env c h0 he (by omega) h10 (by omega);unfold ev;rw[e1];cases r with
  |val v=>
   cases q1.1 v rfl with
   |@num i hi=>
    try dsimp only
    by_cases z:i=0
    ·rw[ahK z];exact fP hS m d b Γ k env c1 h2 he (by omega) h10 (by omega)
    ·rw[ahL z];exact fP hS m d a Γ k env c1 h1 he (by omega) h10 (by omega)
  |stuck=>exact absurd rfl q1.2
  |_=>exact⟨_,_,rfl,q1.other λv z=>by cases z⟩
 |m+1,d, .op j a b,Γ,k,env,c,h,he,hd,h10,hm=>by
  obtain⟨rfl,hj,h1,h2⟩:=h;simp only[dep]at hd hm;obtain⟨r,c1,e1,q1⟩:=fP hS m d a Γ .n env c h1 he (by omega) h10 (by omega);unfold ev;rw[e1];cases r with
  |val v=>
   obtain⟨r2,c2,e2,q2⟩:=fP hS m d b Γ .n env c1 h2 he (by omega) h10 (by omega)
   try dsimp only
   rw[e2];cases r2 with
   |val w=>
    cases q1.1 v rfl with
    |@num i hi=>cases q2.1 w rfl with
     |@num i2 hi2=>
      by_cases hz:gG (rk j i i2)=true
      ·exact⟨_,_,rfl,by rw[ahK hz];exact⟨λv z=>by cases z;exact .num hz,λz=>by cases z⟩⟩
      ·exact⟨_,_,rfl,by rw[ahL hz];exact pD (λv z=>by cases z) λz=>by cases z⟩
   |stuck=>exact absurd rfl q2.2
   |_=>exact⟨_,_,rfl,q2.other λv z=>by cases z⟩
  |stuck=>exact absurd rfl q1.2
  |_=>exact⟨_,_,rfl,q1.other λv z=>by cases z⟩
 |m+1,d, .call a b,Γ,k,env,c,h,he,hd,h10,hm=>by
  obtain⟨k',h1,h2⟩:=h;simp only[dep]at hd hm;obtain⟨r,c1,e1,q1⟩:=fP hS m d a Γ (.f k' k) env c h1 he (by omega) h10 (by omega);unfold ev;rw[e1];cases r with
  |val v=>
   obtain⟨r2,c2,e2,q2⟩:=fP hS m d b Γ k' env c1 h2 he (by omega) h10 (by omega)
   try dsimp only
   rw[e2];cases r2 with
   |val w=>
    obtain⟨body,jH,Γ',ec,hb,henv,hdb⟩:=(q1.1 v rfl).call
    try dsimp only
    rw[ec]
    try dsimp only
    by_cases z1:most<(c2:Int)+1
    ·rw[ahK z1];exact⟨_,_,rfl,pD (λv z=>by cases z) λz=>by cases z⟩
    ·rw[ahL z1]
     by_cases z2:10<d+1
     ·rw[ahK z2];exact⟨_,_,rfl,pD (λv z=>by cases z) λz=>by cases z⟩
     ·rw[ahL z2]
      exact fP hS m (d+1) body (Γ'++[k']) k (jH++[w]) (c2+1) hb (henv.snoc<|q2.1 w rfl) (by exact aga hdb) (by exact Nat.not_lt.mp z2) (by omega)
   |stuck=>exact absurd rfl q2.2
   |_=>exact⟨_,_,rfl,q2.other λv z=>by cases z⟩
  |stuck=>exact absurd rfl q1.2
  |_=>exact⟨_,_,rfl,q1.other λv z=>by cases z⟩
 |m+1,d, .block i ts,Γ,k,env,c,h,he,hd,h10,hm=>by
  obtain⟨l5,h⟩:=h;simp only[dep]at hd hm;have go:∀ks,u0 M R SK Γ ts ks->(∀vs,ET M R SK vs ks->VT M R SK (.bl i vs) k)->∃r c',ev most S (m+1) d (.block i ts) env c=some (r,c')/\Jm M R SK k r:=λks hl hv=>by
   obtain⟨o,c1,e1,q1,q2⟩:=Ae (f:=λt c=>ev most S m d t env c) (iJ ts) (λt k c ht hdt=>fP hS m d t Γ k env c ht he (by omega) h10<|by omega) (c:=c) hl (afv _);unfold ev;rw[e1];cases o with
   |inl vs=>exact⟨_,_,rfl,λv z=>by cases z;exact hv vs<|q1 vs rfl,λz=>by cases z⟩
   |inr r=>exact⟨_,_,rfl,pD (q2 r rfl).1 (q2 r rfl).2⟩
  rcases h with ⟨rfl,q,rfl,hq,hl⟩|⟨rfl,rfl,hl⟩
  ·exact go _ hl λvs hv=>.bl hq hv
  ·exact go _ hl λvs hv=>.ro hv
 |m+1,d, .field j t,Γ,k,env,c,h,he,hd,h10,hm=>by
  obtain⟨rfl,hj,h1⟩:=h;simp only[dep]at hd hm;obtain⟨r,c1,e1,q1⟩:=fP hS m d t Γ .r env c h1 he (by exact afT hd) h10 (by exact agw hm);unfold ev;rw[e1];cases r with
  |val v=>
   cases q1.1 v rfl with
   |@ro vs hv=>
    obtain⟨w,e2,q⟩:=hv.get (j:=j) (t:=.n) (by rw[ag2,ahK hj])
    try dsimp only
    rw[e2];exact⟨_,_,rfl,λu z=>by cases z;exact q,λz=>by cases z⟩
  |stuck=>exact absurd rfl q1.2
  |_=>exact⟨_,_,rfl,q1.other λv z=>by cases z⟩
 |m+1,d, .case x t ms bs,Γ,k,env,c,h,he,hd,h10,hm=>by
  obtain⟨hx,hl,h6,hms,h1,h2⟩:=h;simp only[dep]at hd hm;obtain⟨r,c1,e1,q1⟩:=fP hS m d t Γ .b env c h1 he (by omega) h10 (by omega);unfold ev;rw[e1];cases r with
  |val v=>
   cases q1.1 v rfl with
   |@bl q vs hq hv=>
    have lq:q<bs.length:=by exact afR hq hl.symm
    try dsimp only
    rw[ahK ⟨by omega,by omega⟩,show((q:Int).toNat)=q from rfl,afw lq]
    try dsimp only
    have dq:=pB (afw lq);have wq:=abq h2 (afw lq);rw[ag1]at wq;rw[ahK (by rw[hms,afJ,agC (by exact hq),hv.len];rfl)];exact fP hS m d _ (Γ++iU q) k (env++vs) c1 wq (he.app hv) (by omega) h10 (by omega)
  |stuck=>exact absurd rfl q1.2
  |_=>exact⟨_,_,rfl,q1.other λv z=>by cases z⟩
end
noncomputable def nY (x:Nat):List Nat->Option Nat
 |[]=>none
 |y::ys=>if x=y then some 0 else(nY x ys).map (·+1)
noncomputable def nZ (own:List Nat):List Nat->Option (List Nat)
 |[]=>some []
 |y::ys=>match nY y own,nZ own ys with
  |some i,some is=>some (i::is)
  |_,_=>none
noncomputable def nms (x k:Nat):List Nat:=(List.range k).map (x+·)
theorem jh {x k:Nat}:(nms x k).length=k:=by simp[nms]
mutual
def At (aW:List Rw):Tm->List Nat->Nat->Nat->Prop
 |.n i,_,p,q=>gG i=true/\aW[p]?=some (.num i)/\q=p+1
 |.v x,own,p,q=>∃j,nY x own=some j/\aW[p]?=some (.loc j)/\q=p+1
 |.g j,_,p,q=>aW[p]?=some (.glob j)/\q=p+1
 |.lt x t b,own,p,q=>∃p1 p2,At aW t own p p1/\aW[p1]?=some .keep/\At aW b (own++[x]) (p1+1) p2/\aW[p2]?=some (.drop 1)/\q=p2+1
 |.rK c a b,own,p,q=>∃p1 p2,At aW c own p p1/\aW[p1]?=some (.CK<|p2+1)/\At aW a own (p1+1) p2/\aW[p2]?=some (.jump q)/\At aW b own (p2+1) q
 |.fn x b,own,p,q=>∃to js names e,nZ own names=some js/\names.length=own.length/\aW[p]?=some (.close to js)/\q=p+1/\At aW b (names++[x]) to e/\aW[e]?=some .back
 |.op k a b,own,p,q=>∃p1 p2,k<=3/\At aW a own p p1/\At aW b own p1 p2/\aW[p2]?=some (.nW k)/\q=p2+1
 |.call a b,own,p,q=>∃p1 p2,At aW a own p p1/\At aW b own p1 p2/\aW[p2]?=some .call/\q=p2+1
 |.block k ts,own,p,q=>∃p1,AtS aW ts own p p1/\aW[p1]?=some (.block k ts.length)/\ts.length<=5/\q=p1+1
 |.field j t,own,p,q=>∃p1,At aW t own p p1/\aW[p1]?=some (.field j)/\q=p1+1
 |.case x t ms bs,own,p,q=>∃p1 fs,At aW t own p p1/\aW[p1]?=some (.case fs)/\fs.length=bs.length/\AtA aW bs ms x own q (p1+1) fs
def AtS (aW:List Rw):List Tm->List Nat->Nat->Nat->Prop
 |[],_,p,q=>q=p
 |t::ts,own,p,q=>∃p1,At aW t own p p1/\AtS aW ts own p1 q
def AtA (aW:List Rw):List Tm->List Nat->Nat->List Nat->Nat->Nat->List Nat->Prop
 |[],_,_,_,_,_,_=>True
 |b::bs,ms,x,own,q,p,fs=>∃m CV fs' p1,ms=m::CV/\fs=p::fs'/\m<=5/\At aW b (own++nms x m) p p1/\aW[p1]?=some (.drop m)/\aW[p1+1]?=some (.jump q)/\AtA aW bs CV x own q (p1+2) fs'
end
theorem abr {aW:List Rw}{x q:Nat}{own:List Nat}{bs:List Tm}{ms fs:List Nat}{p i:Nat}{b:Tm}(a:AtA aW bs ms x own q p fs)(h:bs[i]?=some b):∃m f p1,ms[i]?=some m/\fs[i]?=some f/\m<=5/\At aW b (own++nms x m) f p1/\aW[p1]?=some (.drop m)/\aW[p1+1]?=some (.jump q):=by
 induction bs generalizing ms fs p i with
 |nil=>simp at h
 |cons t ts ih=>
  obtain⟨m,CV,fs',p1,rfl,rfl,h2,h3,h4,h5,h6⟩:=a;cases i with
  |zero=>cases h;exact⟨m,p,p1,rfl,rfl,h2,h3,h4,h5⟩
  |succ i=>exact(ih (i:=i) h6 h:)
mutual
noncomputable def WB:Nat->Tm->Prop
 |_, .n _=>True
 |_, .v _=>True
 |_, .g _=>True
 |m, .lt x t b=>x=m/\WB m t/\WB (m+1) b
 |m, .rK c a b=>WB m c/\WB m a/\WB m b
 |m, .fn x b=>x=m/\WB (m+1) b
 |m, .op _ a b=>WB m a/\WB m b
 |m, .call a b=>WB m a/\WB m b
 |m, .block _ ts=>WBL m ts
 |m, .field _ t=>WB m t
 |m, .case x t ms bs=>x=m/\WB m t/\WBA m bs ms
noncomputable def WBL:Nat->List Tm->Prop
 |_,[]=>True
 |m,t::ts=>WB m t/\WBL m ts
noncomputable def WBA:Nat->List Tm->List Nat->Prop
 |_,[],_=>True
 |m,t::ts,ms=>∃k CV,ms=k::CV/\WB (m+k) t/\WBA m ts CV
end
theorem abt {m:Nat}{bs:List Tm}{ms:List Nat}{i k:Nat}{b:Tm}(a:WBA m bs ms)(h:bs[i]?=some b)(g:ms[i]?=some k):WB (m+k) b:=by
 induction bs generalizing ms i with
 |nil=>simp at h
 |cons t ts ih=>
  obtain⟨k',CV,rfl,w,w2⟩:=a;cases i with
  |zero=>cases h;cases g;exact w
  |succ i=>exact ih (i:=i) w2 h g
mutual
inductive VR (aW:List Rw):Vl->Wv->Prop where
 |num {i:Int}:gG i=true->VR aW (.num i) (.num i)
 |fn {x:Nat} {b:Tm} {env:List Vl} {to e:Nat} {kept:List Wv} {names:List Nat}:ER aW env names kept->x=env.length->At aW b (names++[x]) to e->aW[e]?=some .back->names.length+1+6*dep b<=150->dep b<=9->WB (x+1) b->VR aW (.fn x b env) (.fn to kept)
 |bl {k:Int} {vs:List Vl} {ws:List Wv}:Ox aW vs ws->VR aW (.bl k vs) (.bl k ws)
inductive Ox (aW:List Rw):List Vl->List Wv->Prop where
 |nil:Ox aW [] []
 |cons {v:Vl} {w:Wv} {vs:List Vl} {ws:List Wv}:VR aW v w->Ox aW vs ws->Ox aW (v::vs) (w::ws)
inductive ER (aW:List Rw):List Vl->List Nat->List Wv->Prop where
 |nil {env:List Vl}:ER aW env [] []
 |cons {env:List Vl} {y:Nat} {w:Vl} {v:Wv} {own:List Nat} {vs:List Wv}:env[y]?=some w->VR aW w v->ER aW env own vs->ER aW env (y::own) (v::vs)
end
section
variable {aW:List Rw}
@[elab_as_elim] theorem ER.ind {env:List Vl} {C:List Nat->List Wv->Prop} {own:List Nat} {vs:List Wv} (h:ER aW env own vs) (n:C [] []) (c:∀{y w v own vs},env[y]?=some w->VR aW w v->ER aW env own vs->C own vs->C (y::own) (v::vs)):C own vs:=by
 induction own generalizing vs with
 |nil=>cases h;exact n
 |cons y own ih=>cases h with
  |cons e r q=>exact c e r q<|ih q
theorem ER.len {env:aP Vl}{own:aP Nat}{vs:aP Wv}(h:ER aW env own vs):vs.length=own.length:=h.ind rfl λ_ _ _ ih=>congrArg (·+1) ih
theorem ER.snoc {env:aP Vl}{w:Vl}{v:Wv}(h:VR aW w v){own:aP Nat}{vs:aP Wv}(q:ER aW env own vs):ER aW (env++[w]) (own++[env.length]) (vs++[v]):=q.ind (.cons (by simp) h .nil) λe r _ ih=>.cons (by rw[afC (ahW e).1];exact e) r ih
theorem ER.get {env:List Vl}{own:List Nat}{vs:List Wv}{x j:Nat}(q:ER aW env own vs)(h:nY x own=some j):∃w v,env[x]?=some w/\vs[j]?=some v/\VR aW w v:=by
 induction own generalizing vs j with
 |nil=>cases h
 |cons y own ih=>cases q with
  |cons e r q=>
   unfold nY at h;by_cases c:x=y
   ·rw[ahK c]at h
    cases h;subst c;exact⟨_,_,e,rfl,r⟩
   ·rw[ahL c]at h
    cases hj:nY x own with
    |none=>rw[hj]at h;cases h
    |some k=>
     rw[hj]at h;cases h;exact(ih q hj:)
theorem ER.pick {env:List Vl}{own:List Nat}{vs:List Wv}(r:ER aW env own vs){names js:List Nat}(h:nZ own names=some js):js.length=names.length/\∃kept,picked vs js=some kept/\ER aW env names kept:=by
 induction names generalizing js with
 |nil=>cases h;exact⟨rfl,[],rfl, .nil⟩
 |cons y ys ih=>
  unfold nZ at h;split at h
  ·rename_i i is e1 e2
   cases h;obtain⟨l,kept,h1,h2⟩:=ih e2;obtain⟨w,v,g1,g2,g3⟩:=r.get e1;exact⟨congrArg (·+1) l,v::kept,by unfold picked;rw[g2,h1], .cons g1 g3 h2⟩
  ·cases h
theorem ER.more {env ws:aP Vl}{own:aP Nat}{vs:aP Wv}(h:ER aW env own vs):ER aW (env++ws) own vs:=h.ind .nil λe r _ ih=>.cons (by rw[afC (ahW e).1];exact e) r ih
theorem ER.app {env:aP Vl}{own on:aP Nat}{vs vn:aP Wv}(h:ER aW env own vs)(k:ER aW env on vn):ER aW env (own++on) (vs++vn):=h.ind k λe r _ ih=>.cons e r ih
theorem ER.of {env:List Vl}{own:List Nat}{vs:List Wv}(h:own.length=vs.length)(g:∀(j:Nat) y v,own[j]?=some y->vs[j]?=some v->∃w,env[y]?=some w/\VR aW w v):ER aW env own vs:=by
 induction own generalizing vs with
 |nil=>cases vs with
  |nil=>exact .nil
  |cons=>cases h
 |cons y ys ih=>cases vs with
  |nil=>cases h
  |cons v vs=>
   obtain⟨w,e,r⟩:=g 0 y v rfl rfl;exact .cons e r<|ih (Nat.succ.inj h) λj=>g (j+1)
@[elab_as_elim] theorem Ox.ind {C:List Vl->List Wv->Prop} {vs:List Vl} {ts:List Wv} (h:Ox aW vs ts) (n:C [] []) (c:∀{v t vs ts},VR aW v t->Ox aW vs ts->C vs ts->C (v::vs) (t::ts)):C vs ts:=by
 induction ts generalizing vs with
 |nil=>cases h;exact n
 |cons t ts ih=>cases h with
  |cons r q=>exact c r q<|ih q
theorem Ox.len {vs:aP Vl}{ws:aP Wv}(h:Ox aW vs ws):vs.length=ws.length:=h.ind rfl λ_ _ ih=>congrArg (·+1) ih
theorem Ox.get {vs:List Vl}{ws:List Wv}{j:Nat}{v:Vl}(h:Ox aW vs ws)(e:vs[j]?=some v):∃w,ws[j]?=some w/\VR aW v w:=by
 induction vs generalizing ws j with
 |nil=>simp at e
 |cons u us ih=>cases h with
  |cons r q=>cases j with
   |zero=>cases e;exact⟨_,rfl,r⟩
   |succ j=>exact(ih (j:=j) q e:)
theorem ER.vals {env:aP Vl}{own:aP Nat}{vs:aP Wv}{us:aP Vl}{ws:aP Wv}(h:ER aW env own vs)(r:Ox aW us ws):ER aW (env++us) (own++nms env.length us.length) (vs++ws):=by
 refine h.more.app (ER.of (by rw[jh,r.len]) λj y v e1 e2=>?_);have lj:j<us.length:=by have:=(ahW e1).1;rwa [jh]at this
 have ey:y=env.length+j:=by
  unfold nms at e1;rw[afJ,agC lj]at e1;cases e1;rfl
 subst ey;obtain⟨w,e3,r3⟩:=r.get (afw lj);rw[e2]at e3;cases e3;exact⟨us[j],by rw[afS (by exact afF _ _),agz];exact afw lj,r3⟩
theorem VR.call {v:Vl}{u:Wv}{body:Tm}{jH:List Vl}(h:VR aW v u)(c:u6 v=some (body,jH)):∃to kept names y e,tK u=some (to,kept)/\ER aW jH names kept/\y=jH.length/\At aW body (names++[y]) to e/\aW[e]?=some .back/\names.length+1+6*dep body<=150/\dep body<=9/\WB (y+1) body:=by
 cases h with
 |num hi=>cases c
 |fn h1 h2 h3 h4 h5 h6 h7=>cases c;exact⟨_,_,_,_,_,rfl,h1,h2,h3,h4,h5,h6,h7⟩
 |bl h1=>cases c
theorem VR.abu {v:Vl}{u:Wv}(h:VR aW v u)(c:u6 v=none):tK u=none:=by
 cases h with
 |num hi=>rfl
 |fn=>cases c
 |bl h1=>rfl
def vN (most:Int)(aW:List Rw)(A A':AS):Prop:=∃k,∀m,xV most aW (m+k) A=xV most aW m A'
def Ends (most:Int)(aW:List Rw)(A:AS)(o:Out):Prop:=∃k,∀m,xV most aW (m+k) A=some o
variable {most:Int}
theorem vN.trans {A B C:AS}(a:vN most aW A B)(b:vN most aW B C):vN most aW A C:=by
 obtain⟨k,h⟩:=a;obtain⟨l,g⟩:=b;exact⟨l+k,λm=>by rw[<-af2,h,g]⟩
theorem vN.ends {A B:AS}{o:Out}(a:vN most aW A B)(b:Ends most aW B o):Ends most aW A o:=by
 obtain⟨k,h⟩:=a;obtain⟨l,g⟩:=b;exact⟨l+k,λm=>by rw[<-af2,h,g]⟩
theorem fY {A A':AS}{row:Rw}(h:aW[A.pc]?=some row)(s:fJ most row {A with pc:=A.pc+1}=some (.inl A')):vN most aW A A':=⟨1,λm=>by
 rw[xV,h]
 try dsimp only
 rw[s]⟩
theorem je {A:AS}{row:Rw}{o:Out}(h:aW[A.pc]?=some row)(s:fJ most row {A with pc:=A.pc+1}=some (.inr o)):Ends most aW A o:=⟨1,λm=>by
 rw[xV,h]
 try dsimp only
 rw[s]⟩
structure Bd (A:AS):Prop where
 p:A.pile.length<=490
 o:A.own.length<=400
 s:A.vL.length<=400
 u:A.outer.length<=400
theorem Bd.all {A:AS}(b:Bd A):A.pile.length<=490/\A.own.length<=400/\A.vL.length<=400/\A.outer.length<=400:=⟨b.p,b.o,b.s,b.u⟩
theorem abv {A:AS}{i:Int}(b:Bd A)(h:aW[A.pc]?=some (.num i)):vN most aW A {A with pile:=.num i::A.pile,pc:=A.pc+1}:=fY h (by unfold fJ;exact ahK b.all)
theorem abw {A:AS}{j:Nat}{v:Wv}(b:Bd A)(h:aW[A.pc]?=some (.loc j))(e:A.own[j]?=some v):vN most aW A {A with pile:=v::A.pile,pc:=A.pc+1}:=fY h (by
 unfold fJ;rw[ahK b.all];dsimp only;rw[e];rfl)
theorem WK {A:AS}{j:Nat}{v:Wv}(b:Bd A)(h:aW[A.pc]?=some (.glob j))(e:A.vL[j]?=some v):vN most aW A {A with pile:=v::A.pile,pc:=A.pc+1}:=fY h (by
 unfold fJ;rw[ahK b.all];dsimp only;rw[e];rfl)
theorem do_keep {A:AS}{v:Wv}{p:aP Wv}(b:Bd A)(h:aW[A.pc]?=some .keep)(e:A.pile=v::p):vN most aW A {A with pile:=p,own:=A.own++[v],pc:=A.pc+1}:=fY h (by
 unfold fJ;rw[ahK b.all];dsimp only;rw[e])
theorem do_drop {A:AS}{o u:aP Wv}{n:Nat}(b:Bd A)(h:aW[A.pc]?=some (.drop n))(e:A.own=o++u)(l:u.length=n):vN most aW A {A with own:=o,pc:=A.pc+1}:=fY h (by
 unfold fJ;rw[ahK b.all];dsimp only;rw[ahK (by rw[e,afu];omega)];rw[show A.own.take (A.own.length-n)=o by rw[e,afu,<-l,Nat.add_sub_cancel,List.take_left' rfl]])
theorem abx {A:AS}{i:Int}{p:aP Wv}{t:Nat}(b:Bd A)(h:aW[A.pc]?=some (.CK t))(e:A.pile=.num i::p):vN most aW A (if i=0 then{A with pile:=p,pc:=t} else{A with pile:=p,pc:=A.pc+1}):=fY h (by
 unfold fJ;rw[ahK b.all];dsimp only;rw[e])
theorem do_jump {A:AS}{t:Nat}(b:Bd A)(h:aW[A.pc]?=some (.jump t)):vN most aW A {A with pc:=t}:=fY h (by unfold fJ;exact ahK b.all)
theorem do_close {A:AS}{to:Nat}{js:aP Nat}{kept:aP Wv}(b:Bd A)(h:aW[A.pc]?=some (.close to js))(l:js.length<=400)(e:picked A.own js=some kept):vN most aW A {A with pile:=.fn to kept::A.pile,pc:=A.pc+1}:=fY h (by
 unfold fJ;rw[ahK b.all];dsimp only;rw[ahK l,e];rfl)
theorem WL {A:AS}{k:Nat}{i j:Int}{p:aP Wv}(b:Bd A)(h:aW[A.pc]?=some (.nW k))(hk:k<=3)(hi:gG i=true)(hj:gG j=true)(e:A.pile=.num j::.num i::p)(z:gG (rk k i j)=true):vN most aW A {A with pile:=.num (rk k i j)::p,pc:=A.pc+1}:=fY h (by
 unfold fJ;rw[ahK b.all];dsimp only;rw[e];dsimp only;rw[ahK ⟨hk,hi,hj⟩,ahK z])
theorem Sx {A:AS}{k:Nat}{i j:Int}{p:aP Wv}(b:Bd A)(h:aW[A.pc]?=some (.nW k))(hk:k<=3)(hi:gG i=true)(hj:gG j=true)(e:A.pile=.num j::.num i::p)(z:¬gG (rk k i j)=true):Ends most aW A .great:=je h (by
 unfold fJ;rw[ahK b.all];dsimp only;rw[e];dsimp only;rw[ahK ⟨hk,hi,hj⟩,ahL z])
theorem do_call {A:AS}{v u:Wv}{to:Nat}{kept p:aP Wv}(b:Bd A)(h:aW[A.pc]?=some .call)(l:kept.length<=400)(e:A.pile=v::u::p)(k:tK u=some (to,kept))(z1:¬most<(A.begun:Int)+1)(z2:¬10<A.outer.length+1):
  vN most aW A {A with pile:=p,own:=kept++[v],be:=A.pc+1,outer:=(A.own,A.be)::A.outer,pc:=to,begun:=A.begun+1}:=fY h (by
 unfold fJ;rw[ahK b.all];dsimp only;rw[e];dsimp only;rw[k];dsimp only;rw[ahK l,ahL z1,ahL z2])
theorem WM {A:AS}{v u:Wv}{to:Nat}{kept p:aP Wv}(b:Bd A)(h:aW[A.pc]?=some .call)(l:kept.length<=400)(e:A.pile=v::u::p)(k:tK u=some (to,kept))(z1:most<(A.begun:Int)+1):Ends most aW A .long:=je h (by
 unfold fJ;rw[ahK b.all];dsimp only;rw[e];dsimp only;rw[k];dsimp only;rw[ahK l,ahK z1])
theorem WQ {A:AS}{v u:Wv}{to:Nat}{kept p:aP Wv}(b:Bd A)(h:aW[A.pc]?=some .call)(l:kept.length<=400)(e:A.pile=v::u::p)(k:tK u=some (to,kept))(z1:¬most<(A.begun:Int)+1)(z2:10<A.outer.length+1):Ends most aW A .deep:=je h (by
 unfold fJ;rw[ahK b.all];dsimp only;rw[e];dsimp only;rw[k];dsimp only;rw[ahK l,ahL z1,ahK z2])
theorem do_back {A:AS}{o:aP Wv}{be:Nat}{fs:aP (aP Wv×Nat)}(b:Bd A)(h:aW[A.pc]?=some .back)(e:A.outer=(o,be)::fs):vN most aW A {A with own:=o,be:=be,outer:=fs,pc:=A.be}:=fY h (by
 unfold fJ;rw[ahK b.all];dsimp only;rw[e])
theorem aby {A:AS}{i:Int}{p:aP Wv}(b:Bd A)(h:aW[A.pc]?=some .back)(e:A.outer=[])(e2:A.pile=.num i::p):Ends most aW A (.num i):=je h (by
 unfold fJ;rw[ahK b.all];dsimp only;rw[e];dsimp only;rw[e2])
theorem do_block {A:AS}{k:Int}{n:Nat}{ws p:aP Wv}(b:Bd A)(h:aW[A.pc]?=some (.block k n))(e:A.pile=ws.reverse++p)(l:ws.length=n)(l4:n<=100):vN most aW A {A with pile:=.bl k ws::p,pc:=A.pc+1}:=fY h (by
 unfold fJ;rw[ahK b.all];dsimp only;rw[ahK ⟨by rw[e,afu,agf];omega,l4⟩,e,List.take_left' (by rw[agf];exact l),List.drop_left' (by rw[agf];exact l),agL])
theorem do_field {A:AS}{j:Nat}{k:Int}{vs p:aP Wv}{v:Wv}(b:Bd A)(h:aW[A.pc]?=some (.field j))(e:A.pile=.bl k vs::p)(g:vs[j]?=some v):vN most aW A {A with pile:=v::p,pc:=A.pc+1}:=fY h (by
 unfold fJ;rw[ahK b.all];dsimp only;rw[e];dsimp only;rw[g];rfl)
theorem do_case {A:AS}{fs:aP Nat}{k:Int}{vs p:aP Wv}{t:Nat}(b:Bd A)(h:aW[A.pc]?=some (.case fs))(e:A.pile=.bl k vs::p)(l:vs.length<=400)(z:0<=k/\k<(fs.length:Int))(g:fs[k.toNat]?=some t):vN most aW A {A with pile:=p,own:=A.own++vs,pc:=t}:=fY h (by
 unfold fJ;rw[ahK b.all];dsimp only;rw[e];dsimp only;rw[ahK z,ahK l,g];rfl)
def ada:Wv->Prop
 |.bl _ _=>False
 |_=>True
def Lg:Wv->Prop
 |.num _=>False
 |_=>True
theorem Gh {A:AS}{j:Nat}{u:Wv}{p:List Wv}(b:Bd A)(h:aW[A.pc]?=some (.field j))(e:A.pile=u::p)(n:ada u):Ends most aW A .stuck:=je h (by
 unfold fJ;rw[ahK b.all];dsimp only;rw[e];cases u with
 |bl k vs=>exact n.elim
 |num i=>rfl
 |fn to kept=>rfl)
theorem Lh {A:AS}{fs:List Nat}{u:Wv}{p:List Wv}(b:Bd A)(h:aW[A.pc]?=some (.case fs))(e:A.pile=u::p)(n:ada u):Ends most aW A .stuck:=je h (by
 unfold fJ;rw[ahK b.all];dsimp only;rw[e];cases u with
 |bl k vs=>exact n.elim
 |num i=>rfl
 |fn to kept=>rfl)
theorem abz {A:AS}{fs:aP Nat}{k:Int}{vs p:aP Wv}(b:Bd A)(h:aW[A.pc]?=some (.case fs))(e:A.pile=.bl k vs::p)(z:¬(0<=k/\k<(fs.length:Int))):Ends most aW A .stuck:=je h (by
 unfold fJ;rw[ahK b.all];dsimp only;rw[e];dsimp only;rw[ahL z])
theorem Sy {A:AS}{t:Nat}{u:Wv}{p:List Wv}(b:Bd A)(h:aW[A.pc]?=some (.CK t))(e:A.pile=u::p)(n:Lg u):Ends most aW A .stuck:=je h (by
 unfold fJ;rw[ahK b.all];dsimp only;rw[e];cases u with
 |num i=>exact n.elim
 |bl k vs=>rfl
 |fn to kept=>rfl)
theorem WR {A:AS}{v u:Wv}{p:aP Wv}(b:Bd A)(h:aW[A.pc]?=some .call)(e:A.pile=v::u::p)(k:tK u=none):Ends most aW A .stuck:=je h (by
 unfold fJ;rw[ahK b.all];dsimp only;rw[e];dsimp only;rw[k])
theorem wz {A:AS}{k:Nat}{v u:Wv}{p:List Wv}(b:Bd A)(h:aW[A.pc]?=some (.nW k))(hk:k<=3)(e:A.pile=v::u::p)(n:Lg v\/Lg u):Ends most aW A .stuck:=je h (by
 unfold fJ;rw[ahK b.all];dsimp only;rw[e];cases v with
 |num i=>cases u with
  |num j=>exact n.elim (λz=>z.elim) λz=>z.elim
  |bl k vs=>exact ahK hk
  |fn to kept=>exact ahK hk
 |bl k vs=>exact ahK hk
 |fn to kept=>exact ahK hk)
theorem SJ {A:AS}{u:Wv}{p:List Wv}(b:Bd A)(h:aW[A.pc]?=some .back)(e:A.outer=[])(e2:A.pile=u::p)(n:Lg u):Ends most aW A .stuck:=je h (by
 unfold fJ;rw[ahK b.all];dsimp only;rw[e];dsimp only;rw[e2];cases u with
 |num i=>exact n.elim
 |bl k vs=>rfl
 |fn to kept=>rfl)
theorem do_store {A:AS}{v:Wv}{p:aP Wv}(b:Bd A)(h:aW[A.pc]?=some .store)(e:A.pile=v::p):vN most aW A {A with pile:=p,vL:=A.vL++[v],pc:=A.pc+1}:=fY h (by
 unfold fJ;rw[ahK b.all];dsimp only;rw[e])
end
noncomputable def SM:Rs->Option Out
 |.val _=>none
 |.long=>some .long
 |.deep=>some .deep
 |.great=>some .great
 |.stuck=>some .stuck
structure Pre (aW:List Rw)(S:List Vl)(d n:Nat)(env:List Vl)(own:List Nat)(A:AS):Prop where
 er:ER aW env own A.own
 sr:∀(j:Nat) w,S[j]?=some w->∃v,A.vL[j]?=some v/\VR aW w v
 ou:A.outer.length=d
 SN:d<=10
 pl:A.pile.length+4*n+40*(10-d)<=480
 ow:own.length+6*n<=150
 st:A.vL.length<=100
section
variable {most:Int}{aW:List Rw}{S:List Vl}{d n:Nat}{env:List Vl}{own:List Nat}{A:AS}
theorem Pre.bd (h:Pre aW S d n env own A):Bd A:=⟨by have:=h.pl;omega,by have:=h.er.len;have:=h.ow;omega,by have:=h.st;exact afy this (by decide),by have:=h.ou;have:=h.SN;omega⟩
theorem Pre.less {n':Nat}(h:Pre aW S d n env own A)(e:n'<=n):Pre aW S d n' env own A:=⟨h.er,h.sr,h.ou,h.SN,by have:=h.pl;omega,by have:=h.ow;omega,h.st⟩
theorem Pre.push {n' c pc:Nat}{v:Wv}(h:Pre aW S d n env own A)(e:n'+1<=n):Pre aW S d n' env own {A with pile:=v::A.pile,pc:=pc,begun:=c}:=⟨h.er,h.sr,h.ou,h.SN,by have:=h.pl;show A.pile.length+1+4*n'+_<=480;omega,by have:=h.ow;omega,h.st⟩
def Post (most:Int)(aW:List Rw)(A:AS)(q:Nat)(r:Rs)(c':Nat):Prop :=
 (∀v,r=.val v->∃v',VR aW v v'/\vN most aW A {A with pile:=v'::A.pile,pc:=q,begun:=c'})/\∀o,SM r=some o->Ends most aW A o
theorem Post.val {q:Nat}{v:Vl}{c':Nat}{v':Wv}(h:VR aW v v')(g:vN most aW A {A with pile:=v'::A.pile,pc:=q,begun:=c'}):Post most aW A q (.val v) c':=⟨λw e=>by cases e;exact⟨v',h,g⟩,λo e=>by cases e⟩
theorem Post.out {q:Nat}{r:Rs}{c':Nat}{o:Out}(e:SM r=some o)(g:Ends most aW A o):Post most aW A q r c':=⟨λw z=>(by subst z;cases e),λo' z=>by rw[e]at z;cases z;exact g⟩
theorem Post.pass {q q':Nat}{r:Rs}{c':Nat}(h:Post most aW A q r c')(nv:∀v,r≠.val v):Post most aW A q' r c':=⟨λv e=>absurd e<|nv v,h.2⟩
end
theorem Li {f:Tm->Nat->Option (Rs×Nat)}:∀{ts:List Tm} {c:Nat} {vs:List Vl} {c':Nat},evs f ts c=some (.inl vs,c')->vs.length=ts.length
 |[],c,vs,c',h=>by cases h;rfl
 |t::ts,c,vs,c',h=>by
  unfold evs at h;cases e:f t c with
  |none=>rw[e]at h;cases h
  |some rc=>
   obtain⟨r,c1⟩:=rc;rw[e]at h;cases r with
   |val v=>
    dsimp only at h;cases e2:evs f ts c1 with
    |none=>rw[e2]at h;cases h
    |some oc=>
     obtain⟨o,c2⟩:=oc;rw[e2]at h;cases o with
     |inl us=>cases h;exact congrArg (·+1)<|Li e2
     |inr r=>cases h
   |_=>cases h
theorem Af {f:Tm->Nat->Option (Rs×Nat)}:∀{ts:List Tm} {c:Nat} {r:Rs} {c':Nat},evs f ts c=some (.inr r,c')->∀v,r≠.val v
 |[],c,r,c',h=>by cases h
 |t::ts,c,r,c',h=>by
  unfold evs at h;cases e:f t c with
  |none=>rw[e]at h;cases h
  |some rc=>
   obtain⟨r1,c1⟩:=rc;rw[e]at h;cases r1 with
   |val v=>
    dsimp only at h;cases e2:evs f ts c1 with
    |none=>rw[e2]at h;cases h
    |some oc=>
     obtain⟨o,c2⟩:=oc;rw[e2]at h;cases o with
     |inl us=>cases h
     |inr r2=>cases h;exact Af e2
   |_=>cases h;exact λv z=>by cases z
theorem run_seq {most:Int}{aW:List Rw}{S:List Vl}{d:Nat}{env:List Vl}{own:List Nat}{f:Tm->Nat->Option (Rs×Nat)}(D:Nat)
  (ih:∀(t:Tm) (own:List Nat) (q:Nat) (A:AS) (r:Rs) (c':Nat),f t A.begun=some (r,c')->At aW t own A.pc q->Pre aW S d D env own A->dep t<=D->WB env.length t->Post most aW A q r c'):
  ∀(ts:List Tm) (ws0:List Wv) (A:AS) (q:Nat) (o:List Vl ⊕ Rs) (c':Nat),evs f ts A.begun=some (o,c')->AtS aW ts own A.pc q->Pre aW S d (D+1) env own {A with pile:=A.pile.drop ws0.length}->iJ ts<=D->WBL env.length ts->ws0.length+ts.length<=5->
   (∀vs,o=.inl vs->∃ws,Ox aW vs ws/\vN most aW A {A with pile:=ws.reverse++A.pile,pc:=q,begun:=c'})/\∀r,o=.inr r->∀o',SM r=some o'->Ends most aW A o'
 |[],ws0,A,q,o,c',h,ha,pr,hd,wb,l5=>by
  cases h;have ha':q=A.pc:=ha;subst ha';exact⟨λvs e=>by cases e;exact⟨[], .nil,⟨0,λm=>rfl⟩⟩,λr e=>by cases e⟩
 |t::ts,ws0,A,q,o,c',h,⟨p1,a1,a2⟩,pr,hd,wb,l5=>by
  obtain⟨SQ,SX⟩:=wb;unfold iJ at hd;rw[af4]at l5;have lp:A.pile.length<=(A.pile.drop ws0.length).length+ws0.length:=by rw[agU];omega
  unfold evs at h;cases e1:f t A.begun with
  |none=>rw[e1]at h;cases h
  |some rc=>
   obtain⟨r1,c1⟩:=rc;have P1:=ih t own p1 A r1 c1 e1 a1 ⟨pr.er,pr.sr,pr.ou,pr.SN,by have:=pr.pl;dsimp only at this;omega,by have:=pr.ow;omega,pr.st⟩ (by omega) SQ;rw[e1]at h;cases r1 with
   |val v=>
    obtain⟨v',hv,g1⟩:=P1.1 v rfl;dsimp only at h;cases e2:evs f ts c1 with
    |none=>rw[e2]at h;cases h
    |some oc=>
     obtain⟨o2,c2⟩:=oc;have P2:=run_seq D ih ts (v'::ws0) {A with pile:=v'::A.pile,pc:=p1,begun:=c1} q o2 c2 e2 a2 ⟨pr.er,pr.sr,pr.ou,pr.SN,by have:=pr.pl;exact this,pr.ow,pr.st⟩ (by omega) SX (by rw[af4];omega);rw[e2]at h;cases o2 with
     |inl us=>
      cases h;obtain⟨ws,hw,g2⟩:=P2.1 us rfl;refine⟨λvs e=>?_,λr e=>by cases e⟩;cases e;exact⟨v'::ws, .cons hv hw,by rw[agJ,afM];exact g1.trans g2⟩
     |inr r2=>
      cases h;exact⟨λvs e=>(by cases e),λr e o' ho=>by cases e;exact g1.ends<|P2.2 _ rfl o' ho⟩
   |long=>cases h;exact⟨λvs e=>(by cases e),λr e o' ho=>by cases e;exact P1.2 o' ho⟩
   |deep=>cases h;exact⟨λvs e=>(by cases e),λr e o' ho=>by cases e;exact P1.2 o' ho⟩
   |great=>cases h;exact⟨λvs e=>(by cases e),λr e o' ho=>by cases e;exact P1.2 o' ho⟩
   |stuck=>cases h;exact⟨λvs e=>(by cases e),λr e o' ho=>by cases e;exact P1.2 o' ho⟩
theorem jw {most:Int}{aW:List Rw}{S:List Vl}:∀(m d:Nat) (t:Tm) (env:List Vl) (own:List Nat) (q:Nat) (A:AS) (r:Rs) (c':Nat),ev most S m d t env A.begun=some (r,c')->At aW t own A.pc q->Pre aW S d (dep t) env own A->dep t<=10->WB env.length t->Post most aW A q r c'
 |0,d,t,env,own,q,A,r,c',h,_,_,_,_=>by cases h
 |m+1,d, .n i,env,own,q,A,r,c',h,ha,pr,hd,wb=>by
  obtain⟨hi,hr,rfl⟩:=ha;cases h;exact Post.val (.num hi)<|abv pr.bd hr
 |m+1,d, .v x,env,own,q,A,r,c',h,ha,pr,hd,wb=>by
  obtain⟨j,hj,hr,rfl⟩:=ha;obtain⟨w,v,h1,h2,h3⟩:=pr.er.get hj;unfold ev at h;rw[h1]at h;cases h;exact Post.val h3<|abw pr.bd hr h2
 |m+1,d, .g j,env,own,q,A,r,c',h,ha,pr,hd,wb=>by
  obtain⟨hr,rfl⟩:=ha;unfold ev at h;cases hs:S[j]? with
  |none=>rw[hs]at h;cases h
  |some w=>
   rw[hs]at h;cases h;obtain⟨v,h2,h3⟩:=pr.sr j w hs;exact Post.val h3<|WK pr.bd hr h2
 |m+1,d, .fn x b,env,own,q,A,r,c',h,ha,pr,hd,wb=>by
  obtain⟨to,js,names,e,hj,hl,hr,rfl,hb,hk⟩:=ha;obtain⟨hx,wb⟩:=wb;obtain⟨lj,kept,h1,h2⟩:=pr.er.pick hj;have ow:=pr.ow;simp only[dep]at hd ow;cases h;exact Post.val (.fn h2 hx hb hk (by omega) (by exact agw hd)<|by rw[hx];exact wb) (do_close pr.bd hr (by omega) h1)
 |m+1,d, .lt x t b,env,own,q,A,r,c',h,ha,pr,hd,wb=>by
  obtain⟨p1,p2,a1,k1,a2,k2,rfl⟩:=ha;obtain⟨hx,SQ,SX⟩:=wb;simp only[dep]at pr hd;unfold ev at h;cases e1:ev most S m d t env A.begun with
  |none=>rw[e1]at h;cases h
  |some rc=>
   obtain⟨r1,c1⟩:=rc;have P1:=jw m d t env own p1 A r1 c1 e1 a1 (pr.less<|by omega) (by omega) SQ;rw[e1]at h;cases r1 with
   |val v=>
    dsimp only at h;obtain⟨v',hv,g1⟩:=P1.1 v rfl;have b1:Bd {A with pile:=v'::A.pile,pc:=p1,begun:=c1}:=(pr.push (n':=0) (c:=c1) (pc:=p1) (v:=v')<|by exact afX _ _).bd;have g2:=do_keep (most:=most) b1 k1 rfl;have Lj:Pre aW S d (dep b) (env++[v]) (own++[x]) {A with pile:=A.pile,own:=A.own++[v'],pc:=p1+1,begun:=c1}:=⟨by rw[hx];exact pr.er.snoc hv,pr.sr,pr.ou,pr.SN,by have:=pr.pl;show A.pile.length+_+_<=480;omega,by have:=pr.ow;rw[afu];simp;omega,pr.st⟩;have P2:=jw m d b (env++[v]) (own++[x]) p2 _ r c' h a2 Lj (by omega) (by rw[afu];exact SX);have S5:=g1.trans g2;refine⟨λw hw=>?_,λo ho=>S5.ends<|P2.2 o ho⟩;obtain⟨w',hw',g3⟩:=P2.1 w hw;have b3:=(Lj.push (n':=0) (c:=c') (pc:=p2) (v:=w'));have b3':Bd {A with pile:=w'::A.pile,own:=A.own++[v'],pc:=p2,begun:=c'}:=⟨by have:=pr.pl;show A.pile.length+1<=490;omega,Lj.bd.o,Lj.bd.s,Lj.bd.u⟩;have g4:=do_drop (most:=most) (u:=[v']) b3' k2 rfl rfl;exact⟨w',hw',S5.trans<|g3.trans g4⟩
   |long=>cases h;exact P1.pass (λv z=>by cases z)
   |deep=>cases h;exact P1.pass (λv z=>by cases z)
   |great=>cases h;exact P1.pass (λv z=>by cases z)
   |stuck=>cases h;exact P1.pass (λv z=>by cases z)
 |m+1,d, .rK t a b,env,own,q,A,r,c',h,ha,pr,hd,wb=>by
  obtain⟨p1,p2,a1,k1,a2,k2,a3⟩:=ha;obtain⟨SQ,SX,wb3⟩:=wb;simp only[dep]at pr hd;unfold ev at h;cases e1:ev most S m d t env A.begun with
  |none=>rw[e1]at h;cases h
  |some rc=>
   obtain⟨r1,c1⟩:=rc;have P1:=jw m d t env own p1 A r1 c1 e1 a1 (pr.less<|by omega) (by omega) SQ;rw[e1]at h;cases r1 with
   |val v=>
    obtain⟨v',hv,g1⟩:=P1.1 v rfl;cases hv with
    |@num i hi=>
     dsimp only at h;have b1:Bd {A with pile:=.num i::A.pile,pc:=p1,begun:=c1}:=(pr.push (n':=0) (c:=c1) (pc:=p1) (v:=.num i)<|by exact afX _ _).bd;have g2:=abx (most:=most) b1 k1 rfl;by_cases z:i=0
     ·rw[ahK z]at h g2
      have Lj:Pre aW S d (dep b) env own {A with pile:=A.pile,pc:=p2+1,begun:=c1}:=⟨pr.er,pr.sr,pr.ou,pr.SN,by have:=pr.pl;show A.pile.length+_+_<=480;omega,by have:=pr.ow;omega,pr.st⟩;have P2:=jw m d b env own q _ r c' h a3 Lj (by omega) wb3;have S5:=g1.trans g2;refine⟨λw hw=>?_,λo ho=>S5.ends<|P2.2 o ho⟩;obtain⟨w',hw',g3⟩:=P2.1 w hw;exact⟨w',hw',S5.trans g3⟩
     ·rw[ahL z]at h g2
      have Lj:Pre aW S d (dep a) env own {A with pile:=A.pile,pc:=p1+1,begun:=c1}:=⟨pr.er,pr.sr,pr.ou,pr.SN,by have:=pr.pl;show A.pile.length+_+_<=480;omega,by have:=pr.ow;omega,pr.st⟩;have P2:=jw m d a env own p2 _ r c' h a2 Lj (by omega) SX;have S5:=g1.trans g2;refine⟨λw hw=>?_,λo ho=>S5.ends<|P2.2 o ho⟩;obtain⟨w',hw',g3⟩:=P2.1 w hw;have b3:Bd {A with pile:=w'::A.pile,pc:=p2,begun:=c'}:=(pr.push (n':=0) (c:=c') (pc:=p2) (v:=w')<|by exact afX _ _).bd;exact⟨w',hw',S5.trans<|g3.trans (do_jump b3 k2)⟩
    |@fn _ _ _ to _ kept _ h1 h2 h3 h4 h5 h6 h7=>
     cases h;have b1:Bd {A with pile:=.fn to kept::A.pile,pc:=p1,begun:=c'}:=(pr.push (n':=0) (c:=c') (pc:=p1)<|by exact afX _ _).bd;exact Post.out rfl (g1.ends<|Sy b1 k1 rfl trivial)
    |@bl k _ ws h1=>
     cases h;have b1:Bd {A with pile:=.bl k ws::A.pile,pc:=p1,begun:=c'}:=(pr.push (n':=0) (c:=c') (pc:=p1)<|by exact afX _ _).bd;exact Post.out rfl (g1.ends<|Sy b1 k1 rfl trivial)
   |long=>cases h;exact P1.pass (λv z=>by cases z)
   |deep=>cases h;exact P1.pass (λv z=>by cases z)
   |great=>cases h;exact P1.pass (λv z=>by cases z)
   |stuck=>cases h;exact P1.pass (λv z=>by cases z)
 |m+1,d, .block k ts,env,own,q,A,r,c',h,ha,pr,hd,wb=>by
  obtain⟨p1,a1,k1,l5,rfl⟩:=ha;simp only[dep]at pr hd;unfold ev at h;cases e1:evs (λt c=>ev most S m d t env c) ts A.begun with
  |none=>rw[e1]at h;cases h
  |some oc=>
   obtain⟨o,c1⟩:=oc;have P1:=run_seq (most:=most) (aW:=aW) (S:=S) (f:=λt c=>ev most S m d t env c) (iJ ts) (λt own q A r c' h ha pr hdt wb=>jw m d t env own q A r c' h ha (pr.less hdt) (by omega) wb) ts [] A p1 o c1 e1 a1 pr (afv _) wb (by simpa using l5);rw[e1]at h;cases o with
   |inl vs=>
    cases h;obtain⟨ws,hv,g1⟩:=P1.1 vs rfl;have lw:=hv.len;have lt:=Li e1;have b1:Bd {A with pile:=ws.reverse++A.pile,pc:=p1,begun:=c'}:=⟨by have:=pr.pl;show(ws.reverse++A.pile).length<=490;rw[afu,agf];omega,pr.bd.o,pr.bd.s,pr.bd.u⟩;exact Post.val (.bl hv) (g1.trans (do_block b1 k1 rfl (by exact lw.symm.trans lt) (by exact afy l5<|by decide)))
   |inr r1=>
    cases h;exact⟨λv e=>absurd e<|Af e1 v,λo ho=>P1.2 _ rfl o ho⟩
 |m+1,d, .field j t,env,own,q,A,r,c',h,ha,pr,hd,wb=>by
  obtain⟨p1,a1,k1,rfl⟩:=ha;simp only[dep]at pr hd;unfold ev at h;cases e1:ev most S m d t env A.begun with
  |none=>rw[e1]at h;cases h
  |some rc=>
   obtain⟨r1,c1⟩:=rc;have P1:=jw m d t env own p1 A r1 c1 e1 a1 (pr.less<|by exact agb _) (by exact afT hd) wb;rw[e1]at h;cases r1 with
   |val v=>
    obtain⟨v',hv,g1⟩:=P1.1 v rfl;have b1:Bd {A with pile:=v'::A.pile,pc:=p1,begun:=c1}:=(pr.push (n':=0) (c:=c1) (pc:=p1) (v:=v')<|by exact afX _ _).bd;cases hv with
    |num hi=>cases h;exact Post.out rfl (g1.ends<|Gh b1 k1 rfl trivial)
    |fn=>cases h;exact Post.out rfl (g1.ends<|Gh b1 k1 rfl trivial)
    |@bl k vs ws hr=>
     dsimp only at h;cases e2:vs[j]? with
     |none=>rw[e2]at h;cases h
     |some u=>
      rw[e2]at h;cases h;obtain⟨w,e3,r3⟩:=hr.get e2;exact Post.val r3<|g1.trans (do_field b1 k1 rfl e3)
   |long=>cases h;exact P1.pass (λv z=>by cases z)
   |deep=>cases h;exact P1.pass (λv z=>by cases z)
   |great=>cases h;exact P1.pass (λv z=>by cases z)
   |stuck=>cases h;exact P1.pass (λv z=>by cases z)
 |m+1,d, .case x t ms bs,env,own,q,A,r,c',h,ha,pr,hd,wb=>by
  obtain⟨p1,fs,a1,k1,lf,aa⟩:=ha;obtain⟨hx,SQ,SX⟩:=wb;subst hx;simp only[dep]at pr hd;unfold ev at h;cases e1:ev most S m d t env A.begun with
  |none=>rw[e1]at h;cases h
  |some rc=>
   obtain⟨r1,c1⟩:=rc;have P1:=jw m d t env own p1 A r1 c1 e1 a1 (pr.less<|by omega) (by omega) SQ;rw[e1]at h;cases r1 with
   |val v=>
    obtain⟨v',hv,g1⟩:=P1.1 v rfl;have b1:Bd {A with pile:=v'::A.pile,pc:=p1,begun:=c1}:=(pr.push (n':=0) (c:=c1) (pc:=p1) (v:=v')<|by exact afX _ _).bd;cases hv with
    |num hi=>cases h;exact Post.out rfl (g1.ends<|Lh b1 k1 rfl trivial)
    |fn=>cases h;exact Post.out rfl (g1.ends<|Lh b1 k1 rfl trivial)
    |@bl k vs ws hr=>
     dsimp only at h;have lr:=hr.len;by_cases z:0<=k/\k<(bs.length:Int)
     ·rw[ahK z]at h
      have lk:k.toNat<bs.length:=by omega
      rw[afw lk]at h;dsimp only at h;by_cases y:ms[k.toNat]?=some vs.length
      ·rw[ahK y]at h
       obtain⟨n,f,p2,y1,y2,y3,y4,y5,y6⟩:=abr aa (afw lk);rw[y]at y1;cases y1;have db:=pB (afw lk);have wq:=abt SX (afw lk) y;have g2:=do_case (most:=most) b1 k1 rfl (by omega) (by rw[lf];exact z) y2;have Lj:Pre aW S d (dep bs[k.toNat]) (env++vs) (own++nms env.length vs.length) {A with pile:=A.pile,own:=A.own++ws,pc:=f,begun:=c1}:=⟨pr.er.vals hr,pr.sr,pr.ou,pr.SN,by have:=pr.pl;show A.pile.length+_+_<=480;omega,by have:=pr.ow;rw[afu,jh];omega,pr.st⟩;have P2:=jw m d _ (env++vs) _ p2 _ r c' h y4 Lj (by omega) (by rw[afu];exact wq);have S5:=g1.trans g2;refine⟨λw hw=>?_,λo ho=>S5.ends<|P2.2 o ho⟩;obtain⟨w',hw',g3⟩:=P2.1 w hw;have b3:Bd {A with pile:=w'::A.pile,own:=A.own++ws,pc:=p2,begun:=c'}:=⟨by have:=pr.pl;show A.pile.length+1<=490;omega,Lj.bd.o,Lj.bd.s,Lj.bd.u⟩;have g4:=do_drop (most:=most) (o:=A.own) (u:=ws) b3 y5 rfl (by exact lr.symm);have b4:Bd {A with pile:=w'::A.pile,pc:=p2+1,begun:=c'}:=⟨b3.p,pr.bd.o,pr.bd.s,pr.bd.u⟩;exact⟨w',hw',S5.trans<|g3.trans (g4.trans<|do_jump b4 y6)⟩
      ·rw[ahL y]at h;cases h
     ·rw[ahL z]at h
      cases h;exact Post.out rfl (g1.ends (abz b1 k1 rfl (by rw[lf];exact z)))
   |long=>cases h;exact P1.pass (λv z=>by cases z)
   |deep=>cases h;exact P1.pass (λv z=>by cases z)
   |great=>cases h;exact P1.pass (λv z=>by cases z)
   |stuck=>cases h;exact P1.pass (λv z=>by cases z)
 |m+1,d, .op k a b,env,own,q,A,r,c',h,ha,pr,hd,wb=>by
  obtain⟨p1,p2,hk,a1,a2,k1,rfl⟩:=ha;obtain⟨SQ,SX⟩:=wb;simp only[dep]at pr hd;unfold ev at h;cases e1:ev most S m d a env A.begun with
  |none=>rw[e1]at h;cases h
  |some rc=>
   obtain⟨r1,c1⟩:=rc;have P1:=jw m d a env own p1 A r1 c1 e1 a1 (pr.less<|by omega) (by omega) SQ;rw[e1]at h;cases r1 with
   |val v=>
    obtain⟨v',hv,g1⟩:=P1.1 v rfl;dsimp only at h;cases e2:ev most S m d b env c1 with
    |none=>rw[e2]at h;cases h
    |some rc2=>
     obtain⟨r2,c2⟩:=rc2;have P2:=jw m d b env own p2 {A with pile:=v'::A.pile,pc:=p1,begun:=c1} r2 c2 e2 a2 (pr.push<|by omega) (by omega) SX;rw[e2]at h;cases r2 with
     |val w=>
      obtain⟨w',hw,g2⟩:=P2.1 w rfl;have b3:Bd {A with pile:=w'::v'::A.pile,pc:=p2,begun:=c2}:=⟨by have:=pr.pl;show A.pile.length+1+1<=490;omega,pr.bd.o,pr.bd.s,pr.bd.u⟩;cases hv with
      |@num i hi=>cases hw with
       |@num j hj=>
        dsimp only at h;by_cases z:gG (rk k i j)=true
        ·rw[ahK z]at h
         cases h;exact Post.val (.num z)<|g1.trans (g2.trans<|WL b3 k1 hk hi hj rfl z)
        ·rw[ahL z]at h
         cases h;exact Post.out rfl (g1.ends<|g2.ends (Sx b3 k1 hk hi hj rfl z))
       |fn=>cases h;exact Post.out rfl (g1.ends<|g2.ends (wz b3 k1 hk rfl (.inl trivial)))
       |bl=>cases h;exact Post.out rfl (g1.ends<|g2.ends (wz b3 k1 hk rfl (.inl trivial)))
      |fn=>cases hw<;>(cases h;exact Post.out rfl (g1.ends<|g2.ends (wz b3 k1 hk rfl (.inr trivial))))
      |bl=>cases hw<;>(cases h;exact Post.out rfl (g1.ends<|g2.ends (wz b3 k1 hk rfl (.inr trivial))))
     |long=>cases h;exact Post.out rfl (g1.ends<|P2.2 _ rfl)
     |deep=>cases h;exact Post.out rfl (g1.ends<|P2.2 _ rfl)
     |great=>cases h;exact Post.out rfl (g1.ends<|P2.2 _ rfl)
     |stuck=>cases h;exact Post.out rfl (g1.ends<|P2.2 _ rfl)
   |long=>cases h;exact P1.pass (λv z=>by cases z)
   |deep=>cases h;exact P1.pass (λv z=>by cases z)
   |great=>cases h;exact P1.pass (λv z=>by cases z)
   |stuck=>cases h;exact P1.pass (λv z=>by cases z)
 |m+1,d, .call a b,env,own,q,A,r,c',h,ha,pr,hd,wb=>by
  obtain⟨p1,p2,a1,a2,k1,rfl⟩:=ha;obtain⟨SQ,SX⟩:=wb;simp only[dep]at pr hd;unfold ev at h;cases e1:ev most S m d a env A.begun with
  |none=>rw[e1]at h;cases h
  |some rc=>
   obtain⟨r1,c1⟩:=rc;have P1:=jw m d a env own p1 A r1 c1 e1 a1 (pr.less<|by omega) (by omega) SQ;rw[e1]at h;cases r1 with
   |val v=>
    obtain⟨v',hv,g1⟩:=P1.1 v rfl;dsimp only at h;cases e2:ev most S m d b env c1 with
    |none=>rw[e2]at h;cases h
    |some rc2=>
     obtain⟨r2,c2⟩:=rc2;have P2:=jw m d b env own p2 {A with pile:=v'::A.pile,pc:=p1,begun:=c1} r2 c2 e2 a2 (pr.push<|by omega) (by omega) SX;rw[e2]at h;cases r2 with
     |val w=>
      obtain⟨w',hw,g2⟩:=P2.1 w rfl;have b3:Bd {A with pile:=w'::v'::A.pile,pc:=p2,begun:=c2}:=⟨by have:=pr.pl;show A.pile.length+1+1<=490;omega,pr.bd.o,pr.bd.s,pr.bd.u⟩;cases ecv:u6 v with
      |none=>dsimp only at h;rw[ecv]at h;cases h;exact Post.out rfl (g1.ends<|g2.ends (WR b3 k1 rfl (hv.abu ecv)))
      |some be=>
       obtain⟨body,jH⟩:=be;obtain⟨to,kept,names,x,e,hkw,her,hx,hat,hbk,DW,hdb,hwb⟩:=hv.call ecv;dsimp only at h;rw[ecv]at h;dsimp only at h;have lk:=her.len;by_cases z1:most<(c2:Int)+1
       ·rw[ahK z1]at h
        cases h;exact Post.out rfl (g1.ends (g2.ends (WM b3 k1 (by omega) rfl hkw z1)))
       ·rw[ahL z1]at h
        by_cases z2:10<d+1
        ·rw[ahK z2]at h
         cases h;exact Post.out rfl (g1.ends (g2.ends (WQ b3 k1 (by omega) rfl hkw z1 (by show 10<A.outer.length+1;rw[pr.ou];exact z2))))
        ·rw[ahL z2]at h
         have g3:=do_call (most:=most) b3 k1 (by omega) rfl hkw z1 (by show ¬10<A.outer.length+1;rw[pr.ou];exact z2);have pr4:Pre aW S (d+1) (dep body) (jH++[w]) (names++[x]) {A with pile:=A.pile,own:=kept++[w'],be:=p2+1,outer:=(A.own,A.be)::A.outer,pc:=to,begun:=c2+1}:=⟨by rw[hx];exact her.snoc hw,pr.sr,by show A.outer.length+1=d+1;rw[pr.ou],by exact Nat.not_lt.mp z2,by have:=pr.pl;show A.pile.length+_+_<=480;omega,by rw[afu];simp;exact DW,pr.st⟩;have P4:=jw m (d+1) body (jH++[w]) (names++[x]) e _ r c' h hat pr4 (by exact aga hdb) (by rw[afu,<-hx];exact hwb);have g13:=g1.trans (g2.trans g3);refine⟨λu hu=>?_,λo ho=>g13.ends<|P4.2 o ho⟩;obtain⟨u',hu',g5⟩:=P4.1 u hu;have b5:Bd {A with pile:=u'::A.pile,own:=kept++[w'],be:=p2+1,outer:=(A.own,A.be)::A.outer,pc:=e,begun:=c'}:=⟨by have:=pr.pl;show A.pile.length+1<=490;omega,pr4.bd.o,pr4.bd.s,pr4.bd.u⟩;exact⟨u',hu',g13.trans<|g5.trans (do_back b5 hbk rfl)⟩
     |long=>cases h;exact Post.out rfl (g1.ends<|P2.2 _ rfl)
     |deep=>cases h;exact Post.out rfl (g1.ends<|P2.2 _ rfl)
     |great=>cases h;exact Post.out rfl (g1.ends<|P2.2 _ rfl)
     |stuck=>cases h;exact Post.out rfl (g1.ends<|P2.2 _ rfl)
   |long=>cases h;exact P1.pass (λv z=>by cases z)
   |deep=>cases h;exact P1.pass (λv z=>by cases z)
   |great=>cases h;exact P1.pass (λv z=>by cases z)
   |stuck=>cases h;exact P1.pass (λv z=>by cases z)
inductive Lr where
 |row (r:Rw)
 |late (k:Nat) (js:List Nat)
 |hole
noncomputable def namesOf (ab:Bool)(own:List Nat):List Nat:=if ab then own.reverse else own
theorem qm (ab:Bool)(own:aP Nat):(namesOf ab own).length=own.length:=by cases ab<;>simp[namesOf]
theorem u9 {ab:Bool}{own:aP Nat}{x:Nat}:x∈namesOf ab own↔x∈own:=by cases ab<;>simp[namesOf]
abbrev Lt:=List Nat×Tm
noncomputable def jJ:List (List Lr×Nat)->Nat->List Nat
 |[],_=>[]
 |a::as,p=>p::jJ as (p+a.1.length+2)
noncomputable def cN:List (List Lr×Nat)->Nat
 |[]=>0
 |a::as=>a.1.length+2+cN as
noncomputable def eG:List (List Lr×Nat)->Nat->List Lr
 |[],_=>[]
 |a::as,q=>a.1++[.row (.drop a.2)]++[.row (.jump q)]++eG as q
theorem jM:∀{as:List (List Lr×Nat)} {q:Nat},(eG as q).length=cN as
 |[],_=>rfl
 |a::as,q=>by unfold eG cN;simp only[afu,afz,jM]
theorem xZ:∀{as:List (List Lr×Nat)} {p:Nat},(jJ as p).length=as.length
 |[],_=>rfl
 |a::as,p=>by unfold jJ;simp[xZ]
mutual
noncomputable def comp (ab:Bool):Tm->List Nat->List Lt->Nat->Option (List Lr×List Lt)
 |.n i,_,L,_=>some ([.row (.num i)],L)
 |.v x,own,L,_=>(nY x own).map λj=>([.row (.loc j)],L)
 |.g j,_,L,_=>some ([.row (.glob j)],L)
 |.lt x t b,own,L,p=>match comp ab t own L p with
  |none=>none
  |some (r1,L1)=>match comp ab b (own++[x]) L1 (p+r1.length+1) with
   |none=>none
   |some (r2,L2)=>some (r1++[.row .keep]++r2++[.row (.drop 1)],L2)
 |.rK c a b,own,L,p=>match comp ab c own L p with
  |none=>none
  |some (r1,L1)=>match comp ab a own L1 (p+r1.length+1) with
   |none=>none
   |some (r2,L2)=>match comp ab b own L2 (p+r1.length+1+r2.length+1) with
    |none=>none
    |some (r3,L3)=>some (r1++[.row (.CK<|p+r1.length+1+r2.length+1)]++r2++[.row (.jump<|p+r1.length+1+r2.length+1+r3.length)]++r3,L3)
 |.fn x b,own,L,_=>match nZ own (namesOf ab own) with
  |none=>none
  |some js=>some ([.late L.length js],L++[(namesOf ab own++[x],b)])
 |.op k a b,own,L,p=>match comp ab a own L p with
  |none=>none
  |some (r1,L1)=>match comp ab b own L1 (p+r1.length) with
   |none=>none
   |some (r2,L2)=>some (r1++r2++[.row (.nW k)],L2)
 |.call a b,own,L,p=>match comp ab a own L p with
  |none=>none
  |some (r1,L1)=>match comp ab b own L1 (p+r1.length) with
   |none=>none
   |some (r2,L2)=>some (r1++r2++[.row .call],L2)
 |.block k ts,own,L,p=>match kJ ab ts own L p with
  |none=>none
  |some (r,L1)=>some (r++[.row (.block k ts.length)],L1)
 |.field j t,own,L,p=>match comp ab t own L p with
  |none=>none
  |some (r,L1)=>some (r++[.row (.field j)],L1)
 |.case x t ms bs,own,L,p=>match comp ab t own L p with
  |none=>none
  |some (r,L1)=>match jN ab bs ms x own L1 (p+r.length+1) with
   |none=>none
   |some (rs,L2)=>some (r++[.row (.case<|jJ rs (p+r.length+1))]++eG rs (p+r.length+1+cN rs),L2)
noncomputable def kJ (ab:Bool):List Tm->List Nat->List Lt->Nat->Option (List Lr×List Lt)
 |[],_,L,_=>some ([],L)
 |t::ts,own,L,p=>match comp ab t own L p with
  |none=>none
  |some (r1,L1)=>match kJ ab ts own L1 (p+r1.length) with
   |none=>none
   |some (r2,L2)=>some (r1++r2,L2)
noncomputable def jN (ab:Bool):List Tm->List Nat->Nat->List Nat->List Lt->Nat->Option (List (List Lr×Nat)×List Lt)
 |[],_,_,_,L,_=>some ([],L)
 |_::_,[],_,_,_,_=>none
 |b::bs,m::ms,x,own,L,p=>match comp ab b (own++nms x m) L p with
  |none=>none
  |some (r1,L1)=>match jN ab bs ms x own L1 (p+r1.length+2) with
   |none=>none
   |some (rs,L2)=>some ((r1,m)::rs,L2)
end
mutual
noncomputable def sz:Tm->Nat
 |.n _=>1
 |.v _=>1
 |.g _=>1
 |.lt _ t b=>sz t+sz b+1
 |.rK c a b=>sz c+sz a+sz b+1
 |.fn _ b=>sz b+1
 |.op _ a b=>sz a+sz b+1
 |.call a b=>sz a+sz b+1
 |.block _ ts=>yc ts+1
 |.field _ t=>sz t+1
 |.case _ t _ bs=>sz t+yc bs+1
noncomputable def yc:List Tm->Nat
 |[]=>0
 |t::ts=>sz t+1+yc ts
end
noncomputable def rm (L:List Lt):Nat:=(L.map λp=>2*sz p.2+1).sum
theorem ji (a b:aP Lt):rm (a++b)=rm a+rm b:=by unfold rm;rw[af0,List.sum_append]
mutual
def GT:Nat->Tm->Prop
 |_, .n i=>gG i=true
 |m, .v x=>x<m
 |_, .g _=>True
 |m, .lt x t b=>x=m/\GT m t/\GT (m+1) b
 |m, .rK c a b=>GT m c/\GT m a/\GT m b
 |m, .fn x b=>x=m/\GT (m+1) b
 |m, .op k a b=>k<=3/\GT m a/\GT m b
 |m, .call a b=>GT m a/\GT m b
 |m, .block _ ts=>ts.length<=5/\Qj m ts
 |m, .field _ t=>GT m t
 |m, .case x t ms bs=>x=m/\GT m t/\DY m bs ms
def Qj:Nat->List Tm->Prop
 |_,[]=>True
 |m,t::ts=>GT m t/\Qj m ts
def DY:Nat->List Tm->List Nat->Prop
 |_,[],ms=>ms=[]
 |m,t::ts,ms=>∃k CV,ms=k::CV/\k<=5/\GT (m+k) t/\DY m ts CV
end
theorem S6 {m:Nat}{bs:List Tm}{ms:List Nat}{i:Nat}{b:Tm}(a:DY m bs ms)(h:bs[i]?=some b):∃k,ms[i]?=some k/\k<=5/\GT (m+k) b:=by
 induction bs generalizing ms i with
 |nil=>simp at h
 |cons t ts ih=>
  obtain⟨k,CV,rfl,l,g,g2⟩:=a;cases i with
  |zero=>cases h;exact⟨k,rfl,l,g⟩
  |succ i=>exact(ih (i:=i) g2 h:)
theorem DY.len {m:Nat}:∀{bs:List Tm} {ms:List Nat},DY m bs ms->ms.length=bs.length
 |[],_,h=>by cases h;rfl
 |t::ts,ms,⟨k,CV,e,l,g,q⟩=>by subst e;simp[DY.len q]
theorem CW {m:Nat}:∀{bs:List Tm} {b:Tm},Qj m bs->b∈bs->GT m b
 |t::ts,b,w,h=>by
  rcases afU.mp h with z|z
  ·subst z;exact w.1
  ·exact CW w.2 z
mutual
theorem GT.wb:∀{t:Tm} {m:Nat},GT m t->WB m t
 |.n i,_,h=>trivial
 |.v x,_,h=>trivial
 |.g j,_,h=>trivial
 |.lt x t b,_,⟨h0,h1,h2⟩=>⟨h0,h1.wb,h2.wb⟩
 |.rK c a b,_,⟨h0,h1,h2⟩=>⟨h0.wb,h1.wb,h2.wb⟩
 |.fn x b,_,⟨h0,h1⟩=>⟨h0,h1.wb⟩
 |.op j a b,_,⟨h0,h1,h2⟩=>⟨h1.wb,h2.wb⟩
 |.call a b,_,⟨h1,h2⟩=>⟨h1.wb,h2.wb⟩
 |.block k ts,_,⟨h0,h1⟩=>h1.wb
 |.field j t,_,h=>GT.wb (t:=t) h
 |.case x t ms bs,_,⟨h0,h1,h2⟩=>⟨h0,h1.wb,h2.wb⟩
theorem Qj.wb:∀{ts:List Tm} {m:Nat},Qj m ts->WBL m ts
 |[],_,_=>trivial
 |t::ts,_,⟨h1,h2⟩=>⟨h1.wb,h2.wb⟩
theorem DY.wb:∀{ts:List Tm} {ms:List Nat} {m:Nat},DY m ts ms->WBA m ts ms
 |[],_,_,_=>trivial
 |t::ts,_,_,⟨k,CV,e,_,h1,h2⟩=>⟨k,CV,e,h1.wb,h2.wb⟩
end
mutual
theorem WT.gt {M R:Nat}{S:List Kd}:∀{t:Tm} {Γ:List Kd} {k:Kd},WT M R S Γ t k->GT Γ.length t
 |.n _,_,_,h=>h.2
 |.v _,_,_,h=>(ahW h).1
 |.g _,_,_,h=>trivial
 |.lt _ _ _,_,_,h=>⟨h.1,h.2.elim λ_ h=>h.1.gt,h.2.elim λ_ h=>by have:=h.2.gt;rwa [afu]at this⟩
 |.rK _ _ _,_,_,h=>⟨h.1.gt,h.2.1.gt,h.2.2.gt⟩
 |.fn _ _,_,_,h=>⟨h.1,h.2.elim λ_ h=>h.elim λ_ h=>by have:=h.2.gt;rwa [afu]at this⟩
 |.op _ _ _,_,_,h=>⟨h.2.1,h.2.2.1.gt,h.2.2.2.gt⟩
 |.call _ _,_,_,h=>h.elim λ_ h=>⟨h.1.gt,h.2.gt⟩
 |.block _ _,_,_,h=>⟨h.1,h.2.elim (λh=>h.2.elim λ_ h=>u0.gt h.2.2) λh=>u0.gt h.2.2⟩
 |.field _ _,_,_,h=>h.2.2.gt
 |.case _ _ _ _,_,_,h=>⟨h.1,h.2.2.2.2.1.gt,by rw[h.2.2.2.1,<-h.2.1];have:=Gg.gt h.2.2.2.2.2;rwa [show(λi=>(iU<|0+i).length)=λi=>(iU i).length from funext λi=>by rw[ag1]]at this⟩
theorem u0.gt {M R:Nat}{S:List Kd}:∀{ts:List Tm} {Γ ks:List Kd},u0 M R S Γ ts ks->Qj Γ.length ts
 |[],_,_,_=>trivial
 |t::ts,_,_,⟨k,ks',_,h1,h2⟩=>⟨h1.gt,h2.gt⟩
theorem Gg.gt {M R:Nat}{S:List Kd}:∀{ts:List Tm} {Γ:List Kd} {q:Nat} {k:Kd},Gg M R S Γ ts q k->DY Γ.length ts ((List.range ts.length).map λi=>(iU<|q+i).length)
 |[],_,_,_,_=>rfl
 |t::ts,Γ,q,_,⟨h1,h2⟩=>⟨(iU q).length,(List.range ts.length).map λi=>(iU<|q+1+i).length,by rw[af4,List.range_succ_eq_map,afW,List.map_map];exact congrArg (List.cons _) (List.map_congr_left λi _=>by show(iU<|q+(i+1)).length=_;rw[show q+(i+1)=q+1+i by omega]),xY q,by have:=h1.gt;rwa [afu]at this,h2.gt⟩
end
def yd (p:Lt):Prop:=∃names x,p.1=names++[x]/\(∀y,y∈names↔y<x)/\GT (x+1) p.2/\x+1+6*dep p.2<=150/\p.1.length+6*dep p.2<=150/\dep p.2<=9
def okR (n:Nat):Lr->Prop
 |.row _=>True
 |.late k _=>k<n
 |.hole=>False
theorem Jo {x:Nat}:∀{own:List Nat},x∈own->∃j,nY x own=some j
 |y::ys,h=>by
  unfold nY;by_cases c:x=y
  ·exact⟨0,ahK c⟩
  ·rw[ahL c]
   rcases afU.mp h with z|z
   ·exact absurd z c
   ·obtain⟨j,e⟩:=Jo z
    exact⟨j+1,by rw[e];rfl⟩
theorem Ag {own:List Nat}:∀{ns:List Nat},(∀y∈ns,y∈own)->∃js,nZ own ns=some js
 |[],_=>⟨[],rfl⟩
 |y::ys,h=>by
  obtain⟨j,e⟩:=Jo (h y afE);obtain⟨js,e2⟩:=Ag λz hz=>h z (afA _ hz);exact⟨j::js,by unfold nZ;rw[e,e2]⟩
structure Made (L:List Lt)(t:Tm)(r:List Lr)(L':List Lt)(N:List Lt):Prop where
 ex:L'=L++N
 lr:r.length+rm N<=2*sz t
 ln:N.length+rm N<=2*sz t
 ok:∀q∈N,yd q
 rw:∀x∈r,okR L'.length x
theorem okR.mono {m n:Nat}(h:m<=n):∀{x:Lr},okR m x->okR n x
 |.row _,_=>trivial
 |.late _ _,z=>afH z h
theorem tM {own:aP Nat}{m:Nat}(h:∀y,y∈own↔y<m):∀y,y∈own++[m]↔y<m+1:=λy=>by
 rw[agd,afN,h y];omega
theorem Ln {own:aP Nat}{m k:Nat}(h:∀y,y∈own↔y<m):∀y,y∈own++nms m k↔y<m+k:=λy=>by
 rw[agd,h y];unfold nms;simp only[List.mem_map,List.mem_range];constructor
 ·rintro(z|⟨i,hi,rfl⟩)<;>omega
 ·intro z
  by_cases c:y<m
  ·exact .inl c
  ·exact .inr ⟨y-m,by omega,by omega⟩
theorem Made.two {L L1 L2 N1 N2:aP Lt}{a b t:Tm}{r1 r2 r:aP Lr}(A:Made L a r1 L1 N1)(B:Made L1 b r2 L2 N2)(hs:2*sz a+2*sz b+2<=2*sz t)(hr:r.length<=r1.length+r2.length+2)(hm:∀x∈r,x∈r1\/x∈r2\/∃w,x=.row w):Made L t r L2 (N1++N2):=by
 have e2:L2.length=L1.length+N2.length:=by rw[B.ex,afu]
 refine⟨by rw[B.ex,A.ex,afM],by rw[ji];have:=A.lr;have:=B.lr;omega,by rw[ji,afu];have:=A.ln;have:=B.ln;omega,λq hq=>?_,λx hx=>?_⟩
 ·rcases agd.mp hq with z|z
  ·exact A.ok q z
  ·exact B.ok q z
 ·rcases hm x hx with z|z|⟨w,rfl⟩
  ·exact(A.rw x z).mono (by omega)
  ·exact B.rw x z
  ·trivial
theorem Gi {n:Nat}:∀{rs:List (List Lr×Nat)} {q:Nat} {y:Lr},(∀a∈rs,∀y∈a.1,okR n y)->y∈eG rs q->okR n y
 |[],_,_,_,h=>by simp[eG]at h
 |a::as,q,y,g,h=>by
  unfold eG at h;simp only[agd,afN]at h;rcases h with ((z|z)|z)|z
  ·exact g a afE y z
  ·subst z;trivial
  ·subst z;trivial
  ·exact Gi (λb hb=>g b<|afA _ hb) z
structure Zx (L:List Lt)(n k:Nat)(L':List Lt)(N:List Lt):Prop where
 ex:L'=L++N
 lr:k+rm N<=n
 ln:N.length+rm N<=n
 ok:∀q∈N,yd q
mutual
theorem fu {ab:Bool}:∀{t:Tm} {own:List Nat} {L:List Lt} {p m:Nat},GT m t->(∀y,y∈own↔y<m)->m+6*dep t<=150->own.length+6*dep t<=150->dep t<=10->∃r L' N,comp ab t own L p=some (r,L')/\Made L t r L' N
 |.n i,own,L,p,m,g,ho,h1,h2,h3=>⟨_,_,[],rfl,by simp,by simp[sz,rm],by simp[sz,rm],λq hq=>by simp at hq,λx hx=>by simp at hx;subst hx;trivial⟩
 |.g i,own,L,p,m,g,ho,h1,h2,h3=>⟨_,_,[],rfl,by simp,by simp[sz,rm],by simp[sz,rm],λq hq=>by simp at hq,λx hx=>by simp at hx;subst hx;trivial⟩
 |.v x,own,L,p,m,g,ho,h1,h2,h3=>by
  obtain⟨j,e⟩:=Jo ((ho x).mpr g);exact⟨[.row (.loc j)],L,[],by unfold comp;rw[e];rfl,by simp,by simp[sz,rm],by simp[sz,rm],λq hq=>by simp at hq,λx hx=>by simp at hx;subst hx;trivial⟩
 |.fn x b,own,L,p,m,g,ho,h1,h2,h3=>by
  obtain⟨hx,gb⟩:=g;simp only[dep]at h1 h2 h3;obtain⟨js,e⟩:=Ag (own:=own) (ns:=namesOf ab own) λy hy=>u9.mp hy;refine⟨[.late L.length js],L++[(namesOf ab own++[x],b)],[(namesOf ab own++[x],b)],by unfold comp;rw[e],rfl,by simp[sz,rm];omega,by simp[sz,rm];omega,λq hq=>?_,λy hy=>?_⟩
  ·rw[afN]at hq
   subst hq;refine⟨namesOf ab own,x,rfl,λy=>by rw[u9,ho y,hx],by rw[hx];exact gb,by show x+1+6*dep b<=150;omega,?_,by show dep b<=9;exact agw h3⟩;show(namesOf ab own++[x]).length+6*dep b<=150;rw[afu,qm];simp;omega
  ·rw[afN]at hy
   subst hy;show L.length<(L++[_]).length;simp
 |.lt x t b,own,L,p,m,g,ho,h1,h2,h3=>by
  obtain⟨hx,g1,g2⟩:=g;subst hx;simp only[dep]at h1 h2 h3;obtain⟨r1,L1,N1,e1,M1⟩:=fu (ab:=ab) (L:=L) (p:=p) g1 ho (by omega) (by omega) (by omega);obtain⟨r2,L2,N2,e2,M2⟩:=fu (ab:=ab) (L:=L1) (p:=p+r1.length+1) g2 (tM ho) (by omega) (by rw[afu];simp;omega) (by omega);refine⟨_,L2,N1++N2,by unfold comp;rw[e1];dsimp only;rw[e2],M1.two M2 (by simp only[sz];omega) (by simp;exact afv _) λy hy=>?_⟩;simp only[agd,afN]at hy;rcases hy with ((z|z)|z)|z
  ·exact .inl z
  ·exact .inr<|.inr ⟨_,z⟩
  ·exact .inr<|.inl z
  ·exact .inr<|.inr ⟨_,z⟩
 |.rK c a b,own,L,p,m,g,ho,h1,h2,h3=>by
  obtain⟨g0,g1,g2⟩:=g;simp only[dep]at h1 h2 h3;obtain⟨r1,L1,N1,e1,M1⟩:=fu (ab:=ab) (L:=L) (p:=p) g0 ho (by omega) (by omega) (by omega);obtain⟨r2,L2,N2,e2,M2⟩:=fu (ab:=ab) (L:=L1) (p:=p+r1.length+1) g1 ho (by omega) (by omega) (by omega);obtain⟨r3,L3,N3,e3,M3⟩:=fu (ab:=ab) (L:=L2) (p:=p+r1.length+1+r2.length+1) g2 ho (by omega) (by omega) (by omega);have l2:L2.length=L1.length+N2.length:=by rw[M2.ex,afu]
  have l3:L3.length=L2.length+N3.length:=by rw[M3.ex,afu]
  refine⟨_,L3,N1++(N2++N3),by unfold comp;rw[e1];dsimp only;rw[e2];dsimp only;rw[e3],⟨by rw[M3.ex,M2.ex,M1.ex];simp,?_,?_,λq hq=>?_,λy hy=>?_⟩⟩
  ·have:=M1.lr;have:=M2.lr;have:=M3.lr
   simp only[ji,sz,afu,afz];omega
  ·have:=M1.ln;have:=M2.ln;have:=M3.ln
   simp only[ji,sz,afu];omega
  ·simp only[agd]at hq
   rcases hq with z|z|z
   ·exact M1.ok q z
   ·exact M2.ok q z
   ·exact M3.ok q z
  ·simp only[agd,afN]at hy
   rcases hy with (((z|z)|z)|z)|z
   ·exact(M1.rw y z).mono (by omega)
   ·subst z;trivial
   ·exact(M2.rw y z).mono (by omega)
   ·subst z;trivial
   ·exact M3.rw y z
 |.op k a b,own,L,p,m,g,ho,h1,h2,h3=>by
  obtain⟨hk,g1,g2⟩:=g;simp only[dep]at h1 h2 h3;obtain⟨r1,L1,N1,e1,M1⟩:=fu (ab:=ab) (L:=L) (p:=p) g1 ho (by omega) (by omega) (by omega);obtain⟨r2,L2,N2,e2,M2⟩:=fu (ab:=ab) (L:=L1) (p:=p+r1.length) g2 ho (by omega) (by omega) (by omega);refine⟨_,L2,N1++N2,by unfold comp;rw[e1];dsimp only;rw[e2],M1.two M2 (by simp only[sz];omega) (by simp;exact agb _) λy hy=>?_⟩;simp only[agd,afN]at hy;rcases hy with (z|z)|z
  ·exact .inl z
  ·exact .inr<|.inl z
  ·exact .inr<|.inr ⟨_,z⟩
 |.call a b,own,L,p,m,g,ho,h1,h2,h3=>by
  obtain⟨g1,g2⟩:=g;simp only[dep]at h1 h2 h3;obtain⟨r1,L1,N1,e1,M1⟩:=fu (ab:=ab) (L:=L) (p:=p) g1 ho (by omega) (by omega) (by omega);obtain⟨r2,L2,N2,e2,M2⟩:=fu (ab:=ab) (L:=L1) (p:=p+r1.length) g2 ho (by omega) (by omega) (by omega);refine⟨_,L2,N1++N2,by unfold comp;rw[e1];dsimp only;rw[e2],M1.two M2 (by simp only[sz];omega) (by simp;exact agb _) λy hy=>?_⟩;simp only[agd,afN]at hy;rcases hy with (z|z)|z
  ·exact .inl z
  ·exact .inr<|.inl z
  ·exact .inr<|.inr ⟨_,z⟩
 |.block k ts,own,L,p,m,g,ho,h1,h2,h3=>by
  obtain⟨l5,gl⟩:=g;simp only[dep]at h1 h2 h3;obtain⟨r,L1,N,e1,M,rw⟩:=Ah (ab:=ab) (L:=L) (p:=p) gl ho (by omega) (by omega) (by exact afT h3);refine⟨_,L1,N,by unfold comp;rw[e1],⟨M.ex,?_,?_,M.ok,λy hy=>?_⟩⟩
  ·have:=M.lr;simp only[sz,afu,afz];omega
  ·have:=M.ln;simp only[sz];omega
  ·rcases agd.mp hy with z|z
   ·exact rw y z
   ·rw[afN]at z;subst z;trivial
 |.field j t,own,L,p,m,g,ho,h1,h2,h3=>by
  simp only[dep]at h1 h2 h3;obtain⟨r,L1,N,e1,M⟩:=fu (ab:=ab) (t:=t) (L:=L) (p:=p) g ho (by omega) (by omega) (by exact afT h3);refine⟨_,L1,N,by unfold comp;rw[e1],⟨M.ex,?_,?_,M.ok,λy hy=>?_⟩⟩
  ·have:=M.lr;simp only[sz,afu,afz];omega
  ·have:=M.ln;simp only[sz];omega
  ·rcases agd.mp hy with z|z
   ·exact M.rw y z
   ·rw[afN]at z;subst z;trivial
 |.case x t ms bs,own,L,p,m,g,ho,h1,h2,h3=>by
  obtain⟨hx,g1,g2⟩:=g;subst hx;simp only[dep]at h1 h2 h3;obtain⟨r,L1,N1,e1,M1⟩:=fu (ab:=ab) (L:=L) (p:=p) g1 ho (by omega) (by omega) (by omega);obtain⟨rs,L2,N2,e2,M2,rw,_⟩:=Ai (ab:=ab) (L:=L1) (p:=p+r.length+1) g2 ho (by omega) (by omega) (by omega);have l2:L2.length=L1.length+N2.length:=by rw[M2.ex,afu]
  refine⟨_,L2,N1++N2,by unfold comp;rw[e1];dsimp only;rw[e2],⟨by rw[M2.ex,M1.ex,afM],?_,?_,λq hq=>?_,λy hy=>?_⟩⟩
  ·have:=M1.lr;have:=M2.lr
   simp only[ji,sz,afu,afz,jM];omega
  ·have:=M1.ln;have:=M2.ln
   simp only[ji,sz,afu];omega
  ·rcases agd.mp hq with z|z
   ·exact M1.ok q z
   ·exact M2.ok q z
  ·simp only[agd,afN]at hy
   rcases hy with (z|z)|z
   ·exact(M1.rw y z).mono (by omega)
   ·subst z;trivial
   ·exact Gi rw z
theorem Ah {ab:Bool}:∀{ts:List Tm} {own:List Nat} {L:List Lt} {p m:Nat},Qj m ts->(∀y,y∈own↔y<m)->m+6*iJ ts<=150->own.length+6*iJ ts<=150->iJ ts<=10->∃r L' N,kJ ab ts own L p=some (r,L')/\Zx L (2*yc ts) r.length L' N/\∀x∈r,okR L'.length x
 |[],own,L,p,m,g,ho,h1,h2,h3=>⟨[],L,[],rfl,⟨by simp,by simp[yc,rm],by simp[yc,rm],λq hq=>by simp at hq⟩,λx hx=>by simp at hx⟩
 |t::ts,own,L,p,m,⟨g1,g2⟩,ho,h1,h2,h3=>by
  unfold iJ at h1 h2 h3;obtain⟨r1,L1,N1,e1,M1⟩:=fu (ab:=ab) (L:=L) (p:=p) g1 ho (by omega) (by omega) (by omega);obtain⟨r2,L2,N2,e2,M2,rw⟩:=Ah (ab:=ab) (L:=L1) (p:=p+r1.length) g2 ho (by omega) (by omega) (by omega);have l2:L2.length=L1.length+N2.length:=by rw[M2.ex,afu]
  refine⟨_,L2,N1++N2,by unfold kJ;rw[e1];dsimp only;rw[e2],⟨by rw[M2.ex,M1.ex,afM],?_,?_,λq hq=>?_⟩,λy hy=>?_⟩
  ·have:=M1.lr;have:=M2.lr
   simp only[ji,yc,afu];omega
  ·have:=M1.ln;have:=M2.ln
   simp only[ji,yc,afu];omega
  ·rcases agd.mp hq with z|z
   ·exact M1.ok q z
   ·exact M2.ok q z
  ·rcases agd.mp hy with z|z
   ·exact(M1.rw y z).mono (by omega)
   ·exact rw y z
theorem Ai {ab:Bool}:∀{bs:List Tm} {ms:List Nat} {own:List Nat} {L:List Lt} {p x:Nat},DY x bs ms->(∀y,y∈own↔y<x)->x+6*iJ bs+5<=150->own.length+6*iJ bs+5<=150->iJ bs<=10->∃rs L' N,jN ab bs ms x own L p=some (rs,L')/\Zx L (2*yc bs) (cN rs) L' N/\(∀a∈rs,∀y∈a.1,okR L'.length y)/\rs.length=bs.length
 |[],ms,own,L,p,x,g,ho,h1,h2,h3=>⟨[],L,[],by unfold jN;rfl,⟨by simp,by simp[yc,rm,cN],by simp[yc,rm],λq hq=>by simp at hq⟩,λa ha=>by simp at ha,rfl⟩
 |b::bs,ms,own,L,p,x,⟨k,CV,hm,k5,g1,g2⟩,ho,h1,h2,h3=>by
  subst hm;unfold iJ at h1 h2 h3;obtain⟨r1,L1,N1,e1,M1⟩:=fu (ab:=ab) (L:=L) (p:=p) (own:=own++nms x k) g1 (Ln ho) (by omega) (by rw[afu,jh];omega) (by omega);obtain⟨rs,L2,N2,e2,M2,rw,lr⟩:=Ai (ab:=ab) (L:=L1) (p:=p+r1.length+2) g2 ho (by omega) (by omega) (by omega);have l2:L2.length=L1.length+N2.length:=by rw[M2.ex,afu]
  refine⟨_,L2,N1++N2,by unfold jN;rw[e1];dsimp only;rw[e2],⟨by rw[M2.ex,M1.ex,afM],?_,?_,λq hq=>?_⟩,λa ha y hy=>?_,by simp[lr]⟩
  ·have:=M1.lr;have:=M2.lr
   simp only[ji,yc,cN];omega
  ·have:=M1.ln;have:=M2.ln
   simp only[ji,yc,afu];omega
  ·rcases agd.mp hq with z|z
   ·exact M1.ok q z
   ·exact M2.ok q z
  ·rcases afU.mp ha with z|z
   ·subst z;exact(M1.rw y hy).mono (by omega)
   ·exact rw a z y hy
end
noncomputable def qp (bg:List Nat):Lr->Option Rw
 |.row r=>some r
 |.late k js=>(bg[k]?).map λb=>.close b js
 |.hole=>none
noncomputable def oh (bg:List Nat):List Lr->Option (List Rw)
 |[]=>some []
 |r::rs=>match qp bg r,oh bg rs with
  |some x,some xs=>some (x::xs)
  |_,_=>none
noncomputable def bodies (ab:Bool):Nat->List Lr->List Lt->List Nat->Option (List Lr×List Lt×List Nat)
 |0,_,_,_=>none
 |m+1,aY,L,bg=>match L[bg.length]? with
  |none=>some (aY,L,bg)
  |some nb=>match comp ab nb.2 nb.1 L aY.length with
   |none=>none
   |some (r,L')=>bodies ab m (aY++r++[.row .back]) L' (bg++[aY.length])
noncomputable def jT (ab:Bool):List Tm->Tm->List Lr->List Lt->Option (List Lr×List Lt)
 |[],t,aY,L=>match comp ab t [] L aY.length with
  |none=>none
  |some (r,L1)=>some (aY++r++[.row .back],L1)
 |u::us,t,aY,L=>match comp ab u [] L aY.length with
  |none=>none
  |some (r,L1)=>jT ab us t (aY++r++[.row .store]) L1
def Sub (aW:List Rw)(bg:List Nat)(r:List Lr)(p:Nat):Prop:=∀(i:Nat) lr,r[i]?=some lr->∃w,qp bg lr=some w/\aW[p+i]?=some w
def Vh (aW:List Rw)(bg:List Nat)(N:List Lt)(k:Nat):Prop:=∀(i:Nat) nb,N[i]?=some nb->∃to e,bg[k+i]?=some to/\At aW nb.2 nb.1 to e/\aW[e]?=some .back
section
variable {aW:List Rw}{bg:List Nat}
theorem Sub.left {a b:aP Lr}{p:Nat}(h:Sub aW bg (a++b) p):Sub aW bg a p:=λi lr e=>h i lr (by rw[afC (ahW e).1];exact e)
theorem Sub.right {a b:aP Lr}{p:Nat}(h:Sub aW bg (a++b) p):Sub aW bg b (p+a.length):=λi lr e=>by
 have:=h (a.length+i) lr (by rw[afS (by exact afF _ _)];simpa using e)
 rwa [<-af2]at this
theorem Sub.one {w:Rw}{p:Nat}(h:Sub aW bg [.row w] p):aW[p]?=some w:=by
 obtain⟨w',e,g⟩:=h 0 _ rfl;cases e;exact g
theorem Vh.left {a b:aP Lt}{k:Nat}(h:Vh aW bg (a++b) k):Vh aW bg a k:=λi lr e=>h i lr (by rw[afC (ahW e).1];exact e)
theorem Vh.right {a b:aP Lt}{k:Nat}(h:Vh aW bg (a++b) k):Vh aW bg b (k+a.length):=λi lr e=>by
 have:=h (a.length+i) lr (by rw[afS (by exact afF _ _)];simpa using e)
 rwa [<-af2]at this
mutual
theorem gH {ab:Bool}:∀{t:Tm} {own:List Nat} {L:List Lt} {p m:Nat} {r:List Lr} {L':List Lt},GT m t->comp ab t own L p=some (r,L')->∃N,L'=L++N/\(Sub aW bg r p->Vh aW bg N L.length->At aW t own p (p+r.length))
 |.n i,own,L,p,m,r,L',g,h=>by
  cases h;exact⟨[],by simp,λs _=>⟨g,s.one,rfl⟩⟩
 |.g i,own,L,p,m,r,L',g,h=>by
  cases h;exact⟨[],by simp,λs _=>⟨s.one,rfl⟩⟩
 |.v x,own,L,p,m,r,L',g,h=>by
  unfold comp at h;cases e:nY x own with
  |none=>rw[e]at h;cases h
  |some j=>
   rw[e]at h;cases h;exact⟨[],by simp,λs _=>⟨j,e,s.one,rfl⟩⟩
 |.fn x b,own,L,p,m,r,L',g,h=>by
  unfold comp at h;cases e:nZ own (namesOf ab own) with
  |none=>rw[e]at h;cases h
  |some js=>
   rw[e]at h;cases h;refine⟨[(namesOf ab own++[x],b)],rfl,λs l=>?_⟩;obtain⟨to,e1,h1,h2,h3⟩:=l 0 _ rfl;obtain⟨w,hw,hc⟩:=s 0 _ rfl;unfold qp at hw;rw[Nat.add_zero]at h1;dsimp only at hw;rw[h1]at hw;cases hw;exact⟨to,js,namesOf ab own,e1,e,qm ab own,hc,rfl,h2,h3⟩
 |.lt x t b,own,L,p,m,r,L',g,h=>by
  obtain⟨hx,g1,g2⟩:=g;unfold comp at h;cases e1:comp ab t own L p with
  |none=>rw[e1]at h;cases h
  |some q1=>
   obtain⟨r1,L1⟩:=q1;rw[e1]at h;dsimp only at h;cases e2:comp ab b (own++[x]) L1 (p+r1.length+1) with
   |none=>rw[e2]at h;cases h
   |some q2=>
    obtain⟨r2,L2⟩:=q2;rw[e2]at h;cases h;obtain⟨N1,rfl,k1⟩:=gH g1 e1;obtain⟨N2,rfl,k2⟩:=gH g2 e2;refine⟨N1++N2,by simp,λs l=>?_⟩;have s4:=s.right;have s3:=s.left.right;have s2:=s.left.left.right;have s1:=s.left.left.left;simp only[afu,afz]at s2 s3 s4 ⊢;refine⟨p+r1.length,p+r1.length+1+r2.length,k1 s1 l.left,s2.one,?_,?_,by omega⟩
    ·refine k2 (by rw[af2];exact s3) ?_
     rw[afu];exact l.right
    ·have:=s4.one
     rwa [show p+(r1.length+1+r2.length)=p+r1.length+1+r2.length by omega]at this
 |.rK c a b,own,L,p,m,r,L',g,h=>by
  obtain⟨g0,g1,g2⟩:=g;unfold comp at h;cases e1:comp ab c own L p with
  |none=>rw[e1]at h;cases h
  |some q1=>
   obtain⟨r1,L1⟩:=q1;rw[e1]at h;dsimp only at h;cases e2:comp ab a own L1 (p+r1.length+1) with
   |none=>rw[e2]at h;cases h
   |some q2=>
    obtain⟨r2,L2⟩:=q2;rw[e2]at h;dsimp only at h;cases e3:comp ab b own L2 (p+r1.length+1+r2.length+1) with
    |none=>rw[e3]at h;cases h
    |some q3=>
     obtain⟨r3,L3⟩:=q3;rw[e3]at h;cases h;obtain⟨N1,rfl,k1⟩:=gH g0 e1;obtain⟨N2,rfl,k2⟩:=gH g1 e2;obtain⟨N3,rfl,k3⟩:=gH g2 e3;refine⟨N1++N2++N3,by simp,λs l=>?_⟩;have s5:=s.right;have s4:=s.left.right;have s3:=s.left.left.right;have s2:=s.left.left.left.right;have s1:=s.left.left.left.left;have l3:=l.right;have l2:=l.left.right;simp only[afu,afz]at s2 s3 s4 s5 l2 l3 k2 k3 ⊢;refine⟨p+r1.length,p+r1.length+1+r2.length,k1 s1 l.left.left,s2.one,k2 (by rw[af2];exact s3) l2,?_,?_⟩
     ·have:=s4.one
      rw[show p+(r1.length+1+r2.length)=p+r1.length+1+r2.length by omega]at this;rw[this,show p+(r1.length+1+r2.length+1+r3.length)=p+r1.length+1+r2.length+1+r3.length by omega]
     ·rw[show p+(r1.length+1+r2.length+1+r3.length)=p+r1.length+1+r2.length+1+r3.length by omega]
      refine k3 ?_ (by rw[af2];exact l3)
      rwa [show p+(r1.length+1+r2.length+1)=p+r1.length+1+r2.length+1 by omega]at s5
 |.op k a b,own,L,p,m,r,L',g,h=>by
  obtain⟨hk,g1,g2⟩:=g;unfold comp at h;cases e1:comp ab a own L p with
  |none=>rw[e1]at h;cases h
  |some q1=>
   obtain⟨r1,L1⟩:=q1;rw[e1]at h;dsimp only at h;cases e2:comp ab b own L1 (p+r1.length) with
   |none=>rw[e2]at h;cases h
   |some q2=>
    obtain⟨r2,L2⟩:=q2;rw[e2]at h;cases h;obtain⟨N1,rfl,k1⟩:=gH g1 e1;obtain⟨N2,rfl,k2⟩:=gH g2 e2;refine⟨N1++N2,by simp,λs l=>?_⟩;have s3:=s.right;have s2:=s.left.right;have s1:=s.left.left;simp only[afu,afz]at s2 s3 ⊢;refine⟨p+r1.length,p+r1.length+r2.length,hk,k1 s1 l.left,k2 s2 (by rw[afu];exact l.right),?_,by omega⟩;have:=s3.one
    rwa [<-af2]at this
 |.call a b,own,L,p,m,r,L',g,h=>by
  obtain⟨g1,g2⟩:=g;unfold comp at h;cases e1:comp ab a own L p with
  |none=>rw[e1]at h;cases h
  |some q1=>
   obtain⟨r1,L1⟩:=q1;rw[e1]at h;dsimp only at h;cases e2:comp ab b own L1 (p+r1.length) with
   |none=>rw[e2]at h;cases h
   |some q2=>
    obtain⟨r2,L2⟩:=q2;rw[e2]at h;cases h;obtain⟨N1,rfl,k1⟩:=gH g1 e1;obtain⟨N2,rfl,k2⟩:=gH g2 e2;refine⟨N1++N2,by simp,λs l=>?_⟩;have s3:=s.right;have s2:=s.left.right;have s1:=s.left.left;simp only[afu,afz]at s2 s3 ⊢;refine⟨p+r1.length,p+r1.length+r2.length,k1 s1 l.left,k2 s2 (by rw[afu];exact l.right),?_,by omega⟩;have:=s3.one
    rwa [<-af2]at this
 |.block k ts,own,L,p,m,r,L',g,h=>by
  obtain⟨l5,gl⟩:=g;unfold comp at h;cases e1:kJ ab ts own L p with
  |none=>rw[e1]at h;cases h
  |some q1=>
   obtain⟨r1,L1⟩:=q1;rw[e1]at h;cases h;obtain⟨N,rfl,k1⟩:=yg gl e1;refine⟨N,rfl,λs l=>⟨p+r1.length,k1 s.left l,s.right.one,l5,by simp;exact rfl⟩⟩
 |.field j t,own,L,p,m,r,L',g,h=>by
  unfold comp at h;cases e1:comp ab t own L p with
  |none=>rw[e1]at h;cases h
  |some q1=>
   obtain⟨r1,L1⟩:=q1;rw[e1]at h;cases h;obtain⟨N,rfl,k1⟩:=gH (t:=t) g e1;refine⟨N,rfl,λs l=>⟨p+r1.length,k1 s.left l,s.right.one,by simp;exact rfl⟩⟩
 |.case x t ms bs,own,L,p,m,r,L',g,h=>by
  obtain⟨hx,g1,g2⟩:=g;subst hx;unfold comp at h;cases e1:comp ab t own L p with
  |none=>rw[e1]at h;cases h
  |some q1=>
   obtain⟨r1,L1⟩:=q1;rw[e1]at h;dsimp only at h;cases e2:jN ab bs ms x own L1 (p+r1.length+1) with
   |none=>rw[e2]at h;cases h
   |some q2=>
    obtain⟨rs,L2⟩:=q2;rw[e2]at h;cases h;obtain⟨N1,rfl,k1⟩:=gH g1 e1;obtain⟨N2,rfl,lr,k2⟩:=yh g2 e2;refine⟨N1++N2,by simp,λs l=>?_⟩;have s3:=s.right;have s2:=s.left.right;have s1:=s.left.left;simp only[afu,afz,jM]at s3 ⊢;refine⟨p+r1.length,jJ rs<|p+r1.length+1,k1 s1 l.left,s2.one,by rw[xZ,lr],?_⟩;have:=k2 (p+r1.length+1+cN rs) (by rwa [show p+(r1.length+1)=p+r1.length+1 by exact rfl]at s3) (by rw[afu];exact l.right)
    rwa [show p+(r1.length+1+cN rs)=p+r1.length+1+cN rs by omega]
theorem yg {ab:Bool}:∀{ts:List Tm} {own:List Nat} {L:List Lt} {p m:Nat} {r:List Lr} {L':List Lt},Qj m ts->kJ ab ts own L p=some (r,L')->∃N,L'=L++N/\(Sub aW bg r p->Vh aW bg N L.length->AtS aW ts own p (p+r.length))
 |[],own,L,p,m,r,L',g,h=>by
  cases h;exact⟨[],by simp,λ_ _=>rfl⟩
 |t::ts,own,L,p,m,r,L',⟨g1,g2⟩,h=>by
  unfold kJ at h;cases e1:comp ab t own L p with
  |none=>rw[e1]at h;cases h
  |some q1=>
   obtain⟨r1,L1⟩:=q1;rw[e1]at h;dsimp only at h;cases e2:kJ ab ts own L1 (p+r1.length) with
   |none=>rw[e2]at h;cases h
   |some q2=>
    obtain⟨r2,L2⟩:=q2;rw[e2]at h;cases h;obtain⟨N1,rfl,k1⟩:=gH g1 e1;obtain⟨N2,rfl,k2⟩:=yg g2 e2;refine⟨N1++N2,by simp,λs l=>⟨p+r1.length,k1 s.left l.left,?_⟩⟩;rw[afu,<-af2];exact k2 s.right (by rw[afu];exact l.right)
theorem yh {ab:Bool}:∀{bs:List Tm} {ms:List Nat} {own:List Nat} {L:List Lt} {p x:Nat} {rs:List (List Lr×Nat)} {L':List Lt},DY x bs ms->jN ab bs ms x own L p=some (rs,L')->∃N,L'=L++N/\rs.length=bs.length/\∀q,Sub aW bg (eG rs q) p->Vh aW bg N L.length->AtA aW bs ms x own q p (jJ rs p)
 |[],ms,own,L,p,x,rs,L',g,h=>by
  unfold jN at h;cases h;exact⟨[],by simp,rfl,λq _ _=>trivial⟩
 |b::bs,ms,own,L,p,x,rs,L',⟨k,CV,hm,k5,g1,g2⟩,h=>by
  subst hm;unfold jN at h;cases e1:comp ab b (own++nms x k) L p with
  |none=>rw[e1]at h;cases h
  |some q1=>
   obtain⟨r1,L1⟩:=q1;rw[e1]at h;dsimp only at h;cases e2:jN ab bs CV x own L1 (p+r1.length+2) with
   |none=>rw[e2]at h;cases h
   |some q2=>
    obtain⟨rs2,L2⟩:=q2;rw[e2]at h;cases h;obtain⟨N1,rfl,k1⟩:=gH g1 e1;obtain⟨N2,rfl,lr,k2⟩:=yh g2 e2;refine⟨N1++N2,by simp,by simp[lr],λq s l=>?_⟩;unfold eG at s;have s4:=s.right;have s3:=s.left.right;have s2:=s.left.left.right;have s1:=s.left.left.left;simp only[afu,afz]at s3 s4;refine⟨k,CV,jJ rs2<|p+r1.length+2,p+r1.length,rfl,rfl,k5,k1 s1 l.left,s2.one,?_,k2 q ?_<|by rw[afu];exact l.right⟩
    ·have:=s3.one
     rwa [<-af2]at this
    ·rwa [show p+(r1.length+1+1)=p+r1.length+2 by exact rfl]at s4
end
end
theorem vd {bg:List Nat}:∀{aY:List Lr},(∀x∈aY,okR bg.length x)->∃aW,oh bg aY=some aW/\aW.length=aY.length/\∀(i:Nat) lr,aY[i]?=some lr->∃w,qp bg lr=some w/\aW[i]?=some w
 |[],_=>⟨[],rfl,rfl,λi lr e=>by simp at e⟩
 |y::ys,h=>by
  obtain⟨aW,e,l,g⟩:=vd (bg:=bg) λx hx=>h x (afA _ hx);have hw:∃w,qp bg y=some w:=by
   have:=h y afE;cases y with
   |row r=>exact⟨r,rfl⟩
   |late k js=>
    have hk:k<bg.length:=this;exact⟨.close bg[k] js,by show(bg[k]?).map _=_;rw[afw hk];rfl⟩
   |hole=>exact this.elim
  obtain⟨w,hw⟩:=hw;refine⟨w::aW,by unfold oh;rw[hw,e],by simp[l],λi lr hi=>?_⟩;cases i with
  |zero=>simp at hi;subst hi;exact⟨w,hw,rfl⟩
  |succ i=>
   obtain⟨w',h1,h2⟩:=g i lr (by simpa using hi);exact⟨w',h1,by simpa using h2⟩
def Placed (ab:Bool)(gQ:List Lr)(LF:List Lt)(su:List Nat)(k:Nat)(nb:Lt):Prop:=∃st r Lk N,su[k]?=some st/\comp ab nb.2 nb.1 Lk st=some (r,Lk++N)/\k<Lk.length/\(∀(i:Nat) x,N[i]?=some x->LF[Lk.length+i]?=some x)/\∀(i:Nat) lr,(r++[.row .back])[i]?=some lr->gQ[st+i]?=some lr
theorem yj {ab:Bool}{B:Nat}:∀(m:Nat) (aY:List Lr) (L:List Lt) (bg:List Nat),rm (L.drop bg.length)<m->(∀x∈aY,okR L.length x)->(∀nb∈L,yd nb)->bg.length<=L.length->aY.length+rm (L.drop bg.length)<=B->L.length+rm (L.drop bg.length)<=B->
  ∃gQ LF su,bodies ab m aY L bg=some (gQ,LF,su)/\(∃X,gQ=aY++X)/\(∃Y,LF=L++Y)/\(∃Z,su=bg++Z)/\su.length=LF.length/\gQ.length<=B/\LF.length<=B/\(∀x∈gQ,okR LF.length x)/\(∀nb∈LF,yd nb)/\∀(k:Nat) nb,bg.length<=k->LF[k]?=some nb->Placed ab gQ LF su k nb
 |0,_,_,_,h,_,_,_,_,_=>absurd h (ahF _)
 |m+1,aY,L,bg,hm,hr,hl,hb,b1,b2=>by
  unfold bodies;cases hat:L[bg.length]? with
  |none=>
   rw[ahr]at hat;exact⟨aY,L,bg,rfl,⟨[],by simp⟩,⟨[],by simp⟩,⟨[],by simp⟩,by omega,by exact afy (afF _ _) b1,by exact afy (afF _ _) b2,hr,hl,λk nb hk e=>absurd (ahW e).1<|by omega⟩
  |some nb=>
   have jf:bg.length<L.length:=(ahW hat).1;have ok:=hl nb (agk hat);obtain⟨names,x,en,mem,gt,h40,Zy,h12⟩:=ok;obtain⟨r,L',N,ec,M⟩:=fu (ab:=ab) (t:=nb.2) (own:=nb.1) (L:=L) (p:=aY.length) gt (by rw[en];exact tM mem) h40 Zy (by exact aga h12);have eL:=M.ex;subst eL
   try dsimp only
   rw[ec]
   try dsimp only
   have dr:L.drop bg.length=nb::L.drop (bg.length+1):=by
    rw[af3 jf];congr 1;have:=(ahW hat).2;exact this
   have ph:rm (L.drop bg.length)=2*sz nb.2+1+rm (L.drop<|bg.length+1):=by rw[dr];unfold rm;rw[afW,ahn]
   have dr2:(L++N).drop (bg++[aY.length]).length=L.drop (bg.length+1)++N:=by
    rw[afu,afz,List.drop_append_of_le_length (by exact jf)]
   have ph2:rm ((L++N).drop (bg++[aY.length]).length)=rm (L.drop<|bg.length+1)+rm N:=by rw[dr2,ji]
   have m1:=M.lr;have m2:=M.ln;obtain⟨gQ,LF,su,e,⟨X,eX⟩,⟨Y,eY⟩,⟨Z,eZ⟩,c1,c2,c3,c4,c5,c6⟩:=yj (ab:=ab) (B:=B) m (aY++r++[.row .back]) (L++N) (bg++[aY.length]) (by rw[ph2];omega) (λy hy=>by
    simp only[agd,afN]at hy;rcases hy with (z|z)|z
    ·exact(hr y z).mono (by rw[afu];exact afF _ _)
    ·exact M.rw y z
    ·subst z;trivial) (λq hq=>by
    rcases agd.mp hq with z|z
    ·exact hl q z
    ·exact M.ok q z) (by simp only[afu,afz];omega) (by rw[ph2];simp only[afu,afz];omega) (by rw[ph2];simp only[afu];omega)
   refine⟨gQ,LF,su,e,⟨r++[.row .back]++X,by rw[eX];simp⟩,⟨N++Y,by rw[eY];simp⟩,⟨[aY.length]++Z,by rw[eZ];simp⟩,c1,c2,c3,c4,c5,λk nb' hk hnb=>?_⟩;by_cases z:k=bg.length
   ·subst z
    have e0:LF[bg.length]?=some nb:=by rw[eY,afM,afC jf];exact hat
    rw[e0]at hnb;cases hnb;refine⟨aY.length,r,L,N,by rw[eZ,afM,afS (afv _)];simp,ec,jf,λi x' hx=>?_,λi lr hi=>?_⟩
    ·rw[eY,afM,afS (by exact afF _ _),agz,afC (ahW hx).1]
     exact hx
    ·rw[eX,afM,afM,<-afM r,afS (by exact afF _ _),agz,afC (ahW hi).1]
     exact hi
   ·exact c6 k nb' (by simp only[afu,afz];omega) hnb
theorem Aj {ab:Bool}{gQ:List Lr}{LF:List Lt}{su:List Nat}{aW:List Rw}(hw:∀(i:Nat) lr,gQ[i]?=some lr->∃w,qp su lr=some w/\aW[i]?=some w)(ok:∀nb∈LF,yd nb)(pl:∀(k:Nat) nb,LF[k]?=some nb->Placed ab gQ LF su k nb):
  ∀(n k:Nat) nb,LF.length<=n+k->LF[k]?=some nb->∃to e,su[k]?=some to/\At aW nb.2 nb.1 to e/\aW[e]?=some .back
 |0,k,nb,hn,h=>absurd (ahW h).1 (by omega)
 |n+1,k,nb,hn,h=>by
  obtain⟨st,r,Lk,N,e1,e2,e3,e4,e5⟩:=pl k nb h;obtain⟨names,x,en,mem,gt,h40,Zy,h12⟩:=ok nb (agk h);obtain⟨N',eN,g⟩:=gH (aW:=aW) (bg:=su) gt e2;have:N'=N:=ag3 eN.symm;subst this;have sub:Sub aW su (r++[.row .back]) st:=λi lr hi=>hw _ _ (e5 i lr hi);refine⟨st,st+r.length,e1,g sub.left λi nb' hi=>?_,sub.right.one⟩;exact Aj hw ok pl n (Lk.length+i) nb' (by omega)<|e4 i nb' hi
def Gj (aW:List Rw):List Tm->Tm->Nat->Prop
 |[],t,p=>∃q,At aW t [] p q/\aW[q]?=some .back
 |u::us,t,p=>∃p1,At aW u [] p p1/\aW[p1]?=some .store/\Gj aW us t (p1+1)
noncomputable def WW (us:List Tm)(t:Tm):Nat:=(us.map λu=>2*sz u+1).sum+2*sz t+1
def Own (t:Tm):Prop:=GT 0 t/\dep t<=10
structure adb (L:List Lt)(n:Nat)(X:List Lr)(L' N:List Lt):Prop where
 ex:L'=L++N
 lr:X.length+rm N<=n
 ln:N.length+rm N<=n
 ok:∀q∈N,yd q
 rw:∀x∈X,okR L'.length x
theorem vf {ab:Bool}:∀{us:List Tm} {t:Tm} {aY:List Lr} {L:List Lt},(∀u∈us,Own u)->Own t->∃X L' N,jT ab us t aY L=some (aY++X,L')/\adb L (WW us t) X L' N/\∀aW bg,Sub aW bg X aY.length->Vh aW bg N L.length->Gj aW us t aY.length
 |[],t,aY,L,hu,ht=>by
  obtain⟨r,L',N,e,M⟩:=fu (ab:=ab) (t:=t) (own:=[]) (L:=L) (p:=aY.length) ht.1 (λy=>by simp) (by have:=ht.2;omega) (by have:=ht.2;simp;omega) (by have:=ht.2;exact this);refine⟨r++[.row .back],L',N,by unfold jT;rw[e];simp,⟨M.ex,?_,?_,M.ok,λx hx=>?_⟩,λaW bg s l=>?_⟩
  ·have:=M.lr;unfold WW;simp;omega
  ·have:=M.ln;unfold WW;simp;exact aga this
  ·rcases agd.mp hx with z|z
   ·exact M.rw x z
   ·rw[afN]at z;subst z;trivial
  ·obtain⟨N',e',g⟩:=gH (aW:=aW) (bg:=bg) ht.1 e
   have:N'=N:=ag3 (e'.symm.trans M.ex);subst this;exact⟨_,g s.left l,s.right.one⟩
 |u::us,t,aY,L,hu,ht=>by
  have h1:=hu u afE;obtain⟨r,L1,N1,e,M⟩:=fu (ab:=ab) (t:=u) (own:=[]) (L:=L) (p:=aY.length) h1.1 (λy=>by simp) (by have:=h1.2;omega) (by have:=h1.2;simp;omega) (by have:=h1.2;exact this);obtain⟨X,L2,N2,e2,M2,g2⟩:=vf (ab:=ab) (us:=us) (t:=t) (aY:=aY++r++[.row .store]) (L:=L1) (λv hv=>hu v<|afA _ hv) ht;have el:L2.length=L1.length+N2.length:=by rw[M2.ex,afu]
  refine⟨r++[.row .store]++X,L2,N1++N2,by unfold jT;rw[e];dsimp only;rw[e2];simp,⟨M2.ex.trans<|(congrArg (·++N2) M.ex).trans (afM _ _ _),?_,?_,λq hq=>?_,λx hx=>?_⟩,λaW bg s l=>?_⟩
  ·have:=M.lr;have:=M2.lr;unfold WW at this ⊢;rw[ji];simp only[afW,ahn,afu,afz];omega
  ·have:=M.ln;have:=M2.ln;unfold WW at this ⊢;rw[ji];simp only[afW,ahn,afu];omega
  ·rcases agd.mp hq with z|z
   ·exact M.ok q z
   ·exact M2.ok q z
  ·simp only[agd,afN]at hx
   rcases hx with (z|z)|z
   ·exact(M.rw x z).mono (by omega)
   ·subst z;trivial
   ·exact M2.rw x z
  ·obtain⟨N',e',g⟩:=gH (aW:=aW) (bg:=bg) h1.1 e
   have:N'=N1:=ag3 (e'.symm.trans M.ex);subst this;have s3:=s.right;have s2:=s.left.right;have g3:=g2 aW bg;simp only[afu,afz]at s3 g3;refine⟨_,g s.left.left l.left,s2.one,?_⟩;rw[af2];refine g3 s3 ?_;have:=l.right;rw[M.ex,afu];exact this
def S7 (ab:Bool)(us:List Tm)(t:Tm)(aW:List Rw):Prop:=∃m aY L gQ LF su,jT ab us t [] []=some (aY,L)/\bodies ab m aY L []=some (gQ,LF,su)/\gQ.length<=50000/\LF.length<=50000/\oh su gQ=some aW
theorem WX (ab:Bool){us:aP Tm}{t:Tm}(hu:∀u∈us,Own u)(ht:Own t)(hs:WW us t<=50000):∃aW,S7 ab us t aW/\Gj aW us t 0:=by
 obtain⟨X,L,N,e,M,g⟩:=vf (ab:=ab) (us:=us) (t:=t) (aY:=[]) (L:=[]) hu ht;have eL:=M.ex;rw[agQ]at eL e;subst eL;obtain⟨gQ,LF,su,eb,⟨X2,eX⟩,⟨Y,eY⟩,⟨Z,eZ⟩,c1,c2,c3,c4,c5,c6⟩:=yj (ab:=ab) (B:=50000) (rm L+1) X L [] (by simp) M.rw M.ok (by simp) (by have:=M.lr;simp;omega) (by have:=M.ln;simp;omega);obtain⟨aW,ew,lw,hw⟩:=vd (bg:=su) (aY:=gQ) (by rw[c1];exact c4);refine⟨aW,⟨_,_,_,_,_,_,e,eb,c2,c3,ew⟩,g aW su (λi lr hi=>?_) λi nb hi=>?_⟩
 ·rw[show([]:aP Lr).length=0 from rfl,ag1]
  exact hw i lr (by rw[eX,afC (ahW hi).1];exact hi)
 ·rw[show([]:aP Lt).length=0 from rfl,ag1]
  exact Aj hw c5 (λk nb h=>c6 k nb (by simp) h) LF.length i nb (by exact afF _ _) (by rw[eY,afC (ahW hi).1];exact hi)
noncomputable def rz (most:Int)(m:Nat):List Tm->Tm->List Vl->Nat->Option (Rs×Nat)
 |[],t,S,c=>ev most S m 0 t [] c
 |u::us,t,S,c=>match ev most S m 0 u [] c with
  |some (.val v,c1)=>rz most m us t (S++[v]) c1
  |r=>r
def ZC (M R:Nat):List Kd->List Tm->Tm->Prop
 |S,[],t=>WT M R S [] t .n/\dep t<=10
 |S,u::us,t=>∃k,WT M R S [] u k/\dep u<=10/\ZC M R (S++[k]) us t
theorem ZC.own {M R:Nat}:∀{us:List Tm} {t:Tm} {S:List Kd},ZC M R S us t->(∀u∈us,Own u)/\Own t
 |[],t,S,⟨h1,h2⟩=>⟨λu hu=>by simp at hu,h1.gt,by exact h2⟩
 |u::us,t,S,⟨k,h1,h2,h3⟩=>by
  obtain⟨g1,g2⟩:=ZC.own h3;refine⟨λv hv=>?_,g2⟩;rcases afU.mp hv with z|z
  ·subst z;exact⟨h1.gt,by exact h2⟩
  ·exact g1 v z
theorem Gk {S:aP Kd}{k:Kd}:∀(j:Nat) k',S[j]?=some k'->(S++[k])[j]?=some k':=λj k' h=>by rw[afC (ahW h).1];exact h
theorem vg {M R:Nat}{most:Int}:∀{us:List Tm} {t:Tm} {S:List Vl} {SK:List Kd} {c:Nat},ET M R SK S SK->ZC M R SK us t->∃r c',rz most 111 us t S c=some (r,c')/\(∀v,r=.val v->∃i,v=.num i)/\r≠.stuck
 |[],t,S,SK,c,hS,⟨h1,h2⟩=>by
  obtain⟨r,c',e,q⟩:=fP (most:=most) hS 111 0 t [] .n [] c h1 .nil h2 (by exact afY _) (by omega);exact⟨r,c',e,λv hv=>(by cases q.1 v hv with|num hi=>exact⟨_,rfl⟩),q.2⟩
 |u::us,t,S,SK,c,hS,⟨k,h1,h2,h3⟩=>by
  obtain⟨r,c1,e,q⟩:=fP (most:=most) hS 111 0 u [] k [] c h1 .nil h2 (by exact afY _) (by omega);unfold rz;rw[e];cases r with
  |val v=>exact vg ((ET.more Gk hS).snoc<|(q.1 v rfl).more Gk) h3
  |stuck=>exact absurd rfl q.2
  |long=>exact⟨_,_,rfl,λv z=>(by cases z),q.2⟩
  |deep=>exact⟨_,_,rfl,λv z=>(by cases z),q.2⟩
  |great=>exact⟨_,_,rfl,λv z=>(by cases z),q.2⟩
noncomputable def yp:Rs->Out
 |.val (.num i)=>.num i
 |.val (.fn _ _ _)=>.stuck
 |.val (.bl _ _)=>.stuck
 |.long=>.long
 |.deep=>.deep
 |.great=>.great
 |.stuck=>.stuck
theorem Lp {most:Int}{aW:List Rw}{m:Nat}:∀{us:List Tm} {t:Tm} {S:List Vl} {A:AS} {r:Rs} {c':Nat},rz most m us t S A.begun=some (r,c')->Gj aW us t A.pc->A.own=[]->A.outer=[]->A.pile=[]->(∀(j:Nat) w,S[j]?=some w->∃v,A.vL[j]?=some v/\VR aW w v)->A.vL.length=S.length->S.length+us.length<=100->(∀u∈us,Own u)->Own t->Ends most aW A (yp r)
 |[],t,S,A,r,c',h,⟨q,ha,hb⟩,h1,h2,h3,h4,h5,h6,hu,ht=>by
  have pr:Pre aW S 0 (dep t) [] [] A:=⟨by rw[h1];exact .nil,h4,by rw[h2];rfl,by exact afY _,by rw[h3];have:=ht.2;simp;omega,by have:=ht.2;simp;omega,by simp at h6;omega⟩;have P:=jw m 0 t [] [] q A r c' h ha pr ht.2 ht.1.wb;cases r with
  |val v=>
   obtain⟨v',hv,g⟩:=P.1 _ rfl;have bd:Bd {A with pile:=v'::A.pile,pc:=q,begun:=c'}:=⟨by show A.pile.length+1<=490;rw[h3];simp,pr.bd.o,pr.bd.s,pr.bd.u⟩;cases hv with
   |num hi=>exact g.ends<|aby (p:=A.pile) bd hb h2 rfl
   |fn=>exact g.ends<|SJ (p:=A.pile) bd hb h2 rfl trivial
   |bl=>exact g.ends<|SJ (p:=A.pile) bd hb h2 rfl trivial
  |long=>exact P.2 _ rfl
  |deep=>exact P.2 _ rfl
  |great=>exact P.2 _ rfl
  |stuck=>exact P.2 _ rfl
 |u::us,t,S,A,r,c',h,⟨p1,ha,hb,hc⟩,h1,h2,h3,h4,h5,h6,hu,ht=>by
  have hu1:=hu u afE;have pr:Pre aW S 0 (dep u) [] [] A:=⟨by rw[h1];exact .nil,h4,by rw[h2];rfl,by exact afY _,by rw[h3];have:=hu1.2;simp;omega,by have:=hu1.2;simp;omega,by simp at h6;omega⟩;unfold rz at h;cases e:ev most S m 0 u [] A.begun with
  |none=>rw[e]at h;cases h
  |some q=>
   obtain⟨r1,c1⟩:=q;have P:=jw m 0 u [] [] p1 A r1 c1 e ha pr hu1.2 hu1.1.wb;rw[e]at h;cases r1 with
   |val v=>
    obtain⟨v',hv,g⟩:=P.1 _ rfl;have g2:=do_store (most:=most) (A:={A with pile:=v'::A.pile,pc:=p1,begun:=c1}) ⟨by show A.pile.length+1<=490;rw[h3];simp,pr.bd.o,pr.bd.s,pr.bd.u⟩ hb rfl;refine(g.trans g2).ends (Lp (us:=us) (t:=t) (S:=S++[v]) h hc h1 h2 h3 (λj w hj=>?_) (by show(A.vL++[v']).length=_;rw[afu,afu,h5];rfl) (by rw[afu];simp at h6 ⊢;omega) (λx hx=>hu x<|afA _ hx) ht);show ∃z,(A.vL++[v'])[j]?=some z/\VR aW w z;by_cases c:j<S.length
    ·rw[afC c]at hj
     obtain⟨z,z1,z2⟩:=h4 j w hj;exact⟨z,by rw[afC (by exact afR c h5.symm)];exact z1,z2⟩
    ·have lj:j<(S++[v]).length:=(ahW hj).1
     rw[afu]at lj;have ej:j=S.length:=by simp at lj;omega
     subst ej;simp at hj;subst hj;exact⟨v',by rw[<-h5];simp,hv⟩
   |long=>cases h;exact P.2 _ rfl
   |deep=>cases h;exact P.2 _ rfl
   |great=>cases h;exact P.2 _ rfl
   |stuck=>cases h;exact P.2 _ rfl
def A0':AS:=⟨[],[],0,[],[],0,0⟩
theorem whole_run {M R:Nat}{most:Int}{us:aP Tm}{t:Tm}(h:ZC M R [] us t)(l:us.length<=90){aW:aP Rw}(ha:Gj aW us t 0):∃r c' n,rz most 111 us t [] 0=some (r,c')/\(∀v,r=.val v->∃i,v=.num i)/\r≠.stuck/\xV most aW n A0'=some (yp r):=by
 obtain⟨r,c',e,q,ns⟩:=vg (most:=most) (us:=us) (t:=t) (S:=[]) (SK:=[]) (c:=0) .nil h;obtain⟨h1,h2⟩:=h.own;obtain⟨k,g⟩:=Lp (most:=most) (aW:=aW) (A:=A0') e ha rfl rfl rfl (λj w hj=>by simp at hj) rfl (by simp;exact afy l<|by decide) h1 h2;exact⟨r,c',0+k,e,q,ns,g 0⟩
end Fw
namespace L2
open PySem.SeqAt
section
variable {X:Cx}
theorem rM:∀{bs:List Bool} {us:List ak},Vals (bs.map V.bl) us->us=bs.map Value.bool
 |[],us,r=>by cases r;rfl
 |b::bs,us,r=>by
  cases r with
  |cons a c=>rw[afW,<-rM c];cases(show _=Value.bool b from a);rfl
theorem Gm (k:Bool)(bs:aP Bool):∀y,y∈(bs.map Value.bool).toArray->∀(A:aq) (s:ao),EqAt A s y (.bool k) (isBoolOf k y):=λy hy A s=>by
 have hy':y∈bs.map Value.bool:=by simpa using hy
 obtain⟨b,_,rfl⟩:=List.mem_map.mp hy';exact EqAt.bool_bool b k
def WY:V->List V->Hp->VK->Prop:=λx vs H Q=>∃(l:aj) (bs:List Bool) (k:Bool),x=.ref l/\vs=[.bl k]/\H l=some (.lst<|bs.map V.bl)/\Q (.int ((bs.countP (·==k):Nat):Int)) H
theorem Oz:Y9 X "list.count" WY:=by
 intro bH s U H x vs v us Q I rx rv h;obtain⟨l,bs,k,rfl,rfl,hH,q⟩:=h;cases rx;obtain⟨u,rfl,ru⟩:=rv.one;cases(show u=Value.bool k from ru);obtain⟨z,bh,n,r,hl,e⟩:=I.uG hH;have ei:=rM r;subst ei;refine call_meets ahD ⟨_,e,rfl⟩ PySem.F.entry_list_count (PySem.F.args_list_count_2 _ _) (list_countAt l _ n none #[] (.bool k) (isBoolOf k)) ⟨e,λy hy=>Gm k bs y hy _ _,?_⟩;have ec:((bs.map Value.bool).toArray.toList.countP<|isBoolOf k)=bs.countP (·==k):=by
  rw[show(bs.map Value.bool).toArray.toList=bs.map Value.bool from rfl,List.countP_map]
  rfl
 rw[ec];exact⟨.int _,H,I.tok _,⟨_,rfl⟩,q⟩
def W0:V->List V->Hp->VK->Prop:=λx vs H Q=>∃(l:aj) (bs:List Bool) (k:Bool) (j:Nat),x=.ref l/\vs=[.bl k]/\H l=some (.lst<|bs.map V.bl)/\bs[j]?=some k/\(∀m,m<j->bs[m]?=some (!k))/\Q (.int (j:Int)) H
theorem OJ:Y9 X "list.index" W0:=by
 intro bH s U H x vs v us Q I rx rv h;obtain⟨l,bs,k,j,rfl,rfl,hH,hj,hno,q⟩:=h;cases rx;obtain⟨u,rfl,ru⟩:=rv.one;cases(show u=Value.bool k from ru);obtain⟨z,bh,n,r,hl,e⟩:=I.uG hH;have ei:=rM r;subst ei;have jf:j<bs.length:=(ahW hj).1;have h63:=oU;rw[afL]at z;refine call_meets agA ⟨_,e,rfl⟩ ahA (ahs _ _)
  (list_indexAt l _ n none #[] (.bool k) (isBoolOf k) j (by simpa using jf) (by omega) ?_ ?_) ⟨e,λy hy=>Gm k bs y hy _ _,⟨.int _,H,I.tok _,⟨_,rfl⟩,q⟩⟩
 ·have e1:(bs.map Value.bool).toArray[j]'(by simpa using jf)=.bool k:=by
   simp only[agV,List.getElem_map];rw[(ahW hj).2]
  rw[e1];show(k==k)=true;simp
 ·intro m hm hlt'
  have hm':=hno m hlt';have e1:(bs.map Value.bool).toArray[m]'hm=.bool (!k):=by
   simp only[agV,List.getElem_map];rw[(ahW hm').2]
  rw[e1];show((!k)==k)=false;cases k<;>rfl
end
section
variable {X:Cx}
def Lq:V->List V->Hp->VK->Prop:=λx vs H Q=>∃(l:aj) (zs:List Str) (z:Str) (j:Nat),x=.ref l/\vs=[.str z]/\H l=some (.lst<|zs.map V.str)/\zs[j]?=some z/\(∀m,m<j->∀y,zs[m]?=some y->y≠z)/\Q (.int (j:Int)) H
theorem Ak:Y9 X "list.index" Lq:=by
 intro bH s U H x vs v us Q I rx rv h;obtain⟨l,zs,z,j,rfl,rfl,hH,hj,hno,q⟩:=h;cases rx;obtain⟨u,rfl,ru⟩:=rv.one;obtain⟨tu,rfl⟩:=(show ∃t,u=Value.str z t from ru);obtain⟨hz,bh,n,r,hl,e⟩:=I.uG hH;have len:=r.length;rw[afL]at len hz;have jf:j<zs.length:=(ahW hj).1;have h63:=oU;have at_:∀m y,zs[m]?=some y->∃t,bh[m]?=some (Value.str y t):=λm y hm=>by
  obtain⟨w,e1,q1⟩:=r.get (i:=m) (x:=V.str y) (by rw[afJ,hm];rfl);obtain⟨t,rfl⟩:=(show ∃t,w=Value.str y t from q1);exact⟨t,e1⟩
 refine call_meets agA ⟨_,e,rfl⟩ ahA (ahs _ _)
  (list_indexAt l _ n none #[] (.str z tu) (Value.isStrOf z) j (by simp;exact afR jf len) (by omega) ?_ ?_) ⟨e,λy hy=>?_,⟨.int _,H,I.tok _,⟨_,rfl⟩,q⟩⟩
 ·obtain⟨t,h1⟩:=at_ j z hj
  have e1:bh.toArray[j]'(by simp;exact afR jf len)=.str z t:=by
   rw[agV];exact(ahW h1).2
  rw[e1];show(z==z)=true;simp
 ·intro m hm hlt'
  have hm2:m<zs.length:=by exact ahx hlt' jf
  obtain⟨t,h1⟩:=at_ m zs[m] (afw hm2);have e1:bh.toArray[m]'hm=.str zs[m] t:=by
   rw[agV];exact(ahW h1).2
  rw[e1];have:=hno m hlt' zs[m] (afw hm2);show(zs[m]==z)=false;simpa using this
 ·have hy':y∈bh:=by simpa using hy
  obtain⟨m,hm,rfl⟩:=ahj hy';have hm2:m<zs.length:=by exact afR hm len.symm
  obtain⟨t,h1⟩:=at_ m zs[m] (afw hm2);have e1:bh[m]=.str zs[m] t:=(ahW h1).2;rw[e1];exact EqAt.str_str zs[m] t z tu
end
end L2
namespace PySem
open PyProof.Rows
section
variable {prog:aA}{w:aG}{A:aq}{s:ao}{R:Result->ao->Prop}
end
section
variable {prog:aA}{w:aG}{A:aq}{E:ak->ao->Prop}{s:ao}
end
end PySem
namespace L2
section
variable {X:Cx}
end
end L2
namespace Fw
open L2
theorem Gn {K:aN}{H:Hp}{a:aj}{xs:aP V}{tt:TT}{te:TE}{U':L2.St}{Q:VK}(Pv:Nat->aP V->Hp->Prop)(h0:Pv 0 [] H)(hl:∀i vs H,i<=xs.length->Pv i vs H->dD K H a xs/\vs.length<sizeLine)
  (hs:∀i x vs H2,i<xs.length->xs[i]?=some x->Pv i vs H2->tt (some x::U') H2 λb H4=>if b=true then te (some x::U') H4 λv H5=>Nx xs.length i (Pv (i+1) (vs++[v]) H5) else Nx xs.length i (Pv (i+1) vs H4))
  (hd:∀vs H2,Pv xs.length vs H2->∀l,H2 l=none->Q (.ref l) (upd H2 l<|.lst vs)):Fe (Itl K a) tt te U' Q H:=by
 refine⟨λi m vs H=>m=xs.length-i/\i<=xs.length/\Pv i vs H,⟨xs.length,by simp,afY _,h0⟩,?_⟩;rintro i m vs H2 ⟨rfl,hi,p⟩;obtain⟨q1,q2⟩:=hl i vs H2 hi p;refine⟨q2,?_⟩;by_cases jf:i<xs.length
 ·refine .inr ⟨⟨xs,xs[i],q1,by simp[jf]⟩,?_⟩
  rintro x H3 ⟨e,y⟩;subst e;exact hs i x vs _ jf (y xs q1) p
 ·have e:i=xs.length:=by exact ago hi (Nat.not_lt.mp jf)
  subst e;exact .inl ⟨⟨xs,q1,afv _⟩,hd vs H2 p⟩
theorem psW {X:Cx}{b:aJ}{t t':TS}(h:PS X b t)(k:∀D U H,t' D U H->t D U H):PS X b t':=λbH s U H D I q=>h bH s U H D I (k D U H q)
theorem O1 {X:Cx}{b:aP aJ}{t t':TS}(h:yR X b t)(k:∀D U H,t' D U H->t D U H):yR X b t':=λbH s U H D I q=>h bH s U H D I (k D U H q)
noncomputable def iz (x:Nat):Str:="x"++(toString (x:Int):Str)
noncomputable def dZ (own:List Nat):List V:=(own.map iz).map V.str
theorem iK (own:aP Nat):(dZ own).length=own.length:=by unfold dZ;rw[afL,afL]
theorem CZ:∀x,x<150->∀y,y<150->iz x=iz y->x=y:=by decide+kernel
def S8 (own:List Nat):Prop:=∀x∈own,x<150
theorem Jq:∀{own:List Nat} {x j:Nat},S8 own->nY x own=some j->(own.map iz)[j]?=some (iz x)/\∀m,m<j->∀y,(own.map iz)[m]?=some y->y≠iz x
 |[],x,j,_,h=>by cases h
 |y::ys,x,j,n,h=>by
  unfold nY at h;by_cases c:x=y
  ·rw[ahK c]at h
   cases h;subst c;exact⟨rfl,λm hm=>absurd hm<|ahF _⟩
  ·rw[ahL c]at h
   cases e:nY x ys with
   |none=>rw[e]at h;cases h
   |some k=>
    rw[e]at h;cases h;obtain⟨h1,h2⟩:=Jq (λz hz=>n z<|afA _ hz) e;refine⟨by simpa using h1,λm hm z hz=>?_⟩;cases m with
    |zero=>
     simp at hz;subst hz;intro e2;have mx:x∈ys:=by
      rw[afJ]at h1;cases q:ys[k]? with
      |none=>rw[q]at h1;cases h1
      |some u=>
       rw[q]at h1;have h3:iz u=iz x:=ahR h1;have mu:u∈ys:=agk q;have lu:=n u (afA _ mu);have ly:=n y afE;exact absurd (CZ u lu y ly<|h3.trans e2.symm) (by
        intro e4;subst e4;have:nY x ys=some k:=e;have gen:∀(zs:List Nat) (k:Nat),nY x zs=some k->zs[k]?=some x:=λzs=>by
         induction zs with
         |nil=>intro k h;cases h
         |cons a as ih=>
          intro k h;unfold nY at h;by_cases c:x=a
          ·rw[ahK c]at h;cases h;subst c;rfl
          ·rw[ahL c]at h
           cases e:nY x as with
           |none=>rw[e]at h;cases h
           |some m=>rw[e]at h;cases h;simpa using ih m e
        have:=gen ys k e;rw[q]at this;exact c (ahR this).symm)
     exact c<|CZ x (n x<|afA _ mx) y (n y afE) e2.symm
    |succ m=>exact h2 m (by have:m+1<k+1:=hm;exact agw this) z (by simpa using hz)
theorem tQ {own:List Nat}:∀{ns js:List Nat},nZ own ns=some js->js.length=ns.length/\∀(i x:Nat),ns[i]?=some x->∃j,js[i]?=some j/\nY x own=some j
 |[],js,h=>by cases h;exact⟨rfl,λi x e=>by simp at e⟩
 |y::ys,js,h=>by
  unfold nZ at h;split at h
  ·rename_i a as e1 e2
   cases h;obtain⟨l,g⟩:=tQ e2;refine⟨by simp[l],λi x e=>?_⟩;cases i with
   |zero=>simp at e;subst e;exact⟨a,rfl,e1⟩
   |succ i=>
    obtain⟨j,h1,h2⟩:=g i x (by simpa using e);exact⟨j,by simpa using h1,h2⟩
  ·cases h
def ni {α:Type}(R:V->α->Prop)(vs:List V)(rs:List α):Prop:=vs.length=rs.length/\∀(i:Nat) (r:α),rs[i]?=some r->∃v,vs[i]?=some v/\R v r
theorem ni.nil {α:Type}{R:V->α->Prop}:ni R [] []:=⟨rfl,λi r h=>by simp at h⟩
theorem ni.mono {α:Type}{R S:V->α->Prop}{vs:aP V}{rs:aP α}(a:ni R vs rs)(k:∀v r,R v r->S v r):ni S vs rs:=⟨a.1,λi r h=>by
 obtain⟨v,h1,h2⟩:=a.2 i r h;exact⟨v,h1,k _ _ h2⟩⟩
theorem ni.snoc {α:Type}{R:V->α->Prop}{vs:aP V}{rs:aP α}{v:V}{r:α}(a:ni R vs rs)(h:R v r):ni R (vs++[v]) (rs++[r]):=by
 refine⟨by simp[a.1],λi x hx=>?_⟩;by_cases c:i<rs.length
 ·rw[afC c]at hx
  obtain⟨u,h1,h2⟩:=a.2 i x hx;exact⟨u,by rw[afC (by rw[a.1];exact c)];exact h1,h2⟩
 ·have l:i<(rs++[r]).length:=(ahW hx).1
  rw[afu]at l;have e:i=rs.length:=by simp at l;omega
  subst e;simp at hx;subst hx;exact⟨v,by rw[<-a.1];simp,h⟩
def yV (H H':Hp):Prop:=∀b ys,H b=some (.tup ys)->H' b=some (.tup ys)
mutual
inductive iW (H:Hp):V->Tm->Prop where
 |n {r:aj} {i:Int}:H r=some (.tup [.str "n", .int i])->iW H (.ref r) (.n i)
 |v {r:aj} {x:Nat}:H r=some (.tup [.str "v", .str (iz x)])->iW H (.ref r) (.v x)
 |g {r:aj} {j:Nat}:H r=some (.tup [.str "g", .int (j:Int)])->iW H (.ref r) (.g j)
 |lt {r:aj} {x:Nat} {u v:V} {t b:Tm}:H r=some (.tup [.str "let", .str<|iz x,u,v])->iW H u t->iW H v b->iW H (.ref r) (.lt x t b)
 |rK {r:aj} {u v w:V} {c a b:Tm}:H r=some (.tup [.str "if",u,v,w])->iW H u c->iW H v a->iW H w b->iW H (.ref r) (.rK c a b)
 |fn {r:aj} {x:Nat} {v:V} {b:Tm}:H r=some (.tup [.str "fun", .str<|iz x,v])->iW H v b->iW H (.ref r) (.fn x b)
 |op {r:aj} {k:Nat} {u v:V} {a b:Tm}:H r=some (.tup [.str (wordOf k),u,v])->iW H u a->iW H v b->iW H (.ref r) (.op k a b)
 |call {r:aj} {u v:V} {a b:Tm}:H r=some (.tup [.str "call",u,v])->iW H u a->iW H v b->iW H (.ref r) (.call a b)
 |block {r t:aj} {k:Int} {vs:List V} {ts:List Tm}:H r=some (.tup [.str "block", .int k, .ref t])->H t=some (.tup vs)->oA H vs ts->iW H (.ref r) (.block k ts)
 |field {r:aj} {j:Nat} {v:V} {t:Tm}:H r=some (.tup [.str "field", .int (j:Int),v])->iW H v t->iW H (.ref r) (.field j t)
 |case {r t:aj} {x:Nat} {v:V} {b:Tm} {ms:List Nat} {vs:List V} {bs:List Tm}:H r=some (.tup [.str "case",v, .ref t])->H t=some (.tup vs)->iW H v b->oE H x ms vs bs->iW H (.ref r) (.case x b ms bs)
inductive oA (H:Hp):List V->List Tm->Prop where
 |nil:oA H [] []
 |cons {v:V} {t:Tm} {vs:List V} {ts:List Tm}:iW H v t->oA H vs ts->oA H (v::vs) (t::ts)
inductive oE (H:Hp):Nat->List Nat->List V->List Tm->Prop where
 |nil {x:Nat}:oE H x [] [] []
 |cons {x m:Nat} {p q:aj} {v:V} {t:Tm} {ms:List Nat} {vs:List V} {ts:List Tm}:H p=some (.tup [.ref q,v])->H q=some (.tup<|dZ (nms x m))->iW H v t->oE H x ms vs ts->oE H x (m::ms) (.ref p::vs) (t::ts)
end
theorem iW.tps {H H':Hp}(e:yV H H'){v:V}{t:Tm}(h:iW H v t):iW H' v t :=
 iW.rec (motive_1:=λv t _=>iW H' v t) (motive_2:=λv t _=>oA H' v t) (motive_3:=λx m v t _=>oE H' x m v t) (λh=>.n<|e _ _ h) (λh=>.v<|e _ _ h) (λh=>.g<|e _ _ h) (λh _ _=>.lt<|e _ _ h) (λh _ _ _=>.rK<|e _ _ h) (λh _=>.fn<|e _ _ h) (λh _ _=>.op<|e _ _ h) (λh _ _=>.call<|e _ _ h) (λh k _=>.block (e _ _ h)<|e _ _ k) (λh _=>.field<|e _ _ h) (λh k _ _=>.case (e _ _ h)<|e _ _ k) .nil (λ_ _=>.cons) .nil (λh k _ _=>.cons (e _ _ h)<|e _ _ k) h
@[elab_as_elim] theorem oA.ind {H:Hp} {C:List V->List Tm->Prop} {vs:List V} {ts:List Tm} (h:oA H vs ts) (n:C [] []) (c:∀{v t vs ts},iW H v t->oA H vs ts->C vs ts->C (v::vs) (t::ts)):C vs ts:=by
 induction ts generalizing vs with
 |nil=>cases h;exact n
 |cons t ts ih=>cases h with
  |cons r q=>exact c r q<|ih q
@[elab_as_elim] theorem oE.ind {H:Hp} {x:Nat} {C:List Nat->List V->List Tm->Prop} {ms:List Nat} {vs:List V} {ts:List Tm} (h:oE H x ms vs ts) (n:C [] [] []) (c:∀{m p q v t ms vs ts},H p=some (.tup [.ref q,v])->H q=some (.tup<|dZ (nms x m))->iW H v t->oE H x ms vs ts->C ms vs ts->C (m::ms) (.ref p::vs) (t::ts)):C ms vs ts:=by
 induction ts generalizing ms vs with
 |nil=>cases h;exact n
 |cons t ts ih=>cases h with
  |cons a b r q=>exact c a b r q<|ih q
theorem oA.tps {H H':Hp}(e:yV H H'){vs:aP V}{ts:aP Tm}(h:oA H vs ts):oA H' vs ts:=h.ind .nil λr _ ih=>.cons (r.tps e) ih
theorem oE.tps {H H':Hp}(e:yV H H'){x:Nat}{ms:aP Nat}{vs:aP V}{ts:aP Tm}(h:oE H x ms vs ts):oE H' x ms vs ts:=h.ind .nil λa b r _ ih=>.cons (e _ _ a) (e _ _ b) (r.tps e) ih
theorem oA.len {H:Hp}{vs:aP V}{ts:aP Tm}(h:oA H vs ts):vs.length=ts.length:=h.ind rfl λ_ _ ih=>congrArg (·+1) ih
theorem oA.get {H:Hp}{vs:List V}{ts:List Tm}{j:Nat}{t:Tm}(h:oA H vs ts)(e:ts[j]?=some t):∃v,vs[j]?=some v/\iW H v t:=by
 induction ts generalizing vs j with
 |nil=>simp at e
 |cons u us ih=>cases h with
  |cons r q=>cases j with
   |zero=>cases e;exact⟨_,rfl,r⟩
   |succ j=>exact(ih (j:=j) q e:)
theorem oE.len {H:Hp}{x:Nat}{ms:aP Nat}{vs:aP V}{ts:aP Tm}(h:oE H x ms vs ts):vs.length=ts.length/\ms.length=ts.length:=h.ind ⟨rfl,rfl⟩ λ_ _ _ _ ih=>⟨congrArg (·+1) ih.1,congrArg (·+1) ih.2⟩
theorem oE.get {H:Hp}{x:Nat}{ms:List Nat}{vs:List V}{ts:List Tm}{i:Nat}{t:Tm}(h:oE H x ms vs ts)(e:ts[i]?=some t):∃(p q:aj) (v:V) (m:Nat),ms[i]?=some m/\vs[i]?=some (.ref p)/\H p=some (.tup [.ref q,v])/\H q=some (.tup<|dZ (nms x m))/\iW H v t:=by
 induction ts generalizing ms vs i with
 |nil=>simp at e
 |cons u us ih=>cases h with
  |cons a b r q=>cases i with
   |zero=>cases e;exact⟨_,_,_,_,rfl,rfl,a,b,r⟩
   |succ j=>exact(ih (i:=j) q e:)
theorem iW.same {H H':Hp}(e:Same H H'){v:V}{t:Tm}(h:iW H v t):iW H' v t:=h.tps λb ys q=>e b _ q
theorem Qi.tps {H H':Hp}{r:aj}{row:Rw}(e:yV H H')(h:Qi H r row):Qi H' r row:=by
 cases row with
 |close to js=>obtain⟨pt,h1,h2⟩:=h;exact⟨pt,e _ _ h1,e _ _ h2⟩
 |case fs=>obtain⟨pt,h1,h2⟩:=h;exact⟨pt,e _ _ h1,e _ _ h2⟩
 |_=>exact e _ _ h
def O2 (lr ll:aj)(H:Hp)(v:V):Lr->Prop
 |.row r=>∃a:aj,v=.ref a/\Qi H a r
 |.late k js=>∃a p q:aj,v=.ref a/\H a=some (.tup [.str "late", .ref p])/\H p=some (.tup [.int (k:Int), .ref q])/\H q=some (.tup (js.map λj:Nat=>V.int (j:Int)))
 |.hole=>v=.non
def W2 (lr ll:aj)(H:Hp)(v:V)(p:List Nat×Tm):Prop:=∃(a ln:aj) (u:V),v=.ref a/\H a=some (.tup [.ref ln,u])/\H ln=some (.lst<|dZ p.1)/\ln≠lr/\ln≠ll/\iW H u p.2/\p.1≠[]
def Kp (lr ll:aj)(H H':Hp):Prop:=∀b o,b≠lr->b≠ll->H b=some o->H' b=some o
theorem Kp.refl {lr ll:aj}{H:Hp}:Kp lr ll H H:=λ_ _ _ _ h=>h
theorem Kp.trans {lr ll:aj}{H H1 H2:Hp}(a:Kp lr ll H H1)(b:Kp lr ll H1 H2):Kp lr ll H H2:=λc o n m h=>b c o n m (a c o n m h)
theorem iy {lr ll:aj}{H H':Hp}(s:Same H H'):Kp lr ll H H':=λc o _ _ h=>s c o h
theorem jU {lr ll:aj}{H:Hp}{o:HO}:Kp lr ll H (upd H lr o):=λc u n _ h=>by rw[bV n];exact h
theorem Ls {lr ll:aj}{H:Hp}{o:HO}:Kp lr ll H (upd H ll o):=λc u _ n h=>by rw[bV n];exact h
theorem O2.tps {lr ll:aj}{H H':Hp}(e:yV H H')(k:Kp lr ll H H'){v:V}{r:Lr}(h:O2 lr ll H v r):O2 lr ll H' v r:=by
 cases r with
 |row r=>obtain⟨a,h1,h2⟩:=h;exact⟨a,h1,h2.tps e⟩
 |late k js=>obtain⟨a,p,q,h0,h1,h2,h3⟩:=h;exact⟨a,p,q,h0,e _ _ h1,e _ _ h2,e _ _ h3⟩
 |hole=>exact h
noncomputable def Ea (ab:Bool):Int:=if ab then 1 else 0
structure WS (H:Hp)(wk lr ll:aj)(ab:Bool)(aY:List Lr)(L:List (List Nat×Tm)):Prop where
 wk:∃cI:List (Key×V),H wk=some (.dK cI)/\eO cI (Sum.inr "rows")=some (.ref lr)/\eO cI (Sum.inr "late")=some (.ref ll)/\eO cI (Sum.inr "about")=some (.int<|Ea ab)
 rw:∃jr,H lr=some (.lst jr)/\ni (O2 lr ll H) jr aY
 lt:∃rN,H ll=some (.lst rN)/\ni (W2 lr ll H) rN L
 ne:lr≠ll
section
variable {H H':Hp}{wk lr ll:aj}{ab:Bool}{aY:List Lr}{L:List (List Nat×Tm)}
theorem WS.tps (w:WS H wk lr ll ab aY L)(k:Kp lr ll H H'):yV H H':=λb ys h=>by
 obtain⟨jr,h1,_⟩:=w.rw;obtain⟨rN,h2,_⟩:=w.lt;exact k b _ (iY h h1<|by intro z;cases z) (iY h h2<|by intro z;cases z) h
theorem WS.wkK (w:WS H wk lr ll ab aY L)(k:Kp lr ll H H'):∃cI:aP (Key×V),H' wk=some (.dK cI)/\eO cI (Sum.inr "rows")=some (.ref lr)/\eO cI (Sum.inr "late")=some (.ref ll)/\eO cI (Sum.inr "about")=some (.int<|Ea ab):=by
 obtain⟨jr,h1,_⟩:=w.rw;obtain⟨rN,h2,_⟩:=w.lt;obtain⟨cI,h,g⟩:=w.wk;exact⟨cI,k _ _ (iY h h1<|by intro z;cases z) (iY h h2<|by intro z;cases z) h,g⟩
theorem W2.kp (w:WS H wk lr ll ab aY L)(k:Kp lr ll H H'){v:V}{p:aP Nat×Tm}(h:W2 lr ll H v p):W2 lr ll H' v p:=by
 obtain⟨a,ln,u,h0,h1,h2,n1,n2,h3,h4⟩:=h;exact⟨a,ln,u,h0,w.tps k _ _ h1,k _ _ n1 n2 h2,n1,n2,h3.tps<|w.tps k,h4⟩
theorem WS.same (w:WS H wk lr ll ab aY L)(s:Same H H'):WS H' wk lr ll ab aY L:=by
 have k:Kp lr ll H H':=iy s;obtain⟨jr,h1,a1⟩:=w.rw;obtain⟨rN,h2,a2⟩:=w.lt;exact⟨w.wkK k,⟨jr,s _ _ h1,a1.mono λv r=>O2.tps (w.tps k) k⟩,⟨rN,s _ _ h2,a2.mono λv r=>W2.kp w k⟩,w.ne⟩
theorem WS.S9 (w:WS H wk lr ll ab aY L){jr:aP V}(h:H lr=some (.lst jr)){v:V}{r:Lr}(hv:O2 lr ll H v r):WS (upd H lr<|.lst (jr++[v])) wk lr ll ab (aY++[r]) L:=by
 have k:Kp lr ll H (upd H lr<|.lst (jr++[v])):=jU;obtain⟨aeE,h1,a1⟩:=w.rw;obtain⟨rN,h2,a2⟩:=w.lt;rw[h]at h1;cases h1;exact⟨w.wkK k,⟨_,bA,(a1.snoc hv).mono λv r=>O2.tps (w.tps k) k⟩,⟨rN,by rw[bV (ahO w.ne)];exact h2,a2.mono λv r=>W2.kp w k⟩,w.ne⟩
theorem WS.aeF (w:WS H wk lr ll ab aY L){rN:aP V}(h:H ll=some (.lst rN)){v:V}{p:aP Nat×Tm}(hv:W2 lr ll H v p):WS (upd H ll<|.lst (rN++[v])) wk lr ll ab aY (L++[p]):=by
 have k:Kp lr ll H (upd H ll<|.lst (rN++[v])):=Ls;obtain⟨jr,h1,a1⟩:=w.rw;obtain⟨afk,h2,a2⟩:=w.lt;rw[h]at h2;cases h2;exact⟨w.wkK k,⟨jr,by rw[bV w.ne];exact h1,a1.mono λv r=>O2.tps (w.tps k) k⟩,⟨_,bA,(a2.snoc hv).mono λv r=>W2.kp w k⟩,w.ne⟩
theorem ni.set {α:Type}{R:V->α->Prop}{vs:aP V}{rs:aP α}{v:V}{r:α}(a:ni R vs rs)(i:Nat)(h:R v r):ni R (vs.set i v) (rs.set i r):=by
 refine⟨by rw[agY,agY];exact a.1,λj x hx=>?_⟩;by_cases c:i=j
 ·subst c
  have l:i<rs.length:=by
   have:=(ahW hx).1
   rwa [agY]at this
  rw[agR l]at hx;cases hx;exact⟨v,by rw[agR (by rw[a.1];exact l)],h⟩
 ·rw[agK c]at hx
  obtain⟨u,h1,h2⟩:=a.2 j x hx;exact⟨u,by rw[agK c];exact h1,h2⟩
theorem WS.W3 (w:WS H wk lr ll ab aY L){jr:aP V}(h:H lr=some (.lst jr)){v:V}{r:Lr}(i:Nat)(hv:O2 lr ll H v r):WS (upd H lr<|.lst (jr.set i v)) wk lr ll ab (aY.set i r) L:=by
 have k:Kp lr ll H (upd H lr<|.lst (jr.set i v)):=jU;obtain⟨aeE,h1,a1⟩:=w.rw;obtain⟨rN,h2,a2⟩:=w.lt;rw[h]at h1;cases h1;exact⟨w.wkK k,⟨_,bA,(a1.set i hv).mono λv r=>O2.tps (w.tps k) k⟩,⟨rN,by rw[bV (ahO w.ne)];exact h2,a2.mono λv r=>W2.kp w k⟩,w.ne⟩
noncomputable def dI (js:List Nat):List V:=js.map λj:Nat=>V.int (j:Int)
theorem WS.aside (w:WS H wk lr ll ab aY L){lf:aj}{js ys:List Nat}(h:H lf=some (.lst<|dI js))(n1:lf≠lr)(n2:lf≠ll):WS (upd H lf<|.lst (dI ys)) wk lr ll ab aY L:=by
 have tp:yV H (upd H lf<|.lst (dI ys)):=λb zs e=>by rw[bV (iY e h<|by intro z;cases z)];exact e
 obtain⟨cI,hk,g⟩:=w.wk;obtain⟨jr,h1,a1⟩:=w.rw;obtain⟨rN,h2,a2⟩:=w.lt;refine⟨⟨cI,by rw[bV (iY hk h<|by intro z;cases z)];exact hk,g⟩,⟨jr,by rw[bV (ahO n1)];exact h1,a1.mono λv r hr=>?_⟩,⟨rN,by rw[bV (ahO n2)];exact h2,a2.mono λv p hp=>?_⟩,w.ne⟩
 ·cases r with
  |row r=>obtain⟨a,h1,h2⟩:=hr;exact⟨a,h1,h2.tps tp⟩
  |late k js=>obtain⟨a,p,q,h0,h1,h2,h3⟩:=hr;exact⟨a,p,q,h0,tp _ _ h1,tp _ _ h2,tp _ _ h3⟩
  |hole=>exact hr
 ·obtain⟨a,ln,u,h0,h1,h2,n1,n2,h3,h4⟩:=hp
  refine⟨a,ln,u,h0,tp _ _ h1,?_,n1,n2,h3.tps tp,h4⟩;rw[bV]
  ·exact h2
  ·intro e
   subst e;rw[h]at h2;cases hp1:p.1 with
   |nil=>exact h4 hp1
   |cons y ys=>
    rw[hp1]at h2;cases js with
    |nil=>cases h2
    |cons z zs=>cases h2
end
theorem yd.in {p:Lt}(h:yd p):p.1≠[]/\S8 p.1/\p.1.length+6*dep p.2<=150/\dep p.2<=9:=by
 obtain⟨names,x,e,mem,gt,h40,Zy,h12⟩:=h;refine⟨by rw[e];simp,λy hy=>?_,Zy,h12⟩;rw[e,agd,afN]at hy;rcases hy with z|z
 ·have:=(mem y).mp z;omega
 ·omega
theorem cH {H:Hp}{a b:aj}{o:HO}(h:H a=none)(h':H b=some o):a≠b:=ahO (bY h' h)
inductive Dc (vs:List V)(H:Hp)(Q:VK)(E_:XK):Prop where
 |mk (wk lo lr ll:aj) (x:Nat) (v:V) (ab:Bool) (aY:List Lr) (L:List Lt) (own js:List Nat) (b:Tm):vs=[.ref wk, .ref lo, .str<|iz x,v]->WS H wk lr ll ab aY L->H lo=some (.lst<|dZ own)->S8 own->lo≠lr->lo≠ll->iW H v b->nZ own (namesOf ab own)=some js->own.length<=150->L.length<=50000->(∀(p q:aj) H',Kp lr ll H H'->WS H' wk lr ll ab aY (L++[(namesOf ab own++[x],b)])->H' p=some (.tup [.int (L.length:Int), .ref q])->H' q=some (.tup (js.map λj:Nat=>V.int (j:Int)))->Q (.ref p) H')->Dc vs H Q E_
def ade:TS:=λD U H=>∃(wk lo lr ll ln:aj) (x:Nat) (v:V) (ab:Bool) (aY:List Lr) (L:List Lt) (own js:List Nat) (b:Tm),U=[some (.ref wk),some<|.ref lo,some<|.str (iz x),some v,some (.ref ln)]/\WS H wk lr ll ab aY L/\H lo=some (.lst<|dZ own)/\S8 own/\lo≠lr/\lo≠ll/\
 H ln=some (.lst<|dZ (namesOf ab own))/\ln≠lr/\ln≠ll/\iW H v b/\
 nZ own (namesOf ab own)=some js/\own.length<=150/\L.length<=50000/\
 ∀(p q:aj) H',Kp lr ll H H'->WS H' wk lr ll ab aY (L++[(namesOf ab own++[x],b)])->H' p=some (.tup [.int (L.length:Int), .ref q])->H' q=some (.tup (js.map λj:Nat=>V.int (j:Int)))->D.rt (.ref p) H'
section
abbrev Df:aJ:=top 65
noncomputable abbrev pHe:List Str:=["_law_work","_law_own_here","_law_x","_law_body"]
noncomputable abbrev nHe:List Str:=["_law_work","_law_own_here","_law_x","_law_body","_law_names"]
theorem Lw:cu nHe pHe (bN Df):={}
set_option maxHeartbeats 2000000 in
theorem W4 (F:gY K "_law_held" "_law_held" Df f fd)(ml:mg "len"=none)(mL:mg "list"=none)(mt:mg "tuple"=none):cX P w K mg aV jG 1 f fd pHe Dc:=by
 refine F.ok Lw λdJ A aU s H vs Q E hr h=>?_;obtain⟨wk,lo,lr,ll,x,v,ab,aY,L,own,js,b,rfl,ws,qX,n14,n1,n2,tb,hjs,abA,lL,q⟩:=h;have hu:=pX hr;have hz:=sizeLine_eq;refine⟨_,bI (eU 4 Lw.nd<|cZ (RG K) rfl mL boot_list (bx (pv 1) bG))
  (bI (dB (cA zJ (cT hu (pv 0) bU) bJ) (bQ<|cD (Rc af' PySem.F.slot_list_reverse PySem.F.type_list_reverse Il<|pv 4)) cR)
  (O1 (t':=ade) (bI (cD<|jd K (cT hu (pv 0) bU) (bx (cV<|bx (cU lU (pv 4)<|dO (bx (pv 2) bG)) (bx (pv 3) bG)) bG))
  (bQ (cO (cV (bx (cU iw (cJ (kI K) rfl ml ahS (bx (cT hu (pv 0) bU) bG)) bJ) (bx (cZ (BW K) rfl mt boot_tuple (bx
   (KD (bN Df) nHe ["_law_own_here"] [1] (by decide+kernel) (piL K<|pv 4) (λC s₀ H₀ ex=>j8)
    (λC s₀ H₀ ex=>show PE _ _ (tBM K "list" Lq _ _) from wW af' agA ag4 Ak (pv 1)<|bx (pv 0) bG)) bG)) bG)))))) ?qr)),?_⟩
 case qr=>
  rintro D U H ⟨wk,lo,lr,ll,ln,x,v,ab,aY,L,own,js,b,rfl,ws,qX,n14,n1,n2,DW,m1,m2,tb,hjs,abA,lL,q⟩;have hnl:=qm ab own;obtain⟨cI,hwk,g1,g2,g3⟩:=ws.wk;obtain⟨rN,hll,al⟩:=ws.lt;refine(dU rfl hwk g2 ⟨.inl ⟨rfl,_,dD.of hll⟩,_,rfl,_,rfl,(fH 1),λp1 hp1=>?_⟩);have s1:=bK hp1 (.lst [.str (iz x)]);refine⟨ln,p1,_,_,rfl,rfl,s1 _ _ DW,bA,small (by rw[iK];show _+1<=1000000;omega),λp2 hp2=>?_⟩;have e2:dZ (namesOf ab own)++[.str (iz x)]=dZ (namesOf ab own++[x]):=by unfold dZ;rw[af0,af0];rfl
  rw[e2];have s2:=bK hp2 (.lst<|dZ (namesOf ab own++[x]));refine⟨_,rfl,(fH 2),λp3 hp3=>?_⟩;have s12:=s1.trans s2;have adf:H p2=none:=s1.free hp2;have h2:(upd (upd H p1<|.lst [.str (iz x)]) p2<|.lst (dZ<|namesOf ab own++[x])) p2=some (.lst<|dZ (namesOf ab own++[x])):=bA;revert hp3 s12 h2;generalize upd (upd H p1<|.lst [.str (iz x)]) p2 (.lst<|dZ (namesOf ab own++[x]))=H2;intro hp3 s12 h2;have s3:=bK hp3 (.tup [.ref p2,v]);have h3:(upd H2 p3<|.tup [.ref p2,v]) p3=some (.tup [.ref p2,v]):=bA;have s13:=s12.trans s3;have h2':=s3 _ _ h2;revert s3 h3 s13 h2';generalize upd H2 p3 (.tup [.ref p2,v])=H3;intro s3 h3 s13 h2';refine⟨ll,_, .ref p3,rfl,rfl,s13 _ _ hll,cW (by rw[al.1];exact afy lL<|by decide),?_⟩;have np2:p2≠lr/\p2≠ll:=by
   obtain⟨jr,rO,_⟩:=ws.rw;exact⟨cH adf rO,cH adf hll⟩
  have w4:=(ws.same s13).aeF (s13 _ _ hll) (v:=.ref p3) (p:=(namesOf ab own++[x],b)) ⟨p3,p2,v,rfl,h3,h2',np2.1,np2.2,tb.same s13,by simp⟩;have k4:Kp lr ll H (upd H3 ll<|.lst (rN++[.ref p3])):=(iy s13).trans Ls;revert w4 k4;generalize ZF:upd H3 ll (.lst<|rN++[.ref p3])=H4;intro w4 k4;obtain⟨kv4,aeG,_,g24,_⟩:=w4.wk;obtain⟨lv4,aeH,al4⟩:=w4.lt;have ll4:=al4.1;rw[afu]at ll4;have adg:=k4 _ _ n1 n2 qX;have adh:=k4 _ _ m1 m2 DW;refine(dU rfl aeG g24 ⟨ll,_,rfl, .inl<|dD.of aeH,_,_,rfl,rfl,?_⟩);refine⟨_,rfl,ln,rfl,⟨_,dD.of adh⟩,Gn (xs:=dZ<|namesOf ab own) (λi vs H'=>H'=H4/\vs=(js.map λj:Nat=>V.int (j:Int)).take i) ⟨rfl,rfl⟩ ?_ ?_ ?_⟩
  ·rintro i vs H' hi ⟨rfl,rfl⟩
   refine⟨dD.of adh,?_⟩;have:=(tQ hjs).1;rw[af9,afL];omega
  ·rintro i y vs H' hi hy ⟨rfl,rfl⟩
   unfold dZ at hy;rw[afJ,afJ]at hy;cases hni:(namesOf ab own)[i]? with
   |none=>rw[hni]at hy;cases hy
   |some z=>
    rw[hni]at hy;cases hy;obtain⟨jl,jat⟩:=tQ hjs;obtain⟨j,hj,hix⟩:=jat i z hni;obtain⟨g5,g6⟩:=Jq n14 hix;refine Zg<|uH ⟨_,rfl, .inl ⟨rfl,_,dD.of adg⟩,_,rfl,lo,own.map iz,iz z,j,rfl,rfl,adg,g5,g6,nx hi ⟨rfl,?_⟩⟩;rw[agn,afJ,hj]
    rfl
  ·rintro vs H' ⟨rfl,rfl⟩ l5 O4
   have lj:(dZ<|namesOf ab own).length=(js.map λj:Nat=>V.int (j:Int)).length:=by rw[iK,afL,(tQ hjs).1]
   rw[lj,agu];have s5:=bK O4 (.lst (js.map λj:Nat=>V.int (j:Int)));refine⟨l5,_,rfl, .inl ⟨dD.of bA,λc6 hc6=>?_⟩⟩;have s6:=bK hc6 (.tup (js.map λj:Nat=>V.int (j:Int)));refine⟨(fH 2),λp7 yq=>?_⟩;have s7:=bK yq (.tup [.int ((lv4.length:Int)-1), .ref c6]);have s57:=s5.trans (s6.trans s7);refine q p7 c6 _ (k4.trans<|iy s57) (w4.same s57) ?_<|s7 _ _ bA;rw[bA];have e8:(lv4.length:Int)-1=(L.length:Int):=by rw[ll4];simp
   rw[e8]
 refine⟨_,rfl,lo,_,rfl, .inl<|dD.of qX,λln DW=>?_⟩;have s1:=bK DW (.lst<|dZ own);have nln:ln≠lr/\ln≠ll:=by
  obtain⟨jr,rO,_⟩:=ws.rw;obtain⟨rN,hll,_⟩:=ws.lt;exact⟨cH DW rO,cH DW hll⟩
 obtain⟨cI,hwk,g1,g2,g3⟩:=(ws.same s1).wk;refine(dU rfl hwk g3 ⟨Ea ab,0,rfl,rfl,_,rfl,?_⟩);cases ab with
 |true=>
  refine gO (λ_=>?_) (λz=>absurd (by decide) z);refine⟨_,rfl, .inl ⟨rfl,_,dD.of bA⟩,ln,_,rfl,rfl,bA,?_⟩;have s2:Same H (upd (upd H ln<|.lst (dZ own)) ln<|.lst (dZ own).reverse):=λb o h=>by
   rw[bV (bY h DW),bV (bY h DW)];exact h
  refine⟨wk,lo,lr,ll,ln,x,v,true,aY,L,own,js,b,rfl,ws.same s2,s2 _ _ qX,n14,n1,n2,?_,nln.1,nln.2,tb.same s2,hjs,abA,lL,λp q' H' k=>q p q' H'<|(iy s2).trans k⟩;rw[bA];unfold dZ namesOf;simp
 |false=>
  refine gO (λz=>absurd z<|by decide) λ_=>?_;exact⟨wk,lo,lr,ll,ln,x,v,false,aY,L,own,js,b,rfl,ws.same s1,s1 _ _ qX,n14,n1,n2,bA,nln.1,nln.2,tb.same s1,hjs,abA,lL,λp q' H' k=>q p q' H'<|(iy s1).trans k⟩
end
theorem Lx {ab:Bool}{x:Nat}{t b:Tm}{own:aP Nat}{L L':aP Lt}{r:aP Lr}{p:Nat}(h:comp ab (.lt x t b) own L p=some (r,L')):∃r1 L1 r2,comp ab t own L p=some (r1,L1)/\comp ab b (own++[x]) L1 (p+r1.length+1)=some (r2,L')/\r=r1++[.row .keep]++r2++[.row (.drop 1)]:=by
 unfold comp at h;split at h
 ·cases h
 ·rename_i r1 L1 e1
  split at h
  ·cases h
  ·rename_i r2 L2 e2
   cases h;exact⟨r1,L1,r2,e1,e2,rfl⟩
theorem Gp {ab:Bool}{c a b:Tm}{own:aP Nat}{L L':aP Lt}{r:aP Lr}{p:Nat}(h:comp ab (.rK c a b) own L p=some (r,L')):∃r1 L1 r2 L2 r3,comp ab c own L p=some (r1,L1)/\comp ab a own L1 (p+r1.length+1)=some (r2,L2)/\comp ab b own L2 (p+r1.length+1+r2.length+1)=some (r3,L')/\
  r=r1++[.row (.CK<|p+r1.length+1+r2.length+1)]++r2++[.row (.jump<|p+r1.length+1+r2.length+1+r3.length)]++r3:=by
 unfold comp at h;split at h
 ·cases h
 ·rename_i r1 L1 e1
  split at h
  ·cases h
  ·rename_i r2 L2 e2
   split at h
   ·cases h
   ·rename_i r3 L3 e3
    cases h;exact⟨r1,L1,r2,L2,r3,e1,e2,e3,rfl⟩
theorem Ly {ab:Bool}{k:Nat}{a b:Tm}{own:aP Nat}{L L':aP Lt}{r:aP Lr}{p:Nat}(h:comp ab (.op k a b) own L p=some (r,L')):∃r1 L1 r2,comp ab a own L p=some (r1,L1)/\comp ab b own L1 (p+r1.length)=some (r2,L')/\r=r1++r2++[.row (.nW k)]:=by
 unfold comp at h;split at h
 ·cases h
 ·rename_i r1 L1 e1
  split at h
  ·cases h
  ·rename_i r2 L2 e2
   cases h;exact⟨r1,L1,r2,e1,e2,rfl⟩
theorem Am {ab:Bool}{a b:Tm}{own:aP Nat}{L L':aP Lt}{r:aP Lr}{p:Nat}(h:comp ab (.call a b) own L p=some (r,L')):∃r1 L1 r2,comp ab a own L p=some (r1,L1)/\comp ab b own L1 (p+r1.length)=some (r2,L')/\r=r1++r2++[.row .call]:=by
 unfold comp at h;split at h
 ·cases h
 ·rename_i r1 L1 e1
  split at h
  ·cases h
  ·rename_i r2 L2 e2
   cases h;exact⟨r1,L1,r2,e1,e2,rfl⟩
theorem Lz {ab:Bool}{x:Nat}{b:Tm}{own:aP Nat}{L L':aP Lt}{r:aP Lr}{p:Nat}(h:comp ab (.fn x b) own L p=some (r,L')):∃js,nZ own (namesOf ab own)=some js/\r=[.late L.length js]/\L'=L++[(namesOf ab own++[x],b)]:=by
 unfold comp at h;split at h
 ·cases h
 ·rename_i js e
  cases h;exact⟨js,e,rfl,rfl⟩
theorem yr {ab:Bool}{k:Int}{ts:aP Tm}{own:aP Nat}{L L':aP Lt}{r:aP Lr}{p:Nat}(h:comp ab (.block k ts) own L p=some (r,L')):∃r1,kJ ab ts own L p=some (r1,L')/\r=r1++[.row (.block k ts.length)]:=by
 unfold comp at h;split at h
 ·cases h
 ·rename_i r1 L1 e1
  cases h;exact⟨r1,e1,rfl⟩
theorem yt {ab:Bool}{j:Nat}{t:Tm}{own:aP Nat}{L L':aP Lt}{r:aP Lr}{p:Nat}(h:comp ab (.field j t) own L p=some (r,L')):∃r1,comp ab t own L p=some (r1,L')/\r=r1++[.row (.field j)]:=by
 unfold comp at h;split at h
 ·cases h
 ·rename_i r1 L1 e1
  cases h;exact⟨r1,e1,rfl⟩
theorem Ao {ab:Bool}{x:Nat}{t:Tm}{ms:aP Nat}{bs:aP Tm}{own:aP Nat}{L L':aP Lt}{r:aP Lr}{p:Nat}(h:comp ab (.case x t ms bs) own L p=some (r,L')):∃r1 L1 rs,comp ab t own L p=some (r1,L1)/\jN ab bs ms x own L1 (p+r1.length+1)=some (rs,L')/\
  r=r1++[.row (.case<|jJ rs (p+r1.length+1))]++eG rs (p+r1.length+1+cN rs):=by
 unfold comp at h;split at h
 ·cases h
 ·rename_i r1 L1 e1
  split at h
  ·cases h
  ·rename_i rs L2 e2
   cases h;exact⟨r1,L1,rs,e1,e2,rfl⟩
theorem yu {ab:Bool}{t:Tm}{ts:aP Tm}{own:aP Nat}{L L':aP Lt}{r:aP Lr}{p:Nat}(h:kJ ab (t::ts) own L p=some (r,L')):∃r1 L1 r2,comp ab t own L p=some (r1,L1)/\kJ ab ts own L1 (p+r1.length)=some (r2,L')/\r=r1++r2:=by
 unfold kJ at h;split at h
 ·cases h
 ·rename_i r1 L1 e1
  split at h
  ·cases h
  ·rename_i r2 L2 e2
   cases h;exact⟨r1,L1,r2,e1,e2,rfl⟩
theorem yw {ab:Bool}{b:Tm}{bs:aP Tm}{m:Nat}{ms:aP Nat}{x:Nat}{own:aP Nat}{L L':aP Lt}{rs:aP (aP Lr×Nat)}{p:Nat}(h:jN ab (b::bs) (m::ms) x own L p=some (rs,L')):∃r1 L1 rs',comp ab b (own++nms x m) L p=some (r1,L1)/\jN ab bs ms x own L1 (p+r1.length+2)=some (rs',L')/\rs=(r1,m)::rs':=by
 unfold jN at h;split at h
 ·cases h
 ·rename_i r1 L1 e1
  split at h
  ·cases h
  ·rename_i rs' L2 e2
   cases h;exact⟨r1,L1,rs',e1,e2,rfl⟩
structure In (n m:Nat)(own:List Nat)(t:Tm):Prop where
 gt:GT m t
 me:∀y,y∈own↔y<m
 l4:m+6*dep t<=150
 l6:own.length+6*dep t<=150
 dn:dep t<=n
theorem In.nm {n m:Nat}{own:aP Nat}{t:Tm}(i:In n m own t):S8 own:=λx hx=>by have:=(i.me x).mp hx;have:=i.l4;omega
theorem In.len {ab:Bool}{m:Nat}{own:aP Nat}{t:Tm}{n:Nat}(i:In n m own t){L L':aP Lt}{r:aP Lr}{p:Nat}(h:comp ab t own L p=some (r,L')):L.length<=L'.length:=by
 obtain⟨N,e,_⟩:=gH (aW:=[]) (bg:=[]) i.gt h;rw[e,afu];exact afF _ _
theorem WS.row {H:Hp}{wk lr ll:aj}{ab:Bool}{aY:aP Lr}{L:aP Lt}(w:WS H wk lr ll ab aY L){jr:aP V}(h:H lr=some (.lst jr)){p:aj}(hp:H p=none){o:HO}{r:Lr}(hv:O2 lr ll (upd H p o) (.ref p) r):
  WS (upd (upd H p o) lr<|.lst (jr++[.ref p])) wk lr ll ab (aY++[r]) L/\Kp lr ll H (upd (upd H p o) lr<|.lst (jr++[.ref p])) :=
 ⟨(w.same<|bK hp o).S9 (bK hp o _ _ h) hv,(iy<|bK hp o).trans jU⟩
def isLt:Tm->Prop
 |.lt _ _ _=>True
 |_=>False
def isIf:Tm->Prop
 |.rK _ _ _=>True
 |_=>False
def Tc:Tm->Prop
 |.case _ _ _ _=>True
 |_=>False
inductive zq (p:Tm->Prop)(n:Nat)(vs:List V)(H:Hp)(Q:VK)(E_:XK):Prop where
 |mk (wk lo lr ll:aj) (v:V) (t:Tm) (ab:Bool) (aY:List Lr) (L:List Lt) (own:List Nat) (m:Nat) (r:List Lr) (L':List Lt):vs=[.ref wk, .ref lo,v]->p t->iW H v t->In n m own t->WS H wk lr ll ab aY L->H lo=some (.lst<|dZ own)->lo≠lr->lo≠ll->comp ab t own L aY.length=some (r,L')->aY.length+r.length<=50000->L'.length<=50000->(∀H',Kp lr ll H H'->WS H' wk lr ll ab (aY++r) L'->Q .non H')->zq p n vs H Q E_
noncomputable def Gq:Nat->Sp
 |0=>λ_ _ _ _=>False
 |n+1=>zq (λ_=>True) n
theorem LC:("v":Str)≠"n"/\("g":Str)≠"n"/\("g":Str)≠"v"/\("let":Str)≠"n"/\("let":Str)≠"v"/\("let":Str)≠"g"/\("fun":Str)≠"n"/\("fun":Str)≠"v"/\("fun":Str)≠"g"/\("fun":Str)≠"let"/\("fun":Str)≠"if"/\("if":Str)≠"n"/\("if":Str)≠"v"/\("if":Str)≠"g"/\("if":Str)≠"let":=by decide+kernel
theorem adi:∀k,k<=3->wordOf k≠"n"/\wordOf k≠"v"/\wordOf k≠"g"/\wordOf k≠"let"/\wordOf k≠"if"/\wordOf k≠"fun":=by decide+kernel
theorem w_call:("call":Str)≠"n"/\("call":Str)≠"v"/\("call":Str)≠"g"/\("call":Str)≠"let"/\("call":Str)≠"if"/\("call":Str)≠"fun":=by decide+kernel
theorem qO {n j:Nat}(h:j<n):VL n (j:Int)=some j:=by
 unfold VL;rw[ahK (by omega),ahK (by omega)];simp
section
abbrev yW:List Str:=["_law_work","_law_own_here","_law_term"]
abbrev Dg:aJ:=top 68
theorem W5:cu yW yW (bN Dg):={}
set_option maxHeartbeats 2000000 in
theorem W6 {n:Nat}(F:gY K "_law_let_rows" "_law_let_rows" Dg f fd)(h1:Has P w K mg aV (2*n) "_law_rows" yW (Gq n)):cX P w K mg aV jG (2*n+1) f fd yW (zq isLt n):=by
 refine F.ok W5 λdJ A aU s H vs Q E hr h=>?_;obtain⟨wk,lo,lr,ll,v,t,ab,aY,L,own,m,r,L',rfl,pt,tl,ii,ws,qX,n1,n2,hc,lR,lL,q⟩:=h;have hu:=pX hr;refine⟨_,bI (cD (cP h1 hr (by exact afv _) rfl (bx (pv 0)<|bx (pv 1) (bx (bZ (fG K) (pv 2) bJ) bG))))
  (bI (cD<|jd K (cT hu (pv 0) bU) (bx (cV<|bx bU bG) bG))
  (bI (cD (cP h1 hr (by exact afv _) rfl (bx (pv 0)<|bx (cU lU (pv 1)<|dO (bx (bZ (fG K) (pv 2) bJ) bG)) (bx (bZ (fG K) (pv 2) bJ) bG))))
  (bQ<|cD (jd K (cT hu (pv 0) bU)<|bx (cV<|bx bU (bx bJ bG)) bG)))),?_⟩
 cases tl with
 |n h=>exact pt.elim
 |v h=>exact pt.elim
 |g h=>exact pt.elim
 |fn h a=>exact pt.elim
 |rK h a b c=>exact pt.elim
 |op h a b=>exact pt.elim
 |call h a b=>exact pt.elim
 |block h h2 a=>exact pt.elim
 |field h a=>exact pt.elim
 |case h h2 a b=>exact pt.elim
 |@lt a x u y ta tb ha t1 t2=>
  obtain⟨r1,L1,r2,c1,c2,rfl⟩:=Lx hc;obtain⟨⟨b0,b1,b2⟩,me,l4,l6,dn⟩:=ii;subst b0;simp only[dep]at l4 l6 dn;simp only[afu,afz]at lR;obtain⟨j,rfl⟩:∃j,n=j+1:=⟨n-1,by omega⟩;have i1:In j x own ta:=⟨b1,me,by omega,by omega,by omega⟩;have i2:In j (x+1) (own++[x]) tb:=⟨b2,tM me,by omega,by rw[afu];simp;omega,by omega⟩;have lL1:=i2.len c2;refine dG λnx hn=>?_;refine⟨_,rfl,_,rfl,dN (a:=a) (j:=2) rfl ha rfl ⟨wk,lo,lr,ll,u,ta,ab,aY,L,own,x,r1,L1,rfl,trivial,t1,i1,ws,qX,n1,n2,c1,by omega,by omega,λH1 k1 w1=>?_⟩⟩;have ha1:=ws.tps k1 _ _ ha;have t21:=t2.tps (ws.tps k1);have abB:=k1 _ _ n1 n2 qX;obtain⟨cI,hwk,g1,_⟩:=w1.wk;obtain⟨zu,hl1,al1⟩:=id w1.rw;have e1:=al1.1;rw[afu]at e1;refine hn _ _<|dG λnx hn=>?_;refine(dU rfl hwk g1 ⟨.inl ⟨rfl,_,dD.of hl1⟩,(fH 1),λp1 hp1=>?_⟩);obtain⟨w2,k2⟩:=w1.row hl1 hp1 (o:=.tup [.str "keep"]) (r:=.row .keep) ⟨p1,rfl,bA⟩;refine⟨lr,_, .ref p1,rfl,rfl,bK hp1 _ _ _ hl1,cW (by omega),?_⟩;revert w2 k2;generalize upd (upd H1 p1<|.tup [.str "keep"]) lr (.lst<|zu++[.ref p1])=H2;intro w2 k2;have ha2:=w1.tps k2 _ _ ha1;have t22:=t21.tps (w1.tps k2);have aeI:=k2 _ _ n1 n2 abB;refine hn _ _<|dG λnx hn=>?_;refine⟨_,rfl,_,rfl,dN (a:=a) (j:=1) rfl ha2 rfl ⟨(fH 1),λp3 hp3=>?_⟩⟩;have s3:=bK hp3 (.lst [.str (iz x)]);refine⟨lo,p3,_,_,rfl,rfl,s3 _ _ aeI,bA,small (by rw[iK];show _+1<=1000000;omega),λp4 Te=>?_⟩;have e4:dZ own++[.str (iz x)]=dZ (own++[x]):=by unfold dZ;rw[af0,af0];rfl
  rw[e4];have s4:=bK Te (.lst<|dZ (own++[x]));have Qk:=s3.trans s4;have h4:(upd (upd H2 p3<|.lst [.str (iz x)]) p4<|.lst (dZ<|own++[x])) p4=some (.lst<|dZ (own++[x])):=bA;have np4:p4≠lr/\p4≠ll:=by
   obtain⟨jr,rO,_⟩:=w2.rw;obtain⟨rN,hll,_⟩:=w2.lt;exact⟨cH Te<|s3 _ _ rO,cH Te<|s3 _ _ hll⟩
  revert Qk h4;generalize upd (upd H2 p3<|.lst [.str (iz x)]) p4 (.lst<|dZ (own++[x]))=H4;intro Qk h4;refine(dN (a:=a) (j:=3) rfl (Qk _ _ ha2) rfl ⟨wk,p4,lr,ll,y,tb,ab,aY++r1++[.row .keep],L1,own++[x],x+1,r2,L',rfl,trivial,t22.same Qk,i2,w2.same Qk,h4,np4.1,np4.2,by simp only[afu,afz];exact c2,by simp only[afu,afz];omega,lL,λH5 k5 w5=>?_⟩);obtain⟨kv5,aeJ,g5,_⟩:=w5.wk;obtain⟨rv5,O4,al5⟩:=id w5.rw;have e5:=al5.1;simp only[afu,afz]at e5;refine hn _ _ ?_;refine(dU rfl aeJ g5 ⟨.inl ⟨rfl,_,dD.of O4⟩,(fH 2),λp6 ZJ=>?_⟩);obtain⟨w6,k6⟩:=w5.row O4 ZJ (o:=.tup [.str "drop", .int 1]) (r:=.row<|.drop 1) ⟨p6,rfl,bA⟩;refine⟨lr,_, .ref p6,rfl,rfl,bK ZJ _ _ _ O4,cW (by omega),?_⟩;refine q _ (k1.trans<|k2.trans ((iy Qk).trans<|k5.trans k6)) ?_;have e6:aY++(r1++[.row .keep]++r2++[.row (.drop 1)])=aY++r1++[.row .keep]++r2++[.row (.drop 1)]:=by simp
  rw[e6];exact w6
abbrev wA:aJ:=top 67
noncomputable abbrev nTs:List Str:=["_law_work","_law_own_here","_law_term","_law_test","_law_over"]
theorem yx:cu nTs yW (bN wA):={}
theorem tR (a:aP Lr)(x y:Lr)(b:aP Lr):(a++[x]++b).set a.length y=a++[y]++b:=by
 rw[afM,List.set_append_right _ _<|afv _,ahe];simp
set_option maxHeartbeats 4000000 in
theorem Tg {n:Nat}(F:gY K "_law_test_rows" "_law_test_rows" wA f fd)(ml:mg "len"=none)(h1:Has P w K mg aV (2*n) "_law_rows" yW (Gq n)):cX P w K mg aV jG (2*n+1) f fd yW (zq isIf n):=by
 refine F.ok yx λdJ A aU s H vs Q E hr h=>?_;obtain⟨wk,lo,lr,ll,v,t,ab,aY,L,own,m,r,L',rfl,pt,tl,ii,ws,qX,n1,n2,hc,lR,lL,q⟩:=h;have hu:=pX hr;refine⟨_,bI (cD (cP h1 hr (by exact afv _) rfl (bx (pv 0)<|bx (pv 1) (bx (bZ (fG K) (pv 2) bJ) bG))))
  (bI (eU 3 yx.nd<|cJ (kI K) rfl ml ahS (bx (cT hu (pv 0) bU) bG))
  (bI (cD<|jd K (cT hu (pv 0) bU) (bx wO bG))
  (bI (cD (cP h1 hr (by exact afv _) rfl (bx (pv 0)<|bx (pv 1) (bx (bZ (fG K) (pv 2) bJ) bG))))
  (bI (eU 4 yx.nd<|cJ (kI K) rfl ml ahS (bx (cT hu (pv 0) bU) bG))
  (bI (cD<|jd K (cT hu (pv 0) bU) (bx wO bG))
  (bI (pR (cV<|bx bU (bx (cJ (kI K) rfl ml ahS (bx (cT hu (pv 0) bU) bG)) bG))<|uy (cT hu (pv 0) bU) (pv 3) set_list)
  (bI (cD (cP h1 hr (by exact afv _) rfl (bx (pv 0)<|bx (pv 1) (bx (bZ (fG K) (pv 2) bJ) bG))))
  (bQ<|pR (cV<|bx bU (bx (cJ (kI K) rfl ml ahS (bx (cT hu (pv 0) bU) bG)) bG)) (uy (cT hu (pv 0) bU) (pv 4) set_list))))))))),?_⟩
 cases tl with
 |n h=>exact pt.elim
 |v h=>exact pt.elim
 |g h=>exact pt.elim
 |fn h a=>exact pt.elim
 |lt h a b=>exact pt.elim
 |op h a b=>exact pt.elim
 |call h a b=>exact pt.elim
 |block h h2 a=>exact pt.elim
 |field h a=>exact pt.elim
 |case h h2 a b=>exact pt.elim
 |@rK a u y z tc ta tb ha t1 t2 t3=>
  obtain⟨r1,L1,r2,L2,r3,c1,c2,c3,rfl⟩:=Gp hc;obtain⟨⟨b0,b1,b2⟩,me,l4,l6,dn⟩:=ii;simp only[dep]at l4 l6 dn;simp only[afu,afz]at lR;obtain⟨j,rfl⟩:∃j,n=j+1:=⟨n-1,by omega⟩;have i1:In j m own tc:=⟨b0,me,by omega,by omega,by omega⟩;have i2:In j m own ta:=⟨b1,me,by omega,by omega,by omega⟩;have i3:In j m own tb:=⟨b2,me,by omega,by omega,by omega⟩;have lL2:=i3.len c3;have lL1:=i2.len c2;refine dG λnx hn=>?_;refine⟨_,rfl,_,rfl,dN (a:=a) (j:=1) rfl ha rfl ⟨wk,lo,lr,ll,u,tc,ab,aY,L,own,m,r1,L1,rfl,trivial,t1,i1,ws,qX,n1,n2,c1,by omega,by omega,λH1 k1 w1=>?_⟩⟩;obtain⟨kv1,hk1,vk1,_⟩:=w1.wk;obtain⟨zu,hl1,al1⟩:=id w1.rw;have e1:=al1.1;rw[afu]at e1;refine hn _ _<|dG λnx hn=>?_;refine(dU rfl hk1 vk1 ⟨lr,_,rfl, .inl<|dD.of hl1,?_⟩);rw[e1];refine hn _ _<|dG λnx hn=>?_;refine(dU rfl hk1 vk1 ⟨.inl ⟨rfl,_,dD.of hl1⟩,lr,_, .non,rfl,rfl,hl1,cW (by omega),?_⟩);have w2:=w1.S9 hl1 (v:=.non) (r:=.hole) rfl;have k2:Kp lr ll H1 (upd H1 lr<|.lst (zu++[.non])):=jU;revert w2 k2;generalize upd H1 lr (.lst<|zu++[.non])=H2;intro w2 k2;have O5:=k1.trans k2;refine hn _ _<|dG λnx hn=>?_;refine⟨_,rfl,_,rfl,dN (a:=a) (j:=2) rfl (ws.tps O5 _ _ ha) rfl ⟨wk,lo,lr,ll,y,ta,ab,aY++r1++[.hole],L1,own,m,r2,L2,rfl,trivial,t2.tps<|ws.tps O5,i2,w2,O5 _ _ n1 n2 qX,n1,n2,by simp only[afu,afz];exact c2,by simp only[afu,afz];omega,by omega,λH3 k3 w3=>?_⟩⟩;have Vi:=O5.trans k3;obtain⟨kv3,hk3,vk3,_⟩:=w3.wk;obtain⟨rv3,hl3,al3⟩:=id w3.rw;have e3:=al3.1;simp only[afu,afz]at e3;refine hn _ _<|dG λnx hn=>?_;refine(dU rfl hk3 vk3 ⟨lr,_,rfl, .inl<|dD.of hl3,?_⟩);rw[e3];refine hn _ _<|dG λnx hn=>?_;refine(dU rfl hk3 vk3 ⟨.inl ⟨rfl,_,dD.of hl3⟩,lr,_, .non,rfl,rfl,hl3,cW (by omega),?_⟩);have w4:=w3.S9 hl3 (v:=.non) (r:=.hole) rfl;have k4:Kp lr ll H3 (upd H3 lr<|.lst (rv3++[.non])):=jU;revert w4 k4;generalize upd H3 lr (.lst<|rv3++[.non])=H4;intro w4 k4;obtain⟨kv4,hk4,vk4,_⟩:=w4.wk;obtain⟨rv4,ZF,al4⟩:=id w4.rw;have e4:=al4.1;simp only[afu,afz]at e4;refine hn _ _<|dG λnx hn=>?_;refine(dU rfl hk4 vk4 ⟨lr,_,rfl, .inl<|dD.of ZF,(fH 2),λp5 hp5=>?_⟩);rw[e4];have s5:=bK hp5 (.tup [.str "unless", .int ((aY.length+r1.length+1+r2.length+1:Nat):Int)]);refine(dU rfl (s5 _ _ hk4) vk4 ⟨_,rfl,lr,_,_,aY.length+r1.length,rfl,rfl,s5 _ _ ZF,qO (by rw[e4];omega),?_⟩);have w5:=(w4.same s5).W3 (s5 _ _ ZF) (v:=.ref p5) (r:=.row<|.CK (aY.length+r1.length+1+r2.length+1)) (aY.length+r1.length) ⟨p5,rfl,bA⟩;have q5:=tR (aY++r1) .hole (.row<|.CK (aY.length+r1.length+1+r2.length+1)) (r2++[.hole]);rw[afu]at q5;rw[show aY++r1++[Lr.hole]++r2++[Lr.hole]=aY++r1++[Lr.hole]++(r2++[Lr.hole]) by simp,q5]at w5;have k5:Kp lr ll H4 (upd (upd H4 p5<|.tup [.str "unless", .int ((aY.length+r1.length+1+r2.length+1:Nat):Int)]) lr<|.lst (rv4.set (aY.length+r1.length)<|.ref p5)):=(iy s5).trans jU;revert w5 k5;generalize upd (upd H4 p5<|.tup [.str "unless", .int ((aY.length+r1.length+1+r2.length+1:Nat):Int)]) lr (.lst<|rv4.set (aY.length+r1.length) (.ref p5))=H5;intro w5 k5;have Vj:=Vi.trans (k4.trans k5);refine hn _ _<|dG λnx hn=>?_;refine⟨_,rfl,_,rfl,dN (a:=a) (j:=3) rfl (ws.tps Vj _ _ ha) rfl ⟨wk,lo,lr,ll,z,tb,ab,_,L2,own,m,r3,L',rfl,trivial,t3.tps<|ws.tps Vj,i3,w5,Vj _ _ n1 n2 qX,n1,n2,by simp only[afu,afz,<-af2];exact c3,by simp only[afu,afz];omega,lL,λH6 k6 w6=>?_⟩⟩;obtain⟨Ql,hk6,vk6,_⟩:=w6.wk;obtain⟨rv6,Eb,W7⟩:=id w6.rw;have e6:=W7.1;simp only[afu,afz,<-af2]at e6;refine hn _ _ ?_;refine(dU rfl hk6 vk6 ⟨lr,_,rfl, .inl<|dD.of Eb,(fH 2),λp7 yq=>?_⟩);rw[e6];have s7:=bK yq (.tup [.str "jump", .int ((aY.length+r1.length+1+r2.length+1+r3.length:Nat):Int)]);refine(dU rfl (s7 _ _ hk6) vk6 ⟨_,rfl,lr,_,_,aY.length+r1.length+1+r2.length,rfl,rfl,s7 _ _ Eb,qO (by rw[e6];exact afF _ _),?_⟩);have w7:=(w6.same s7).W3 (s7 _ _ Eb) (v:=.ref p7) (r:=.row<|.jump (aY.length+r1.length+1+r2.length+1+r3.length)) (aY.length+r1.length+1+r2.length) ⟨p7,rfl,bA⟩;have q7:=tR (aY++r1++[.row (.CK<|aY.length+r1.length+1+r2.length+1)]++r2) .hole (.row<|.jump (aY.length+r1.length+1+r2.length+1+r3.length)) r3;simp only[afu,afz]at q7;have k7:Kp lr ll H6 (upd (upd H6 p7<|.tup [.str "jump", .int ((aY.length+r1.length+1+r2.length+1+r3.length:Nat):Int)]) lr<|.lst (rv6.set (aY.length+r1.length+1+r2.length)<|.ref p7)):=(iy s7).trans jU;refine q _ (Vj.trans<|k6.trans k7) ?_;rw[show aY++r1++[.row (.CK<|aY.length+r1.length+1+r2.length+1)]++(r2++[Lr.hole])++r3=aY++r1++[.row (.CK<|aY.length+r1.length+1+r2.length+1)]++r2++[Lr.hole]++r3 by simp,q7]at w7;have e8:aY++(r1++[.row (.CK<|aY.length+r1.length+1+r2.length+1)]++r2++[.row (.jump<|aY.length+r1.length+1+r2.length+1+r3.length)]++r3)=aY++r1++[.row (.CK<|aY.length+r1.length+1+r2.length+1)]++r2++[.row (.jump<|aY.length+r1.length+1+r2.length+1+r3.length)]++r3:=by simp
  rw[e8];exact w7
end
noncomputable def pN:List (List Lr×Nat)->List Lr
 |[]=>[]
 |a::as=>a.1++[.row (.drop a.2)]++[.hole]++pN as
noncomputable def vO:List (List Lr×Nat)->Nat->List Nat
 |[],_=>[]
 |a::as,p=>(p+a.1.length+1)::vO as (p+a.1.length+2)
theorem tU:∀{as:List (List Lr×Nat)},(pN as).length=cN as
 |[]=>rfl
 |a::as=>by unfold pN cN;simp only[afu,afz,tU]
theorem tV:∀{as:List (List Lr×Nat)} {p:Nat},(vO as p).length=as.length
 |[],_=>rfl
 |a::as,p=>by unfold vO;simp[tV]
theorem vh:∀{as:List (List Lr×Nat)} {a:List Lr×Nat},cN (as++[a])=cN as+a.1.length+2
 |[],a=>by simp[cN]
 |b::as,a=>by rw[agi];unfold cN;rw[vh];omega
theorem Aq:∀{as:List (List Lr×Nat)} {a:List Lr×Nat} {p:Nat},jJ (as++[a]) p=jJ as p++[p+cN as]
 |[],a,p=>by simp[jJ,cN]
 |b::as,a,p=>by show p::jJ (as++[a]) _=p::jJ as _++[p+(b.1.length+2+cN as)];rw[Aq,agi,show p+b.1.length+2+cN as=p+(b.1.length+2+cN as) by omega]
theorem Gr:∀{as:List (List Lr×Nat)} {a:List Lr×Nat} {p:Nat},vO (as++[a]) p=vO as p++[p+cN as+a.1.length+1]
 |[],a,p=>by simp[vO,cN]
 |b::as,a,p=>by show(p+b.1.length+1)::vO (as++[a]) _=(p+b.1.length+1)::vO as _++[p+(b.1.length+2+cN as)+a.1.length+1];rw[Gr,agi,show p+b.1.length+2+cN as=p+(b.1.length+2+cN as) by omega]
theorem Ar:∀{as:List (List Lr×Nat)} {a:List Lr×Nat},pN (as++[a])=pN as++a.1++[.row (.drop a.2)]++[.hole]
 |[],a=>by simp[pN]
 |b::as,a=>by rw[agi];unfold pN;rw[Ar];simp
theorem tW {q:Nat}:∀{as:List (List Lr×Nat)} {a:List Lr×Nat},eG (as++[a]) q=eG as q++a.1++[.row (.drop a.2)]++[.row (.jump q)]
 |[],a=>by simp[eG]
 |b::as,a=>by rw[agi];unfold eG;rw[tW];simp
theorem Ti:∀{as:List (List Lr×Nat)} {p i:Nat} {a:List Lr×Nat},as[i]?=some a->(vO as p)[i]?=some (p+cN (as.take i)+a.1.length+1)
 |[],_,_,_,h=>by simp at h
 |b::as,p,0,a,h=>by simp at h;subst h;simp[vO,cN]
 |b::as,p,i+1,a,h=>by
  have:=Ti (p:=p+b.1.length+2) (i:=i) (a:=a) (as:=as) (by simpa using h);unfold vO;rw[List.getElem?_cons_succ,this,List.take_succ_cons];show some (p+b.1.length+2+cN (as.take i)+a.1.length+1)=some (p+(b.1.length+2+cN (as.take i))+a.1.length+1);rw[show p+b.1.length+2+cN (as.take i)=p+(b.1.length+2+cN (as.take i)) by omega]
section
theorem oF {js:aP Nat}:(dI js).length=js.length:=by unfold dI;rw[afL]
theorem yC {js:aP Nat}{j:Nat}:dI js++[V.int (j:Int)]=dI (js++[j]):=by unfold dI;rw[af0];rfl
theorem Gs {lr ll lf:aj}{H H':Hp}{o:HO}(k:Kp lr ll H H')(h:H lf=none):Kp lr ll H (upd H' lf o):=λb u n m e=>by
 rw[bV (bY e h)];exact k b u n m e
abbrev wB:aJ:=top 66
noncomputable abbrev nCr:List Str:=["_law_work","_law_own_here","_law_term","_law_spot","_law_firsts","_law_jumps","_law_names","_law_body","_law_jump"]
theorem lX:cu nCr yW (bN wB):={}
inductive CrI (a wk lo lr ll lf lj:aj)(ab:Bool)(rows0:List Lr)(p0 x:Nat)(own:List Nat)(bs:List Tm)(ms:List Nat)(rs:List (List Lr×Nat))(L':List Lt)(H:Hp)(i:Nat)(U:L2.St)(H':Hp):Prop where
 |mk (o6 o7:Option V) (as rs':List (List Lr×Nat)) (L:List Lt):U=[some (.ref wk),some<|.ref lo,some<|.ref a,some<|.int ((p0-1:Nat):Int),some<|.ref lf,some<|.ref lj,o6,o7,none]->as.length=i->rs=as++rs'->jN ab (bs.drop i) (ms.drop i) x own L (p0+cN as)=some (rs',L')->
  Kp lr ll H H'->WS H' wk lr ll ab (rows0++pN as) L->H' lf=some (.lst<|dI (jJ as p0))->H' lj=some (.lst<|dI (vO as p0))->CrI a wk lo lr ll lf lj ab rows0 p0 x own bs ms rs L' H i U H'
inductive CrJ (a wk lo lr ll lf lj:aj)(ab:Bool)(rows0:List Lr)(p0 q:Nat)(rs:List (List Lr×Nat))(L':List Lt)(H:Hp)(i:Nat)(U:L2.St)(H':Hp):Prop where
 |mk (o6 o7 o8:Option V):U=[some (.ref wk),some<|.ref lo,some<|.ref a,some<|.int ((p0-1:Nat):Int),some<|.ref lf,some<|.ref lj,o6,o7,o8]->
  Kp lr ll H H'->WS H' wk lr ll ab (rows0++eG (rs.take i) q++pN (rs.drop i)) L'->H' lf=some (.lst<|dI (jJ rs p0))->H' lj=some (.lst<|dI (vO rs p0))->CrJ a wk lo lr ll lf lj ab rows0 p0 q rs L' H i U H'
theorem rP:∀{as bs:List (List Lr×Nat)},cN (as++bs)=cN as+cN bs
 |[],_=>by simp[cN]
 |b::as,bs=>by show b.1.length+2+cN (as++bs)=b.1.length+2+cN as+cN bs;rw[rP,<-af2]
theorem Av:∀{as:List (List Lr×Nat)},as.length<=cN as
 |[]=>afv _
 |b::as=>by have:=Av (as:=as);show as.length+1<=b.1.length+2+cN as;omega
theorem adk {ab:Bool}{bs:aP Tm}{ms:aP Nat}{x:Nat}{own:aP Nat}{L L':aP Lt}{p:Nat}{rs:aP (aP Lr×Nat)}(g:DY x bs ms)(h:jN ab bs ms x own L p=some (rs,L')):L.length<=L'.length:=by
 obtain⟨N,e,_⟩:=yh (aW:=[]) (bg:=[]) g h;rw[e,afu];exact afF _ _
theorem Gu {m:Nat}:∀{bs:List Tm} {ms:List Nat} (i:Nat),DY m bs ms->DY m (bs.drop i) (ms.drop i)
 |_,_,0,h=>h
 |[],ms,i+1,h=>by unfold DY at h;subst h;simp[DY]
 |b::bs,ms,i+1,h=>by
  unfold DY at h;obtain⟨k,CV,rfl,_,_,g⟩:=h;exact Gu i g
theorem Aw {ab:Bool}{ms:aP Nat}{x:Nat}{own:aP Nat}{L L':aP Lt}{p:Nat}{rs:aP (aP Lr×Nat)}(h:jN ab [] ms x own L p=some (rs,L')):rs=[]/\L'=L:=by
 unfold jN at h;cases h;exact⟨rfl,rfl⟩
set_option maxHeartbeats 8000000 in
theorem Tj {n:Nat}(F:gY K "_law_case_rows" "_law_case_rows" wB f fd)(ml:mg "len"=none)(mL:mg "list"=none)(mt:mg "tuple"=none)(h1:Has P w K mg aV (2*n) "_law_rows" yW (Gq n)):cX P w K mg aV jG (2*n+1) f fd yW (zq Tc n):=by
 refine F.ok lX λdJ A aU s H vs Q E hr h=>?_;obtain⟨wk,lo,lr,ll,v,t,ab,aY,L,own,m,r,L',rfl,pt,tl,ii,ws,qX,n1,n2,hc,lR,lL,q⟩:=h;have hu:=pX hr;have hz:=sizeLine_eq;refine⟨_,bI (cD (cP h1 hr (by exact afv _) rfl (bx (pv 0)<|bx (pv 1) (bx (bZ (fG K) (pv 2) bJ) bG))))
  (bI (eU 3 lX.nd<|cJ (kI K) rfl ml ahS (bx (cT hu (pv 0) bU) bG))
  (bI (cD<|jd K (cT hu (pv 0) bU) (bx wO bG))
  (bI (eU 4 lX.nd<|dO bG)
  (bI (eU 5 lX.nd<|dO bG)
  (bI (mY PassesOwn.never rfl (piT K<|bZ (fG K) (pv 2) bJ) (Zt K (n:=2) rfl (fK (dF (i:=6) lX.nd rfl (Or.inl rfl))<|fK (dF (i:=7) lX.nd rfl (Or.inl rfl)) mq))
   (bI (cD<|jd K (pv 4) (bx (cJ (kI K) rfl ml ahS (bx (cT hu (pv 0) bU) bG)) bG))
   (bI (cD (cP h1 hr (by exact afv _) rfl (bx (pv 0)<|bx (cU lU (pv 1)<|cZ (RG K) rfl mL boot_list (bx (pv 6) bG)) (bx (pv 7) bG))))
   (bI (cD<|jd K (cT hu (pv 0) bU) (bx (cV<|bx bU (bx (cJ (kI K) rfl ml ahS (bx (pv 6) bG)) bG)) bG))
   (bI (cD<|jd K (pv 5) (bx (cJ (kI K) rfl ml ahS (bx (cT hu (pv 0) bU) bG)) bG))
   (bQ<|cD (jd K (cT hu (pv 0) bU)<|bx wO bG)))))))
  (bI (mY PassesOwn.never rfl (piL K<|pv 5) (dF (i:=8) lX.nd rfl (Or.inl rfl))
   (bQ<|pR (cV<|bx bU (bx (cJ (kI K) rfl ml ahS (bx (cT hu (pv 0) bU) bG)) bG)) (uy (cT hu (pv 0) bU) (pv 8) set_list)))
  (bQ<|pR (cV<|bx bU (bx (cZ (BW K) rfl mt boot_tuple (bx (pv 4) bG)) bG)) (uy (cT hu (pv 0) bU) (pv 3) set_list)))))))),?_⟩
 cases tl with
 |n h=>exact pt.elim
 |v h=>exact pt.elim
 |g h=>exact pt.elim
 |fn h a=>exact pt.elim
 |lt h a b=>exact pt.elim
 |rK h a b c=>exact pt.elim
 |op h a b=>exact pt.elim
 |call h a b=>exact pt.elim
 |block h h2 a=>exact pt.elim
 |field h a=>exact pt.elim
 |@case a t x v b ms ts bs ha ht t1 t2=>
  obtain⟨r1,L1,rs,c1,c2,rfl⟩:=Ao hc;obtain⟨⟨b0,b1,b2⟩,me,l4,l6,dn⟩:=ii;subst b0;simp only[dep]at l4 l6 dn;simp only[afu,afz,jM]at lR;obtain⟨j,rfl⟩:∃j,n=j+1:=⟨n-1,by omega⟩;have d1:dep b<=max (dep b) (iJ bs):=agq _ _;have d2:iJ bs<=max (dep b) (iJ bs):=agl _ _;generalize max (dep b) (iJ bs)=D at l4 l6 dn d1 d2;have i1:In j x own b:=⟨b1,me,by omega,by omega,by omega⟩;have gl:=DY.len b2;obtain⟨lt1,lt2⟩:=t2.len;have hA:=adk b2 c2;refine dG λnx hn=>?_;refine⟨_,rfl,_,rfl,dN (a:=a) (j:=1) rfl ha rfl ⟨wk,lo,lr,ll,v,b,ab,aY,L,own,x,r1,L1,rfl,trivial,t1,i1,ws,qX,n1,n2,c1,by omega,by omega,λH1 k1 w1=>?_⟩⟩;obtain⟨kv1,hk1,vk1,_⟩:=w1.wk;obtain⟨zu,hl1,al1⟩:=id w1.rw;have e1:=al1.1;rw[afu]at e1;refine hn _ _<|dG λnx hn=>?_;refine(dU rfl hk1 vk1 ⟨lr,_,rfl, .inl<|dD.of hl1,?_⟩);rw[e1];refine hn _ _<|dG λnx hn=>?_;refine(dU rfl hk1 vk1 ⟨.inl ⟨rfl,_,dD.of hl1⟩,lr,_, .non,rfl,rfl,hl1,cW (by omega),?_⟩);have w2:=w1.S9 hl1 (v:=.non) (r:=.hole) rfl;have k2:Kp lr ll H1 (upd H1 lr<|.lst (zu++[.non])):=jU;revert w2 k2;generalize upd H1 lr (.lst<|zu++[.non])=H2;intro w2 k2;have O5:=k1.trans k2;have hp0:∃p0,p0=aY.length+r1.length+1:=⟨_,rfl⟩;obtain⟨p0,hp0⟩:=hp0;have e0:aY.length+r1.length=p0-1:=by omega
  have lr0:(aY++r1++[Lr.hole]).length=p0:=by simp only[afu,afz];exact hp0.symm
  rw[<-hp0]at c2;rw[e0];refine hn _ _<|dG λnx hn=>?_;refine⟨(fH 0),λlf LK=>?_⟩;have s3:=bK LK (.lst []);have g3:(upd H2 lf<|.lst []) lf=some (.lst<|dI []):=bA;have LQ:lf≠lr/\lf≠ll:=by
   obtain⟨jr,rO,_⟩:=w2.rw;obtain⟨rN,hll,_⟩:=w2.lt;exact⟨cH LK rO,cH LK hll⟩
  revert s3 g3;generalize upd H2 lf (.lst [])=H3;intro s3 g3;refine hn _ _<|dG λnx hn=>?_;refine⟨(fH 0),λlj hlj=>?_⟩;have s4:=bK hlj (.lst []);have g4:(upd H3 lj<|.lst []) lj=some (.lst<|dI []):=bA;have ZK:lj≠lr/\lj≠ll:=by
   obtain⟨jr,rO,_⟩:=(w2.same s3).rw;obtain⟨rN,hll,_⟩:=(w2.same s3).lt;exact⟨cH hlj rO,cH hlj hll⟩
  have nfj:lf≠lj:=ahO (cH hlj g3);have aeK:H2 lj=none:=s3.free hlj;have g34:=s4 _ _ g3;have Qk:=s3.trans s4;revert g4 g34 Qk;generalize upd H3 lj (.lst [])=H4;intro g4 g34 Qk;have w4:=w2.same Qk;have ZM:yV H H4:=ws.tps (O5.trans<|iy Qk);refine hn _ _<|dG λnx hn=>?_;refine(dN (a:=a) (j:=2) rfl (ZM _ _ ha) rfl ⟨t,rfl,⟨_,iM.of<|ZM _ _ ht⟩,?_⟩);refine Kc (xs:=ts) (CrI a wk lo lr ll lf lj ab (aY++r1++[Lr.hole]) p0 x own bs ms rs L' H2) ⟨none,none,[],rs,L1,rfl,rfl,rfl,c2,iy Qk,by simpa[pN] using w4,g34,g4⟩ ?_ ?_ ?_
  ·rintro i U H5 hi ⟨o6,o7,as,rs',L5,rfl,las,ers,c5,k5,w5,f5,j5⟩
   exact iM.of<|ws.tps (O5.trans k5) _ _ ht
  ·rintro i y U H5 hy ⟨o6,o7,as,rs',L5,rfl,las,ers,c5,k5,w5,f5,j5⟩
   have li:i<bs.length:=by have:=(ahW hy).1;exact afR this lt1
   have W8:=ws.tps (O5.trans k5);obtain⟨pa,pq,pv,mi,em,ev,hpa,hpq,tpv⟩:=t2.get (afw li);rw[ev]at hy;cases hy;obtain⟨k',ek,lk,gi⟩:=S6 b2 (afw li);rw[em]at ek;cases ek;have lmi:i<ms.length:=by exact afR li lt2.symm
   have emi:ms[i]=mi:=by rw[afw lmi]at em;exact ahR em
   rw[af3 li,af3 lmi,emi]at c5;obtain⟨ra,L6,rs6,ca,cb,adl⟩:=yw c5;have hAb:=adk (Gu (i+1) b2) cb;have di:dep bs[i]<=D:=afy (pB<|afw li) d2;have ii2:In j (x+mi) (own++nms x mi) bs[i]:=⟨gi,Ln me,by omega,by rw[afu,jh];omega,by omega⟩;have hAa:=ii2.len ca;have afl:=Av (as:=as);have la:p0+cN as+ra.length+2<=50000:=by
    have:cN rs=cN as+cN rs':=by rw[ers,rP]
    rw[adl]at this;have z:cN ((ra,mi)::rs6)=ra.length+2+cN rs6:=rfl;omega
   refine⟨pa,_,rfl,iM.of<|W8 _ _ hpa,rfl,_,_,rfl,_,_,rfl,rfl,?_⟩;refine dG λnx hn=>?_;obtain⟨kv5,hk5,vk5,_⟩:=w5.wk;obtain⟨rv5,O4,al5⟩:=id w5.rw;have e5:=al5.1;rw[afu,lr0,tU]at e5;refine⟨_,rfl, .inl ⟨rfl,_,dD.of f5⟩,dU rfl hk5 vk5 ⟨lr,_,rfl, .inl<|dD.of O4,?_⟩⟩;rw[e5];refine⟨lf,_,_,rfl,rfl,f5,cW (by rw[oF,xZ];omega),?_⟩;rw[yC,show jJ as p0++[p0+cN as]=jJ (as++[(ra,mi)]) p0 from(Aq (a:=(ra,mi))).symm];have w6:=w5.aside (ys:=jJ (as++[(ra,mi)]) p0) f5 LQ.1 LQ.2;have f6:(upd H5 lf<|.lst (dI<|jJ (as++[(ra,mi)]) p0)) lf=some (.lst<|dI (jJ (as++[(ra,mi)]) p0)):=bA;have j6:(upd H5 lf<|.lst (dI<|jJ (as++[(ra,mi)]) p0)) lj=some (.lst<|dI (vO as p0)):=by rw[bV (ahO nfj)];exact j5
   have k6:Kp lr ll H2 (upd H5 lf<|.lst (dI<|jJ (as++[(ra,mi)]) p0)):=Gs k5 LK;revert w6 f6 j6 k6;generalize upd H5 lf (.lst<|dI (jJ (as++[(ra,mi)]) p0))=H6;intro w6 f6 j6 k6;have tp6:=ws.tps (O5.trans k6);refine hn _ _<|dG λnx hn=>?_;refine⟨_,rfl,_,rfl,_,rfl,pq,_,rfl, .inr<|iM.of (tp6 _ _ hpq),λl7 hl7=>?_⟩;have s7:=bK hl7 (.lst<|dZ (nms x mi));refine⟨lo,l7,_,_,rfl,rfl,s7 _ _<|k6 _ _ n1 n2 (O5 _ _ n1 n2 qX),bA,small (by rw[iK,iK,jh];omega),λl8 O6=>?_⟩;have e8:dZ own++dZ (nms x mi)=dZ (own++nms x mi):=by unfold dZ;rw[af0,af0]
   rw[e8];have s8:=s7.trans (bK O6<|.lst (dZ<|own++nms x mi));have h8:(upd (upd H6 l7<|.lst (dZ<|nms x mi)) l8<|.lst (dZ<|own++nms x mi)) l8=some (.lst<|dZ (own++nms x mi)):=bA;have nl8:l8≠lr/\l8≠ll:=by
    obtain⟨jr,rO,_⟩:=w6.rw;obtain⟨rN,hll,_⟩:=w6.lt;exact⟨cH O6<|s7 _ _ rO,cH O6<|s7 _ _ hll⟩
   revert s8 h8;generalize upd (upd H6 l7<|.lst (dZ<|nms x mi)) l8 (.lst<|dZ (own++nms x mi))=H8;intro s8 h8;have w8:=w6.same s8;have k8:Kp lr ll H2 H8:=k6.trans (iy s8);have lr8:(aY++r1++[Lr.hole]++pN as).length=p0+cN as:=by rw[afu,lr0,tU]
   refine⟨_,rfl,wk,l8,lr,ll,pv,bs[i],ab,aY++r1++[Lr.hole]++pN as,L5,own++nms x mi,x+mi,ra,L6,rfl,trivial,tpv.tps<|ws.tps (O5.trans k8),ii2,w8,h8,nl8.1,nl8.2,by rw[lr8];exact ca,by rw[lr8];exact afy (afF _ _) la,by omega,λH9 k9 w9=>?_⟩;have f9:=k9 _ _ LQ.1 LQ.2 (s8 _ _ f6);have j9:=k9 _ _ ZK.1 ZK.2 (s8 _ _ j6);have k29:=k8.trans k9;obtain⟨kv9,hk9,vk9,_⟩:=w9.wk;obtain⟨rv9,hl9,al9⟩:=id w9.rw;have e9:=al9.1;rw[afu,lr8]at e9;have tp9:=ws.tps (O5.trans k29);refine hn _ _<|dG λnx hn=>?_;refine(dU rfl hk9 vk9 ⟨.inl ⟨rfl,_,dD.of hl9⟩,_,rfl,pq,_,rfl, .inr<|iM.of (tp9 _ _ hpq),(fH 2),λpd hpd=>?_⟩);rw[iK,jh];obtain⟨w10,k10⟩:=w9.row hl9 hpd (o:=.tup [.str "drop", .int (mi:Int)]) (r:=.row<|.drop mi) ⟨pd,rfl,bA⟩;refine⟨lr,_, .ref pd,rfl,rfl,bK hpd _ _ _ hl9,cW (by omega),?_⟩;revert w10 k10;generalize upd (upd H9 pd<|.tup [.str "drop", .int (mi:Int)]) lr (.lst<|rv9++[.ref pd])=Jr;intro w10 k10;have f10:=k10 _ _ LQ.1 LQ.2 f9;have j10:=k10 _ _ ZK.1 ZK.2 j9;obtain⟨afm,aeL,aeM,_⟩:=w10.wk;obtain⟨afn,aeN,aeO⟩:=id w10.rw;have e10:=aeO.1;rw[afu,afu,lr8,afz]at e10;refine hn _ _<|dG λnx hn=>?_;refine⟨_,rfl, .inl ⟨rfl,_,dD.of j10⟩,dU rfl aeL aeM ⟨lr,_,rfl, .inl<|dD.of aeN,?_⟩⟩;rw[e10];refine⟨lj,_,_,rfl,rfl,j10,cW (by rw[oF,tV];omega),?_⟩;rw[yC,show vO as p0++[p0+cN as+ra.length+1]=vO (as++[(ra,mi)]) p0 from(Gr (a:=(ra,mi))).symm];have w11:=w10.aside (ys:=vO (as++[(ra,mi)]) p0) j10 ZK.1 ZK.2;have j11:(upd Jr lj<|.lst (dI<|vO (as++[(ra,mi)]) p0)) lj=some (.lst<|dI (vO (as++[(ra,mi)]) p0)):=bA;have f11:(upd Jr lj<|.lst (dI<|vO (as++[(ra,mi)]) p0)) lf=some (.lst<|dI (jJ (as++[(ra,mi)]) p0)):=by rw[bV nfj];exact f10
   have k11:Kp lr ll H2 (upd Jr lj<|.lst (dI<|vO (as++[(ra,mi)]) p0)):=Gs (k29.trans k10) aeK;revert w11 f11 j11 k11;generalize upd Jr lj (.lst<|dI (vO (as++[(ra,mi)]) p0))=H11;intro w11 j11 f11 k11;obtain⟨aeP,aeQ,aeR,_⟩:=w11.wk;obtain⟨aeS,Dh,abC⟩:=id w11.rw;have e11:=abC.1;rw[afu,afu,lr8,afz]at e11;refine hn _ _ ?_;refine(dU rfl aeQ aeR ⟨.inl ⟨rfl,_,dD.of Dh⟩,lr,_, .non,rfl,rfl,Dh,cW (by omega),?_⟩);have w12:=w11.S9 Dh (v:=.non) (r:=.hole) rfl;refine⟨_,_,as++[(ra,mi)],rs6,L6,rfl,by rw[afu,las];rfl,by rw[ers,adl];simp,?_,k11.trans jU,?_,by rw[bV LQ.1];exact f11,by rw[bV ZK.1];exact j11⟩
   ·rw[vh,show p0+(cN as+(ra,mi).1.length+2)=p0+cN as+ra.length+2 by show p0+(cN as+ra.length+2)=_;omega]
    exact cb
   ·rw[Ar]
    simpa using w12
  rintro U H5 ⟨o6,o7,as,rs',L5,rfl,las,ers,c5,k5,w5,f5,j5⟩;rw[show List.drop ts.length bs=[] from ag' (by exact agy lt1.symm)]at c5;obtain⟨z1,z2⟩:=Aw c5;subst z1 z2;rw[agh]at ers;subst ers;refine hn _ _<|dG λnx hn=>?_;have q0:∃qq,qq=p0+cN rs:=⟨_,rfl⟩;obtain⟨qq,hqq⟩:=q0;refine⟨_,rfl,lj,rfl,⟨_,dD.of j5⟩,?_⟩;refine wR (xs:=dI<|vO rs p0) (CrJ a wk lo lr ll lf lj ab (aY++r1++[Lr.hole]) p0 qq rs L' H2) ⟨_,_,none,rfl,k5,by simpa[eG] using w5,f5,j5⟩ ?_ ?_ ?_
  ·rintro i U H6 hi ⟨o6,o7,o8,rfl,k6,w6,f6,j6⟩
   exact dD.of j6
  ·rintro i y U H6 hy ⟨o6,o7,o8,rfl,k6,w6,f6,j6⟩
   have li:i<rs.length:=by have:=(ahW hy).1;rw[oF,tV]at this;exact this
   unfold dI at hy;rw[afJ,Ti (afw li)]at hy;cases hy;obtain⟨Ql,hk6,vk6,_⟩:=w6.wk;obtain⟨rv6,Eb,W7⟩:=id w6.rw;have e6:=W7.1;have et:rs.take i++rs.drop i=rs:=ahb _ _;have el:cN (rs.take i)+cN (rs.drop i)=cN rs:=by rw[<-rP,et]
   have ed:rs.drop i=rs[i]::rs.drop (i+1):=af3 li;have el2:cN (rs.drop i)=rs[i].1.length+2+cN (rs.drop<|i+1):=by rw[ed];rfl
   rw[afu,afu,lr0,jM,tU,af2,el,<-hqq]at e6;refine(dU rfl hk6 vk6 ⟨lr,_,rfl, .inl<|dD.of Eb,(fH 2),λp7 yq=>?_⟩);rw[e6];have s7:=bK yq (.tup [.str "jump", .int (qq:Int)]);refine(dU rfl (s7 _ _ hk6) vk6 ⟨_,rfl,lr,_,_,p0+cN (rs.take i)+rs[i].1.length+1,rfl,rfl,s7 _ _ Eb,qO (by rw[e6];omega),?_⟩);have w7:=(w6.same s7).W3 (s7 _ _ Eb) (v:=.ref p7) (r:=.row<|.jump qq) (p0+cN (rs.take i)+rs[i].1.length+1) ⟨p7,rfl,bA⟩;refine⟨_,_,_,rfl,k6.trans<|(iy s7).trans jU,?_,by rw[bV LQ.1];exact s7 _ _ f6,by rw[bV ZK.1];exact s7 _ _ j6⟩;have q7:=tR (aY++r1++[Lr.hole]++eG (rs.take i) qq++rs[i].1++[Lr.row (.drop rs[i].2)]) .hole (.row<|.jump qq) (pN<|rs.drop (i+1));have ln7:(aY++r1++[Lr.hole]++eG (rs.take i) qq++rs[i].1++[Lr.row (.drop rs[i].2)]).length=p0+cN (rs.take i)+rs[i].1.length+1:=by
    rw[afu,afu,afu,lr0,jM];rfl
   rw[ln7]at q7;rw[show aY++r1++[Lr.hole]++eG (rs.take i) qq++pN (rs.drop i)=aY++r1++[Lr.hole]++eG (rs.take i) qq++rs[i].1++[Lr.row (.drop rs[i].2)]++[.hole]++pN (rs.drop<|i+1) by rw[ed];simp[pN],q7]at w7;rw[show rs.take (i+1)=rs.take i++[rs[i]] by rw[agn,afw li];rfl,tW];simpa using w7
  rintro U H6 ⟨o6,o7,o8,rfl,k6,w6,f6,j6⟩;rw[show List.take (dI<|vO rs p0).length rs=rs from ag8 (by rw[oF,tV];exact afv _),show List.drop (dI<|vO rs p0).length rs=[] from ag' (by rw[oF,tV];exact afv _)]at w6;refine hn _ _ ?_;obtain⟨Ql,hk6,vk6,_⟩:=w6.wk;obtain⟨rv6,Eb,W7⟩:=id w6.rw;have e6:=W7.1;rw[afu,afu,lr0]at e6;refine⟨_,rfl,lf,_,rfl, .inl ⟨dD.of f6,λp7 yq=>?_⟩⟩;have s7:=bK yq (.tup<|dI (jJ rs p0));refine⟨(fH 2),λp8 hp8=>?_⟩;have s8:=s7.trans (bK hp8<|.tup [.str "case", .ref p7]);have g7:(upd (upd H6 p7<|.tup (dI<|jJ rs p0)) p8<|.tup [.str "case", .ref p7]) p7=some (.tup<|dI (jJ rs p0)):=bK hp8 _ _ _ bA;have g8:(upd (upd H6 p7<|.tup (dI<|jJ rs p0)) p8<|.tup [.str "case", .ref p7]) p8=some (.tup [.str "case", .ref p7]):=bA;revert s8 g7 g8;generalize upd (upd H6 p7<|.tup (dI<|jJ rs p0)) p8 (.tup [.str "case", .ref p7])=H8;intro s8 g7 g8;refine(dU rfl (s8 _ _ hk6) vk6 ⟨_,rfl,lr,_,_,p0-1,rfl,rfl,s8 _ _ Eb,qO (by rw[e6];omega),?_⟩);have w9:=(w6.same s8).W3 (s8 _ _ Eb) (v:=.ref p8) (r:=.row<|.case (jJ rs p0)) (p0-1) ⟨p8,rfl,p7,g8,g7⟩;refine q _ (O5.trans<|k6.trans ((iy s8).trans jU)) ?_;have q9:=tR (aY++r1) .hole (.row<|.case (jJ rs p0)) (eG rs qq);rw[afu,e0]at q9;rw[show aY++r1++[Lr.hole]++eG rs qq++pN []=aY++r1++[Lr.hole]++eG rs qq by simp[pN],q9]at w9;rw[<-hp0,<-hqq];simpa using w9
end
theorem adn:∀k,k<=3->wordOf k≠"case"/\wordOf k≠"block"/\wordOf k≠"field":=by decide+kernel
theorem W9:("call":Str)≠"case"/\("call":Str)≠"block"/\("call":Str)≠"field":=by decide+kernel
theorem Tn:("case":Str)≠"n"/\("case":Str)≠"v"/\("case":Str)≠"g"/\("case":Str)≠"let"/\("case":Str)≠"if"/\("case":Str)≠"fun":=by decide+kernel
theorem LR:("block":Str)≠"n"/\("block":Str)≠"v"/\("block":Str)≠"g"/\("block":Str)≠"let"/\("block":Str)≠"if"/\("block":Str)≠"fun"/\("block":Str)≠"case":=by decide+kernel
theorem w_field:("field":Str)≠"n"/\("field":Str)≠"v"/\("field":Str)≠"g"/\("field":Str)≠"let"/\("field":Str)≠"if"/\("field":Str)≠"fun"/\("field":Str)≠"case"/\("field":Str)≠"block":=by decide+kernel
theorem aeT {ab:Bool}{bs:aP Tm}{m:Nat}{own:aP Nat}{L L':aP Lt}{p:Nat}{r:aP Lr}(g:Qj m bs)(h:kJ ab bs own L p=some (r,L')):L.length<=L'.length:=by
 obtain⟨N,e,_⟩:=yg (aW:=[]) (bg:=[]) g h;rw[e,afu];exact afF _ _
theorem Gv {m:Nat}:∀{bs:List Tm} (i:Nat),Qj m bs->Qj m (bs.drop i)
 |_,0,h=>h
 |[],i+1,h=>by simpa using h
 |b::bs,i+1,h=>by
  unfold Qj at h;exact Gv i h.2
theorem O7 {ab:Bool}{own:aP Nat}{L L':aP Lt}{p:Nat}{r:aP Lr}(h:kJ ab [] own L p=some (r,L')):r=[]/\L'=L:=by
 unfold kJ at h;cases h;exact⟨rfl,rfl⟩
inductive CbI (a wk lo lr ll:aj)(ab:Bool)(aY:List Lr)(own:List Nat)(bs:List Tm)(r:List Lr)(L':List Lt)(H:Hp)(i:Nat)(U:L2.St)(H':Hp):Prop where
 |mk (o3:Option V) (r1 r2:List Lr) (L:List Lt):U=[some (.ref wk),some<|.ref lo,some<|.ref a,o3]->r=r1++r2->kJ ab (bs.drop i) own L (aY.length+r1.length)=some (r2,L')->Kp lr ll H H'->WS H' wk lr ll ab (aY++r1) L->CbI a wk lo lr ll ab aY own bs r L' H i U H'
section
abbrev Di:aJ:=top 69
noncomputable abbrev nRw:List Str:=["_law_work","_law_own_here","_law_term","_law_one"]
theorem Mf:cu nRw yW (bN Di):={}
set_option maxHeartbeats 4000000 in
theorem Xa {n:Nat}(F:gY K "_law_rows" "_law_rows" Di f fd)(ml:mg "len"=none)(h1:Has P w K mg aV (2*n) "_law_rows" yW (Gq n))(h2:Has P w K mg aV (2*n+1) "_law_let_rows" yW (zq isLt n))(h4:Has P w K mg aV (2*n+1) "_law_test_rows" yW (zq isIf n))(h3:Has P w K mg aV 1 "_law_held" pHe Dc)(h5:Has P w K mg aV (2*n+1) "_law_case_rows" yW (zq Tc n)):
  cX P w K mg aV jG (2*n+2) f fd yW (zq (λ_=>True) n):=by
 refine F.ok Mf λdJ A aU s H vs Q E hr h=>?_;obtain⟨wk,lo,lr,ll,v,t,ab,aY,L,own,m,r,L',rfl,pt,tl,ii,ws,qX,n1,n2,hc,lR,lL,q⟩:=h;have hu:=pX hr;refine⟨_,bQ (dB (cA eV (bZ (fG K) (pv 2) bJ) bU)
   (bQ<|cD (jd K (cT hu (pv 0) bU)<|bx (cV<|bx bU (bx (bZ (fG K) (pv 2) bJ) bG)) bG))
  (bQ (dB (cA eV (bZ (fG K) (pv 2) bJ) bU)
   (bQ<|cD (jd K (cT hu (pv 0) bU)<|bx (cV<|bx bU (bx (wW af' agA ag4 Ak (pv 1)<|bx (bZ (fG K) (pv 2) bJ) bG) bG)) bG))
  (bQ (dB (cA eV (bZ (fG K) (pv 2) bJ) bU)
   (bQ<|cD (jd K (cT hu (pv 0) bU)<|bx (cV<|bx bU (bx (bZ (fG K) (pv 2) bJ) bG)) bG))
  (bQ (dB (cA eV (bZ (fG K) (pv 2) bJ) bU)
   (bQ (cD (cP h2 hr (by exact afv _) rfl (bx (pv 0)<|bx (pv 1) (bx (pv 2) bG)))))
  (bQ (dB (cA eV (bZ (fG K) (pv 2) bJ) bU)
   (bQ (cD (cP h4 hr (by exact afv _) rfl (bx (pv 0)<|bx (pv 1) (bx (pv 2) bG)))))
  (bQ (dB (cA eV (bZ (fG K) (pv 2) bJ) bU)
   (bQ (cD (jd K (cT hu (pv 0) bU) (bx (cV (bx bU (bx (cP h3 hr (by exact afX _ _) rfl (bx (pv 0)<|bx (pv 1) (bx (bZ (fG K) (pv 2) bJ)<|bx (bZ (fG K) (pv 2) bJ) bG))) bG))) bG))))
  (bQ (dB (cA eV (bZ (fG K) (pv 2) bJ) bU)
   (bQ (cD (cP h5 hr (by exact afv _) rfl (bx (pv 0)<|bx (pv 1) (bx (pv 2) bG)))))
  (bQ (dB (cA eV (bZ (fG K) (pv 2) bJ) bU)
   (bI (mY PassesOwn.never rfl (piT K<|bZ (fG K) (pv 2) bJ) (dF (i:=3) Mf.nd rfl (Or.inl rfl)) (bQ (cD (cP h1 hr (by exact agb _) rfl (bx (pv 0)<|bx (pv 1) (bx (pv 3) bG))))))
   (bQ<|cD (jd K (cT hu (pv 0) bU)<|bx (cV<|bx bU (bx (bZ (fG K) (pv 2) bJ)<|bx (cJ (kI K) rfl ml ahS (bx (bZ (fG K) (pv 2) bJ) bG)) bG)) bG)))
  (bQ (dB (cA eV (bZ (fG K) (pv 2) bJ) bU)
   (bI (cD (cP h1 hr (by exact agb _) rfl (bx (pv 0)<|bx (pv 1) (bx (bZ (fG K) (pv 2) bJ) bG))))
   (bQ<|cD (jd K (cT hu (pv 0) bU)<|bx (cV<|bx bU (bx (bZ (fG K) (pv 2) bJ) bG)) bG)))
  (bI (cD (cP h1 hr (by exact agb _) rfl (bx (pv 0)<|bx (pv 1) (bx (bZ (fG K) (pv 2) bJ) bG))))
  (bI (cD (cP h1 hr (by exact agb _) rfl (bx (pv 0)<|bx (pv 1) (bx (bZ (fG K) (pv 2) bJ) bG))))
  (bQ<|cD (jd K (cT hu (pv 0) bU)<|bx (cV<|bx (bZ (fG K) (pv 2) bJ) bG) bG))))))))))))))))))))),?_⟩
 obtain⟨m1,m2,m3,m4,m5,m6,m7,m8,m9,m10,m11,m12,m13,m14,m15⟩:=LC;obtain⟨cI,hwk,g1,_⟩:=ws.wk;obtain⟨jr,rO,alr⟩:=id ws.rw;have er:=alr.1;cases tl with
 |@n a i ha=>
  cases hc;refine mZ rfl ha ?_;refine(dU rfl hwk g1 ⟨.inl ⟨rfl,_,dD.of rO⟩,dN (a:=a) (j:=1) rfl ha rfl ⟨(fH 2),λp1 hp1=>?_⟩⟩);obtain⟨w2,k2⟩:=ws.row rO hp1 (o:=.tup [.str "number", .int i]) (r:=.row<|.num i) ⟨p1,rfl,bA⟩;exact⟨lr,_, .ref p1,rfl,rfl,bK hp1 _ _ _ rO,cW (by omega),q _ k2 w2⟩
 |@v a x ha=>
  unfold comp at hc;cases hix:nY x own with
  |none=>rw[hix]at hc;cases hc
  |some j=>
   rw[hix]at hc;cases hc;obtain⟨g5,g6⟩:=Jq ii.nm hix;refine dg rfl ha m1 ?_;refine mZ rfl ha ?_;refine(dU rfl hwk g1 ⟨.inl ⟨rfl,_,dD.of rO⟩,_,rfl, .inl ⟨rfl,_,dD.of qX⟩,_,rfl,a,_,1,_,rfl,rfl,iM.of ha,cg (j:=1) rfl,
    lo,own.map iz,iz x,j,rfl,rfl,qX,g5,g6,(fH 2),λp1 hp1=>?_⟩)
   obtain⟨w2,k2⟩:=ws.row rO hp1 (o:=.tup [.str "local", .int (j:Int)]) (r:=.row<|.loc j) ⟨p1,rfl,bA⟩;simp only[afz]at lR;exact⟨lr,_, .ref p1,rfl,rfl,bK hp1 _ _ _ rO,cW (by omega),q _ k2 w2⟩
 |@g a i ha=>
  cases hc;refine te2 rfl ha m2 m3 ?_;refine mZ rfl ha ?_;refine(dU rfl hwk g1 ⟨.inl ⟨rfl,_,dD.of rO⟩,dN (a:=a) (j:=1) rfl ha rfl ⟨(fH 2),λp1 hp1=>?_⟩⟩);obtain⟨w2,k2⟩:=ws.row rO hp1 (o:=.tup [.str "global", .int (i:Int)]) (r:=.row<|.glob i) ⟨p1,rfl,bA⟩;exact⟨lr,_, .ref p1,rfl,rfl,bK hp1 _ _ _ rO,cW (by omega),q _ k2 w2⟩
 |@lt a x u y ta tb ha t1 t2=>
  refine te3 rfl ha m4 m5 m6 ?_;refine mZ rfl ha ?_;exact⟨_,rfl,_,rfl,_,rfl,wk,lo,lr,ll,_, .lt x ta tb,ab,aY,L,own,m,r,L',rfl,trivial, .lt ha t1 t2,ii,ws,qX,n1,n2,hc,lR,lL,q⟩
 |@rK a u y z tc ta tb ha t1 t2 t3=>
  refine te4 rfl ha m12 m13 m14 m15 ?_;refine mZ rfl ha ?_;exact⟨_,rfl,_,rfl,_,rfl,wk,lo,lr,ll,_, .rK tc ta tb,ab,aY,L,own,m,r,L',rfl,trivial, .rK ha t1 t2 t3,ii,ws,qX,n1,n2,hc,lR,lL,q⟩
 |@fn a x u b ha t1=>
  obtain⟨js,hjs,rfl,rfl⟩:=Lz hc;have l6:=ii.l6;simp only[afu,afz]at lR lL;refine te5 rfl ha m7 m8 m9 m10 m11 ?_;refine mZ rfl ha ?_;refine(dU rfl hwk g1 ⟨.inl ⟨rfl,_,dD.of rO⟩,_,rfl,_,rfl,dN (a:=a) (j:=1) rfl ha rfl ⟨_,rfl,a,_,2,_,rfl,rfl,iM.of ha,cg (j:=2) rfl,
   wk,lo,lr,ll,x,u,ab,aY,L,own,js,b,rfl,ws,qX,ii.nm,n1,n2,t1,hjs,by exact afy (afF _ _) l6,by exact afT lL,λp q' H1 k1 w1 hp hq=>⟨(fH 2),λp2 hp2=>?_⟩⟩⟩)
  obtain⟨zu,hl1,al1⟩:=id w1.rw;have e1:=al1.1;have s2:=bK hp2 (.tup [.str "late", .ref p]);obtain⟨w2,k2⟩:=w1.row hl1 hp2 (o:=.tup [.str "late", .ref p]) (r:=.late L.length js) ⟨p2,p,q',rfl,bA,s2 _ _ hp,s2 _ _ hq⟩;exact⟨lr,_, .ref p2,rfl,rfl,s2 _ _ hl1,cW (by omega),q _ (k1.trans k2) w2⟩
 |@case a t x u b ms ts bs ha h2 t1 t2=>
  obtain⟨z1,z2,z3,z4,z5,z6⟩:=Tn;refine te6 rfl ha z1 z2 z3 z4 z5 z6 ?_;refine mZ rfl ha ?_;exact⟨_,rfl,_,rfl,_,rfl,wk,lo,lr,ll,_, .case x b ms bs,ab,aY,L,own,m,r,L',rfl,trivial, .case ha h2 t1 t2,ii,ws,qX,n1,n2,hc,lR,lL,q⟩
 |@field a i u b ha t1=>
  obtain⟨z1,z2,z3,z4,z5,z6,z7,z8⟩:=w_field;obtain⟨r1,c1,rfl⟩:=yt hc;obtain⟨b1,me,l4,l6,dn⟩:=ii;simp only[dep]at l4 l6 dn;simp only[afu,afz]at lR;obtain⟨j,rfl⟩:∃j,n=j+1:=⟨n-1,by omega⟩;have i1:In j m own b:=⟨b1,me,by omega,by omega,by exact agw dn⟩;refine te8 rfl ha z1 z2 z3 z4 z5 z6 z7 z8 ?_;refine mZ rfl ha ?_;refine⟨_,rfl,_,rfl,dN (a:=a) (j:=2) rfl ha rfl ⟨wk,lo,lr,ll,u,b,ab,aY,L,own,m,r1,L',rfl,trivial,t1,i1,ws,qX,n1,n2,c1,by exact afT lR,by exact lL,λH1 k1 w1=>?_⟩⟩;have ha1:=ws.tps k1 _ _ ha;obtain⟨Xb,Js,g2,_⟩:=w1.wk;obtain⟨Xc,hl2,al2⟩:=id w1.rw;have e2:=al2.1;simp only[afu]at e2;refine(dU rfl Js g2 ⟨.inl ⟨rfl,_,dD.of hl2⟩,dN (a:=a) (j:=1) rfl ha1 rfl ⟨(fH 2),λp3 hp3=>?_⟩⟩);obtain⟨w3,k3⟩:=w1.row hl2 hp3 (o:=.tup [.str "field", .int (i:Int)]) (r:=.row<|.field i) ⟨p3,rfl,bA⟩;refine⟨lr,_, .ref p3,rfl,rfl,bK hp3 _ _ _ hl2,cW (by omega),q _ (k1.trans k3) ?_⟩;rw[<-afM];exact w3
 |@block a t k ts bs ha ht t1=>
  obtain⟨z1,z2,z3,z4,z5,z6,z7⟩:=LR;obtain⟨r1,c1,rfl⟩:=yr hc;obtain⟨⟨l5,b1⟩,me,l4,l6,dn⟩:=ii;simp only[dep]at l4 l6 dn;simp only[afu,afz]at lR;obtain⟨j,rfl⟩:∃j,n=j+1:=⟨n-1,by omega⟩;have Qm:=t1.len;refine te7 rfl ha z1 z2 z3 z4 z5 z6 z7 ?_;refine mZ rfl ha ?_;refine(dN (a:=a) (j:=2) rfl ha rfl ⟨t,rfl,⟨_,iM.of ht⟩,?_⟩);refine Kc (xs:=ts) (CbI a wk lo lr ll ab aY own bs r1 L' H) ⟨none,[],r1,L,rfl,rfl,c1,Kp.refl,by simpa using ws⟩ ?_ ?_ ?_
  ·rintro i U H5 hi ⟨o3,ra,rb,L5,rfl,er,c5,k5,w5⟩
   exact iM.of<|ws.tps k5 _ _ ht
  ·rintro i y U H5 hy ⟨o3,ra,rb,L5,rfl,er',c5,k5,w5⟩
   have li:i<bs.length:=by have:=(ahW hy).1;exact afR this Qm
   obtain⟨v,e1,tv⟩:=t1.get (afw li);rw[e1]at hy;cases hy;rw[af3 li]at c5;obtain⟨rc,L6,rd,cc,cd,erd⟩:=yu c5;have hA:=aeT (Gv (i+1) b1) cd;have di:dep bs[i]<=iJ bs:=pB (afw li);have i2:In j m own bs[i]:=⟨CW b1<|agx li,me,by omega,by omega,by omega⟩;have lrr:r1.length=ra.length+(rc.length+rd.length):=by rw[er',erd,afu,afu]
   refine⟨_,rfl,_,rfl,_,rfl,wk,lo,lr,ll,_,bs[i],ab,aY++ra,L5,own,m,rc,L6,rfl,trivial,tv.tps<|ws.tps k5,i2,w5,k5 _ _ n1 n2 qX,n1,n2,by rw[afu];exact cc,by rw[afu];omega,by omega,λH6 k6 w6=>?_⟩;refine⟨_,ra++rc,rd,L6,rfl,by rw[er',erd,afM],by rw[afu,<-af2];exact cd,k5.trans k6,by rw[<-afM];exact w6⟩
  ·rintro U H5 ⟨o3,ra,rb,L5,rfl,er',c5,k5,w5⟩
   rw[show List.drop ts.length bs=[] from ag' (by exact agy Qm.symm)]at c5;obtain⟨y1,y2⟩:=O7 c5;subst y1 y2;rw[agh]at er';subst er';have W8:=ws.tps k5;obtain⟨Xb,Js,g2,_⟩:=w5.wk;obtain⟨Xc,hl2,al2⟩:=id w5.rw;have e2:=al2.1;simp only[afu]at e2;refine(dU rfl Js g2 ⟨.inl ⟨rfl,_,dD.of hl2⟩,dN (a:=a) (j:=1) rfl (W8 _ _ ha) rfl (dN (a:=a) (j:=2) rfl (W8 _ _ ha) rfl ⟨t,ts,rfl, .inr<|iM.of (W8 _ _ ht),(fH 3),λp3 hp3=>?_⟩)⟩);rw[Qm];obtain⟨w3,k3⟩:=w5.row hl2 hp3 (o:=.tup [.str "block", .int k, .int (bs.length:Int)]) (r:=.row<|.block k bs.length) ⟨p3,rfl,bA⟩;refine⟨lr,_, .ref p3,rfl,rfl,bK hp3 _ _ _ hl2,cW (by omega),q _ (k5.trans k3) ?_⟩;rw[<-afM];exact w3
 |@op a k u y ta tb ha t1 t2=>
  obtain⟨r1,L1,r2,c1,c2,rfl⟩:=Ly hc;obtain⟨⟨hk,b1,b2⟩,me,l4,l6,dn⟩:=ii;obtain⟨m1,m2,m3,m4,m5,m6⟩:=adi k hk;obtain⟨m7,m8,m9⟩:=adn k hk;simp only[dep]at l4 l6 dn;simp only[afu,afz]at lR;obtain⟨j,rfl⟩:∃j,n=j+1:=⟨n-1,by omega⟩;have i1:In j m own ta:=⟨b1,me,by omega,by omega,by omega⟩;have i2:In j m own tb:=⟨b2,me,by omega,by omega,by omega⟩;have lL1:=i2.len c2;refine te9 rfl ha m1 m2 m3 m4 m5 m6 m7 m8 m9 ?_;refine⟨_,rfl,_,rfl,dN (a:=a) (j:=1) rfl ha rfl ⟨wk,lo,lr,ll,u,ta,ab,aY,L,own,m,r1,L1,rfl,trivial,t1,i1,ws,qX,n1,n2,c1,by omega,by omega,λH1 k1 w1=>?_⟩⟩;have ha1:=ws.tps k1 _ _ ha;refine⟨_,rfl,_,rfl,dN (a:=a) (j:=2) rfl ha1 rfl ⟨wk,lo,lr,ll,y,tb,ab,_,L1,own,m,r2,L',rfl,trivial,t2.tps<|ws.tps k1,i2,w1,k1 _ _ n1 n2 qX,n1,n2,by rw[afu];exact c2,by rw[afu];omega,lL,λH2 k2 w2=>?_⟩⟩;have ha2:=w1.tps k2 _ _ ha1;obtain⟨Xb,Js,g2,_⟩:=w2.wk;obtain⟨Xc,hl2,al2⟩:=id w2.rw;have e2:=al2.1;simp only[afu]at e2;refine(dU rfl Js g2 ⟨.inl ⟨rfl,_,dD.of hl2⟩,dN (a:=a) (j:=0) rfl ha2 rfl ⟨(fH 1),λp3 hp3=>?_⟩⟩);obtain⟨w3,k3⟩:=w2.row hl2 hp3 (o:=.tup [.str (wordOf k)]) (r:=.row<|.nW k) ⟨p3,rfl,bA⟩;refine⟨lr,_, .ref p3,rfl,rfl,bK hp3 _ _ _ hl2,cW (by omega),q _ (k1.trans<|k2.trans k3) ?_⟩;have e6:aY++(r1++r2++[.row (.nW k)])=aY++r1++r2++[.row (.nW k)]:=by simp
  rw[e6];exact w3
 |@call a u y ta tb ha t1 t2=>
  obtain⟨r1,L1,r2,c1,c2,rfl⟩:=Am hc;obtain⟨⟨b1,b2⟩,me,l4,l6,dn⟩:=ii;obtain⟨m1,m2,m3,m4,m5,m6⟩:=w_call;obtain⟨m7,m8,m9⟩:=W9;simp only[dep]at l4 l6 dn;simp only[afu,afz]at lR;obtain⟨j,rfl⟩:∃j,n=j+1:=⟨n-1,by omega⟩;have i1:In j m own ta:=⟨b1,me,by omega,by omega,by omega⟩;have i2:In j m own tb:=⟨b2,me,by omega,by omega,by omega⟩;have lL1:=i2.len c2;refine te9 rfl ha m1 m2 m3 m4 m5 m6 m7 m8 m9 ?_;refine⟨_,rfl,_,rfl,dN (a:=a) (j:=1) rfl ha rfl ⟨wk,lo,lr,ll,u,ta,ab,aY,L,own,m,r1,L1,rfl,trivial,t1,i1,ws,qX,n1,n2,c1,by omega,by omega,λH1 k1 w1=>?_⟩⟩;have ha1:=ws.tps k1 _ _ ha;refine⟨_,rfl,_,rfl,dN (a:=a) (j:=2) rfl ha1 rfl ⟨wk,lo,lr,ll,y,tb,ab,_,L1,own,m,r2,L',rfl,trivial,t2.tps<|ws.tps k1,i2,w1,k1 _ _ n1 n2 qX,n1,n2,by rw[afu];exact c2,by rw[afu];omega,lL,λH2 k2 w2=>?_⟩⟩;have ha2:=w1.tps k2 _ _ ha1;obtain⟨Xb,Js,g2,_⟩:=w2.wk;obtain⟨Xc,hl2,al2⟩:=id w2.rw;have e2:=al2.1;simp only[afu]at e2;refine(dU rfl Js g2 ⟨.inl ⟨rfl,_,dD.of hl2⟩,dN (a:=a) (j:=0) rfl ha2 rfl ⟨(fH 1),λp3 hp3=>?_⟩⟩);obtain⟨w3,k3⟩:=w2.row hl2 hp3 (o:=.tup [.str "call"]) (r:=.row .call) ⟨p3,rfl,bA⟩;refine⟨lr,_, .ref p3,rfl,rfl,bK hp3 _ _ _ hl2,cW (by omega),q _ (k1.trans<|k2.trans k3) ?_⟩;have e6:aY++(r1++r2++[.row .call])=aY++r1++r2++[.row .call]:=by simp
  rw[e6];exact w3
variable {fl fh ft fr:aj}{fdl fdh fdt fdr:FuncData}
theorem Gw (F:gY K "_law_rows" "_law_rows" Di f fd)(bF:Binds K fd yW [])(mF:mg "_law_rows"=some (.ref f))(Fl:gY K "_law_let_rows" "_law_let_rows" Dg fl fdl)(bl:Binds K fdl yW [])(mL:mg "_law_let_rows"=some (.ref fl))
  (Ft:gY K "_law_test_rows" "_law_test_rows" wA ft fdt) (bt:Binds K fdt yW []) (mT:mg "_law_test_rows"=some (.ref ft)) (Fr:gY K "_law_case_rows" "_law_case_rows" wB fr fdr) (br:Binds K fdr yW []) (mR:mg "_law_case_rows"=some (.ref fr)) (ml:mg "len"=none) (mi:mg "list"=none) (mt:mg "tuple"=none) (h3:Has P w K mg aV 1 "_law_held" pHe Dc):∀n:Nat,Has P w K mg aV (2*n) "_law_rows" yW (Gq n)
 |0=>⟨f,fd,⟨λvs H Q E h=>h.elim,λA aU s H args us vs Q E _ _ _ _ h=>h.elim⟩,bF,F.kp,mF⟩
 |n+1=>by
  have ih:=Gw F bF mF Fl bl mL Ft bt mT Fr br mR ml mi mt h3 n;exact⟨f,fd,Xa F ml ih ⟨fl,fdl,W6 Fl ih,bl,Fl.kp,mL⟩ ⟨ft,fdt,Tg Ft ml ih,bt,Ft.kp,mT⟩ h3 ⟨fr,fdr,Tj Fr ml mi mt ih,br,Fr.kp,mR⟩,bF,F.kp,mF⟩
end
inductive abD (vs:List V)(H:Hp)(Q:VK)(E_:XK):Prop where
 |mk (v:V) (lb lr ll:aj) (r:Lr) (bg:List Nat) (x:Rw):vs=[v, .ref lb]->O2 lr ll H v r->H lb=some (.lst<|dI bg)->qp bg r=some x->(∀(a:aj) H',Same H H'->Qi H' a x->Q (.ref a) H')->abD vs H Q E_
theorem Xd (r:Rw):Ww r≠"late":=by
 cases r with
 |nW k=>match k with
  |0=>decide+kernel
  |1=>decide+kernel
  |2=>decide+kernel
  |n+3=>show("less":Str)≠"late";decide+kernel
 |num i=>show("number":Str)≠"late";decide+kernel
 |loc i=>show("local":Str)≠"late";decide+kernel
 |glob i=>show("global":Str)≠"late";decide+kernel
 |keep=>show("keep":Str)≠"late";decide+kernel
 |drop n=>show("drop":Str)≠"late";decide+kernel
 |store=>show("store":Str)≠"late";decide+kernel
 |CK i=>show("unless":Str)≠"late";decide+kernel
 |jump i=>show("jump":Str)≠"late";decide+kernel
 |close i j=>show("close":Str)≠"late";decide+kernel
 |block k m=>show("block":Str)≠"late";decide+kernel
 |field i=>show("field":Str)≠"late";decide+kernel
 |case fs=>show("case":Str)≠"late";decide+kernel
 |call=>show("call":Str)≠"late";decide+kernel
 |back=>show("back":Str)≠"late";decide+kernel
theorem ZP:(["_law_one","_law_places","_law_begins"]:aP Str).Nodup:=by decide+kernel
theorem kit_tuple (K:aN):kitOne K (.type "tuple") (.type "tuple")=some true:=by first|rfl|kernel_rfl
section
abbrev Dj:aJ:=top 70
noncomputable abbrev pWr:List Str:=["_law_row","_law_begins"]
theorem Xe:cu pWr pWr (bN Dj):={}
theorem Xf (F:gY K "_law_whole_row" "_law_whole_row" Dj f fd)(mi:mg "isinstance"=none)(mt:mg "tuple"=none):cX P w K mg aV jG 1 f fd pWr abD:=by
 refine F.ok Xe λdJ A aU s H vs Q E hr h=>?_;obtain⟨v,lb,lr,ll,r,bg,x,rfl,hl,hb,hw,q⟩:=h;refine⟨_,bI (dB (cA Kl (bZ (fG K) (pv 0) bJ) bU) (bQ<|cO (pv 0)) cR)
  (bI (dB (pP<|cJ nO rfl mi boot_isinstance (bx (bZ (fG K) (pv 0) bJ)<|bx (oM (v:=.ty "tuple") rfl mt boot_tuple rfl) bG))
   (bQ<|cO (cV<|bx bU (bx (bZ (rE K) (pv 1)<|bZ (fG K) (bZ (fG K) (pv 0) bJ) bJ)<|bx (bZ (fG K) (bZ (fG K) (pv 0) bJ) bJ) bG))) cR)
  (bQ (cO (cV (bx bU (bx (cZ (BW K) rfl mt boot_tuple (bx
   (RJ (te:=Ni<|ig (Hw (VN K) (pL 2)<|pL 0) (ig (pL 1) sO)) (g:=M6 K 2<|sG (jy 0) (sG (jy 1) Qy)) (bN Dj) pWr ["_law_one","_law_places"] ["_law_begins"] [1] (by decide+kernel) (piL K<|bZ (fG K) (pv 0) bJ)
    (λC s₀ H₀ ex=>Zt K (n:=2) rfl (fK (dF (i:=0) ZP rfl (Or.inl rfl) (Or.inr rfl))<|fK (dF (i:=1) ZP rfl (Or.inl rfl) (Or.inr rfl)) mq))
    (λC s₀ H₀ ex=>j8) (λC s₀ H₀ ex=>cV<|bx (bZ (rE K) (pv 2)<|pv 0) (bx (pv 1) bG))) bG)) bG)))))),?_⟩
 have hz:=sizeLine_eq;cases r with
 |row r=>
  obtain⟨a,rfl,ha⟩:=hl;cases hw;obtain⟨args,h1⟩:=Le ha;refine(dN (a:=a) (j:=0) rfl h1 rfl ⟨rfl,_,rfl,gO (λc=>?_) λc=>?_⟩)
  ·exact⟨_,rfl,q a H (Same.refl _) ha⟩
  ·exact absurd (by rw[ahJ (λe=>Xd x<|V.str.inj e)];rfl) c
 |late k js=>
  obtain⟨a,p,q',rfl,h1,h2,h3⟩:=hl;have hw:(bg[k]?).map (λb=>Rw.close b js)=some x:=hw;cases hk:bg[k]? with
  |none=>rw[hk]at hw;cases hw
  |some b=>
   rw[hk]at hw;cases hw;refine(dN (a:=a) (j:=0) rfl h1 rfl ⟨rfl,_,rfl,gO (λc=>absurd c<|by rw[ahN rfl];decide) λc=>?_⟩);refine(dN (a:=a) (j:=1) rfl h1 rfl ⟨_,_,_,_,rfl, .tup h2,kit_tuple K,_,rfl,uH ?_⟩);refine⟨_,rfl,dN (a:=a) (j:=1) rfl h1 rfl ⟨p,_,0,_,rfl,rfl,iM.of h2,cg (j:=0) rfl,lb,_,k, .int (b:Int),rfl,rfl,dD.of hb,cg (j:=k) (by unfold dI;rw[afJ,hk];rfl),?_⟩⟩;refine(dN (a:=a) (j:=1) rfl h1 rfl ⟨p,_,1,_,rfl,rfl,iM.of h2,cg (j:=1) rfl,(fH 3),λp4 Te=>?_⟩);have s4:=bK Te (.tup [.str "close", .int (b:Int), .ref q']);exact q p4 _ s4 ⟨q',bA,s4 _ _ h3⟩
 |hole=>cases hw
end
noncomputable def cL (lr ll:aj)(ab:V):List (Key×V):=[(Sum.inr "rows", .ref lr),(Sum.inr "late", .ref ll),(Sum.inr "about",ab)]
theorem Dk:("late":Str)≠"rows"/\("about":Str)≠"rows"/\("about":Str)≠"late":=by decide+kernel
theorem ne4 {x y:Str}(h:x≠y):¬((Sum.inr x:Key)=Sum.inr y):=λe=>h (Sum.inr.inj e)
theorem abE (a b c:V):jR [] ([(Sum.inr "rows",a),(Sum.inr "late",b),(Sum.inr "about",c)]:aP (Key×V))=([(Sum.inr "rows",a),(Sum.inr "late",b),(Sum.inr "about",c)]:aP (Key×V)):=by
 obtain⟨h1,h2,h3⟩:=Dk;simp only[jR,putK,ahd,ahH,List.any_nil,agI,agt,if_false,agQ,agi,ahJ<|ne4 h1,ahJ<|ne4 h2,ahJ<|ne4 h3,ahJ<|ne4 (ahO h1),ahJ<|ne4 (ahO h2),ahJ<|ne4 (ahO h3),aha,ahl]
theorem Xg (lr ll:aj)(ab:V):eO (cL lr ll ab) (Sum.inr "rows")=some (.ref lr):=by simp[eO,cL,af8]
theorem Xh (lr ll:aj)(ab:V):eO (cL lr ll ab) (Sum.inr "late")=some (.ref ll):=by
 obtain⟨h1,h2,h3⟩:=Dk;simp[eO,cL,af8,h1,h2,h3,ahO h1,ahO h2,ahO h3]
theorem Xi (lr ll:aj)(ab:V):eO (cL lr ll ab) (Sum.inr "about")=some ab:=by
 obtain⟨h1,h2,h3⟩:=Dk;simp[eO,cL,af8,h1,h2,h3,ahO h1,ahO h2,ahO h3]
section
abbrev qt:aJ:=top 71
noncomputable abbrev nCo:List Str:=["_law_vals_here","_law_term","_law_about","_law_work","_law_one","_law_names","_law_body","_law_begins"]
theorem qP:cu nCo ["_law_vals_here","_law_term","_law_about"] (bN qt):={}
@[irreducible] noncomputable def stW:aJ:=(cY qt).getD 0 (.Pass ⟨0,0,0,0⟩)
def ado:List aJ:=(cY qt).drop 1
theorem adp:cY qt=stW::ado:=by
 unfold stW
 rfl
def tW0:TS:=λD U H=>∃(lv:aj) (v:V) (ab:Bool),U=[some (.ref lv),some v,some<|.int (Ea ab),none,none,none,none,none]/\
 ∀(wk lr ll:aj) H3,Same H H3->WS H3 wk lr ll ab [] []->H lr=none->H ll=none->D.nx [some (.ref lv),some v,some<|.int (Ea ab),some<|.ref wk,none,none,none,none] H3
set_option maxHeartbeats 4000000 in
theorem abF {dJ:ak}{A:aq}{aU:aP Env}{s:ao}{H:Hp}{E:XK}:PS (dX jG P w K mg aV nCo "_law_code" (bN qt) f dJ A aU s H E).HB stW tW0:=by
 refine Ir.h ?_;unfold stW;refine uM (zV (i:=3) (x:="_law_work") qP.nd rfl (Or.inl rfl) (RD (pA (uY kj)<|pA (uY kj) (pA (Ru 2) RB)) rfl rfl (by simp) (by decide)) xu (.inl rfl)) ?_;rintro D U H ⟨lv,v,ab,rfl,q⟩;refine λwk hwk=>?_;refine⟨(fH 0),λlr rO=>⟨(fH 0),λll hll=>?_⟩⟩;have s1:=bK hwk (.dK []);have s2:=bK rO (.lst []);have nlr:lr≠wk:=λe=>by rw[e,bA]at rO;cases rO
 have nll:ll≠wk:=λe=>by rw[e,s2 _ _ bA]at hll;cases hll
 have adq:ll≠lr:=λe=>by rw[e,bA]at hll;cases hll
 have Xj:H lr=none:=s1.free rO;have Xk:H ll=none:=(s1.trans s2).free hll;refine⟨_,rfl,by rw[bV (ahO nll),bV (ahO nlr)];exact bA,cL lr ll<|.int (Ea ab),rfl,(by show 3<=15;decide),?_⟩;rw[show jR [] (cL lr ll<|.int (Ea ab))=cL lr ll (.int<|Ea ab) from abE _ _ _];have hw3:(upd (upd (upd (upd H wk<|.dK []) lr<|.lst []) ll<|.lst []) wk<|.dK (cL lr ll<|.int (Ea ab))) wk=some (.dK<|cL lr ll (.int<|Ea ab)):=bA;have hl3:(upd (upd (upd (upd H wk<|.dK []) lr<|.lst []) ll<|.lst []) wk<|.dK (cL lr ll<|.int (Ea ab))) lr=some (.lst []):=by rw[bV nlr,bV (ahO adq)];exact bA
 have hk3:(upd (upd (upd (upd H wk<|.dK []) lr<|.lst []) ll<|.lst []) wk<|.dK (cL lr ll<|.int (Ea ab))) ll=some (.lst []):=by rw[bV nll];exact bA
 have s3:Same H (upd (upd (upd (upd H wk<|.dK []) lr<|.lst []) ll<|.lst []) wk<|.dK (cL lr ll<|.int (Ea ab))):=λb o h=>by
  rw[bV (bY h hwk),bV<|bY h Xk,bV<|bY h Xj,bV (bY h hwk)];exact h
 revert hw3 hl3 hk3 s3;generalize upd (upd (upd (upd H wk<|.dK []) lr<|.lst []) ll<|.lst []) wk (.dK<|cL lr ll (.int<|Ea ab))=H3;intro hw3 hl3 hk3 s3;exact q wk lr ll H3 s3 ⟨⟨_,hw3,Xg _ _ _,Xh _ _ _,Xi _ _ _⟩,⟨[],hl3, .nil⟩,⟨[],hk3, .nil⟩,ahO adq⟩ Xj Xk
end
mutual
theorem d8 {ab:Bool}:∀{t:Tm} {own:List Nat} {L L':List Lt} {r:List Lr} {p:Nat},comp ab t own L p=some (r,L')->L.length<=L'.length
 |.n i,own,L,L',r,p,h=>by cases h;exact afv _
 |.g i,own,L,L',r,p,h=>by cases h;exact afv _
 |.v x,own,L,L',r,p,h=>by
  unfold comp at h;cases e:nY x own with
  |none=>rw[e]at h;cases h
  |some j=>rw[e]at h;cases h;exact afv _
 |.lt x t b,own,L,L',r,p,h=>by
  obtain⟨r1,L1,r2,c1,c2,_⟩:=Lx h;exact afy (d8 c1)<|d8 c2
 |.rK c a b,own,L,L',r,p,h=>by
  obtain⟨r1,L1,r2,L2,r3,c1,c2,c3,_⟩:=Gp h;exact afy (d8 c1)<|afy (d8 c2) (d8 c3)
 |.fn x b,own,L,L',r,p,h=>by
  obtain⟨js,_,_,rfl⟩:=Lz h;simp
 |.op k a b,own,L,L',r,p,h=>by
  obtain⟨r1,L1,r2,c1,c2,_⟩:=Ly h;exact afy (d8 c1)<|d8 c2
 |.call a b,own,L,L',r,p,h=>by
  obtain⟨r1,L1,r2,c1,c2,_⟩:=Am h;exact afy (d8 c1)<|d8 c2
 |.block k ts,own,L,L',r,p,h=>by
  obtain⟨r1,c1,_⟩:=yr h;exact yD c1
 |.field j t,own,L,L',r,p,h=>by
  obtain⟨r1,c1,_⟩:=yt h;exact d8 c1
 |.case x t ms bs,own,L,L',r,p,h=>by
  obtain⟨r1,L1,rs,c1,c2,_⟩:=Ao h;exact afy (d8 c1)<|yE c2
theorem yD {ab:Bool}:∀{ts:List Tm} {own:List Nat} {L L':List Lt} {r:List Lr} {p:Nat},kJ ab ts own L p=some (r,L')->L.length<=L'.length
 |[],own,L,L',r,p,h=>by cases h;exact afv _
 |t::ts,own,L,L',r,p,h=>by
  obtain⟨r1,L1,r2,c1,c2,_⟩:=yu h;exact afy (d8 c1)<|yD c2
theorem yE {ab:Bool}:∀{bs:List Tm} {ms:List Nat} {x:Nat} {own:List Nat} {L L':List Lt} {rs:List (List Lr×Nat)} {p:Nat},jN ab bs ms x own L p=some (rs,L')->L.length<=L'.length
 |[],ms,x,own,L,L',r,p,h=>by obtain⟨_,rfl⟩:=Aw h;exact afv _
 |b::bs,[],x,own,L,L',r,p,h=>by unfold jN at h;cases h
 |b::bs,m::ms,x,own,L,L',r,p,h=>by
  obtain⟨r1,L1,r2,c1,c2,_⟩:=yw h;exact afy (d8 c1)<|yE c2
end
theorem qu {ab:Bool}:∀{m:Nat} {aY gQ:List Lr} {L LF:List Lt} {bg su:List Nat},bodies ab m aY L bg=some (gQ,LF,su)->aY.length<=gQ.length/\L.length<=LF.length/\bg.length<=su.length/\su.length<=bg.length+(LF.length-bg.length)
 |0,_,_,_,_,_,_,h=>by cases h
 |m+1,aY,gQ,L,LF,bg,su,h=>by
  unfold bodies at h;split at h
  ·cases h
   exact⟨afv _,afv _,afv _,by exact afF _ _⟩
  ·rename_i nb hat
   have jf:bg.length<L.length:=(ahW hat).1;split at h
   ·cases h
   ·rename_i r L' e2
    obtain⟨h1,h2,h3,h4⟩:=qu h;simp only[afu,afz]at h1 h3 h4;have:=d8 e2;exact⟨by omega,by exact afy this h2,by exact afT h3,by omega⟩
theorem tX {ab:Bool}:∀{us:List Tm} {t:Tm} {aY Ax:List Lr} {L LA:List Lt},jT ab us t aY L=some (Ax,LA)->aY.length<=Ax.length/\L.length<=LA.length
 |[],t,aY,Ax,L,LA,h=>by
  unfold jT at h;split at h
  ·cases h
  ·rename_i r L1 e
   cases h;have:=d8 e;exact⟨by simp only[afu,afz];omega,this⟩
 |u::us,t,aY,Ax,L,LA,h=>by
  unfold jT at h;split at h
  ·cases h
  ·rename_i r L1 e
   have:=d8 e;obtain⟨h1,h2⟩:=tX h;simp only[afu,afz]at h1;exact⟨by omega,by exact afy this h2⟩
def OkB (L:List Lt):Prop:=∀nb∈L,yd nb
theorem In.Qm {ab:Bool}{n m:Nat}{own:aP Nat}{t:Tm}(i:In n m own t)(hn:n<=10){L L':aP Lt}{r:aP Lr}{p:Nat}(h:comp ab t own L p=some (r,L'))(ok:OkB L):OkB L':=by
 obtain⟨r2,L2,N,e,M⟩:=fu (ab:=ab) (L:=L) (p:=p) i.gt i.me i.l4 i.l6 (by have:=i.dn;omega);rw[h]at e;cases e;refine λnb hnb=>?_;rw[M.ex]at hnb;rcases agd.mp hnb with z|z
 ·exact ok nb z
 ·exact M.ok nb z
theorem yd.isIn {p:Lt}(h:yd p):∃m,In 10 m p.1 p.2:=by
 obtain⟨names,x,e,mem,gt,h40,Zy,h12⟩:=h;exact⟨x+1,gt,by rw[e];exact tM mem,h40,Zy,by exact aga h12⟩
theorem Own.isIn {t:Tm}(h:Own t):In 10 0 [] t:=⟨h.1,λy=>by simp,by have:=h.2;omega,by have:=h.2;simp;omega,h.2⟩
theorem Gx {bg:List Nat}:∀{aY:List Lr} {aW:List Rw},oh bg aY=some aW->aW.length=aY.length/\∀(i:Nat) (r:Lr),aY[i]?=some r->∃x,aW[i]?=some x/\qp bg r=some x
 |[],aW,h=>by cases h;exact⟨rfl,λi r e=>by simp at e⟩
 |y::ys,aW,h=>by
  unfold oh at h;split at h
  ·rename_i a as e1 e2
   cases h;obtain⟨l,g⟩:=Gx e2;refine⟨by simp[l],λi x e=>?_⟩;cases i with
   |zero=>simp at e;subst e;exact⟨a,rfl,e1⟩
   |succ i=>
    obtain⟨j,h1,h2⟩:=g i x (by simpa using e);exact⟨j,by simpa using h1,h2⟩
  ·cases h
theorem Tp {H:Hp}{ln lb:aj}{names bg:List Nat}(DW:H ln=some (.lst<|dZ names))(hb:H lb=some (.lst<|dI bg))(ep:names≠[]):ln≠lb:=λe=>by
 rw[e,hb]at DW;have e2:dI bg=dZ names:=by injection DW with e3;injection e3
 cases names with
 |nil=>exact ep rfl
 |cons x xs=>
  cases bg with
  |nil=>cases e2
  |cons y ys=>
   unfold dI dZ at e2;simp at e2
section
inductive Dl (vs:List V)(H:Hp)(Q:VK)(E_:XK):Prop where
 |mk (lv:aj) (v:V) (ab:Bool) (tY:List V) (us:List Tm) (t:Tm) (aW:List Rw):vs=[.ref lv,v, .int (Ea ab)]->H lv=some (.lst tY)->ni (iW H) tY us->(∀u∈us,Own u)->iW H v t->Own t->S7 ab us t aW->(∀(c:aj) (jr:List V) H',Same H H'->H c=none->H' c=some (.tup jr)->uZ H' jr aW->Q (.ref c) H')->Dl vs H Q E_
def Wc (H0:Hp)(lv wk lr ll lb:aj)(v:V)(ab:Bool)(gQ:List Lr)(LF:List Lt)(su:List Nat)(m:Nat)(U:L2.St)(H:Hp):Prop:=∃(aY:List Lr) (L:List Lt) (bg:List Nat) (o4 o5 o6:Option V),U=[some (.ref lv),some v,some<|.int (Ea ab),some<|.ref wk,o4,o5,o6,some (.ref lb)]/\
 WS H wk lr ll ab aY L/\H lb=some (.lst<|dI bg)/\OkB L/\bodies ab m aY L bg=some (gQ,LF,su)/\Same H0 H
set_option maxHeartbeats 4000000 in
theorem Xl (F:gY K "_law_code" "_law_code" qt f fd)(mt:mg "tuple"=none)(ml:mg "len"=none)(h1:Has P w K mg aV 22 "_law_rows" yW (zq (λ_=>True) 10))(h2:Has P w K mg aV 1 "_law_whole_row" pWr abD):cX P w K mg aV jG 23 f fd ["_law_vals_here","_law_term","_law_about"] Dl:=by
 refine F.ok qP λdJ A aU s H vs Q E hr h=>?_;obtain⟨lv,v,ab,tY,us,t,aW,rfl,Mg,au,hus,tl,ot,⟨mm,Ax,LA,gQ,LF,su,hc,hb,lF,lB,hw⟩,q⟩:=h;have hu:=pX hr;have hz:=sizeLine_eq;rw[adp];refine'⟨_,bI abF<|bI ?s2 (bI ?s3 (bI ?s4 (bI ?s5 (bI ?s6 (bQ ?s7))))),?_⟩
 case s2=>exact mY PassesOwn.never rfl (piL K<|pv 0) (dF (i:=4) qP.nd rfl (Or.inl rfl)) (bI (cD (cP h1 hr (by decide) rfl (bx (pv 3)<|bx (dO bG) (bx (pv 4) bG))))
   (bQ<|cD (jd K (cT hu (pv 3) bU)<|bx (cV<|bx bU bG) bG)))
 case s3=>exact cD (cP h1 hr (by decide) rfl (bx (pv 3)<|bx (dO bG) (bx (pv 1) bG)))
 case s4=>exact cD<|jd K (cT hu (pv 3) bU) (bx (cV<|bx bU bG) bG)
 case s5=>exact oO (i:=7) qP.nd rfl (Or.inr rfl) (dO bG)
 case s6=>
  refine' Ek PassesOwn.never ?c ?b
  case c=>exact(cA wU (cJ (kI K) rfl ml ahS (bx (pv 7) bG))<|cJ (kI K) rfl ml ahS (bx (cT hu (pv 3) bU) bG))
  case b=>exact(bI (pR (bZ (rE K) (cT hu (pv 3) bU)<|cJ (kI K) rfl ml ahS (bx (pv 7) bG))<|Zt K (n:=2) rfl (fK (dF (i:=5) qP.nd rfl (Or.inl rfl))<|fK (dF (i:=6) qP.nd rfl (Or.inl rfl)) mq))
   (bI (cD<|jd K (pv 7) (bx (cJ (kI K) rfl ml ahS (bx (cT hu (pv 3) bU) bG)) bG))
   (bI (cD (cP h1 hr (by decide) rfl (bx (pv 3)<|bx (pv 5) (bx (pv 6) bG))))
   (bQ<|cD (jd K (cT hu (pv 3) bU)<|bx (cV<|bx bU bG) bG)))))
 case s7=>exact cO (cZ (BW K) rfl mt boot_tuple (bx
   (KD (bN qt) nCo ["_law_begins"] [7] (by decide+kernel) (piL K<|cT hu (pv 3) bU) (λC s₀ H₀ ex=>j8)
    (λC s₀ H₀ ex=>cP h2 hr (by decide) rfl (bx (pv 0)<|bx (pv 1) bG))) bG))
 refine⟨lv,v,ab,rfl,λwk lr ll H3 s3 w3 Xj Xk=>?_⟩;obtain⟨rv3,hl3,_⟩:=w3.rw;obtain⟨lv3,hk3,_⟩:=w3.lt;have sm:∀{H1 H2:Hp},Same H H1->Kp lr ll H1 H2->Same H H2:=λa k b o h=>k b o (bY h Xj) (bY h Xk) (a b o h);obtain⟨mo1,mo2,mo3,mo4⟩:=qu hb;refine⟨_,rfl,lv,rfl,⟨_,dD.of<|s3 _ _ Mg⟩,?_⟩;refine wR (xs:=tY) (λi U H'=>∃(o4:Option V) (aY:List Lr) (L:List Lt),U=[some (.ref lv),some v,some<|.int (Ea ab),some<|.ref wk,o4,none,none,none]/\Same H H'/\WS H' wk lr ll ab aY L/\OkB L/\jT ab (us.drop i) t aY L=some (Ax,LA)) ⟨none,[],[],rfl,s3,w3,λnb h=>by simp at h,hc⟩ ?_ ?_ ?_
 ·rintro i U H' _ ⟨o4,aY,L,rfl,s4,_⟩
  exact dD.of<|s4 _ _ Mg
 ·rintro i x U H4 hx ⟨o4,aY,L,rfl,s4,w4,ok4,c4⟩
  have li:i<us.length:=by rw[<-au.1];exact(ahW hx).1
  obtain⟨x',hx',tx⟩:=au.2 i us[i] (afw li);rw[hx]at hx';cases hx';have oi:=hus us[i] (agx li);rw[af3 li]at c4;unfold jT at c4;cases ec:comp ab us[i] [] L aY.length with
  |none=>rw[ec]at c4;cases c4
  |some rl=>
   obtain⟨r1,L1⟩:=rl;rw[ec]at c4;dsimp only at c4;obtain⟨p1,p2⟩:=tX c4;simp only[afu,afz]at p1;refine⟨_,rfl,(fH 0),λle hle=>?_⟩;have s5:=bK hle (.lst []);have nle:le≠lr/\le≠ll:=by
    obtain⟨jr,rO,_⟩:=w4.rw;obtain⟨rN,hll,_⟩:=w4.lt;exact⟨cH hle rO,cH hle hll⟩
   refine⟨_,rfl,wk,le,lr,ll,x,us[i],ab,aY,L,[],0,r1,L1,rfl,trivial,(tx.same s4).same s5,oi.isIn,w4.same s5,bA,nle.1,nle.2,ec,by omega,by omega,λH6 k6 w6=>?_⟩;obtain⟨Ql,abG,g6,_⟩:=w6.wk;obtain⟨rv6,Eb,W7⟩:=id w6.rw;have e6:=W7.1;rw[afu]at e6;refine(dU rfl abG g6 ⟨.inl ⟨rfl,_,dD.of Eb⟩,(fH 1),λp7 yq=>?_⟩);obtain⟨w7,k7⟩:=w6.row Eb yq (o:=.tup [.str "store"]) (r:=.row .store) ⟨p7,rfl,bA⟩;refine⟨lr,_, .ref p7,rfl,rfl,bK yq _ _ _ Eb,cW (by omega),?_⟩;exact⟨_,aY++r1++[.row .store],L1,rfl,sm (s4.trans s5)<|k6.trans k7,w7,oi.isIn.Qm (by exact afv _) ec ok4,c4⟩
 rintro U H4 ⟨o4,aY,L,rfl,s4,w4,ok4,c4⟩;have lu:=au.1;rw[lu,agW]at c4;unfold jT at c4;cases ec:comp ab t [] L aY.length with
 |none=>rw[ec]at c4;cases c4
 |some rl=>
 obtain⟨r1,L1⟩:=rl;rw[ec]at c4;cases c4;simp only[afu,afz]at mo1;refine⟨_,rfl,(fH 0),λle hle=>?_⟩;have s5:=bK hle (.lst []);have nle:le≠lr/\le≠ll:=by
  obtain⟨jr,rO,_⟩:=w4.rw;obtain⟨rN,hll,_⟩:=w4.lt;exact⟨cH hle rO,cH hle hll⟩
 refine⟨_,rfl,wk,le,lr,ll,v,t,ab,aY,L,[],0,r1,LA,rfl,trivial,(tl.same s4).same s5,ot.isIn,w4.same s5,bA,nle.1,nle.2,ec,by omega,by omega,λH6 k6 w6=>?_⟩;have Vg:Same H H6:=sm (s4.trans s5) k6;obtain⟨Ql,abG,g6,_⟩:=w6.wk;obtain⟨rv6,Eb,W7⟩:=id w6.rw;have e6:=W7.1;rw[afu]at e6;refine(dU rfl abG g6 ⟨.inl ⟨rfl,_,dD.of Eb⟩,(fH 1),λp7 yq=>?_⟩);obtain⟨w7,k7⟩:=w6.row Eb yq (o:=.tup [.str "back"]) (r:=.row .back) ⟨p7,rfl,bA⟩;refine⟨lr,_, .ref p7,rfl,rfl,bK yq _ _ _ Eb,cW (by omega),?_⟩;revert w7 k7;generalize upd (upd H6 p7<|.tup [.str "back"]) lr (.lst<|rv6++[.ref p7])=H7;intro w7 k7;have s37:=sm Vg k7;refine⟨(fH 0),λlb hlb=>?_⟩;have s8:=bK hlb (.lst []);have nlb:lb≠lr/\lb≠ll:=by
  obtain⟨jr,h1,_⟩:=w7.rw;obtain⟨rN,h2,_⟩:=w7.lt;exact⟨cH hlb h1,cH hlb h2⟩
 have aeU:∀b o,H b=some o->b≠lb:=λb o h=>bY (s37 _ _ h) hlb;refine⟨Wc H lv wk lr ll lb v ab gQ LF su,⟨mm,_,LA,[],o4,none,none,rfl,w7.same s8,bA,ot.isIn.Qm (by exact afv _) ec ok4,hb,s37.trans s8⟩,?_⟩;rintro m U H9 ⟨aY,L9,bg,o4,o5,o6,rfl,w9,Gy,ok9,hb9,s9⟩;obtain⟨kv9,Xm,g1,g2,_⟩:=w9.wk;obtain⟨lv9,adt,al9⟩:=id w9.lt;have el9:=al9.1;have eb:(dI bg).length=bg.length:=by unfold dI;rw[afL]
 refine⟨_,rfl,lb,_,rfl, .inl<|dD.of Gy,dU rfl Xm g2 ⟨ll,_,rfl, .inl<|dD.of adt,_,_,rfl,rfl,_,rfl,?_⟩⟩;cases m with
 |zero=>cases hb9
 |succ m=>
  unfold bodies at hb9;cases hat:L9[bg.length]? with
  |none=>
   rw[hat]at hb9;cases hb9;rw[ahr]at hat;refine gO (λc=>absurd (ahM c)<|by rw[eb];omega) λ_=>?_;obtain⟨rv9,hl9,ar9⟩:=id w9.rw;obtain⟨wl,wat⟩:=Gx hw;refine(dU rfl Xm g1 ⟨lr,rfl,⟨_,dD.of hl9⟩,Gn (xs:=rv9) (λi vs H'=>Same H9 H'/\uZ H' vs (aW.take i)) ⟨Same.refl _,rfl,λi x h=>by simp at h⟩ ?_ ?_ ?_⟩)
   ·rintro i vs H' hi ⟨tZ,cd⟩
    refine⟨dD.of<|tZ _ _ hl9,?_⟩;have:=cd.1;rw[af9]at this;have:=ar9.1;omega
   ·rintro i x vs H' hi hx ⟨tZ,cd⟩
    have hir:i<gQ.length:=by rw[<-ar9.1];exact hi
    obtain⟨x',hx',lx⟩:=ar9.2 i _ (afw hir);rw[hx]at hx';cases hx';obtain⟨y,hy,wy⟩:=wat i _ (afw hir);refine Zg<|uH ⟨_,rfl,_,rfl,x,lb,lr,ll,gQ[i],su,y,rfl,O2.tps (Same.tups tZ) (iy tZ) lx,tZ _ _ Gy,wy,λa H11 ZQ ra=>nx hi ⟨tZ.trans ZQ,?_⟩⟩;have ec:aW.take (i+1)=aW.take i++[y]:=by rw[agn,hy];rfl
    rw[ec];have li:(aW.take i).length=i:=by rw[af9];omega
    refine⟨by rw[afu,afu,cd.1];rfl,λk z hk=>?_⟩;by_cases c:k<i
    ·rw[afC (by exact afR c li.symm)]at hk
     obtain⟨a',h1,h2⟩:=cd.2 k z hk;exact⟨a',by rw[afC (by rw[cd.1];exact afR c li.symm)];exact h1,h2.same ZQ⟩
    ·rw[afS (by omega),li]at hk
     have:k=i:=by
      by_cases z0:k-i=0
      ·omega
      ·rw[agr (by simp;omega)]at hk;cases hk
     subst this;rw[ahe]at hk;cases hk;exact⟨a,by rw[afS (by rw[cd.1];exact agy li),cd.1,li,ahe];rfl,ra⟩
   ·rintro vs H' ⟨tZ,cd⟩ l11 Dh
    have ZQ:=bK Dh (.lst vs);refine⟨l11,vs,rfl, .inl ⟨dD.of bA,λc hc'=>?_⟩⟩;have s12:=bK hc' (.tup vs);have s02:=tZ.trans (ZQ.trans s12);rw[ar9.1,<-wl,agu]at cd;have aeV:=ZQ.trans s12;exact q c vs _ (s9.trans s02) ((s9.trans<|tZ.trans ZQ).free hc') bA ⟨cd.1,λi x h=>by
     obtain⟨a,h1,h2⟩:=cd.2 i x h;exact⟨a,h1,h2.same aeV⟩⟩
  |some nb=>
   obtain⟨names,body⟩:=nb;rw[hat]at hb9;dsimp only at hb9;have jf:bg.length<L9.length:=(ahW hat).1;refine gO (λ_=>?_) (λc=>absurd (ahN<|by rw[eb,el9];omega) c);cases hcb:comp ab body names L9 aY.length with
   |none=>rw[hcb]at hb9;cases hb9
   |some rl=>
    obtain⟨r9,L10⟩:=rl;rw[hcb]at hb9;dsimp only at hb9;obtain⟨mo1,mo2,mo3,mo4⟩:=qu hb9;have afo:=d8 hcb;simp only[afu,afz]at mo1 mo3;obtain⟨vp,hvp,p,ln,u,rfl,hp,DW,nl1,nl2,tb,_⟩:=al9.2 _ _ hat;have kok:=ok9 _ (agk hat);obtain⟨k0,k14,k60,kd⟩:=kok.in;obtain⟨mi,ki⟩:=kok.isIn;refine⟨_,λ_ _ h=>h,?_⟩;refine(dU rfl Xm g2 ⟨_,rfl,lb,_,rfl, .inl<|dD.of Gy,ll,_,_,_,rfl,rfl,dD.of adt,(by rw[eb];exact cg hvp),?_⟩);refine⟨p,_,rfl,iM.of hp,rfl, .ref ln,[u],rfl,u,[],rfl,rfl,?_⟩;obtain⟨rv9,hl9,ar9⟩:=id w9.rw;have er9:=ar9.1;refine⟨_,rfl, .inl ⟨rfl,_,dD.of Gy⟩,dU rfl Xm g1 ⟨lr,_,rfl, .inl<|dD.of hl9,lb,_,_,rfl,rfl,Gy,cW (by rw[eb];omega),?_⟩⟩;have e10:dI bg++[V.int (rv9.length:Int)]=dI (bg++[aY.length]):=by unfold dI;rw[af0,er9];rfl
    rw[e10];have w10:=w9.aside (ys:=bg++[aY.length]) Gy nlb.1 nlb.2;have O8:yV H9 (upd H9 lb<|.lst (dI<|bg++[aY.length])):=λb ys h=>by rw[bV (iY h Gy<|by intro z;cases z)];exact h
    have Tq:(upd H9 lb<|.lst (dI<|bg++[aY.length])) ln=some (.lst<|dZ names):=by rw[bV (Tp DW Gy k0)];exact DW
    have tZ:Same H (upd H9 lb<|.lst (dI<|bg++[aY.length])):=λb o h=>by rw[bV (aeU b o h)];exact s9 b o h
    have Tr:(upd H9 lb<|.lst (dI<|bg++[aY.length])) lb=some (.lst<|dI (bg++[aY.length])):=bA;revert w10 O8 Tq tZ Tr;generalize upd H9 lb (.lst<|dI (bg++[aY.length]))=Jr;intro w10 O8 Tq tZ Tr;refine⟨_,rfl,_,rfl,_,rfl,wk,ln,lr,ll,u,body,ab,aY,L9,names,mi,r9,L10,rfl,trivial,tb.tps O8,ki,w10,Tq,nl1,nl2,hcb,by omega,by omega,λH11 k11 w11=>?_⟩;obtain⟨aeP,adu,g11,_⟩:=w11.wk;obtain⟨aeS,Dh,abC⟩:=id w11.rw;have e11:=abC.1;rw[afu]at e11;refine(dU rfl adu g11 ⟨.inl ⟨rfl,_,dD.of Dh⟩,(fH 1),λp12 adv=>?_⟩);obtain⟨w12,k12⟩:=w11.row Dh adv (o:=.tup [.str "back"]) (r:=.row .back) ⟨p12,rfl,bA⟩;refine⟨lr,_, .ref p12,rfl,rfl,bK adv _ _ _ Dh,cW (by omega),?_⟩;exact⟨m,by exact afv _,_,L10,bg++[aY.length],o4,_,_,rfl,w12,k12 _ _ nlb.1 nlb.2<|k11 _ _ nlb.1 nlb.2 Tr,ki.Qm (by exact afv _) hcb ok9,hb9,sm tZ<|k11.trans k12⟩
end
end Fw
namespace L2
theorem rQ:bootBuiltins "dict"=some (.type "dict"):=by decide+kernel
theorem qw {X:Cx}:jL X (.type "dict") (λxs H Q=>∃a cI,xs=[V.ref a]/\H a=some (.dK cI)/\∀p,H p=none->Q (.ref p) (upd H p<|.dK cI)):=by
 intro bH s U H xs us Q I r h;obtain⟨a,cI,rfl,e,q⟩:=h;obtain⟨u,rfl,rx⟩:=vals1 r;cases rx;exact Rz I (.inl e) λp s' hp I'=>⟨.ref p,_,I',rfl,q p hp⟩
end L2
namespace Fw
open L2
theorem ZR (n:Int):(60<(((Str.ofString<|toString (if n<0 then -n else n)).length:Nat):Int))↔¬kZ n:=by
 obtain⟨m,hm⟩:∃m:Nat,(if n<0 then -n else n)=(m:Int):=⟨n.natAbs,by split<;>omega⟩;rw[hm,PySem.ofString_length,show toString ((m:Nat):Int)=Nat.repr m from rfl];have h:=Nat.length_repr_le_iff (n:=m) (k:=60) (by decide);have e:kZ n↔m<10^60:=by
  unfold kZ IK;split at hm<;>omega
 rw[e,<-h];omega
set_option exponentiation.threshold 500 in
theorem O9 {n:Int}(h1: -(2^420)<n)(h2:n<2^420):(if n<0 then -n else n).natAbs.log2<1920:=by
 by_cases h0:(if n<0 then -n else n).natAbs=0
 ·rw[h0];decide
 ·exact ahx ((Nat.log2_lt h0 (k:=420)).mpr<|by split<;>omega) (by decide)
set_option exponentiation.threshold 500 in
theorem Tv {k:Nat}{i j:Int}(hi:kZ i)(hj:kZ j): -(2^420)<rk k i j/\rk k i j<2^420:=by
 obtain⟨a,b⟩:=hi;obtain⟨c,d⟩:=hj;have hG:=RN;have hm: -(2^420:Int)<i*j/\i*j<2^420:=by
  have h1:(i*j).natAbs<=2^200*2^200:=by
   rw[Int.natAbs_mul];exact Nat.mul_le_mul (by omega) (by omega)
  have h2:(2:Nat)^200*2^200=2^400:=by decide
  have h3:(2:Nat)^400<2^420:=by decide
  omega
 unfold rk;split
 ·omega
 ·omega
 ·exact hm
 ·split<;>omega
theorem Pj {i:Int}:gG i=true↔kZ i:=by
 unfold gG kZ IK;rw[ags,decide_eq_true_iff,decide_eq_true_iff]
inductive Mh (CT:aj)(vs:List V)(H:Hp)(Q:VK)(E:XK):Prop where
 |mk (k:Nat) (i j:Int):vs=[.str (wordOf k), .int i, .int j]->k<=3->gG i=true->gG j=true->(gG (rk k i j)=true->∀H',Same H H'->Q (.int<|rk k i j) H')->(¬gG (rk k i j)=true->∀ea H',Same H H'->E (.ref CT) (some ea) H')->Mh CT vs H Q E
noncomputable def zx (i j:Int):List (Key×V):=[(Sum.inr "plus", .int<|i+j),(Sum.inr "minus", .int<|i-j),(Sum.inr "times", .int<|i*j),(Sum.inr "less", .int<|if(decide<|i<j)=true then 1 else 0)]
theorem abH (a b c d:V):jR [] ([(Sum.inr "plus",a),(Sum.inr "minus",b),(Sum.inr "times",c),(Sum.inr "less",d)]:aP (Key×V))=([(Sum.inr "plus",a),(Sum.inr "minus",b),(Sum.inr "times",c),(Sum.inr "less",d)]:aP (Key×V)):=by
 obtain⟨h1,h2,h3,h4,h5,h6⟩:=lW;simp only[jR,putK,ahd,ahH,List.any_nil,agI,agt,if_false,agQ,agi,ahJ<|ne4 h1,ahJ<|ne4 h2,ahJ<|ne4 h3,ahJ<|ne4 h4,ahJ<|ne4 h5,ahJ<|ne4 h6,ahJ<|ne4 (ahO h1),ahJ<|ne4 (ahO h2),ahJ<|ne4 (ahO h3),ahJ<|ne4 (ahO h4),ahJ<|ne4 (ahO h5),ahJ<|ne4 (ahO h6),aha,ahl]
theorem Xn (i j:Int):∀k,k<=3->eO (zx i j) (Sum.inr<|wordOf k)=some (.int<|rk k i j)
 |0,_=>by simp[eO,zx,wordOf,rk]
 |1,_=>by
  obtain⟨h1,h2,h3,h4,h5,h6⟩:=lW;simp[eO,zx,wordOf,rk,af8,ahO h1]
 |2,_=>by
  obtain⟨h1,h2,h3,h4,h5,h6⟩:=lW;simp[eO,zx,wordOf,rk,af8,ahO h2,ahO h3]
 |3,_=>by
  obtain⟨h1,h2,h3,h4,h5,h6⟩:=lW;simp[eO,zx,wordOf,rk,af8,ahO h4,ahO h5,ahO h6]
 |n+4,h=>by omega
section
variable {CT:aj}
abbrev Tw:aJ:=top 61
theorem Tz:cu ["_law_word","_law_left","_law_right","_law_told_here"] ["_law_word","_law_left","_law_right"] (bN Tw):={}
set_option maxHeartbeats 1000000 in
theorem abJ {bm:aP ak}{jo B lV:String}(F:gY K "_law_summed" "_law_summed" Tw f fd)(O:OwnCls "TooGreat" CT bm jo mg aV)(FB:ExcBaseFacts B jo lV bm)(mI:mg "int"=none)(ma:mg "abs"=none)(ms:mg "str"=none)(ml:mg "len"=none):cX P w K mg aV (gw P w) 1 f fd ["_law_word","_law_left","_law_right"] (Mh CT):=by
 refine F.vU Tz λdJ A aU s H vs Q E hr h=>?_;obtain⟨k,i,j,rfl,hk,hi,hj,q1,q2⟩:=h;have hi:=Pj.mp hi;have hj:=Pj.mp hj;refine⟨_,bI (eU 3 Tz.nd (cT (pX hr) (K4 (qj bU (cU gJ (pv 1)<|pv 2) (qj bU (cU iw (pv 1)<|pv 2) (qj bU (cU BZ (pv 1)<|pv 2)
   (qj bU (cZ lN rfl mI boot_int (bx (qG wU (pv 1)<|pv 2) bG)) K3)))) rfl rfl (by simp) (by decide))<|pv 0))
  (bI (dB (cA zJ (cJ Bs rfl ml ahS (bx (cZ jP rfl ms boot_str (bx (cJ Em rfl ma Aa (bx (pv 3) bG)) bG)) bG)) bJ) (bQ<|nQ O FB rfl (bx bU bG)) cR)
  (bQ<|cO (pv 3))),?_⟩
 refine λp hp=>?_;refine⟨_,rfl,_,rfl,_,_,rfl,rfl,_,rfl,_,rfl,_,_,rfl,rfl,_,rfl,_,rfl,_,_,rfl,rfl,IV hi.1 hi.2 hj.1 hj.2,_,rfl,_,rfl,_,_,rfl,rfl, .inr ⟨_,rfl,bA,zx i j,rfl,(by show 4<=15;decide),?_⟩⟩;rw[show jR [] (zx i j)=zx i j from abH _ _ _ _,oH];have e1:=bK hp (.dK<|zx i j);refine⟨_,rfl,p, .int<|rk k i j,rfl, .inl ⟨zx i j,Sum.inr<|wordOf k,(by first|exact bA|exact .inl bA),rfl,(Xn i j k hk).symm⟩,?_⟩;have rs:=Tv (k:=k) hi hj;have fs:=O9 rs.1 rs.2;refine⟨_,rfl,_,rfl,_,rfl,fs,_,rfl,int_text_fits fs,_,_,rfl,rfl,_,rfl,gO (λc=>?_) λc=>?_⟩
 ·have c1:=(ZR<|rk k i j).mp (ahM c)
  exact⟨(fH 1),λea _=>q2 (λz=>c1<|Pj.mp z) ea _ e1⟩
 ·have c1:kZ (rk k i j):=by
   by_cases z:kZ (rk k i j)
   ·exact z
   ·exact absurd (ahN<|(ZR<|rk k i j).mpr z) c
  exact⟨_,rfl,q1 (Pj.mpr c1) _ e1⟩
end
mutual
inductive sy (N:aj->Prop)(H:Hp):V->Vl->Prop where
 |num {i:Int}:gG i=true->sy N H (.int i) (.num i)
 |fn {r d:aj} {x:Nat} {bv:V} {b:Tm} {env:List Vl} {cI:List (Key×V)} {vs:List V}:H r=some (.tup [.str "fn", .str<|iz x,bv, .ref d])->iW H bv b->H d=some (.dK cI)->N d->cI.length<=vs.length->(∀j,j<150->eO cI (Sum.inr<|iz j)=vs[j]?)->jC N H vs env->
   x=env.length->GT (x+1) b->x+1+6*dep b<=149->sy N H (.ref r) (.fn x b env)
 |bl {r l:aj} {k:Int} {vs:List V} {ws:List Vl}:H r=some (.tup [.str "bl", .int k, .ref l])->H l=some (.lst vs)->N l->jC N H vs ws->sy N H (.ref r) (.bl k ws)
inductive jC (N:aj->Prop)(H:Hp):List V->List Vl->Prop where
 |nil:jC N H [] []
 |cons {v:V} {w:Vl} {vs:List V} {ws:List Vl}:sy N H v w->jC N H vs ws->jC N H (v::vs) (w::ws)
end
section
variable {N N':aj->Prop}{H H':Hp}
@[elab_as_elim] theorem jC.ind {C:List V->List Vl->Prop} {vs:List V} {ts:List Vl} (h:jC N H vs ts) (n:C [] []) (c:∀{v t vs ts},sy N H v t->jC N H vs ts->C vs ts->C (v::vs) (t::ts)):C vs ts:=by
 induction ts generalizing vs with
 |nil=>cases h;exact n
 |cons t ts ih=>cases h with
  |cons r q=>exact c r q<|ih q
theorem jC.mono (tp:yV H H')(kd:∀b o,N b->H b=some o->N' b/\H' b=some o){vs:aP V}{ws:aP Vl}(h:jC N H vs ws):jC N' H' vs ws :=
 jC.rec (motive_1:=λv w _=>sy N' H' v w) (motive_2:=λv w _=>jC N' H' v w) .num (λh1 h2 h3 h4 h5 h6 _ h8 h9 h10 ih=>.fn (tp _ _ h1) (h2.tps tp) (kd _ _ h4 h3).2 (kd _ _ h4 h3).1 h5 h6 ih h8 h9 h10) (λh1 h2 h3 _=>.bl (tp _ _ h1) (kd _ _ h3 h2).2 (kd _ _ h3 h2).1) .nil (λ_ _=>.cons) h
theorem sy.mono (tp:yV H H')(kd:∀b o,N b->H b=some o->N' b/\H' b=some o){v:V}{w:Vl}(h:sy N H v w):sy N' H' v w:=by
 cases jC.mono tp kd (.cons h .nil) with
 |cons r _=>exact r
theorem jC.len {vs:aP V}{ws:aP Vl}(h:jC N H vs ws):vs.length=ws.length:=h.ind rfl λ_ _ ih=>congrArg (·+1) ih
theorem jC.get {vs:List V}{ts:List Vl}{j:Nat}{t:Vl}(h:jC N H vs ts)(e:ts[j]?=some t):∃v,vs[j]?=some v/\sy N H v t:=by
 induction ts generalizing vs j with
 |nil=>simp at e
 |cons u us ih=>cases h with
  |cons r q=>cases j with
   |zero=>cases e;exact⟨_,rfl,r⟩
   |succ j=>exact(ih (j:=j) q e:)
theorem jC.snoc {v:V}{w:Vl}{vs:aP V}{ws:aP Vl}(k:jC N H vs ws)(h:sy N H v w):jC N H (vs++[v]) (ws++[w]):=k.ind (.cons h .nil) λr _ ih=>.cons r ih
end
def lY (H:Hp)(N:aj->Prop)(d:aj)(env:List Vl):Prop:=∃(cI:List (Key×V)) (vs:List V),H d=some (.dK cI)/\N d/\cI.length<=vs.length/\(∀j,j<150->eO cI (Sum.inr<|iz j)=vs[j]?)/\jC N H vs env
def Kw (wd:aj)(H H':Hp):Prop:=∀b o,b≠wd->H b=some o->H' b=some o
theorem Kw.refl {wd:aj}{H:Hp}:Kw wd H H:=λb o _ h=>h
theorem Kw.trans {wd:aj}{H H1 H2:Hp}(a:Kw wd H H1)(b:Kw wd H1 H2):Kw wd H H2:=λc o n h=>b c o n (a c o n h)
theorem dh {wd:aj}{H H':Hp}(s:Same H H'):Kw wd H H':=λc o _ h=>s c o h
theorem rR {wd:aj}{H:Hp}{o:HO}:Kw wd H (upd H wd o):=λc u n h=>by rw[bV n];exact h
def Al (N:aj->Prop)(H H':Hp):aj->Prop:=λb=>N b\/(H b=none/\H' b≠none)
theorem Al.step {N N1:aj->Prop}{H H1 H2:Hp}{wd:aj}(sub:∀b,N1 b->Al N H H1 b)(k1:Kw wd H H1)(k2:Kw wd H1 H2)(n0:H wd≠none)(n1:H1 wd≠none):∀b,Al N1 H1 H2 b->Al N H H2 b:=λb hb=>by
 rcases hb with z|⟨z1,z2⟩
 ·rcases sub b z with y|⟨y1,y2⟩
  ·exact .inl y
  ·refine .inr ⟨y1,?_⟩
   obtain⟨o,ho⟩:=Option.ne_none_iff_exists'.mp y2;rw[k2 b o (λe=>n0<|by rw[<-e];exact y1) ho];simp
 ·refine .inr ⟨?_,z2⟩
  cases hq:H b with
  |none=>rfl
  |some o=>rw[k1 b o (λe=>n1<|by rw[<-e];exact z1) hq]at z1;cases z1
theorem Al.refl {N:aj->Prop}{H:Hp}{b:aj}(h:Al N H H b):N b:=by
 rcases h with z|⟨z1,z2⟩
 ·exact z
 ·exact absurd z1 z2
structure kO (H:Hp)(N:aj->Prop)(wd ls:aj)(c d:Nat)(most:Int)(S:List Vl):Prop where
 dk:∃cI:List (Key×V),H wd=some (.dK cI)/\cI.length<=10/\eO cI (Sum.inr "calls")=some (.int (c:Int))/\eO cI (Sum.inr "deep")=some (.int (d:Int))/\eO cI (Sum.inr "most")=some (.int most)/\eO cI (Sum.inr "shared")=some (.ref ls)
 sh:∃pK,H ls=some (.lst pK)/\jC N H pK S
 ne:ls≠wd
 nw:¬N wd
 nl:¬N ls
 ex:∀b,N b->H b≠none
section
variable {N N':aj->Prop}{wd ls:aj}{H H':Hp}{c d:Nat}{most:Int}{S:List Vl}
theorem kO.there (w:kO H N wd ls c d most S):H wd≠none:=by
 obtain⟨cI,h1,_⟩:=w.dk;rw[h1];simp
theorem kO.tps (w:kO H N wd ls c d most S)(k:Kw wd H H'):yV H H':=λb ys h=>by
 obtain⟨cI,h1,_⟩:=w.dk;exact k b _ (iY h h1<|by intro z;cases z) h
theorem kO.TF (w:kO H N wd ls c d most S):H ls≠none:=by
 obtain⟨pK,h1,_⟩:=w.sh;rw[h1];simp
theorem kO.kd (w:kO H N wd ls c d most S)(k:Kw wd H H'):∀b o,N b->H b=some o->N b/\H' b=some o:=λb cI n e=>⟨n,k b _ (λz=>w.nw<|by rw[<-z];exact n) e⟩
theorem kO.val (w:kO H N wd ls c d most S)(k:Kw wd H H'){v:V}{x:Vl}(h:sy N H v x):sy N H' v x:=h.mono (w.tps k) (w.kd k)
theorem kO.env (w:kO H N wd ls c d most S)(k:Kw wd H H'){e:aj}{env:aP Vl}(h:lY H N e env):lY H' N e env:=by
 obtain⟨cI,vs,h1,h2,h3,h4,h5⟩:=h;exact⟨cI,vs,(w.kd k e _ h2 h1).2,h2,h3,h4,h5.mono (w.tps k)<|w.kd k⟩
theorem lY.wide {e:aj}{env:aP Vl}(h:lY H N e env)(sub:∀b,N b->N' b):lY H N' e env:=by
 obtain⟨cI,vs,h1,h2,h3,h4,h5⟩:=h;exact⟨cI,vs,h1,sub _ h2,h3,h4,h5.mono (λb ys h=>h) λb cI n q=>⟨sub b n,q⟩⟩
theorem sy.wide {v:V}{x:Vl}(h:sy N H v x)(sub:∀b,N b->N' b):sy N' H v x:=h.mono (λb ys h=>h) λb cI n q=>⟨sub b n,q⟩
theorem kO.wide (w:kO H N wd ls c d most S)(sub:∀b,N b->N' b)(nw:¬N' wd)(nl:¬N' ls)(ex:∀b,N' b->H b≠none):kO H N' wd ls c d most S:=by
 obtain⟨pK,h2,g2⟩:=w.sh;exact⟨w.dk,⟨pK,h2,g2.mono (λb ys h=>h) λb cI n q=>⟨sub b n,q⟩⟩,w.ne,nw,nl,ex⟩
theorem kO.same (w:kO H N wd ls c d most S)(s:Same H H'):kO H' N wd ls c d most S:=by
 obtain⟨cI,h1,g⟩:=w.dk;obtain⟨pK,h2,g2⟩:=w.sh;refine⟨⟨cI,s _ _ h1,g⟩,⟨pK,s _ _ h2,g2.mono (w.tps<|dh s)<|w.kd (dh s)⟩,w.ne,w.nw,w.nl,λb n=>?_⟩;obtain⟨o,ho⟩:=Option.ne_none_iff_exists'.mp (w.ex b n);rw[s b o ho];simp
theorem kO.Qn {H0:Hp}{N0:aj->Prop}{c0 d0:Nat}{S0:aP Vl}(w:kO H N wd ls c d most S)(w0:kO H0 N0 wd ls c0 d0 most S0)(sub:∀b,N b->Al N0 H0 H b)(k:Kw wd H0 H):kO H (Al N0 H0 H) wd ls c d most S:=by
 refine w.wide sub (λz=>?_) (λz=>?_) λb hb=>?_
 ·rcases z with y|⟨y,_⟩
  ·exact w0.nw y
  ·exact w0.there y
 ·rcases z with y|⟨y,_⟩
  ·exact w0.nl y
  ·exact w0.TF y
 ·rcases hb with y|⟨_,y⟩
  ·obtain⟨o,ho⟩:=Option.ne_none_iff_exists'.mp (w0.ex b y)
   rw[k b o (λz=>w0.nw<|by rw[<-z];exact y) ho];simp
  ·exact y
theorem Gz {cI:aP (Key×V)}{k:Key}{v:V}{y:V}(h:eO cI k=some v):(putK cI k y).length=cI.length:=by
 unfold putK;rw[nR,h];simp
theorem wC:("deep":Str)≠"calls"/\("most":Str)≠"calls"/\("most":Str)≠"deep"/\("shared":Str)≠"calls"/\("shared":Str)≠"deep"/\("shared":Str)≠"most":=by decide+kernel
theorem Jt {o:HO}(h:∀b,N b->H b≠none):∀b,N b->(upd H wd o) b≠none:=λb n=>by
 by_cases z:b=wd
 ·subst z;rw[bA];simp
 ·rw[bV z];exact h b n
theorem kO.aeW (w:kO H N wd ls c d most S){cI:aP (Key×V)}(h:H wd=some (.dK cI))(c2:Nat):kO (upd H wd<|.dK (putK cI (Sum.inr "calls")<|.int (c2:Int))) N wd ls c2 d most S:=by
 obtain⟨kvs',h1,l,g1,g2,g3,g4⟩:=w.dk;rw[h]at h1;cases h1;obtain⟨pK,h2,r2⟩:=w.sh;obtain⟨n1,n2,n3,n4,n5,n6⟩:=wC;refine⟨⟨_,bA,by rw[Gz g1];exact l,by rw[jA,ahK rfl],by rw[jA,ahL (ne4 n1)];exact g2,by rw[jA,ahL (ne4 n2)];exact g3,by rw[jA,ahL (ne4 n4)];exact g4⟩,⟨pK,by rw[bV w.ne];exact h2,r2.mono (w.tps rR)<|w.kd rR⟩,w.ne,w.nw,w.nl,Jt w.ex⟩
theorem kO.putD (w:kO H N wd ls c d most S){cI:aP (Key×V)}(h:H wd=some (.dK cI))(d2:Nat):kO (upd H wd<|.dK (putK cI (Sum.inr "deep")<|.int (d2:Int))) N wd ls c d2 most S:=by
 obtain⟨kvs',h1,l,g1,g2,g3,g4⟩:=w.dk;rw[h]at h1;cases h1;obtain⟨pK,h2,r2⟩:=w.sh;obtain⟨n1,n2,n3,n4,n5,n6⟩:=wC;refine⟨⟨_,bA,by rw[Gz g2];exact l,by rw[jA,ahL (ne4<|ahO n1)];exact g1,by rw[jA,ahK rfl],by rw[jA,ahL (ne4 n3)];exact g3,by rw[jA,ahL (ne4 n5)];exact g4⟩,⟨pK,by rw[bV w.ne];exact h2,r2.mono (w.tps rR)<|w.kd rR⟩,w.ne,w.nw,w.nl,Jt w.ex⟩
theorem lY.more {e:aj}{env:aP Vl}{cI:aP (Key×V)}{vs:aP V}(h1:cI.length<=vs.length)(h2:∀j,j<150->eO cI (Sum.inr<|iz j)=vs[j]?)(h3:jC N H' vs env){v:V}{x:Vl}(hv:sy N H' v x)(l:env.length<150)(ne:N e)(he:H' e=some (.dK<|putK cI (Sum.inr<|iz env.length) v)):lY H' N e (env++[x]):=by
 have lv:=h3.len;have hn:eO cI (Sum.inr<|iz env.length)=none:=by rw[h2 _ l,agr (by exact agy lv)]
 refine⟨_,vs++[v],he,ne,by rw[FN _ hn,afu,afu];simpa using h1,λj hj=>?_,h3.snoc hv⟩;rw[jA];by_cases c:j=env.length
 ·subst c
  rw[ahK rfl,<-lv];simp
 ·rw[ahL (λz=>c<|CZ j hj env.length l (Sum.inr.inj z)),h2 j hj]
  by_cases c2:j<vs.length
  ·rw[afC c2]
  ·rw[agr (by exact Nat.not_lt.mp c2),agr (by rw[afu];simp;omega)]
end
theorem jC.app {N:aj->Prop}{H:Hp}{vs vs':aP V}{ws ws':aP Vl}(h:jC N H vs ws)(k:jC N H vs' ws'):jC N H (vs++vs') (ws++ws'):=h.ind k λr _ ih=>.cons r ih
theorem sy.call {N:aj->Prop}{H:Hp}{u:V}{w:Vl}{b:Tm}{env:List Vl}(h:sy N H u w)(c:u6 w=some (b,env)):∃(r d:aj) (bv:V),u=.ref r/\H r=some (.tup [.str "fn", .str<|iz env.length,bv, .ref d])/\iW H bv b/\lY H N d env/\GT (env.length+1) b/\env.length+1+6*dep b<=149:=by
 cases h with
 |num hi=>cases c
 |fn h1 h2 h3 h4 h5 h6 h7 h8 h9 h10=>cases c;subst h8;exact⟨_,_,_,rfl,h1,h2,⟨_,_,h3,h4,h5,h6,h7⟩,h9,h10⟩
 |bl=>cases c
noncomputable def Ju (CT iG iH:aj):Rs->Option aj
 |.val _=>none
 |.long=>some iG
 |.deep=>some iH
 |.great=>some CT
 |.stuck=>none
inductive Pk (CT iG iH:aj)(m:Nat)(vs:List V)(H:Hp)(Q:VK)(E:XK):Prop where
 |mk (v:V) (od wd ls:aj) (N:aj->Prop) (t:Tm) (env:List Vl) (c d:Nat) (most:Int) (S:List Vl) (r:Rs) (c':Nat):vs=[v, .ref od, .ref wd]->iW H v t->lY H N od env->kO H N wd ls c d most S->GT env.length t->env.length+6*dep t<=149->ev most S m d t env c=some (r,c')->r≠.stuck->(∀w,r=.val w->∀u H',sy (Al N H H') H' u w->kO H' (Al N H H') wd ls c' d most S->Kw wd H H'->Q u H')->(∀C,Ju CT iG iH r=some C->∀ea H',Kw wd H H'->E (.ref C) (some ea) H')->Pk CT iG iH m vs H Q E
def vm (CT iG iH:aj):Nat->Sp
 |0=>λ_ _ _ _=>False
 |m+1=>Pk CT iG iH (m+1)
inductive TJ (CT iG iH:aj)(m:Nat)(vs:List V)(H:Hp)(Q:VK)(E:XK):Prop where
 |mk (u v:V) (wd ls:aj) (N:aj->Prop) (x:Vl) (b:Tm) (env:List Vl) (w:Vl) (c d:Nat) (most:Int) (S:List Vl) (r:Rs) (c':Nat):vs=[u,v, .ref wd]->sy N H u x->u6 x=some (b,env)->sy N H v w->kO H N wd ls c d most S->(if most<(c:Int)+1 then some (Rs.long,c) else if 10<d+1 then some (.deep,c) else ev most S m (d+1) b (env++[w]) (c+1))=some (r,c')->r≠.stuck->(∀w,r=.val w->∀u H',sy (Al N H H') H' u w->kO H' (Al N H H') wd ls c' d most S->Kw wd H H'->Q u H')->(∀C,Ju CT iG iH r=some C->∀ea H',Kw wd H H'->E (.ref C) (some ea) H')->TJ CT iG iH m vs H Q E
section
variable {CT iG iH:aj}
abbrev Mi:aJ:=top 60
noncomputable abbrev pEn:List Str:=["_law_function","_law_value","_law_world"]
noncomputable abbrev nEn:List Str:=["_law_function","_law_value","_law_world","_law_own_here","_law_told_here"]
theorem Jv:cu nEn pEn (bN Mi):={}
abbrev zy:List Str:=["_law_term","_law_own_here","_law_world"]
set_option maxHeartbeats 4000000 in
theorem abK {m k:Nat}{fW:aj}{gW:FuncData}{bm bm':aP ak}{jo B lV j4 B' tG:String}(F:gY K "_law_entered" "_law_entered" Mi f fd)(mD:mg "dict"=none)(O:OwnCls "TooLong" iG bm jo mg aV)(FB:ExcBaseFacts B jo lV bm)(O':OwnCls "TooDeep" iH bm' j4 mg aV)(FB':ExcBaseFacts B' j4 tG bm')
  (G:cX P w K mg aV (gw P w) k fW gW zy (vm CT iG iH m)) (mW:mg "_law_worked"=some (.ref fW)) (kW:keepIn K (.ref fW)=true) (bW:Binds K gW zy []):cX P w K mg aV (gw P w) (k+1) f fd pEn (TJ CT iG iH m):=by
 refine F.vU Jv λdJ A aU s H vs Q E hr h=>?_;obtain⟨u,v,wd,ls,N,x,b,env,w,c,d,most,S,r,c',rfl,hu1,hcv,hv1,wl,he,ns,q1,q2⟩:=h;have hu:=pX hr;refine⟨_,bI (dB (cA QH (cT hu (pv 2) bU)<|cT hu (pv 2) bU) (bQ<|nQ O FB rfl (bx bU bG)) cR)
  (bI (dB (cA QH (cT hu (pv 2) bU) bJ) (bQ<|nQ O' FB' rfl (bx bU bG)) cR)
  (bI (qL hu (pv 2) bU (cU gJ (cT hu (pv 2) bU) bJ) rfl)
  (bI (qL hu (pv 2) bU (cU gJ (cT hu (pv 2) bU) bJ) rfl)
  (bI (eU 3 Jv.nd<|cZ qw rfl mD rQ (bx (bZ (fG K) (pv 0) bJ) bG))
  (bI (qL hu (pv 3) (bZ (fG K) (pv 0) bJ) (pv 1) rfl)
  (bI (eU 4 Jv.nd<|gU G hr rfl mW kW bW .nil dY (bx (bZ (fG K) (pv 0) bJ)<|bx (pv 3) (bx (pv 2) bG)))
  (bI (qL hu (pv 2) bU (cU iw (cT hu (pv 2) bU) bJ) rfl)
  (bQ<|cO (pv 4))))))))),?_⟩
 obtain⟨cI,wD,lk,g1,g2,g3,g4⟩:=wl.dk;refine(dU rfl wD g1 (dU rfl wD g3 ⟨_,_,rfl,rfl,_,rfl,gO (λz=>?_) λz=>?_⟩))
 ·have z1:most<=(c:Int):=ahM z
  rw[ahK (by omega)]at he;cases he;exact⟨(fH 1),λea _=>q2 iG rfl ea _ (λb o _ h=>h)⟩
 have z1:¬most<=(c:Int):=λy=>z (ahN y);rw[ahL (by omega)]at he;refine(dU rfl wD g2 ⟨_,_,rfl,rfl,_,rfl,gO (λy=>?_) λy=>?_⟩)
 ·have y1:(10:Int)<=(d:Int):=ahM y
  rw[ahK (by omega)]at he;cases he;exact⟨(fH 1),λea _=>q2 iH rfl ea _ (λb o _ h=>h)⟩
 have y1:¬(10:Int)<=(d:Int):=λq=>y (ahN q);rw[ahL (by omega)]at he;refine(dU rfl wD g1 ⟨_,_,rfl,rfl,_,rfl,wd,_,rfl,zj.k (k:=Sum.inr "calls") wD (cW<|by exact afy lk<|by decide),?_⟩)
 try dsimp only
 rw[show(c:Int)+1=((c+1:Nat):Int) from rfl];have w2:=wl.aeW wD (c+1);have k2:Kw wd H (upd H wd<|.dK (putK cI (Sum.inr "calls")<|.int ((c+1:Nat):Int))):=rR;revert w2 k2;generalize upd H wd (.dK<|putK cI (Sum.inr "calls") (.int ((c+1:Nat):Int)))=H2;intro w2 k2;obtain⟨Xb,abL,lk2,_,g22,_,_⟩:=w2.dk;refine(dU rfl abL g22 ⟨_,_,rfl,rfl,_,rfl,wd,_,rfl,zj.k (k:=Sum.inr "deep") abL (cW<|by exact afy lk2<|by decide),?_⟩)
 try dsimp only
 rw[show(d:Int)+1=((d+1:Nat):Int) from rfl];have w3:=w2.putD abL (d+1);have k3:Kw wd H2 (upd H2 wd<|.dK (putK Xb (Sum.inr "deep")<|.int ((d+1:Nat):Int))):=rR;revert w3 k3;generalize upd H2 wd (.dK<|putK Xb (Sum.inr "deep") (.int ((d+1:Nat):Int)))=H3;intro w3 k3;have Vi:=k2.trans k3;have hv3:=wl.val Vi hv1;obtain⟨rr,dd,bv,rfl,f1,f2,⟨Xo,fvs,f3,f4,f5,f6,f7⟩,f9,f10⟩:=(wl.val Vi hu1).call hcv;have f8:env.length=env.length:=rfl
 ·
  refine(dN (a:=rr) (j:=3) rfl f1 rfl ⟨dd,Xo,rfl,f3,λd4 hd4=>?_⟩);have s4:=bK hd4 (.dK Xo);refine⟨_,rfl,_,rfl,dN (a:=rr) (j:=1) rfl (s4 _ _ f1) rfl ⟨d4,_,rfl,zj.k (k:=Sum.inr<|iz env.length) bA (cW<|by have:=f7.len;omega),?_⟩⟩;have n4:d4≠wd:=by
   obtain⟨kv3,aeX,_⟩:=w3.dk;exact cH hd4 aeX
  have n4l:d4≠ls:=by
   obtain⟨sv3,aeY,_⟩:=w3.sh;exact cH hd4 aeY
  have s5:Same H3 (upd (upd H3 d4<|.dK Xo) d4<|.dK (putK Xo (Sum.inr<|iz env.length) v)):=λb o h=>by
   rw[bV (bY h hd4),bV (bY h hd4)];exact h
  have h5:(upd (upd H3 d4<|.dK Xo) d4<|.dK (putK Xo (Sum.inr<|iz env.length) v)) d4=some (.dK<|putK Xo (Sum.inr<|iz env.length) v):=bA;revert s5 h5;generalize upd (upd H3 d4<|.dK Xo) d4 (.dK<|putK Xo (Sum.inr<|iz env.length) v)=H5;intro s5 h5;have Vj:=Vi.trans (dh s5);have abM:∀b,(N b\/b=d4)->Al N H H5 b:=λb hb=>by
   rcases hb with z|z
   ·exact .inl z
   ·subst z
    refine .inr ⟨?_,by rw[h5];simp⟩;cases hq:H b with
    |none=>rfl
    |some o=>rw[Vi b o n4 hq]at hd4;cases hd4
  have w5:kO H5 (λb=>N b\/b=d4) wd ls (c+1) (d+1) most S:=(w3.same s5).wide (λb hb=>.inl hb) (λz=>z.elim w3.nw λe=>n4 e.symm) (λz=>z.elim w3.nl λe=>n4l e.symm) (λb hb=>by
   rcases hb with z|z
   ·exact(w3.same s5).ex b z
   ·subst z;rw[h5];simp)
  have f75:jC (λb=>N b\/b=d4) H5 fvs env:=f7.mono (w3.tps<|dh s5) λb cI n e=>⟨.inl n,s5 b _ e⟩;have ev5:lY H5 (λb=>N b\/b=d4) d4 (env++[w]):=lY.more f5 f6 f75 ((w3.val (dh s5) hv3).wide λb hb=>.inl hb) (by omega) (.inr rfl) (h5);have hm:∃j,m=j+1:=by
   cases m with
   |zero=>cases he
   |succ j=>exact⟨j,rfl⟩
  obtain⟨j,rfl⟩:=hm;refine(dN (a:=rr) (j:=2) rfl (s5 _ _ f1) rfl ⟨_,rfl,_,rfl,bv,d4,wd,ls,(λb=>N b\/b=d4),b,env++[w],c+1,d+1,most,S,r,c',rfl,f2.same s5,ev5,w5,by rw[afu];exact f9,by rw[afu];simp;exact f10,he,ns,λw' hw' u' H6 hu6 w6 k6=>?_,λC hC ea H6 k6=>q2 C hC ea H6<|Vj.trans k6⟩);obtain⟨Ql,abN,lk6,_,g26,_,_⟩:=w6.dk;refine(dU rfl abN g26 ⟨_,_,rfl,rfl,_,rfl,wd,_,rfl,zj.k (k:=Sum.inr "deep") abN (cW<|by exact afy lk6<|by decide),?_⟩)
  try dsimp only
  rw[show((d+1:Nat):Int)-1=((d:Nat):Int) by omega];have w7:=w6.putD abN d;have k7:Kw wd H6 (upd H6 wd<|.dK (putK Ql (Sum.inr "deep")<|.int (d:Int))):=rR;have u7:=w6.val k7 hu6;revert w7 k7 u7;generalize upd H6 wd (.dK<|putK Ql (Sum.inr "deep") (.int (d:Int)))=H7;intro w7 k7 u7;have st:∀b,Al (λb=>N b\/b=d4) H5 H6 b->Al N H H7 b:=λb hb=>by
   have:=Al.step (N:=N) (H:=H) (H1:=H5) (H2:=H6) abM Vj k6 wl.there w5.there b hb;rcases this with z|⟨z1,z2⟩
   ·exact .inl z
   ·refine .inr ⟨z1,?_⟩
    obtain⟨o,ho⟩:=Option.ne_none_iff_exists'.mp z2;rw[k7 b o (λe=>wl.there<|by rw[<-e];exact z1) ho];simp
  have k07:=Vj.trans (k6.trans k7);exact⟨_,rfl,q1 w' hw' u' _ (u7.wide st) (w7.Qn wl st k07) k07⟩
end
theorem Xp:("fun":Str)≠"n"/\("fun":Str)≠"v"/\("fun":Str)≠"g"/\("let":Str)≠"fun"/\("if":Str)≠"fun"/\("call":Str)≠"fun"/\("call":Str)≠"let"/\("call":Str)≠"if":=by decide+kernel
theorem v_op:∀k,k<=3->wordOf k≠"fun"/\wordOf k≠"call"/\inV (.str<|wordOf k) [.str "block", .str "field", .str "case"]=false:=by decide+kernel
theorem in_words:inV (.str "call") [.str "block", .str "field", .str "case"]=false/\inV (.str "block") [.str "block", .str "field", .str "case"]=true/\inV (.str "field") [.str "block", .str "field", .str "case"]=true/\inV (.str "case") [.str "block", .str "field", .str "case"]=true:=by decide+kernel
def aeZ:Tm->Prop
 |.block _ _=>True
 |.field _ _=>True
 |.case _ _ _ _=>True
 |_=>False
inductive abO (CT iG iH:aj)(m:Nat)(vs:List V)(H:Hp)(Q:VK)(E:XK):Prop where
 |mk (v:V) (od wd ls:aj) (N:aj->Prop) (t:Tm) (env:List Vl) (c d:Nat) (most:Int) (S:List Vl) (r:Rs) (c':Nat):vs=[v, .ref od, .ref wd]->aeZ t->iW H v t->lY H N od env->kO H N wd ls c d most S->GT env.length t->env.length+6*dep t<=149->ev most S (m+1) d t env c=some (r,c')->r≠.stuck->(∀w,r=.val w->∀u H',sy (Al N H H') H' u w->kO H' (Al N H H') wd ls c' d most S->Kw wd H H'->Q u H')->(∀C,Ju CT iG iH r=some C->∀ea H',Kw wd H H'->E (.ref C) (some ea) H')->abO CT iG iH m vs H Q E
theorem Pn {cI:aP (Key×V)}{vs:aP V}{v:V}(h1:cI.length<=vs.length)(h2:∀j,j<150->eO cI (Sum.inr<|iz j)=vs[j]?)(l:vs.length<150):(putK cI (Sum.inr<|iz vs.length) v).length<=(vs++[v]).length/\∀j,j<150->eO (putK cI (Sum.inr<|iz vs.length) v) (Sum.inr<|iz j)=(vs++[v])[j]?:=by
 have hn:eO cI (Sum.inr<|iz vs.length)=none:=by rw[h2 _ l,agr (by exact afv _)]
 refine⟨by rw[FN _ hn,afu,afu];simpa using h1,λj hj=>?_⟩;rw[jA];by_cases c:j=vs.length
 ·subst c
  rw[ahK rfl];simp
 ·rw[ahL (λz=>c<|CZ j hj vs.length l (Sum.inr.inj z)),h2 j hj]
  by_cases c2:j<vs.length
  ·rw[afC c2]
  ·rw[agr (by exact Nat.not_lt.mp c2),agr (by rw[afu];simp;omega)]
section
variable {X:Cx}
theorem inT (K:aN)(h:X.K=K:=by rfl):qW X (compareOp .In) (rIn K false):=h ▸ Nq
variable {K:W.Frag}{i:Nat}{a:aj}{z w1 w2 w3:Str}{xs:List V}{t u:TS}{D:L2.Ends}{U:L2.St}{H:Hp}
theorem inF (h0:U[i]?=some (some<|.ref a))(ha:H a=some (.tup (.str z::xs)))(hin:inV (.str z) [.str w1, .str w2, .str w3]=false)(q:∀p,H p=none->u D U (upd H p<|.tup [.str w1, .str w2, .str w3])):
  jt (dM (El<|Hw (rIn K false) (Hw (Np K) (pL i)<|tC (.int 0)) (Ni<|ig (tC<|.str w1) (ig (tC<|.str w2)<|ig (tC<|.str w3) sO))) t gP) u D U H :=
 ⟨_,h0,a,_,0,_,rfl,rfl,iM.of ha,cg (j:=0) rfl,(fH 3),λp hp=>⟨p,_,rfl, .inr<|iM.of bA,rfl,rfl,_,rfl,by
  show if inV (.str z) [.str w1, .str w2, .str w3]=true then _ else _
  rw[hin];exact q p hp⟩⟩
theorem abP (h0:U[i]?=some (some<|.ref a))(ha:H a=some (.tup (.str z::xs)))(hin:inV (.str z) [.str w1, .str w2, .str w3]=true)(q:∀nx p,H p=none->t ⟨nx,D.rt,D.bk,D.ct⟩ U (upd H p<|.tup [.str w1, .str w2, .str w3])):
  jt (dM (El<|Hw (rIn K false) (Hw (Np K) (pL i)<|tC (.int 0)) (Ni<|ig (tC<|.str w1) (ig (tC<|.str w2)<|ig (tC<|.str w3) sO))) t gP) u D U H :=
 ⟨_,h0,a,_,0,_,rfl,rfl,iM.of ha,cg (j:=0) rfl,(fH 3),λp hp=>⟨p,_,rfl, .inr<|iM.of bA,rfl,rfl,_,rfl,by
  show if inV (.str z) [.str w1, .str w2, .str w3]=true then _ else _
  rw[hin];exact q (u D) p hp⟩⟩
end
section
variable {CT iG iH:aj}
abbrev Dp:aJ:=top 63
noncomputable abbrev nWk:List Str:=["_law_term","_law_own_here","_law_world","_law_inner","_law_value","_law_left","_law_right"]
theorem uc:cu nWk zy (bN Dp):={}
set_option maxHeartbeats 8000000 in
theorem Xq {m:Nat}{fS fE fB:aj}{gS gE gB:FuncData}(F:gY K "_law_worked" "_law_worked" Dp f fd)(bF:Binds K fd zy [])(mF:mg "_law_worked"=some (.ref f))(mD:mg "dict"=none)(mI:mg "int"=none)
  (GS:cX P w K mg aV (gw P w) 1 fS gS ["_law_word","_law_left","_law_right"] (Mh CT)) (mS:mg "_law_summed"=some (.ref fS)) (kS:keepIn K (.ref fS)=true) (bS:Binds K gS ["_law_word","_law_left","_law_right"] [])
  (GE:cX P w K mg aV (gw P w) (2*m+2) fE gE pEn (TJ CT iG iH m)) (mE:mg "_law_entered"=some (.ref fE)) (kE:keepIn K (.ref fE)=true) (bE:Binds K gE pEn [])
  (GB:cX P w K mg aV (gw P w) (2*m+2) fB gB zy (abO CT iG iH m)) (mB:mg "_law_blocked"=some (.ref fB)) (kB:keepIn K (.ref fB)=true) (bB:Binds K gB zy [])
  (G:cX P w K mg aV (gw P w) (2*m+1) f fd zy (vm CT iG iH m)):cX P w K mg aV (gw P w) (2*m+3) f fd zy (Pk CT iG iH<|m+1):=by
 refine F.vU uc λdJ A aU s H vs Q E hr h=>?_;obtain⟨v,od,wd,ls,N,t,env,c,d,most,S,r,c',rfl,tl,en,wl,gt,Dq,he,ns,q1,q2⟩:=h;have hu:=pX hr;have hr1:gK 1 _:=hr.mono (by exact afX _ _);have hrm:gK (2*m+1) _:=hr.mono (by exact agb _);have hrb:gK (2*m+2) _:=hr.mono (by exact afv _);refine⟨_,bI (dB (cA eV (bZ (fG K) (pv 0) bJ) bU) (bQ<|cO (bZ (fG K) (pv 0) bJ)) cR)
  (bI (dB (cA eV (bZ (fG K) (pv 0) bJ) bU) (bQ<|cO (cT hu (pv 1)<|bZ (fG K) (pv 0) bJ)) cR)
  (bI (dB (cA eV (bZ (fG K) (pv 0) bJ) bU) (bQ<|cO (bZ (rE K) (cT hu (pv 2) bU)<|bZ (fG K) (pv 0) bJ)) cR)
  (bI (dB (cA eV (bZ (fG K) (pv 0) bJ) bU) (bQ<|cO (cV<|bx bU (bx (bZ (fG K) (pv 0) bJ)<|bx (bZ (fG K) (pv 0) bJ) (bx (pv 1) bG)))) cR)
  (bI (dB (cA eV (bZ (fG K) (pv 0) bJ) bU)
   (bI (eU 3 uc.nd<|cZ qw rfl mD rQ (bx (pv 1) bG))
   (bI (qL hu (pv 3) (bZ (fG K) (pv 0) bJ) (gU G hrm rfl mF F.kp bF .nil dY (bx (bZ (fG K) (pv 0) bJ)<|bx (pv 1) (bx (pv 2) bG))) rfl)
   (bQ<|cO (gU G hrm rfl mF F.kp bF .nil dY (bx (bZ (fG K) (pv 0) bJ)<|bx (pv 3) (bx (pv 2) bG)))))) cR)
  (bI (dB (cA eV (bZ (fG K) (pv 0) bJ) bU)
   (bI (eU 4 uc.nd<|gU G hrm rfl mF F.kp bF .nil dY (bx (bZ (fG K) (pv 0) bJ)<|bx (pv 1) (bx (pv 2) bG)))
   (bQ<|cO (gU G hrm rfl mF F.kp bF .nil dY (bx (bZ (fG K) (pv 0)<|cU gJ bJ (cZ lN rfl mI boot_int (bx (qG eV (pv 4) bJ) bG)))<|bx (pv 1) (bx (pv 2) bG))))) cR)
  (bI (dB (cA (inT K) (bZ (fG K) (pv 0) bJ) (cV<|bx bU (bx bU<|bx bU bG))<|by with_unfolding_all rfl) (bQ<|cO (gU GB hrb rfl mB kB bB .nil dY (bx (pv 0)<|bx (pv 1) (bx (pv 2) bG)))) cR)
  (bI (eU 5 uc.nd<|gU G hrm rfl mF F.kp bF .nil dY (bx (bZ (fG K) (pv 0) bJ)<|bx (pv 1) (bx (pv 2) bG)))
  (bI (eU 6 uc.nd<|gU G hrm rfl mF F.kp bF .nil dY (bx (bZ (fG K) (pv 0) bJ)<|bx (pv 1) (bx (pv 2) bG)))
  (bI (dB (cA eV (bZ (fG K) (pv 0) bJ) bU) (bQ<|cO (gU GE hrb rfl mE kE bE .nil dY (bx (pv 5)<|bx (pv 6) (bx (pv 2) bG)))) cR)
  (bQ<|cO (gU GS hr1 rfl mS kS bS .nil dY (bx (bZ (fG K) (pv 0) bJ)<|bx (pv 5) (bx (pv 6) bG))))))))))))),?_⟩
 obtain⟨m1,m2,m3,m4,m5,m6,m7,m8,m9,m10,m11,m12,m13,m14,m15⟩:=LC;obtain⟨v1,v2,v3,v4,v5,v6,v7,v8⟩:=Xp;obtain⟨i1w,i2w,i3w,i4w⟩:=in_words;obtain⟨z1w,z2w,z3w,z4w,z5w,z6w,_⟩:=LR;obtain⟨f1w,f2w,f3w,f4w,f5w,f6w,_⟩:=w_field;obtain⟨c1w,c2w,c3w,c4w,c5w,c6w⟩:=Tn;have raw:∀{t':Tm} {v':V} {jH:List Vl} {e:aj} {N1:aj->Prop} {H1:Hp} {c1:Nat} {r1:Rs} {c2:Nat} {Q':VK},iW H1 v' t'->lY H1 N1 e jH->kO H1 N1 wd ls c1 d most S->GT jH.length t'->jH.length+6*dep t'<=149->ev most S m d t' jH c1=some (r1,c2)->r1≠.stuck->
   (∀w,r1=.val w->∀u H',sy (Al N1 H1 H') H' u w->kO H' (Al N1 H1 H') wd ls c2 d most S->Kw wd H1 H'->Q' u H')->(∀C,Ju CT iG iH r1=some C->∀ea H',Kw wd H1 H'->E (.ref C) (some ea) H')->vm CT iG iH m [v', .ref e, .ref wd] H1 Q' E:=by
  intro t' v' jH e N1 H1 c1 r1 c2 Q' a1 a2 a3 a5 a6 a7 as a8 a9;cases m with
  |zero=>cases a7
  |succ j=>exact⟨v',e,wd,ls,N1,t',jH,c1,d,most,S,r1,c2,rfl,a1,a2,a3,a5,a6,a7,as,a8,a9⟩
 have sub:∀{t':Tm} {v':V} {jH:List Vl} {e:aj} {N1:aj->Prop} {H1:Hp} {c1:Nat} {r1:Rs} {c2:Nat} {Q':VK},iW H1 v' t'->lY H1 N1 e jH->kO H1 N1 wd ls c1 d most S->Kw wd H H1->(∀b,N1 b->Al N H H1 b)->GT jH.length t'->jH.length+6*dep t'<=149->ev most S m d t' jH c1=some (r1,c2)->r1≠.stuck->
   (∀w,r1=.val w->∀u H',sy (Al N H H') H' u w->kO H' (Al N H H') wd ls c2 d most S->Kw wd H H'->Q' u H')->(∀C,Ju CT iG iH r1=some C->∀ea H',Kw wd H H'->E (.ref C) (some ea) H')->vm CT iG iH m [v', .ref e, .ref wd] H1 Q' E:=by
  intro t' v' jH e N1 H1 c1 r1 c2 Q' a1 a2 a3 a4 a4' a5 a6 a7 as a8 a9;refine raw a1 a2 a3 a5 a6 a7 as (λw hw u H' vu wu ku=>?_) λC hC ea H' ku=>a9 C hC ea H' (a4.trans ku);have k0:=a4.trans ku;have st:=Al.step (N:=N) (H:=H) (H1:=H1) (H2:=H') a4' a4 ku wl.there a3.there;exact a8 w hw u H' (vu.wide st) (wu.Qn wl st k0) k0
 have vo:∀{H1:Hp} b,N b->Al N H H1 b:=λb hb=>.inl hb;have n0:∀b,Al N H H b->N b:=λb hb=>hb.refl;have toQ:∀w,r=.val w->∀u H',sy (Al N H H') H' u w->kO H' (Al N H H') wd ls c' d most S->Kw wd H H'->Q u H':=q1;cases tl with
 |@n a i ha=>
  cases he;refine lE rfl ha λnx=>?_;exact(dN (a:=a) (j:=1) rfl ha rfl (q1 _ rfl _ _ (.num gt) (wl.wide vo (λz=>wl.nw z.refl) (λz=>wl.nl z.refl) λb hb=>wl.ex b hb.refl) Kw.refl))
 |@v a x ha=>
  unfold ev at he;have hx:x<env.length:=gt;rw[afw hx]at he;cases he;obtain⟨cI,vs,hod,nod,lk,vk,TQ⟩:=en;obtain⟨u,hu1,vu⟩:=TQ.get (afw hx);have hv:eO cI (Sum.inr<|iz x)=some u:=by rw[vk x (by exact afy hx (afy Dq<|by decide))];exact hu1
  refine fX rfl ha m1 ?_;refine lE rfl ha λnx=>?_;exact⟨_,rfl,dN (a:=a) (j:=1) rfl ha rfl ⟨od,_,rfl, .inl ⟨cI,Sum.inr<|iz x,(by first|exact hod|exact .inl hod),rfl,hv.symm⟩,q1 _ rfl _ _ (vu.wide vo) (wl.wide vo (λz=>wl.nw z.refl) (λz=>wl.nl z.refl) λb hb=>wl.ex b hb.refl) Kw.refl⟩⟩
 |@g a j ha=>
  unfold ev at he;cases hs:S[j]? with
  |none=>rw[hs]at he;cases he
  |some sv=>
   rw[hs]at he;cases he;obtain⟨cI,wD,lk,g1,g2,g3,g4⟩:=wl.dk;obtain⟨pK,hls,TQ⟩:=wl.sh;obtain⟨u,hu1,vu⟩:=TQ.get hs;refine tn2 rfl ha m2 m3 ?_;refine lE rfl ha λnx=>?_;exact(dU rfl wD g4 (dN (a:=a) (j:=1) rfl ha rfl ⟨ls,_,(j:Int),_,rfl,rfl,dD.of hls,cg (j:=j) hu1,q1 _ rfl _ _ (vu.wide vo) (wl.wide vo (λz=>wl.nw z.refl) (λz=>wl.nl z.refl) λb hb=>wl.ex b hb.refl) Kw.refl⟩))
 |@fn a x bv b ha t1=>
  cases he;obtain⟨hx,gb⟩:=gt;simp only[dep]at Dq;obtain⟨cI,vs,hod,nod,lk,vk,TQ⟩:=en;refine tn3 rfl ha v1 v2 v3 ?_;refine lE rfl ha λnx=>?_;refine(dN (a:=a) (j:=1) rfl ha rfl (dN (a:=a) (j:=2) rfl ha rfl ⟨_,rfl,(fH 4),λp hp=>?_⟩));have s2:=bK hp (.tup [.str "fn", .str<|iz x,bv, .ref od]);have w2:=(wl.same s2).Qn wl vo (dh s2);exact q1 _ rfl _ _ (.fn bA (t1.same s2) (s2 _ _ hod) (vo _ nod) lk vk (TQ.mono (wl.tps<|dh s2) λb cI n e=>⟨vo b n,s2 b _ e⟩) hx (by rw[hx];exact gb)<|by omega) w2 (dh s2)
 |@lt a x u y ta tb ha t1 t2=>
  obtain⟨hx,g1,g2⟩:=gt;simp only[dep]at Dq;have Xr:=agq (dep ta) (dep tb);have Xu:=agl (dep ta) (dep tb);generalize max (dep ta) (dep tb)=Dm at Dq Xr Xu;unfold ev at he;cases e1:ev most S m d ta env c with
  |none=>rw[e1]at he;cases he
  |some rc=>
   obtain⟨r1,c1⟩:=rc;rw[e1]at he;refine tn4 rfl ha m4 m5 m6 v4 ?_;refine lE rfl ha λnx=>?_;obtain⟨cI,vs,hod,nod,lk,vk,TQ⟩:=id en;refine⟨_,rfl,od,cI,rfl,hod,λdd hdd=>?_⟩;have s2:=bK hdd (.dK cI);have TV:(upd H dd<|.dK cI) dd=some (.dK cI):=bA;have Ec:dd≠wd:=by
    obtain⟨kv,wD,_⟩:=wl.dk;exact cH hdd wD
   revert s2 TV;generalize upd H dd (.dK cI)=H2;intro s2 TV;have k2:Kw wd H H2:=dh s2;have w2:=wl.same s2;refine(dN (a:=a) (j:=2) rfl (s2 _ _ ha) rfl ⟨_,rfl,_,rfl,raw (t1.same s2) (wl.env k2 en) w2 g1 (by omega) e1 (by rintro rfl;cases he;exact ns rfl) (λw hw u' H3 vu w3 k3=>?_) λC hC ea H3 k3=>q2 C (by cases r1 with|val v=>cases hC|_=>cases he;exact hC) ea H3<|k2.trans k3⟩);subst hw;dsimp only at he;have Vi:=k2.trans k3;have ha3:=wl.tps Vi _ _ ha;have GJ:=k3 _ _ Ec TV;refine⟨_,rfl,dN (a:=a) (j:=1) rfl ha3 rfl ⟨dd,_,rfl,zj.k (k:=Sum.inr<|iz x) GJ (cW<|by have:=TQ.len;omega),?_⟩⟩;have nd:¬Al N H2 H3 dd:=λz=>by
    rcases z with z|⟨z,_⟩
    ·exact wl.ex dd z hdd
    ·rw[TV]at z;cases z
   have TX:(upd H3 dd<|.dK (putK cI (Sum.inr<|iz x) u')) dd=some (.dK<|putK cI (Sum.inr<|iz x) u'):=bA;have Xv:∀b o,b≠dd->H3 b=some o->(upd H3 dd<|.dK (putK cI (Sum.inr<|iz x) u')) b=some o:=λb o n h=>by rw[bV n];exact h
   revert TX Xv;generalize upd H3 dd (.dK<|putK cI (Sum.inr<|iz x) u')=H4;intro TX Xv;have ZM:yV H3 H4:=λb ys h=>Xv b _ (iY h GJ<|by intro z;cases z) h;have kd4:∀b kvs',Al N H2 H3 b->H3 b=some kvs'->(Al N H2 H3 b\/b=dd)/\H4 b=some kvs':=λb kvs' n e=>⟨.inl n,Xv b _ (λz=>nd<|by rw[<-z];exact n) e⟩;have k04:Kw wd H H4:=λb o n h=>Xv b o (bY h hdd) (Vi b o n h);have ae0:jC (λb=>Al N H2 H3 b\/b=dd) H4 vs env:=((TQ.mono (wl.tps k2)<|wl.kd k2).mono (w2.tps k3) λb kvs' n e=>⟨.inl n,(w2.kd k3 b kvs' n e).2⟩).mono ZM kd4;have w4:kO H4 (λb=>Al N H2 H3 b\/b=dd) wd ls c1 d most S:=by
    obtain⟨kv,wD,gg⟩:=w3.dk;obtain⟨pK,hls,sv⟩:=w3.sh;refine⟨⟨kv,Xv _ _ (ahO Ec) wD,gg⟩,⟨pK,Xv _ _ (iY hls GJ<|by intro z;cases z) hls,sv.mono ZM kd4⟩,w3.ne,λz=>z.elim w3.nw λe=>Ec e.symm,λz=>z.elim w3.nl (λe=>iY w3.sh.choose_spec.1 GJ (by intro z;cases z) e),λb hb=>?_⟩;rcases hb with z|z
    ·obtain⟨o,ho⟩:=Option.ne_none_iff_exists'.mp (w3.ex b z)
     rw[Xv b o (λe=>nd<|by rw[<-e];exact z) ho];simp
    ·subst z;rw[TX];simp
   have en4:lY H4 (λb=>Al N H2 H3 b\/b=dd) dd (env++[w]):=lY.more lk vk ae0 (vu.mono ZM kd4) (by omega) (.inr rfl) (by rw[<-hx];exact TX);have ae1:∀b,(Al N H2 H3 b\/b=dd)->Al N H H4 b:=λb hb=>by
    rcases hb with (z|⟨z1,z2⟩)|z
    ·exact .inl z
    ·refine .inr ⟨?_,?_⟩
     ·cases hq:H b with
      |none=>rfl
      |some o=>rw[s2 b o hq]at z1;cases z1
     ·obtain⟨o,ho⟩:=Option.ne_none_iff_exists'.mp z2
      rw[Xv b o (λe=>by rw[e,TV]at z1;cases z1) ho];simp
    ·subst z;exact .inr ⟨hdd,by rw[TX];simp⟩
   refine(dN (a:=a) (j:=3) rfl (ZM _ _ ha3) rfl ⟨_,rfl,_,rfl,sub ((t2.tps<|wl.tps Vi).tps ZM) en4 w4 k04 ae1 (by rw[afu];exact g2) (by rw[afu];simp;omega) he ns q1 q2⟩)
 |@rK a u y zv tc ta tb ha t1 t2 t3=>
  obtain⟨g0,g1,g2⟩:=gt;simp only[dep]at Dq;have Xr:=agq (dep ta) (dep tb);have Xu:=agl (dep ta) (dep tb);generalize max (dep ta) (dep tb)=Dm at Dq Xr Xu;have dm3:=agq (dep tc) Dm;have dm4:=agl (dep tc) Dm;generalize max (dep tc) Dm=Dn at Dq dm3 dm4;unfold ev at he;cases e1:ev most S m d tc env c with
  |none=>rw[e1]at he;cases he
  |some rc=>
   obtain⟨r1,c1⟩:=rc;rw[e1]at he;refine tn5 rfl ha m12 m13 m14 v5 m15 ?_;refine lE rfl ha λnx=>?_;refine(dN (a:=a) (j:=1) rfl ha rfl ⟨_,rfl,_,rfl,sub t1 en wl Kw.refl vo g0 (by omega) e1 (by rintro rfl;cases he;exact ns rfl) (λw hw u' H3 vu w3 k3=>?_) λC hC ea H3 k3=>q2 C (by cases r1 with|val v=>cases hC|_=>cases he;exact hC) ea H3 k3⟩);subst hw;have ha3:=wl.tps k3 _ _ ha;have en3:lY H3 (Al N H H3) od env:=(wl.env k3 en).wide vo;cases vu with
   |@num i hi=>
    dsimp only at he;by_cases c0:i=0
    ·rw[ahK c0]at he
     have e0:(decide<|V.int i=V.int 0)=true:=ahN (by rw[c0]);refine⟨_,rfl,_,rfl,rfl, .inr ⟨_,rfl,_,_,rfl,rfl,a,_,3,zv,rfl,?_,iM.of ha3,cg (j:=3) rfl,_,rfl,_,rfl,sub (t3.tps<|wl.tps k3) en3 w3 k3 (λb hb=>hb) g2 (by omega) he ns q1 q2⟩⟩;rw[e0];rfl
    ·rw[ahL c0]at he
     have e0:(decide<|V.int i=V.int 0)=false:=ahJ (λz=>c0<|V.int.inj z);refine⟨_,rfl,_,rfl,rfl, .inr ⟨_,rfl,_,_,rfl,rfl,a,_,2,y,rfl,?_,iM.of ha3,cg (j:=2) rfl,_,rfl,_,rfl,sub (t2.tps<|wl.tps k3) en3 w3 k3 (λb hb=>hb) g1 (by omega) he ns q1 q2⟩⟩;rw[e0];rfl
   |fn=>cases he;exact absurd rfl ns
   |bl=>cases he;exact absurd rfl ns
 |@op a k u y ta tb ha t1 t2=>
  obtain⟨hk,g1,g2⟩:=gt;obtain⟨o1,o2,o3,o4,o5,o6⟩:=adi k hk;obtain⟨o7,o8,o9⟩:=v_op k hk;simp only[dep]at Dq;have Xr:=agq (dep ta) (dep tb);have Xu:=agl (dep ta) (dep tb);generalize max (dep ta) (dep tb)=Dm at Dq Xr Xu;unfold ev at he;cases e1:ev most S m d ta env c with
  |none=>rw[e1]at he;cases he
  |some rc=>
   obtain⟨r1,c1⟩:=rc;rw[e1]at he;refine tn6 rfl ha o1 o2 o3 o7 o4 o5 ?_;refine inF rfl ha o9 λpI hI=>?_;have sI:=bK hI (.tup [.str "block", .str "field", .str "case"]);refine(dN (a:=a) (j:=1) rfl (sI _ _ ha) rfl ⟨_,rfl,_,rfl,sub (t1.same sI) (wl.env (dh sI) en) (wl.same sI) (dh sI) vo g1 (by omega) e1 (by rintro rfl;cases he;exact ns rfl) (λw hw u' H3 vu w3 k3=>?_) λC hC ea H3 k3=>q2 C (by cases r1 with|val v=>cases hC|_=>cases he;exact hC) ea H3 k3⟩);subst hw;dsimp only at he;have ha3:=wl.tps k3 _ _ ha;have en3:lY H3 (Al N H H3) od env:=(wl.env k3 en).wide vo;cases e2:ev most S m d tb env c1 with
   |none=>rw[e2]at he;cases he
   |some rc2=>
    obtain⟨r2,c2⟩:=rc2;rw[e2]at he;refine(dN (a:=a) (j:=2) rfl ha3 rfl ⟨_,rfl,_,rfl,sub (t2.tps<|wl.tps k3) en3 w3 k3 (λb hb=>hb) g2 (by omega) e2 (by rintro rfl;cases he;exact ns rfl) (λw' hw' u2 H4 vu2 w4 k4=>?_) λC hC ea H4 k4=>q2 C (by cases r2 with|val v=>cases hC|_=>cases he;exact hC) ea H4 k4⟩);subst hw';have ha4:=wl.tps k4 _ _ ha;refine fX rfl ha4 o8 ?_;cases vu with
    |@num i hi=>cases vu2 with
     |@num j hj=>
      dsimp only at he;refine(dN (a:=a) (j:=0) rfl ha4 rfl ⟨_,rfl,_,rfl,k,i,j,rfl,hk,hi,hj,λz H5 s5=>?_,λz ea H5 s5=>?_⟩)
      ·rw[ahK z]at he
       cases he;have k5:=k4.trans (dh s5);refine q1 _ rfl _ _ (.num z) ((w4.same s5).Qn wl (λb hb=>?_) k5) k5;rcases hb with y|⟨y1,y2⟩
       ·exact .inl y
       ·refine .inr ⟨y1,?_⟩
        obtain⟨o,ho⟩:=Option.ne_none_iff_exists'.mp y2;rw[s5 b o ho];simp
      ·rw[ahL z]at he
       cases he;exact q2 CT rfl ea H5 (k4.trans<|dh s5)
     |fn=>cases he;exact absurd rfl ns
     |bl=>cases he;exact absurd rfl ns
    |fn=>cases vu2<;>(cases he;exact absurd rfl ns)
    |bl=>cases vu2<;>(cases he;exact absurd rfl ns)
 |@call a u y ta tb ha t1 t2=>
  obtain⟨g1,g2⟩:=gt;obtain⟨o1,o2,o3,o4,o5,o6⟩:=w_call;simp only[dep]at Dq;have Xr:=agq (dep ta) (dep tb);have Xu:=agl (dep ta) (dep tb);generalize max (dep ta) (dep tb)=Dm at Dq Xr Xu;unfold ev at he;cases e1:ev most S m d ta env c with
  |none=>rw[e1]at he;cases he
  |some rc=>
   obtain⟨r1,c1⟩:=rc;rw[e1]at he;refine tn6 rfl ha o1 o2 o3 v6 o4 o5 ?_;refine inF rfl ha i1w λpI hI=>?_;have sI:=bK hI (.tup [.str "block", .str "field", .str "case"]);refine(dN (a:=a) (j:=1) rfl (sI _ _ ha) rfl ⟨_,rfl,_,rfl,sub (t1.same sI) (wl.env (dh sI) en) (wl.same sI) (dh sI) vo g1 (by omega) e1 (by rintro rfl;cases he;exact ns rfl) (λw hw u' H3 vu w3 k3=>?_) λC hC ea H3 k3=>q2 C (by cases r1 with|val v=>cases hC|_=>cases he;exact hC) ea H3 k3⟩);subst hw;dsimp only at he;have ha3:=wl.tps k3 _ _ ha;have en3:lY H3 (Al N H H3) od env:=(wl.env k3 en).wide vo;cases e2:ev most S m d tb env c1 with
   |none=>rw[e2]at he;cases he
   |some rc2=>
    obtain⟨r2,c2⟩:=rc2;rw[e2]at he;refine(dN (a:=a) (j:=2) rfl ha3 rfl ⟨_,rfl,_,rfl,raw (t2.tps<|wl.tps k3) en3 w3 g2 (by omega) e2 (by rintro rfl;cases he;exact ns rfl) (λw' hw' u2 H4 vu2 w4 k4=>?_) λC hC ea H4 k4=>q2 C (by cases r2 with|val v=>cases hC|_=>cases he;exact hC) ea H4<|k3.trans k4⟩);subst hw';have k04:=k3.trans k4;have ha4:=wl.tps k04 _ _ ha;refine lE rfl ha4 λnx=>?_;cases hcv:u6 w with
    |none=>rw[hcv]at he;cases he;exact absurd rfl ns
    |some be=>
     obtain⟨body,jH⟩:=be;rw[hcv]at he;dsimp only at he;have vu4:sy (Al (Al N H H3) H3 H4) H4 u' w:=(w3.val k4 vu).wide λb hb=>.inl hb;have st:=Al.step (N:=N) (H:=H) (H1:=H3) (H2:=H4) (N1:=Al N H H3) (λb hb=>hb) k3 k4 wl.there w3.there;refine⟨_,rfl,_,rfl,_,rfl,u',u2,wd,ls,_,w,body,jH,w',c2,d,most,S,r,c',rfl,vu4,hcv,vu2,w4,he,ns,λw5 hw5 u5 H5 vu5 wl5 k5=>?_,λC hC ea H5 k5=>q2 C hC ea H5<|k04.trans k5⟩;have Ve:=Al.step (N:=N) (H:=H) (H1:=H4) (H2:=H5) st k04 k5 wl.there w4.there;exact q1 w5 hw5 u5 H5 (vu5.wide Ve) (wl5.Qn wl Ve<|k04.trans k5)<|k04.trans k5
 |@block a t k ts bs ha ht t1=>
  refine tn6 rfl ha z1w z2w z3w z6w z4w z5w ?_;refine abP rfl ha i2w λnx pI hI=>?_;have sI:=bK hI (.tup [.str "block", .str "field", .str "case"]);exact⟨_,rfl,_,rfl,_,rfl,_,od,wd,ls,N, .block k bs,env,c,d,most,S,r,c',rfl,trivial,iW.same sI<|.block ha ht t1,wl.env (dh sI) en,wl.same sI,gt,Dq,he,ns,λw hw u H' vu wu ku=>q1 w hw u H' (vu.wide<|Al.step vo (dh sI) ku wl.there (wl.same sI).there) (wu.Qn wl (Al.step vo (dh sI) ku wl.there (wl.same sI).there)<|(dh sI).trans ku)<|(dh sI).trans ku,λC hC ea H' ku=>q2 C hC ea H'<|(dh sI).trans ku⟩
 |@field a i u b ha t1=>
  refine tn6 rfl ha f1w f2w f3w f6w f4w f5w ?_;refine abP rfl ha i3w λnx pI hI=>?_;have sI:=bK hI (.tup [.str "block", .str "field", .str "case"]);exact⟨_,rfl,_,rfl,_,rfl,_,od,wd,ls,N, .field i b,env,c,d,most,S,r,c',rfl,trivial,iW.same sI<|.field ha t1,wl.env (dh sI) en,wl.same sI,gt,Dq,he,ns,λw hw u H' vu wu ku=>q1 w hw u H' (vu.wide<|Al.step vo (dh sI) ku wl.there (wl.same sI).there) (wu.Qn wl (Al.step vo (dh sI) ku wl.there (wl.same sI).there)<|(dh sI).trans ku)<|(dh sI).trans ku,λC hC ea H' ku=>q2 C hC ea H'<|(dh sI).trans ku⟩
 |@case a t x u b ms ts bs ha ht t1 t2=>
  refine tn6 rfl ha c1w c2w c3w c6w c4w c5w ?_;refine abP rfl ha i4w λnx pI hI=>?_;have sI:=bK hI (.tup [.str "block", .str "field", .str "case"]);exact⟨_,rfl,_,rfl,_,rfl,_,od,wd,ls,N, .case x b ms bs,env,c,d,most,S,r,c',rfl,trivial,iW.same sI<|.case ha ht t1 t2,wl.env (dh sI) en,wl.same sI,gt,Dq,he,ns,λw hw u H' vu wu ku=>q1 w hw u H' (vu.wide<|Al.step vo (dh sI) ku wl.there (wl.same sI).there) (wu.Qn wl (Al.step vo (dh sI) ku wl.there (wl.same sI).there)<|(dh sI).trans ku)<|(dh sI).trans ku,λC hC ea H' ku=>q2 C hC ea H'<|(dh sI).trans ku⟩
end
def nj (tl:List V)(H:Hp)(st:aj):Prop:=∃a b:Int,H st=some (.lst (.int a::.int b::tl))
def jk (tl:List V)(st:aj)(H H':Hp):Prop:=(∀b o,b≠st->H b=some o->H' b=some o)/\nj tl H' st
theorem jk.refl {tl:aP V}{st:aj}{H:Hp}(h:nj tl H st):jk tl st H H:=⟨λ_ _ _ e=>e,h⟩
theorem jk.trans {tl:aP V}{st:aj}{H H1 H2:Hp}(a:jk tl st H H1)(b:jk tl st H1 H2):jk tl st H H2:=⟨λc o hc e=>b.1 c o hc<|a.1 c o hc e,b.2⟩
theorem jk.ok {tl:aP V}{st:aj}{H H':Hp}(a:jk tl st H H'):nj tl H' st:=a.2
theorem nj.same {tl:aP V}{st:aj}{H H':Hp}(h:nj tl H st)(e:Same H H'):nj tl H' st:=by
 obtain⟨a,b,h3⟩:=h;exact⟨a,b,e _ _ h3⟩
theorem cQ {tl:aP V}{st:aj}{H H':Hp}(h:nj tl H st)(e:Same H H'):jk tl st H H':=⟨λb o _ q=>e b o q,h.same e⟩
theorem GK {tl:aP V}{st:aj}{H:Hp}{a b:Int}:jk tl st H (upd H st<|.lst (.int a::.int b::tl)):=⟨λc o hb e=>by rw[bV hb];exact e,a,b,bA⟩
inductive j7 (vs:List V)(H:Hp)(Q:VK)(E_:XK):Prop where
 |mk (tl:List V) (st:aj) (m:Int):vs=[.ref st, .int m]->nj tl H st->0<m->m<1000000->(∀(d:Int) H',0<=d->d<m->jk tl st H H'->Q (.int d) H')->j7 vs H Q E_
inductive Jw (K:aN)(vs:List V)(H:Hp)(Q:VK)(E_:XK):Prop where
 |mk (sc:aj) (ns:List Int) (k:Nat):vs=[.ref sc, .int (k:Int)]->dD K H sc (ns.map V.int)->(∀i:Int,Q (.int i) H)->Jw K vs H Q E_
section
abbrev Jx:aJ:=top 48
abbrev Jy:aJ:=top 50
theorem Xw:cu ["_law_script","_law_k"] ["_law_script","_law_k"] (bN Jx):={}
theorem Mj:cu ["_law_state","_law_many","_law_digit"] ["_law_state","_law_many"] (bN Jy):={}
theorem Xx (F:gY K "_law_cell_at" "_law_cell_at" Jx f fd)(ml:mg "len"=none):cX P w K mg aV jG 1 f fd ["_law_script","_law_k"] (Jw K):=by
 refine F.ok Xw λdJ A aU s H vs Q E hr h=>?_;obtain⟨sc,ns,k,rfl,hs,q⟩:=h;refine⟨_,bI (dB (cA wU (pv 1)<|cJ (kI K) rfl ml ahS (bx (pv 0) bG)) (bQ<|cO (cU rA (bZ (rE K) (pv 0)<|pv 1)<|cU HS bJ bJ)) cR)<|bQ (cO bJ),?_⟩;refine⟨_,rfl,_,rfl,sc,_,rfl, .inl hs,_,_,rfl,rfl,_,rfl,gO (λc=>?_) λc=>q 0⟩;have c1:(k:Int)<((ns.map V.int).length:Nat):=ahM c;rw[afL]at c1;have hk:k<ns.length:=by omega
 exact⟨_,rfl,_,rfl,sc,_,k, .int ns[k],rfl,rfl,hs,cg (j:=k) (by rw[afJ,afw hk];rfl),10,60,rfl,rfl,⟨by decide,by decide,by decide⟩,_,_,rfl,rfl,(by show(0:Int)<10^60;decide),q _⟩
theorem Xy (F:gY K "_law_next" "_law_next" Jy f fd):cX P w K mg aV jG 1 f fd ["_law_state","_law_many"] j7:=by
 refine F.ok Mj λdJ A aU s H vs Q E hr h=>?_;obtain⟨tl,st,m,rfl,hs,m0,m1,q⟩:=h;obtain⟨a,b,jY⟩:=id hs;refine⟨_,bI (dB (cA zJ (bZ (rE K) (pv 0) bJ) bJ)
   (bI (eU 2 Mj.nd<|cU rA (bZ (rE K) (pv 0) bJ) (pv 1))
   (bI (pR (cU Bp (bZ (rE K) (pv 0) bJ)<|pv 1)<|uy (pv 0) bJ set_list)
   (bQ<|cO (pv 2)))) cR)
  (bI (pR (cU rA (cU gJ (cU HJ (bZ (rE K) (pv 0) bJ) bJ) bJ) bJ)<|uy (pv 0) bJ set_list)
  (bQ<|cO (cU rA (cU Bp (bZ (rE K) (pv 0) bJ) bJ)<|pv 1))),?_⟩
 refine⟨_,rfl,st,_,0, .int a,rfl,rfl,dD.of jY,cg (j:=0) rfl,_,_,rfl,rfl,_,rfl,gO (λc=>?_) λc=>?_⟩
 ·refine⟨_,rfl,st,_,0, .int a,rfl,rfl,dD.of jY,cg (j:=0) rfl,_,rfl,a,m,rfl,rfl,m0,?_⟩
  refine⟨_,rfl,st,_,0, .int a,rfl,rfl,dD.of jY,cg (j:=0) rfl,_,rfl,a,m,rfl,rfl,⟨m0,by omega⟩,?_⟩;refine⟨_,rfl,st,_,0,0,rfl,rfl,jY,qO (by simp),?_⟩;exact⟨_,rfl,q _ _ (Int.emod_nonneg _<|by omega) (Int.emod_lt_of_pos _ m0)<|GK (a:=a / m) (b:=b)⟩
 ·refine⟨_,rfl,st,_,1, .int b,rfl,rfl,dD.of jY,cg (j:=1) rfl,_,_,rfl,rfl, .inr ⟨by decide,by decide⟩,_,_,rfl,rfl,_,_,rfl,rfl,(by show(0:Int)<2305843009213693951;decide),?_⟩
  refine⟨_,rfl,st,_,1,1,rfl,rfl,jY,qO (by simp),?_⟩;refine⟨_,rfl,st,_,1,_,rfl,rfl,dD.of bA,cg (j:=1) rfl,_,_,rfl,rfl,⟨by decide,by decide⟩,_,rfl,_,m,rfl,rfl,m0,?_⟩;exact q _ _ (Int.emod_nonneg _<|by omega) (Int.emod_lt_of_pos _ m0)<|GK (a:=a) (b:=_)
end
inductive wF (K:aN)(vs:List V)(H:Hp)(Q:VK)(E_:XK):Prop where
 |mk (sc:aj) (ns:List Int) (k s:Nat):vs=[.ref sc, .int (k:Int), .int (s:Int)]->dD K H sc (ns.map V.int)->k<=1000->s<=1000->(∀(st:aj) H',H st=none->nj [] H' st->Same H H'->Q (.ref st) H')->wF K vs H Q E_
section
abbrev Dr:aJ:=top 49
theorem yF:cu ["_law_script","_law_k","_law_salt","_law_cell","_law_mixed"] ["_law_script","_law_k","_law_salt"] (bN Dr):={}
theorem TY (F:gY K "_law_drawn" "_law_drawn" Dr f fd)(mI:mg "int"=none)(h1:Has P w K mg aV 1 "_law_cell_at" ["_law_script","_law_k"] (Jw K)):cX P w K mg aV jG 2 f fd ["_law_script","_law_k","_law_salt"] (wF K):=by
 refine F.ok yF λdJ A aU s H vs Q E hr h=>?_;obtain⟨sc,ns,k,s',rfl,hs,k1,s1,q⟩:=h;refine⟨_,bI (eU 3 yF.nd (cP h1 hr (by decide) rfl (bx (pv 0)<|bx (pv 1) bG)))
  (bI (eU 4 yF.nd<|cU rA (cU gJ (cU gJ (cU HJ (pv 3) bJ)<|cU HJ bJ (cU gJ (pv 1)<|pv 2)) bJ) bJ)
  (bI (dB (cA eV (cU rA (cP h1 hr (by decide) rfl (bx (pv 0)<|bx bJ bG)) bJ) bJ)
   (bQ<|cO (dO<|bx (cU Bp (pv 3)<|cU gJ bJ (cZ lN rfl mI boot_int (bx (qG eV (pv 1) bJ) bG))) (bx (pv 4) bG))) cR)
  (bQ<|cO (dO<|bx bJ (bx (pv 4) bG))))),?_⟩
 refine⟨_,rfl,_,rfl,sc,ns,k,rfl,hs,λc=>?_⟩;refine⟨_,rfl,_,_,rfl,rfl, .inr ⟨by decide,by decide⟩,_,rfl,_,rfl,_,_,rfl,rfl,_,_,rfl,rfl, .inl ⟨by decide,by decide⟩,_,_,rfl,rfl,_,_,rfl,rfl,_,_,rfl,rfl,(by show(0:Int)<2305843009213693951;decide),?_⟩;refine⟨_,rfl,sc,ns,0,rfl,hs,λc0=>⟨_,_,rfl,rfl,(by show(0:Int)<2;decide),rfl,_,rfl,gO (λz=>?_) λz=>?_⟩⟩
 ·refine⟨_,rfl,_,rfl,rfl, .inr ⟨_,rfl,_,_,rfl,rfl,_,_,rfl,rfl,?_,_,rfl,(fH 2),λst jY=>q st _ jY ⟨_,_,bA⟩<|bK jY _⟩⟩
  split<;>exact⟨by decide,by decide⟩
 ·exact⟨_,rfl,(fH 2),λst jY=>q st _ jY ⟨_,_,bA⟩<|bK jY _⟩
end
structure adw (mg:Str->Option ak)(CS CT CL CD A1 A2 A3 A4:aj):Prop where
 iS:mg "Stuck"=some (.ref CS)
 iT:mg "TooGreat"=some (.ref CT)
 iL:mg "TooLong"=some (.ref CL)
 iD:mg "TooDeep"=some (.ref CD)
 i1:mg "NoText"=some (.ref A1)
 i2:mg "NoKind"=some (.ref A2)
 i3:mg "NoFace"=some (.ref A3)
 i4:mg "NoTie"=some (.ref A4)
 iV:mg "ValueError"=none
 iI:mg "isinstance"=none
structure Xz (K:aN)(C CS CT CL CD A1 A2 A3 A4:aj)(bT bL bD:Bool):Prop where
 s:oZ K C
 kS:kitOne K (.ref C) (.ref CS)=some false
 kT:kitOne K (.ref C) (.ref CT)=some bT
 kL:kitOne K (.ref C) (.ref CL)=some bL
 kD:kitOne K (.ref C) (.ref CD)=some bD
 kV:kitOne K (.ref C) (.type "ValueError")=some true
 kN:kitAny K (.ref C) ([A1,A2,A3,A4].map Value.ref)=some false
inductive qQ (CT CL CD:aj)(vs:List V)(H:Hp)(Q:VK)(E_:XK):Prop where
 |mk (ea:aj) (ob:Obj) (C:aj) (nm:Str):vs=[.ref ea]->H ea=some (pZ ea ob)->ob.cls=.ref C->((C=CT/\nm="TooGreat")\/(C=CL/\nm="TooLong")\/(C=CD/\nm="TooDeep"))->(∀H',Same H H'->Q (.str nm) H')->qQ CT CL CD vs H Q E_
section
variable {CT CS CL CD A1 A2 A3 A4:aj}
abbrev Ds:aJ:=top 59
theorem ud:cu ["_law_e","_law_words","_law_marks"] ["_law_e"] (bN Ds):={}
theorem XD:bootBuiltins "ValueError"=some (.type "ValueError"):=by decide+kernel
set_option maxHeartbeats 3000000 in
theorem T3 (F:gY K "_law_class" "_law_class" Ds f fd)(G:adw mg CS CT CL CD A1 A2 A3 A4)(ZT:Xz K CT CS CT CL CD A1 A2 A3 A4 true false false)(ZL:Xz K CL CS CT CL CD A1 A2 A3 A4 false true false)(ZD:Xz K CD CS CT CL CD A1 A2 A3 A4 false false true):
  Fv P w K mg aV 1 f fd ["_law_e"] (qQ CT CL CD):=by
 refine F.okM ud λdJ A aU s H vs Q E hr h=>?_;obtain⟨ea,ob,C,nm,rfl,he,hc,cs,q⟩:=h;refine⟨_,bI (eU 1 ud.nd<|dO (bx bU bG))
  (bI (eU 2 ud.nd (dO (bx (cJ qK rfl G.iI boot_isinstance (bx (pv 0)<|bx (jD (v:=.ref CS) rfl G.iS rfl) bG))
   (bx (cJ qK rfl G.iI boot_isinstance (bx (pv 0)<|bx (jD (v:=.ref CT) rfl G.iT rfl) bG))
   (bx (cJ qK rfl G.iI boot_isinstance (bx (pv 0)<|bx (jD (v:=.ref CL) rfl G.iL rfl) bG))
   (bx (cJ qK rfl G.iI boot_isinstance (bx (pv 0)<|bx (jD (v:=.ref CD) rfl G.iD rfl) bG)) bG))))))
  (bI (dB (PW.pt (uw (cA eV (wW af' ahD PySem.F.type_list_count Oz (pv 2)<|bx J4 bG) bJ)
    (uw (pP<|cJ NT rfl G.iI boot_isinstance (bx (pv 0)<|bx (oM (v:=.ty "ValueError") rfl G.iV XD rfl) bG))
    (vQ<|ux (pP<|cJ NZ rfl G.iI boot_isinstance (bx (pv 0)<|bx (cV<|bx (jD (v:=.ref A1) rfl G.i1 rfl) (bx (jD (v:=.ref A2) rfl G.i2 rfl)<|bx (jD (v:=.ref A3) rfl G.i3 rfl) (bx (jD (v:=.ref A4) rfl G.i4 rfl) bG))) bG))))))
   (bQ<|eU 1 ud.nd (dO<|bx (bZ (rE K) (dO<|bx bU (bx bU<|bx bU (bx bU bG)))<|wW af' agA ag4 OJ (pv 2) (bx J4 bG)) bG)) cR)
  (bQ<|cO (bZ (rE K) (pv 1) bJ)))),?_⟩
 obtain⟨bT,bL,bD,n,Z,ae2,hix,jf,hnm⟩:∃(bT bL bD:Bool) (n:Nat),Xz K C CS CT CL CD A1 A2 A3 A4 bT bL bD/\V.int (([false,bT,bL,bD]:aP Bool).count true:Int)=V.int 1/\([false,bT,bL,bD]:aP Bool)[n]?=some true/\(∀m,m<n->([false,bT,bL,bD]:aP Bool)[m]?=some (!true))/\([V.str "Stuck",V.str "TooGreat",V.str "TooLong",V.str "TooDeep"]:aP V)[n]?=some (.str nm):=by
  rcases cs with ⟨rfl,rfl⟩|⟨rfl,rfl⟩|⟨rfl,rfl⟩
  ·exact⟨true,false,false,1,ZT,rfl,rfl,(λm hm=>match m,hm with|0,_=>rfl),rfl⟩
  ·exact⟨false,true,false,2,ZL,rfl,rfl,(λm hm=>match m,hm with|0,_=>rfl|1,_=>rfl),rfl⟩
  ·exact⟨false,false,true,3,ZD,rfl,rfl,(λm hm=>match m,hm with|0,_=>rfl|1,_=>rfl|2,_=>rfl),rfl⟩
 refine⟨(fH 1),λl1 h1=>?_⟩;have e1:=bK h1 (.lst [.str "no"]);have c1:(upd H l1<|.lst [.str "no"]) l1=some (.lst [.str "no"]):=bA;revert e1 c1;generalize upd H l1 (.lst [.str "no"])=H1;intro e1 c1;have he1:=e1 _ _ he;refine⟨_,rfl,ea,ob,C,CS,_,rfl,he1,hc,Z.s,Z.kS,_,rfl,ea,ob,C,CT,_,rfl,he1,hc,Z.s,Z.kT,_,rfl,ea,ob,C,CL,_,rfl,he1,hc,Z.s,Z.kL,_,rfl,ea,ob,C,CD,_,rfl,he1,hc,Z.s,Z.kD,(fH 4),λl2 h2=>?_⟩;have e2:=bK h2 (.lst [.bl false, .bl bT, .bl bL, .bl bD]);have c2:(upd H1 l2<|.lst [.bl false, .bl bT, .bl bL, .bl bD]) l2=some (.lst ([false,bT,bL,bD].map V.bl)):=bA;revert e2 c2;generalize upd H1 l2 (.lst [.bl false, .bl bT, .bl bL, .bl bD])=H2;intro e2 c2;have he2:=e2 _ _ he1;refine⟨_,rfl, .inl ⟨rfl,_,dD.of c2⟩,l2,[false,bT,bL,bD],true,rfl,rfl,c2,rfl,_,rfl,gO (λ_=>⟨_,rfl,ea,ob,C,_,_,rfl,he2,hc,Z.s,Z.kV,true,rfl,uH ⟨_,rfl,(fH 4),λtp htp=>?_⟩⟩) λz=>absurd (ahN ae2) z⟩;have e3:=bK htp (.tup [.ref A1, .ref A2, .ref A3, .ref A4]);have c3:(upd H2 tp<|.tup [.ref A1, .ref A2, .ref A3, .ref A4]) tp=some (.tup ([A1,A2,A3,A4].map V.ref)):=bA;revert e3 c3;generalize upd H2 tp (.tup [.ref A1, .ref A2, .ref A3, .ref A4])=H3;intro e3 c3;refine⟨ea,ob,C,tp,[A1,A2,A3,A4],_,rfl,e3 _ _ he2,hc,Z.s,c3,Z.kN,false,rfl,uH ⟨(fH 4),λl3 h3=>?_⟩⟩;have e4:=bK h3 (.lst [.str "Stuck", .str "TooGreat", .str "TooLong", .str "TooDeep"]);have c4:(upd H3 l3<|.lst [.str "Stuck", .str "TooGreat", .str "TooLong", .str "TooDeep"]) l3=some (.lst [.str "Stuck", .str "TooGreat", .str "TooLong", .str "TooDeep"]):=bA;revert e4 c4;generalize upd H3 l3 (.lst [.str "Stuck", .str "TooGreat", .str "TooLong", .str "TooDeep"])=H4;intro e4 c4;have c24:=e4 _ _ (e3 _ _ c2);refine⟨_,rfl, .inl ⟨rfl,_,dD.of c24⟩,l2,[false,bT,bL,bD],true,n,rfl,rfl,c24,hix,jf,l3,_,(n:Int), .str nm,rfl,rfl,dD.of c4,cg (j:=n) hnm,(fH 1),λl5 h5=>?_⟩;have e5:=bK h5 (.lst [.str nm]);refine⟨_,rfl,l5,_,0, .str nm,rfl,rfl,dD.of bA,cg (j:=0) rfl,q _ ?_⟩;exact Same.trans e1<|Same.trans e2 (Same.trans e3<|Same.trans e4 e5)
end
def ae3:TS:=λD U H=>∃i:Int,U[2]?=some (some<|V.int i)/\D.nx U H
noncomputable def outV:Out->V
 |.num n=>.int n
 |.great=>.str "TooGreat"
 |.long=>.str "TooLong"
 |.deep=>.str "TooDeep"
 |.stuck=>.str "Stuck"
inductive wG (vs:List V)(H:Hp)(Q:VK)(E_:XK):Prop where
 |mk (c:aj) (mv:V) (most:Int) (jr:List V) (aY:List Rw) (out:Out) (n:Nat):vs=[.ref c,mv]->mv=.int most->H c=some (.tup jr)->uZ H jr aY->xV most aY n A0=some out->out≠.stuck->(∀H',Same H H'->Q (outV out) H')->wG vs H Q E_
section
variable {CT CX CS CL CD A1 A2 A3 A4:aj}
abbrev yG:aJ:=top 72
noncomputable abbrev T4:List Str:=["_law_code_here","_law_most","_law_told_here","_law_e"]
theorem wH:cu T4 ["_law_code_here","_law_most"] (bN yG):={}
theorem XF {H H':Hp}{ea:aj}{oe:Obj}(n:H ea=none)(s:Same (upd H ea<|pZ ea oe) H'):Same H (del H' ea):=λb o h=>by
 have nb:b≠ea:=λz=>by rw[z,n]at h;cases h
 rw[qd nb];exact s b o (by rw[bV nb];exact h)
def flown (CT CL CD:aj)(Cv:ak)(out:Out):Prop:=(Cv=.ref CT/\out=.great)\/(Cv=.ref CL/\out=.long)\/(Cv=.ref CD/\out=.deep)
set_option maxHeartbeats 1000000 in
theorem XH {fD fC:aj}{gD gC:FuncData}(F:gY K "_law_told" "_law_told" yG f fd)(mi:mg "isinstance"=none)(mI:mg "int"=none)(mB:mg "bool"=none)(mF:mg "FaceError"=some (.ref CX))(adx:mH aV CT CX)(ZS:mH aV CL CX)(ZV:mH aV CD CX)
  (GD:cX P w K mg aV (gw P w) 5 fD gD ["code","most"] (Ji CT CL CD)) (mD:mg "done"=some (.ref fD)) (kD:keepIn K (.ref fD)=true) (bD:Binds K gD ["code","most"] [])
  (GC:Fv P w K mg aV 1 fC gC ["_law_e"] (qQ CT CL CD)) (mC:mg "_law_class"=some (.ref fC)) (kC:keepIn K (.ref fC)=true) (bC:Binds K gC ["_law_e"] []):
  cX P w K mg aV jG 6 f fd ["_law_code_here","_law_most"] wG:=by
 refine F.ok wH λdJ A aU s H vs Q E hr h=>?_;obtain⟨c,mv,most,jr,aY,out,n,rfl,hmv,hc,cd,ex,yU,q⟩:=h;refine⟨_,bI (KR (X:=(dX jG P w K mg aV T4 "_law_told" (bN yG) f dJ A aU s H E).HB) (i:=3) (D:=CX) (EX:=λU Cv _ H'=>flown CT CL CD Cv out/\U=[some (.ref c),some mv,none,none]/\Same H H')
   (ts:=λea C D U H1=>∀oe:Obj,oe.cls=.ref C->vH (Io ea oe (qQ CT CL CD)<|ig (pL 3) sO) (jy 2) D U H1) rfl rfl rfl wH.nd rfl rfl rfl mF
   (λU C ea H' hE=>by
    obtain⟨z,_⟩:=hE;rcases z with ⟨z,_⟩|⟨z,_⟩|⟨z,_⟩<;>cases z<;>assumption)
   (λbH=>bI (eU 2 wH.nd<|uL (X:=(dX jG P w K mg aV T4 "_law_told" (bN yG) f dJ A aU s H E).HB) rfl rfl rfl GD bD kD mD hr rfl (bx (pv 0)<|bx (pv 1) bG))
    (O1 (t':=ae3) (bQ (dB (PW.pt<|Ka (ux<|pP (cJ nO rfl mi boot_isinstance (bx (pv 2)<|bx (oM (v:=.ty "int") rfl mI boot_int rfl) bG))) (Hz<|pP (cJ nO rfl mi boot_isinstance (bx (pv 2)<|bx (oM (v:=.ty "bool") rfl mB xH rfl) bG))))
     (bQ iB) cR)) λD U H1 ⟨i,hσ,qi⟩=>⟨_,hσ,_,_,_,_,rfl, .int i,K8 K,true,rfl,vJ ⟨_,hσ,_,_,_,_,rfl, .int i,Ga K,false,rfl,vJ qi⟩⟩))
   (λea C oe bH hp hoc nb=>O1 (bQ (eU 2 wH.nd (Fx (ea:=ea) (oe:=oe) GC bC kC mC (gK.marked (hr.mono<|by decide)) rfl (afI _ hp) nb (bx (pv 3) bG)))) λD U H1 hh=>hh oe hoc))
  (bQ<|cO (pv 2)),?_⟩
 subst hmv;refine⟨?_,?_⟩
 ·refine⟨_,rfl,_,rfl,c,most,jr,aY,out,n,rfl,hc,cd,ex,yU,λi hn H' s'=>⟨i,rfl,_,rfl,?_⟩,λhn ea H' s'=>⟨.inr<|.inl ⟨rfl,hn⟩,rfl,s'⟩,λhn ea H' s'=>⟨.inr<|.inr ⟨rfl,hn⟩,rfl,s'⟩,λhn ea H' s'=>⟨.inl ⟨rfl,hn⟩,rfl,s'⟩⟩
  subst hn;exact q H' s'
 ·rintro U' C ea H' ⟨hC,rfl,s'⟩ BL oe hoc
  rcases hC with ⟨z,rfl⟩|⟨z,rfl⟩|⟨z,rfl⟩
  ·cases z
   exact⟨_,rfl,λn1=>⟨ea,oe,_,_,rfl,bA,hoc, .inl ⟨rfl,rfl⟩,λH2 s2=>⟨s2 _ _ bA,_,rfl,q _<|Same.trans s' (XF BL s2)⟩⟩⟩
  ·cases z
   exact⟨_,rfl,λn1=>⟨ea,oe,_,_,rfl,bA,hoc, .inr<|.inl ⟨rfl,rfl⟩,λH2 s2=>⟨s2 _ _ bA,_,rfl,q _<|Same.trans s' (XF BL s2)⟩⟩⟩
  ·cases z
   exact⟨_,rfl,λn1=>⟨ea,oe,_,_,rfl,bA,hoc, .inr<|.inr ⟨rfl,rfl⟩,λH2 s2=>⟨s2 _ _ bA,_,rfl,q _<|Same.trans s' (XF BL s2)⟩⟩⟩
end
noncomputable def wL (m:Int)(ls:aj):List (Key×V):=[(Sum.inr "calls", .int 0),(Sum.inr "deep", .int 0),(Sum.inr "most", .int m),(Sum.inr "shared", .ref ls)]
theorem abQ (a b c d:V):jR [] ([(Sum.inr "calls",a),(Sum.inr "deep",b),(Sum.inr "most",c),(Sum.inr "shared",d)]:aP (Key×V))=([(Sum.inr "calls",a),(Sum.inr "deep",b),(Sum.inr "most",c),(Sum.inr "shared",d)]:aP (Key×V)):=by
 obtain⟨h1,h2,h3,h4,h5,h6⟩:=wC;simp only[jR,putK,ahd,ahH,List.any_nil,agI,agt,if_false,agQ,agi,ahJ<|ne4 h1,ahJ<|ne4 h2,ahJ<|ne4 h3,ahJ<|ne4 h4,ahJ<|ne4 h5,ahJ<|ne4 h6,ahJ<|ne4 (ahO h1),ahJ<|ne4 (ahO h2),ahJ<|ne4 (ahO h3),ahJ<|ne4 (ahO h4),ahJ<|ne4 (ahO h5),ahJ<|ne4 (ahO h6),aha,ahl]
theorem XJ (m:Int)(ls:aj):eO (wL m ls) (Sum.inr "calls")=some (.int 0)/\eO (wL m ls) (Sum.inr "deep")=some (.int 0)/\eO (wL m ls) (Sum.inr "most")=some (.int m)/\eO (wL m ls) (Sum.inr "shared")=some (.ref ls):=by
 obtain⟨h1,h2,h3,h4,h5,h6⟩:=wC;refine⟨?_,?_,?_,?_⟩<;>simp[eO,wL,af8,h1,h2,h3,h4,h5,h6,ahO h1,ahO h2,ahO h3,ahO h4,ahO h5,ahO h6]
inductive Ml (vs:List V)(H:Hp)(Q:VK)(E_:XK):Prop where
 |mk (lv:aj) (v:V) (most:Int) (tY:List V) (us:List Tm) (t:Tm) (r:Rs) (c':Nat):vs=[.ref lv,v, .int most]->H lv=some (.lst tY)->ni (iW H) tY us->(∀u∈us,Own u)->us.length<=20->iW H v t->Own t->rz most 111 us t [] 0=some (r,c')->r≠.stuck->(∀w,r=.val w->∃i,w=.num i)->(∀H',Same H H'->Q (outV<|yp r) H')->Ml vs H Q E_
def T5 (CT iG iH lv:aj)(v:V)(most:Int)(H:Hp)(r:Rs):L2.St->XK:=λU Cv _ H'=>(∃C,Cv=.ref C/\Ju CT iG iH r=some C)/\(∃(wd:aj) (o4:Option V),U=[some (.ref lv),some v,some<|.int most,some<|.ref wd,o4,none,none])/\Same H H'
theorem kO.share {N:aj->Prop}{wd ls:aj}{H:Hp}{c d:Nat}{most:Int}{S:aP Vl}(w:kO H N wd ls c d most S){pK:aP V}(h:H ls=some (.lst pK)){u:V}{x:Vl}(hv:sy N H u x):kO (upd H ls<|.lst (pK++[u])) N wd ls c d most (S++[x]):=by
 obtain⟨cI,h1,g⟩:=w.dk;obtain⟨afp,h2,r2⟩:=w.sh;rw[h]at h2;cases h2;have tp:yV H (upd H ls<|.lst (pK++[u])):=λb ys e=>by rw[bV (iY e h<|by intro z;cases z)];exact e
 have kd:∀b o,N b->H b=some o->N b/\(upd H ls<|.lst (pK++[u])) b=some o:=λb o n e=>⟨n,by rw[bV (λz=>w.nl<|by rw[<-z];exact n)];exact e⟩;exact⟨⟨cI,by rw[bV (ahO w.ne)];exact h1,g⟩,⟨_,bA,(r2.snoc hv).mono tp kd⟩,w.ne,w.nw,w.nl,Jt w.ex⟩
theorem Mp {H:Hp}{N:aj->Prop}{d:aj}(h:H d=some (.dK []))(n:N d):lY H N d []:=⟨[],[],h,n,afv _,λj _=>by simp[eO], .nil⟩
section
variable {CT iG iH CX:aj}
abbrev oG:aJ:=top 64
noncomputable abbrev abR:List Str:=["_law_vals_here","_law_term","_law_most","_law_world","_law_one","_law_told_here","_law_e"]
theorem uQ:cu abR ["_law_vals_here","_law_term","_law_most"] (bN oG):={}
@[irreducible] noncomputable def XM:aJ:=(cY oG).getD 0 (.Pass ⟨0,0,0,0⟩)
def ady:List aJ:=(cY oG).drop 1
theorem adz:cY oG=XM::ady:=by
 unfold XM
 rfl
theorem adA:Loc (bN oG) "_law_world":=Or.inl rfl
def tD0:TS:=λD U H=>∃(lv:aj) (v:V) (most:Int),U=[some (.ref lv),some v,some<|.int most,none,none,none,none]/\
 ∀(wd ls:aj) H3,Same H H3->kO H3 (λ_=>False) wd ls 0 0 most []->H wd=none->H ls=none->D.nx [some (.ref lv),some v,some<|.int most,some<|.ref wd,none,none,none] H3
abbrev DX (P:aA)(w:aG)(K:aN)(mg:Str->Option ak)(aV:aK)(f:aj)(dJ:ak)(A:aq)(aU:List Env)(s:ao)(H:Hp)(E:XK):Cx:=(dX jG P w K mg aV abR "_law_due" (bN oG) f dJ A aU s H E).HB
theorem XQ {dJ:ak}{A:aq}{aU:aP Env}{s:ao}{H:Hp}{E:XK}:Ir (DX P w K mg aV f dJ A aU s H E) XM tD0:=by
 unfold XM;refine uM (zV (i:=3) (x:="_law_world") uQ.nd rfl adA (RD (pA ac2<|pA ac2 (pA (Ru 2)<|pA (uY kj) RB)) rfl rfl (by simp) (by decide)) xu (.inl rfl)) ?_;rintro D U H ⟨lv,v,most,rfl,q⟩;refine λwd wD=>?_;refine⟨_,rfl,(fH 0),λuo Jz=>?_⟩;have nls:uo≠wd:=λe=>by rw[e,bA]at Jz;cases Jz
 have ZX:H uo=none:=(bK wD<|.dK []).free Jz;refine⟨by rw[bV (ahO nls)];exact bA,wL most uo,rfl,(by show 4<=15;decide),?_⟩;rw[show jR [] (wL most uo)=wL most uo from abQ _ _ _ _];have hw1:(upd (upd (upd H wd<|.dK []) uo<|.lst []) wd<|.dK (wL most uo)) wd=some (.dK<|wL most uo):=bA;have hl1:(upd (upd (upd H wd<|.dK []) uo<|.lst []) wd<|.dK (wL most uo)) uo=some (.lst []):=by rw[bV nls];exact bA
 have s1:Same H (upd (upd (upd H wd<|.dK []) uo<|.lst []) wd<|.dK (wL most uo)):=λb o h=>by
  rw[bV (bY h wD),bV<|bY h ZX,bV (bY h wD)];exact h
 obtain⟨g1,g2,g3,g4⟩:=XJ most uo;exact q wd uo _ s1 ⟨⟨_,hw1,(by show 4<=10;decide),g1,g2,g3,g4⟩,⟨[],hl1, .nil⟩,nls,λz=>z,λz=>z,λb z=>z.elim⟩ wD ZX
@[irreducible] noncomputable def afq:aJ:=(cY oG).getD 1 (.Pass ⟨0,0,0,0⟩)
def adB:List aJ:=match(cY oG).getD 1 (.Pass ⟨0,0,0,0⟩) with|.Try b _ _ _ _=>b|_=>[]
def DI (H:Hp)(lv:aj)(v:V)(most:Int)(us:List Tm)(t:Tm)(r:Rs)(c':Nat)(i:Nat)(U:L2.St)(H':Hp):Prop:=∃(wd ls:aj) (N:aj->Prop) (o4:Option V) (S:List Vl) (c:Nat),U=[some (.ref lv),some v,some<|.int most,some<|.ref wd,o4,none,none]/\Same H H'/\H wd=none/\H ls=none/\kO H' N wd ls c 0 most S/\S.length=i/\rz most 111 (us.drop i) t S c=some (r,c')
def adC (H:Hp)(lv:aj)(v:V)(most:Int)(us:List Tm)(t:Tm)(r:Rs)(c':Nat):TS:=λD U H1=>DI H lv v most us t r c' 0 U H1/\∀U' H2,DI H lv v most us t r c' us.length U' H2->D.nx U' H2
def adD (H:Hp)(lv:aj)(v:V)(most:Int)(us:List Tm)(t:Tm)(r:Rs)(c':Nat):TS:=λD U H1=>DI H lv v most us t r c' us.length U H1/\∀(wd:aj) (o4:Option V) (i:Int) H2,r=.val (.num i)->Same H H2->D.nx [some (.ref lv),some v,some<|.int most,some<|.ref wd,o4,some<|.int i,none] H2
section
variable {dJ:ak}{A:aq}{aU:List Env}{s:ao}{H H0:Hp}{E:XK}{lv fW:aj}{gW:FuncData}{v:V}{most:Int}{tY:List V}{us:List Tm}{t:Tm}{r:Rs}{c':Nat}
set_option maxHeartbeats 2000000 in
theorem XR (bH:List (aj×Obj))(hr:gK 223 (A.deeper<|envOfC "_law_due" (bN oG) s.heap.objs.size f dJ))
  (GW:cX P w K mg aV (gw P w) 223 fW gW zy (Pk CT iG iH 111)) (mW:mg "_law_worked"=some (.ref fW)) (kW:keepIn K (.ref fW)=true) (bW:Binds K gW zy [])
  (Mg:H lv=some (.lst tY)) (au:ni (iW H) tY us) (hus:∀u∈us,Own u) (l20:us.length<=20) (ns:r≠.stuck):
  PS (jz (DX P w K mg aV f dJ A aU s H0 E) bH<|LT (DX P w K mg aV f dJ A aU s H0 E) bH (T5 CT iG iH lv v most H r)) (adB.getD 0<|.Pass ⟨0,0,0,0⟩) (adC H lv v most us t r c'):=by
 have hu:=pX hr;refine psW (V8 rfl (piL K<|pv 0) (dF (i:=4) uQ.nd rfl (Or.inl rfl)) (bQ<|cD (jd K (cT hu (pv 3) bU)<|bx (uL (X:=DX P w K mg aV f dJ A aU s H0 E) rfl rfl rfl GW bW kW mW hr rfl (bx (pv 4)<|bx FW (bx (pv 3) bG))) bG))) ?_;rintro D U H1 ⟨hd0,hnx⟩;have lus:=au.1;rw[<-lus]at hnx;have hσ:U[0]?=some (some<|.ref lv)/\Same H H1:=by
  obtain⟨wd,ls,N,o4,S,c,rfl,s1,_⟩:=hd0;exact⟨rfl,s1⟩
 refine⟨_,hσ.1,lv,rfl,⟨_,dD.of<|hσ.2 _ _ Mg⟩,?_⟩;refine wR (xs:=tY) (DI H lv v most us t r c') hd0 ?_ ?_ hnx
 ·rintro i U H' _ ⟨wd,ls,N,o4,S,c,rfl,s1,_⟩
  exact dD.of<|s1 _ _ Mg
 ·rintro i x U H2 hx ⟨wd,ls,N,o4,S,c,rfl,s2,Pq,abS,wl,lS,he⟩
  have li:i<us.length:=by rw[<-lus];exact(ahW hx).1
  obtain⟨x',hx',tx⟩:=au.2 i us[i] (afw li);rw[hx]at hx';cases hx';have oi:=hus us[i] (agx li);rw[af3 li]at he;unfold rz at he;obtain⟨cI,wD,lk,g1,g2,g3,g4⟩:=wl.dk;obtain⟨pK,hls,vs⟩:=wl.sh;cases e1:ev most S 111 0 us[i] [] c with
  |none=>rw[e1]at he;cases he
  |some rc=>
   obtain⟨r1,c1⟩:=rc;rw[e1]at he;refine(dU rfl wD g4 ⟨.inl ⟨rfl,_,dD.of hls⟩,_,rfl,λdd hdd=>?_⟩);have s3:=bK hdd (.dK []);have GJ:(upd H2 dd<|.dK []) dd=some (.dK []):=bA;have Ec:dd≠wd:=cH hdd wD;have w3:kO (upd H2 dd<|.dK []) (λb=>N b\/b=dd) wd ls c 0 most S:=(wl.same s3).wide (λb hb=>.inl hb) (λz=>z.elim wl.nw λe=>Ec e.symm) (λz=>z.elim wl.nl λe=>cH hdd wl.sh.choose_spec.1 e.symm) (λb hb=>by
    rcases hb with z|z
    ·exact(wl.same s3).ex b z
    ·subst z;rw[bA];simp)
   refine⟨_,rfl,x,dd,wd,ls,_,us[i],[],c,0,most,S,r1,c1,rfl,(tx.same s2).same s3,Mp GJ<|.inr rfl,w3,oi.1,by have:=oi.2;simp;omega,e1,(by rintro rfl;cases he;exact ns rfl),λw hw u H4 vu w4 k4=>?_,λC hC ea H4 k4=>?_⟩
   ·subst hw
    dsimp only at he;obtain⟨ae4,adE,vs4⟩:=w4.sh;have l4:=vs4.len;refine⟨ls,ae4,u,rfl,rfl,adE,cW (by omega),?_⟩;have w5:=w4.share adE vu;refine⟨wd,ls,_,_,S++[w],c1,rfl,λb o h=>?_,Pq,abS,w5,by rw[afu,lS];rfl,he⟩;rw[bV (bY h abS)];exact k4 b o (bY h Pq)<|s3 b o (s2 b o h)
   ·have er:r=r1:=by cases r1 with|val v=>cases hC|_=>cases he;rfl
    subst er;exact⟨⟨C,rfl,hC⟩,⟨wd,_,rfl⟩,λb o h=>k4 b o (bY h Pq)<|s3 b o (s2 b o h)⟩
set_option maxHeartbeats 2000000 in
theorem XS (bH:aP (aj×Obj))(hr:gK 223 (A.deeper<|envOfC "_law_due" (bN oG) s.heap.objs.size f dJ))
  (GW:cX P w K mg aV (gw P w) 223 fW gW zy (Pk CT iG iH 111)) (mW:mg "_law_worked"=some (.ref fW)) (kW:keepIn K (.ref fW)=true) (bW:Binds K gW zy [])
  (tl:iW H v t) (ot:Own t) (hv:∀w,r=.val w->∃i,w=.num i) (ns:r≠.stuck):
  PS (jz (DX P w K mg aV f dJ A aU s H0 E) bH<|LT (DX P w K mg aV f dJ A aU s H0 E) bH (T5 CT iG iH lv v most H r)) (adB.getD 1<|.Pass ⟨0,0,0,0⟩) (adD H lv v most us t r c'):=by
 refine psW (eU 5 uQ.nd<|uL rfl rfl rfl GW bW kW mW hr rfl (bx (pv 1)<|bx FW (bx (pv 3) bG))) ?_;rintro D U H2 ⟨⟨wd,ls,N,o4,S,c,rfl,s2,Pq,abS,wl,lS,he⟩,hnx⟩;rw[agW]at he;unfold rz at he;obtain⟨cI,wD,_⟩:=wl.dk;refine⟨_,rfl,λdd hdd=>?_⟩;have s3:=bK hdd (.dK []);have GJ:(upd H2 dd<|.dK []) dd=some (.dK []):=bA;have Ec:dd≠wd:=cH hdd wD;have w3:kO (upd H2 dd<|.dK []) (λb=>N b\/b=dd) wd ls c 0 most S:=(wl.same s3).wide (λb hb=>.inl hb) (λz=>z.elim wl.nw λe=>Ec e.symm) (λz=>z.elim wl.nl λe=>cH hdd wl.sh.choose_spec.1 e.symm) (λb hb=>by
  rcases hb with z|z
  ·exact(wl.same s3).ex b z
  ·subst z;rw[bA];simp)
 refine⟨_,rfl,v,dd,wd,ls,_,t,[],c,0,most,S,r,c',rfl,(tl.same s2).same s3,Mp GJ<|.inr rfl,w3,ot.1,by have:=ot.2;simp;omega,he,ns,λw hw u H4 vu w4 k4=>?_,λC hC ea H4 k4=>?_⟩
 ·obtain⟨i,rfl⟩:=hv w hw
  cases vu;exact hnx wd _ i H4 hw λb o h=>k4 b o (bY h Pq) (s3 b o<|s2 b o h)
 ·exact⟨⟨C,rfl,hC⟩,⟨wd,_,rfl⟩,λb o h=>k4 b o (bY h Pq)<|s3 b o (s2 b o h)⟩
end
set_option maxHeartbeats 4000000 in
theorem abT {fW fC:aj}{gW gC:FuncData}(F:gY K "_law_due" "_law_due" oG f fd)(mF:mg "FaceError"=some (.ref CX))(adx:mH aV CT CX)(ZS:mH aV iG CX)(ZV:mH aV iH CX)
  (GW:cX P w K mg aV (gw P w) 223 fW gW zy (Pk CT iG iH 111)) (mW:mg "_law_worked"=some (.ref fW)) (kW:keepIn K (.ref fW)=true) (bW:Binds K gW zy [])
  (GC:Fv P w K mg aV 1 fC gC ["_law_e"] (qQ CT iG iH)) (mC:mg "_law_class"=some (.ref fC)) (kC:keepIn K (.ref fC)=true) (bC:Binds K gC ["_law_e"] []):
  cX P w K mg aV jG 224 f fd ["_law_vals_here","_law_term","_law_most"] Ml:=by
 refine F.ok uQ λdJ A aU s H vs Q E hr h=>?_;obtain⟨lv,v,most,tY,us,t,r,c',rfl,Mg,au,hus,l20,tl,ot,he,ns,hv,q⟩:=h;rw[adz];refine⟨_,bI XQ.h
  (bI (KR (X:=(dX jG P w K mg aV abR "_law_due" (bN oG) f dJ A aU s H E).HB) (i:=6) (D:=CX) (EX:=T5 CT iG iH lv v most H r)
   (ts:=λea C D U H1=>∀oe:Obj,oe.cls=.ref C->vH (Io ea oe (qQ CT iG iH)<|ig (pL 6) sO) (jy 5) D U H1) rfl rfl rfl uQ.nd rfl rfl rfl mF
   (λU C ea H' hE=>by
    obtain⟨⟨C',z,hC⟩,_⟩:=hE;cases z;cases r with
    |val v=>cases hC
    |long=>cases hC;exact ZS
    |deep=>cases hC;exact ZV
    |great=>cases hC;exact adx
    |stuck=>cases hC)
   (λbH=>bI (XR (t:=t) (c':=c') bH hr GW mW kW bW Mg au hus l20 ns)<|bQ (XS (us:=us) (c':=c') bH hr GW mW kW bW tl ot hv ns))
   (λea C oe bH hp hoc nb=>O1 (bQ (eU 5 uQ.nd (Fx (ea:=ea) (oe:=oe) GC bC kC mC (gK.marked (hr.mono<|by decide)) rfl (afI _ hp) nb (bx (pv 6) bG)))) λD U H1 hh=>hh oe hoc))
  (bQ<|cO (pv 5))),?_⟩
 refine⟨lv,v,most,rfl,λwd ls H1 s1 w1 wD hls=>?_⟩;refine⟨⟨⟨wd,ls,_,none,[],0,rfl,s1,wD,hls,w1,rfl,he⟩,λU' H2 di=>?_⟩,?_⟩
 ·refine⟨di,λwd' o4 i H3 hr3 s3=>⟨_,rfl,?_⟩⟩
  have:=q H3 s3;rw[hr3]at this;exact this
 ·rintro U' C ea H' ⟨⟨C',hC,ho⟩,⟨wd',o4,rfl⟩,s'⟩ BL oe hoc
  cases hC;refine⟨_,rfl,λn1=>?_⟩;have fin:∀(nm:Str),V.str nm=outV (yp r)->∀H2,Same (upd H' ea<|pZ ea oe) H2->Q (.str nm) (del H2 ea):=λnm e H2 s2=>by
   rw[e];exact q _<|Same.trans s' (XF BL s2)
  cases r with
  |val v=>cases ho
  |stuck=>cases ho
  |long=>cases ho;exact⟨ea,oe,_,_,rfl,bA,hoc, .inr<|.inl ⟨rfl,rfl⟩,λH2 s2=>⟨s2 _ _ bA,_,rfl,fin _ rfl H2 s2⟩⟩
  |deep=>cases ho;exact⟨ea,oe,_,_,rfl,bA,hoc, .inr<|.inr ⟨rfl,rfl⟩,λH2 s2=>⟨s2 _ _ bA,_,rfl,fin _ rfl H2 s2⟩⟩
  |great=>cases ho;exact⟨ea,oe,_,_,rfl,bA,hoc, .inl ⟨rfl,rfl⟩,λH2 s2=>⟨s2 _ _ bA,_,rfl,fin _ rfl H2 s2⟩⟩
end
noncomputable def wk:Kd->Option Str
 |.n=>some "n"
 |.b=>some "b"
 |.r=>some "r"
 |.f _ _=>none
theorem adF:("n":Str)≠"b"/\("n":Str)≠"r"/\("b":Str)≠"r":=by decide+kernel
theorem T6 {k1 k2:Kd}{x y:Str}(h1:wk k1=some x)(h2:wk k2=some y):x=y↔k1=k2:=by
 obtain⟨a,b,c⟩:=adF;cases k1<;>cases k2<;>cases h1<;>cases h2<;>simp[a,b,c,ahO a,ahO b,ahO c]
inductive nq (H:Hp):V->Kd->Prop where
 |w {k:Kd} {x:Str}:wk k=some x->nq H (.str x) k
 |f {p:aj} {a r:V} {ka kr:Kd}:H p=some (.tup [.str "f",a,r])->nq H a ka->nq H r kr->nq H (.ref p) (.f ka kr)
theorem nq.tps {H H':Hp}(e:yV H H'){v:V}{k:Kd}(h:nq H v k):nq H' v k:=by
 induction h with
 |w h=>exact .w h
 |f h _ _ a r=>exact .f (e _ _ h) a r
theorem nq.same {H H':Hp}(e:Same H H'){v:V}{k:Kd}(h:nq H v k):nq H' v k:=h.tps λb ys q=>e b _ q
noncomputable def hk:Kd->Nat
 |.f a r=>max (hk a) (hk r)+1
 |_=>0
theorem nq.n {H:Hp}:nq H (.str "n") .n:=.w rfl
theorem nq.b {H:Hp}:nq H (.str "b") .b:=.w rfl
theorem nq.r {H:Hp}:nq H (.str "r") .r:=.w rfl
theorem units_in1 (A:aq):A.in1.units=A.units+1:=rfl
theorem Z0 {P:aA}{w:aG}{H:Hp}{s:ao}(ok:mj P w H s.heap){A:aq}{p q:aj}{a1 r1 a2 r2:V}{Z1 Z4 Z5 Z6:Kd}(hp:H p=some (.tup [.str "f",a1,r1]))(hq:H q=some (.tup [.str "f",a2,r2]))(hu:A.units<cLine)
  (ea:∀u v,RelV a1 u->RelV a2 v->SeqAt.EqAt A.in1 s u v (decide<|Z1=Z5)) (er:∀u v,RelV r1 u->RelV r2 v->SeqAt.EqAt A.in1 s u v (decide<|Z4=Z6)):SeqAt.RcAt A s (.ref p) (.ref q) (decide<|Kd.f Z1 Z4=Kd.f Z5 Z6):=by
 obtain⟨z1,lK,v1,p1⟩:=ok p _ hp;obtain⟨z2,iQ,v2,p2⟩:=ok q _ hq;cases v1 with
 |@cons _ u11 _ _ x11 v1=>cases v1 with
  |@cons _ u12 _ _ x12 v1=>cases v1 with
   |@cons _ u13 _ _ Qo v1=>
    cases v1;cases v2 with
    |@cons _ u21 _ _ x21 v2=>cases v2 with
     |@cons _ u22 _ _ x22 v2=>cases v2 with
      |@cons _ u23 _ _ x23 v2=>
       cases v2;obtain⟨t1,rfl⟩:=x11;obtain⟨t2,rfl⟩:=x21;have q':=SeqAt.RcAt.tuples (A:=A) (s:=s) (e:=λj=>if j=0 then true else if j=1 then decide (Z1=Z5) else decide (Z4=Z6)) (show s.heap.IsTuple p _ from p1) (show s.heap.IsTuple q _ from p2) hu λj h1 h2=>?_
       ·have e:decide (Kd.f Z1 Z4=Kd.f Z5 Z6)=(decide (Z1=Z5)&&decide (Z4=Z6)):=by
         rw[agF,ags,decide_eq_true_iff,decide_eq_true_iff,decide_eq_true_iff];simp
        rw[e];have e2:((List.range<|min (3:Nat) 3).all (λj=>if j=0 then true else if j=1 then decide (Z1=Z5) else decide (Z4=Z6))&&((3:Nat)==3))=(decide (Z1=Z5)&&decide (Z4=Z6)):=by
         simp[List.range,List.range.loop]
        rw[<-e2];exact q'
       ·match j,h1,h2 with
        |0,_,_=>exact(by simpa using SeqAt.EqAt.str_str (A:=A.in1) (s:=s) "f" t1 "f" t2)
        |1,_,_=>exact ea _ _ x12 x22
        |2,_,_=>exact er _ _ Qo x23
theorem T7 {H:Hp}:∀{k k':Kd} {z:V},nq H z k->nq H z k'->k=k':=by
 have aV:∀{k k':Kd} {x:Str} {z:V},wk k=some x->nq H z k->nq H z k'->k=k':=by
  intro k k' x z h a b;cases a with
  |w e1=>cases b with
   |w e2=>exact(T6 e1 e2).mp rfl
  |f=>cases h
 intro k
 induction k with
 |n=>exact λa b=>aV rfl a b
 |b=>exact λa b=>aV rfl a b
 |r=>exact λa b=>aV rfl a b
 |f a b iha ihb=>
  intro k' z x y;cases x with
  |w e=>cases e
  |f g1 g2 g3=>cases y with
   |f g4 g5 g6=>
    rw[g1]at g4;cases g4;rw[iha g2 g5,ihb g3 g6]
theorem T8 {k1 k2:Kd}{x y:Str}(h1:wk k1=some x)(h2:wk k2=some y):decide (x=y)=decide (k1=k2):=decide_eq_decide.mpr (T6 h1 h2)
theorem yH {k ka kr:Kd}{x:Str}(h:wk k=some x):decide (k=Kd.f ka kr)=false/\decide (Kd.f ka kr=k)=false:=by
 cases k<;>cases h<;>exact⟨ahJ (by intro z;cases z),ahJ<|by intro z;cases z⟩
theorem Z7 {P:aA}{w:aG}{H:Hp}{s:ao}(ok:mj P w H s.heap):∀{k1 k2:Kd} {x y:V},nq H x k1->nq H y k2->∀{A:aq} (u v:ak),RelV x u->RelV y v->A.units+hk k1+1<cLine->SeqAt.EqAt A s u v (decide<|k1=k2):=by
 have aV:∀{k1 k2:Kd} {z:Str} {x y:V},wk k1=some z->nq H x k1->nq H y k2->∀{A:aq} (u v:ak),RelV x u->RelV y v->A.units+hk k1+1<cLine->SeqAt.EqAt A s u v (decide<|k1=k2):=by
  intro k1 k2 z x y hz h1 h2 A u v ru rv hu;cases h1 with
  |f=>cases hz
  |@w _ x1 e1=>
   obtain⟨t1,rfl⟩:=ru;cases h2 with
   |@w _ x2 e2=>
    obtain⟨t2,rfl⟩:=rv;rw[<-T8 e1 e2,show decide (x1=x2)=(x1==x2) by rw[agF,decide_eq_true_iff,beq_iff_eq]];exact SeqAt.EqAt.str_str (A:=A) (s:=s) x1 t1 x2 t2
   |@f p _ _ _ _ h _ _=>
    cases rv;obtain⟨z2,iQ,v2,p2⟩:=ok p _ h;rw[(yH e1).1];exact SeqAt.EqAt.str_tuple (A:=A) (s:=s) x1 t1 (show s.heap.IsTuple p iQ.toArray from p2) (by omega)
 intro k1
 induction k1 with
 |n=>exact λh1 h2 A u v ru rv hu=>aV rfl h1 h2 u v ru rv hu
 |b=>exact λh1 h2 A u v ru rv hu=>aV rfl h1 h2 u v ru rv hu
 |r=>exact λh1 h2 A u v ru rv hu=>aV rfl h1 h2 u v ru rv hu
 |f Z1 Z4 iha ihb=>
  intro k2 x y h1 h2 A u v ru rv hu;cases h1 with
  |w e=>cases e
  |@f p _ _ _ _ h1 a1 r1=>
   cases ru;cases h2 with
   |@w _ x2 e2=>
    obtain⟨t1,rfl⟩:=rv;obtain⟨z2,iQ,v2,p2⟩:=ok p _ h1;rw[(yH e2).2];exact SeqAt.EqAt.tuple_str (A:=A) (s:=s) x2 t1 (show s.heap.IsTuple p iQ.toArray from p2) (by omega)
   |@f q _ _ _ _ h2 a2 r2=>
    cases rv;simp only[hk]at hu;by_cases e:p=q
    ·subst e
     rw[h1]at h2;cases h2;rw[T7 a1 a2,T7 r1 r2,ahN rfl];exact SeqAt.EqAt.same _
    ·have i1:=units_in1 A
     exact SeqAt.EqAt.of_refs e (Z0 ok h1 h2 (by omega) (λu v ru rv=>iha a1 a2 u v ru rv<|by omega) λu v ru rv=>ihb r1 r2 u v ru rv<|by omega)
inductive GP (x:V)(y:V)(H:Hp)(Q:VK):Prop where
 |mk (k1) (k2):(nq H x k1)->(nq H y k2)->(hk k1<=60)->(Q (.bl<|decide (k1=k2)) H)->GP x y H Q
theorem qx {X:Cx}(hu:X.A.units+64<cLine):qW X (compareOp .Eq) GP:=by
 intro bH s U H x y v u Q I rx ry h;obtain⟨k1,k2,r1,r2,Zy,q⟩:=h;cases r1 with
 |@w _ x1 e1=>cases r2 with
  |@w _ x2 e2=>
   rw[<-T8 e1 e2]at q;exact eV bH s U H _ _ v u Q I rx ry ⟨rfl,by rw[show decide (V.str x1=V.str x2)=decide (x1=x2) from decide_eq_decide.mpr ⟨V.str.inj,congrArg _⟩];exact q⟩
  |@f p a r ka kr h a1 r1=>
   obtain⟨t1,rfl⟩:=rx;cases ry;obtain⟨z2,iQ,v2,p2⟩:=I.hok p _ h;rw[(yH e1).1]at q;exact SeqAt.RcAt.str_tuple (A:=X.A) (s:=s) x1 t1 (show s.heap.IsTuple p iQ.toArray from p2) (by omega) X.prog X.w _ _ ⟨.bl false,H,I,rfl,q⟩
 |@f p a r ka kr h a1 r1=>cases r2 with
  |@w _ x2 e2=>
   obtain⟨t1,rfl⟩:=ry;cases rx;obtain⟨z2,iQ,v2,p2⟩:=I.hok p _ h;rw[(yH e2).2]at q;exact SeqAt.RcAt.tuple_str (A:=X.A) (s:=s) x2 t1 (show s.heap.IsTuple p iQ.toArray from p2) (by omega) X.prog X.w _ _ ⟨.bl false,H,I,rfl,q⟩
  |@f p2 a2 r2 Z5 Z6 h2 a21 r21=>
   cases rx;cases ry;simp only[hk]at Zy;have i1:=units_in1 X.A;have rc:=Z0 (A:=X.A) I.hok h h2 (by omega) (λu v ru rv=>Z7 I.hok a1 a21 u v ru rv<|by omega) (λu v ru rv=>Z7 I.hok r1 r21 u v ru rv<|by omega);exact rc X.prog X.w _ _ ⟨.bl _,H,I,rfl,q⟩
inductive GQ (x:V)(y:V)(H:Hp)(Q:VK):Prop where
 |mk (k) (k2) (x2):(nq H x k)->(y=.str x2)->(wk k2=some x2)->(Q (.bl<|decide (k≠k2)) H)->GQ x y H Q
theorem T9 {X:Cx}(hu:X.A.units+64<cLine):qW X (compareOp .NotEq) GQ:=by
 intro bH s U H x y v u Q I rx ry h;obtain⟨k,k2,x2,r1,rfl,e2,q⟩:=h;cases r1 with
 |@w _ x1 e1=>exact Kl bH s U H _ _ v u Q I rx ry ⟨rfl,by
   have e:(!decide (V.str x1=V.str x2))=decide (k≠k2):=by rw[show decide (V.str x1=V.str x2)=decide (x1=x2) from decide_eq_decide.mpr ⟨V.str.inj,congrArg _⟩,T8 e1 e2];simp
   rw[e];exact q⟩
 |@f p a r ka kr h a1 r1=>
  obtain⟨t1,rfl⟩:=ry;cases rx;obtain⟨z2,iQ,v2,p2⟩:=I.hok p _ h;have e:decide (Kd.f ka kr≠k2)=true:=by have:=(yH (ka:=ka) (kr:=kr) e2).2;simpa using this
  rw[e]at q;exact SeqAt.RcNeAt.tuple_str (A:=X.A) (s:=s) x2 t1 (show s.heap.IsTuple p iQ.toArray from p2) (by omega) X.prog X.w _ _ ⟨.bl true,H,I,rfl,q⟩
end Fw
namespace L2
theorem Ub {X:Cx}{nH dR tg:aH}{y:Str}{py pos xG:Pos}{ifs:aP aH}{aZ:Scope}{wi:TI}{g gy:TG}{tt:TT}{te:TE}(rZ:Scope)(N:aP Str)(M cG:aP Str)(jF:aP Nat)
  (hk:vY rZ N cG jF aZ=true) (hi:PI X tg dR wi) (hgy:PG X (.Name y py) gy) (hg:∀C s₀ H₀ ex,PG (fj X (M++cG) aZ C s₀ H₀ ex) tg g)
  (ht:∀C s₀ H₀ ex,Rk (fj X (M++cG) aZ C s₀ H₀ ex) ifs tt) (he:∀C s₀ H₀ ex,PE (fj X (M++cG) aZ C s₀ H₀ ex) nH te)
  (hsw:swapsWith (.ListComp nH [⟨tg,dR,ifs,0⟩] aZ pos) (some<|.Name y py) xG.line X.env=pure true)
  (ho:X.env.scope=rZ:=by rfl) (hN:X.N=N:=by rfl) (hc:X.calm=true:=by rfl) (hs:∀v,foldedSetIterable dR X.env v=pure v:=by intro _;rfl):
  PS X (.Assign [.Name y py] (.ListComp nH [⟨tg,dR,ifs,0⟩] aZ pos) xG) (vH (rD M.length jF wi g tt te) gy):=by
 obtain⟨S,fl⟩:=qZ (X:=X) hk ho hN;exact zZ hc S fl hi hgy hg ht he hsw hs
end L2
namespace PySem
open PyProof.Rows
section
variable {prog:aA}{w:aG}{A:aq}{E:ak->ao->Prop}{s:ao}
theorem uf {it t:aj}{i:Nat}{xs:Array ak}{x:ak}{Q:ak->ao->Prop}(pO:s.heap.IsTupleIter it t i)(ht:s.heap.IsTuple t xs)(hx:xs[i]?=some x)
  (hQ:∀h',h'.IsTupleIter it t (i+1)->Heap.SameBut it s.heap h'->Q x {s with heap:=h'}):wpAny (model prog w) A (Builtin.SmallTypes.nextOf<|.ref it) Q E s:=by
 obtain⟨o,ho,hc,hd⟩:=id pO;obtain⟨u,hu,_,n,hn⟩:=ht;unfold Builtin.SmallTypes.nextOf;refine abI<|wpAny_callSpecial?_slot (name:=Str.ofString "__next__") pO.typeIs F.slot_tuple_iterator_next (wpAny_call_entry F.slot_tuple_iterator_next pO.typeIs F.entry_tuple_iterator_next ?_<|F.args_tuple_iterator_next_1 _);show wpAny _ _ (field (.ref it) 0>>=_) _ _ s;refine abI<|ahU ho hd (x:=.ref t) rfl ?_;rw[ahL (show ¬((Value.ref t==Value.none)=true) from afD)];show wpAny _ _ (field (.ref it) 1>>=_) _ _ s;refine abI<|ahU ho hd (x:=.int i 0) rfl ?_;show wpAny _ _ (seqItems? (.ref t)>>=_) _ _ s;refine abI<|wpAny_seqItems hu hn ?_;simp only[af5,hx];refine abI (wpAny_setField ho hd (by simp) (ahI ⟨x,rfl,ahI (hQ _ ⟨_,af7 _ ho<|Obj.isFreed_of_fields (Obj.data_mapFields hd _),(Obj.cls_mapFields ..).trans hc,by rw[Obj.data_mapFields hd];simp[rawInt]⟩<|Heap.SameBut.update ..)⟩))
theorem GR {it t:aj}{i:Nat}{xs:Array ak}{Q:ak->ao->Prop}(hh:A.handled=none)(pO:s.heap.IsTupleIter it t i)(ht:s.heap.IsTuple t xs)(hx:xs[i]?=none)
  (hE:∀h' e,Heap.ExtBut it s.heap h'->(∃o,h'.get? e=some o/\o.cls=.type "StopIteration")->E (.ref e) {s with heap:=h'}):wpAny (model prog w) A (Builtin.SmallTypes.nextOf<|.ref it) Q E s:=by
 obtain⟨o,ho,hc,hd⟩:=id pO;obtain⟨u,hu,_,n,hn⟩:=ht;unfold Builtin.SmallTypes.nextOf;refine abI<|wpAny_callSpecial?_slot (name:=Str.ofString "__next__") pO.typeIs F.slot_tuple_iterator_next (wpAny_call_entry F.slot_tuple_iterator_next pO.typeIs F.entry_tuple_iterator_next ?_<|F.args_tuple_iterator_next_1 _);show wpAny _ _ (field (.ref it) 0>>=_) _ _ s;refine abI<|ahU ho hd (x:=.ref t) rfl ?_;rw[ahL (show ¬((Value.ref t==Value.none)=true) from afD)];show wpAny _ _ (field (.ref it) 1>>=_) _ _ s;refine abI<|ahU ho hd (x:=.int i 0) rfl ?_;show wpAny _ _ (seqItems? (.ref t)>>=_) _ _ s;refine abI<|wpAny_seqItems hu hn ?_;simp only[af5,hx];refine abI (wpAny_rule (abI (wpAny_setField ho hd (by simp) ?_)));show wpAny _ _ (newExc (.type "StopIteration") []>>=_) _ _ _;refine abI ?_;simp only[newExc,newTuple];refine abI (wpAny_newObj_type ?_<|by size_fits);refine abI (m:=firstArgMember _ _) (wpAny_of_eq (a:=Value.none) (by first|rfl|(simp only[firstArgMember];rfl)) ?_);refine wpAny_newObj_type ?_ (by size_fits);simp only[raiseNew];refine abI<|wpAny_handled ?_
 first|rw[show A.in1.handled=none from hh]|rw[hh]
 exact abI<|ahI (wpAny_throw<|hE _ _ (((Heap.SameBut.update ..).extBut.push _).push _) ⟨_,afK _ rfl,rfl⟩)
noncomputable abbrev zt1 (h:aK)(t1:aj):aK:=h.push {cls:=.type "tuple_iterator",data:=.fields #[.ref t1, .int 0 0]}
noncomputable abbrev zt2 (h:aK)(t1 t2:aj):aK:=(zt1 h t1).push {cls:=.type "tuple_iterator",data:=.fields #[.ref t2, .int 0 0]}
noncomputable abbrev zt3 (h:aK)(t1 t2:aj):aK:=(zt2 h t1 t2).push {cls:=.type "tuple",data:=.seq #[.ref h.objs.size, .ref (zt1 h t1).objs.size]}
end
end PySem
namespace L2
section
variable {X:Cx}{bH:List (aj×Obj)}{U:St}{H:Hp}{s:ao}{h':aK}
theorem Inv.wI {t':Nat}{ch:aP aj}(I:Inv X bH U H s)(k:∀b o,b∉ch->s.heap.get? b=some o->h'.get? b=some o)(hf:∀b∈ch,uz X bH H b):Inv X bH U H {s with heap:=h',toks:=t'}:=by
 have nit:∀b u,H b=some u->b∉ch:=λb u e z=>by rw[(hf b z).1]at e;cases e
 refine I.step (g':=s.gens) (d':=s.drawn) (ch:=ch) (λb hb=>?_) (λb o _ _ hc e _=>k b o hc e) (λb o _ _ hc e _=>⟨o.slots,k b o hc e⟩) (λ_ _ _ _ n=>n)
  (λb o hc e=>⟨o,k b o hc e⟩) (λ_ _ e=>e) (λ_ _ _ e=>e) (λb ps e=>⟨#[],by rw[e];simp⟩) (λm hm=>?_) (λb u e=>?_) I.bare
 ·obtain⟨f0,f1,f2,f3,f4,f5⟩:=hf b hb
  exact⟨f3,f1,f4,f5⟩
 ·obtain⟨o,es,ep,ho,r⟩:=hm
  exact⟨o,es,ep,k _ o (λz=>(hf _ z).2.1 rfl) ho,r⟩
 ·refine(I.hok b u e).stay (λc v hc q=>k c v ?_ q) (λ_ q=>q) λ_ _ q=>q
  rcases hc with z|z
  ·rw[z];exact nit b u e
  ·exact nit c _ z
theorem Inv.JB {D:aj}{vs:aP V}{bh:aP ak}(I:Inv X bH U H s)(hf:uz X bH H D)(hz:vs.length<=sizeLine)(hv:Vals vs bh)(e:IsTup s.heap D bh.toArray):Inv X bH U (upd H D<|.tup vs) s:=by
 obtain⟨hD,h2,_,h1,h3,h4⟩:=hf;obtain⟨hh,g,d,t,o⟩:=s;have nD:∀b u,H b=some u->b≠D:=λb u q z=>by rw[z,hD]at q;cases q
 refine I.step (g':=g) (d':=d) (t':=t) (h':=hh) (ch:=[D]) (λb hb=>?_) (λb o _ _ _ q _=>q) (λb o _ _ _ q _=>⟨o.slots,q⟩) (λb o hb q n=>?_) (λb o _ q=>⟨o,q⟩)
  (λb xs q=>by rw[bV (nD b _ q)];exact q) (λb o u q=>by rw[bV (nD b _ q)];exact q) (λb ps q=>⟨#[],by rw[bV (nD b _ q),q];simp⟩) (λm q=>q) (λb u q=>?_) I.bare
 ·have z:b=D:=by simpa using hb
  subst z;exact⟨h1,h2,h3,h4⟩
 ·rw[bV (by simpa using hb)];exact n
 ·by_cases z:b=D
  ·subst z
   rw[bA]at q;cases q;exact⟨hz,bh,hv,e⟩
  ·rw[bV z]at q
   exact(I.hok b u q).stay (λ_ _ _ q=>q) (λc q=>by rw[bV (nD c _ q)];exact q) λc xs q=>by rw[bV (nD c _ q)];exact q
end
theorem Ay:bootBuiltins "zip"=some (.type "zip"):=by decide+kernel
end L2
namespace PySem
open PyProof.Rows
noncomputable def kit:Bool->String
 |true=>"list_iterator"
 |false=>"tuple_iterator"
noncomputable def MN:Bool->String
 |true=>"list"
 |false=>"tuple"
def Az (b:Bool)(h:aK)(a t:aj)(i:Nat):Prop:=∃o,h.get? a=some o/\o.cls=.type (kit b)/\o.data=.fields #[.ref t, .int i 0]
def yI (b:Bool)(h:aK)(a:aj)(xs:Array ak):Prop:=∃o,h.get? a=some o/\o.cls=.type (MN b)/\∃n,o.data=.seq xs n
theorem Az.extBut {b:Bool}{h h':aK}{a c t:aj}{i:Nat}(x:Az b h a t i)(hs:Heap.ExtBut c h h')(n:a≠c):Az b h' a t i:=let ⟨o,e,r⟩:=x;⟨o,hs _ _ n e,r⟩
theorem yI.extBut {b:Bool}{h h':aK}{a c:aj}{xs:Array ak}(x:yI b h a xs)(hs:Heap.ExtBut c h h')(n:a≠c):yI b h' a xs:=let ⟨o,e,r⟩:=x;⟨o,hs _ _ n e,r⟩
section
variable {prog:aA}{w:aG}{A:aq}{E:ak->ao->Prop}{s:ao}
theorem ug {it t:aj}{i:Nat}{xs:Array ak}{x:ak}{Q:ak->ao->Prop}(pO:s.heap.IsListIter it t i)(ht:s.heap.IsList t xs)(hx:xs[i]?=some x)
  (hQ:∀h',h'.IsListIter it t (i+1)->Heap.SameBut it s.heap h'->Q x {s with heap:=h'}):wpAny (model prog w) A (Builtin.SmallTypes.nextOf<|.ref it) Q E s:=by
 obtain⟨o,ho,hc,hd⟩:=id pO;obtain⟨u,hu,_,n,hn⟩:=ht;unfold Builtin.SmallTypes.nextOf;refine abI<|wpAny_callSpecial?_slot (name:=Str.ofString "__next__") pO.typeIs slot_listiter_next (wpAny_call_entry slot_listiter_next pO.typeIs entry_listiter_next ?_<|args_listiter_next _);show wpAny _ _ (field (.ref it) 0>>=_) _ _ s;refine abI<|ahU ho hd (x:=.ref t) rfl ?_;rw[ahL (show ¬((Value.ref t==Value.none)=true) from afD)];show wpAny _ _ (field (.ref it) 1>>=_) _ _ s;refine abI<|ahU ho hd (x:=.int i 0) rfl ?_;show wpAny _ _ (seqItems? (.ref t)>>=_) _ _ s;refine abI<|wpAny_seqItems hu hn ?_;simp only[af5,hx];refine abI (wpAny_setField ho hd (by simp) (ahI ⟨x,rfl,ahI (hQ _ ⟨_,af7 _ ho<|Obj.isFreed_of_fields (Obj.data_mapFields hd _),(Obj.cls_mapFields ..).trans hc,by rw[Obj.data_mapFields hd];simp[rawInt]⟩<|Heap.SameBut.update ..)⟩))
theorem vq {it t:aj}{i:Nat}{xs:Array ak}{Q:ak->ao->Prop}(hh:A.handled=none)(pO:s.heap.IsListIter it t i)(ht:s.heap.IsList t xs)(hx:xs[i]?=none)
  (hE:∀h' e,Heap.ExtBut it s.heap h'->(∃o,h'.get? e=some o/\o.cls=.type "StopIteration")->E (.ref e) {s with heap:=h'}):wpAny (model prog w) A (Builtin.SmallTypes.nextOf<|.ref it) Q E s:=by
 obtain⟨o,ho,hc,hd⟩:=id pO;obtain⟨u,hu,_,n,hn⟩:=ht;unfold Builtin.SmallTypes.nextOf;refine abI<|wpAny_callSpecial?_slot (name:=Str.ofString "__next__") pO.typeIs slot_listiter_next (wpAny_call_entry slot_listiter_next pO.typeIs entry_listiter_next ?_<|args_listiter_next _);show wpAny _ _ (field (.ref it) 0>>=_) _ _ s;refine abI<|ahU ho hd (x:=.ref t) rfl ?_;rw[ahL (show ¬((Value.ref t==Value.none)=true) from afD)];show wpAny _ _ (field (.ref it) 1>>=_) _ _ s;refine abI<|ahU ho hd (x:=.int i 0) rfl ?_;show wpAny _ _ (seqItems? (.ref t)>>=_) _ _ s;refine abI<|wpAny_seqItems hu hn ?_;simp only[af5,hx];refine abI (wpAny_rule (abI (wpAny_setField ho hd (by simp) ?_)));show wpAny _ _ (newExc (.type "StopIteration") []>>=_) _ _ _;refine abI ?_;simp only[newExc,newTuple];refine abI (wpAny_newObj_type ?_<|by size_fits);refine abI (m:=firstArgMember _ _) (wpAny_of_eq (a:=Value.none) (by first|rfl|(simp only[firstArgMember];rfl)) ?_);refine wpAny_newObj_type ?_ (by size_fits);simp only[raiseNew];refine abI<|wpAny_handled ?_
 first|rw[show A.in1.handled=none from hh]|rw[hh]
 exact abI<|ahI (wpAny_throw<|hE _ _ (((Heap.SameBut.update ..).extBut.push _).push _) ⟨_,afK _ rfl,rfl⟩)
theorem pF {b:Bool}{it t:aj}{i:Nat}{xs:Array ak}{x:ak}{Q:ak->ao->Prop}(pO:Az b s.heap it t i)(ht:yI b s.heap t xs)(hx:xs[i]?=some x)
  (hQ:∀h',Az b h' it t (i+1)->Heap.SameBut it s.heap h'->Q x {s with heap:=h'}):wpAny (model prog w) A (Builtin.SmallTypes.nextOf<|.ref it) Q E s:=by
 cases b with
 |true=>exact ug pO ht hx hQ
 |false=>exact uf pO ht hx hQ
theorem vA {b:Bool}{it t:aj}{i:Nat}{xs:Array ak}{Q:ak->ao->Prop}(hh:A.handled=none)(pO:Az b s.heap it t i)(ht:yI b s.heap t xs)(hx:xs[i]?=none)
  (hE:∀h' e,Heap.ExtBut it s.heap h'->(∃o,h'.get? e=some o/\o.cls=.type "StopIteration")->E (.ref e) {s with heap:=h'}):wpAny (model prog w) A (Builtin.SmallTypes.nextOf<|.ref it) Q E s:=by
 cases b with
 |true=>exact vq hh pO ht hx hE
 |false=>exact GR hh pO ht hx hE
theorem yI.up {b:Bool}{h h':aK}{a:aj}{xs:Array ak}(x:yI b h a xs)(k:∀o,h.get? a=some o->h'.get? a=some o):yI b h' a xs:=x.elim λo e=>⟨o,k o e.1,e.2⟩
theorem Az.up {b:Bool}{h h':aK}{a t:aj}{i:Nat}(x:Az b h a t i)(k:∀o,h.get? a=some o->h'.get? a=some o):Az b h' a t i:=x.elim λo e=>⟨o,k o e.1,e.2⟩
noncomputable abbrev X3 (b:Bool)(h:aK)(t:aj):aK:=h.push {cls:=.type<|kit b,data:=.fields #[.ref t, .int 0 0]}
noncomputable abbrev en2 (b:Bool)(h:aK)(t:aj):aK:=(X3 b h t).push {cls:=.type "enumerate",data:=.fields #[.none, .bool false, .ref h.objs.size,rawInt 0, .none, .none]}
theorem GX (t:aj)(xs:Array ak):
  Meets (Builtin.«enumerate.__new__» ⟨[.type "enumerate", .ref t],[]⟩) (λ_ R s=>s.heap.IsTuple t xs/\R (.ok<|.ret (.ref (X3 false s.heap t).objs.size)) {s with heap:=en2 false s.heap t}) :=
 .of_wp λprog w A R s h=>by
  obtain⟨hp,g,d,tk,os⟩:=s;obtain⟨h1,h⟩:=h;obtain⟨o,ho,hc,n,hd⟩:=id h1;have hsub:=sub_enumerate;have q1:Heap.IsTuple (Shared.heap ⟨hp,g,d,tk,os⟩) t xs:=h1;have q0:Shared.TypeIs ⟨hp,g,d,tk,os⟩ (.ref t) "tuple":=⟨o,ho,hc⟩
  wp_walk using wpAny_pyIter_tuple q1
  refine wpAny_stack_any λst=>ahI ?_;split
  ·rename_i c _ _ _ _ _;cases(c==Value.type "enumerate")
   ·wp_walk using wpAny_pyIter_tuple q1;exact⟨_,rfl,h⟩
   ·wp_walk using wpAny_pyIter_tuple q1;exact⟨_,rfl,h⟩
  ·wp_walk using wpAny_pyIter_tuple q1;exact⟨_,rfl,h⟩
theorem JC {b:Bool}{t:aj}{P:ao->Prop}{Q:ak->ao->Prop}(M:Meets (Builtin.«enumerate.__new__» ⟨[.type "enumerate", .ref t],[]⟩) (λ_ R s=>P s/\R (.ok<|.ret (.ref (X3 b s.heap t).objs.size)) {s with heap:=en2 b s.heap t}))(h1:P s)
  (h:∀h' e it,s.heap.objs.size<=e->s.heap.objs.size<=it->e≠it->IsEnum h' e it 0 .none->Az b h' it t 0->(∀c o,s.heap.get? c=some o->h'.get? c=some o)->Q (.ref e) {s with heap:=h'}):
  wpAny (model prog w) A (call (.type "enumerate") [.ref t]) Q E s:=by
 refine callType_new F.called_enumerate (by decide) (F.typeCall_enumerate_1 _) (F.newCall_enumerate_1 _) (λobj=>F.args_object_init_2 obj _) F.entry_enumerate_new M ⟨h1,?_⟩;have z1:(X3 b s.heap t).objs.size=s.heap.objs.size+1:=agj ..;have p2:(en2 b s.heap t).get? (X3 b s.heap t).objs.size=some _:=afK _ rfl;have p1:(en2 b s.heap t).get? s.heap.objs.size=some _:=afx _ (afK _ rfl);refine⟨⟨_,p2,rfl⟩,h _ _ _ (by rw[z1];exact afF _ _) (afv _) (by rw[z1];exact Nat.succ_ne_self _) p2 ⟨_,p1,rfl,rfl⟩ λc o e=>afx _<|afx _ e⟩
theorem Draws.gen {b:Bool}{prog:aA}{w:aG}{A:aq}(hh:A.handled=none)(it t:aj)(hne:t≠it)(xs:Array ak):
  Draws prog w A it [it,t] xs.size (λi x=>xs[i]?=some x) (λi h=>Az b h it t i/\yI b h t xs) where
 live:=λi h st=>st.1.elim λo e=>⟨o,e.1⟩
 frame:=λi h h' st k=>⟨st.1.up (k _<|by simp),st.2.up (k _<|by simp)⟩
 item:=λi s Q E hi st hQ=>pF st.1 st.2 (aht hi) λh' j' sb=>hQ _ h' s.toks (aht hi) ⟨j',st.2.up λo e=>(sb.2 t hne).trans e⟩ sb
 done:=λs Q E st hE=>vA hh st.1 st.2 (by simp) hE
end
end PySem
namespace L2
noncomputable def Ed:Bool->List V->HO
 |true,xs=>.lst xs
 |false,xs=>.tup xs
theorem Dt {b:Bool}{xs ys:aP V}(h:Ed b xs=Ed b ys):xs=ys:=by cases b<;>(injection h)
theorem Inv.sqG {X:Cx}{bH:List (aj×Obj)}{U:St}{H:Hp}{s:ao}{a:aj}{b:Bool}{xs:List V}(I:Inv X bH U H s)(e:H a=some (Ed b xs)):∃bh,Vals xs bh/\yI b s.heap a bh.toArray:=by
 cases b with
 |true=>
  obtain⟨bh,r,p,_⟩:=I.list (dD.of (K:=X.K) e);exact⟨bh,r,p.isList⟩
 |false=>
  obtain⟨bh,r,p,_⟩:=I.tuple (iM.of (K:=X.K) e);exact⟨bh,r,p⟩
def Ieg (b:Bool)(a:aj):It :=
 ⟨λi H=>∃xs x,H a=some (Ed b xs)/\xs[i]?=some x,
  λi H v H'=>∃(T:aj) (xs:List V) (x:V),H a=some (Ed b xs)/\xs[i]?=some x/\H T=none/\v=.ref T/\H'=upd H T (.tup [.int (i:Int),x]),
  λi H=>∃xs,H a=some (Ed b xs)/\xs.length=i⟩
theorem JD {b:Bool}{P:aA}{w:aG}{K:aN}{elts:aP aH}{x1}{pos:Pos}(a e it:aj):Turn P w K (.Tuple elts x1 pos) (Ieg b a) [e,it] e (λi h=>(∃old,IsEnum h e it (i:Int) old)/\Az b h it a i/\e≠it) where
 mem:=by simp
 obj:=λi h st c hc=>by
  simp only[afU,afP,ahP]at hc;obtain⟨⟨old,he⟩,⟨o1,j1,c1,d1⟩,ne⟩:=st;rcases hc with rfl|rfl
  ·exact⟨_,he,λv q=>by cases q⟩
  ·exact⟨o1,j1,λv q=>by rw[d1]at q;cases q⟩
 keep:=λi h h' st k=>by
  obtain⟨⟨old,he⟩,⟨o1,j1,r1⟩,ne⟩:=st;exact⟨⟨old,k _ (by simp) _ he⟩,⟨o1,k _ (by simp) _ j1,r1⟩,ne⟩
 item:=by
  intro X hP hw hK hc i bH s U H E I hf st hg;subst hP hw hK;obtain⟨xs,x,ha,hx⟩:=hg;obtain⟨lK,zu,p1⟩:=I.sqG ha;obtain⟨u1,hu1,ru1⟩:=zu.get hx;obtain⟨⟨old,he⟩,j1,ne⟩:=st;have nai:a≠it:=λq=>by rw[q,(hf it<|by simp).1]at ha;cases ha
  have nae:a≠e:=λq=>by rw[q,(hf e<|by simp).1]at ha;cases ha
  have jf:i<lK.toArray.size:=by
   have:=(ahW hu1).1;simpa using this
  refine wpAny_pyNext_enum_itemD (Draws.gen (A:=X.A.in1) (show X.A.in1.handled=none from I.ok.hd hc) it a nai lK.toArray) he ⟨j1,p1⟩ jf ne (by simp[ne,ahO nae]) λx' h' tk hP ho hs' hT hsz hk=>⟨_,rfl,?_⟩;have ex:x'=u1:=by
   have h1:lK[i]?=some x':=by simpa using hP
   rw[hu1]at h1;exact(ahR h1).symm
  subst ex;refine wpAny_letOwnedTupleGo_enum (s:={s with heap:=h',toks:=tk+1}) ho λh2 he2 r7=>?_;have I1:Inv X bH U H {s with heap:=h2,toks:=tk+1}:=I.wI (t':=tk+1) (ch:=[e,it]) (λc o hc q=>r7.extBut c o (λq=>hc<|by simp[q]) (hk c o (λq=>hc<|by simp[q]) (λq=>hc<|by simp[q]) q)) hf;have fr:H s.heap.objs.size=none:=I.hok.fresh (afv _);have le:e<s.heap.objs.size:=afB he;have li:it<s.heap.objs.size:=j1.elim λ_ e=>afB e.1;have I2:=I1.JB (D:=s.heap.objs.size) (vs:=[.int (i:Int),x]) (bh:=[.int (i:Int) tk,x']) (I.uD (afv _) fr) (by show 2<=sizeLine;rw[sizeLine_eq];decide) (.cons ⟨_,rfl⟩<|.cons ru1 .nil) ⟨_,r7.extBut _ _ (agM le) hT,rfl,_,rfl⟩;refine⟨.ref s.heap.objs.size,_,I2,rfl,⟨_,xs,x,ha,hx,fr,rfl,rfl⟩,⟨⟨_,by simpa using he2⟩,hs'.1.extBut r7.extBut<|ahO ne,ne⟩,λc hc=>?_⟩;rw[bV (by
   simp only[afU,afP,ahP]at hc;rcases hc with rfl|rfl
   ·exact afV le
   ·exact afV li)]
  exact(hf c hc).1
 done:=by
  intro X hP hw hK hc i bH s U H E I hf st hg;subst hP hw hK;obtain⟨xs,ha,hx⟩:=hg;obtain⟨lK,zu,p1⟩:=I.sqG ha;have hl:=zu.length;obtain⟨⟨old,he⟩,j1,ne⟩:=st;have nai:a≠it:=λq=>by rw[q,(hf it<|by simp).1]at ha;cases ha
  have ei:lK.toArray.size=i:=by simp;exact hl.symm.trans hx
  refine wpAny_pyNext_enum_endD (Draws.gen (A:=X.A.in1) (show X.A.in1.handled=none from I.ok.hd hc) it a nai lK.toArray) he ⟨by rw[ei];exact j1,p1⟩ λh' kp=>⟨rfl,I.wI (t':=s.toks) (ch:=[e,it]) (λc o hc q=>kp c o (λq=>hc<|by simp[q]) q) hf⟩
 self:=λ_ _ _ _ _ st h=>by
  obtain⟨⟨old,he⟩,j1,ne⟩:=st;exact wpAny_pyIter_enum he h
theorem JF:bootBuiltins "enumerate"=some (.type "enumerate"):=by decide+kernel
def abU (ta:TE):TI:=λU H R=>ta U H λv H1=>∃a b xs,v=.ref a/\H1 a=some (Ed b xs)/\R (Ieg b a) H1
theorem GZ {X:Cx}{e1:aH}{ta:TE}{p pos pt:Pos}{elts:List aH}{x1}(hg:Gl X "enumerate")(hm:X.mg "enumerate"=none)(ha:PE X e1 ta)
  (hs:starEach [e1] X.env=[(false,eval e1 X.env)]:=by rfl):PI X (.Tuple elts x1 pt) (.Call (.Name "enumerate" p) [e1] [] pos) (abU ta):=by
 intro bH s U H R I h;refine wpAny_Call_Name_kw (mV I hg hm JF ?_ (by decide)<|by decide);refine PyProof.Rows.callWith_type1 ?_ hs rfl;rw[hs];refine Calls.spliced_cons<|gk (ha bH s U H _ I h) λv s1 ⟨x,H1,I1,r1,q1⟩=>Calls.spliced_nil ?_;obtain⟨a,b,xs,rfl,h1,q⟩:=q1;cases r1;obtain⟨P,M,p0⟩:∃P:ao->Prop,Meets (Builtin.«enumerate.__new__» ⟨[.type "enumerate", .ref a],[]⟩) (λ_ R s=>P s/\R (.ok<|.ret (.ref (X3 b s.heap a).objs.size)) {s with heap:=en2 b s.heap a})/\P s1:=by
  cases b with
  |false=>
   obtain⟨lK,zu,p1,z1⟩:=I1.tuple (iM.of (K:=X.K) h1);exact⟨_,GX a lK.toArray,p1⟩
  |true=>
   obtain⟨z,bh,n,r,hl,e0⟩:=I1.uG h1;exact⟨_,meets_enumerate_new a bh.toArray n,e0⟩
 refine JC M p0 λh' e it l1 l2 ne he j kp=>?_;refine wpAny_pyIter_enum (s:={s1 with heap:=h'}) he ?_;refine⟨e,[e,it],_,_,H1,rfl,I1.kept (t':=s1.toks) kp,JD a e it,⟨⟨_,he⟩,j,ne⟩,λc hc=>?_,q⟩;rcases afU.mp hc with rfl|hc
 ·exact I1.uD l1<|I1.hok.fresh l1
 ·cases afN.mp hc
  exact I1.uD l2<|I1.hok.fresh l2
inductive G3 (x:V)(y:V)(H:Hp)(Q:VK):Prop where
 |mk (a b:aj) (xs:List V):(x=.ref a)->(y=.ref b)->(H a=some (.lst xs))->(H b=some (.lst []))->(Q (.bl<|decide (xs≠[])) H)->G3 x y H Q
theorem abV {X:Cx}(hu:X.A.units<cLine):qW X (compareOp .NotEq) G3:=by
 intro bH s U H x y v u Q I rx ry h;obtain⟨a,b,xs,rfl,rfl,ha,hb,q⟩:=h;cases rx;cases ry;obtain⟨bh,r,pl,hz⟩:=I.list (dD.of (K:=X.K) ha);obtain⟨iQ,r2,pl2,hz2⟩:=I.list (dD.of (K:=X.K) hb);have l1:=r.length;have l2:=r2.length;cases xs with
 |nil=>
  have e1:bh=[]:=List.length_eq_zero_iff.mp l1.symm;have e2:iQ=[]:=List.length_eq_zero_iff.mp l2.symm;subst e1;subst e2;have q':=SeqAt.RcNeAt.lists (A:=X.A) (s:=s) (e:=λ_=>true) pl.isList pl2.isList rfl hu (λj h1 h2=>by simp at h1) X.prog X.w;exact q' _ _ ⟨.bl false,H,I,rfl,by simpa using q⟩
 |cons x xs=>
  exact SeqAt.RcNeAt.lists_lengths (A:=X.A) (s:=s) pl.isList pl2.isList (by simp at l1 l2 ⊢;omega) hu X.prog X.w _ _ ⟨.bl true,H,I,rfl,by simpa using q⟩
end L2
namespace Fw
open L2
theorem yJ {b:Bool}{H:Hp}{n:Nat}{a:aj}{xs:aP V}{g:TG}{tt:TT}{te:TE}{U':L2.St}{Q:VK}(Pv:Nat->aP V->Hp->Prop)(h0:Pv 0 [] H)(hl:∀i vs H,i<=xs.length->Pv i vs H->H a=some (Ed b xs)/\vs.length<sizeLine)
  (hs:∀i x (tp:aj) vs H2 (τ:L2.St),τ.length=n->i<xs.length->xs[i]?=some x->H2 tp=none->Pv i vs H2->g (.ref tp) (τ++U') (upd H2 tp<|.tup [.int (i:Int),x]) λU1 H3=>(∃Zd:L2.St,U1=Zd++U'/\Zd.length=n)/\tt U1 H3 λb H4=>if b=true then te U1 H4 λv H5=>Nx xs.length i (Pv (i+1) (vs++[v]) H5) else Nx xs.length i (Pv (i+1) vs H4))
  (hd:∀vs H2,Pv xs.length vs H2->∀l,H2 l=none->Q (.ref l) (upd H2 l<|.lst vs)):Bw n (Ieg b a) g tt te U' Q H:=by
 refine⟨λi m vs H=>m=xs.length-i/\i<=xs.length/\Pv i vs H,⟨xs.length,by simp,afY _,h0⟩,?_⟩;rintro i m vs H2 ⟨rfl,hi,p⟩;obtain⟨q1,q2⟩:=hl i vs H2 hi p;refine⟨q2,?_⟩;by_cases jf:i<xs.length
 ·refine .inr ⟨⟨xs,xs[i],q1,by simp[jf]⟩,?_⟩
  rintro τ x H3 Nz ⟨tp,ys,y,e1,hx,hT,rfl,rfl⟩;rw[q1]at e1;cases Dt (ahR e1);exact hs i y tp vs _ τ Nz jf hx hT p
 ·have e:i=xs.length:=by exact ago hi (Nat.not_lt.mp jf)
  subst e;exact .inl ⟨⟨xs,q1,rfl⟩,hd vs H2 p⟩
theorem dj {tl:aP V}{st:aj}{H H':Hp}(ok:nj tl H st)(g:jk tl st H H'):yV H H':=λb ys h=>by
 obtain⟨x,y,hs⟩:=ok;exact g.1 b _ (iY h hs<|by intro z;cases z) h
noncomputable def uq:Kd->Nat
 |.f _ r=>uq r+1
 |_=>0
abbrev zA (M R:Nat):List V:=[.int (M:Int), .int (R:Int)]
def OwL (H:Hp)(lo:aj)(G:List Kd):Prop:=∃Ef:List V,H lo=some (.lst Ef)/\Ef.length=G.length/\∀(i:Nat) k,G[i]?=some k->∃(p:aj) (kv:V),Ef[i]?=some (.ref p)/\H p=some (.tup [.str (iz i),kv])/\nq H kv k
def ShL (H:Hp)(ls:aj)(SK:List Kd):Prop:=∃pK:List V,H ls=some (.lst pK)/\ni (nq H) pK SK
structure Cn (M R:Nat)(H:Hp)(st lo ls:aj)(G SK:List Kd):Prop where
 ok:nj (zA M R) H st
 ow:OwL H lo G
 sh:ShL H ls SK
 no:lo≠st
 ns:ls≠st
 hg:∀k∈G,hk k<=30
 hs:∀k∈SK,hk k<=30
 lg:G.length<=60
 br:1<=M/\M<=6/\1<=R/\R<=5
 ll:SK.length<=20
theorem Cn.grow {M R:Nat}{H H':Hp}{st lo ls:aj}{G SK:aP Kd}(c:Cn M R H st lo ls G SK)(g:jk (zA M R) st H H'):Cn M R H' st lo ls G SK:=by
 have tp:=dj c.ok g;obtain⟨Ef,h1,l1,a1⟩:=c.ow;obtain⟨pK,h2,a2⟩:=c.sh;refine⟨g.ok,⟨Ef,g.1 _ _ c.no h1,l1,λi k hk=>?_⟩,⟨pK,g.1 _ _ c.ns h2,a2.mono λv k=>nq.tps tp⟩,c.no,c.ns,c.hg,c.hs,c.lg,c.br,c.ll⟩;obtain⟨p,kv,x1,x2,x3⟩:=a1 i k hk;exact⟨p,kv,x1,tp _ _ x2,x3.tps tp⟩
theorem Cn.more {M R:Nat}{H:Hp}{st lo ls lo2 p:aj}{G SK:aP Kd}{kv:V}{k:Kd}{Ef:aP V}(c:Cn M R H st lo ls G SK)(ho:H lo=some (.lst Ef))(h2:H lo2=some (.lst<|Ef++[.ref p]))(n2:lo2≠st)(hp:H p=some (.tup [.str (iz G.length),kv]))(hk1:nq H kv k)(h30:hk k<=30)(lg:G.length+1<=60):Cn M R H st lo2 ls (G++[k]) SK:=by
 obtain⟨ae5,h1,l1,a1⟩:=c.ow;rw[ho]at h1;cases h1;refine⟨c.ok,⟨_,h2,by rw[afu,afu,l1];rfl,λi k' hi=>?_⟩,c.sh,n2,c.ns,λk' hk'=>?_,c.hs,by rw[afu];exact lg,c.br,c.ll⟩
 ·by_cases z:i<G.length
  ·rw[afC z]at hi
   obtain⟨p',kv',x1,x2,x3⟩:=a1 i k' hi;exact⟨p',kv',by rw[afC (by exact afR z l1.symm)];exact x1,x2,x3⟩
  ·have li:=(ahW hi).1
   rw[afu]at li;have ei:i=G.length:=by simp at li;omega
   subst ei;simp at hi;subst hi;exact⟨p,kv,by rw[<-l1];simp,hp,hk1⟩
 ·rcases agd.mp hk' with z|z
  ·exact c.hg k' z
  ·rw[afN]at z;subst z;exact h30
def Du:Sp:=λvs H Q _=>∃(tl:List V) (st:aj),vs=[.ref st]/\nj tl H st/\∀(i:Int) H',gG i=true->jk tl st H H'->Q (.int i) H'
def Dv:Sp:=λvs H Q _=>∃(tl:List V) (st:aj),vs=[.ref st]/\nj tl H st/\∀(v:V) (k:Kd) H',nq H' v k->uq k<=2->hk k<=2->jk tl st H H'->Q v H'
section
abbrev JG:aJ:=top 51
theorem Mq:cu ["_law_state","_law_number_here"] ["_law_state"] (bN JG):={}
theorem X4 (F:gY K "_law_number" "_law_number" JG f fd)(h1:Has P w K mg aV 1 "_law_next" ["_law_state","_law_many"] j7):cX P w K mg aV jG 2 f fd ["_law_state"] Du:=by
 refine F.ok Mq (λdJ A aU s H vs Q E hr h=>?_) (by rintro _ _ _ _ ⟨_,_,rfl,_⟩;rfl);obtain⟨tl,st,rfl,ok,q⟩:=h;refine⟨_,bI (eU 1 Mq.nd (cU iw (cP h1 hr (by decide) rfl (bx (pv 0)<|bx bJ bG)) bJ))
  (bI (dB (cA eV (cP h1 hr (by decide) rfl (bx (pv 0)<|bx bJ bG)) bJ)
   (bQ (cO (cU gJ (cU BZ (pv 1)<|cU HS bJ bJ) (cP h1 hr (by decide) rfl (bx (pv 0)<|bx bJ bG))))) cR)
  (bQ<|cO (pv 1))),?_⟩
 have eg:IK=10^60:=rfl;have e28:(10:Int)^(28:Int).toNat=10000000000000000000000000000:=by decide
 refine⟨_,rfl,tl,st,12,rfl,ok,by decide,by decide,λd H1 d0 d1 g1=>⟨_,_,rfl,rfl,?_⟩⟩;refine⟨_,rfl,tl,st,12,rfl,g1.ok,by decide,by decide,λe H2 e0 e1 g2=>⟨rfl,_,rfl,gO (λc=>?_) λc=>?_⟩⟩
 ·refine⟨_,rfl,10,28,rfl,rfl,⟨by decide,by decide,by decide⟩,_,_,rfl,rfl,?_,_,rfl,tl,st,7,rfl,g2.ok,by decide,by decide,λa H3 a0 a1 g3=>⟨_,_,rfl,rfl,?_⟩⟩
  ·rw[e28]
   exact IV (by rw[eg];omega) (by rw[eg];omega) (by rw[eg];omega) (by rw[eg];omega)
  ·rw[e28]
   exact q _ H3 (Pj.mpr ⟨by rw[eg];omega,by rw[eg];omega⟩)<|g1.trans (g2.trans g3)
 ·exact⟨_,rfl,q _ H2 (Pj.mpr ⟨by rw[eg];omega,by rw[eg];omega⟩)<|g1.trans g2⟩
abbrev lA:aJ:=top 53
noncomputable abbrev nKi:List Str:=["_law_state","_law_some"]
theorem wJ:cu nKi ["_law_state"] (bN lA):={}
@[irreducible] noncomputable def X5:aJ:=(cY lA).getD 1 (.Pass ⟨0,0,0,0⟩)
@[irreducible] noncomputable def X6:aJ:=(cY lA).getD 0 (.Pass ⟨0,0,0,0⟩)
@[irreducible] noncomputable def X7:aJ:=(cY lA).getD 2 (.Pass ⟨0,0,0,0⟩)
def adG:List aJ:=(cY lA).drop 3
theorem adH:cY lA=X6::X5::X7::adG:=by
 unfold X6 X5 X7
 rfl
theorem Ud:Loc (bN lA) "_law_some":=Or.inl rfl
def tK1:TS:=λD U H=>∃(st l0:aj),U=[some (.ref st),some (.ref l0)]/\H l0=some (.lst [.str "n"])/\
 ∀(l1 p1 p2 p3:aj) H',Same H H'->H l1=none->H' l1=some (.lst [.str "n", .ref p1, .ref p3])->H' p1=some (.tup [.str "f", .str "n", .str "n"])->H' p2=some (.tup [.str "f", .str "n", .str "n"])->H' p3=some (.tup [.str "f", .str "n", .ref p2])->D.nx [some (.ref st),some (.ref l1)] H'
theorem X8 {dJ:ak}{A:aq}{aU:aP Env}{s:ao}{H:Hp}{E:XK}:Ir (dX jG P w K mg aV nKi "_law_kind" (bN lA) f dJ A aU s H E).HB X6 (vH (VB<|ig (tC<|.str "n") sO)<|jy 1):=by
 unfold X6;exact zV (i:=1) (x:="_law_some") wJ.nd rfl Ud (uY<|fO kj) Oa (.inl rfl)
theorem Yb {dJ:ak}{A:aq}{aU:aP Env}{s:ao}{H:Hp}{E:XK}:Ir (dX jG P w K mg aV nKi "_law_kind" (bN lA) f dJ A aU s H E).HB X5 tK1:=by
 unfold X5;refine uM (zV (i:=1) (x:="_law_some") wJ.nd rfl Ud (ac6 lU (Ru 1)<|uY (V9 (sY<|fO (fO<|fO kj))<|V9 (sY<|fO (fO<|V9 (sY<|fO (fO<|fO kj)) kj)) kj)) zY (.inl rfl)) ?_;rintro D U H ⟨st,l0,rfl,hl0,nxt⟩;refine⟨_,rfl,(fH 3),λp1 hp1=>?_⟩;have a1:=bK hp1 (.tup [.str "f", .str "n", .str "n"]);have b1:(upd H p1<|.tup [.str "f", .str "n", .str "n"]) p1=some (.tup [.str "f", .str "n", .str "n"]):=bA;revert a1 b1;generalize upd H p1 (.tup [.str "f", .str "n", .str "n"])=H1;intro a1 b1;refine⟨(fH 3),λp2 hp2=>?_⟩;have a2:=bK hp2 (.tup [.str "f", .str "n", .str "n"]);have b2:(upd H1 p2<|.tup [.str "f", .str "n", .str "n"]) p2=some (.tup [.str "f", .str "n", .str "n"]):=bA;revert a2 b2;generalize upd H1 p2 (.tup [.str "f", .str "n", .str "n"])=H2;intro a2 b2;refine⟨(fH 3),λp3 hp3=>?_⟩;have a3:=bK hp3 (.tup [.str "f", .str "n", .ref p2]);have b3:(upd H2 p3<|.tup [.str "f", .str "n", .ref p2]) p3=some (.tup [.str "f", .str "n", .ref p2]):=bA;revert a3 b3;generalize upd H2 p3 (.tup [.str "f", .str "n", .ref p2])=H3;intro a3 b3;refine⟨(fH 2),λl4 ZF=>?_⟩;have a4:=bK ZF (.lst [.ref p1, .ref p3]);have b4:(upd H3 l4<|.lst [.ref p1, .ref p3]) l4=some (.lst [.ref p1, .ref p3]):=bA;revert a4 b4;generalize upd H3 l4 (.lst [.ref p1, .ref p3])=H4;intro a4 b4;have s04:=a1.trans (a2.trans<|a3.trans a4);refine⟨l0,l4,_,_,rfl,rfl,s04 _ _ hl0,b4,small (by show 1+2<=1000000;decide),λl5 O4=>?_⟩;have a5:=bK O4 (.lst ([.str "n"]++[.ref p1, .ref p3]));exact nxt l5 p1 p2 p3 _ (s04.trans a5) (s04.free O4) bA (a5 _ _<|a4 _ _ (a3 _ _<|a2 _ _ b1)) (a5 _ _<|a4 _ _ (a3 _ _ b2))<|a5 _ _ (a4 _ _ b3)
theorem Yc {dJ:ak}{A:aq}{aU:aP Env}{s:ao}{H:Hp}{E:XK}:Ir (dX jG P w K mg aV nKi "_law_kind" (bN lA) f dJ A aU s H E).HB X7 (vH (Hw acQ (pL 1)<|VB (ig (tC<|.str "b")<|ig (tC<|.str "r") sO))<|jy 1):=by
 unfold X7;exact zV (i:=1) (x:="_law_some") wJ.nd rfl Ud (ac6 lU (Ru 1)<|uY (fO<|fO kj)) zY (.inl rfl)
theorem Yd (F:gY K "_law_kind" "_law_kind" lA f fd)(ml:mg "len"=none)(h1:Has P w K mg aV 1 "_law_next" ["_law_state","_law_many"] j7):cX P w K mg aV jG 2 f fd ["_law_state"] Dv:=by
 refine F.ok wJ (λdJ A aU s H vs Q E hr h=>?_) (by rintro _ _ _ _ ⟨_,_,rfl,_⟩;rfl);obtain⟨tl,st,rfl,ok,q⟩:=h;rw[adH];refine⟨_,bI X8.h (bI Yb.h (bI Yc.h (bQ (cO (bZ (rE K) (pv 1) (cP h1 hr (by decide) rfl (bx (pv 0)<|bx (cJ (kI K) rfl ml ahS (bx (pv 1) bG)) bG))))))),?_⟩;refine⟨(fH 1),λl0 hl0=>?_⟩;have s0:=bK hl0 (.lst [.str "n"]);refine⟨st,l0,rfl,bA,λl1 p1 p2 p3 H1 s1 hl1 e1 e2 e3 e4=>?_⟩;refine⟨_,rfl,(fH 2),λl2 hl2=>?_⟩;have s2:=bK hl2 (.lst [.str "b", .str "r"]);refine⟨l1,l2,_,_,rfl,rfl,s2 _ _ e1,bA,small (by show 3+2<=1000000;decide),λl3 hl3=>?_⟩;have s3:=bK hl3 (.lst ([.str "n", .ref p1, .ref p3]++[.str "b", .str "r"]));have e5:(upd (upd H1 l2<|.lst [.str "b", .str "r"]) l3<|.lst ([.str "n", .ref p1, .ref p3]++[.str "b", .str "r"])) l3=some (.lst [.str "n", .ref p1, .ref p3, .str "b", .str "r"]):=bA;have Ue:=s2.trans s3;have s03:=(s0.trans s1).trans Ue;have ok1:=ok.same s03;have n1:l3≠st:=by
  obtain⟨x,y,hx⟩:=ok;exact cH hl3<|s2 _ _ (s1 _ _<|s0 _ _ hx)
 have e2':=Ue _ _ e2;have e3':=Ue _ _ e3;have e4':=Ue _ _ e4;revert s03 ok1 e5 e2' e3' e4';generalize upd (upd H1 l2<|.lst [.str "b", .str "r"]) l3 (.lst ([.str "n", .ref p1, .ref p3]++[.str "b", .str "r"]))=H3;intro e5 s03 ok1 e2' e3' e4';refine⟨_,rfl,_,rfl,_,rfl,l3,_,rfl, .inl<|dD.of e5,tl,st,_,rfl,ok1,by show(0:Int)<5;decide,by show(5:Int)<1000000;decide,λd H2 d0 d1 g2=>?_⟩;have d1:d<5:=d1;have tp:=dj ok1 g2;have Bb:=(cQ ok s03).trans g2;obtain⟨dn,rfl⟩:∃n:Nat,d=(n:Int):=⟨d.toNat,(Int.toNat_of_nonneg d0).symm⟩;have:=n5 (n:=dn) (Int.ofNat_lt.mp d1);rcases this with rfl|rfl|rfl|rfl|rfl
 ·exact⟨l3,_,_,_,rfl,rfl,dD.of<|g2.1 _ _ n1 e5,cg (j:=0) rfl,q _ .n _ .n (by decide) (by decide) Bb⟩
 ·exact⟨l3,_,_,_,rfl,rfl,dD.of<|g2.1 _ _ n1 e5,cg (j:=1) rfl,q _ (.f .n .n) _ (.f (tp _ _ e2') .n .n) (by decide) (by decide) Bb⟩
 ·exact⟨l3,_,_,_,rfl,rfl,dD.of<|g2.1 _ _ n1 e5,cg (j:=2) rfl,q _ (.f .n<|.f .n .n) _ (.f (tp _ _ e4') .n<|.f (tp _ _ e3') .n .n) (by decide) (by decide) Bb⟩
 ·exact⟨l3,_,_,_,rfl,rfl,dD.of<|g2.1 _ _ n1 e5,cg (j:=3) rfl,q _ .b _ .b (by decide) (by decide) Bb⟩
 ·exact⟨l3,_,_,_,rfl,rfl,dD.of<|g2.1 _ _ n1 e5,cg (j:=4) rfl,q _ .r _ .r (by decide) (by decide) Bb⟩
end
noncomputable def Bg:Kd->V
 |.b=>.str "b"
 |.r=>.str "r"
 |_=>.str "n"
noncomputable def fZ (q:Nat):List V:=(iU q).map Bg
inductive Ug (vs:List V)(H:Hp)(Q:VK)(E_:XK):Prop where
 |mk (q:Nat):vs=[.int (q:Int)]->q<6->(∀(p:aj) H',Same H H'->H' p=some (.tup<|fZ q)->Q (.ref p) H')->Ug vs H Q E_
section
abbrev Pr:aJ:=top 52
noncomputable abbrev nFl:List Str:=["_law_number_here"]
theorem adI:cu nFl nFl (bN Pr):={}
@[irreducible] noncomputable def Ye:aJ:=(cY Pr).getD 0 (.Pass ⟨0,0,0,0⟩)
theorem adJ:cY Pr=[Ye]:=by
 unfold Ye
 rfl
def tF0:TS:=λD U H=>∃q:Nat,U=[some (.int (q:Int))]/\q<6/\∀(p:aj) H',Same H H'->H' p=some (.tup<|fZ q)->D.rt (.ref p) H'
theorem Yg {dJ:ak}{A:aq}{aU:aP Env}{s:ao}{H:Hp}{E:XK}:Ir (dX jG P w K mg aV nFl "_law_fields" (bN Pr) f dJ A aU s H E).HB Ye tF0:=by
 unfold Ye;refine uM (acZ<|ac7 (rE K) (uY<|V9 (sY kj) (V9 (sY<|fO kj)<|V9 (sY<|fO (fO kj)) (V9 (sY<|fO (fO<|fO kj))<|V9 (sY<|fO (fO<|fO (fO kj))) (V9 (sY<|fO (fO<|fO (fO (fO kj)))) kj)))) (Ru 0) (λ_ _=>rfl)) ?_;rintro D U H ⟨q,rfl,hq,nxt⟩;refine⟨(fH 0),λp0 h0=>?_⟩;have a0:=bK h0 (.tup []);have b0:(upd H p0<|.tup []) p0=some (.tup<|fZ 0):=bA;revert a0 b0;generalize upd H p0 (.tup [])=H0;intro a0 b0;refine⟨(fH 1),λp1 h1=>?_⟩;have a1:=bK h1 (.tup<|fZ 1);have b1:(upd H0 p1<|.tup (fZ 1)) p1=some (.tup<|fZ 1):=bA;revert a1 b1;show ∀_ _,ig _ _ _ (upd H0 p1<|.tup (fZ 1)) _;generalize upd H0 p1 (.tup<|fZ 1)=H1;intro a1 b1;refine⟨(fH 2),λp2 h2=>?_⟩;have a2:=bK h2 (.tup<|fZ 2);have b2:(upd H1 p2<|.tup (fZ 2)) p2=some (.tup<|fZ 2):=bA;revert a2 b2;show ∀_ _,ig _ _ _ (upd H1 p2<|.tup (fZ 2)) _;generalize upd H1 p2 (.tup<|fZ 2)=H2;intro a2 b2;refine⟨(fH 3),λp3 h3=>?_⟩;have a3:=bK h3 (.tup<|fZ 3);have b3:(upd H2 p3<|.tup (fZ 3)) p3=some (.tup<|fZ 3):=bA;revert a3 b3;show ∀_ _,ig _ _ _ (upd H2 p3<|.tup (fZ 3)) _;generalize upd H2 p3 (.tup<|fZ 3)=H3;intro a3 b3;refine⟨(fH 4),λp4 h4=>?_⟩;have a4:=bK h4 (.tup<|fZ 4);have b4:(upd H3 p4<|.tup (fZ 4)) p4=some (.tup<|fZ 4):=bA;revert a4 b4;show ∀_ _,ig _ _ _ (upd H3 p4<|.tup (fZ 4)) _;generalize upd H3 p4 (.tup<|fZ 4)=H4;intro a4 b4;refine⟨(fH 5),λp5 h5=>?_⟩;have a5:=bK h5 (.tup<|fZ 5);have b5:(upd H4 p5<|.tup (fZ 5)) p5=some (.tup<|fZ 5):=bA;revert a5 b5;show ∀_ _,sO _ (upd H4 p5<|.tup (fZ 5)) _;generalize upd H4 p5 (.tup<|fZ 5)=H5;intro a5 b5;refine⟨(fH 6),λl6 h6=>?_⟩;have a6:=bK h6 (.lst [.ref p0, .ref p1, .ref p2, .ref p3, .ref p4, .ref p5]);have s5:=a5.trans a6;have s4:=a4.trans s5;have s3:=a3.trans s4;have s2:=a2.trans s3;have s1:=a1.trans s2;have s0:=a0.trans s1;have:=n6 hq;rcases this with rfl|rfl|rfl|rfl|rfl|rfl
 ·exact⟨_,rfl,l6,_,_,_,rfl,rfl,dD.of bA,cg (j:=0) rfl,nxt _ _ s0<|s1 _ _ b0⟩
 ·exact⟨_,rfl,l6,_,_,_,rfl,rfl,dD.of bA,cg (j:=1) rfl,nxt _ _ s0<|s2 _ _ b1⟩
 ·exact⟨_,rfl,l6,_,_,_,rfl,rfl,dD.of bA,cg (j:=2) rfl,nxt _ _ s0<|s3 _ _ b2⟩
 ·exact⟨_,rfl,l6,_,_,_,rfl,rfl,dD.of bA,cg (j:=3) rfl,nxt _ _ s0<|s4 _ _ b3⟩
 ·exact⟨_,rfl,l6,_,_,_,rfl,rfl,dD.of bA,cg (j:=4) rfl,nxt _ _ s0<|s5 _ _ b4⟩
 ·exact⟨_,rfl,l6,_,_,_,rfl,rfl,dD.of bA,cg (j:=5) rfl,nxt _ _ s0<|a6 _ _ b5⟩
theorem adK (F:gY K "_law_fields" "_law_fields" Pr f fd):cX P w K mg aV jG 1 f fd nFl Ug:=by
 refine F.ok adI λdJ A aU s H vs Q E hr h=>?_;obtain⟨q,rfl,hq,nxt⟩:=h;rw[adJ];exact⟨_,bQ Yg.h,q,rfl,hq,nxt⟩
end
theorem Z8:((["_law_name","_law_other"]:aP Str)++(["_law_kind_here"]:aP Str)).Nodup:=by decide+kernel
theorem Z9:((["_law_k","_law_other"]:aP Str)++(["_law_kind_here"]:aP Str)).Nodup:=by decide+kernel
theorem Mr:∀i:Nat,i<=80->(Str.ofString<|toString ((i:Nat):Int)).length<=5:=by decide+kernel
theorem qR {i:Int}(h1:0<=i)(h2:i<=1000):i.natAbs.log2<1920:=by
 by_cases z:i.natAbs=0
 ·rw[z];decide
 ·exact(Nat.log2_lt z).mpr (agE (show i.natAbs<=1000 by omega)<|by decide+kernel)
theorem JH {K:aN}{H:Hp}{n:Nat}{a:aj}{xs:aP V}{g:TG}{tt:TT}{te:TE}{U':L2.St}{Q:VK}(Pv:Nat->aP V->Hp->Prop)(h0:Pv 0 [] H)(hl:∀i vs H,i<=xs.length->Pv i vs H->dD K H a xs/\vs.length<sizeLine)
  (hs:∀i x vs H2 (τ:L2.St),τ.length=n->i<xs.length->xs[i]?=some x->Pv i vs H2->g x (τ++U') H2 λU1 H3=>(∃Zd:L2.St,U1=Zd++U'/\Zd.length=n)/\tt U1 H3 λb H4=>if b=true then te U1 H4 λv H5=>Nx xs.length i (Pv (i+1) (vs++[v]) H5) else Nx xs.length i (Pv (i+1) vs H4))
  (hd:∀vs H2,Pv xs.length vs H2->∀l,H2 l=none->Q (.ref l) (upd H2 l<|.lst vs)):Bw n (Itl K a) g tt te U' Q H:=by
 refine⟨λi m vs H=>m=xs.length-i/\i<=xs.length/\Pv i vs H,⟨xs.length,by simp,afY _,h0⟩,?_⟩;rintro i m vs H2 ⟨rfl,hi,p⟩;obtain⟨q1,q2⟩:=hl i vs H2 hi p;refine⟨q2,?_⟩;by_cases jf:i<xs.length
 ·refine .inr ⟨⟨xs,xs[i],q1,by simp[jf]⟩,?_⟩
  rintro τ x H3 Nz ⟨e,y⟩;subst e;exact hs i x vs _ τ Nz jf (y xs q1) p
 ·have e:i=xs.length:=by exact ago hi (Nat.not_lt.mp jf)
  subst e;exact .inl ⟨⟨xs,q1,afv _⟩,hd vs H2 p⟩
theorem oA.snoc {H:Hp}{v:V}{t:Tm}{vs:aP V}{ts:aP Tm}(k:oA H vs ts)(h:iW H v t):oA H (vs++[v]) (ts++[t]):=k.ind (.cons h .nil) λr _ ih=>.cons r ih
theorem aac {M R:Nat}{SK G:List Kd}:∀{ts:List Tm},(∀t∈ts,∃j,t=.n j/\gG j=true)->u0 M R SK G ts (List.replicate ts.length .n)/\iJ ts=0/\yc ts=2*ts.length
 |[],_=>⟨rfl,rfl,rfl⟩
 |t::ts,h=>by
  obtain⟨j,rfl,hj⟩:=h t afE;obtain⟨a,b,c⟩:=aac (M:=M) (R:=R) (SK:=SK) (G:=G) (ts:=ts) λu hu=>h u (afA _ hu);refine⟨⟨.n,List.replicate ts.length .n,rfl,⟨rfl,hj⟩,a⟩,?_,?_⟩
  ·unfold iJ;rw[b];rfl
  ·unfold yc;rw[c,af4];simp only[sz];omega
def Lf (M R:Nat)(H:Hp)(SK G:List Kd)(k:Kd)(v:V):Prop:=∃t,iW H v t/\WT M R SK G t k/\dep t=0/\sz t=1
theorem Lf.same {M R:Nat}{H H':Hp}{SK G:aP Kd}{k:Kd}{v:V}(h:Lf M R H SK G k v)(s:Same H H'):Lf M R H' SK G k v:=by
 obtain⟨t,h1,h2⟩:=h;exact⟨t,h1.same s,h2⟩
theorem Lf.tps {M R:Nat}{H H':Hp}{SK G:aP Kd}{k:Kd}{v:V}(h:Lf M R H SK G k v)(s:yV H H'):Lf M R H' SK G k v:=by
 obtain⟨t,h1,h2⟩:=h;exact⟨t,h1.tps s,h2⟩
inductive yK (n:Nat)(vs:List V)(H:Hp)(Q:VK)(E_:XK):Prop where
 |mk (M R:Nat) (st lo ls:aj) (kv:V) (G SK:List Kd) (k:Kd):vs=[.ref st, .ref lo, .ref ls,kv]->Cn M R H st lo ls G SK->nq H kv k->uq k<=n->hk k<=30->G.length+uq k<=60->(∀v t H',iW H' v t->WT M R SK G t k->dep t<=uq k+1->sz t<=uq k+11->jk (zA M R) st H H'->Q v H')->yK n vs H Q E_
def Ms:Nat->Sp
 |0=>λ_ _ _ _=>False
 |n+1=>yK n
def adL (n:Nat):TS:=λD U H=>∃(M R:Nat) (st lo ls:aj) (kv:V) (o4 o5:Option V) (G SK:List Kd) (k:Kd),U=[some (.ref st),some<|.ref lo,some<|.ref ls,some kv,o4,o5]/\Cn M R H st lo ls G SK/\nq H kv k/\uq k<=n/\hk k<=30/\G.length+uq k<=60/\
 ∀v t H',iW H' v t->WT M R SK G t k->dep t<=uq k+1->sz t<=uq k+11->jk (zA M R) st H H'->D.rt v H'
section
abbrev rT:aJ:=top 54
noncomputable abbrev pLf:List Str:=["_law_state","_law_own_here","_law_shared","_law_kind_here"]
noncomputable abbrev nLf:List Str:=["_law_state","_law_own_here","_law_shared","_law_kind_here","_law_some","_law_name"]
theorem wK:cu nLf pLf (bN rT):={}
set_option maxHeartbeats 4000000 in
theorem Yh {n:Nat}(F:gY K "_law_leaf" "_law_leaf" rT f fd)(ml:mg "len"=none)(mE:mg "enumerate"=none)(ms:mg "str"=none)(mt:mg "tuple"=none)(mr:mg "range"=none)(h1:Has P w K mg aV 1 "_law_next" ["_law_state","_law_many"] j7)(h2:Has P w K mg aV 2 "_law_number" ["_law_state"] Du)
  (h3:Has P w K mg aV (2+n) "_law_leaf" pLf (Ms n)):cX P w K mg aV jG (3+n) f fd pLf (yK n):=by
 rw[show 3+n=(2+n)+1 by omega];refine F.ok wK λdJ A aU s H vs Q E hr h=>?_;obtain⟨M,R,st,lo,ls,kv,G,SK,k,rfl,cn,hkv,hrs,h30,lG,q⟩:=h;obtain⟨Ef,qX,lov,aov⟩:=cn.ow;obtain⟨pK,hls,asv⟩:=cn.sh;have hu:=hr.QT;have uR:=hr.units;have hz:=sizeLine_eq;have lg:=cn.lg;have lls:=cn.ll;refine⟨_,bI (Ub (g:=M6 K 2<|sG (jy 0) (sG (jy 1) Qy)) (bN rT) nLf ["_law_name","_law_other"] ["_law_kind_here"] [3] (by decide+kernel) (piL K<|pv 1) (dF (i:=4) wK.nd rfl (Or.inl rfl))
   (λC s₀ H₀ ex=>Zt K (n:=2) rfl (fK (dF (i:=0) Z8 rfl (Or.inl rfl) (Or.inr rfl))<|fK (dF (i:=1) Z8 rfl (Or.inl rfl) (Or.inr rfl)) mq))
   (λC s₀ H₀ ex=>KC<|cA (qx uR) (pv 1) (pv 2)) (λC s₀ H₀ ex=>cV<|bx bU (bx (pv 0) bG)) (by with_unfolding_all rfl))
  (bI (eU 4 wK.nd (cU lU (pv 4) (RJ (g:=M6 K 2<|sG (jy 0) (sG (jy 1) Qy)) (bN rT) nLf ["_law_k","_law_other"] ["_law_kind_here"] [3] (by decide+kernel) (GZ rfl mE (pv 2))
   (λC s₀ H₀ ex=>Zt K (n:=2) rfl (fK (dF (i:=0) Z9 rfl (Or.inl rfl) (Or.inr rfl))<|fK (dF (i:=1) Z9 rfl (Or.inl rfl) (Or.inr rfl)) mq))
   (λC s₀ H₀ ex=>KC<|cA (qx uR) (pv 1) (pv 2)) (λC s₀ H₀ ex=>cV<|bx bU (bx (pv 0) bG)))))
  (bI (dB (PW.pt (uw (cA (abV hu) (pv 4)<|dO bG) (vQ (cA zJ (cP h1 hr (by omega) rfl (bx (pv 0)<|bx bJ bG)) bJ))))
   (bQ (cO (bZ (rE K) (pv 4) (cP h1 hr (by omega) rfl (bx (pv 0)<|bx (cJ (kI K) rfl ml ahS (bx (pv 4) bG)) bG))))) cR)
  (O1 (t':=adL n) (bI (dB (cA (qx uR) (pv 3) bU) (bQ<|cO (cV<|bx bU (bx bJ<|bx (cV bG) bG))) cR)
  (bI (dB (cA (qx uR) (pv 3) bU) (bQ (cO (cV (bx bU (bx bJ (bx (cZ (BW K) rfl mt boot_tuple (bx
   (KD (te:=Ni<|ig (tC<|.str "n") (ig (En Du [] E0 (ig (pL 1) sO)) sO)) (bN rT) nLf ["_law_state"] [0] (by decide+kernel) (jK rfl mr (bx (bZ (rE K) (pv 0) bJ) bG)) (λC s₀ H₀ ex=>j8)
    (λC s₀ H₀ ex=>cV (bx bU (bx (cP h2 hr (by exact afF _ _) rfl (bx (pv 1) bG)) bG)))) bG)) bG)))))) cR)
  (bI (dB (cA (T9 uR) (pv 3) bU)
   (bI (eU 5 wK.nd<|cU oV bU (cZ jP rfl ms boot_str (bx (cJ (kI K) rfl ml ahS (bx (pv 1) bG)) bG)))
   (bQ (cO (cV (bx bU (bx (pv 5) (bx (cP h3 hr (by exact afv _) rfl (bx (pv 0)<|bx (cU lU (pv 1)<|dO (bx (cV<|bx (pv 5) (bx (bZ (fG K) (pv 3) bJ) bG)) bG)) (bx (pv 2)<|bx (bZ (fG K) (pv 3) bJ) bG))) bG))))))) cR)
  (bQ (cO (cV (bx bU (bx (cP h2 hr (by exact afF _ _) rfl (bx (pv 0) bG)) bG)))))))) ?qr))),?_⟩
 case qr=>
  rintro D U H6 ⟨M,R,st,lo,ls,kv,o4,o5,G,SK,k,rfl,Vk,Ql,hrs,h30,lG,q⟩;refine⟨_,rfl,k, .b,Ql, .b,by exact afy h30 (by decide),_,rfl,gO (λc=>?_) λcb=>?_⟩
  ·have ck:k=.b:=ahM c
   subst ck;refine⟨(fH 0),λp7 yq=>?_⟩;have a7:=bK yq (.tup []);refine⟨(fH 3),λp8 hp8=>?_⟩;have a8:=bK hp8 (.tup [.str "block", .int 0, .ref p7]);exact q _ (.block 0 []) _ (.block bA (a8 _ _ bA) .nil) ⟨afY _, .inl ⟨rfl,0,rfl,by have:=Vk.br.1;exact this,rfl⟩⟩ (by simp[dep,iJ,uq]) (by simp[sz,yc,uq])<|cQ Vk.ok (a7.trans a8)
  have nb:k≠.b:=λz=>cb (ahN z);refine⟨_,rfl,k, .r,Ql, .r,by exact afy h30 (by decide),_,rfl,gO (λc=>?_) λcr=>?_⟩
  ·have ck:k=.r:=ahM c
   subst ck;obtain⟨xa,xb,jY⟩:=id Vk.ok;have br:=Vk.br;refine⟨_,rfl,st,_,3, .int (R:Int),rfl,rfl,dD.of jY,cg (j:=3) rfl,(R:Int),rfl,by omega,by omega,?_⟩;rw[af5];refine oY (n:=R) (λi vs H'=>jk (zA M R) st H6 H'/\∃ts:aP Tm,vs.length=i/\ts.length=i/\oA H' vs ts/\∀t∈ts,∃j,t=.n j/\gG j=true) ⟨jk.refl Vk.ok,[],rfl,rfl, .nil,λt h=>by simp at h⟩ ?_ ?_ ?_
   ·rintro i vs H' hi ⟨_,ts,l1,_⟩
    exact cW (by omega)
   ·rintro i vs H' hi ⟨g,ts,l1,l2,tm,nm⟩
    refine Zg<|uH ⟨_,rfl,_,st,rfl,g.ok,λj H8 hj g8=>⟨(fH 2),λpp hpp=>nx hi ?_⟩⟩;have s9:=bK hpp (.tup [.str "n", .int j]);refine⟨g.trans<|g8.trans (cQ g8.ok s9),ts++[.n j],by rw[afu,l1];rfl,by rw[afu,l2];rfl,((tm.tps<|dj g.ok g8).tps λb ys h=>s9 b _ h).snoc<|.n bA,λt ht=>?_⟩;rcases agd.mp ht with z|z
    ·exact nm t z
    ·rw[afN]at z;exact⟨j,z,hj⟩
   ·rintro vs H' ⟨g,ts,l1,l2,tm,nm⟩ l7 hl7
    have s7:=bK hl7 (.lst vs);refine⟨l7,vs,rfl, .inl ⟨dD.of bA,λp8 hp8=>?_⟩⟩;have s8:=bK hp8 (.tup vs);refine⟨(fH 3),λp9 hp9=>?_⟩;have s9:=bK hp9 (.tup [.str "block", .int 0, .ref p8]);have s79:=s7.trans (s8.trans s9);obtain⟨w1,w2,w3⟩:=aac (M:=M) (R:=R) (SK:=SK) (G:=G) nm;rw[l2]at w1 w3;exact q _ (.block 0 ts) _ (.block bA (s9 _ _ bA)<|tm.tps λb ys h=>s79 b _ h) ⟨by omega, .inr ⟨rfl,rfl,w1⟩⟩ (by simp only[dep,w2,uq];exact afv _) (by simp only[sz,w3,uq];omega)<|g.trans (cQ g.ok s79)
  have nr:k≠.r:=λz=>cr (ahN z);refine⟨_,rfl,k, .n,_,Ql,rfl,rfl,_,rfl,gO (λc=>?_) λc=>?_⟩
  ·cases Ql with
   |@w _ x e=>exact absurd (ahM c) (by cases k<;>first|exact λz=>z rfl|exact absurd rfl nb|exact absurd rfl nr|cases e)
   |@f p a r ka kr ZJ ka6 kr6=>
    simp only[uq,hk]at hrs h30 lG;obtain⟨Uh,JK,abW,_⟩:=Vk.ow;obtain⟨j,rfl⟩:∃j,n=j+1:=⟨n-1,by omega⟩;refine⟨_,rfl,lo,_,rfl, .inl<|dD.of JK,?_⟩;rw[abW];have lx:=Mr G.length (by omega);refine⟨_,rfl,qR (by omega) (by omega),"x",_,rfl,rfl,(by rw[show("x":Str).length=1 from by decide+kernel];omega),?_⟩;rw[show("x"++(toString ((G.length:Nat):Int):Str):Str)=iz G.length from rfl];refine⟨_,rfl,_,rfl,_,rfl,_,rfl,dN (a:=p) (j:=1) rfl ZJ rfl ⟨(fH 2),λp7 yq=>?_⟩⟩;have a7:=bK yq (.tup [.str (iz G.length),a]);have b7:(upd H6 p7<|.tup [.str (iz G.length),a]) p7=some (.tup [.str (iz G.length),a]):=bA;revert a7 b7;generalize upd H6 p7 (.tup [.str (iz G.length),a])=H7;intro a7 b7;refine⟨(fH 1),λl8 O6=>?_⟩;have a8:=bK O6 (.lst [.ref p7]);have b8:(upd H7 l8<|.lst [.ref p7]) l8=some (.lst [.ref p7]):=bA;revert a8 b8;generalize upd H7 l8 (.lst [.ref p7])=H8;intro a8 b8;have Ui:=a7.trans a8;refine⟨lo,l8,_,_,rfl,rfl,Ui _ _ JK,b8,small (by show Uh.length+1<=1000000;omega),λl9 hl9=>?_⟩;have a9:=bK hl9 (.lst<|Uh++[.ref p7]);have b9:(upd H8 l9<|.lst (Uh++[.ref p7])) l9=some (.lst<|Uh++[.ref p7]):=bA;have n9:l9≠st:=by
     obtain⟨x,y,hx⟩:=Vk.ok;exact cH hl9<|Ui _ _ hx
    revert a9 b9;generalize upd H8 l9 (.lst<|Uh++[.ref p7])=H9;intro a9 b9;have zB:=Ui.trans a9;have g9:=cQ Vk.ok zB;have cn9:Cn M R H9 st l9 ls (G++[ka]) SK:=(Vk.grow g9).more (zB _ _ JK) b9 n9 (a9 _ _<|a8 _ _ b7) (ka6.same zB) (by omega) (by omega);refine⟨_,rfl,dN (a:=p) (j:=2) rfl (zB _ _ ZJ) rfl ⟨M,R,st,l9,ls,r,G++[ka],SK,kr,rfl,cn9,kr6.same zB,by omega,by omega,by rw[afu];simp;omega,λv t Jr tl wt dt zt JL=>?_⟩⟩;refine⟨(fH 3),λp11 Uj=>?_⟩;have a11:=bK Uj (.tup [.str "fun", .str<|iz G.length,v]);exact q _ (.fn G.length t) _ (.fn bA<|tl.same a11) ⟨rfl,ka,kr,rfl,wt⟩ (by simp only[dep,uq];exact afO dt) (by simp only[sz,uq];exact afO zt)<|g9.trans (JL.trans<|cQ JL.ok a11)
  ·have ck:k=.n:=by
    by_cases z:k=.n
    ·exact z
    ·exact absurd (ahN z) c
   subst ck;refine⟨_,rfl,_,st,rfl,Vk.ok,λi H8 hi g8=>⟨(fH 2),λpp hpp=>?_⟩⟩;exact q _ (.n i) _ (.n bA) ⟨rfl,hi⟩ (afY _) (by simp[sz,uq])<|g8.trans (cQ g8.ok<|bK hpp _)
 refine⟨_,rfl,lo,rfl,⟨_,dD.of qX⟩,JH (n:=2) (xs:=Ef) (λi vs H'=>Same H H'/\vs.length<=i/\∀v∈vs,Lf M R H' SK G k v) ⟨Same.refl _,afv _,λv hv=>by simp at hv⟩ ?_ ?_ ?_⟩
 ·rintro i vs H' hi ⟨s1,l1,_⟩
  exact⟨dD.of<|s1 _ _ qX,cW<|by omega⟩
 ·rintro i x vs H' τ Nz hi hx ⟨s1,l1,r1⟩
  have hiG:i<G.length:=by exact afR hi lov
  obtain⟨p,Xb,x1,x2,x3⟩:=aov i G[i] (afw hiG);rw[hx]at x1;cases x1;have hg:=cn.hg G[i] (agx hiG);obtain⟨t1,t2,rfl⟩:=len2 Nz;refine⟨p,_,rfl,iM.of<|s1 _ _ x2,rfl,_,_,rfl,_,[],rfl,rfl,⟨[some _,some _],rfl,rfl⟩,?_⟩;refine⟨_,rfl,_,rfl,G[i],k,x3.same s1,hkv.same s1,by exact afy hg (by decide),_,rfl,gO (λc=>?_) λc=>nx hi ⟨s1,by exact aga l1,r1⟩⟩;have ck:G[i]=k:=ahM c;refine⟨_,rfl,(fH 2),λpp hpp=>?_⟩;have s2:=bK hpp (.tup [.str "v", .str (iz i)]);refine nx hi ⟨s1.trans s2,by rw[afu];simp;exact l1,λv hv=>?_⟩;rcases agd.mp hv with z|z
  ·exact(r1 v z).same s2
  ·rw[afN]at z
   subst z;exact⟨.v i, .v bA,by show G[i]?=some k;rw[afw hiG,ck],rfl,rfl⟩
 rintro vs1 H1 ⟨s1,l1,r1⟩ l1a hl1;have s2:=bK hl1 (.lst vs1);have abX:(upd H1 l1a<|.lst vs1) l1a=some (.lst vs1):=bA;have r2:∀v∈vs1,Lf M R (upd H1 l1a<|.lst vs1) SK G k v:=λv hv=>(r1 v hv).same s2;revert s2 abX r2;generalize upd H1 l1a (.lst vs1)=H2;intro s2 abX r2;have s02:=s1.trans s2;have hls2:=s02 _ _ hls;show jt _ _ _ [some (.ref st),some<|.ref lo,some<|.ref ls,some kv,some<|.ref l1a,none] H2;refine⟨_,rfl,_,rfl,ls,true,_,rfl,hls2,yJ (b:=true) (n:=2) (xs:=pK) (λi vs H'=>Same H2 H'/\vs.length<=i/\∀v∈vs,Lf M R H' SK G k v) ⟨Same.refl _,afv _,λv hv=>by simp at hv⟩ ?_ ?_ ?_⟩
 ·rintro i vs H' hi ⟨s3,l3,r3⟩
  have:=asv.1;exact⟨s3 _ _ hls2,cW<|by omega⟩
 ·rintro i x tp vs H' τ Nz hi hx htp ⟨s3,l3,r3⟩
  have hiS:i<SK.length:=by have:=asv.1;exact afR hi this
  obtain⟨x',hx',kx⟩:=asv.2 i SK[i] (afw hiS);rw[hx]at hx';cases hx';have hg:=cn.hs SK[i] (agx hiS);have s4:=bK htp (.tup [.int (i:Int),x]);have s04:=s02.trans (s3.trans s4);obtain⟨t1,t2,rfl⟩:=len2 Nz;refine⟨tp,_,rfl,iM.of bA,rfl,_,_,rfl,_,[],rfl,rfl,⟨[some _,some _],rfl,rfl⟩,?_⟩;refine⟨_,rfl,_,rfl,SK[i],k,kx.same s04,hkv.same s04,by exact afy hg (by decide),_,rfl,gO (λc=>?_) λc=>nx hi ⟨s3.trans s4,by exact aga l3,λv hv=>(r3 v hv).same s4⟩⟩;have ck:SK[i]=k:=ahM c;refine⟨_,rfl,(fH 2),λpp hpp=>?_⟩;have s5:=bK hpp (.tup [.str "g", .int (i:Int)]);refine nx hi ⟨s3.trans<|s4.trans s5,by rw[afu];simp;exact l3,λv hv=>?_⟩;rcases agd.mp hv with z|z
  ·exact((r3 v z).same s4).same s5
  ·rw[afN]at z
   subst z;exact⟨.g i, .g bA,by show SK[i]?=some k;rw[afw hiS,ck],rfl,rfl⟩
 rintro JM H3 ⟨s3,l3,r3⟩ l3a hl3;have lsv:=asv.1;have s4:=bK hl3 (.lst JM);refine⟨l1a,l3a,vs1,JM,rfl,rfl,s4 _ _<|s3 _ _ abX,bA,small (by omega),λl5 O4=>?_⟩;have s5:=bK O4 (.lst<|vs1++JM);have s25:=s3.trans (s4.trans s5);have r5:∀v∈vs1++JM,Lf M R (upd (upd H3 l3a<|.lst JM) l5<|.lst (vs1++JM)) SK G k v:=λv hv=>by
  rcases agd.mp hv with z|z
  ·exact(r2 v z).same s25
  ·exact((r3 v z).same s4).same s5
 have Yi:(upd (upd H3 l3a<|.lst JM) l5<|.lst (vs1++JM)) l5=some (.lst<|vs1++JM):=bA;have s05:=s02.trans s25;have n5:l5≠st:=by
  obtain⟨x,y,hx⟩:=cn.ok;exact cH O4<|(s02.trans<|s3.trans s4) _ _ hx
 revert r5 Yi s05;generalize upd (upd H3 l3a<|.lst JM) l5 (.lst<|vs1++JM)=H5;intro r5 Yi s05;have g5:=cQ cn.ok s05;have L5:(vs1++JM).length<=80:=by rw[afu];omega
 have fin:∀H6,jk (zA M R) st H H6->∀(o5:aO V),adL n (Ends.of Q) [some (.ref st),some<|.ref lo,some<|.ref ls,some kv,some<|.ref l5,o5] H6:=λH6 g6 o5=>
  ⟨M,R,st,lo,ls,kv,_,_,G,SK,k,rfl,cn.grow g6,hkv.tps<|dj cn.ok g6,hrs,h30,lG,λv t H' a b c d e=>q v t H' a b c d<|g6.trans e⟩
 refine⟨_,rfl,(fH 0),λle hle=>?_⟩;have s6:=bK hle (.lst []);have g6:=g5.trans (cQ g5.ok s6);refine⟨l5,le,_,rfl,rfl,s6 _ _ Yi,bA,_,rfl,gO (λc=>?_) λc=>?_⟩
 ·refine⟨_,rfl,_,st,4,rfl,g6.ok,by decide,by decide,λd H7 d0 d1 g7=>⟨_,_,rfl,rfl,_,rfl,gO (λc2=>?_) λc2=>?_⟩⟩
  ·have hl7:=g7.1 _ _ n5 (s6 _ _ Yi)
   have ne:vs1++JM≠[]:=ahM c;have len1:1<=(vs1++JM).length:=List.length_pos_iff.mpr ne;refine⟨_,rfl,_,rfl,_,rfl,l5,_,rfl, .inl<|dD.of hl7,_,st,_,rfl,g7.ok,by omega,by omega,λe H8 e0 e1 g8=>?_⟩;obtain⟨e,rfl⟩:∃e':Nat,e=(e':Int):=⟨e.toNat,by omega⟩;have el:e<(vs1++JM).length:=by omega
   obtain⟨t,ht,wt,dt,zt⟩:=(((r5 _<|agx el).same s6).tps<|dj g6.ok g7).tps (dj g7.ok g8);exact⟨l5,_,_,_,rfl,rfl,dD.of<|g8.1 _ _ n5 hl7,cg (j:=e)<|afw el,q _ t _ ht wt (by omega) (by omega)<|g6.trans (g7.trans g8)⟩
  ·exact fin H7 (g6.trans g7) _
 ·exact fin _ g6 _
theorem G4 (F:gY K "_law_leaf" "_law_leaf" rT f fd)(bF:Binds K fd pLf [])(mF:mg "_law_leaf"=some (.ref f))(ml:mg "len"=none)(mE:mg "enumerate"=none)(ms:mg "str"=none)(mt:mg "tuple"=none)(mr:mg "range"=none)(h1:Has P w K mg aV 1 "_law_next" ["_law_state","_law_many"] j7)(h2:Has P w K mg aV 2 "_law_number" ["_law_state"] Du):
  ∀n:Nat,Has P w K mg aV (2+n) "_law_leaf" pLf (Ms n)
 |0=>⟨f,fd,⟨λvs H Q E h=>h.elim,λA aU s H args us vs Q E _ _ _ _ h=>h.elim⟩,bF,F.kp,mF⟩
 |n+1=>⟨f,fd,by have:=Yh F ml mE ms mt mr h1 h2 (G4 F bF mF ml mE ms mt mr h1 h2 n);rwa [show 3+n=2+(n+1) by omega]at this,bF,F.kp,mF⟩
end
end Fw
namespace PySem
open PyProof.Rows
section
variable {prog:aA}{w:aG}{A:aq}{E:ak->ao->Prop}{s:ao}
structure zE (K1 K2:Bool)(h:aK)(z TI TO i1 i2 t1 t2:aj)(k:Nat):Prop where
 nd:[z,TI,TO,i1,i2].Nodup
 zz:IsZip h z TI TO .none
 ti:IsPair h TI (.ref i1) (.ref i2)
 tO:∃a b,IsPair h TO a b
 j1:Az K1 h i1 t1 k
 j2:Az K2 h i2 t2 k
theorem Bh {K1 K2:Bool}{z TI TO i1 i2 t1 t2:aj}{k:Nat}{xs ys:Array ak}{x y:ak}{Q:aO ak->ao->Prop}(Z:zE K1 K2 s.heap z TI TO i1 i2 t1 t2 k)(n1:t1∉[z,TO,i1,i2])(n2:t2∉[z,TO,i1,i2])
  (h1:yI K1 s.heap t1 xs) (h2:yI K2 s.heap t2 ys) (hx:xs[k]?=some x) (hy:ys[k]?=some y)
  (hQ:∀h',IsZip h' z TI TO (rawInt s.heap.objs.size)->IsPair h' TI (.ref i1) (.ref i2)->IsPair h' TO x y->Az K1 h' i1 t1 (k+1)->Az K2 h' i2 t2 (k+1)->IsPair h' s.heap.objs.size x y->h'.objs.size=s.heap.objs.size+1->
   (∀c o,c∉[z,TO,i1,i2]->s.heap.get? c=some o->h'.get? c=some o)->Q (some<|.ref s.heap.objs.size) {s with heap:=h'}):wpAny (model prog w) A (pyNext<|.ref z) Q E s:=by
 obtain⟨nd,zz,ti,⟨a,b,tO⟩,j1,j2⟩:=Z;simp only[agH,afU,afP,ahP,not_or,agS,and_true,not_false_eq_true]at nd n1 n2;obtain⟨⟨zTI,zTO,z1,z2⟩,⟨TITO,TI1,TI2⟩,⟨TO1,TO2⟩,i12⟩:=nd;obtain⟨a1,a2,a3,a4⟩:=n1;obtain⟨b1,b2,b3,b4⟩:=n2;have hT:s.TypeIs (.ref z) "zip":=⟨_,zz,rfl⟩;unfold pyNext;refine abI<|wpAny_attempt (wpAny_callSpecial?_slot (name:=Str.ofString "__next__") hT F.slot_zip_next<|wpAny_call_entry F.slot_zip_next hT F.entry_zip_next ?_ (F.args_zip_next_1 _));show wpAny _ _ (field (.ref z) 2>>=_) _ _ _;refine abI<|ahU zz rfl (x:=.bool false) rfl ?_;show wpAny _ _ (field (.ref z) 3>>=_) _ _ _;refine abI<|ahU zz rfl (x:=.ref TI) rfl (abI<|wpAny_seqItems ti rfl ?_);show wpAny _ _ (Builtin.SmallTypes.ownedTupleIsFree (.ref z)>>=_) _ _ _;refine abI ?_;unfold Builtin.SmallTypes.ownedTupleIsFree;refine abI<|ahU zz rfl (x:=.none) rfl (ahI ?_);simp only[if_true];refine abI (wpAny_rule (abI (ahU zz rfl (x:=.ref TO) rfl (abI (wpAny_setField_rec zz (by simp) λg1 q1 r1=>?_)))))
 replace q1:IsZip g1 z TI TO .ellipsis:=q1
 refine abI ?_;simp only[List.zipIdx_cons,List.zipIdx_nil,agZ,ahk];refine abI<|abI (wpAny_onRaise ?_);show wpAny _ _ (Builtin.SmallTypes.nextOf (.ref i1)>>=_) _ _ _;refine abI<|pF (j1.extBut r1.extBut<|ahO z1) (h1.extBut r1.extBut a1) hx λg2 q2 r2=>ahI ?_;have tO2:IsPair g2 TO a b:=r2.extBut _ _ TO1 (r1.extBut _ _ (ahO zTO) tO);refine abI<|wpAny_seqItems tO2 rfl (abI<|wpAny_updateSeq_pair tO2 λg3 q3 r3=>?_)
 replace q3:IsPair g3 TO x b:=q3
 refine abI<|wpAny_letGo (ahI ?_);refine abI<|abI (wpAny_onRaise ?_);show wpAny _ _ (Builtin.SmallTypes.nextOf (.ref i2)>>=_) _ _ _;refine abI<|pF (((j2.extBut r1.extBut<|ahO z2).extBut r2.extBut<|ahO i12).extBut r3.extBut<|ahO TO2) (((h2.extBut r1.extBut b1).extBut r2.extBut b3).extBut r3.extBut b2) hy λg4 q4 r4=>ahI ?_;have tO4:IsPair g4 TO x b:=r4.extBut _ _ TO2 q3;refine abI<|wpAny_seqItems tO4 rfl (abI<|wpAny_updateSeq_pair tO4 λg5 q5 r5=>?_)
 replace q5:IsPair g5 TO x y:=q5
 refine abI<|wpAny_letGo (ahI<|ahI ?_);refine abI<|wpAny_seqItems q5 rfl (abI<|wpAny_newTuple ?_);have sz:g5.objs.size=s.heap.objs.size:=by rw[r5.1,r4.1,r3.1,r2.1,r1.1]
 have kp5:∀c o,c≠z->c≠TO->c≠i1->c≠i2->s.heap.get? c=some o->g5.get? c=some o:=λc o c1 c2 c3 c4 e=>r5.extBut _ _ c2 (r4.extBut _ _ c4<|r3.extBut _ _ c2 (r2.extBut _ _ c3<|r1.extBut _ _ c1 e));have zz5:IsZip g5 z TI TO .ellipsis:=r5.extBut _ _ zTO (r4.extBut _ _ z2<|r3.extBut _ _ zTO (r2.extBut _ _ z1 q1));have k15:Az K1 g5 i1 t1 (k+1):=((q2.extBut r3.extBut<|ahO TO1).extBut r4.extBut i12).extBut r5.extBut (ahO TO1);have k25:Az K2 g5 i2 t2 (k+1):=q4.extBut r5.extBut (ahO TO2);have ti5:IsPair g5 TI (.ref i1) (.ref i2):=kp5 _ _ (ahO zTI) TITO TI1 TI2 ti;show wpAny _ _ (Builtin.SmallTypes.ownedTupleHandOut (.ref z) (.ref g5.objs.size)>>=_) _ _ _;refine abI ?_;unfold Builtin.SmallTypes.ownedTupleHandOut;refine abI (wpAny_setField_rec (afx _ zz5) (by simp) λg7 q7 r7=>?_)
 replace q7:IsZip g7 z TI TO (rawInt g5.objs.size):=q7
 refine wpAny_setField_rec q7 (by simp) λg8 q8 r8=>?_
 replace q8:IsZip g8 z TI TO (rawInt g5.objs.size):=q8
 have up:∀c o,c≠z->g5.get? c=some o->g8.get? c=some o:=λc o c1 e=>r8.extBut _ _ c1 (r7.extBut _ _ c1<|afx _ e);have new:IsPair g8 g5.objs.size x y:=r8.extBut _ _ (agM<|afB zz5) (r7.extBut _ _ (agM<|afB zz5)<|afK _ rfl);have sz8:g8.objs.size=s.heap.objs.size+1:=by rw[r8.1,r7.1,agj,sz]
 rw[sz]at q8 new;refine ahI ⟨_,rfl,?_⟩;refine ahI ?_;show Q (some<|.ref g5.objs.size) _;rw[sz];exact hQ g8 q8 (up _ _ (ahO zTI) ti5) (up _ _ (ahO zTO) q5) (let ⟨o,e,r⟩:=k15;⟨o,up _ o (ahO z1) e,r⟩) (let ⟨o,e,r⟩:=k25;⟨o,up _ o (ahO z2) e,r⟩) new sz8 λc o hc e=>by
  simp only[afU,afP,ahP,not_or]at hc;exact up c o hc.1<|kp5 c o hc.1 hc.2.1 hc.2.2.1 hc.2.2.2 e
theorem G5 {K1 K2:Bool}{z TI TO i1 i2 t1 t2:aj}{k:Nat}{xs:Array ak}{Q:aO ak->ao->Prop}(hh:A.handled=none)(Z:zE K1 K2 s.heap z TI TO i1 i2 t1 t2 k)(n1:t1∉[z,TO,i1,i2])
  (h1:yI K1 s.heap t1 xs) (hx:xs[k]?=none) (hQ:∀h',(∀c o,c∉[z,TO,i1,i2]->s.heap.get? c=some o->h'.get? c=some o)->Q none {s with heap:=h'}):wpAny (model prog w) A (pyNext<|.ref z) Q E s:=by
 obtain⟨nd,zz,ti,⟨a,b,tO⟩,j1,j2⟩:=Z;simp only[agH,afU,afP,ahP,not_or,agS,and_true,not_false_eq_true]at nd n1;obtain⟨⟨zTI,zTO,z1,z2⟩,⟨TITO,TI1,TI2⟩,⟨TO1,TO2⟩,i12⟩:=nd;obtain⟨a1,a2,a3,a4⟩:=n1;have hT:s.TypeIs (.ref z) "zip":=⟨_,zz,rfl⟩;unfold pyNext;refine abI<|wpAny_attempt (wpAny_callSpecial?_slot (name:=Str.ofString "__next__") hT F.slot_zip_next<|wpAny_call_entry F.slot_zip_next hT F.entry_zip_next ?_ (F.args_zip_next_1 _));show wpAny _ _ (field (.ref z) 2>>=_) _ _ _;refine abI<|ahU zz rfl (x:=.bool false) rfl ?_;show wpAny _ _ (field (.ref z) 3>>=_) _ _ _;refine abI<|ahU zz rfl (x:=.ref TI) rfl (abI<|wpAny_seqItems ti rfl ?_);show wpAny _ _ (Builtin.SmallTypes.ownedTupleIsFree (.ref z)>>=_) _ _ _;refine abI ?_;unfold Builtin.SmallTypes.ownedTupleIsFree;refine abI<|ahU zz rfl (x:=.none) rfl (ahI ?_);simp only[if_true];refine abI (wpAny_rule (abI (ahU zz rfl (x:=.ref TO) rfl (abI (wpAny_setField_rec zz (by simp) λg1 q1 r1=>?_)))))
 replace q1:IsZip g1 z TI TO .ellipsis:=q1
 refine abI ?_;simp only[List.zipIdx_cons,List.zipIdx_nil,agZ,ahk];refine abI<|abI (wpAny_onRaise ?_);show wpAny _ _ (Builtin.SmallTypes.nextOf (.ref i1)>>=_) _ _ _;refine abI<|vA hh (j1.extBut r1.extBut<|ahO z1) (h1.extBut r1.extBut a1) hx λg2 e r2 he=>?_;obtain⟨oe,ho,hc⟩:=he;have zz2:IsZip g2 z TI TO .ellipsis:=r2 _ _ z1 q1;have ez:e≠z:=λq=>by subst q;rw[zz2]at ho;cases ho;simp at hc
 refine wpAny_setField_rec (s:={s with heap:=g2}) zz2 (by simp) λg3 q3 r3=>?_;refine abI<|wpAny_isInstance (T:="StopIteration") (b:=true) ⟨oe,r3.extBut _ _ ez ho,hc⟩ isSubtype_stop ?_;exact ahI (hQ _ λc o hcc e=>by
  simp only[afU,afP,ahP,not_or]at hcc;exact r3.extBut _ _ hcc.1<|r2 _ _ hcc.2.2.1 (r1.extBut _ _ hcc.1 e))
noncomputable abbrev zg1 (K1:String)(h:aK)(t1:aj):aK:=h.push {cls:=.type K1,data:=.fields #[.ref t1, .int 0 0]}
noncomputable abbrev zg2 (K1 K2:String)(h:aK)(t1 t2:aj):aK:=(zg1 K1 h t1).push {cls:=.type K2,data:=.fields #[.ref t2, .int 0 0]}
noncomputable abbrev zg3 (K1 K2:String)(h:aK)(t1 t2:aj):aK:=(zg2 K1 K2 h t1 t2).push {cls:=.type "tuple",data:=.seq #[.ref h.objs.size, .ref (zg1 K1 h t1).objs.size]}
noncomputable abbrev zg4 (K1 K2:String)(h:aK)(t1 t2:aj):aK:=(zg3 K1 K2 h t1 t2).push {cls:=.type "tuple",data:=.seq #[.none, .none]}
noncomputable abbrev zg5 (K1 K2:String)(h:aK)(t1 t2:aj):aK:=(zg4 K1 K2 h t1 t2).push {cls:=.type "zip",data:=.fields #[.none, .bool false, .bool false, .ref (zg2 K1 K2 h t1 t2).objs.size, .ref (zg3 K1 K2 h t1 t2).objs.size]}
theorem G6 (t1 t2:aj)(xs ys:Array ak):
  Meets (Builtin.«zip.__new__» ⟨[.type "zip", .ref t1, .ref t2],[]⟩) (λ_ R s=>s.heap.IsList t1 xs/\s.heap.IsTuple t2 ys/\R (.ok<|.ret (.ref (zg4 "list_iterator" "tuple_iterator" s.heap t1 t2).objs.size)) {s with heap:=zg5 "list_iterator" "tuple_iterator" s.heap t1 t2}) :=
 .of_wp λprog w A R s h=>by
  obtain⟨hp,g,d,tk,os⟩:=s;obtain⟨h1,h2,h⟩:=h;have hsub:=sub_zip;have q1:Heap.IsList (Shared.heap ⟨hp,g,d,tk,os⟩) t1 xs:=h1;have q2:Heap.IsTuple (Shared.heap ⟨hp.push {cls:=.type "list_iterator",data:=.fields #[.ref t1, .int 0 0]},g,d,tk,os⟩) t2 ys:=Heap.IsTuple.push h2 _
  wp_walk using wpAny_pyIter_list q1,wpAny_pyIter_tuple q2
  exact⟨_,rfl,h⟩
theorem G7 (t1 t2:aj)(xs ys:Array ak):
  Meets (Builtin.«zip.__new__» ⟨[.type "zip", .ref t1, .ref t2],[]⟩) (λ_ R s=>s.heap.IsTuple t1 xs/\s.heap.IsList t2 ys/\R (.ok<|.ret (.ref (zg4 "tuple_iterator" "list_iterator" s.heap t1 t2).objs.size)) {s with heap:=zg5 "tuple_iterator" "list_iterator" s.heap t1 t2}) :=
 .of_wp λprog w A R s h=>by
  obtain⟨hp,g,d,tk,os⟩:=s;obtain⟨h1,h2,h⟩:=h;have hsub:=sub_zip;have q1:Heap.IsTuple (Shared.heap ⟨hp,g,d,tk,os⟩) t1 xs:=h1;have q2:Heap.IsList (Shared.heap ⟨hp.push {cls:=.type "tuple_iterator",data:=.fields #[.ref t1, .int 0 0]},g,d,tk,os⟩) t2 ys:=Heap.IsList.push h2 _
  wp_walk using wpAny_pyIter_tuple q1,wpAny_pyIter_list q2
  exact⟨_,rfl,h⟩
theorem JN (K1 K2:Bool)(hk:K1= !K2)(t1 t2:aj)(xs ys:Array ak):
  Meets (Builtin.«zip.__new__» ⟨[.type "zip", .ref t1, .ref t2],[]⟩) (λ_ R s=>yI K1 s.heap t1 xs/\yI K2 s.heap t2 ys/\R (.ok<|.ret (.ref (zg4 (kit K1) (kit K2) s.heap t1 t2).objs.size)) {s with heap:=zg5 (kit K1) (kit K2) s.heap t1 t2}):=by
 subst hk;cases K2 with
 |false=>exact G6 t1 t2 xs ys
 |true=>exact G7 t1 t2 xs ys
theorem Bj {K1 K2:Bool}(hk:K1= !K2){t1 t2:aj}{xs ys:Array ak}{Q:ak->ao->Prop}(h1:yI K1 s.heap t1 xs)(h2:yI K2 s.heap t2 ys)
  (h:∀h' z TI TO i1 i2,s.heap.objs.size<=z->s.heap.objs.size<=TI->s.heap.objs.size<=TO->s.heap.objs.size<=i1->s.heap.objs.size<=i2->zE K1 K2 h' z TI TO i1 i2 t1 t2 0->(∀c o,s.heap.get? c=some o->h'.get? c=some o)->Q (.ref z) {s with heap:=h'}):
  wpAny (model prog w) A (call (.type "zip") [.ref t1, .ref t2]) Q E s:=by
 refine callType_new F.called_zip (by decide) (F.typeCall_zip_2 _ _) (F.newCall_zip_2 _ _) (λobj=>F.args_object_init_3 obj _ _) F.entry_zip_new (JN K1 K2 hk t1 t2 xs ys) ⟨h1,h2,?_⟩;have z1:(zg1 (kit K1) s.heap t1).objs.size=s.heap.objs.size+1:=agj ..;have z2:(zg2 (kit K1) (kit K2) s.heap t1 t2).objs.size=s.heap.objs.size+2:=by rw[agj,z1]
 have z3:(zg3 (kit K1) (kit K2) s.heap t1 t2).objs.size=s.heap.objs.size+3:=by rw[agj,z2]
 have z4:(zg4 (kit K1) (kit K2) s.heap t1 t2).objs.size=s.heap.objs.size+4:=by rw[agj,z3]
 have p5:(zg5 (kit K1) (kit K2) s.heap t1 t2).get? (zg4 (kit K1) (kit K2) s.heap t1 t2).objs.size=some _:=afK _ rfl;have p4:(zg5 (kit K1) (kit K2) s.heap t1 t2).get? (zg3 (kit K1) (kit K2) s.heap t1 t2).objs.size=some _:=afx _ (afK _ rfl);have p3:(zg5 (kit K1) (kit K2) s.heap t1 t2).get? (zg2 (kit K1) (kit K2) s.heap t1 t2).objs.size=some _:=afx _ (afx _<|afK _ rfl);have p2:(zg5 (kit K1) (kit K2) s.heap t1 t2).get? (zg1 (kit K1) s.heap t1).objs.size=some _:=afx _ (afx _<|afx _ (afK _ rfl));have p1:(zg5 (kit K1) (kit K2) s.heap t1 t2).get? s.heap.objs.size=some _:=afx _ (afx _<|afx _ (afx _<|afK _ rfl));refine⟨⟨_,p5,rfl⟩,h _ _ _ _ _ _ ?_ ?_ ?_ (afv _) ?_ ⟨?_,p5,p3,⟨_,_,p4⟩,⟨_,p1,rfl,rfl⟩,⟨_,p2,rfl,rfl⟩⟩ λc o e=>afx _<|afx _ (afx _<|afx _ (afx _ e))⟩
 ·rw[z4];exact afF _ _
 ·rw[z2];exact afF _ _
 ·rw[z3];exact afF _ _
 ·rw[z1];exact afF _ _
 ·rw[z1,z2,z3,z4]
  generalize s.heap.objs.size=n;simp only[agH,afU,afP,ahP,not_or,agS,and_true,not_false_eq_true];refine⟨⟨?_,?_,?_,?_⟩,⟨?_,?_,?_⟩,⟨?_,?_⟩,?_⟩<;>(intro q;simp at q)
end
end PySem
namespace L2
noncomputable def Izg (K1 K2:Bool)(a b:aj):It :=
 ⟨λi H=>∃xs ys x y,H a=some (Ed K1 xs)/\H b=some (Ed K2 ys)/\xs[i]?=some x/\ys[i]?=some y,
  λi H v H'=>∃(T:aj) (xs ys:List V) (x y:V),H a=some (Ed K1 xs)/\H b=some (Ed K2 ys)/\xs[i]?=some x/\ys[i]?=some y/\H T=none/\v=.ref T/\H'=upd H T (.tup [x,y]),
  λi H=>∃xs,H a=some (Ed K1 xs)/\xs.length<=i⟩
theorem Pu {K1 K2:Bool}{P:aA}{w:aG}{K:aN}{elts:aP aH}{x1}{pos:Pos}(a b z TI TO i1 i2:aj):Turn P w K (.Tuple elts x1 pos) (Izg K1 K2 a b) [z,TI,TO,i1,i2] z (λi h=>zE K1 K2 h z TI TO i1 i2 a b i) where
 mem:=by simp
 obj:=λi h st c hc=>by
  simp only[afU,afP,ahP]at hc;obtain⟨nd,zz,ti,⟨u,v,tO⟩,⟨o1,j1,c1,d1⟩,⟨o2,j2,c2,d2⟩⟩:=st;rcases hc with rfl|rfl|rfl|rfl|rfl
  ·exact⟨_,zz,λv q=>by cases q⟩
  ·exact⟨_,ti,λv q=>by cases q⟩
  ·exact⟨_,tO,λv q=>by cases q⟩
  ·exact⟨o1,j1,λv q=>by rw[d1]at q;cases q⟩
  ·exact⟨o2,j2,λv q=>by rw[d2]at q;cases q⟩
 keep:=λi h h' st k=>by
  obtain⟨nd,zz,ti,⟨u,v,tO⟩,⟨o1,j1,r1⟩,⟨o2,j2,r2⟩⟩:=st;exact⟨nd,k _ (by simp) _ zz,k _ (by simp) _ ti,⟨u,v,k _ (by simp) _ tO⟩,⟨o1,k _ (by simp) _ j1,r1⟩,⟨o2,k _ (by simp) _ j2,r2⟩⟩
 item:=by
  intro X hP hw hK hc i bH s U H E I hf st hg;subst hP hw hK;obtain⟨xs,ys,x,y,ha,hb,hx,hy⟩:=hg;obtain⟨lK,zu,p1⟩:=I.sqG ha;obtain⟨iQ,Xc,p2⟩:=I.sqG hb;obtain⟨u1,hu1,ru1⟩:=zu.get hx;obtain⟨u2,hu2,ru2⟩:=Xc.get hy;have sub:∀c∈[z,TO,i1,i2],c∈[z,TI,TO,i1,i2]:=λc hc=>by
   simp only[afU,afP,ahP]at hc ⊢;rcases hc with h|h|h|h
   ·exact .inl h
   ·exact .inr<|.inr (.inl h)
   ·exact .inr<|.inr (.inr<|.inl h)
   ·exact .inr<|.inr (.inr<|.inr h)
  have no:∀c u,H c=some u->c∉[z,TO,i1,i2]:=λc u e q=>by rw[(hf c<|sub c q).1]at e;cases e
  have lt:∀c∈[z,TI,TO,i1,i2],c<s.heap.objs.size:=λc hc=>by
   simp only[afU,afP,ahP]at hc;obtain⟨nd,zz,ti,⟨u,v,tO⟩,⟨o1,j1,c1,d1⟩,⟨o2,j2,c2,d2⟩⟩:=st;rcases hc with rfl|rfl|rfl|rfl|rfl
   ·exact afB zz
   ·exact afB ti
   ·exact afB tO
   ·exact afB j1
   ·exact afB j2
  refine Bh st (no a _ ha) (no b _ hb) p1 p2 (x:=u1) (y:=u2) (by simpa using hu1) (by simpa using hu2) λh' q1 q2 q3 q4 q5 q6 _ kp=>⟨_,rfl,?_⟩;refine wpAny_letOwnedTupleGo_zip (s:={s with heap:=h'}) q1 λh2 q7 r7=>?_;have nd:=st.nd;have I1:Inv X bH U H {s with heap:=h2}:=I.wI (t':=s.toks) (ch:=[z,TO,i1,i2]) (λc o hc e=>r7.extBut c o (λq=>hc<|by simp[q])<|kp c o hc e) λc hc=>hf c (sub c hc);have fr:H s.heap.objs.size=none:=I.hok.fresh (afv _);have ne:∀c∈[z,TI,TO,i1,i2],c≠s.heap.objs.size:=λc hc q=>by have:=lt c hc;rw[q]at this;exact afQ _ this
  have I2:=I1.JB (D:=s.heap.objs.size) (vs:=[x,y]) (bh:=[u1,u2]) (I.uD (afv _) fr) (by show 2<=sizeLine;rw[sizeLine_eq];decide) (.cons ru1<|.cons ru2 .nil) ⟨_,r7.extBut _ _ (ahO (ne z<|by simp)) q6,rfl,_,rfl⟩;simp only[agH,afU,afP,ahP,not_or,agS,and_true,not_false_eq_true]at nd;obtain⟨⟨zTI,zTO,z1',z2'⟩,_⟩:=nd;refine⟨.ref s.heap.objs.size,_,I2,rfl,⟨_,xs,ys,x,y,ha,hb,hx,hy,fr,rfl,rfl⟩,⟨st.nd,q7,r7.extBut _ _ (ahO zTI) q2,⟨_,_,r7.extBut _ _ (ahO zTO) q3⟩,q4.extBut r7.extBut<|ahO z1',q5.extBut r7.extBut<|ahO z2'⟩,λc hc=>?_⟩;rw[bV (ne c hc)];exact(hf c hc).1
 done:=by
  intro X hP hw hK hc i bH s U H E I hf st hg;subst hP hw hK;obtain⟨xs,ha,hx⟩:=hg;obtain⟨lK,zu,p1⟩:=I.sqG ha;have hl:=zu.length;have sub:∀c∈[z,TO,i1,i2],c∈[z,TI,TO,i1,i2]:=λc hc=>by
   simp only[afU,afP,ahP]at hc ⊢;rcases hc with h|h|h|h
   ·exact .inl h
   ·exact .inr<|.inr (.inl h)
   ·exact .inr<|.inr (.inr<|.inl h)
   ·exact .inr<|.inr (.inr<|.inr h)
  have no:∀c u,H c=some u->c∉[z,TO,i1,i2]:=λc u e q=>by rw[(hf c<|sub c q).1]at e;cases e
  exact G5 (I.ok.hd hc) st (no a _ ha) p1 (by simp;exact afy (agy hl.symm) hx) λh' kp=>⟨rfl,I.wI (t':=s.toks) (ch:=[z,TO,i1,i2]) kp λc hc=>hf c<|sub c hc⟩
 self:=λ_ _ _ _ _ st h=>wpAny_pyIter_zip st.zz h
def adM (K1 K2:Bool)(ta:TA):TI:=λU H R=>ta U H λvs H1=>∃a b xs ys,vs=[.ref a, .ref b]/\H1 a=some (Ed K1 xs)/\H1 b=some (Ed K2 ys)/\R (Izg K1 K2 a b) H1
theorem Yj (K1 K2:Bool)(hk:K1= !K2){X:Cx}{e1 e2:aH}{ta:TA}{p pos pt:Pos}{elts:List aH}{x1}(hg:Gl X "zip")(hm:X.mg "zip"=none)(ha:PA X [e1,e2] ta)
  (hs:starEach [e1,e2] X.env=[(false,eval e1 X.env),(false,eval e2 X.env)]:=by rfl) (hs2:starEach [e2] X.env=[(false,eval e2 X.env)]:=by rfl):PI X (.Tuple elts x1 pt) (.Call (.Name "zip" p) [e1,e2] [] pos) (adM K1 K2 ta):=by
 intro bH s U H R I h;refine Call_ (mV I hg hm Ay (PyProof.Rows.callWith_type1 (gk (ha pos bH s U H _ I h) λus s1 ⟨vs,H1,I1,r1,q1⟩=>?_) (by rw[hs,hs2])<|by rw[hs2];rfl));obtain⟨a,b,xs,ys,rfl,h1,h2,q⟩:=q1;cases r1 with
 |cons r rr=>
  cases rr with
  |cons r' rr=>
   cases rr;cases r;cases r';obtain⟨lK,zu,p1⟩:=I1.sqG h1;obtain⟨iQ,Xc,p2⟩:=I1.sqG h2;refine Bj hk p1 p2 λh' z TI TO i1 i2 l1 l2 l3 l4 l5 Z kp=>?_;refine wpAny_pyIter_zip (s:={s1 with heap:=h'}) Z.zz ?_;refine⟨z,[z,TI,TO,i1,i2],_,_,H1,rfl,I1.kept (t':=s1.toks) kp,Pu a b z TI TO i1 i2,Z,λc hc=>?_,q⟩;simp only[afU,afP,ahP]at hc;rcases hc with rfl|rfl|rfl|rfl|rfl
   ·exact I1.uD l1<|I1.hok.fresh l1
   ·exact I1.uD l2<|I1.hok.fresh l2
   ·exact I1.uD l3<|I1.hok.fresh l3
   ·exact I1.uD l4<|I1.hok.fresh l4
   ·exact I1.uD l5<|I1.hok.fresh l5
theorem Uk {K1 K2:Bool}{a b:aj}{xs ys:aP V}{g:TG}{tb:TS}{D:Ends}{U:St}{H:Hp}(Pv:Nat->St->Hp->Prop)(le:xs.length=ys.length)(h0:Pv 0 U H)(hl:∀i U H,i<=xs.length->Pv i U H->H a=some (Ed K1 xs)/\H b=some (Ed K2 ys))
  (hs:∀i x y (T:aj) U H,xs[i]?=some x->ys[i]?=some y->H T=none->Pv i U H->g (.ref T) U (upd H T<|.tup [x,y]) λU2 H2=>tb (D.lp<|Pv (i+1)) U2 H2) (hd:∀U H,Pv xs.length U H->D.nx U H):
  ∃W:Nat->Nat->St->Hp->Prop,(∃m,W 0 m U H)/\∀i m U H,W i m U H->
   ((Izg K1 K2 a b).stop i H/\D.nx U H)\/((Izg K1 K2 a b).go i H/\∃N:St->Hp->Prop,(∀U' H',N U' H'->∃m',m'<m/\W (i+1) m' U' H')/\∀x H',(Izg K1 K2 a b).YL i H x H'->g x U H' λU2 H2=>tb (D.lp N) U2 H2):=by
 refine⟨λi m U H=>m=xs.length-i/\i<=xs.length/\Pv i U H,⟨xs.length,by simp,afY _,h0⟩,?_⟩;rintro i m U H ⟨rfl,hi,p⟩;obtain⟨q,q'⟩:=hl i U H hi p;by_cases jf:i<xs.length
 ·have hlt':i<ys.length:=by exact afR jf le
  refine .inr ⟨⟨xs,ys,xs[i],ys[i],q,q',by simp[jf],by simp[hlt']⟩,Pv<|i+1,λU' H' p'=>⟨xs.length-(i+1),by omega,rfl,jf,p'⟩,λv H' y=>?_⟩;obtain⟨T,xs',ys',x,y,e1,e2,hx,hy,hT,rfl,rfl⟩:=y;rw[q]at e1;rw[q']at e2;obtain rfl:=Dt (ahR e1);obtain rfl:=Dt (ahR e2);exact hs i x y T U _ hx hy hT p
 ·have e:i=xs.length:=by exact ago hi (Nat.not_lt.mp jf)
  subst e;exact .inl ⟨⟨xs,q,afv _⟩,hd U H p⟩
end L2
namespace PySem
open PyProof.Rows
section
variable {prog:aA}{w:aG}{A:aq}{E:ak->ao->Prop}{s:ao}
theorem uh {M:Model}{a:aj}{Q:aO Obj->ao->Prop}(h:Q (s.heap.get? a) s):wpAny M A (loadIfAlive a) Q E s:=fun Γ p hΓ=>by
 unfold loadIfAlive;rw[Sem.wp_loadIfAlive];exact(ahI h:wpAny M A (pure<|s.heap.get? a) Q E s) Γ p hΓ
abbrev rU (h:aK)(z TI TO T0:aj)(fl:Bool):Prop:=h.get? z=some {cls:=.type "zip",dict:=none,data:=.fields #[rawInt T0, .bool fl, .bool false, .ref TI, .ref TO],slots:=#[]}
theorem G8 {z TI TO T0:aj}{fl:Bool}{o0:Obj}{Q:Bool->ao->Prop}(zz:rU s.heap z TI TO T0 fl)(h0:s.heap.get? T0=some o0)(h:∀g,rU g z TI TO T0 true->Heap.ExtBut z s.heap g->g.objs.size=s.heap.objs.size->Q false {s with heap:=g}):
  wpAny (model prog w) A (Builtin.SmallTypes.ownedTupleIsFree<|.ref z) Q E s:=by
 unfold Builtin.SmallTypes.ownedTupleIsFree;refine abI<|ahU zz rfl (x:=rawInt T0) rfl ?_;show wpAny _ _ (loadIfAlive (T0:Int).toNat>>=_) _ _ _;refine abI<|uh ?_;rw[af5,h0];rw[ahL (by simp)];refine abI<|ahU zz rfl (x:=.bool fl) rfl ?_;cases fl with
 |true=>exact ahI<|h _ zz (λ_ _ _ e=>e) rfl
 |false=>exact abI (wpAny_setField_rec zz (by simp) λg1 q1 r1=>ahI<|h _ q1 r1.extBut r1.1)
theorem Px {z TI TO i1 i2 t1 t2 T0:aj}{fl:Bool}{k:Nat}{xs ys:Array ak}{x y:ak}{o0:Obj}{Q:aO ak->ao->Prop}(nd:[z,TI,i1,i2].Nodup)(zz:rU s.heap z TI TO T0 fl)(ti:IsPair s.heap TI (.ref i1) (.ref i2))
  (h0:s.heap.get? T0=some o0) (j1:s.heap.IsListIter i1 t1 k) (j2:s.heap.IsTupleIter i2 t2 k) (n1:t1∉[z,i1,i2]) (n2:t2∉[z,i1,i2])
  (h1:s.heap.IsList t1 xs) (h2:s.heap.IsTuple t2 ys) (hx:xs[k]?=some x) (hy:ys[k]?=some y)
  (hQ:∀h',rU h' z TI TO T0 true->h'.IsListIter i1 t1 (k+1)->h'.IsTupleIter i2 t2 (k+1)->IsPair h' s.heap.objs.size x y->h'.objs.size=s.heap.objs.size+1->
   (∀c o,c∉[z,i1,i2]->s.heap.get? c=some o->h'.get? c=some o)->Q (some<|.ref s.heap.objs.size) {s with heap:=h'}):wpAny (model prog w) A (pyNext<|.ref z) Q E s:=by
 simp only[agH,afU,afP,ahP,not_or,agS,and_true,not_false_eq_true]at nd n1 n2;obtain⟨⟨zTI,z1,z2⟩,⟨TI1,TI2⟩,i12⟩:=nd;obtain⟨a1,a3,a4⟩:=n1;obtain⟨b1,b3,b4⟩:=n2;have hT:s.TypeIs (.ref z) "zip":=⟨_,zz,rfl⟩;unfold pyNext;refine abI<|wpAny_attempt (wpAny_callSpecial?_slot (name:=Str.ofString "__next__") hT F.slot_zip_next<|wpAny_call_entry F.slot_zip_next hT F.entry_zip_next ?_ (F.args_zip_next_1 _));show wpAny _ _ (field (.ref z) 2>>=_) _ _ _;refine abI<|ahU zz rfl (x:=.bool false) rfl ?_;show wpAny _ _ (field (.ref z) 3>>=_) _ _ _;refine abI<|ahU zz rfl (x:=.ref TI) rfl (abI<|wpAny_seqItems ti rfl ?_);show wpAny _ _ (Builtin.SmallTypes.ownedTupleIsFree (.ref z)>>=_) _ _ _;refine abI<|G8 zz h0 λg1 q1 r1 rs=>?_;rw[ahL afD];dsimp only;refine abI ?_;rw[<-Array.forIn_toList];simp only[agZ,ahk];refine abI<|abI (ahV ?_);show wpAny _ _ (Builtin.SmallTypes.nextOf (.ref i1)>>=_) _ _ _;refine abI<|ug (j1.extBut r1<|ahO z1) (h1.extBut r1 a1) hx λg2 q2 r2=>ahI ?_;dsimp only;refine ahI ?_;dsimp only;refine abI<|abI (ahV ?_);show wpAny _ _ (Builtin.SmallTypes.nextOf (.ref i2)>>=_) _ _ _;refine abI<|uf ((j2.extBut r1<|ahO z2).extBut r2.extBut<|ahO i12) ((h2.extBut r1 b1).extBut r2.extBut b3) hy λg3 q3 r3=>ahI ?_;dsimp only;refine ahI ?_;dsimp only;refine ahI ?_;dsimp only;refine abI (wpAny_newTuple ?_<|by show 2<=sizeLine;rw[sizeLine_eq];decide);have sz:g3.objs.size=s.heap.objs.size:=by rw[r3.1,r2.1,rs]
 refine ahI ⟨_,rfl,ahI ?_⟩;show Q (some<|.ref g3.objs.size) _;rw[sz];have zz3:rU g3 z TI TO T0 true:=r3.extBut _ _ z2 (r2.extBut _ _ z1 q1);have e1:g3.IsListIter i1 t1 (k+1):=q2.extBut r3.extBut i12;refine hQ _ (afx _ zz3) (let ⟨o,e,r⟩:=e1;⟨o,afx _ e,r⟩) (let ⟨o,e,r⟩:=q3;⟨o,afx _ e,r⟩) (by rw[<-sz];exact afK _ rfl) (by rw[agj,sz]) λc o hc e=>?_;simp only[afU,afP,ahP,not_or]at hc;exact afx _<|r3.extBut _ _ hc.2.2 (r2.extBut _ _ hc.2.1<|r1 _ _ hc.1 e)
theorem Ul {z TI TO i1 i2 t1 T0:aj}{fl:Bool}{k:Nat}{xs:Array ak}{o0:Obj}{Q:aO ak->ao->Prop}(hh:A.handled=none)(nd:[z,TI,i1,i2].Nodup)(zz:rU s.heap z TI TO T0 fl)(ti:IsPair s.heap TI (.ref i1) (.ref i2))
  (h0:s.heap.get? T0=some o0) (j1:s.heap.IsListIter i1 t1 k) (n1:t1∉[z,i1,i2]) (h1:s.heap.IsList t1 xs) (hx:xs[k]?=none)
  (hQ:∀h',(∀c o,c∉[z,i1,i2]->s.heap.get? c=some o->h'.get? c=some o)->Q none {s with heap:=h'}):wpAny (model prog w) A (pyNext<|.ref z) Q E s:=by
 simp only[agH,afU,afP,ahP,not_or,agS,and_true,not_false_eq_true]at nd n1;obtain⟨⟨zTI,z1,z2⟩,⟨TI1,TI2⟩,i12⟩:=nd;obtain⟨a1,a3,a4⟩:=n1;have hT:s.TypeIs (.ref z) "zip":=⟨_,zz,rfl⟩;unfold pyNext;refine abI<|wpAny_attempt (wpAny_callSpecial?_slot (name:=Str.ofString "__next__") hT F.slot_zip_next<|wpAny_call_entry F.slot_zip_next hT F.entry_zip_next ?_ (F.args_zip_next_1 _));show wpAny _ _ (field (.ref z) 2>>=_) _ _ _;refine abI<|ahU zz rfl (x:=.bool false) rfl ?_;show wpAny _ _ (field (.ref z) 3>>=_) _ _ _;refine abI<|ahU zz rfl (x:=.ref TI) rfl (abI<|wpAny_seqItems ti rfl ?_);show wpAny _ _ (Builtin.SmallTypes.ownedTupleIsFree (.ref z)>>=_) _ _ _;refine abI<|G8 zz h0 λg1 q1 r1 rs=>?_;rw[ahL afD];dsimp only;refine abI ?_;rw[<-Array.forIn_toList];simp only[agZ,ahk];refine abI<|abI (ahV ?_);show wpAny _ _ (Builtin.SmallTypes.nextOf (.ref i1)>>=_) _ _ _;refine abI<|vq hh (j1.extBut r1<|ahO z1) (h1.extBut r1 a1) hx λg2 e r2 he=>?_;obtain⟨oe,ho,hc⟩:=he;refine abI<|wpAny_isInstance (T:="StopIteration") (b:=true) ⟨oe,ho,hc⟩ isSubtype_stop ?_;exact ahI (hQ _ λc o hcc e=>by
  simp only[afU,afP,ahP,not_or]at hcc;exact r2 _ _ hcc.2.1<|r1 _ _ hcc.1 e)
theorem in4 {a b c d e x:aj}(h:x∈[a,c,d,e]):x∈[a,b,c,d,e]:=(List.Sublist.cons_cons a<|ag9 b _).subset h
theorem in3 {a b c d e x:aj}(h:x∈[a,d,e]):x∈[a,b,c,d,e]:=in4 ((List.Sublist.cons_cons a<|ag9 c _).subset h)
structure ZW (h:aK)(z TI TO i1 i2 t1 t2 N:aj)(xs ys:Array ak)(k:Nat):Prop where
 zz:zE true false h z TI TO i1 i2 t1 t2 k/\h.objs.size=N\/∃fl o,rU h z TI TO N fl/\h.get? N=some o/\IsPair h TI (.ref i1) (.ref i2)/\Az true h i1 t1 k/\Az false h i2 t2 k
 h1:yI true h t1 xs
 h2:yI false h t2 ys
section
variable {z TI TO i1 i2 t1 t2 N S:aj}{xs ys:Array ak}{k:Nat}
theorem zE.up {K1 K2:Bool}{h h':aK}(Z:zE K1 K2 h z TI TO i1 i2 t1 t2 k)(kp:∀b o,b∈[z,TI,TO,i1,i2]->h.get? b=some o->h'.get? b=some o):zE K1 K2 h' z TI TO i1 i2 t1 t2 k:=by
 obtain⟨nd,zz,ti,⟨u,v,tO⟩,j1,j2⟩:=Z;exact⟨nd,kp _ _ (by simp) zz,kp _ _ (by simp) ti,⟨u,v,kp _ _ (by simp) tO⟩,j1.up λo=>kp _ o (by simp),j2.up λo=>kp _ o<|by simp⟩
theorem ZW.up {h h':aK}(W:ZW h z TI TO i1 i2 t1 t2 N xs ys k)(kp:∀b o,b≠S->h.get? b=some o->h'.get? b=some o)(hs:h'.objs.size=h.objs.size)(sS:S∉[z,TI,TO,i1,i2])(sN:N≠S)(m1:t1≠S)(m2:t2≠S):ZW h' z TI TO i1 i2 t1 t2 N xs ys k:=by
 have kq:∀b o,b∈[z,TI,TO,i1,i2]->h.get? b=some o->h'.get? b=some o:=λb o hb=>kp b o λq=>sS (q ▸ hb);refine⟨?_,W.h1.up λo=>kp _ o m1,W.h2.up λo=>kp _ o m2⟩;rcases W.zz with ⟨Z,e⟩|⟨fl,o,zz,h0,ti,j1,j2⟩
 ·exact .inl ⟨Z.up kq,hs.trans e⟩
 ·exact .inr ⟨fl,o,kq _ _ (by simp) zz,kp _ _ sN h0,kq _ _ (by simp) ti,j1.up λo=>kq _ o (by simp),j2.up λo=>kq _ o<|by simp⟩
theorem Yk {x y:ak}{Q:aO ak->ao->Prop}(W:ZW s.heap z TI TO i1 i2 t1 t2 N xs ys k)(nd:[z,TI,TO,i1,i2].Nodup)(n1:t1∉[z,TI,TO,i1,i2])(n2:t2∉[z,TI,TO,i1,i2])(nN:N∉[z,TI,TO,i1,i2])(hx:xs[k]?=some x)(hy:ys[k]?=some y)
  (hQ:∀h',ZW h' z TI TO i1 i2 t1 t2 N xs ys (k+1)->IsPair h' s.heap.objs.size x y->h'.objs.size=s.heap.objs.size+1->(∀c o,c∉[z,TI,TO,i1,i2]->s.heap.get? c=some o->h'.get? c=some o)->Q (some<|.ref s.heap.objs.size) {s with heap:=h'}):
  wpAny (model prog w) A (pyNext<|.ref z) Q E s:=by
 obtain⟨Z,h1,h2⟩:=W;rcases Z with ⟨Z,rfl⟩|⟨fl,o,zz,h0,ti,j1,j2⟩
 ·refine Bh Z (λq=>n1<|in4 q) (λq=>n2<|in4 q) h1 h2 hx hy λh' q1 q2 q3 q4 q5 q6 q7 kp=>?_
  have kq:∀c o,c∉[z,TI,TO,i1,i2]->s.heap.get? c=some o->h'.get? c=some o:=λc o hc=>kp c o λq=>hc (in4 q);exact hQ h' ⟨.inr ⟨false,_,q1,q6,q2,q4,q5⟩,h1.up λo=>kq _ o n1,h2.up λo=>kq _ o n2⟩ q6 q7 kq
 ·refine Px (nd.sublist<|by simp) zz ti h0 j1 j2 (λq=>n1<|in3 q) (λq=>n2<|in3 q) h1 h2 hx hy λh' q1 q4 q5 q6 q7 kp=>?_
  have kq:∀c o,c∉[z,TI,TO,i1,i2]->s.heap.get? c=some o->h'.get? c=some o:=λc o hc=>kp c o λq=>hc (in3 q);refine hQ h' ⟨.inr ⟨true,_,q1,kq _ _ nN h0,kp TI _ (λq=>?_) ti,q4,q5⟩,h1.up λo=>kq _ o n1,h2.up λo=>kq _ o n2⟩ q6 q7 kq;simp only[agH,afU,afP,ahP,not_or]at nd q;exact q.elim (λh=>nd.1.1 h.symm) λh=>h.elim nd.2.1.2.1 nd.2.1.2.2
theorem abY {Q:aO ak->ao->Prop}(hh:A.handled=none)(W:ZW s.heap z TI TO i1 i2 t1 t2 N xs ys k)(nd:[z,TI,TO,i1,i2].Nodup)(n1:t1∉[z,TI,TO,i1,i2])(hx:xs[k]?=none)
  (hQ:∀h',(∀c o,c∉[z,TI,TO,i1,i2]->s.heap.get? c=some o->h'.get? c=some o)->Q none {s with heap:=h'}):wpAny (model prog w) A (pyNext<|.ref z) Q E s:=by
 obtain⟨Z,h1,h2⟩:=W;rcases Z with ⟨Z,_⟩|⟨fl,o,zz,h0,ti,j1,j2⟩
 ·exact G5 hh Z (λq=>n1<|in4 q) h1 hx λh' kp=>hQ h' λc o hc=>kp c o λq=>hc (in4 q)
 ·exact Ul hh (nd.sublist<|by simp) zz ti h0 j1 (λq=>n1<|in3 q) h1 hx λh' kp=>hQ h' λc o hc=>kp c o λq=>hc (in3 q)
end
end
section
variable {prog:aA}{w:aG}{A:aq}{R:Result->ao->Prop}
theorem G9 {z TI TO i1 i2 t1 t2 S N:aj}{xs ys:Array ak}(hh:A.handled=none)(hn:xs.size<=sizeLine)(hxy:xs.size=ys.size)(res:ak)
  (nd:[z,TI,TO,i1,i2].Nodup) (lt:∀b∈[z,TI,TO,i1,i2],b<N) (sS:S∉[z,TI,TO,i1,i2]) (sN:S<N) (n1:t1∉[z,TI,TO,i1,i2]) (m1:t1≠S) (n2:t2∉[z,TI,TO,i1,i2]) (m2:t2≠S):
  ∀(m i:Nat) (s:ao) (iR:Array ak) (c:Nat),xs.size=i+m->ZW s.heap z TI TO i1 i2 t1 t2 N xs ys i->s.heap.objs.size=N+i->(∀j x y,j<i->xs[j]?=some x->ys[j]?=some y->IsPair s.heap (N+j) x y)->
  s.heap.get? S=some {cls:=.type "list",dict:=none,data:=.seq iR c,slots:=#[]}->iR=((List.range i).map λj=>Value.ref<|N+j).toArray->
  (∀h' acc' c',(∀b o,b∉[S,z,TI,TO,i1,i2]->s.heap.get? b=some o->h'.get? b=some o)->h'.get? S=some {cls:=.type "list",dict:=none,data:=.seq acc' c',slots:=#[]}->acc'=((List.range xs.size).map λj=>Value.ref<|N+j).toArray->
   (∀j x y,j<xs.size->xs[j]?=some x->ys[j]?=some y->IsPair h' (N+j) x y)->R (.ok<|.ret res) {s with heap:=h'})->
  codeAny (model prog w) A (.builtin "list.extend.loop" ⟨[.ref S, .ref z,res],[]⟩) R s:=by
 have nP:∀j,N+j∉[z,TI,TO,i1,i2]:=λj h=>absurd (lt _ h) (Nat.not_lt.mpr<|afF _ _);have nS:∀j,N+j≠S:=λj=>agM (afH sN<|afF _ _);intro m
 induction m with
 |zero=>
  intro i s iR c hm W sz ps hS ac hR;obtain rfl:xs.size=i:=hm;refine codeAny_builtin F.entry_extend_loop ?_;rw[Around.under_plainId F.plain_extend_loop _];exact abI (abY hh W nd n1 (by simp) λh' kp=>ahI<|hR h' iR c (λb o hb=>kp b o λq=>hb<|afA _ q) (kp S _ sS hS) ac λj x y hj e1 e2=>kp _ _ (nP j)<|ps j x y hj e1 e2)
 |succ m ih=>
  intro i s iR c hm W sz ps hS ac hR;have jf:i<xs.size:=by rw[hm];exact ag5<|Nat.succ_pos _
  have hx:xs[i]?=some xs[i]:=by simp[jf]
  have hy:ys[i]?=some (ys[i]'(hxy ▸ jf)):=by simp
  refine codeAny_builtin F.entry_extend_loop ?_;rw[Around.under_plainId F.plain_extend_loop _];refine abI<|Yk W nd n1 n2 (nP 0) hx hy λh' W' np sz' kp=>?_;have hS':=kp S _ sS hS;have asz:iR.size=i:=by rw[ac];simp
  obtain⟨c2,hS2⟩:∃c2,(h'.update S<|Obj.mapSeq (·.push (.ref s.heap.objs.size))).get? S=some {cls:=.type "list",dict:=none,data:=.seq (iR.push<|.ref s.heap.objs.size) c2,slots:=#[]}:=⟨_,af7 _ hS' rfl⟩;have sb:=Heap.SameBut.update (h:=h') (a:=S) (f:=Obj.mapSeq (·.push (.ref s.heap.objs.size)));have up:∀b o,b≠S->h'.get? b=some o->(h'.update S<|Obj.mapSeq (·.push (.ref s.heap.objs.size))).get? b=some o:=λb o hb e=>(af6 _ _<|ahO hb).trans e;refine abI (wpAny_updateSeq (s:={s with heap:=h'}) hS' rfl (ahI ⟨plainId_quiet F.plain_extend_loop _,ih (i+1) _ (iR.push<|.ref s.heap.objs.size) c2 (by rw[hm,Nat.succ_add];rfl) (W'.up up sb.1 sS (nS 0) m1 m2) (by show(h'.update S _).objs.size=_;rw[sb.1,sz',sz];rfl) (λj x y hj e1 e2=>?_) hS2 (by rw[ac,sz,List.range_succ,af0];simp) λh3 acc' c' kp3=>hR h3 acc' c' λb o hb e=>kp3 b o hb (up b o (λq=>hb<|by simp[q])<|kp b o (λq=>hb<|afA _ q) e)⟩) (by rw[asz];exact afy (afT jf) hn) (by show(iR.push _).size<=sizeLine+1;rw[Array.size_push,asz];exact afO<|afy (afT jf) hn));refine up _ _ (nS j) ?_;rcases Nat.lt_succ_iff_lt_or_eq.mp hj with hj|rfl
  ·exact kp _ _ (nP j)<|ps j x y hj e1 e2
  ·rw[hx]at e1
   rw[hy]at e2;cases e1;cases e2;rw[sz]at np;exact np
end
namespace F
theorem JQ:typeLookup (.type "zip") "__len__"=pure none:=by rw[typeLookup_type,builtinLookup_eq_fast];kernel_rfl
theorem Hf:typeLookup (.type "zip") "__length_hint__"=pure none:=by rw[typeLookup_type,builtinLookup_eq_fast];kernel_rfl
end F
section
variable {prog:aA}{w:aG}{A:aq}{E:ak->ao->Prop}{s:ao}
theorem yL {z TI TO i1 i2 t1 t2:aj}{xs ys:Array ak}{Q:ak->ao->Prop}(hh:A.handled=none)(hn:xs.size<=sizeLine)(hxy:xs.size=ys.size)(Z:zE true false s.heap z TI TO i1 i2 t1 t2 0)
  (h1:s.heap.IsList t1 xs) (h2:s.heap.IsTuple t2 ys) (n1:t1∉[z,TI,TO,i1,i2]) (n2:t2∉[z,TI,TO,i1,i2])
  (hQ:∀h' c',(∀b o,b∉[s.heap.objs.size,z,TI,TO,i1,i2]->s.heap.get? b=some o->h'.get? b=some o)->h'.get? s.heap.objs.size=some {cls:=.type "list",dict:=none,data:=.seq ((List.range xs.size).map λj=>Value.ref<|s.heap.objs.size+1+j).toArray c',slots:=#[]}->
   (∀j x y,j<xs.size->xs[j]?=some x->ys[j]?=some y->IsPair h' (s.heap.objs.size+1+j) x y)->Q (.ref s.heap.objs.size) {s with heap:=h'}):
  wpAny (model prog w) A (call (.type "list") [.ref z]) Q E s:=by
 have lt:∀c∈[z,TI,TO,i1,i2],c<s.heap.objs.size:=λc hc=>by
  simp only[afU,afP,ahP]at hc;obtain⟨nd,zz,ti,⟨u,v,tO⟩,⟨o1,j1,c1,d1⟩,⟨o2,j2,c2,d2⟩⟩:=Z;rcases hc with rfl|rfl|rfl|rfl|rfl
  ·exact afB zz
  ·exact afB ti
  ·exact afB tO
  ·exact afB j1
  ·exact afB j2
 refine callType_codes (Q₁:=λobj eF=>obj=.ref s.heap.objs.size/\eF={s with heap:=s.heap.push {cls:=.type "list",data:=.seq #[]}}) F.called_list (F.typeCall_list_1 _) F.entry_list_init
  (code_list_new _ ⟨rfl,rfl⟩) λobj eF rB=>?_
 obtain⟨rfl,rfl⟩:=rB;have hS:(s.heap.push {cls:=.type "list",data:=.seq #[]}).get? s.heap.objs.size=some {cls:=.type "list",data:=.seq #[]}:=afK _ rfl;refine⟨⟨_,hS,rfl⟩,F.args_list_init_2 _ _,?_⟩;show wpAny _ A.in1.in1 (do let old <-Builtin.List.listItems (.ref s.heap.objs.size);Builtin.List.listUpdate (.ref s.heap.objs.size) (λ_=>#[]);letGo old.toList.reverse;Builtin.List.listExtendWith (.ref s.heap.objs.size) (.ref z) .none) _ _ _;refine abI ?_;unfold Builtin.List.listItems;refine abI<|wpAny_seqItems hS rfl (ahI ?_);show wpAny _ A.in1.in1 (updateSeq s.heap.objs.size (λ_=>#[])>>=λ_=>letGo (#[]:Array ak).toList.reverse>>=λ_=>Builtin.List.listExtendWith (.ref s.heap.objs.size) (.ref z) .none) _ _ _;refine abI<|wpAny_updateSeq (s:={s with heap:=s.heap.push {cls:=.type "list",data:=.seq #[]}}) hS rfl ?_;have hS₂:=af7 (Obj.mapSeq λ_=>(#[]:Array ak)) hS rfl;have szp:(s.heap.push {cls:=.type "list",data:=.seq #[]}).objs.size=s.heap.objs.size+1:=agj ..;have sb2:=Heap.SameBut.update (h:=s.heap.push {cls:=.type "list",data:=.seq #[]}) (a:=s.heap.objs.size) (f:=Obj.mapSeq λ_=>(#[]:Array ak));have up2:∀b o,s.heap.get? b=some o->((s.heap.push {cls:=.type "list",data:=.seq #[]}).update s.heap.objs.size<|Obj.mapSeq (λ_=>(#[]:Array ak))).get? b=some o:=λb o e=>
  (af6 _ _<|agM (afB e)).trans (afx _ e)
 have sz2:((s.heap.push {cls:=.type "list",data:=.seq #[]}).update s.heap.objs.size<|Obj.mapSeq (λ_=>(#[]:Array ak))).objs.size=s.heap.objs.size+1:=by rw[sb2.1,szp]
 revert hS₂ up2 sz2;generalize (s.heap.push {cls:=.type "list",data:=.seq #[]}).update s.heap.objs.size (Obj.mapSeq λ_=>(#[]:Array ak))=g2;intro hS2 up2 sz2;have Z2:zE true false g2 z TI TO i1 i2 t1 t2 0:=Z.up λb o _=>up2 b o;refine abI<|wpAny_letGo ?_;unfold Builtin.List.listExtendWith;have hT:Shared.TypeIs {s with heap:=g2} (.ref z) "zip":=⟨_,Z2.zz,rfl⟩;refine abI<|wpAny_typeOf hT ?_;have zne:s.heap.objs.size≠z:=λe=>afQ _ (by have:=lt z (by simp);rw[<-e]at this;exact this);have k1:Builtin.List.listSameRef (.ref s.heap.objs.size) (.ref z)=false:=by simp[Builtin.List.listSameRef,zne]
 have k2:(Value.type "zip"==Value.type "list")=false:=by decide
 have k3:(Value.type "zip"==Value.type "tuple")=false:=by decide
 simp only[k1,k2,k3,aha,agt,if_false];refine abI<|wpAny_pyIter_zip (s:={s with heap:=g2}) Z2.zz ?_;refine abI<|ahV ?_;unfold Builtin.List.listLengthHint;refine abI<|wpAny_specialOf hT F.JQ ?_;show wpAny _ A.in1.in1 (specialOf (Value.ref z) (Str.ofString "__length_hint__")>>=_) _ _ _;refine abI<|wpAny_specialOf hT F.Hf (ahI ?_);show wpAny _ A.in1.in1 (rule "list.extend.makes-room">>=λ_=>Builtin.List.listTouch (.ref s.heap.objs.size)>>=λ_=>again<|.builtin "list.extend.loop" ⟨[.ref s.heap.objs.size, .ref z, .none],[]⟩) _ _ _;refine abI<|wpAny_rule (abI ?_);show wpAny _ A.in1.in1 (updateSeq s.heap.objs.size (·.push .none)>>=λ_=>updateSeq s.heap.objs.size (·.pop)) _ _ _;refine abI<|wpAny_updateSeq (s:={s with heap:=g2}) hS2 rfl ?_;have hS₃:=af7 (Obj.mapSeq (·.push Value.none)) hS2 rfl;refine wpAny_updateSeq (hz:=by seq_fits) hS₃ rfl ?_;have hS₄:=af7 (Obj.mapSeq (·.pop)) hS₃ rfl;have sb3:=Heap.SameBut.update (h:=g2) (a:=s.heap.objs.size) (f:=Obj.mapSeq (·.push Value.none));have sb4:=Heap.SameBut.update (h:=g2.update s.heap.objs.size<|Obj.mapSeq (·.push Value.none)) (a:=s.heap.objs.size) (f:=Obj.mapSeq (·.pop));have Vm:∀b o,b≠s.heap.objs.size->g2.get? b=some o->((g2.update s.heap.objs.size<|Obj.mapSeq (·.push Value.none)).update s.heap.objs.size<|Obj.mapSeq (·.pop)).get? b=some o:=λb o hb e=>
  (af6 _ _<|ahO hb).trans ((af6 _ _<|ahO hb).trans e)
 have sz4:((g2.update s.heap.objs.size<|Obj.mapSeq (·.push Value.none)).update s.heap.objs.size<|Obj.mapSeq (·.pop)).objs.size=s.heap.objs.size+1:=by rw[sb4.1,sb3.1,sz2]
 obtain⟨c4,hS4⟩:∃c4,((g2.update s.heap.objs.size<|Obj.mapSeq (·.push Value.none)).update s.heap.objs.size<|Obj.mapSeq (·.pop)).get? s.heap.objs.size=some {cls:=.type "list",dict:=none,data:=.seq #[] c4,slots:=#[]}:=⟨_,hS₄⟩;revert hS4 Vm sz4;generalize (g2.update s.heap.objs.size<|Obj.mapSeq (·.push Value.none)).update s.heap.objs.size (Obj.mapSeq (·.pop))=g4;intro Vm sz4 hS4;have neS:∀c∈[z,TI,TO,i1,i2],c≠s.heap.objs.size:=λc hc e=>by have:=lt c hc;rw[e]at this;exact afQ _ this
 have ne1:t1≠s.heap.objs.size:=h1.elim λo e=>afV (afB e.1);have ne2:t2≠s.heap.objs.size:=h2.elim λo e=>afV (afB e.1);refine ahI ⟨plainId_quiet F.plain_extend_loop _,G9 (A:=A.in1) (N:=s.heap.objs.size+1) (S:=s.heap.objs.size) hh hn hxy .none Z.nd (λb hb=>aho<|lt b hb) (λh=>neS _ h rfl) (agD _) n1 ne1 n2 ne2 xs.size 0 _ #[] c4 (ag1 _).symm
  ⟨.inl ⟨Z2.up λb o hb=>Vm b o<|neS b hb,sz4⟩,yI.up (b:=true) h1 λo e=>Vm _ o ne1<|up2 _ o e,yI.up (b:=false) h2 λo e=>Vm _ o ne2<|up2 _ o e⟩ sz4 (λj x y hj=>absurd hj<|ahF _) hS4 rfl λh' acc' c' kp hS' ha hp=>?_⟩
 subst ha;exact⟨rfl,hQ h' c' (λb o hb e=>kp b o hb (Vm b o (λq=>hb<|by simp[q])<|up2 b o e)) hS' hp⟩
end
end PySem
namespace L2
noncomputable def hPs (H:Hp)(N:aj):List (V×V)->Hp
 |[]=>H
 |(x,y)::r=>upd (hPs H (N+1) r) N (.tup [x,y])
section
variable {X:Cx}{bH:List (aj×Obj)}{U:St}{s:ao}
theorem Dw {H:Hp}{l:List (V×V)}{N b:aj}(h:b<N):hPs H N l b=H b:=by
 induction l generalizing N with
 |nil=>rfl
 |cons p r ih=>
  show upd (hPs H (N+1) r) N _ b=_;rw[bV (afV h),ih (aho h)]
theorem abZ {H:Hp}{l:List (V×V)}{N j:Nat}{x y:V}(h:l[j]?=some (x,y)):hPs H N l (N+j)=some (.tup [x,y]):=by
 induction l generalizing N j with
 |nil=>simp at h
 |cons p r ih=>
  show upd (hPs H (N+1) r) N _ (N+j)=_;cases j with
  |zero=>cases h;exact bA
  |succ j=>
   rw[bV (agM<|ag5 (Nat.succ_pos _)),show N+(j+1)=(N+1)+j by omega];exact ih h
theorem Inv.Yl {H:Hp}(I:Inv X bH U H s):∀{l:List (V×V)} {N:aj},(∀b,N<=b->b<N+l.length->uz X bH H b)->(∀(j:Nat) (x y:V),l[j]?=some (x,y)->∃u v,RelV x u/\RelV y v/\IsTup s.heap (N+j) #[u,v])->Inv X bH U (hPs H N l) s:=by
 intro l
 induction l with
 |nil=>exact λ_ _=>I
 |cons p r ih=>
  intro N hf hp;obtain⟨x,y⟩:=p;have ih:=ih (N:=N+1) (λb h1 h2=>hf b (Nat.le_of_succ_le h1)<|by rw[Nat.succ_add]at h2;exact h2) (λj a b h=>by
   have:=hp (j+1) a b (by simpa using h);rw[show N+(j+1)=(N+1)+j from by rw[af2,Nat.add_comm 1 j]]at this;exact this)
  obtain⟨u,v,ru,rv,ht⟩:=hp 0 x y rfl;obtain⟨f0,f1⟩:=hf N (afv _) (ag5<|Nat.succ_pos _);have f0':hPs H (N+1) r N=none:=by rw[Dw (agD _)];exact f0
  exact ih.JB (bh:=[u,v]) ⟨f0',f1⟩ (by show 2<=sizeLine;rw[sizeLine_eq];decide) (.cons ru<|.cons rv .nil) ht
end
def PB (ta:TA):TE:=λU H Q=>ta U H λvs H1=>∃a b xs ys,vs=[.ref a, .ref b]/\H1 a=some (.lst xs)/\H1 b=some (.tup ys)/\xs.length=ys.length/\
 ∀(l:aj) (ps:List aj) H',Same H1 H'->H1 l=none->H' l=some (.lst<|ps.map V.ref)->ps.length=xs.length->(∀(j:Nat) (x y:V),xs[j]?=some x->ys[j]?=some y->∃p,ps[j]?=some p/\H' p=some (.tup [x,y]))->Q (.ref l) H'
theorem Hg {X:Cx}{e1 e2:aH}{ta:TA}{p pos p2 pos2:Pos}(hc:X.calm=true)(hgl:Gl X "list")(hml:X.mg "list"=none)(hg:Gl X "zip")(hm:X.mg "zip"=none)(ha:PA X [e1,e2] ta)
  (hs1:starEach [Expr.Call (.Name "zip" p2) [e1,e2] [] pos2] X.env=[(false,eval (Expr.Call (.Name "zip" p2) [e1,e2] [] pos2) X.env)]:=by rfl)
  (hs:starEach [e1,e2] X.env=[(false,eval e1 X.env),(false,eval e2 X.env)]:=by rfl) (hs2:starEach [e2] X.env=[(false,eval e2 X.env)]:=by rfl):
  PE X (.Call (.Name "list" p) [.Call (.Name "zip" p2) [e1,e2] [] pos2] [] pos) (PB ta):=by
 intro bH s U H Q I h;refine wpAny_Call_Name_kw (mV I hgl hml boot_list ?_ (by decide)<|by decide);refine PyProof.Rows.callWith_type1 ?_ hs1 rfl;rw[hs1];refine Calls.spliced_cons ?_;refine Call_ (mV I hg hm Ay (PyProof.Rows.callWith_type1 (gk (ha pos2 bH s U H _ I h) λus s1 ⟨vs,H1,I1,r1,q1⟩=>?_) (by rw[hs,hs2])<|by rw[hs2];rfl));obtain⟨a,b,xs,ys,rfl,h1,h2,jX,q⟩:=q1;cases r1 with
 |cons r rr=>
  cases rr with
  |cons r' rr=>
   cases rr;cases r;cases r';obtain⟨lK,zu,p1,z1⟩:=I1.list (dD.of (K:=X.K) h1);obtain⟨iQ,Xc,p2',z2⟩:=I1.tuple (iM.of h2);have l1:=zu.length;have l2:=Xc.length;refine Bj (K1:=true) (K2:=false) rfl p1.isList (show s1.heap.IsTuple b iQ.toArray from p2') λh2' z TI TO i1 i2 g1 g2 g3 g4 g5 Z kp=>?_;refine Calls.spliced_nil ?_;have alt:a<s1.heap.objs.size:=p1.isList.elim λo e=>afB e.1;have blt:b<s1.heap.objs.size:=p2'.elim λo e=>afB e.1;have ge:∀c∈[z,TI,TO,i1,i2],s1.heap.objs.size<=c:=λc hc=>by
    simp only[afU,afP,ahP]at hc;rcases hc with rfl|rfl|rfl|rfl|rfl<;>assumption
   have szl:s1.heap.objs.size<=h2'.objs.size:=afy g1 (afT<|afB Z.zz);refine yL (s:={s1 with heap:=h2'}) (I1.ok.hd hc) (by simp;omega) (by simp;omega) Z (yI.up (b:=true) p1.isList<|kp _) (yI.up (b:=false) p2'<|kp _)
    (λq=>absurd (ge _ q)<|Nat.not_le.mpr alt) (λq=>absurd (ge _ q)<|Nat.not_le.mpr blt) λh3 c3 kp3 hS hP=>?_
   have kp1:∀c o,s1.heap.get? c=some o->h3.get? c=some o:=λc o e=>kp3 c o (λq=>by
    have jf:=afB e;rcases afU.mp q with q|q
    ·rw[q]at jf
     exact absurd jf<|Nat.not_lt.mpr szl
    ·exact absurd (ge c q)<|Nat.not_le.mpr jf) (kp c o e)
   have I2:Inv X bH U H1 {s1 with heap:=h3}:=I1.kept (t':=s1.toks) kp1;have fp:∀c,s1.heap.objs.size<=c->uz X bH H1 c:=λc hc=>I1.uD hc (I1.hok.fresh hc);have I3:=I2.Yl (l:=xs.zip ys) (N:=h2'.objs.size+1) (λc hc _=>fp c<|afy szl (Nat.le_of_succ_le hc)) (λj x y hj=>by
    rw[ahu]at hj;obtain⟨hx,hy⟩:=hj;obtain⟨u,hu,ru⟩:=zu.get hx;obtain⟨v,hv,rv⟩:=Xc.get hy;have hj:j<lK.length:=(ahW hu).1;exact⟨u,v,ru,rv,_,hP j u v (by simpa using hj) (by simpa using hu) (by simpa using hv),rfl,_,rfl⟩)
   have HN:hPs H1 (h2'.objs.size+1) (xs.zip ys) h2'.objs.size=none:=by rw[Dw (agD _)];exact(fp _ szl).1
   obtain⟨_,f1,f2,f3,f4,f5⟩:=fp _ szl;have vv:Vals ((List.range lK.length).map λj=>V.ref<|h2'.objs.size+1+j) ((List.range lK.length).map λj=>Value.ref<|h2'.objs.size+1+j):=by
    generalize List.range lK.length=L
    induction L with
    |nil=>exact .nil
    |cons j r ih=>exact .cons rfl ih
   have I4:=I3.track (D:=h2'.objs.size) HN (by rw[afL,List.length_range];omega) vv (by simpa using hS) f3 f1 f4 f5;refine⟨.ref h2'.objs.size,_,I4,rfl,q h2'.objs.size ((List.range lK.length).map λj=>h2'.objs.size+1+j) _ (λc u hc=>?_) (fp _ szl).1 ?_ (by rw[afL,List.length_range,l1]) λj x y hx hy=>?_⟩
   ·have cl:c<s1.heap.objs.size:=by
     rcases Nat.lt_or_ge c s1.heap.objs.size with h|h
     ·exact h
     ·rw[(fp c h).1]at hc;cases hc
    rw[bV (afV<|afH cl szl),Dw (aho<|afH cl szl)];exact hc
   ·rw[bA,List.map_map];rfl
   ·have hj:j<lK.length:=by rw[<-l1];exact(ahW hx).1
    refine⟨h2'.objs.size+1+j,by rw[afJ,agC hj];rfl,?_⟩;rw[bV (agM<|by omega)];exact abZ (by rw[ahu];exact⟨hx,hy⟩)
end L2
namespace Fw
open L2
noncomputable def sg:Nat->Nat
 |0=>16
 |n+1=>4*sg n+55
theorem Dy:∀n,16<=sg n
 |0=>by decide
 |n+1=>by have:=Dy n;unfold sg;exact afX _ _
theorem mx1 {x y N:Nat}:max x y+1<=N↔x+1<=N/\y+1<=N:=⟨λh=>⟨afy (afO<|agq _ _) h,afy (afO<|agl _ _) h⟩,λh=>(Nat.le_total x y).elim (λz=>by rw[Nat.max_eq_right z];exact h.2) λz=>by rw[Nat.max_eq_left z];exact h.1⟩
theorem mx0 {x y N:Nat}(h1:x<=N)(h2:y<=N):max x y<=N:=Nat.max_le.mpr ⟨h1,h2⟩
inductive zF (D:Nat)(vs:List V)(H:Hp)(Q:VK)(E_:XK):Prop where
 |mk (M R:Nat) (st lo ls:aj) (kv:V) (G SK:List Kd) (k:Kd):vs=[.ref st, .ref lo, .ref ls,kv, .int (D:Int)]->Cn M R H st lo ls G SK->nq H kv k->uq k+D<=5->hk k+D<=25->G.length+6*D+6<=30->(∀v t H',iW H' v t->WT M R SK G t k->dep t<=D+6->sz t<=sg D->jk (zA M R) st H H'->Q v H')->zF D vs H Q E_
def Bk (n:Nat):Sp:=λvs H Q E=>∃D,D<n/\zF D vs H Q E
theorem yM {tl:aP V}{H:Hp}{st b:aj}{o:HO}(h:nj tl H st)(hb:H b=none):jk tl st H (upd H b o):=cQ h (bK hb o)
theorem nj.fresh {tl:aP V}{H:Hp}{st b:aj}(h:nj tl H st)(hb:H b=none):b≠st:=by
 obtain⟨a,c,h⟩:=h;exact cH hb h
theorem x_len:("x":Str).length=1:=by decide+kernel
theorem yN {t:Tm}:∀{ts:List Tm},yc (ts++[t])=yc ts+sz t+1
 |[]=>by simp[yc]
 |u::us=>by
  have:=yN (t:=t) (ts:=us);simp only[agi,yc];omega
theorem uT {t:Tm}{N:Nat}(ht:dep t<=N):∀{ts:List Tm},iJ ts<=N->iJ (ts++[t])<=N
 |[],_=>by simp only[agQ,iJ];exact mx0 ht<|afY _
 |u::us,h=>by
  simp only[agi,iJ]at h ⊢;exact mx0 (afy (agq _ _) h)<|uT ht (afy (agl _ _) h)
theorem u0.snoc {M R:Nat}{SK G:List Kd}{t:Tm}{k:Kd}(ht:WT M R SK G t k):∀{ts:List Tm} {ks:List Kd},u0 M R SK G ts ks->u0 M R SK G (ts++[t]) (ks++[k])
 |[],_,h=>by cases h;exact⟨k,[],rfl,ht,rfl⟩
 |u::us,_,⟨k',ks',e,h1,h2⟩=>by subst e;exact⟨k',ks'++[k],rfl,h1,u0.snoc ht h2⟩
noncomputable def Ym (s e:Nat):Nat->Nat
 |0=>0
 |i+1=>Ym s e i+1+(if i<e then s else 16)
theorem ae6 {s i:Nat}(h:i<=5)(hs:16<=s):Ym s 2 i<=2*s+53:=by
 have:=n6 (ahp h);rcases this with rfl|rfl|rfl|rfl|rfl|rfl<;>(simp[Ym]<;>omega)
theorem ae7 {s i:Nat}(h:i<=6)(hs:16<=s):Ym s 3 i<=3*s+54:=by
 have:=n7 (ahp h);rcases this with rfl|rfl|rfl|rfl|rfl|rfl|rfl<;>(simp[Ym]<;>omega)
theorem JR {H:Hp}{k:Kd}(h:k=.n\/k=.b):nq H (Bg k) k/\uq k=0/\hk k=0:=by
 rcases h with rfl|rfl
 ·exact⟨.n,rfl,rfl⟩
 ·exact⟨.b,rfl,rfl⟩
theorem Dz:∀q,q<6->∀k∈iU q,k=.n\/k=.b:=by decide+kernel
theorem Um {n:Nat}(x:Bool):∃m:Nat,Vf [V.int 0,V.int (((n+1:Nat):Int)-1)] (if x=true then 1 else 0)=some (.int (m:Int))/\m=(if x=true then n else 0):=by
 cases x
 ·exact⟨0,cg (j:=0) rfl,rfl⟩
 ·exact⟨n,by rw[show((n+1:Nat):Int)-1=(n:Int) by omega];exact cg (j:=1) rfl,rfl⟩
theorem aad:((["_law_k","_law_one"]:aP Str)++(["_law_state","_law_own_here","_law_shared","_law_depth"]:aP Str)).Nodup:=by decide+kernel
theorem ab0 {c1 c2:Bool}{B R T:Prop}(h2:(if c2=true then B else R)->T)(hb:c1=true\/c2=true->B)(hr:¬c1=true->¬c2=true->R):if c1=true then(if true=true then B else R) else T:=by
 cases c1
 ·rw[ahL afD]
  refine h2 ?_;cases c2
  ·rw[ahL afD];exact hr afD afD
  ·rw[ahK rfl];exact hb<|.inr rfl
 ·rw[ahK rfl,ahK rfl];exact hb<|.inl rfl
def OwP (M R n:Nat)(st:aj)(SK G ks:List Kd)(H:Hp)(i:Nat)(vs:List V)(H':Hp):Prop :=
 jk (zA M R) st H H'/\∃ts:List Tm,vs.length=i/\oA H' vs ts/\u0 M R SK G ts (ks.take i)/\iJ ts<=n+6/\yc ts<=Ym (sg n) 2 i
section
abbrev DG:List Str:=["_law_state","_law_own_here","_law_shared","_law_kind_here","_law_depth"]
abbrev Hh:aJ:=top 55
noncomputable abbrev nOw:List Str:=["_law_state","_law_own_here","_law_shared","_law_kind_here","_law_depth","_law_fields_here","_law_number_here","_law_some","_law_name","_law_word","_law_left"]
theorem pG:cu nOw DG (bN Hh):={}
def adN (n:Nat):TS:=λD U H=>∃(M R:Nat) (st lo ls lf:aj) (kv:V) (G SK ks:List Kd) (q:Nat) (o7 o8 o9 Uo:Option V),U=[some (.ref st),some<|.ref lo,some<|.ref ls,some kv,some<|.int ((n+1:Nat):Int),some<|.ref lf,some<|.int (q:Int),o7,o8,o9,Uo]/\Cn M R H st lo ls G SK/\G.length+6*n+12<=30/\n<=5/\
 (H lf=some (.tup<|ks.map Bg)\/H lf=some (.lst<|ks.map Bg))/\lf≠st/\(∀k∈ks,k=.n\/k=.b)/\ks.length<=5/\
 ∀v ts H',iW H' v (.block (q:Int) ts)->u0 M R SK G ts ks->iJ ts<=n+6->yc ts<=2*sg n+53->jk (zA M R) st H H'->D.rt v H'
set_option maxHeartbeats 4000000 in
theorem ab1 {n:Nat}(F:gY K "_law_own" "_law_own" Hh f fd)(ml:mg "len"=none)(ms:mg "str"=none)(mI:mg "int"=none)(mE:mg "enumerate"=none)(mt:mg "tuple"=none)(h1:Has P w K mg aV 1 "_law_next" ["_law_state","_law_many"] j7)(h3:Has P w K mg aV 1 "_law_fields" nFl Ug)(h2:Has P w K mg aV (12+2*n) "_law_grown" DG (Bk<|n+1)):
  cX P w K mg aV jG (12+2*n+1) f fd DG (zF<|n+1):=by
 refine F.ok pG λdJ A aU s H vs Q E hr h=>?_;obtain⟨M,R,st,lo,ls,kv,G,SK,k,rfl,cn,hkv,hrs,Uq,lG,q⟩:=h;have uR:=hr.units;have hz:=sizeLine_eq;have sp:=Dy n;have es:sg (n+1)=4*sg n+55:=rfl;have ed:((n+1:Nat):Int)-1=(n:Int):=by omega
 refine⟨_,bI (dB (PW.pt<|Ka (cA (qx uR) (pv 3) bU) (Hz<|cA (qx uR) (pv 3) bU))
   (bI (eU 5 pG.nd<|cU aaK (dO<|bx bU bG) (bZ (rE K) (pv 0) bJ))
   (bI (eU 6 pG.nd bJ)
   (bI (dB (cA (qx uR) (pv 3) bU)
    (bI (eU 6 pG.nd (cP h1 hr (by omega) rfl (bx (pv 0)<|bx (bZ (rE K) (pv 0) bJ) bG)))
    (bQ (eU 5 pG.nd (cP h3 hr (by omega) rfl (bx (pv 6) bG))))) cR)
   (O1 (t':=adN n)
   (bI (Ub (g:=M6 K 2<|sG (jy 0) (sG (jy 1) Qy)) (bN Hh) nOw ["_law_k","_law_one"] ["_law_state","_law_own_here","_law_shared","_law_depth"] [0,1,2,4] (by decide+kernel) (GZ rfl mE (pv 5)) (dF (i:=7) pG.nd rfl (Or.inl rfl))
    (λC s₀ H₀ ex=>Zt K (n:=2) rfl (fK (dF (i:=0) aad rfl (Or.inl rfl) (Or.inr rfl))<|fK (dF (i:=1) aad rfl (Or.inl rfl) (Or.inr rfl)) mq)) (λC s₀ H₀ ex=>j8)
    (λC s₀ H₀ ex=>cP h2 hr (by exact afv _) rfl (bx (pv 2)<|bx (pv 3) (bx (pv 4)<|bx (pv 1) (bx (bZ (rE K) (dO<|bx bJ (bx (cU iw (pv 5) bJ) bG))<|cZ lN rfl mI boot_int (bx (qG wU (pv 0) bJ) bG)) bG)))) (by with_unfolding_all rfl))
   (bQ<|cO (cV<|bx bU (bx (pv 6)<|bx (cZ (BW K) rfl mt boot_tuple (bx (pv 7) bG)) bG)))) ?qb)))) cR)
  (bI (dB (cA (T9 uR) (pv 3) bU)
   (bI (eU 8 pG.nd<|cU oV bU (cZ jP rfl ms boot_str (bx (cJ (kI K) rfl ml ahS (bx (pv 1) bG)) bG)))
   (bQ (cO (cV (bx bU (bx (pv 8) (bx (cP h2 hr (by exact afv _) rfl (bx (pv 0)<|bx (cU lU (pv 1)<|dO (bx (cV<|bx (pv 8) (bx (bZ (fG K) (pv 3) bJ) bG)) bG)) (bx (pv 2)<|bx (bZ (fG K) (pv 3) bJ) (bx (cU iw (pv 4) bJ) bG)))) bG))))))) cR)
  (bI (eU 9 pG.nd (bZ (rE K) (dO<|bx bU (bx bU<|bx bU (bx bU bG))) (cP h1 hr (by omega) rfl (bx (pv 0)<|bx bJ bG))))
  (bI (eU 10 pG.nd (cP h2 hr (by exact afv _) rfl (bx (pv 0)<|bx (pv 1) (bx (pv 2)<|bx bU (bx (cU iw (pv 4) bJ) bG)))))
  (bQ (cO (cV (bx (pv 9) (bx (pv 10) (bx (cP h2 hr (by exact afv _) rfl (bx (pv 0)<|bx (pv 1) (bx (pv 2)<|bx bU (bx (cU iw (pv 4) bJ) bG)))) bG))))))))),?_⟩
 case qb=>
  rintro D U H5 ⟨M,R,st,lo,ls,lf,kv,G,SK,ks,q,o7,o8,o9,Uo,rfl,cn5,lG5,n5,LK,LQ,nb,l5,qq⟩;obtain⟨b,LK⟩:∃b,H5 lf=some (Ed b<|ks.map Bg):=LK.elim (⟨false,·⟩) (⟨true,·⟩);refine⟨_,rfl,lf,b,ks.map Bg,rfl,LK,yJ (n:=2) (xs:=ks.map Bg) (OwP M R n st SK G ks H5) ⟨jk.refl cn5.ok,[],rfl, .nil,rfl,afY _,afv _⟩ ?_ ?_ ?_⟩
  ·rintro i vs H' hi ⟨g,ts,l1,_⟩
   rw[afL]at hi;exact⟨g.1 _ _ LQ LK,cW<|by omega⟩
  ·rintro i x tp vs H' τ Nz hi hx htp ⟨g,ts,l1,tm,wt,dt,zt⟩
   rw[afL]at hi;rw[afJ,afw hi]at hx;cases hx;obtain⟨kd,r0,h0⟩:=JR (H:=H') (nb _<|agx hi);have s1:=bK htp (.tup [.int (i:Int),Bg ks[i]]);have b1:(upd H' tp<|.tup [.int (i:Int),Bg ks[i]]) tp=some (.tup [.int (i:Int),Bg ks[i]]):=bA;revert s1 b1;generalize upd H' tp (.tup [.int (i:Int),Bg ks[i]])=H6;intro s1 b1;obtain⟨t1,t2,rfl⟩:=len2 Nz;refine⟨tp,_,rfl,iM.of b1,rfl,_,_,rfl,_,[],rfl,rfl,⟨[some _,some _],rfl,rfl⟩,Zg<|uH ?_⟩;refine⟨_,rfl,_,rfl,_,rfl,_,rfl,_,rfl,_,_,rfl,rfl,(fH 2),λl hl=>?_⟩;have s2:=bK hl (.lst [.int 0, .int (((n+1:Nat):Int)-1)]);have s12:=s1.trans s2;have g2:=g.trans (cQ g.ok s12);obtain⟨m,hm,em⟩:=Um (n:=n) (decide<|(i:Int)<2);have mn:m<=n:=by rw[em];split<;>omega
   refine⟨_,rfl,_,_,rfl,rfl, .inr ⟨_,rfl,l,_,_,_,rfl,rfl,dD.of bA,hm,?_⟩⟩;refine⟨m,by exact afO mn,M,R,st,lo,ls,_,G,SK,ks[i],rfl,cn5.grow g2,kd.same s12,by omega,by omega,by omega,λv t H7 tl7 w7 d7 z7 g7=>nx (by rw[afL];exact hi) ?_⟩;refine⟨g2.trans g7,ts++[t],by rw[afu,l1];rfl,((tm.tps λb ys h=>s12 b _ h).tps<|dj g2.ok g7).snoc tl7,?_,uT (by omega) dt,?_⟩
   ·rw[agn,afw hi]
    exact u0.snoc w7 wt
   ·rw[yN]
    unfold Ym;have:sz t<=(if i<2 then sg n else 16):=by
     by_cases c:i<2
     ·rw[ahK c]
      rw[em,ahK (ahN<|by omega)]at z7;exact z7
     ·rw[ahL c]
      rw[em,ahL (λz=>c<|by have:=ahM z;omega)]at z7;exact z7
    omega
  ·rintro vs H6 ⟨g,ts,l1,tm,wt,dt,zt⟩ l hl
   rw[afL,agu]at wt;rw[afL]at zt;have s1:=bK hl (.lst vs);have b1:(upd H6 l<|.lst vs) l=some (.lst vs):=bA;revert s1 b1;generalize upd H6 l (.lst vs)=H7;intro s1 b1;show jt _ _ _ [some (.ref st),some<|.ref lo,some<|.ref ls,some kv,some<|.int ((n+1:Nat):Int),some<|.ref lf,some<|.int (q:Int),some<|.ref l,o8,o9,Uo] H7;refine⟨_,rfl,_,rfl,l,vs,rfl, .inl ⟨dD.of b1,λp8 hp8=>?_⟩⟩;have s8:=bK hp8 (.tup vs);refine⟨(fH 3),λp9 hp9=>?_⟩;have s9:=bK hp9 (.tup [.str "block", .int (q:Int), .ref p8]);have s19:=s1.trans (s8.trans s9);exact qq _ ts _ (.block bA (s9 _ _ bA)<|tm.tps λb ys h=>s19 b _ h) wt dt (afy zt<|ae6 l5 sp)<|g.trans (cQ g.ok s19)
 clear uR hr;have own:∀q:Nat,∀ks:List Kd,ks.length<=5->(∀k∈ks,k=.n\/k=.b)->((k=.b/\q<M/\ks=iU q)\/(k=.r/\q=0/\ks=List.replicate R .n))->∀(H3:Hp) (lf:aj) (o7 o8 o9 Uo:Option V),jk (zA M R) st H H3->(H3 lf=some (.tup<|ks.map Bg)\/H3 lf=some (.lst<|ks.map Bg))->lf≠st->
   adN n (Ends.of Q) [some (.ref st),some<|.ref lo,some<|.ref ls,some kv,some<|.int ((n+1:Nat):Int),some<|.ref lf,some<|.int (q:Int),o7,o8,o9,Uo] H3:=λq' ks l5 nb hk' H3 lf o7 o8 o9 Uo g3 LK LQ=>by
  refine⟨M,R,st,lo,ls,lf,kv,G,SK,ks,q',o7,o8,o9,Uo,rfl,cn.grow g3,by exact lG,by omega,LK,LQ,nb,l5,λv ts H' tl wt dt zt g'=>?_⟩;refine q v _ H' tl ?_ (by simp only[dep];exact afO dt) (by simp only[sz];omega)<|g3.trans g';have lt:=wt.len;rcases hk' with ⟨rfl,hq,rfl⟩|⟨rfl,rfl,rfl⟩
  ·exact⟨by omega, .inl ⟨rfl,q',rfl,hq,wt⟩⟩
  ·exact⟨by omega, .inr ⟨rfl,rfl,wt⟩⟩
 have br:=cn.br;obtain⟨xa,xb,jY⟩:=id cn.ok;refine⟨_,rfl,k, .b,hkv, .b,by omega,_,rfl,ab0 (c2:=decide<|k=.r) (λh=>⟨_,rfl,k, .r,hkv, .r,by omega,_,rfl,h⟩) (λc=>?_) λc1 c2=>?_⟩
 ·refine⟨(fH 1),λl0 hl0=>?_⟩
  have s0:=bK hl0 (.lst [.str "n"]);refine⟨_,rfl,st,_,3, .int (R:Int),rfl,rfl,dD.of<|s0 _ _ jY,cg (j:=3) rfl,l0,(R:Int),_,rfl,rfl,bA,by omega,by omega,by rw[af5];show 1*R<=_;omega,λlf LK=>?_⟩;have e1:(List.replicate (R:Int).toNat [V.str "n"]).flatten=(List.replicate R Kd.n).map Bg:=by rw[af5,List.flatten_replicate_singleton,List.map_replicate];rfl
  rw[e1];have s1:=bK LK (.lst<|(List.replicate R Kd.n).map Bg);have b1:(upd (upd H l0<|.lst [.str "n"]) lf<|.lst ((List.replicate R Kd.n).map Bg)) lf=some (.lst<|(List.replicate R Kd.n).map Bg):=bA;have LQ:lf≠st:=cH LK (s0 _ _ jY);have s01:=s0.trans s1;revert s01 b1;generalize upd (upd H l0<|.lst [.str "n"]) lf (.lst<|(List.replicate R Kd.n).map Bg)=H1;intro b1 s01;have g1:=cQ cn.ok s01;refine⟨_,rfl,k, .b,hkv.same s01, .b,by omega,_,rfl,gO (λcb=>?_) λcb=>?_⟩
  ·have kb:k=.b:=ahM cb
   refine⟨_,rfl,_,rfl,st,_,2, .int (M:Int),rfl,rfl,dD.of<|s01 _ _ jY,cg (j:=2) rfl,zA M R,st,(M:Int),rfl,g1.ok,by omega,by omega,λd H2 d0 d1 g2=>?_⟩;obtain⟨q',rfl⟩:∃q':Nat,d=(q':Int):=⟨d.toNat,by omega⟩;have Bb:=g1.trans g2;refine⟨_,rfl,q',rfl,by omega,λp H3 s3 hp=>?_⟩;have g3:=Bb.trans (cQ Bb.ok s3);have np:p≠st:=by
    obtain⟨x,y,hx⟩:=g3.ok;exact iY hp hx (by intro z;cases z)
   exact own q' (iU q') (xY q') (Dz q'<|by omega) (.inl ⟨kb,by omega,rfl⟩) H3 p _ _ _ _ g3 (.inl hp) np
  ·have kr:k=.r:=c.elim (λz=>absurd z cb) ahM
   exact own 0 (List.replicate R .n) (by rw[agG];exact br.2.2.2) (λk' h=>.inl<|List.eq_of_mem_replicate h) (.inr ⟨kr,rfl,rfl⟩) H1 lf _ _ _ _ g1 (.inr b1) LQ
 have nb:k≠.b:=λz=>c1 (ahN z);have nr:k≠.r:=λz=>c2 (ahN z);refine⟨_,rfl,k, .n,_,hkv,rfl,rfl,_,rfl,gO (λc=>?_) λc=>?_⟩
 ·cases hkv with
  |@w _ x e=>exact absurd (ahM c) (by cases k<;>first|exact λz=>z rfl|exact absurd rfl nb|exact absurd rfl nr|cases e)
  |@f p a r ka kr ZJ ka6 kr6=>
   simp only[uq,hk]at hrs Uq lG;have hm1:=agq (hk ka) (hk kr);have hm2:=agl (hk ka) (hk kr);generalize max (hk ka) (hk kr)=hm at Uq hm1 hm2;obtain⟨Uh,JK,abW,_⟩:=cn.ow;refine⟨_,rfl,lo,_,rfl, .inl<|dD.of JK,?_⟩;rw[abW];have lx:=Mr G.length (by omega);refine⟨_,rfl,qR (by omega) (by omega),"x",_,rfl,rfl,(by rw[x_len];omega),?_⟩;rw[show("x"++(toString ((G.length:Nat):Int):Str):Str)=iz G.length from rfl];refine⟨_,rfl,_,rfl,_,rfl,_,rfl,dN (a:=p) (j:=1) rfl ZJ rfl ⟨(fH 2),λp7 yq=>?_⟩⟩;have a7:=bK yq (.tup [.str (iz G.length),a]);have b7:(upd H p7<|.tup [.str (iz G.length),a]) p7=some (.tup [.str (iz G.length),a]):=bA;revert a7 b7;generalize upd H p7 (.tup [.str (iz G.length),a])=H7;intro a7 b7;refine⟨(fH 1),λl8 O6=>?_⟩;have a8:=bK O6 (.lst [.ref p7]);have b8:(upd H7 l8<|.lst [.ref p7]) l8=some (.lst [.ref p7]):=bA;revert a8 b8;generalize upd H7 l8 (.lst [.ref p7])=H8;intro a8 b8;have Ui:=a7.trans a8;refine⟨lo,l8,_,_,rfl,rfl,Ui _ _ JK,b8,small (by show Uh.length+1<=1000000;omega),λl9 hl9=>?_⟩;have a9:=bK hl9 (.lst<|Uh++[.ref p7]);have b9:(upd H8 l9<|.lst (Uh++[.ref p7])) l9=some (.lst<|Uh++[.ref p7]):=bA;have n9:l9≠st:=(cn.ok.same Ui).fresh hl9;revert a9 b9;generalize upd H8 l9 (.lst<|Uh++[.ref p7])=H9;intro a9 b9;have zB:=Ui.trans a9;have g9:=cQ cn.ok zB;have cn9:Cn M R H9 st l9 ls (G++[ka]) SK:=(cn.grow g9).more (zB _ _ JK) b9 n9 (a9 _ _<|a8 _ _ b7) (ka6.same zB) (by omega) (by omega);refine⟨_,rfl,dN (a:=p) (j:=2) rfl (zB _ _ ZJ) rfl ⟨_,rfl,_,_,rfl,rfl,?_⟩⟩;refine⟨n,by exact afv _,M,R,st,l9,ls,r,G++[ka],SK,kr,(by rw[<-ed];rfl),cn9,kr6.same zB,by omega,by omega,by rw[afu];simp;omega,λv t Jr tl wt dt zt JL=>?_⟩;refine⟨(fH 3),λp11 Uj=>?_⟩;have a11:=bK Uj (.tup [.str "fun", .str<|iz G.length,v]);exact q _ (.fn G.length t) _ (.fn bA<|tl.same a11) ⟨rfl,ka,kr,rfl,wt⟩ (by simp only[dep];exact afO dt) (by simp only[sz];omega)<|g9.trans (JL.trans<|cQ JL.ok a11)
 ·have ck:k=.n:=by
   by_cases z:k=.n
   ·exact z
   ·exact absurd (ahN z) c
  subst ck;refine⟨(fH 4),λp hp=>?_⟩;have g3:=yM (o:=.lst [.str "plus", .str "minus", .str "times", .str "less"]) cn.ok hp;have np:=cn.ok.fresh hp;refine⟨_,rfl,_,st,4,rfl,g3.ok,by decide,by decide,λe H4 e0 e2 g4=>?_⟩;have Te:=g4.1 _ _ np bA;have g:=g3.trans g4;have wd:∃k:Nat,k<=3/\Vf [V.str "plus",V.str "minus",V.str "times",V.str "less"] e=some (.str<|wordOf k):=by
   have hh:=i4 e0 e2;rcases hh with rfl|rfl|rfl|rfl
   ·exact⟨0,by decide,cg (j:=0) rfl⟩
   ·exact⟨1,by decide,cg (j:=1) rfl⟩
   ·exact⟨2,by decide,cg (j:=2) rfl⟩
   ·exact⟨3,by decide,cg (j:=3) rfl⟩
  obtain⟨k,hk,hw⟩:=wd;simp only[uq]at hrs;refine⟨p,_,e,_,rfl,rfl,dD.of Te,hw,?_⟩;refine⟨_,rfl,_,rfl,_,rfl,_,rfl,_,_,rfl,rfl,?_⟩;refine⟨n,by exact afv _,M,R,st,lo,ls,_,G,SK, .n,(by rw[<-ed];rfl),cn.grow g, .n,by simp only[uq];exact afT hrs,by simp only[Fw.hk];exact afT Uq,by exact afy (afF _ _) lG,λv1 t1 H5 r1 w1 d1 z1 g5=>?_⟩;have Yn:=g.trans g5;refine⟨_,rfl,_,rfl,_,rfl,_,rfl,_,rfl,_,rfl,_,_,rfl,rfl,?_⟩;refine⟨n,by exact afv _,M,R,st,lo,ls,_,G,SK, .n,(by rw[<-ed];rfl),cn.grow Yn, .n,by simp only[uq];exact afT hrs,by simp only[Fw.hk];exact afT Uq,by exact afy (afF _ _) lG,λv2 t2 H6 r2 w2 d2 z2 g6=>⟨(fH 3),λpp hpp=>?_⟩⟩;have s7:=bK hpp (.tup [.str (wordOf k),v1,v2]);exact q _ (.op k t1 t2) _ (.op bA ((r1.tps<|dj g5.ok g6).same s7)<|r2.same s7) ⟨rfl,hk,w1,w2⟩ (by simp only[dep,mx1];exact⟨by exact afO d1,by exact afO d2⟩) (by simp only[sz];omega)<|Yn.trans (g6.trans<|cQ g6.ok s7)
end
theorem Cn.app {M R:Nat}{H:Hp}{st lo ls lo2:aj}{G SK ks:aP Kd}{ps:aP aj}{Ef:aP V}(c:Cn M R H st lo ls G SK)(ho:H lo=some (.lst Ef))(h2:H lo2=some (.lst<|Ef++ps.map V.ref))(n2:lo2≠st)(lp:ps.length=ks.length)
  (hp:∀(j:Nat) k,ks[j]?=some k->∃p kv,ps[j]?=some p/\H p=some (.tup [.str (iz<|G.length+j),kv])/\nq H kv k) (h30:∀k∈ks,hk k<=30) (lg:G.length+ks.length<=60):Cn M R H st lo2 ls (G++ks) SK:=by
 obtain⟨ae5,h1,l1,a1⟩:=c.ow;rw[ho]at h1;cases h1;refine⟨c.ok,⟨_,h2,by rw[afu,afu,afL,l1,lp],λi k' hi=>?_⟩,c.sh,n2,c.ns,λk' hk'=>?_,c.hs,by rw[afu];exact lg,c.br,c.ll⟩
 ·by_cases z:i<G.length
  ·rw[afC z]at hi
   obtain⟨p',kv',x1,x2,x3⟩:=a1 i k' hi;exact⟨p',kv',by rw[afC (by exact afR z l1.symm)];exact x1,x2,x3⟩
  ·rw[afS (by exact Nat.not_lt.mp z)]at hi
   obtain⟨p,kv,x1,x2,x3⟩:=hp _ _ hi;rw[show G.length+(i-G.length)=i by omega]at x2;exact⟨p,kv,by rw[afS (by omega),l1,afJ,x1];rfl,x2,x3⟩
 ·rcases agd.mp hk' with z|z
  ·exact c.hg k' z
  ·exact h30 k' z
theorem oE.snoc {H:Hp}{x m:Nat}{p q:aj}{v:V}{t:Tm}(hp:H p=some (.tup [.ref q,v]))(hq:H q=some (.tup<|dZ (nms x m)))(ht:iW H v t){ms:aP Nat}{vs:aP V}{ts:aP Tm}(k:oE H x ms vs ts):oE H x (ms++[m]) (vs++[.ref p]) (ts++[t]):=k.ind (.cons hp hq ht .nil) λa b r _ ih=>.cons a b r ih
theorem Gg.snoc {M R:Nat}{SK G:List Kd}{t:Tm}{k:Kd}:∀{ts:List Tm} {q:Nat},Gg M R SK G ts q k->WT M R SK (G++iU (q+ts.length)) t k->Gg M R SK G (ts++[t]) q k
 |[],q,_,h=>⟨h,trivial⟩
 |u::us,q,⟨h1,h2⟩,h=>⟨h1,Gg.snoc h2<|by rw[show q+1+us.length=q+(u::us).length by simp;omega];exact h⟩
noncomputable def Hi (M:Nat):List Nat:=(List.range M).map λq=>(iU q).length
def CaP (M R n:Nat)(st lo ls la:aj)(kv v1:V)(SK G:List Kd)(k:Kd)(H H1:Hp)(i:Nat)(U:L2.St)(H':Hp):Prop :=
 ∃(o7 o8 o9 Uo o11:Option V) (Ur:List V) (ts:List Tm),U=[some (.ref st),some<|.ref lo,some<|.ref ls,some kv,some<|.int ((n+1:Nat):Int),some v1,some<|.ref la,o7,o8,o9,Uo,o11]/\jk (zA M R) st H H'/\yV H1 H'/\H' la=some (.lst Ur)/\Ur.length=i/\ts.length=i/\oE H' G.length (Hi i) Ur ts/\Gg M R SK G ts 0 k/\iJ ts<=n+6/\yc ts<=Ym (sg n) 3 i
section
abbrev yO:aJ:=top 56
noncomputable abbrev nCa:List Str:=["_law_state","_law_own_here","_law_shared","_law_kind_here","_law_depth","_law_term","_law_arms","_law_number_here","_law_fields_here","_law_names","_law_inner","_law_far"]
theorem mQ:cu nCa DG (bN yO):={}
set_option maxHeartbeats 4000000 in
theorem Yo {n:Nat}(F:gY K "_law_case" "_law_case" yO f fd)(ml:mg "len"=none)(ms:mg "str"=none)(mI:mg "int"=none)(mr:mg "range"=none)(mt:mg "tuple"=none)(mL:mg "list"=none)(mz:mg "zip"=none)(h3:Has P w K mg aV 1 "_law_fields" nFl Ug)(h2:Has P w K mg aV (12+2*n) "_law_grown" DG (Bk<|n+1)):
  cX P w K mg aV jG (12+2*n+1) f fd DG (zF<|n+1):=by
 refine F.ok mQ λdJ A aU s H vs Q E hr h=>?_;obtain⟨M,R,st,lo,ls,kv,G,SK,k,rfl,cn,hkv,hrs,Uq,lG,q⟩:=h;have hz:=sizeLine_eq;have sp:=Dy n;have es:sg (n+1)=4*sg n+55:=rfl;have ed:((n+1:Nat):Int)-1=(n:Int):=by omega
 refine⟨_,bI (eU 5 mQ.nd (cP h2 hr (by exact afv _) rfl (bx (pv 0)<|bx (pv 1) (bx (pv 2)<|bx bU (bx (cU iw (pv 4) bJ) bG)))))
  (bI (eU 6 mQ.nd<|dO bG)
  (bI (mY PassesOwn.never rfl (jK rfl mr (bx (bZ (rE K) (pv 0) bJ) bG)) (dF (i:=7) mQ.nd rfl (Or.inl rfl))
   (bI (eU 8 mQ.nd (cP h3 hr (by omega) rfl (bx (pv 7) bG)))
   (bI (RL (bN yO) nCa ["_law_own_here"] [1] (by decide+kernel) (jK rfl mr (bx (cJ (kI K) rfl ml ahS (bx (pv 8) bG)) bG)) (dF (i:=9) mQ.nd rfl (Or.inl rfl)) (λC s₀ H₀ ex=>j8)
    (λC s₀ H₀ ex=>cU oV bU<|cZ jP rfl ms boot_str (bx (cU gJ (cJ (kI K) rfl ml ahS (bx (pv 1) bG))<|pv 0) bG)) (by with_unfolding_all rfl))
   (bI (eU 10 mQ.nd<|cU lU (pv 1) (Hg rfl rfl mL rfl mz (bx (pv 9)<|bx (pv 8) bG)))
   (bI (eU 11 mQ.nd<|bZ (rE K) (dO<|bx bJ (bx (cU iw (pv 4) bJ) bG)) (cZ lN rfl mI boot_int (bx (qG wU (pv 7) bJ) bG)))
   (bQ (cD (jd K (pv 6) (bx (cV (bx (cZ (BW K) rfl mt boot_tuple (bx (pv 9) bG)) (bx (cP h2 hr (by exact afv _) rfl (bx (pv 0)<|bx (pv 10) (bx (pv 2)<|bx (pv 3) (bx (pv 11) bG)))) bG))) bG)))))))))
  (bQ<|cO (cV<|bx bU (bx (pv 5)<|bx (cZ (BW K) rfl mt boot_tuple (bx (pv 6) bG)) bG))))),?_⟩
 have br:=cn.br;refine dG λ_ hn=>?_;refine⟨_,rfl,_,rfl,_,rfl,_,rfl,_,_,rfl,rfl,n,by exact afv _,M,R,st,lo,ls,_,G,SK, .b,(by rw[<-ed];rfl),cn, .b,by simp only[uq];omega,by simp only[hk];omega,by exact afy (afF _ _) lG,λv1 t1 H1 r1 w1 d1 z1 g1=>?_⟩;refine hn _ _<|dG λ_ hn=>?_;refine⟨(fH 0),λla hla=>?_⟩;have s2:=bK hla (.lst []);have b2:(upd H1 la<|.lst []) la=some (.lst []):=bA;have nla:la≠st:=g1.ok.fresh hla;have ae8:H la=none:=by
  cases hq:H la with
  |none=>rfl
  |some o=>rw[g1.1 _ _ nla hq]at hla;cases hla
 revert s2 b2;generalize upd H1 la (.lst [])=H2;intro s2 b2;have g2:=g1.trans (cQ g1.ok s2);refine hn _ _<|dG λ_ hn=>?_;obtain⟨xa,xb,jY⟩:=id g2.ok;refine⟨_,rfl,st,_,2, .int (M:Int),rfl,rfl,dD.of jY,cg (j:=2) rfl,(M:Int),rfl,by omega,by omega,?_⟩;rw[af5];refine qF (n:=M) (CaP M R n st lo ls la kv v1 SK G k H H1) ⟨_,_,_,_,_,[],[],rfl,g2,λb ys h=>s2 b _ h,b2,rfl,rfl, .nil,trivial,afY _,afv _⟩ ?_ ?_
 ·rintro i U H3 hi ⟨o7,o8,o9,Uo,o11,Ur,ts,rfl,g3,Hj,hl3,la3,lt3,tm3,wt3,dt3,zt3⟩
  rw[Int.zero_add];have cn3:=cn.grow g3;obtain⟨Ef,ab2,lov,_⟩:=id cn3.ow;have fl5:=xY i;refine dG λ_ hn=>?_;refine⟨_,rfl,i,rfl,by omega,λpf H4 s4 hpf=>?_⟩;have lff:(fZ i).length=(iU i).length:=by unfold fZ;rw[afL]
  refine hn _ _<|dG λ_ hn=>?_;refine⟨_,rfl,pf,_,rfl, .inr<|iM.of hpf,_,rfl,by omega,by omega,?_⟩;rw[lff,af5];refine oY (n:=(iU i).length) (λj vs H'=>H'=H4/\vs=(dZ<|nms G.length (iU i).length).take j) ⟨rfl,rfl⟩ ?_ ?_ ?_
  ·rintro j vs H' hj ⟨_,rfl⟩
   rw[af9];exact cW (by omega)
  ·rintro j vs H' hj ⟨rfl,rfl⟩
   refine Zg<|uH ⟨_,rfl,lo,_,rfl, .inl<|dD.of (s4 _ _ ab2),_,rfl,_,_,rfl,rfl,?_⟩;rw[lov,Int.zero_add]
   try dsimp only
   rw[show((G.length:Nat):Int)+(j:Int)=((G.length+j:Nat):Int) by exact rfl];have lx:=Mr (G.length+j) (by omega);refine⟨_,rfl,qR (by omega) (by omega),"x",_,rfl,rfl,(by rw[x_len];omega),nx hj ⟨rfl,?_⟩⟩;rw[agn];congr 1;unfold dZ nms;rw[afJ,afJ,afJ,agC hj]
   rfl
  rintro vs H' ⟨rfl,rfl⟩ ln DW;rw[ag8 (l:=dZ<|nms G.length (iU i).length) (i:=(iU i).length) (agy<|by rw[iK,jh])];have s5:=bK DW (.lst<|dZ (nms G.length (iU i).length));have b5:(upd H' ln<|.lst (dZ<|nms G.length (iU i).length)) ln=some (.lst<|dZ (nms G.length (iU i).length)):=bA;revert s5 b5;generalize upd H' ln (.lst<|dZ (nms G.length (iU i).length))=H5;intro s5 b5;have Je:=s4.trans s5;refine hn _ _<|dG λ_ hn=>?_;refine⟨_,rfl,_,rfl,_,rfl,ln,pf,_,_,rfl,b5,s5 _ _ hpf,by rw[iK,jh,lff],λlz ps H6 s6 afr hlz lps hps=>?_⟩;have Vg:=Je.trans s6;refine⟨lo,lz,_,_,rfl,rfl,Vg _ _ ab2,hlz,small (by rw[lov,afL,lps,iK,jh];omega),λli hli=>?_⟩;have s7:=bK hli (.lst<|Ef++ps.map V.ref);have b7:(upd H6 li<|.lst (Ef++ps.map V.ref)) li=some (.lst<|Ef++ps.map V.ref):=bA;have nli:li≠st:=(g3.ok.same Vg).fresh hli;revert s7 b7;generalize upd H6 li (.lst<|Ef++ps.map V.ref)=H7;intro s7 b7;have s37:=Vg.trans s7;have g37:=cQ g3.ok s37;have cn7:Cn M R H7 st li ls (G++iU i) SK:=by
   refine(cn3.grow g37).app (s37 _ _ ab2) b7 nli (by rw[lps,iK,jh]) (λj k' hj=>?_) (λk' hk'=>by rw[(JR (H:=H) (Dz i (by omega) k' hk')).2.2];exact afY _) (by omega);have hjl:j<(iU i).length:=(ahW hj).1;obtain⟨p,hp1,hp2⟩:=hps j (.str<|iz (G.length+j)) (Bg k') (by unfold dZ nms;rw[afJ,afJ,afJ,agC hjl];rfl) (by unfold fZ;rw[afJ,hj];rfl);exact⟨p,Bg k',hp1,s7 _ _ hp2,(JR (Dz i (by omega) k'<|agk hj)).1⟩
  refine hn _ _<|dG λ_ hn=>?_;refine⟨_,rfl,_,_,rfl,rfl,(fH 2),λl8 O6=>?_⟩;have s8:=bK O6 (.lst [.int 0, .int (((n+1:Nat):Int)-1)]);have b8:(upd H7 l8<|.lst [.int 0, .int (((n+1:Nat):Int)-1)]) l8=some (.lst [.int 0, .int (((n+1:Nat):Int)-1)]):=bA;revert s8 b8;generalize upd H7 l8 (.lst [.int 0, .int (((n+1:Nat):Int)-1)])=H8;intro s8 b8;obtain⟨m,hm,em⟩:=Um (n:=n) (decide<|(i:Int)<3);have mn:m<=n:=by rw[em];split<;>omega
  refine⟨_,rfl,_,_,rfl,rfl, .inr ⟨_,rfl,l8,_,_,_,rfl,rfl,dD.of b8,hm,?_⟩⟩;have s38:=s37.trans s8;refine hn _ _ ?_;refine⟨_,rfl, .inl ⟨rfl,_,dD.of<|s38 _ _ hl3⟩,_,rfl,ln,_,rfl, .inl ⟨dD.of<|s8 _ _ (s7 _ _<|s6 _ _ b5),λpn hpn=>?_⟩⟩;have s9:=bK hpn (.tup<|dZ (nms G.length (iU i).length));have b9:(upd H8 pn<|.tup (dZ<|nms G.length (iU i).length)) pn=some (.tup<|dZ (nms G.length (iU i).length)):=bA;revert s9 b9;generalize upd H8 pn (.tup<|dZ (nms G.length (iU i).length))=H9;intro s9 b9;have s39:=s38.trans s9;have g39:=cQ g3.ok s39;have g79:=cQ g37.ok (s8.trans s9);refine⟨_,rfl,_,rfl,_,rfl,_,rfl,_,rfl,m,by exact afO mn,M,R,st,li,ls,kv,G++iU i,SK,k,rfl,cn7.grow g79,(hkv.tps<|dj cn.ok g3).same s39,by omega,by omega,by rw[afu];omega,λv t Ha tl wt dt zt ga=>?_⟩;refine⟨(fH 2),λpp hpp=>?_⟩;have sb:=bK hpp (.tup [.ref pn,v]);have g3a:=g39.trans ga;have gb:=g3a.trans (cQ g3a.ok sb);have hlb:=gb.1 _ _ nla hl3;have adO:=dj g3.ok gb;refine⟨la,Ur, .ref pp,rfl,rfl,hlb,cW (by omega),?_⟩;have tu:yV (upd Ha pp<|.tup [.ref pn,v]) (upd (upd Ha pp<|.tup [.ref pn,v]) la<|.lst (Ur++[.ref pp])):=λb xs h=>by rw[bV (iY h hlb<|by intro z;cases z)];exact h
  have bpn:(upd Ha pp<|.tup [.ref pn,v]) pn=some (.tup<|dZ (nms G.length (iU i).length)):=sb _ _ (dj g39.ok ga _ _ b9);have okN:nj (zA M R) (upd (upd Ha pp<|.tup [.ref pn,v]) la<|.lst (Ur++[.ref pp])) st:=by
   obtain⟨x,y,hxy⟩:=gb.ok;exact⟨x,y,by rw[bV (ahO nla)];exact hxy⟩
  refine⟨_,_,_,_,_,Ur++[.ref pp],ts++[t],rfl,⟨λb o nb h=>?_,okN⟩,λb ys h=>tu _ _<|adO _ _ (Hj _ _ h),bA,by rw[afu,la3];rfl,by rw[afu,lt3];rfl,?_,?_,uT (by omega) dt3,?_⟩
  ·rw[bV (bY h ae8)]
   exact(g3.trans gb).1 b o nb h
  ·have e1:Hi (i+1)=Hi i++[(iU i).length]:=by unfold Hi;rw[List.range_succ,af0];rfl
   rw[e1];exact oE.snoc (tu _ _ bA) (tu _ _ bpn) ((tl.same sb).tps tu)<|(tm3.tps adO).tps tu
  ·exact Gg.snoc wt3 (by rw[ag1,lt3];exact wt)
  ·rw[yN]
   unfold Ym;have:sz t<=(if i<3 then sg n else 16):=by
    by_cases c:i<3
    ·rw[ahK c]
     rw[em,ahK (ahN<|by omega)]at zt;exact zt
    ·rw[ahL c]
     rw[em,ahL (λz=>c<|by have:=ahM z;omega)]at zt;exact zt
   omega
 ·rintro U H3 ⟨o7,o8,o9,Uo,o11,Ur,ts,rfl,g3,Hj,hl3,la3,lt3,tm3,wt3,dt3,zt3⟩
  refine hn _ _ ?_;refine⟨_,rfl,_,rfl,la,Ur,rfl, .inl ⟨dD.of hl3,λp4 Te=>?_⟩⟩;have s4:=bK Te (.tup Ur);refine⟨(fH 3),λp5 hp5=>?_⟩;have s5:=bK hp5 (.tup [.str "case",v1, .ref p4]);have s45:=s4.trans s5;have b6:=ae7 (s:=sg n) (i:=M) (by exact br.2.1) sp;exact q _ (.case G.length t1 (Hi M) ts) _ (.case bA (s5 _ _ bA) ((r1.tps Hj).same s45)<|tm3.tps λb ys h=>s45 b _ h) ⟨rfl,lt3,br.2.1,rfl,w1,wt3⟩ (by simp only[dep,mx1];exact⟨by exact afO d1,by exact afO dt3⟩) (by simp only[sz];omega)<|g3.trans (cQ g3.ok s45)
end
theorem Us {t u:TS}{D D2:L2.Ends}{U:L2.St}{H:Hp}(h:∀nx:L2.St->Hp->Prop,(∀U' H',u D U' H'->nx U' H')->t ⟨nx,D.rt,D.bk,D.ct⟩ U H):gP {D2 with nx:=jt t u D} U H:=h (u D) λ_ _ h=>h
section
abbrev jV:aJ:=top 57
noncomputable abbrev nGr:List Str:=["_law_state","_law_own_here","_law_shared","_law_kind_here","_law_depth","_law_way","_law_name","_law_other","_law_term","_law_some"]
theorem jW:cu nGr DG (bN jV):={}
@[irreducible] noncomputable def Yp:aJ:=(cY jV).getD 0 (.Pass ⟨0,0,0,0⟩)
def adP:List aJ:=(cY jV).drop 1
theorem adQ:cY jV=Yp::adP:=by
 unfold Yp
 rfl
theorem adR:Loc (bN jV) "_law_way":=Or.inl rfl
def tG0:TS:=λD U H=>∃(tl:List V) (st:aj) (v1 v2 v3 v4:V),U=[some (.ref st),some v1,some v2,some v3,some v4,none,none,none,none,none]/\nj tl H st/\∀(z:Str) H',jk tl st H H'->D.nx [some (.ref st),some v1,some v2,some v3,some v4,some<|.str z,none,none,none,none] H'
theorem Mt {dJ:ak}{A:aq}{aU:aP Env}{s:ao}{H:Hp}{E:XK}{n:Nat}(hr:gK n (A.deeper<|envOfC "_law_grown" (bN jV) s.heap.objs.size f dJ))(hn:1<=n)(h1:Has P w K mg aV 1 "_law_next" ["_law_state","_law_many"] j7):
  Ir (dX jG P w K mg aV nGr "_law_grown" (bN jV) f dJ A aU s H E).HB Yp tG0:=by
 unfold Yp;refine uM (zV (i:=5) (x:="_law_way") jW.nd rfl adR (ac7 (rE K) (uY<|fO (fO<|fO (fO<|fO (fO<|fO kj)))) ⟨cP h1 hr hn rfl (bx (pv 0)<|bx bJ bG)⟩ λ_ _=>rfl) Ob (.inl rfl)) ?_;rintro D U H ⟨tl,st,v1,v2,v3,v4,rfl,ok,nxt⟩;refine⟨(fH 7),λp hp=>?_⟩;have g3:=yM (o:=.lst [.str "own", .str "let", .str "if", .str "call", .str "call", .str "block", .str "block"]) ok hp;have np:=ok.fresh hp;refine⟨_,rfl,tl,st,7,rfl,g3.ok,by decide,by decide,λe H4 e0 e2 g4=>?_⟩;have Te:=g4.1 _ _ np bA;have wd:∃z:Str,Vf [V.str "own",V.str "let",V.str "if",V.str "call",V.str "call",V.str "block",V.str "block"] e=some (.str z):=by
  have hh:=i7 e0 e2;rcases hh with rfl|rfl|rfl|rfl|rfl|rfl|rfl
  ·exact⟨_,cg (j:=0) rfl⟩
  ·exact⟨_,cg (j:=1) rfl⟩
  ·exact⟨_,cg (j:=2) rfl⟩
  ·exact⟨_,cg (j:=3) rfl⟩
  ·exact⟨_,cg (j:=4) rfl⟩
  ·exact⟨_,cg (j:=5) rfl⟩
  ·exact⟨_,cg (j:=6) rfl⟩
 obtain⟨z,hw⟩:=wd;exact⟨p,_,e,_,rfl,rfl,dD.of Te,hw,nxt z H4<|g3.trans g4⟩
set_option maxHeartbeats 4000000 in
theorem Ut {n:Nat}(F:gY K "_law_grown" "_law_grown" jV f fd)(ml:mg "len"=none)(ms:mg "str"=none)(mr:mg "range"=none)(h1:Has P w K mg aV 1 "_law_next" ["_law_state","_law_many"] j7)(h5:Has P w K mg aV 2 "_law_kind" ["_law_state"] Dv)(h2:Has P w K mg aV (10+2*n) "_law_grown" DG (Bk n))
  (h3:Has P w K mg aV 9 "_law_leaf" pLf (yK 6)) (h4:n≠0->Has P w K mg aV (10+2*n+1) "_law_own" DG (zF n)) (h6:n≠0->Has P w K mg aV (10+2*n+1) "_law_case" DG (zF n)):cX P w K mg aV jG (10+2*n+2) f fd DG (zF n):=by
 refine F.ok jW λdJ A aU s H vs Q E hr h=>?_;obtain⟨M,R,st,lo,ls,kv,G,SK,k,rfl,cn,hkv,hrs,Uq,lG,q⟩:=h;have hz:=sizeLine_eq;have uR:=hr.units;rw[adQ];by_cases n0:n=0
 ·subst n0
  refine⟨_,bI (Mt hr (by exact afX _ _) h1).h
   (bI (dB (cA eV (pv 4) bJ) (bQ (cO (cP h3 hr (by exact afX _ _) rfl (bx (pv 0)<|bx (pv 1) (bx (pv 2)<|bx (pv 3) bG))))) cR)
   (bI iB<|bI iB (bI iB<|bI iB (bI iB<|bQ iB)))),?_⟩
  refine⟨_,st,_,_,_,_,rfl,cn.ok,λz H1 g1=>?_⟩;refine⟨_,rfl,rfl,_,rfl,gO (λc=>?_) λc=>absurd (ahN rfl) c⟩;exact⟨_,rfl,_,rfl,_,rfl,_,rfl,M,R,st,lo,ls,kv,G,SK,k,rfl,cn.grow g1,hkv.tps<|dj cn.ok g1,by exact aga hrs,by exact afy Uq (by decide),by omega,λv t H2 tl wt dt zt g2=>q v t H2 tl wt (by omega) (by have:sg 0=16:=rfl;omega)<|g1.trans g2⟩
 obtain⟨j,rfl⟩:∃j,n=j+1:=⟨n-1,by omega⟩;have h4:=h4 n0;have h6:=h6 n0;have sp:=Dy j;have es:sg (j+1)=4*sg j+55:=rfl;have ed:((j+1:Nat):Int)-1=(j:Int):=by omega
 refine⟨_,bI (Mt hr (by exact afX _ _) h1).h
  (bI (dB (cA eV (pv 4) bJ) (bQ iB) cR)
  (bI (dB (cA eV (pv 5) bU)
   (bI (eU 6 jW.nd<|cU oV bU (cZ jP rfl ms boot_str (bx (cJ (kI K) rfl ml ahS (bx (pv 1) bG)) bG)))
   (bI (eU 7 jW.nd (cP h5 hr (by exact afX _ _) rfl (bx (pv 0) bG)))
   (bI (eU 8 jW.nd (cP h2 hr (by exact agb _) rfl (bx (pv 0)<|bx (pv 1) (bx (pv 2)<|bx (pv 7) (bx (cU iw (pv 4) bJ) bG)))))
   (bQ (cO (cV (bx bU (bx (pv 6) (bx (pv 8) (bx (cP h2 hr (by exact agb _) rfl (bx (pv 0)<|bx (cU lU (pv 1)<|dO (bx (cV<|bx (pv 6) (bx (pv 7) bG)) bG)) (bx (pv 2)<|bx (pv 3) (bx (cU iw (pv 4) bJ) bG)))) bG)))))))))) cR)
  (bI (dB (cA eV (pv 5) bU)
   (bI (eU 8 jW.nd (cP h2 hr (by exact agb _) rfl (bx (pv 0)<|bx (pv 1) (bx (pv 2)<|bx bU (bx (cU iw (pv 4) bJ) bG)))))
   (bI (RL (bN jV) nGr ["_law_state","_law_own_here","_law_shared","_law_kind_here","_law_depth"] [0,1,2,3,4] (by decide+kernel) (jK rfl mr (bx bJ bG)) (dF (i:=9) jW.nd rfl (Or.inl rfl)) (λC s₀ H₀ ex=>j8)
    (λC s₀ H₀ ex=>cP h2 hr (by exact agb _) rfl (bx (pv 1)<|bx (pv 2) (bx (pv 3)<|bx (pv 4) (bx (cU iw (pv 5) bJ) bG)))) (by with_unfolding_all rfl))
   (bQ<|cO (cV<|bx bU (bx (pv 8)<|bx (bZ (rE K) (pv 9) bJ) (bx (bZ (rE K) (pv 9) bJ) bG)))))) cR)
  (bI (dB (cA eV (pv 5) bU)
   (bI (eU 7 jW.nd (cP h5 hr (by exact afX _ _) rfl (bx (pv 0) bG)))
   (bI (eU 8 jW.nd (cP h2 hr (by exact agb _) rfl (bx (pv 0)<|bx (pv 1) (bx (pv 2)<|bx (cV<|bx bU (bx (pv 7)<|bx (pv 3) bG)) (bx (cU iw (pv 4) bJ) bG)))))
   (bQ (cO (cV (bx bU (bx (pv 8) (bx (cP h2 hr (by exact agb _) rfl (bx (pv 0)<|bx (pv 1) (bx (pv 2)<|bx (pv 7) (bx (cU iw (pv 4) bJ) bG)))) bG)))))))) cR)
  (bI (dB (PW.pt (uw (cA eV (pv 5) bU) (uw (cA (qx uR) (pv 3) bU) (vQ (cA eV (cP h1 hr (by exact afX _ _) rfl (bx (pv 0)<|bx bJ bG)) bJ)))))
   (bQ (cO (cV (bx bU (bx (cP h1 hr (by exact afX _ _) rfl (bx (pv 0)<|bx (bZ (rE K) (pv 0) bJ) bG)) (bx (cP h2 hr (by exact agb _) rfl (bx (pv 0)<|bx (pv 1) (bx (pv 2)<|bx bU (bx (cU iw (pv 4) bJ) bG)))) bG)))))) cR)
  (bI (dB (cA eV (pv 5) bU) (bQ (cO (cP h6 hr (by exact afv _) rfl (bx (pv 0)<|bx (pv 1) (bx (pv 2)<|bx (pv 3) (bx (pv 4) bG)))))) cR)
  (bQ (cO (cP h4 hr (by exact afv _) rfl (bx (pv 0)<|bx (pv 1) (bx (pv 2)<|bx (pv 3) (bx (pv 4) bG)))))))))))),?_⟩
 refine⟨_,st,_,_,_,_,rfl,cn.ok,λz H1 g1=>?_⟩;have cn1:=cn.grow g1;have kv1:=hkv.tps (dj cn.ok g1);refine⟨_,rfl,rfl,_,rfl,gO (λc=>?_) λ_=>?_⟩
 ·exact absurd (ahM c) (by intro e;injection e with e;omega)
 refine⟨_,rfl,rfl,_,rfl,gO (λc2=>?_) λc2=>?_⟩
 ·obtain⟨ov1,abB,ae9,_⟩:=cn1.ow
  refine⟨_,rfl,lo,_,rfl, .inl<|dD.of abB,?_⟩;rw[ae9];have lx:=Mr G.length (by omega);refine⟨_,rfl,qR (by omega) (by omega),"x",_,rfl,rfl,(by rw[x_len];omega),?_⟩;rw[show("x"++(toString ((G.length:Nat):Int):Str):Str)=iz G.length from rfl];refine⟨_,rfl,_,st,rfl,cn1.ok,λov k2 H2 kd2 r2 hk2 g2=>?_⟩;have Bb:=g1.trans g2;refine⟨_,rfl,_,rfl,_,rfl,_,rfl,_,rfl,_,_,rfl,rfl,?_⟩;refine⟨j,by exact afv _,M,R,st,lo,ls,ov,G,SK,k2,(by rw[<-ed];rfl),cn.grow Bb,kd2,by omega,by omega,by omega,λv1 t1 H5 r1 w1 d1 z1 g5=>?_⟩;have Yn:=Bb.trans g5;have cn5:=cn.grow Yn;have kd5:=kd2.tps (dj Bb.ok g5);obtain⟨ov5,adS,afs,_⟩:=cn5.ow;refine⟨_,rfl,_,rfl,_,rfl,_,rfl,_,rfl,_,rfl,(fH 2),λp7 yq=>?_⟩;have a7:=bK yq (.tup [.str (iz G.length),ov]);have b7:(upd H5 p7<|.tup [.str (iz G.length),ov]) p7=some (.tup [.str (iz G.length),ov]):=bA;revert a7 b7;generalize upd H5 p7 (.tup [.str (iz G.length),ov])=H7;intro a7 b7;refine⟨(fH 1),λl8 O6=>?_⟩;have a8:=bK O6 (.lst [.ref p7]);have b8:(upd H7 l8<|.lst [.ref p7]) l8=some (.lst [.ref p7]):=bA;revert a8 b8;generalize upd H7 l8 (.lst [.ref p7])=H8;intro a8 b8;have Ui:=a7.trans a8;refine⟨lo,l8,_,_,rfl,rfl,Ui _ _ adS,b8,small (by show ov5.length+1<=1000000;omega),λl9 hl9=>?_⟩;have a9:=bK hl9 (.lst<|ov5++[.ref p7]);have b9:(upd H8 l9<|.lst (ov5++[.ref p7])) l9=some (.lst<|ov5++[.ref p7]):=bA;have n9:l9≠st:=(cn5.ok.same Ui).fresh hl9;revert a9 b9;generalize upd H8 l9 (.lst<|ov5++[.ref p7])=H9;intro a9 b9;have zB:=Ui.trans a9;have g9:=cQ cn5.ok zB;have cn9:Cn M R H9 st l9 ls (G++[k2]) SK:=(cn5.grow g9).more (zB _ _ adS) b9 n9 (a9 _ _<|a8 _ _ b7) (kd5.same zB) (by omega) (by omega);refine⟨_,rfl,_,rfl,_,rfl,_,_,rfl,rfl,?_⟩;refine⟨j,by exact afv _,M,R,st,l9,ls,kv,G++[k2],SK,k,(by rw[<-ed];rfl),cn9,(hkv.tps<|dj cn.ok Yn).same zB,by exact afT hrs,by exact afT Uq,by rw[afu];simp;omega,λv2 t2 Jr tl wt dt zt JL=>?_⟩;refine⟨(fH 4),λp11 Uj=>?_⟩;have a11:=bK Uj (.tup [.str "let", .str<|iz G.length,v1,v2]);exact q _ (.lt G.length t1 t2) _ (.lt bA (((r1.same zB).tps<|dj g9.ok JL).same a11)<|tl.same a11) ⟨rfl,k2,w1,wt⟩ (by simp only[dep,mx1];exact⟨by exact afO d1,by exact afO dt⟩) (by simp only[sz];omega)<|Yn.trans (g9.trans<|JL.trans (cQ JL.ok a11))
 refine⟨_,rfl,rfl,_,rfl,gO (λc3=>?_) λc3=>?_⟩
 ·refine⟨_,rfl,_,rfl,_,rfl,_,rfl,_,_,rfl,rfl,?_⟩
  refine⟨j,by exact afv _,M,R,st,lo,ls,_,G,SK, .n,(by rw[<-ed];rfl),cn1, .n,by simp only[uq];omega,by simp only[hk];omega,by exact afy (afF _ _) lG,λv1 t1 H5 r1 w1 d1 z1 g5=>?_⟩;have Yn:=g1.trans g5;refine⟨2,rfl,by decide,by decide,?_⟩;refine oY (n:=2) (λi vs H'=>jk (zA M R) st H5 H'/\∃ts:List Tm,ni (iW H') vs ts/\ts.length=i/\∀t∈ts,WT M R SK G t k/\dep t<=j+6/\sz t<=sg j) ⟨jk.refl g5.ok,[], .nil,rfl,λt h=>by cases h⟩ ?_ ?_ ?_
  ·rintro i vs H' hi ⟨_,ts,rts,Qm,_⟩
   have:=rts.1;exact cW (by omega)
  ·rintro i vs H' hi ⟨gi,ts,rts,Qm,hts⟩
   have g0i:=Yn.trans gi;refine Zg<|uH ⟨_,rfl,_,rfl,_,rfl,_,rfl,_,rfl,_,_,rfl,rfl,?_⟩;refine⟨j,by exact afv _,M,R,st,lo,ls,kv,G,SK,k,(by rw[<-ed];rfl),cn.grow g0i,hkv.tps<|dj cn.ok g0i,by exact afT hrs,by exact afT Uq,by exact afy (afF _ _) lG,λv2 t2 H9 r2 w2 d2 z2 g9=>nx hi ⟨gi.trans g9,ts++[t2],(rts.mono λv t=>iW.tps<|dj gi.ok g9).snoc r2,by rw[afu,Qm];rfl,λt ht=>?_⟩⟩;rcases agd.mp ht with h|h
   ·exact hts t h
   ·rw[afN.mp h];exact⟨w2,d2,z2⟩
  rintro vs H6 ⟨g6,ts,rts,Qm,hts⟩ l hl
  match ts,Qm,rts,hts with
  |[ta,tb],_,rts,hts=>
   obtain⟨va,hva,ra⟩:=rts.2 0 ta rfl;obtain⟨vb,hvb,rb⟩:=rts.2 1 tb rfl;have s7:=bK hl (.lst vs);obtain⟨wa,da,za⟩:=hts ta (by simp);obtain⟨wb,db,zb⟩:=hts tb (by simp);show jt _ _ _ [some (.ref st),some<|.ref lo,some<|.ref ls,some kv,some<|.int ((j+1:Nat):Int),_,_,_,some v1,some (.ref l)] _;refine⟨_,rfl,_,rfl,l,_,0,va,rfl,rfl,dD.of bA,cg (j:=0) hva,_,rfl,l,_,1,vb,rfl,rfl,dD.of bA,cg (j:=1) hvb,(fH 4),λpp hpp=>?_⟩;have s8:=bK hpp (.tup [.str "if",v1,va,vb]);have s78:=s7.trans s8;exact q _ (.rK t1 ta tb) _ (.rK bA ((r1.tps<|dj g5.ok g6).same s78) (ra.same s78)<|rb.same s78) ⟨w1,wa,wb⟩ (by simp only[dep,mx1];exact⟨by exact afO d1,by exact afO da,by exact afO db⟩) (by simp only[sz];omega)<|Yn.trans (g6.trans<|cQ g6.ok s78)
 refine⟨_,rfl,rfl,_,rfl,gO (λc4=>?_) λc4=>?_⟩
 ·refine⟨_,rfl,_,st,rfl,cn1.ok,λov k2 H2 kd2 r2 hk2 g2=>?_⟩
  have Bb:=g1.trans g2;have Xb:=hkv.tps (dj cn.ok Bb);refine⟨_,rfl,_,rfl,_,rfl,_,rfl,_,rfl,(fH 3),λp7 yq=>?_⟩;have a7:=bK yq (.tup [.str "f",ov,kv]);have b7:(upd H2 p7<|.tup [.str "f",ov,kv]) p7=some (.tup [.str "f",ov,kv]):=bA;revert a7 b7;generalize upd H2 p7 (.tup [.str "f",ov,kv])=H7;intro a7 b7;have g7:=Bb.trans (cQ Bb.ok a7);refine⟨_,rfl,_,_,rfl,rfl,?_⟩;refine⟨j,by exact afv _,M,R,st,lo,ls, .ref p7,G,SK, .f k2 k,(by rw[<-ed];rfl),cn.grow g7, .f b7 (kd2.same a7)<|Xb.same a7,by simp only[uq];omega,by simp only[hk];have:=Nat.max_le.mpr (show hk k2<=25-(j+1)/\hk k<=25-(j+1) from⟨by omega,by omega⟩);omega,by exact afy (afF _ _) lG,λv1 t1 H8 r1 w1 d1 z1 g8=>?_⟩;have g08:=g7.trans g8;refine⟨_,rfl,_,rfl,_,rfl,_,rfl,_,rfl,_,rfl,_,_,rfl,rfl,?_⟩;refine⟨j,by exact afv _,M,R,st,lo,ls,ov,G,SK,k2,(by rw[<-ed];rfl),cn.grow g08,(kd2.same a7).tps<|dj g7.ok g8,by omega,by omega,by exact afy (afF _ _) lG,λv2 t2 H9 r2' w2 d2 z2 g9=>⟨(fH 3),λpp hpp=>?_⟩⟩;have tZ:=bK hpp (.tup [.str "call",v1,v2]);exact q _ (.call t1 t2) _ (.call bA ((r1.tps<|dj g8.ok g9).same tZ)<|r2'.same tZ) ⟨k2,w1,w2⟩ (by simp only[dep,mx1];exact⟨by exact afO d1,by exact afO d2⟩) (by simp only[sz];omega)<|g08.trans (g9.trans<|cQ g9.ok tZ)
 have fin:∀H6,jk (zA M R) st H H6->zF (j+1) [.ref st, .ref lo, .ref ls,kv, .int ((j+1:Nat):Int)] H6 Q E0:=λH6 g6=>
  ⟨M,R,st,lo,ls,kv,G,SK,k,rfl,cn.grow g6,hkv.tps<|dj cn.ok g6,hrs,Uq,lG,λv t H5 r5 w5 d5 z5 g5=>q v t H5 r5 w5 d5 z5<|g6.trans g5⟩
 refine Us λnx' hn=>?_;have far:∀H6,jk (zA M R) st H H6->nx' [some (.ref st),some<|.ref lo,some<|.ref ls,some kv,some<|.int ((j+1:Nat):Int),some<|.str z,none,none,none,none] H6:=λH6 g6=>hn _ H6 (show jt (dM _ _ _) _ _ [some (.ref st),some<|.ref lo,some<|.ref ls,some kv,some<|.int ((j+1:Nat):Int),some<|.str z,none,none,none,none] H6 from
  ⟨_,rfl,rfl,_,rfl,gO (λc5=>⟨_,rfl,_,rfl,_,rfl,_,rfl,_,rfl,fin H6 g6⟩) λc5=>⟨_,rfl,_,rfl,_,rfl,_,rfl,_,rfl,fin H6 g6⟩⟩)
 refine⟨_,rfl,rfl,_,rfl,gO (λc5=>?_) λc5=>vJ<|far H1 g1⟩;refine⟨_,rfl,k, .n,kv1, .n,by omega,_,rfl,gO (λc6=>?_) λc6=>vJ<|far H1 g1⟩;have ck:k=.n:=ahM c6;subst ck;refine⟨_,rfl,_,st,2,rfl,g1.ok,by decide,by decide,λd H2 d0 d1 g2=>⟨rfl,_,rfl,gO (λc7=>?_) λc7=>far H2<|g1.trans g2⟩⟩;have Bb:=g1.trans g2;obtain⟨xa,xb,jY⟩:=id Bb.ok;have br:=cn.br;refine⟨_,rfl,_,rfl,st,_,3, .int (R:Int),rfl,rfl,dD.of jY,cg (j:=3) rfl,_,st,(R:Int),rfl,Bb.ok,by omega,by omega,λe H3 e0 e1 g3=>?_⟩;obtain⟨e,rfl⟩:∃e':Nat,e=(e':Int):=⟨e.toNat,by omega⟩;have g03:=Bb.trans g3;refine⟨_,rfl,_,rfl,_,rfl,_,rfl,_,_,rfl,rfl,j,by exact afv _,M,R,st,lo,ls,_,G,SK, .r,(by rw[<-ed];rfl),cn.grow g03, .r,by simp only[uq];exact afT hrs,by simp only[hk];exact afT Uq,by exact afy (afF _ _) lG,λv t H4 r4 w4 d4 z4 g4=>⟨(fH 3),λpp hpp=>?_⟩⟩;have s5:=bK hpp (.tup [.str "field", .int (e:Int),v]);exact q _ (.field e t) _ (.field bA<|r4.same s5) ⟨rfl,by omega,w4⟩ (by simp only[dep];exact afO d4) (by simp only[sz];omega)<|g03.trans (g4.trans<|cQ g4.ok s5)
theorem Has.weak {k:Nat}{x:Str}{ps:aP Str}{sp sp':Sp}(h:Has P w K mg aV k x ps sp)(q:∀vs H Q E,sp' vs H Q E->sp vs H Q E):Has P w K mg aV k x ps sp':=by
 obtain⟨f',fd',a,b,c,d⟩:=h;exact⟨f',fd',⟨λvs H Q E h=>a.len vs H Q E<|q vs H Q E h,λA aU s H args us vs Q E x1 x2 x3 x4 h=>a.run A aU s H args us vs Q E x1 x2 x3 x4<|q vs H Q E h⟩,b,c,d⟩
variable {fo fr:aj}{fdo fdr:FuncData}
theorem Bl (F:gY K "_law_grown" "_law_grown" jV f fd)(bF:Binds K fd DG [])(mF:mg "_law_grown"=some (.ref f))(Fo:gY K "_law_own" "_law_own" Hh fo fdo)(bO:Binds K fdo DG [])(mO:mg "_law_own"=some (.ref fo))(Fr:gY K "_law_case" "_law_case" yO fr fdr)(bR:Binds K fdr DG [])(mR:mg "_law_case"=some (.ref fr))
  (ml:mg "len"=none) (ms:mg "str"=none) (mr:mg "range"=none) (mI:mg "int"=none) (mt:mg "tuple"=none) (mE:mg "enumerate"=none) (mL:mg "list"=none) (mz:mg "zip"=none) (h1:Has P w K mg aV 1 "_law_next" ["_law_state","_law_many"] j7) (h5:Has P w K mg aV 2 "_law_kind" ["_law_state"] Dv) (h7:Has P w K mg aV 1 "_law_fields" nFl Ug) (h3:Has P w K mg aV 9 "_law_leaf" pLf (yK 6)):
  ∀n:Nat,cX P w K mg aV jG (10+2*n) f fd DG (Bk n)
 |0=>⟨λvs H Q E h=>by obtain⟨D,hD,_⟩:=h;omega,λA aU s H args us vs Q E _ _ _ _ h=>by obtain⟨D,hD,_⟩:=h;omega⟩
 |n+1=>by
  have ih:=Bl F bF mF Fo bO mO Fr bR mR ml ms mr mI mt mE mL mz h1 h5 h7 h3 n;have hU:Has P w K mg aV (10+2*n) "_law_grown" DG (Bk n):=⟨f,fd,ih,bF,F.kp,mF⟩;have g:=Ut (n:=n) F ml ms mr h1 h5 hU h3 (λhn=>by
    obtain⟨j,rfl⟩:∃j,n=j+1:=⟨n-1,by omega⟩;exact⟨fo,fdo,by have:=ab1 Fo ml ms mI mE mt h1 h7 (n:=j) (by rw[show 12+2*j=10+2*(j+1) by omega];exact hU);rwa [show 12+2*j+1=10+2*(j+1)+1 by omega]at this,bO,Fo.kp,mO⟩) (λhn=>by
    obtain⟨j,rfl⟩:∃j,n=j+1:=⟨n-1,by omega⟩;exact⟨fr,fdr,by have:=Yo Fr ml ms mI mr mt mL mz h7 (n:=j) (by rw[show 12+2*j=10+2*(j+1) by omega];exact hU);rwa [show 12+2*j+1=10+2*(j+1)+1 by omega]at this,bR,Fr.kp,mR⟩)
  rw[show 10+2*(n+1)=10+2*n+2 by exact rfl];refine⟨λvs H Q E h=>?_,λA aU s H args us vs Q E x1 x2 x3 x4 h=>?_⟩
  ·obtain⟨D,hD,h⟩:=h
   by_cases z:D=n
   ·subst z;exact g.len vs H Q E h
   ·exact ih.len vs H Q E ⟨D,by omega,h⟩
  ·obtain⟨D,hD,h⟩:=h
   by_cases z:D=n
   ·subst z;exact g.run A aU s H args us vs Q E x1 x2 x3 x4 h
   ·exact ih.run A aU s H args us vs Q E (by first|exact x1.mono (by exact afF _ _)|exact x1) (by first|exact x2.mono (by omega)|exact x2) (by first|exact x3.mono (by omega)|exact x3) (by first|exact x4.mono (by omega)|exact x4) ⟨D,by omega,h⟩
end
structure Uu (M R:Nat)(us:List Tm)(SK:List Kd):Prop where
 ln:us.length=SK.length
 at_:∀(i:Nat) u,us[i]?=some u->∃k,SK[i]?=some k/\WT M R (SK.take i) [] u k/\dep u<=10/\sz u<=2179
 hk2:∀k∈SK,hk k<=30
theorem Uu.nil {M R:Nat}:Uu M R [] []:=⟨rfl,λi u h=>by simp at h,λk h=>by simp at h⟩
theorem Uu.snoc {M R:Nat}{us:aP Tm}{SK:aP Kd}{u:Tm}{k:Kd}(h:Uu M R us SK)(w:WT M R SK [] u k)(d:dep u<=10)(z:sz u<=2179)(hk1:hk k<=30):Uu M R (us++[u]) (SK++[k]):=by
 refine⟨by rw[afu,afu,h.ln];rfl,λi x hx=>?_,λk' hk'=>?_⟩
 ·by_cases c:i<us.length
  ·rw[afC c]at hx
   obtain⟨k',h1,h2,h3⟩:=h.at_ i x hx;refine⟨k',by rw[afC (by rw[<-h.ln];exact c)];exact h1,?_,h3⟩;rw[List.take_append_of_le_length (by rw[<-h.ln];exact afT c)];exact h2
  ·have l:=(ahW hx).1
   rw[afu]at l;have e:i=us.length:=by simp at l;omega
   subst e;simp at hx;subst hx;refine⟨k,by rw[h.ln];simp,?_,d,z⟩;rw[h.ln,List.take_left];exact w
 ·rcases agd.mp hk' with y|y
  ·exact h.hk2 k' y
  ·rw[afN]at y;subst y;exact hk1
theorem Uu.wtp {M R:Nat}{us:List Tm}{SK:List Kd}{t:Tm}(h:Uu M R us SK)(w:WT M R SK [] t .n)(d:dep t<=10):∀(n i:Nat),us.length<=n+i->i<=us.length->ZC M R (SK.take i) (us.drop i) t
 |0,i,h1,h2=>by
  have e:i=us.length:=by omega
  subst e;rw[agW,h.ln,agu];exact⟨w,d⟩
 |n+1,i,h1,h2=>by
  by_cases c:i<us.length
  ·rw[af3 c]
   obtain⟨k,g1,g2,g3,_⟩:=h.at_ i us[i] (afw c);refine⟨k,g2,g3,?_⟩;have e:SK.take i++[k]=SK.take (i+1):=by rw[agn,g1];rfl
   rw[e];exact h.wtp w d n (i+1) (by omega) (by exact c)
  ·have e:i=us.length:=by exact ago h2 (Nat.not_lt.mp c)
   subst e;rw[agW,h.ln,agu];exact⟨w,d⟩
theorem ab3 {us:List Tm}(h:∀u∈us,sz u<=2179):(us.map λu=>2*sz u+1).sum<=us.length*4359:=by
 induction us with
 |nil=>simp
 |cons u us ih=>
  have h1:=h u afE;have h2:=ih λx hx=>h x (afA _ hx);rw[afW,ahn,af4,Nat.add_mul];omega
theorem Uu.szp {M R:Nat}{us:aP Tm}{SK:aP Kd}{t:Tm}(h:Uu M R us SK)(l:us.length<=9)(z:sz t<=2179):WW us t<=50000:=by
 have h1:∀u∈us,sz u<=2179:=λu hu=>by
  obtain⟨i,hi,rfl⟩:=ahj hu;obtain⟨k,_,_,_,q⟩:=h.at_ i _ (afw hi);exact q
 have h2:=ab3 h1;have h3:us.length*4359<=9*4359:=Nat.mul_le_mul_right _ l;unfold WW;omega
def JT:Sp:=λvs H Q _=>∃(M R:Nat) (st:aj),vs=[.ref st, .int 3]/\nj (zA M R) H st/\(1<=M/\M<=6/\1<=R/\R<=5)/\∀(pp lv:aj) (v:V) (tY:List V) (us:List Tm) (t:Tm) H',H' pp=some (.tup [.ref lv,v])->H' lv=some (.lst tY)->lv≠st->ni (iW H') tY us->ZC M R [] us t->us.length<=9->WW us t<=50000->iW H' v t->jk (zA M R) st H H'->Q (.ref pp) H'
section
abbrev JV:aJ:=top 58
noncomputable abbrev nVa:List Str:=["_law_state","_law_depth","_law_shared","_law_vals_here","_law_k","_law_kind_here"]
theorem um:cu nVa ["_law_state","_law_depth"] (bN JV):={}
set_option maxHeartbeats 2000000 in
theorem Yq (F:gY K "_law_vals" "_law_vals" JV f fd)(mr:mg "range"=none)(mI:mg "int"=none)(h1:Has P w K mg aV 1 "_law_next" ["_law_state","_law_many"] j7)(h5:Has P w K mg aV 2 "_law_kind" ["_law_state"] Dv)(h2:Has P w K mg aV 18 "_law_grown" DG (zF 3)):
  cX P w K mg aV jG 19 f fd ["_law_state","_law_depth"] JT:=by
 refine F.ok um (λdJ A aU s H vs Q E hr h=>?_) (by rintro _ _ _ _ ⟨_,_,_,rfl,_⟩;rfl);obtain⟨M,R,st,rfl,ok,br,q⟩:=h;refine⟨_,bI (eU 2 um.nd<|dO bG)
  (bI (eU 3 um.nd<|dO bG)
  (bI (mY PassesOwn.never rfl (jK rfl mr (bx (bZ (rE K) (dO (bx (cP h1 hr (by decide) rfl (bx (pv 0)<|bx bJ bG)) (bx (cU gJ bJ (cP h1 hr (by decide) rfl (bx (pv 0)<|bx bJ bG))) bG)))
    (cZ lN rfl mI boot_int (bx (qG eV (cP h1 hr (by decide) rfl (bx (pv 0)<|bx bJ bG)) bJ) bG))) bG)) (dF (i:=4) um.nd rfl (Or.inl rfl))
   (bI (eU 5 um.nd (cP h5 hr (by decide) rfl (bx (pv 0) bG)))
   (bI (cD (jd K (pv 3) (bx (cP h2 hr (by decide) rfl (bx (pv 0)<|bx (dO bG) (bx (pv 2)<|bx (pv 5) (bx (pv 1) bG)))) bG)))
   (bQ<|cD (jd K (pv 2)<|bx (pv 5) bG)))))
  (bQ (cO (cV (bx (pv 3) (bx (cP h2 hr (by decide) rfl (bx (pv 0)<|bx (dO bG) (bx (pv 2)<|bx bU (bx (pv 1) bG)))) bG))))))),?_⟩
 have sg4:sg 3=2179:=rfl;refine⟨(fH 0),λuo Jz=>?_⟩;refine⟨(fH 0),λlv Mg=>?_⟩;have s1:=bK Jz (.lst []);have s2:=bK Mg (.lst []);have s12:=s1.trans s2;have adT:H lv=none:=s1.free Mg;have nsh:=ok.fresh Jz;have nlv:=ok.fresh adT;have nvs:lv≠uo:=λe=>by rw[e,bA]at Mg;cases Mg
 have g2:=cQ ok s12;refine⟨_,rfl,_,st,3,rfl,g2.ok,by decide,by decide,λa H3 a0 a1 g3=>⟨_,rfl,_,st,3,rfl,g3.ok,by decide,by decide,λb H4 b0 b1 g4=>⟨_,_,rfl,rfl,(fH 2),λli hli=>?_⟩⟩⟩;have g5:=yM (o:=.lst [.int a, .int (7+b)]) g4.ok hli;have nli:=g4.ok.fresh hli;refine⟨_,rfl,_,st,9,rfl,g5.ok,by decide,by decide,λc H6 c0 c1 g6=>⟨rfl, .inr ⟨_,rfl,?_⟩⟩⟩;have ae':=g6.1 _ _ nli bA;have key:∀(x:Bool),∃m:Nat,Vf [V.int a,V.int (7+b)] (if x=true then 1 else 0)=some (.int (m:Int))/\m<=9:=λx=>by
  cases x
  ·exact⟨a.toNat,by rw[show((a.toNat:Nat):Int)=a by omega];exact cg (j:=0) rfl,by omega⟩
  ·exact⟨(7+b).toNat,by rw[show(((7+b).toNat:Nat):Int)=7+b by omega];exact cg (j:=1) rfl,by omega⟩
 obtain⟨m,hm,m9⟩:=key (decide<|V.int c=V.int 8);refine⟨li,_,_,_,rfl,rfl,dD.of ae',hm,_,rfl,by omega,by omega,?_⟩;rw[show(m:Int).toNat=m by exact rfl];have g26:=g2.trans (g3.trans<|g4.trans (g5.trans g6));have g36:=g3.trans (g4.trans<|g5.trans g6);have afa:H6 uo=some (.lst []):=g36.1 _ _ nsh (s2 _ _ bA);have ab4:H6 lv=some (.lst []):=g36.1 _ _ nlv bA;refine qF (n:=m) (λi U H'=>∃(o4 o5:aO V) (tY:aP V) (us:aP Tm) (pK:aP V) (SK:aP Kd),U=[some (.ref st),some<|.int 3,some<|.ref uo,some<|.ref lv,o4,o5]/\jk (zA M R) st H H'/\H' uo=some (.lst pK)/\ni (nq H') pK SK/\H' lv=some (.lst tY)/\ni (iW H') tY us/\us.length=i/\Uu M R us SK)
  ⟨none,none,[],[],[],[],rfl,g26,afa, .nil,ab4, .nil,rfl,Uu.nil⟩ ?_ ?_
 ·rintro i U H7 hi ⟨o4,o5,tY,us,pK,SK,rfl,g7,ab5,ak7,hv7,au7,lus,wv⟩
  refine⟨_,rfl,_,st,rfl,g7.ok,λkv k H8 kd8 r8 hk8 g8=>?_⟩;have g08:=g7.trans g8;have adU:=g8.1 _ _ nsh ab5;have hv8:=g8.1 _ _ nlv hv7;have tp8:=dj g7.ok g8;have lsk:=wv.ln;refine⟨_,rfl, .inl ⟨rfl,_,dD.of hv8⟩,_,rfl,(fH 0),λle hle=>?_⟩;have s9:=bK hle (.lst []);have g9:=cQ g08.ok s9;have cn9:Cn M R (upd H8 le<|.lst []) st le uo [] SK:=⟨g9.ok,⟨[],bA,rfl,λi k h=>by simp at h⟩,⟨pK,s9 _ _ adU,(ak7.mono λv k=>nq.tps tp8).mono λv k=>nq.same s9⟩,g08.ok.fresh hle,nsh,λk h=>by simp at h,wv.hk2,by decide,br,by omega⟩;refine⟨_,rfl,_,rfl,_,rfl,M,R,st,le,uo,kv,[],SK,k,rfl,cn9,kd8.same s9,by omega,by omega,by decide,λv t Jr afb w10 SN z10 JL=>?_⟩;have afc:=g9.trans JL;have adV:=g8.trans afc;have Yr:=JL.1 _ _ nlv (s9 _ _ hv8);have aae:=JL.1 _ _ nsh (s9 _ _ adU);have lu:=au7.1;have lk:=ak7.1;refine⟨lv,tY,v,rfl,rfl,Yr,cW (by omega),?_⟩;have aaf:(upd Jr lv<|.lst (tY++[v])) uo=some (.lst pK):=by rw[bV (ahO nvs)];exact aae
  refine⟨_,rfl, .inl ⟨rfl,_,dD.of aaf⟩,_,rfl,uo,_,kv,rfl,rfl,aaf,cW (by omega),?_⟩;have tu:yV Jr (upd (upd Jr lv<|.lst (tY++[v])) uo<|.lst (pK++[kv])):=λb xs h=>by
   rw[bV (iY h aae<|by intro z;cases z),bV (iY h Yr<|by intro z;cases z)];exact h
  have okN:nj (zA M R) (upd (upd Jr lv<|.lst (tY++[v])) uo<|.lst (pK++[kv])) st:=by
   obtain⟨x,y,hxy⟩:=JL.ok;exact⟨x,y,by rw[bV (ahO nsh),bV (ahO nlv)];exact hxy⟩
  have O8:=dj g7.ok adV;refine⟨_,_,tY++[v],us++[t],pK++[kv],SK++[k],rfl,⟨λb o nb h=>?_,okN⟩,bA,?_,by rw[bV nvs];exact bA,?_,by rw[afu,lus];rfl,wv.snoc w10 (by exact aga SN) (by exact z10)<|by exact afy hk8<|by decide⟩
  ·rw[bV (bY h Jz),bV (bY h adT)]
   exact(g7.trans adV).1 b o nb h
  ·exact((ak7.mono λv k=>nq.tps O8).snoc<|(kd8.same s9).tps (dj g9.ok JL)).mono λv k=>nq.tps tu
  ·exact((au7.mono λv t=>iW.tps O8).snoc afb).mono λv t=>iW.tps tu
 ·rintro U H7 ⟨o4,o5,tY,us,pK,SK,rfl,g7,ab5,ak7,hv7,au7,lus,wv⟩
  refine⟨_,rfl,_,rfl,(fH 0),λle hle=>?_⟩;have s8:=bK hle (.lst []);have g8:=cQ g7.ok s8;have lsk:=wv.ln;have cn8:Cn M R (upd H7 le<|.lst []) st le uo [] SK:=⟨g8.ok,⟨[],bA,rfl,λi k h=>by simp at h⟩,⟨pK,s8 _ _ ab5,ak7.mono λv k=>nq.same s8⟩,g7.ok.fresh hle,nsh,λk h=>by simp at h,wv.hk2,by decide,br,by omega⟩;refine⟨_,rfl,_,rfl,M,R,st,le,uo,_,[],SK, .n,rfl,cn8, .n,by decide,by decide,by decide,λv t H9 r9 w9 d9 z9 g9=>⟨(fH 2),λpp hpp=>?_⟩⟩;have tZ:=bK hpp (.tup [.ref lv,v]);have g79:=g8.trans g9;have Yr:=tZ _ _ (g79.1 _ _ nlv hv7);have wtp:=wv.wtp w9 (by exact aga d9) us.length 0 (by exact afv _) (by exact afY _);exact q pp lv v tY us t _ bA Yr nlv ((au7.mono λv t=>iW.tps<|dj g7.ok g79).mono λv t=>iW.same tZ) wtp (by omega) (wv.szp (by omega)<|by exact z9) (r9.same tZ)<|g7.trans (g79.trans<|cQ g79.ok tZ)
end
end Fw
namespace L2
section
variable {M:Model}{A:aq}{E:ak->ao->Prop}{s:ao}{aV:aK}{e:aj}{cls a0 fl:ak}{Q:Unit->ao->Prop}
theorem Bm {l:aP Env}(fr:aO aj)(f1:aV.StaysIn s.heap)(f3:s.heap.FunFrames aV l)(f4:s.heap.TracedAtW aV e cls a0 fl)
  (hQ:∀h',aV.StaysIn h'->h'.FunFrames aV l->h'.TracedAtW aV e cls a0 (fr.elim Value.none λf=>rawInt f)->(∀b o,s.heap.get? b=some o->(∀vs,o.data≠.fields vs)->h'.get? b=some o)->Q () {s with heap:=h'}):
  wpAny M A (setFlight (.ref e) fr) Q E s:=by
 obtain⟨ob,ws,T,oT,ts,ge,gc,gd,g1,gn,gne,gT,Mv,g3⟩:=f4;have sz:3<ts.size:=(Array.getElem?_eq_some_iff.mp g3).1;have off:∀b,b≠T->(s.heap.update T<|Obj.mapFields (·.setIfInBounds 3 (fr.elim Value.none λf=>rawInt f))).get? b=s.heap.get? b:=λb z=>af6 _ _ (ahO z);have Uv:∀b o,s.heap.get? b=some o->(∀vs,o.data≠.fields vs)->b≠T:=λb o q n z=>by
  subst z;rw[gT]at q;cases q;exact n ts Mv
 unfold setFlight;refine abI<|ahU ge gd g1 ?_;rw[ahK (by simp)];refine wpAny_setField gT Mv sz<|hQ _ (λb o q=>?_) (f3.of_keeps λb o q n=>⟨o,(off b<|Uv b o q n).trans q,rfl⟩) ?_ λb o q n=>(off b<|Uv b o q n).trans q
 ·rw[off b (λz=>by rw[z,gn]at q;cases q)]
  exact f1 b o q
 ·exact⟨ob,ws,T,_,_,(off e<|ahO gne).trans ge,gc,gd,g1,gn,gne,af7 _ gT<|Obj.isFreed_of_fields (Obj.data_mapFields Mv _),Obj.data_mapFields Mv _,by simp[sz]⟩
theorem JW {env:Env}{aU:aP Env}{L:aj}(hfr:A.frames=some (env::aU))(hf:env.frame=some L)(f1:aV.StaysIn s.heap)(f2:aV.get? e=none)(f3:s.heap.FunFrames aV (env::aU))(f4:s.heap.TracedAtW aV e cls a0 fl)
  (hQ:∀h',Heap.FlyingW aV aU e cls a0 h'->s.heap.UpToSlots h'->Q () {s with heap:=h'}):wpAny M A (leaving env<|.ref e) Q E s:=by
 by_cases hb:(fl==rawInt L)=true
 ·obtain⟨ob,ws,T,oT,ts,ge,gc,gd,g1,gn,gne,gT,Mv,g3⟩:=id f4
  unfold leaving noteFrame;simp only[hf];refine abI<|abI (ahU ge gd g1 ?_);rw[ahK (by simp)];refine abI<|ahU gT Mv g3 ?_;rw[ahK hb];refine ahI<|Bm none f1 f3 f4 λh' k1 k2 k3 k4=>hQ h' ⟨k1,f2,k2.2.2,k3⟩ λb o q n=>⟨o.slots,k4 b o q n⟩
 ·obtain⟨ob,ws,T,oT,ts,ge,⟨gc,g0⟩,gd,g1,gn,gne,gT,Mv,g3⟩:=f4
  subst gc;unfold leaving noteFrame;simp only[hf];refine abI<|abI (ahU ge gd g1 ?_);rw[ahK (by simp)];refine abI<|ahU gT Mv g3 ?_;rw[ahL hb];refine abI<|wpAny_setField gT Mv (Array.getElem?_eq_some_iff.mp g3).1 ?_;have off:∀b,b≠T->(s.heap.update T<|Obj.mapFields (·.setIfInBounds 3 Value.none)).get? b=s.heap.get? b:=λb z=>af6 _ _ (ahO z);have Uv:∀b o,s.heap.get? b=some o->(∀vs,o.data≠.fields vs)->b≠T:=λb o q n z=>by
   subst z;rw[gT]at q;cases q;exact n ts Mv
  refine wpAny_newEntryW hfr (f3.of_keeps λb o q n=>⟨o,(off b<|Uv b o q n).trans q,rfl⟩) hf ((off e<|ahO gne).trans ge) (λb o q=>?_) f2 gd (Array.getElem?_eq_some_iff.mp g1).1 g0 λh' k=>?_
  ·rw[off b (λz=>by rw[z,gn]at q;cases q)]
   exact f1 b o q
  ·obtain⟨k1,⟨_,_,k2⟩,k3,k4⟩:=k
   exact hQ h' ⟨k1,f2,k2,k3⟩ λb o q n=>k4 b o ((off b<|Uv b o q n).trans q) n
end
theorem zG {h aV base':aK}(k:∀b,aV.get? b=none->base'.get? b=none){l:List Env}(q:h.FunFrames aV l):h.FunFrames base' l:=by
 induction l with
 |nil=>trivial
 |cons _ _ ih=>
  obtain⟨h1,⟨L,o,e1,e2,e3,e4⟩,h2⟩:=q;exact⟨h1,⟨L,o,e1,k L e2,e3,e4⟩,ih h2⟩
section
variable {P:aA}{w:aG}{K:aN}{mg:Str->Option ak}{aV:aK}{N:List Str}{bf:Str}{aZ:Scope}{f:aj}{cd:ak}{A:aq}{aU:List Env}{s:ao}{H:Hp}{E:XK}
def XC (X:Cx)(N':List Str)(sc:Scope)(E:XK):aj->ao->Hp->List aj->ak->ao->Prop:=λC s2 H2 ex e s'=>∃(bH:List (aj×Obj)) (U:St) (H1:Hp) (s1:ao),Inv (fj X N' sc C s2 H2 ex) bH U H1 s1/\gw X.prog X.w X.stack H1 s1 E e s'
theorem Inv.afd {X:Cx}{N':aP Str}{sc:Scope}{C:aj}{s2:ao}{H2:Hp}{ex:aP aj}{XE:aj->ao->Hp->aP aj->ak->ao->Prop}{bH:aP (aj×Obj)}{U:St}{H1:Hp}{s1:ao}(I:Inv (gj X N' sc C s2 H2 ex XE) bH U H1 s1):Inv (fj X N' sc C s2 H2 ex) bH U H1 s1 :=
 ⟨⟨I.ok.mod,I.ok.kind,I.ok.glob,I.ok.blt,I.ok.above,I.ok.inj,I.ok.has,I.ok.cab,I.ok.hd,I.ok.frames,I.ok.stk,I.ok.Vq,I.ok.bs,I.ok.DR,I.ok.vG,I.ok.wM,I.ok.mU,I.ok.Hv⟩,I.os,I.bare,I.base,I.loc,I.cell,I.free,I.jx,I.pin,I.hok,I.len⟩
theorem Hl {X:Cx}{N':aP Str}{sc:Scope}{C:aj}{s2:ao}{H2:Hp}{ex:aP aj}{E:XK}:Passes (gw X.prog X.w) (gj X N' sc C s2 H2 ex<|XC X N' sc E) E :=
 λbH U H1 s1 e s' I h=>⟨bH,U,H1,s1,I.afd,h⟩
theorem Ho {sc:Scope}{N':List Str}{use:Option (ak->Sem Unit)}{Q':ak->ao->Prop}{bH:List (aj×Obj)}{U:St}{C:aj}{s2:ao}{H2:Hp}{ex:List aj}{D:aj}
  (I2:Inv (dX (gw P w) P w K mg aV N bf aZ f cd A aU s H E) bH U H2 s2) (f2:∀b∈ex,uz (dX (gw P w) P w K mg aV N bf aZ f cd A aU s H E) bH H2 b) (hC:s2.heap.objs.size<=C) (e:ak) (s':ao)
  (h:XC (dX (gw P w) P w K mg aV N bf aZ f cd A aU s H E) N' sc E C s2 H2 ex e s'):
  notedBy (model P w) (dX (gw P w) P w K mg aV N bf aZ f cd A aU s H E).A (compEnvC sc (jZ (dX (gw P w) P w K mg aV N bf aZ f cd A aU s H E).env.cells sc.names []) C (dX (gw P w) P w K mg aV N bf aZ f cd A aU s H E).env)
   (λx s''=>compPost (model P w) (dX (gw P w) P w K mg aV N bf aZ f cd A aU s H E).A (dX (gw P w) P w K mg aV N bf aZ f cd A aU s H E).xe use Q' (.ref D) C (.error x) s'') e s':=by
 obtain⟨p1,U1,H1,s1,I1,ea,Cc,H',rfl,⟨os,bare,un,hok,BL,B,t,fl,mG⟩,hE⟩:=h;have J1:Inv (fj (dX (gw P w) P w K mg aV N bf aZ f cd A aU s H E) N' sc C s2 H2 ex) p1 U1 H' s':=I1.call' os un hok bare (λb z=>absurd z<|by simp);generalize hX:dX (gw P w) P w K mg aV N bf aZ f cd A aU s H E=X at*;have J:Inv X bH U H' s':=by
  refine I2.call' (ch:=ex) J1.os J1.base J1.hok J1.bare λb hb=>?_;obtain⟨_,g1,g2,g3,g4,g5⟩:=f2 b hb;exact⟨g3,g1,g4,g5⟩
 have jY:X.stack=X.env::X.outer:=by rw[<-hX];rfl
 have hfr:X.env.frame=some X.env.locals:=by rw[<-hX];rfl
 have hxe:∀e s',X.xe e s'=wpAny (model P w) X.A (leaving X.env e) (λ_ s''=>gw P w X.outer X.H₀ X.s₀ E e s'') (λe' s''=>gw P w X.outer X.H₀ X.s₀ E e' s'') s':=by rw[<-hX];exact λ_ _=>rfl
 have hex:X.ex=[]:=by rw[<-hX];rfl
 have hP:X.prog=P:=by rw[<-hX];rfl
 have hw:X.w=w:=by rw[<-hX];rfl
 clear hX;have fr:X.A.frames=some (X.env::X.outer):=by rw[<-jY];exact J.ok.frames
 rw[jY]at fl mG;have C0:∀o,X.s₀.heap.get? C≠some o:=λo q=>absurd (afH (afB q)<|afy I2.sz hC) (afQ _);have CH:H' C=none:=J1.free;obtain⟨m,hn,_⟩:=J1.loc;have hn':s'.heap.Ns C m:=hn;have Cl:∃oC,s1.heap.get? C=some oC:=by
  obtain⟨m1,hn1,_⟩:=I1.loc;obtain⟨o,_,_,q,_⟩:=(show s1.heap.Ns C m1 from hn1);exact⟨o,q⟩
 have Cfr:C∉frs (X.env::X.outer):=λz=>by
  rw[<-jY]at z;rcases afU.mp (J.jO C z) with y|y
  ·have q:=I2.lt
   rw[<-y]at q;exact absurd (afH q hC)<|afQ _
  ·exact I2.Vr hC y
 obtain⟨oC,eC,pC,qC,dC,_⟩:=id hn';show wpAny _ _ (noteFrame (.ref ea) X.env) _ _ s';refine wpAny_looks_onW fr hfr fl λh4 held Vm=>?_;refine⟨m,Vm.ns hn',λh5 sb5 cenv hce=>?_⟩;obtain⟨a1,a2,a3,a4⟩:=held;have nC:∀b,B.get? b=none->(hideAll B [C]).get? b=none:=λb q=>by
  cases z:(hideAll B [C]).get? b with
  |none=>rfl
  |some o=>rw[ag0 _ z]at q;cases q
 have b1:(hideAll B [C]).StaysIn h5:=λb o q=>by
  have z:b≠C:=λz=>by rw[z,PySem.W.hideAll_none _ (afN.mpr rfl)]at q;cases q
  exact(sb5.2 b z).trans<|a1 b o (ag0 _ q)
 have nfC:∀b o vs,h4.get? b=some o->o.data=.fields vs->b≠C:=λb o vs q d z=>by
  subst z;obtain⟨sl,q'⟩:=Vm b oC qC (λvs y=>by rw[dC]at y;cases y);rw[q]at q';cases q';rw[dC]at d;cases d
 have b3:h5.FunFrames (hideAll B [C]) (X.env::X.outer):=by
  refine zG nC ?_;have:∀{l:List Env},(∀b∈frs l,b≠C)->h4.FunFrames B l->h5.FunFrames B l:=by
   intro l
   induction l with
   |nil=>intro _ _;trivial
   |cons y l ih=>
    intro hb hl;obtain⟨k1,⟨L,o,k2,k3,k4,k5⟩,k6⟩:=hl;refine⟨k1,⟨L,o,k2,k3,(sb5.2 L<|hb L (List.mem_filterMap.mpr ⟨y,afE,k2⟩)).trans k4,k5⟩,ih (λb z=>hb b ?_) k6⟩;obtain⟨z1,z2,z3⟩:=List.mem_filterMap.mp z;exact List.mem_filterMap.mpr ⟨z1,afA _ z2,z3⟩
  exact this (λb hb z=>Cfr<|by rw[<-z];exact hb) a3
 have b4:h5.TracedAtW (hideAll B [C]) ea (.ref Cc) (.ref t) (rawInt X.env.locals):=by
  obtain⟨ob,ws,T,oT,ts,ge,gc,gd,g1,gn,gne,gT,Mv,g3⟩:=a4;exact⟨ob,ws,T,oT,ts,(sb5.2 ea<|nfC ea _ _ ge gd).trans ge,gc,gd,g1,nC T gn,gne,(sb5.2 T<|nfC T _ _ gT Mv).trans gT,Mv,g3⟩
 obtain⟨ob,ws,T,oT,ts,ge,gc,gd,g1,gn,gne,gT,Mv,g3⟩:=id b4;unfold PySem.passOn;refine abI<|ahU ge gd g1 ?_;rw[ahL (by simp)];refine abI<|Bm (s:={s' with heap:=h5}) cenv.frame b1 b3 b4 λh6 c1 c3 c4 c5=>?_;refine wpAny_throw ?_;rw[hxe];refine JW (s:={s' with heap:=h6}) fr hfr c1 (nC ea a2) c3 c4 λh7 fl7 up7=>?_;have kB:∀{b o},s'.heap.get? b=some o->b∉frs X.stack->(H' b≠none\/∃o',X.s₀.heap.get? b=some o')->(hideAll B [C]).get? b=some o:=λ{b o} q hb hc=>by
  refine agX _ (mG b o q (by rw[<-jY];exact hb) ?_) λz=>?_
  ·rcases hc with z|⟨o',z⟩
   ·exact .inl z
   ·obtain⟨o2,q2⟩:=I2.base.there b o' z (by rw[hex];simp)
    refine .inr<|I1.base.there b o2 q2 (λzz=>?_);rcases(f2 b zz).2.2.2.1 with y|y
    ·rw[hex]at y;cases y
    ·exact absurd (afH (afB z) y)<|afQ _
  ·have z':b=C:=by simpa using z
   subst z';rcases hc with y|⟨o',y⟩
   ·exact y CH
   ·exact C0 o' y
 have kp:∀b o,s'.heap.get? b=some o->b∉frs X.stack->(H' b≠none\/∃o',X.s₀.heap.get? b=some o')->h7.get? b=some o:=λb o q hb hc=>fl7.1 b o (kB q hb hc);obtain⟨un',hok'⟩:=Fi hex J kp λb o hb q n=>by
  obtain⟨sl4,q4⟩:=Vm b o q n;have zC:b≠C:=λz=>Cfr (by rw[<-jY,<-z];rw[jY];exact(List.mem_filterMap.mpr<|by obtain⟨y1,y2,y3⟩:=List.mem_filterMap.mp hb;exact⟨y1,afA _ y2,y3⟩));have q5:=(sb5.2 b zC).trans q4;have q6:=c5 b _ q5 n;obtain⟨sl7,q7⟩:=up7 b _ q6 n;exact⟨sl7,q7⟩
 rw[hP,hw]at hok';refine⟨ea,Cc,H',rfl,⟨J.os,J.bare,un',hok',BL,_,t,fl7,λb o q hb hc=>?_⟩,hE⟩;have yU:b∉frs X.stack:=λz=>by
  rcases afU.mp (J.jO b z) with z1|z1
  ·rcases hc with z2|⟨o',z2⟩
   ·exact z2<|J.oJ b z
   ·have h1:=afB z2
    have h2:=J.ok.above;rw[z1]at h1;exact absurd (afH h1 h2)<|afQ _
  ·exact hb z1
 obtain⟨o2,q2⟩:∃o2,s'.heap.get? b=some o2:=by
  rcases hc with z|⟨o',z⟩
  ·cases hz:H' b with
   |none=>exact absurd hz z
   |some u=>exact(J.hok b u hz).there
  ·exact J.base.there b o' z (by rw[hex];simp)
 have q3:=kp b o2 q2 yU hc;rw[q]at q3;cases q3;exact kB q2 yU hc
theorem PJ {nH dR:aH}{x:Str}{px pos:Pos}{sc:Scope}{cG:aP Str}{jF:aP Nat}{wi:TI}{te:TE}
  (S:qH (dX (gw P w) P w K mg aV N bf aZ f cd A aU s H E) x cG jF sc) (hfl:∀y∈cG,sc.names.lookup y=some .free) (hi:PI (dX (gw P w) P w K mg aV N bf aZ f cd A aU s H E) (.Name x px) dR wi)
  (he:∀C s₀ H₀ ex,PE (gj (dX (gw P w) P w K mg aV N bf aZ f cd A aU s H E) (x::cG) sc C s₀ H₀ ex<|XC (dX (gw P w) P w K mg aV N bf aZ f cd A aU s H E) (x::cG) sc E) nH te)
  (hs:∀v,foldedSetIterable dR (dX (gw P w) P w K mg aV N bf aZ f cd A aU s H E).env v=pure v:=by intro _;rfl):PE (dX (gw P w) P w K mg aV N bf aZ f cd A aU s H E) (.ListComp nH [⟨.Name x px,dR,[],0⟩] sc pos) (uX jF wi EY te):=by
 rw[<-Bx];intro bH s1 U H1 Q I h;rw[eval_ListComp];refine uK (M:=[x]) (g:=jy 0) (tt:=EY) (XE:=XC (dX (gw P w) P w K mg aV N bf aZ f cd A aU s H E) (x::cG) sc E) (use:=none) (Q':=EP (dX (gw P w) P w K mg aV N bf aZ f cd A aU s H E) bH U Q) rfl ⟨S.kind,S.uJ,S.loc,S.fr,S.ix,S.len,S.cl⟩ hfl hi
  (λC s₀ H₀ ex=>dF (i:=0) S.nd rfl (.inl<|lookup_relabel_local S.tgt) (.inr<|lookup_relabel_local S.tgt)) (λC s₀ H₀ ex=>j8) he hs I h (λC s2 H2 ex D I2 f2 hC _ e s' q=>Ho I2 f2 hC e s' q) λD C H' m4 s4 hn hJ _ _ _ _ _ _ q=>?_
 show ∃m,s4.heap.Ns C m/\∀h',Heap.SameBut C s4.heap h'->EP (dX (gw P w) P w K mg aV N bf aZ f cd A aU s H E) bH U Q (.ref D) {s4 with heap:=h'};exact⟨m4,hn,λh' hsb=>⟨.ref D,H',hJ h' hsb,rfl,q⟩⟩
theorem ab6 {nH dR:aH}{x:Str}{px pos:Pos}{sc:Scope}{wi:TI}{te:TE}(rZ:Scope)(N0:aP Str)(cG:aP Str)(jF:aP Nat)(hk:wZ rZ N0 x cG jF sc=true)(hi:PI (dX (gw P w) P w K mg aV N bf aZ f cd A aU s H E) (.Name x px) dR wi)
  (he:∀C s₀ H₀ ex,PE (gj (dX (gw P w) P w K mg aV N bf aZ f cd A aU s H E) (x::cG) sc C s₀ H₀ ex<|XC (dX (gw P w) P w K mg aV N bf aZ f cd A aU s H E) (x::cG) sc E) nH te)
  (ho:(dX (gw P w) P w K mg aV N bf aZ f cd A aU s H E).env.scope=rZ:=by rfl) (hN:(dX (gw P w) P w K mg aV N bf aZ f cd A aU s H E).N=N0:=by rfl)
  (hs:∀v,foldedSetIterable dR (dX (gw P w) P w K mg aV N bf aZ f cd A aU s H E).env v=pure v:=by intro _;rfl):PE (dX (gw P w) P w K mg aV N bf aZ f cd A aU s H E) (.ListComp nH [⟨.Name x px,dR,[],0⟩] sc pos) (uX jF wi EY te):=by
 obtain⟨S,fl⟩:=oX (X:=dX (gw P w) P w K mg aV N bf aZ f cd A aU s H E) hk ho hN;exact PJ S fl hi he hs
end
end L2
namespace Fw
open L2
noncomputable def jn (ws:List Vl):List Vl ⊕ Rs->List Vl ⊕ Rs
 |.inl r=>.inl (ws++r)
 |.inr r=>.inr r
theorem Uw {f:Tm->Nat->Option (Rs×Nat)}{ts:List Tm}{i:Nat}{t:Tm}{ci c':Nat}{oi:List Vl ⊕ Rs}(ht:ts[i]?=some t)(h:evs f (ts.drop i) ci=some (oi,c')):
  (∃v c1 o2,f t ci=some (.val v,c1)/\evs f (ts.drop<|i+1) c1=some (o2,c')/\∀ws,jn (ws++[v]) o2=jn ws oi)\/(∃r1,(∀v,r1≠.val v)/\f t ci=some (r1,c')/\oi=.inr r1):=by
 obtain⟨hi,e⟩:=ahW ht;rw[af3 hi,e]at h;unfold evs at h;cases e1:f t ci with
 |none=>rw[e1]at h;cases h
 |some rc=>
  obtain⟨r1,c1⟩:=rc;rw[e1]at h;cases r1 with
  |val v=>
   dsimp only at h;left;cases e2:evs f (ts.drop<|i+1) c1 with
   |none=>rw[e2]at h;cases h
   |some oc=>
    obtain⟨o2,c2⟩:=oc;rw[e2]at h;cases o2 with
    |inl vs=>cases h;exact⟨v,c1,_,rfl,e2,λws=>by simp[jn]⟩
    |inr r=>cases h;exact⟨v,c1,_,rfl,e2,λws=>rfl⟩
  |_=>cases h;exact .inr ⟨_,λv z=>(by cases z),rfl,rfl⟩
theorem yP {CT iG iH:aj}{m:Nat}{N:aj->Prop}{H:Hp}{wd ls:aj}{c0 d:Nat}{most:Int}{S:List Vl}{E:XK}(wl:kO H N wd ls c0 d most S)
  {t':Tm} {v':V} {jH:List Vl} {e:aj} {N1:aj->Prop} {H1:Hp} {c1:Nat} {r1:Rs} {c2:Nat} {Q':VK} (a1:iW H1 v' t') (a2:lY H1 N1 e jH) (a3:kO H1 N1 wd ls c1 d most S) (a4:Kw wd H H1) (a4':∀b,N1 b->Al N H H1 b) (a5:GT jH.length t') (a6:jH.length+6*dep t'<=149) (a7:ev most S m d t' jH c1=some (r1,c2)) (as:r1≠.stuck)
  (a8:∀w,r1=.val w->∀u H',sy (Al N H H') H' u w->kO H' (Al N H H') wd ls c2 d most S->Kw wd H H'->Q' u H') (a9:∀C,Ju CT iG iH r1=some C->∀ea H',Kw wd H H'->E (.ref C) (some ea) H'):vm CT iG iH m [v', .ref e, .ref wd] H1 Q' E:=by
 cases m with
 |zero=>cases a7
 |succ j=>
  refine⟨v',e,wd,ls,N1,t',jH,c1,d,most,S,r1,c2,rfl,a1,a2,a3,a5,a6,a7,as,λw hw u H' vu wu ku=>?_,λC hC ea H' ku=>a9 C hC ea H'<|a4.trans ku⟩;have k0:=a4.trans ku;have st:=Al.step (N:=N) (H:=H) (H1:=H1) (H2:=H') a4' a4 ku wl.there a3.there;exact a8 w hw u H' (vu.wide st) (wu.Qn wl st k0) k0
theorem Al.same {N:aj->Prop}{H H1 H2:Hp}(s:Same H1 H2){b:aj}(h:Al N H H1 b):Al N H H2 b:=by
 rcases h with z|⟨z1,z2⟩
 ·exact .inl z
 ·refine .inr ⟨z1,?_⟩
  obtain⟨o,ho⟩:=Option.ne_none_iff_exists'.mp z2;rw[s b o ho];simp
section
variable {CT iG iH:aj}
abbrev Ux:aJ:=top 62
noncomputable abbrev nBl:List Str:=["_law_term","_law_own_here","_law_world","_law_value","_law_inner","_law_name","_law_one"]
theorem Hq:cu nBl zy (bN Ux):={}
theorem Uy:("field":Str)≠"block"/\("case":Str)≠"block"/\("case":Str)≠"field":=by decide+kernel
set_option maxHeartbeats 8000000 in
theorem adW {m:Nat}{fW:aj}{gW:FuncData}(F:gY K "_law_blocked" "_law_blocked" Ux f fd)(mD:mg "dict"=none)(mz:mg "zip"=none)
  (G:cX P w K mg aV (gw P w) (2*m+1) fW gW zy (vm CT iG iH m)) (mW:mg "_law_worked"=some (.ref fW)) (kW:keepIn K (.ref fW)=true) (bW:Binds K gW zy []):cX P w K mg aV (gw P w) (2*m+2) f fd zy (abO CT iG iH m):=by
 refine F.vU Hq λdJ A aU s H vs Q E hr h=>?_;obtain⟨v,od,wd,ls,N,t,env,c,d,most,S,r,c',rfl,pt,tl,en,wl,gt,Dq,he,ns,q1,q2⟩:=h;have hu:=pX hr;refine⟨_,bI (dB (cA eV (bZ (fG K) (pv 0) bJ) bU) (bQ (cO (cV (bx bU (bx (bZ (fG K) (pv 0) bJ) (bx
   (ab6 (te:=En (vm CT iG iH m) [] E (ig (pL 0)<|ig (pL 1) (ig (pL 2) sO))) (bN Ux) nBl ["_law_own_here","_law_world"] [1,2] (by decide+kernel) (piT K<|bZ (fG K) (pv 0) bJ)
    (λC s₀ H₀ ex=>gU G hr rfl mW kW bW .nil Hl (bx (pv 0)<|bx (pv 1) (bx (pv 2) bG)))) bG)))))) cR)
  (bI (dB (cA eV (bZ (fG K) (pv 0) bJ) bU) (bQ<|cO (bZ (rE K) (bZ (fG K) (gU G hr rfl mW kW bW .nil dY (bx (bZ (fG K) (pv 0) bJ)<|bx (pv 1) (bx (pv 2) bG))) bJ)<|bZ (fG K) (pv 0) bJ)) cR)
  (bI (eU 3 Hq.nd<|gU G hr rfl mW kW bW .nil dY (bx (bZ (fG K) (pv 0) bJ)<|bx (pv 1) (bx (pv 2) bG)))
  (bI (eU 4 Hq.nd<|cZ qw rfl mD rQ (bx (pv 1) bG))
  (bI (mY PassesOwn.leaving rfl (Yj false true rfl rfl mz (bx (bZ (fG K) (bZ (fG K) (bZ (fG K) (pv 0) bJ)<|bZ (fG K) (pv 3) bJ) bJ)<|bx (bZ (fG K) (pv 3) bJ) bG))
   (Zt K (n:=2) rfl (fK (dF (i:=5) Hq.nd rfl (Or.inl rfl))<|fK (dF (i:=6) Hq.nd rfl (Or.inl rfl)) mq)) (bQ<|qL hu (pv 4) (pv 5) (pv 6) rfl))
  (bQ<|cO (gU G hr rfl mW kW bW .nil dY (bx (bZ (fG K) (bZ (fG K) (bZ (fG K) (pv 0) bJ)<|bZ (fG K) (pv 3) bJ) bJ)<|bx (pv 4) (bx (pv 2) bG)))))))),?_⟩
 obtain⟨w1,w2,w3⟩:=Uy;have vo:∀{H1:Hp} b,N b->Al N H H1 b:=λb hb=>.inl hb;have hz:=sizeLine_eq;cases tl with
 |n h=>exact pt.elim
 |v h=>exact pt.elim
 |g h=>exact pt.elim
 |fn h a=>exact pt.elim
 |lt h a b=>exact pt.elim
 |rK h a b c=>exact pt.elim
 |op h a b=>exact pt.elim
 |call h a b=>exact pt.elim
 |@block a t k ts bs ha ht t1=>
  obtain⟨l5,gl⟩:=gt;simp only[dep]at Dq;unfold ev at he;cases e1:evs (λt c=>ev most S m d t env c) bs c with
  |none=>rw[e1]at he;cases he
  |some oc=>
   obtain⟨o,c1⟩:=oc;rw[e1]at he;have lt:=t1.len;have h0:c1=c':=by cases o<;>(cases he;rfl)
   subst h0;refine lE rfl ha λ_=>?_;refine(dN (a:=a) (j:=1) rfl ha rfl (dN (a:=a) (j:=2) rfl ha rfl ⟨t,rfl,⟨_,iM.of ht⟩,Ge (xs:=ts) (λi vs H'=>∃ws ci oi,jC (Al N H H') H' vs ws/\kO H' (Al N H H') wd ls ci d most S/\Kw wd H H'/\vs.length=i/\evs (λt c=>ev most S m d t env c) (bs.drop i) ci=some (oi,c1)/\jn ws oi=o) ?_ ?_ ?_ ?_⟩))
   ·exact⟨[],c,o, .nil,wl.Qn wl vo Kw.refl,Kw.refl,rfl,e1,by cases o<;>rfl⟩
   ·rintro i vs H' hi ⟨ws,ci,oi,_,_,k1,l1,_⟩
    exact⟨iM.of<|wl.tps k1 _ _ ht,cW<|by omega⟩
   ·rintro i x vs H' hi hx ⟨ws,ci,oi,v1,Vn,k1,l1,ee,ej⟩
    have hib:i<bs.length:=by exact afR hi lt
    obtain⟨x',hx',tx⟩:=t1.get (afw hib);rw[hx]at hx';cases hx';have gi:=CW gl (agx hib);have di:=pB (afw hib);refine Zg<|uH ?_;have X3:lY H' (Al N H H') od env:=(wl.env k1 en).wide vo;rcases Uw (afw hib) ee with ⟨v,c2,o2,f1,f2,f3⟩|⟨r1,nv,f1,f2⟩
    ·refine⟨_,rfl,_,rfl,_,rfl,yP Vn (tx.tps<|wl.tps k1) X3 Vn Kw.refl (λb hb=>.inl hb) gi (by omega) f1 (λz=>by cases z) (λw' hw' u H2 vu wu ku=>nx hi ?_) λC hC ea H2 ku=>?_⟩
     ·cases hw'
      have st:=Al.step (N:=N) (H:=H) (H1:=H') (H2:=H2) (λb hb=>hb) k1 ku wl.there Vn.there;have k2:=k1.trans ku;refine⟨ws++[v],c2,o2,?_,wu.Qn wl st k2,k2,by rw[afu,l1];rfl,f2,by rw[f3,ej]⟩;exact jC.snoc (v1.mono (Vn.tps ku) λb o n q=>⟨st b<|.inl n,(Vn.kd ku b o n q).2⟩)<|vu.wide st
     ·cases hC
    ·subst f2
     rw[<-ej]at he;have er:r=r1:=by cases he;rfl
     subst er;exact⟨_,rfl,_,rfl,_,rfl,yP Vn (tx.tps<|wl.tps k1) X3 Vn Kw.refl (λb hb=>.inl hb) gi (by omega) f1 ns (λw' hw'=>absurd hw'<|nv w') λC hC ea H2 ku=>q2 C hC ea H2<|k1.trans ku⟩
   ·rintro vs H' ⟨ws,ci,oi,v1,Vn,k1,l1,ee,ej⟩ l hl
    rw[lt,agW]at ee;cases ee;have eo:o=.inl ws:=by rw[<-ej];simp[jn]
    subst eo;cases he;refine⟨(fH 3),λp hp=>?_⟩;have s2:=bK hl (.lst vs);have s3:=bK hp (.tup [.str "bl", .int k, .ref l]);have Ue:=s2.trans s3;have k3:=k1.trans (dh Ue);refine q1 _ rfl _ _ (.bl bA (s3 _ _ bA) ?_<|v1.mono (λb ys h=>Ue b _ h) λb o n q=>⟨n.same Ue,Ue b _ q⟩) ((Vn.same Ue).Qn wl (λb hb=>hb.same Ue) k3) k3;refine .inr ⟨?_,by rw[s3 _ _ bA];simp⟩;cases hq:H l with
    |none=>rfl
    |some o=>
     have:=k1 l o (λz=>by rw[z]at hl;exact Vn.there hl) hq;rw[hl]at this;cases this
 |@field a i u b ha t1=>
  simp only[dep]at Dq;unfold ev at he;cases e1:ev most S m d b env c with
  |none=>rw[e1]at he;cases he
  |some rc=>
   obtain⟨r1,c1⟩:=rc;rw[e1]at he;refine fX rfl ha w1 ?_;refine lE rfl ha λ_=>?_;refine(dN (a:=a) (j:=2) rfl ha rfl ⟨_,rfl,_,rfl,yP wl t1 en wl Kw.refl vo gt (by omega) e1 (by rintro rfl;cases he;exact ns rfl) (λw hw u' H3 vu w3 k3=>?_) λC hC ea H3 k3=>q2 C (by cases r1 with|val v=>cases hC|_=>cases he;exact hC) ea H3 k3⟩);subst hw;have ha3:=wl.tps k3 _ _ ha;cases vu with
   |num hi=>cases he;exact absurd rfl ns
   |fn=>cases he;exact absurd rfl ns
   |@bl rr l k vs ws h1 h2 h3 h4=>
    dsimp only at he;cases e2:ws[i]? with
    |none=>rw[e2]at he;cases he
    |some v=>
     rw[e2]at he;cases he;obtain⟨u2,hu2,vu2⟩:=h4.get e2;exact⟨rr,_,2,_,rfl,rfl,iM.of h1,cg (j:=2) rfl,dN (a:=a) (j:=1) rfl ha3 rfl ⟨l,_,(i:Int),_,rfl,rfl,dD.of h2,cg (j:=i) hu2,q1 _ rfl _ _ vu2 w3 k3⟩⟩
 |@case a t x u b ms ts bs ha ht t1 t2=>
  obtain⟨hx,gb,ga⟩:=gt;simp only[dep]at Dq;have Xr:=agq (dep b) (iJ bs);have Xu:=agl (dep b) (iJ bs);generalize max (dep b) (iJ bs)=Dm at Dq Xr Xu;unfold ev at he;cases e1:ev most S m d b env c with
  |none=>rw[e1]at he;cases he
  |some rc=>
   obtain⟨r1,c1⟩:=rc;rw[e1]at he;refine tn2 rfl ha w2 w3 ?_;refine dG λ_ hn=>?_;refine(dN (a:=a) (j:=1) rfl ha rfl ⟨_,rfl,_,rfl,yP wl t1 en wl Kw.refl vo gb (by omega) e1 (by rintro rfl;cases he;exact ns rfl) (λw hw u' H3 vu w3 k3=>?_) λC hC ea H3 k3=>q2 C (by cases r1 with|val v=>cases hC|_=>cases he;exact hC) ea H3 k3⟩);subst hw;have Hj:=wl.tps k3;have ha3:=Hj _ _ ha;have Ou:=Hj _ _ ht;cases vu with
   |num hi=>cases he;exact absurd rfl ns
   |fn=>cases he;exact absurd rfl ns
   |@bl rr l k vs ws h1 h2 h3 h4=>
    dsimp only at he;by_cases ck:0<=k/\k<(bs.length:Int)
    ·rw[ahK ck]at he
     obtain⟨q,rfl⟩:∃q:Nat,k=(q:Int):=⟨k.toNat,by omega⟩;rw[show((q:Int).toNat)=q from rfl]at he;have lq:q<bs.length:=by omega
     rw[afw lq]at he;dsimp only at he;obtain⟨kq,em,l5q,gq⟩:=S6 ga (afw lq);obtain⟨pa,pq,pv',mi,em',ev',hpa,hpq,tpv⟩:=t2.get (afw lq);rw[em]at em';cases em';by_cases cm:ms[q]?=some ws.length
     ·rw[ahK cm]at he
      rw[em]at cm;cases cm;have dq:=pB (afw lq);have rN:=h4.len;obtain⟨cI,Ys,hod,nod,lk,vk,TQ⟩:=(wl.env k3 en).wide (N':=Al N H H3) vo;have aft:=TQ.len;refine hn _ _<|dG λ_ hn=>?_;refine⟨_,rfl,od,cI,rfl,hod,λdd hdd=>?_⟩;have Ec:∀{b o},H3 b=some o->b≠dd:=λ{b o} e=>bY e hdd;refine hn _ _<|dG λ_ hn=>?_;have vB:∀b o,b≠dd->H3 b=some o->(upd H3 dd<|.dK cI) b=some o:=λb o n e=>by rw[bV n];exact e
      refine(dN (a:=a) (j:=2) rfl (vB _ _ (Ec ha3) ha3) rfl (dN (a:=rr) (j:=1) rfl (vB _ _ (Ec h1) h1) rfl ⟨t,_,(q:Int),_,rfl,rfl,iM.of<|vB _ _ (Ec Ou) Ou,cg (j:=q) ev',pa,_,0,_,rfl,rfl,iM.of<|vB _ _ (Ec<|Hj _ _ hpa) (Hj _ _ hpa),cg (j:=0) rfl,dN (a:=rr) (j:=2) rfl (vB _ _ (Ec h1) h1) rfl ⟨pq,l,_,_,rfl,vB _ _ (Ec<|Hj _ _ hpq)<|Hj _ _ hpq,vB _ _ (Ec h2) h2,?_⟩⟩));refine Uk (K1:=false) (K2:=true) (xs:=dZ<|nms x ws.length) (ys:=vs) (λi U H'=>(∃o5 o6,U=[some (.ref a),some<|.ref od,some<|.ref wd,some<|.ref rr,some<|.ref dd,o5,o6])/\(∃kv',H' dd=some (.dK kv')/\kv'.length<=(Ys++vs.take i).length/\∀j,j<150->eO kv' (Sum.inr<|iz j)=(Ys++vs.take i)[j]?)/\∀b o,b≠dd->H3 b=some o->H' b=some o) (by rw[iK,jh];exact rN.symm) ⟨⟨none,none,rfl⟩,⟨cI,bA,by simpa using lk,by simpa using vk⟩,vB⟩ ?_ ?_ ?_
      ·rintro i U H' hi ⟨_,_,kp⟩
       exact⟨kp _ _ (Ec<|Hj _ _ hpq)<|Hj _ _ hpq,kp _ _ (Ec h2) h2⟩
      ·rintro i xv yv T U H' hxi hyi hT ⟨⟨o5,o6,rfl⟩,⟨kv',hd',l',f'⟩,kp⟩
       have hil:i<vs.length:=(ahW hyi).1;have exi:xv=.str (iz<|x+i):=by
        unfold dZ nms at hxi;rw[afJ,afJ,afJ,agC (by exact afR hil rN)]at hxi;exact(ahR hxi).symm
       subst exi;have lt':(Ys++vs.take i).length=x+i:=by rw[afu,af9,hx];omega
       have mor:=Pn (v:=yv) l' f' (by omega);rw[lt',afM,show vs.take i++[yv]=vs.take (i+1) from by rw[List.take_succ,hyi];rfl]at mor;have hT':T≠dd:=λz=>by rw[z,hd']at hT;cases hT
       refine⟨T,_,rfl,iM.of bA,rfl,_,_,rfl,_,[],rfl,rfl,?_⟩;have hd2:(upd H' T<|.tup [.str (iz<|x+i),yv]) dd=some (.dK kv'):=by rw[bV (ahO hT')];exact hd'
       refine⟨_,rfl,_,rfl,_,rfl,dd,_,rfl,zj.k (k:=Sum.inr<|iz (x+i)) hd2 (cW<|by omega),⟨_,_,rfl⟩,⟨_,bA,mor.1,mor.2⟩,λb o n e=>?_⟩;rw[bV n,bV (bY (kp b o n e) hT)];exact kp b o n e
      ·rintro U H5 ⟨⟨o5,o6,rfl⟩,⟨kv5,hd5,l5,f5⟩,kp⟩
       rw[iK,jh,<-rN,agu]at l5 f5;have Je:Same H3 H5:=λb o e=>kp b o (Ec e) e;have Vj:Kw wd H H5:=k3.trans (dh Je);have w35:=w3.same Je;have w5:kO H5 (λb=>Al N H H3 b\/b=dd) wd ls c1 d most S:=w35.wide (λb hb=>.inl hb) (λz=>z.elim w3.nw λe=>w3.there<|by rw[e];exact hdd) (λz=>z.elim w3.nl λe=>w3.TF<|by rw[e];exact hdd) (λb hb=>by
        rcases hb with z|z
        ·exact w35.ex b z
        ·subst z;rw[hd5];simp)
       have kd5:∀b o,Al N H H3 b->H3 b=some o->(Al N H H3 b\/b=dd)/\H5 b=some o:=λb o n e=>⟨.inl n,Je b o e⟩;have W8:yV H3 H5:=λb ys h=>Je b _ h;have en5:lY H5 (λb=>Al N H H3 b\/b=dd) dd (env++ws):=⟨kv5,Ys++vs,hd5, .inr rfl,l5,f5,(TQ.mono W8 kd5).app<|h4.mono W8 kd5⟩;have abM:∀b,(Al N H H3 b\/b=dd)->Al N H H5 b:=λb hb=>by
        rcases hb with z|z
        ·exact z.same Je
        ·subst z
         refine .inr ⟨?_,by rw[hd5];simp⟩;cases hq:H b with
         |none=>rfl
         |some o=>rw[k3 b o (λe=>w3.there<|by rw[<-e];exact hdd) hq]at hdd;cases hdd
       refine hn _ _ ?_;refine(dN (a:=a) (j:=2) rfl (Je _ _ ha3) rfl (dN (a:=rr) (j:=1) rfl (Je _ _ h1) rfl ⟨t,_,(q:Int),_,rfl,rfl,iM.of<|Je _ _ Ou,cg (j:=q) ev',pa,_,1,_,rfl,rfl,iM.of<|Je _ _ (Hj _ _ hpa),cg (j:=1) rfl,_,rfl,_,rfl,yP wl ((tpv.tps Hj).tps W8) en5 w5 Vj abM (by rw[afu];exact gq) (by rw[afu];omega) he ns q1 q2⟩))
     ·rw[ahL cm]at he;cases he
    ·rw[ahL ck]at he;cases he;exact absurd rfl ns
end
section
variable {CT iG iH:aj}{fS fE fB:aj}{gS gE gB:FuncData}
theorem Hr {bm bm':List ak}{jo B lV j4 B' tG:String}(F:gY K "_law_worked" "_law_worked" Dp f fd)(bF:Binds K fd zy [])(mF:mg "_law_worked"=some (.ref f))(mD:mg "dict"=none)(mI:mg "int"=none)(mz:mg "zip"=none)
  (GS:cX P w K mg aV (gw P w) 1 fS gS ["_law_word","_law_left","_law_right"] (Mh CT)) (mS:mg "_law_summed"=some (.ref fS)) (kS:keepIn K (.ref fS)=true) (bS:Binds K gS ["_law_word","_law_left","_law_right"] [])
  (FE:gY K "_law_entered" "_law_entered" Mi fE gE) (mE:mg "_law_entered"=some (.ref fE)) (bE:Binds K gE pEn []) (FBl:gY K "_law_blocked" "_law_blocked" Ux fB gB) (mB:mg "_law_blocked"=some (.ref fB)) (bB:Binds K gB zy [])
  (O:OwnCls "TooLong" iG bm jo mg aV) (FB:ExcBaseFacts B jo lV bm) (O':OwnCls "TooDeep" iH bm' j4 mg aV) (FB':ExcBaseFacts B' j4 tG bm'):
  ∀m:Nat,cX P w K mg aV (gw P w) (2*m+1) f fd zy (vm CT iG iH m)
 |0=>⟨λvs H Q E h=>h.elim,λA aU s H args us vs Q E _ _ _ _ h=>h.elim⟩
 |m+1=>by
  have ih:=Hr F bF mF mD mI mz GS mS kS bS FE mE bE FBl mB bB O FB O' FB' m;exact Xq F bF mF mD mI GS mS kS bS (abK FE mD O FB O' FB' ih mF F.kp bF) mE FE.kp bE (adW FBl mD mz ih mF F.kp bF) mB FBl.kp bB ih
end
end Fw
namespace L2
inductive Hs (x:V)(y:V)(H:Hp)(Q:VK):Prop where
 |mk (a b:aj) (xs:List V):(x=.ref a)->(y=.ref b)->(H a=some (.tup xs))->(H b=some (.tup xs))->((∀v∈xs,∃r:aj,v=.ref r))->(Q (.bl false) H)->Hs x y H Q
theorem ab7 {X:Cx}(hu:X.A.units<cLine):qW X (compareOp .NotEq) Hs:=by
 intro bH s U H x y v u Q I rx ry h;obtain⟨a,b,xs,rfl,rfl,ha,hb,hr,q⟩:=h;cases rx;cases ry;obtain⟨z1,lK,v1,p1⟩:=I.hok a _ ha;obtain⟨z2,iQ,v2,p2⟩:=I.hok b _ hb;have l1:=v1.length;have l2:=v2.length;have q':=SeqAt.RcNeAt.tuples (A:=X.A) (s:=s) (e:=λ_=>true) (show s.heap.IsTuple a lK.toArray from p1) (show s.heap.IsTuple b iQ.toArray from p2) hu λj h1 h2=>?_
 ·have e1:lK.toArray.size=iQ.toArray.size:=by simp;exact l1.symm.trans l2
  rw[e1]at q';have e2:(List.range<|min iQ.toArray.size iQ.toArray.size).all (λ_=>true)=true:=by simp
  rw[e2,beq_self_eq_true]at q';exact q' X.prog X.w _ _ ⟨.bl false,H,I,rfl,q⟩
 ·have h1':j<lK.length:=by simpa using h1
  have h2':j<iQ.length:=by simpa using h2
  obtain⟨x',hx'⟩:∃x',xs[j]?=some x':=⟨xs[j]'(by exact afR h2' l2.symm),afw _⟩;obtain⟨u1,hu1,ru1⟩:=v1.get hx';obtain⟨u2,hu2,ru2⟩:=v2.get hx';obtain⟨r,rfl⟩:=hr x' (agk hx');cases ru1;cases ru2;have e1:lK.toArray[j]=.ref r:=by
   have:=(ahW hu1).2;simpa using this
  have e2:iQ.toArray[j]=.ref r:=by
   have:=(ahW hu2).2;simpa using this
  rw[e1,e2];exact SeqAt.EqAt.same _
end L2
namespace Fw
open L2
theorem PK:bootBuiltins "min"=some (.builtin "min"):=by decide+kernel
theorem PL:bootBuiltins "max"=some (.builtin "max"):=by decide+kernel
theorem Ht (o:Out):aaz (outV o) (outV o)=true:=by cases o<;>rfl
theorem uZ.tps {H H':Hp}{jr:aP V}{aY:aP Rw}(c:uZ H jr aY)(e:yV H H'):uZ H' jr aY:=⟨c.1,λi x h=>by
 obtain⟨a,h1,h2⟩:=c.2 i x h;exact⟨a,h1,h2.tps e⟩⟩
theorem PN {H:Hp}{jr:aP V}{aY:aP Rw}(c:uZ H jr aY):∀v∈jr,∃r:aj,v=.ref r:=λv hv=>by
 obtain⟨i,hi,rfl⟩:=ahj hv;have hi2:i<aY.length:=by rw[<-c.1];exact hi
 obtain⟨r,h1,_⟩:=c.2 i _ (afw hi2);rw[afw hi]at h1;exact⟨r,ahR h1⟩
inductive Hu (K:aN)(vs:List V)(H:Hp)(Q:VK)(E_:XK):Prop where
 |mk (a:aj) (ns:List Int):vs=[.ref a]->dD K H a (ns.map V.int)->ns.length<=63->(∀H',Q (.bl true) H')->Hu K vs H Q E_
section
abbrev vC:aJ:=top 73
noncomputable abbrev adX:List Str:=["_law_script","_law_k","_law_state","_law_many","_law_vals_here","_law_term","_law_code_here","_law_most","_law_told_here","_law_copy"]
theorem nA:cu adX ["_law_script"] (bN vC):={}
@[irreducible] noncomputable def Yt:aJ:=(cY vC).getD 0 (.Pass ⟨0,0,0,0⟩)
def adY:List aJ:=(cY vC).drop 1
theorem adZ:cY vC=Yt::adY:=by
 unfold Yt
 rfl
def ad0 (K:aN):TS:=λD U H=>∃(sc:aj) (ns:List Int) (k:Nat) (o2 o3 o4 o5 o6 o7 o8 o9:Option V),U=[some (.ref sc),some<|.int (k:Int),o2,o3,o4,o5,o6,o7,o8,o9]/\k<=1000/\dD K H sc (ns.map V.int)/\∀(q2 q3 q4 q5 q6 q7 q8 q9:Option V) H',Same H H'->D.nx [some (.ref sc),some<|.int (k:Int),q2,q3,q4,q5,q6,q7,q8,q9] H'
def tL0 (K:aN):TS:=λD U H=>∃(sc:aj) (ns:List Int),U=[some (.ref sc),none,none,none,none,none,none,none,none,none]/\dD K H sc (ns.map V.int)/\ns.length<=63/\∀U' H',D.nx U' H'
set_option maxHeartbeats 4000000 in
theorem Yu {dJ:ak}{A:aq}{aU:aP Env}{s:ao}{H0:Hp}{E:XK}(hr:gK 224 (A.deeper<|envOfC "law" (bN vC) s.heap.objs.size f dJ))(mr:mg "range"=none)(ml:mg "len"=none)(mm:mg "min"=none)(mM:mg "max"=none)(mt:mg "tuple"=none)(mL:mg "list"=none)
  (h1:Has P w K mg aV 2 "_law_drawn" ["_law_script","_law_k","_law_salt"] (wF K)) (h2:Has P w K mg aV 19 "_law_vals" ["_law_state","_law_depth"] JT) (h3:Has P w K mg aV 1 "_law_next" ["_law_state","_law_many"] j7)
  (h4:Has P w K mg aV 23 "_law_code" ["_law_vals_here","_law_term","_law_about"] Dl) (h5:Has P w K mg aV 224 "_law_due" ["_law_vals_here","_law_term","_law_most"] Ml) (h6:Has P w K mg aV 6 "_law_told" ["_law_code_here","_law_most"] wG):
  Ir (dX jG P w K mg aV adX "law" (bN vC) f dJ A aU s H0 E).HB Yt (tL0 K):=by
 unfold Yt;have hu:=hr.QT;refine uM (ac1 PassesOwn.never rfl (jK rfl mr (bx (cJ (Nf rfl) rfl mm PK (bx (cJ (Nb rfl) rfl mM PL (bx bJ<|bx (cJ (kI K) rfl ml ahS (bx (pv 0) bG)) bG))<|bx bJ bG)) bG)) (dF (i:=1) nA.nd rfl (Or.inl rfl))
   (Wa (t':=ad0 K)
   (qe ⟨oO (i:=2) nA.nd rfl (Or.inl rfl) (cP h1 hr (by decide) rfl (bx (pv 0)<|bx (pv 1) (bx bJ bG)))⟩
   (qe ⟨oO (i:=3) nA.nd rfl (Or.inl rfl) (cU gJ bJ (cP h3 hr (by decide) rfl (bx (pv 2)<|bx bJ bG)))⟩
   (qe ⟨cD (wW af' ahy ahz Nt (pv 2) (bx (dO (bx (pv 3) (bx (cU gJ bJ (cP h3 hr (by decide) rfl (bx (pv 2)<|bx bJ bG))) bG))) bG))⟩
   (qe ⟨pR (cP h2 hr (by decide) rfl (bx (pv 2)<|bx bJ bG))<|Zt K (n:=2) rfl (fK (dF (i:=4) nA.nd rfl (Or.inl rfl))<|fK (dF (i:=5) nA.nd rfl (Or.inl rfl)) mq)⟩
   (qe ⟨oO (i:=6) nA.nd rfl (Or.inl rfl) (cP h4 hr (by decide) rfl (bx (pv 4) (bx (pv 5) (bx (cP h3 hr (by decide) rfl (bx (pv 2)<|bx bJ bG)) bG))))⟩
   (qe ⟨oO (i:=7) nA.nd rfl (Or.inl rfl) bJ⟩
   (qe ⟨oO (i:=8) nA.nd rfl (Or.inl rfl) (cP h5 hr (by decide) rfl (bx (pv 4)<|bx (pv 5) (bx (pv 7) bG)))⟩
   (qe ⟨oO (i:=9) nA.nd rfl (Or.inl rfl) (cZ (BW K) rfl mt boot_tuple (bx (cZ (RG K) rfl mL boot_list (bx (pv 6) bG)) bG))⟩
   (ac0 ⟨dB (PW.pt (Ka (cA Kl (cP h6 hr (by decide) rfl (bx (pv 6)<|bx (pv 7) bG))<|pv 8)
     (Ka (cA (ab7 hu) (pv 6)<|pv 9) (Hz (PW.pt (uw (cA eV (cU rA (pv 1) bJ) bJ) (vQ (cA Kl (cP h6 hr (by decide) rfl (bx (pv 6)<|bx (pv 7) bG))<|pv 8))))))))
    (bQ<|cO J4) cR⟩))))))))) ?qr)) ?_
 case qr=>
  rintro D U H ⟨sc,ns,k,o2,o3,o4,o5,o6,o7,o8,o9,rfl,hk,hs,nxt⟩;refine⟨_,rfl,_,rfl,sc,ns,k,3,rfl,hs,hk,by decide,λst H1 jY ok1 s1=>?_⟩;refine⟨_,rfl,_,st,6,rfl,ok1,by decide,by decide,λd1 H2 a0 a1 g2=>⟨_,_,rfl,rfl,?_⟩⟩;obtain⟨M,eM⟩:∃M:Nat,(1:Int)+d1=(M:Int):=⟨(1+d1).toNat,by omega⟩
  try dsimp only
  rw[eM];obtain⟨x2,y2,afe⟩:=id g2.ok;refine⟨_,rfl, .inl ⟨rfl,_,dD.of afe⟩,_,rfl,_,rfl,_,st,5,rfl,g2.ok,by decide,by decide,λd2 H3 b0 b1 g3=>⟨_,_,rfl,rfl,(fH 2),λl4 ZF=>?_⟩⟩;obtain⟨R,eR⟩:∃R:Nat,(1:Int)+d2=(R:Int):=⟨(1+d2).toNat,by omega⟩
  try dsimp only
  rw[eR];have s4:=bK ZF (.lst [.int (M:Int), .int (R:Int)]);have b4:(upd H3 l4<|.lst [.int (M:Int), .int (R:Int)]) l4=some (.lst [.int (M:Int), .int (R:Int)]):=bA;revert s4 b4;generalize upd H3 l4 (.lst [.int (M:Int), .int (R:Int)])=H4;intro s4 b4;have g4:=g2.trans (g3.trans<|cQ g3.ok s4);obtain⟨x4,y4,afg⟩:=id g4.ok;refine⟨st,l4,_,_,rfl,rfl,afg,b4,small (by show 2+2<=1000000;decide),?_⟩;have k5:∀b o,b≠st->H1 b=some o->(upd H4 st<|.lst ([.int x4, .int y4]++[.int (M:Int), .int (R:Int)])) b=some o:=λb o nb h=>by rw[bV nb];exact g4.1 b o nb h
  have ok5:nj (zA M R) (upd H4 st<|.lst ([.int x4, .int y4]++[.int (M:Int), .int (R:Int)])) st:=⟨x4,y4,bA⟩;revert k5 ok5;generalize upd H4 st (.lst ([.int x4, .int y4]++[.int (M:Int), .int (R:Int)]))=H5;intro k5 ok5;refine⟨_,rfl,M,R,st,rfl,ok5,⟨by omega,by omega,by omega,by omega⟩,λpp lv v tY us t H2' hpp Mg nlv au wtp l9 hsz tl g2'=>?_⟩;refine⟨pp,_,rfl,iM.of hpp,rfl, .ref lv,[v],rfl,v,[],rfl,rfl,?_⟩;refine⟨_,rfl,_,rfl,_,rfl,_,st,2,rfl,g2'.ok,by decide,by decide,λd4 H3' c0 c1 g3'=>?_⟩;have g13:=g2'.trans g3';have s3:Same H H3':=λb o h=>g13.1 b o (bY h jY) (k5 b o (bY h jY)<|s1 b o h);have ad1:=g3'.1 _ _ nlv Mg;have Hj:=dj g2'.ok g3';have au3:=au.mono λv t=>iW.tps Hj;have tl3:=tl.tps Hj;obtain⟨ou,ot⟩:=wtp.own;obtain⟨ab,eab⟩:∃ab,d4=Ea ab:=by
   have:d4=0\/d4=1:=by omega
   rcases this with z|z
   ·exact⟨false,z⟩
   ·exact⟨true,z⟩
  subst eab;obtain⟨aW,hcode,hat⟩:=WX ab ou ot hsz;refine⟨lv,v,ab,tY,us,t,aW,rfl,ad1,au3,ou,tl3,ot,hcode,λc jr H4' s4' hc0 hc6 cd6=>?_⟩;have s06:Same H H4':=s3.trans s4';have ab4:=s4' _ _ ad1;have au6:=au3.mono λv t=>iW.same s4';have tl6:=tl3.same s4';obtain⟨r,c',n,he,hv,yU,run⟩:=whole_run (most:=300) wtp (by exact afy l9<|by decide) hat;refine⟨_,rfl,_,rfl,_,rfl,lv,v,300,tY,us,t,r,c',rfl,ab4,au6,ou,by exact afy l9 (by decide),tl6,ot,he,yU,hv,λH7 s7=>?_⟩;have hc7:=s7 _ _ hc6;have nso:yp r≠.stuck:=by cases r with|stuck=>exact absurd rfl yU|val v=>(obtain⟨i,rfl⟩:=hv v rfl;intro z;cases z)|_=>(intro z;cases z)
  refine⟨_,rfl,c,jr,rfl, .inr<|iM.of hc7,λl8 O6=>?_⟩;have s8:=bK O6 (.lst jr);refine⟨l8,jr,rfl, .inl ⟨dD.of bA,λc9 hc9=>?_⟩⟩;have s9:=bK hc9 (.tup jr);have s79:=s8.trans s9;have ab8:(upd (upd H7 l8<|.lst jr) c9<|.tup jr) c9=some (.tup jr):=bA;revert s79 ab8;generalize upd (upd H7 l8<|.lst jr) c9 (.tup jr)=H9;intro s79 ab8;have zB:=s7.trans s79;have hcc:=zB _ _ hc6;have cd9:=cd6.tps (Same.tups zB);have s09:=s06.trans zB;refine⟨_,rfl,_,rfl,c,_,300,jr,aW,yp r,n,rfl,rfl,hcc,cd9,run,nso,λJr tZ=>?_⟩;refine⟨_,rfl,Ht _,_,rfl,?_⟩;rw[ahN (p:=outV (yp r)=outV (yp r)) rfl];refine vJ ?_;refine⟨_,rfl,_,rfl,c,c9,jr,rfl,rfl,tZ _ _ hcc,tZ _ _ ab8,PN cd9,_,rfl,vJ ?_⟩;refine⟨_,rfl,(k:Int),4,rfl,rfl,(by show(0:Int)<4;decide),rfl,_,rfl,gO (λc1=>?_) λc1=>?_⟩
  ·refine⟨_,rfl,_,rfl,c,_,300,jr,aW,yp r,n,rfl,rfl,tZ _ _ hcc,cd9.tps<|Same.tups tZ,run,nso,λH11 ZQ=>?_⟩
   refine⟨_,rfl,Ht _,_,rfl,?_⟩;rw[ahN (p:=outV (yp r)=outV (yp r)) rfl];exact vJ<|(nxt _ _ _ _ _ _ _ _ H11<|s09.trans (tZ.trans ZQ))
  ·exact vJ<|nxt _ _ _ _ _ _ _ _ Jr (s09.trans tZ)
 rintro D U H ⟨sc,ns,rfl,hs,h63,q⟩;have hn:∃n:Nat,n<=63/\(if(63:Int)<(if((ns.map V.int).length:Int)>1 then((ns.map V.int).length:Int) else 1) then(63:Int) else(if((ns.map V.int).length:Int)>1 then((ns.map V.int).length:Int) else 1))=(n:Int):=by
  rw[afL];refine⟨_,?_,(Int.toNat_of_nonneg ?_).symm⟩<;>(split<;>split)<;>omega
 obtain⟨n,hn,e⟩:=hn;refine⟨_,rfl,sc,_,rfl, .inl hs,_,_,rfl,_,_,rfl,_,rfl,by rw[e];omega,by rw[e];omega,?_⟩;rw[e,af5];refine qF (n:=n) (λi U H'=>∃(o1 o2 o3 o4 o5 o6 o7 o8 o9:aO V),U=[some (.ref sc),o1,o2,o3,o4,o5,o6,o7,o8,o9]/\Same H H') ⟨none,none,none,none,none,none,none,none,none,rfl,Same.refl _⟩ ?_ ?_
 ·rintro i U H' hi ⟨o1,o2,o3,o4,o5,o6,o7,o8,o9,rfl,s1⟩
  refine⟨sc,ns,i,o2,o3,o4,o5,o6,o7,o8,o9,?_,by omega,s1.seq hs,λq2 q3 q4 q5 q6 q7 q8 q9 H2 s2=>⟨_,_,_,_,_,_,_,_,_,rfl,s1.trans s2⟩⟩;rw[Int.zero_add]
  rfl
 ·rintro U H' ⟨o1,o2,o3,o4,o5,o6,o7,o8,o9,rfl,s1⟩
  exact q _ _
theorem ab9 (F:gY K "law" "law" vC f fd)(mr:mg "range"=none)(ml:mg "len"=none)(mm:mg "min"=none)(mM:mg "max"=none)(mt:mg "tuple"=none)(mL:mg "list"=none)
  (h1:Has P w K mg aV 2 "_law_drawn" ["_law_script","_law_k","_law_salt"] (wF K)) (h2:Has P w K mg aV 19 "_law_vals" ["_law_state","_law_depth"] JT) (h3:Has P w K mg aV 1 "_law_next" ["_law_state","_law_many"] j7)
  (h4:Has P w K mg aV 23 "_law_code" ["_law_vals_here","_law_term","_law_about"] Dl) (h5:Has P w K mg aV 224 "_law_due" ["_law_vals_here","_law_term","_law_most"] Ml) (h6:Has P w K mg aV 6 "_law_told" ["_law_code_here","_law_most"] wG):cX P w K mg aV jG 225 f fd ["_law_script"] (Hu K):=by
 refine F.ok nA λdJ A aU s H vs Q E hr h=>?_;obtain⟨sc,ns,rfl,hs,h63,q⟩:=h;rw[adZ];refine⟨_,bI (Yu hr mr ml mm mM mt mL h1 h2 h3 h4 h5 h6).h<|bQ (cO J4),?_⟩;exact⟨sc,ns,rfl,hs,h63,λU' H'=>q _⟩
end
def dz (K:aN)(x:Str)(st:aJ):Prop:=∃f fd,nsIn K mainGlobals x=some (some<|.ref f)/\gY K x x st f fd
theorem acd {K:aN}{x:Str}{st:aJ}{f:aj}{oc:ak}{od an:aO aj}{osl:Array (aO ak)}{kV nF pm dJ ct:ak}(a:nsIn K mainGlobals x=some (some<|.ref f))
  (l:K.lookup f=some ⟨oc,od, .func<|fnOf x x (jE st) (cY st) (bN st) .none kV nF pm an dJ ct,osl⟩) (c:codeIn K dJ x=true) (k:keepIn K (.ref f)=true):dz K x st:=⟨f,_,a,Ri l c k⟩
theorem Yv {K:aN}{x:Str}{i j:Int}{t:Tok}(a:nsIn K mainGlobals x=some (some<|.int i t))(e:i=j):∃t,nsIn K mainGlobals x=some (some<|.int j t):=⟨t,by rw[<-e];exact a⟩
theorem PX {K:aN}{x:Str}{st:aJ}{f:aj}{fd:FuncData}{p:Str}(F:gY K x x st f fd)(h:∀(kV nF pm:ak) (an:aO aj) (dJ ct:ak) (s:ao) (v:ak),BindsTo s (fnOf x x (jE st) (cY st) (bN st) .none kV nF pm an dJ ct) ⟨[v],[]⟩ [(p,v)]):
  ∀(s:ao) (v:ak),BindsTo s fd ⟨[v],[]⟩ [(p,v)]:=by
 obtain⟨oc,od,kV,nF,pm,an,dJ,ct,osl,rfl,lk,yX⟩:=F.ex;exact h kV nF pm an dJ ct
def rW (K:aN)(C:aj)(x q:Str)(st:aJ):Prop:=∃f fd,Meth K C x f/\gY K x q st f fd
theorem Yw {K:aN}{C:aj}{x q:Str}{st:aJ}{f:aj}{oc:ak}{od an:aO aj}{osl:Array (aO ak)}{kV nF pm dJ ct:ak}(a:findIn K (.ref C) x=some (some<|.ref f))(i:PySem.W.isFn K (.ref f)=true)
  (l:K.lookup f=some ⟨oc,od, .func<|fnOf x q (jE st) (cY st) (bN st) .none kV nF pm an dJ ct,osl⟩) (c:codeIn K dJ q=true) (k:keepIn K (.ref f)=true):rW K C x q st:=⟨f,_,⟨a,i,k⟩,Ri l c k⟩
theorem ace {K:aN}{C:aj}(pg:plainGet K C Str.empty=true)(hd:hasDictIn K C=true)(po:PySem.W.plainOver K C=true)(sa:findIn K (.ref C) "__setattr__"=some (some<|.builtin "object.__setattr__")):Cls K C:=⟨pg,hd,po,sa⟩
theorem Yx {K:aN}{C:aj}{x:Str}(n:findIn K (.ref C) x=some none):dW K C x:=n
set_option synthInstance.maxSize 4096 in
set_option synthInstance.maxHeartbeats 0 in
theorem Uz (n:Nat)(h:tL n):n=0\/n=1\/n=2\/n=3\/n=4\/n=5\/n=6\/n=7\/n=8\/n=9\/n=10\/n=11\/n=12\/n=14\/n=15\/n=16\/n=17\/n=18:=by
 have k:∀n,n<19->(n<=12\/(14<=n/\n<=18))->(n=0\/n=1\/n=2\/n=3\/n=4\/n=5\/n=6\/n=7\/n=8\/n=9\/n=10\/n=11\/n=12\/n=14\/n=15\/n=16\/n=17\/n=18):=by decide
 exact k n (h.elim (λz=>agE z<|by decide) λz=>agE z.2<|by decide) h
structure ad2 (K:aN)(w:aG)(dr y0 y1 y2 y3:aj):Prop where
 nm:nsIn K mainGlobals "RECKONINGS"=some (some<|.ref dr)
 n0:nsIn K mainGlobals "sum_of"=some (some<|.ref y0)
 n1:nsIn K mainGlobals "difference_of"=some (some<|.ref y1)
 n2:nsIn K mainGlobals "product_of"=some (some<|.ref y2)
 n3:nsIn K mainGlobals "is_less"=some (some<|.ref y3)
 dict:qI K w dr [("plus", .ref y0),("minus", .ref y1),("times", .ref y2),("less", .ref y3)]
theorem Yy {K:aN}{w:aG}{dr y0 y1 y2 y3:aj}{oc:ak}{od:aO aj}{es:Array DictEntry}{n:Nat}{sl:Array (aO ak)}(nm:nsIn K mainGlobals "RECKONINGS"=some (some<|.ref dr))
  (n0:nsIn K mainGlobals "sum_of"=some (some<|.ref y0))
  (n1:nsIn K mainGlobals "difference_of"=some (some<|.ref y1))
  (n2:nsIn K mainGlobals "product_of"=some (some<|.ref y2))
  (n3:nsIn K mainGlobals "is_less"=some (some<|.ref y3))
  (l:K.lookup dr=some ⟨oc,od, .dict es n,sl⟩) (hs:(dr==sysModules)=false) (hx:Obj.ExactDict ⟨oc,od, .dict es n,sl⟩) (hp:Paired (sW w) [("plus", .ref y0),("minus", .ref y1),("times", .ref y2),("less", .ref y3)] es.toList):
  ∃dr y0 y1 y2 y3,ad2 K w dr y0 y1 y2 y3:=⟨dr,y0,y1,y2,y3,nm,n0,n1,n2,n3,hs,_,es,n,l,hx,rfl,hp⟩
structure ad3 (K:aN)(w:aG)(dr x0 x1 x2 x3 x4 x5 x6 x10 x11 x12 Qo Qp Qq Qs x17 x18:aj):Prop where
 nm:nsIn K mainGlobals "ROWS"=some (some<|.ref dr)
 n0:nsIn K mainGlobals "do_number"=some (some<|.ref x0)
 n1:nsIn K mainGlobals "do_local"=some (some<|.ref x1)
 n2:nsIn K mainGlobals "do_global"=some (some<|.ref x2)
 n3:nsIn K mainGlobals "do_keep"=some (some<|.ref x3)
 n4:nsIn K mainGlobals "do_drop"=some (some<|.ref x4)
 n5:nsIn K mainGlobals "do_store"=some (some<|.ref x5)
 n6:nsIn K mainGlobals "do_reckon"=some (some<|.ref x6)
 n7:nsIn K mainGlobals "do_unless"=some (some<|.ref x10)
 n8:nsIn K mainGlobals "do_jump"=some (some<|.ref x11)
 n9:nsIn K mainGlobals "do_close"=some (some<|.ref x12)
 n10:nsIn K mainGlobals "do_call"=some (some<|.ref Qp)
 n11:nsIn K mainGlobals "do_back"=some (some<|.ref Qq)
 n12:nsIn K mainGlobals "do_block"=some (some<|.ref Qs)
 n13:nsIn K mainGlobals "do_field"=some (some<|.ref x17)
 n14:nsIn K mainGlobals "do_case"=some (some<|.ref x18)
 dict:qI K w dr [("number", .ref x0),("local", .ref x1),("global", .ref x2),("keep", .ref x3),("drop", .ref x4),("store", .ref x5),("plus", .ref x6),("minus", .ref x6),("times", .ref x6),("less", .ref x6),("unless", .ref x10),("jump", .ref x11),("close", .ref x12),("ring", .ref Qo),("call", .ref Qp),("back", .ref Qq),("block", .ref Qs),("field", .ref x17),("case", .ref x18)]
theorem Yz {K:aN}{w:aG}{dr x0 x1 x2 x3 x4 x5 x6 x10 x11 x12 Qo Qp Qq Qs x17 x18:aj}{oc:ak}{od:aO aj}{es:Array DictEntry}{n:Nat}{sl:Array (aO ak)}(nm:nsIn K mainGlobals "ROWS"=some (some<|.ref dr))
  (n0:nsIn K mainGlobals "do_number"=some (some<|.ref x0))
  (n1:nsIn K mainGlobals "do_local"=some (some<|.ref x1))
  (n2:nsIn K mainGlobals "do_global"=some (some<|.ref x2))
  (n3:nsIn K mainGlobals "do_keep"=some (some<|.ref x3))
  (n4:nsIn K mainGlobals "do_drop"=some (some<|.ref x4))
  (n5:nsIn K mainGlobals "do_store"=some (some<|.ref x5))
  (n6:nsIn K mainGlobals "do_reckon"=some (some<|.ref x6))
  (n7:nsIn K mainGlobals "do_unless"=some (some<|.ref x10))
  (n8:nsIn K mainGlobals "do_jump"=some (some<|.ref x11))
  (n9:nsIn K mainGlobals "do_close"=some (some<|.ref x12))
  (n10:nsIn K mainGlobals "do_call"=some (some<|.ref Qp))
  (n11:nsIn K mainGlobals "do_back"=some (some<|.ref Qq))
  (n12:nsIn K mainGlobals "do_block"=some (some<|.ref Qs))
  (n13:nsIn K mainGlobals "do_field"=some (some<|.ref x17))
  (n14:nsIn K mainGlobals "do_case"=some (some<|.ref x18))
  (l:K.lookup dr=some ⟨oc,od, .dict es n,sl⟩) (hs:(dr==sysModules)=false) (hx:Obj.ExactDict ⟨oc,od, .dict es n,sl⟩) (hp:Paired (sW w) [("number", .ref x0),("local", .ref x1),("global", .ref x2),("keep", .ref x3),("drop", .ref x4),("store", .ref x5),("plus", .ref x6),("minus", .ref x6),("times", .ref x6),("less", .ref x6),("unless", .ref x10),("jump", .ref x11),("close", .ref x12),("ring", .ref Qo),("call", .ref Qp),("back", .ref Qq),("block", .ref Qs),("field", .ref x17),("case", .ref x18)] es.toList):
  ∃dr x0 x1 x2 x3 x4 x5 x6 x10 x11 x12 Qo Qp Qq Qs x17 x18,ad3 K w dr x0 x1 x2 x3 x4 x5 x6 x10 x11 x12 Qo Qp Qq Qs x17 x18:=⟨dr,x0,x1,x2,x3,x4,x5,x6,x10,x11,x12,Qo,Qp,Qq,Qs,x17,x18,nm,n0,n1,n2,n3,n4,n5,n6,n7,n8,n9,n10,n11,n12,n13,n14,hs,_,es,n,l,hx,rfl,hp⟩
abbrev bmV:List ak:=[.type "ValueError", .type "Exception", .type "BaseException", .type "object"]
def Mw (K:aN)(x:Str)(CT CX:aj):Prop:=∀(aV:aK) (mg:Str->Option ak),K.In aV->mg x=some (.ref CT)->OwnCls x CT bmV "ValueError.__new__" mg aV/\mH aV CT CX
theorem UG {K:aN}{x:Str}{CT CX N N':aj}{nm q nm' q':Str}{bs bm bs' bm':aP ak}{hd hd':Bool}{sn sn':aP Str}{sub sub':aP ak}{ab ab':Bool}{col col':aO Bool}{dd Fj:aO aj}{k0 k1 k2 k3 k5 j0 j1 j2 j3 j5:aO ak}{nid:String}
  (l1:K.lookup CT=some ⟨.type "type",dd, .cls ⟨nm,bs, .ref CT::bm,N,q,hd,sn,sub,ab,col,false⟩,#[k0,k1,k2,k3,some<|.builtin "ValueError.__new__",k5]⟩) (n1:PySem.W.nsOkIn K N=true) (n2:nsIn K N "__init__"=some none) (t1:PySem.W.tailIn K bmV bm=true)
  (l2:K.lookup CX=some ⟨.type "type",Fj, .cls ⟨nm',bs', .ref CX::bm',N',q',hd',sn',sub',ab',col',false⟩,#[j0,j1,j2,j3,some<|.builtin nid,j5]⟩) (b1:bm'.contains (.type "BaseException")=true) (b2:(Value.ref CT::bm).contains (.ref CX)=true):Mw K x CT CX:=λaV mg X m=>
 ⟨⟨m,bm,N,nm,q,bs,hd,sn,sub,ab,col,dd,k0,k1,k2,k3,k5,_,X _ _ l1, .of_isNs<|PySem.W.isNs_of_in X n1,PySem.W.nsMap_none_of_in X n1 n2,PySem.W.tail_of_in X t1⟩,
  nm,q,nm',q',N,N',bs,bm,bs',bm',hd,hd',sn,sn',sub,sub',ab,ab',col,col',dd,Fj,k0,k1,k2,k3,k5,j0,j1,j2,j3,j5,_,nid,X _ _ l1,X _ _ l2,b1,b2⟩
theorem acf {K:aN}{C:aj}{c0:ak}{d0:aO aj}{cd:ClassData}{sl:Array (aO ak)}(g0:findIn K (.ref C) "__getattribute__"=some (some<|.builtin "BaseException.__getattribute__"))(g1:findIn K (.ref C) "__getattr__"=some none)(gb:mroIn K C (.type "BaseException")=some true)(g2:findIn K (.ref C) "__class__"=some (some<|.builtin "object.__class__"))(g3:specialIn K (.builtin "object.__class__") "__get__"=some (some<|.builtin "getset_descriptor.__get__"))
  (g4:takesIn K (.builtin "object.__class__")=some true) (g5:mroIn K C (.type "object")=some true) (lk:K.lookup C=some ⟨c0,d0, .cls cd,sl⟩):oZ K C:=⟨g0,g1,gb,g2,g3,g4,g5,_,_,_,_,lk⟩
theorem acg {K:aN}{C:aj}(i1:findIn K (.ref C) "__class__"=some (some<|.builtin "object.__class__"))(i2:specialIn K (.builtin "object.__class__") "__get__"=some (some<|.builtin "getset_descriptor.__get__"))(i3:takesIn K (.builtin "object.__class__")=some true)(i4:mroIn K C (.type "object")=some true)(i5:kitOne K (.ref C) (.ref C)=some true):IsC K C:=⟨i1,i2,i3,i4,i5⟩
def UJ (K:aN)(x:Str)(st:aJ):Prop:=∃f fd T tk,nsIn K mainGlobals x=some (some<|.ref f)/\Ow K x x st f fd T #[.int 300 tk]
theorem YB {K:aN}{x:Str}{st:aJ}{f T:aj}{oc oc':ak}{od an od':aO aj}{osl ad4:Array (aO ak)}{kV nF pm dJ ct:ak}{tk:Tok}{n:Nat}(a:nsIn K mainGlobals x=some (some<|.ref f))
  (l:K.lookup f=some ⟨oc,od, .func<|fnOf x x (jE st) (cY st) (bN st) (.ref T) kV nF pm an dJ ct,osl⟩) (c:codeIn K dJ x=true) (k:keepIn K (.ref f)=true) (t:K.lookup T=some ⟨oc',od', .seq #[.int 300 tk] n,ad4⟩):UJ K x st:=⟨f,_,T,tk,a,⟨⟨oc,od,kV,nF,pm,an,dJ,ct,osl,rfl,l,c⟩,k,⟨oc',od',n,ad4,t⟩⟩⟩
theorem YC {K:aN}{x:Str}{a b:aj}(h:nsIn K mainGlobals x=some (some<|.ref a))(q:nsIn K mainGlobals x=some (some<|.ref b)):a=b:=by
 rw[h]at q;injection q with z;injection z with z;injection z
theorem us0 {C:aP ak->Prop}(us:aP ak)(h:us.length=0)(k:C []):C us:=ahf h ▸ k
theorem uss {n:Nat}{C:List ak->Prop}(us:List ak)(h:us.length=n+1)(k:∀a r,r.length=n->C (a::r)):C us:=by
 cases us with
 |nil=>exact absurd h.symm<|Nat.succ_ne_zero n
 |cons a r=>exact k a r<|Nat.succ.inj h
@[elab_as_elim] theorem us1 {C:List ak->Prop} (us:List ak) (h:us.length=1) (k:∀a0,C [a0]):C us:=uss us h λa r h=>us0 (C:=λr=>C (a::r)) r h (k a)
@[elab_as_elim] theorem us2 {C:List ak->Prop} (us:List ak) (h:us.length=2) (k:∀a0 a1,C [a0,a1]):C us:=uss us h λa r h=>us1 (C:=λr=>C (a::r)) r h (k a)
@[elab_as_elim] theorem us3 {C:List ak->Prop} (us:List ak) (h:us.length=3) (k:∀a0 a1 a2,C [a0,a1,a2]):C us:=uss us h λa r h=>us2 (C:=λr=>C (a::r)) r h (k a)
@[elab_as_elim] theorem us4 {C:List ak->Prop} (us:List ak) (h:us.length=4) (k:∀a0 a1 a2 a3,C [a0,a1,a2,a3]):C us:=uss us h λa r h=>us3 (C:=λr=>C (a::r)) r h (k a)
@[elab_as_elim] theorem us5 {C:List ak->Prop} (us:List ak) (h:us.length=5) (k:∀a0 a1 a2 a3 a4,C [a0,a1,a2,a3,a4]):C us:=uss us h λa r h=>us4 (C:=λr=>C (a::r)) r h (k a)
def YD:Nat->(List ak->Prop)->Prop
 |0,C=>C []
 |n+1,C=>∀a,YD n λr=>C (a::r)
theorem afh {n:Nat}{C:List ak->Prop}{us:List ak}(h:YD n C)(l:us.length=n):C us:=by
 induction n generalizing C us with
 |zero=>exact us0 us l h
 |succ n ih=>exact uss us l λa r q=>ih (C:=λr=>C (a::r)) (h a) q
theorem lZ {K:aN}{x q:Str}{st:aJ}{f:aj}{fd:FuncData}{ps:aP Str}(F:gY K x q st f fd)
  (h:∀(kV nF pm:ak) (an:aO aj) (dJ ct:ak),YD ps.length λus=>bindArgs (fnOf x q (jE st) (cY st) (bN st) .none kV nF pm an dJ ct) ⟨us,[]⟩=pure (ps.zip us):=by(repeat intro _);exact rfl):Binds K fd ps []:=F.binds λ_ _ _ _ _ _ _=>afh (h _ _ _ _ _ _)
theorem dz.has {P:aA}{w:aG}{K:aN}{h:aK}{mg:Str->aO ak}{aV:aK}(X:K.In h)(G:h.Ns mainGlobals mg){x:Str}{st:aJ}{k:Nat}{ps:aP Str}{sp:Sp}(d:dz K x st)(o:∀{f:aj} {fd:FuncData},gY K x x st f fd->cX P w K mg aV jG k f fd ps sp)
  (b:∀(kV nF pm:ak) (an:aO aj) (dJ ct:ak),YD ps.length λus=>bindArgs (fnOf x x (jE st) (cY st) (bN st) .none kV nF pm an dJ ct) ⟨us,[]⟩=pure (ps.zip us):=by(repeat intro _);exact rfl):Has P w K mg aV k x ps sp:=by
 obtain⟨f,fd,a,F⟩:=d;exact⟨f,fd,o F,lZ F b,F.kp,PySem.W.mg_of X G a⟩
theorem dz.at_ {K:aN}{x:Str}{st:aJ}{y:aj}(d:dz K x st)(n:nsIn K mainGlobals x=some (some<|.ref y)):∃g,gY K x x st y g:=by
 obtain⟨f,fd,a,F⟩:=d;obtain rfl:=YC a n;exact⟨fd,F⟩
def ad5 (l:PySem.W.OpenLaw)(w:aG)(K:aN)(mg:Str->Option ak)(fa:aj):Prop:=∃fd:FuncData,(∀(s:ao) (v:ak),BindsTo s fd ⟨[v],[]⟩ [("_law_script",v)])/\∀aV:aK,K.In aV->aV.Ns mainGlobals mg->cX l.prog w K mg aV jG 225 fa fd ["_law_script"] (Hu K)
set_option maxHeartbeats 2000000 in
theorem all_mk {l:PySem.W.OpenLaw}{w:aG}{K:aN}{h:aK}{mg:Str->aO ak}{fa M F C B CT CX CS CL CD A1 A2 A3 A4:aj}(X:K.In h)(G:h.Ns mainGlobals mg)(hfa:mg "law"=some (.ref fa))
  (UL:nsIn K mainGlobals "len"=some none)
  (pH:nsIn K mainGlobals "isinstance"=some none)
  (DK:nsIn K mainGlobals "tuple"=some none)
  (JX:nsIn K mainGlobals "list"=some none)
  (rY:nsIn K mainGlobals "reversed"=some none)
  (DN:nsIn K mainGlobals "range"=some none)
  (UW:nsIn K mainGlobals "int"=some none)
  (JZ:nsIn K mainGlobals "bool"=some none)
  (U0:nsIn K mainGlobals "abs"=some none)
  (U4:nsIn K mainGlobals "min"=some none)
  (U5:nsIn K mainGlobals "max"=some none)
  (pJ:nsIn K mainGlobals "ValueError"=some none)
  (U9:nsIn K mainGlobals "str"=some none)
  (J2:nsIn K mainGlobals "dict"=some none)
  (qy:nsIn K mainGlobals "enumerate"=some none)
  (Va:nsIn K mainGlobals "zip"=some none)
  (aM:nsIn K mainGlobals "Machine"=some (some<|.ref M)) (cM:Cls K M) (mkM:makesIn K M=true) (kcM:keepIn K (.ref M)=true) (nM0:dW K M "calls") (nM1:dW K M "pile") (nM2:dW K M "frame") (nM3:dW K M "outer_frames") (nM4:dW K M "stored") (nM5:dW K M "ahead")
  (mM0:rW K M "__init__" "Machine.__init__" Jb)
  (aF:nsIn K mainGlobals "Frame"=some (some<|.ref F)) (cF:Cls K F) (mkF:makesIn K F=true) (kcF:keepIn K (.ref F)=true) (nF0:dW K F "own") (nF1:dW K F "behind")
  (mF0:rW K F "__init__" "Frame.__init__" Cw)
  (aC:nsIn K mainGlobals "Calls"=some (some<|.ref C)) (cC:Cls K C) (mkC:makesIn K C=true) (kcC:keepIn K (.ref C)=true) (nC0:dW K C "most") (nC1:dW K C "begun") (nC2:dW K C "under_way")
  (mC0:rW K C "__init__" "Calls.__init__" Cq)
  (mC1:rW K C "begin" "Calls.begin" Cr)
  (mC2:rW K C "come_back" "Calls.come_back" Cu)
  (aB:nsIn K mainGlobals "Closed"=some (some<|.ref B)) (cB:Cls K B) (mkB:makesIn K B=true) (kcB:keepIn K (.ref B)=true) (nB0:dW K B "to") (nB1:dW K B "kept")
  (mB0:rW K B "__init__" "Closed.__init__" xQ)
  (aS:nsIn K mainGlobals "Stuck"=some (some<|.ref CS))
  (aT:nsIn K mainGlobals "TooGreat"=some (some<|.ref CT))
  (aL:nsIn K mainGlobals "TooLong"=some (some<|.ref CL))
  (aD:nsIn K mainGlobals "TooDeep"=some (some<|.ref CD))
  (a1:nsIn K mainGlobals "NoText"=some (some<|.ref A1))
  (a2:nsIn K mainGlobals "NoKind"=some (some<|.ref A2))
  (a3:nsIn K mainGlobals "NoFace"=some (some<|.ref A3))
  (a4:nsIn K mainGlobals "NoTie"=some (some<|.ref A4))
  (aX:nsIn K mainGlobals "FaceError"=some (some<|.ref CX))
  (kST:kitOne K (.ref CT) (.ref CS)=some false)
  (kTT:kitOne K (.ref CT) (.ref CT)=some true)
  (kLT:kitOne K (.ref CT) (.ref CL)=some false)
  (kDT:kitOne K (.ref CT) (.ref CD)=some false)
  (kVT:kitOne K (.ref CT) (.type "ValueError")=some true)
  (kNT:kitAny K (.ref CT) ([A1,A2,A3,A4].map Value.ref)=some false)
  (xcT:oZ K CT)
  (xiT:Mw K "TooGreat" CT CX)
  (kSL:kitOne K (.ref CL) (.ref CS)=some false)
  (kTL:kitOne K (.ref CL) (.ref CT)=some false)
  (kLL:kitOne K (.ref CL) (.ref CL)=some true)
  (kDL:kitOne K (.ref CL) (.ref CD)=some false)
  (kVL:kitOne K (.ref CL) (.type "ValueError")=some true)
  (kNL:kitAny K (.ref CL) ([A1,A2,A3,A4].map Value.ref)=some false)
  (xcL:oZ K CL)
  (xiL:Mw K "TooLong" CL CX)
  (kSD:kitOne K (.ref CD) (.ref CS)=some false)
  (kTD:kitOne K (.ref CD) (.ref CT)=some false)
  (kLD:kitOne K (.ref CD) (.ref CL)=some false)
  (kDD:kitOne K (.ref CD) (.ref CD)=some true)
  (kVD:kitOne K (.ref CD) (.type "ValueError")=some true)
  (kND:kitAny K (.ref CD) ([A1,A2,A3,A4].map Value.ref)=some false)
  (xcD:oZ K CD)
  (xiD:Mw K "TooDeep" CD CX)
  (vM:∃t,nsIn K mainGlobals "MOST_UNDER_WAY"=some (some<|.int 10 t))
  (ic:IsC K B)
  (hRk:∃dr y0 y1 y2 y3,ad2 K w dr y0 y1 y2 y3)
  (hRw:∃dr x0 x1 x2 x3 x4 x5 x6 x10 x11 x12 Qo Qp Qq Qs x17 x18,ad3 K w dr x0 x1 x2 x3 x4 x5 x6 x10 x11 x12 Qo Qp Qq Qs x17 x18)
  (d11:dz K "is_whole" Ci)
  (d14:dz K "sum_of" (vK 0))
  (d15:dz K "difference_of" (vK 1))
  (d16:dz K "product_of" (vK 2))
  (d17:dz K "is_less" (vK 3))
  (d19:dz K "number_of" s_num)
  (d20:dz K "reckoned" Ja)
  (d21:dz K "taken_off" vZ)
  (d22:dz K "block_of" Sh)
  (d28:dz K "do_number" (lH 0))
  (d29:dz K "do_local" (lH 1))
  (d30:dz K "do_global" (lH 2))
  (d31:dz K "do_keep" (lH 3))
  (d32:dz K "do_drop" (lH 4))
  (d33:dz K "do_store" (lH 5))
  (d34:dz K "do_reckon" xO)
  (d35:dz K "do_unless" (lH 7))
  (d36:dz K "do_jump" (lH 8))
  (d37:dz K "locals_at" tH)
  (d38:dz K "do_close" uO)
  (d40:dz K "do_call" xT)
  (d41:dz K "do_back" xU)
  (d42:dz K "do_block" CN)
  (d43:dz K "do_field" CP)
  (d44:dz K "do_case" xX)
  (d46:UJ K "done" Jk)
  (d48:dz K "_law_cell_at" Jx)
  (d49:dz K "_law_drawn" Dr)
  (d50:dz K "_law_next" Jy)
  (d51:dz K "_law_number" JG)
  (d52:dz K "_law_fields" Pr)
  (d53:dz K "_law_kind" lA)
  (d54:dz K "_law_leaf" rT)
  (d55:dz K "_law_own" Hh)
  (d56:dz K "_law_case" yO)
  (d57:dz K "_law_grown" jV)
  (d58:dz K "_law_vals" JV)
  (d59:dz K "_law_class" Ds)
  (d60:dz K "_law_entered" Mi)
  (d61:dz K "_law_summed" Tw)
  (d62:dz K "_law_blocked" Ux)
  (d63:dz K "_law_worked" Dp)
  (d64:dz K "_law_due" oG)
  (d65:dz K "_law_held" Df)
  (d66:dz K "_law_case_rows" wB)
  (d67:dz K "_law_test_rows" wA)
  (d68:dz K "_law_let_rows" Dg)
  (d69:dz K "_law_rows" Di)
  (d70:dz K "_law_whole_row" Dj)
  (d71:dz K "_law_code" qt)
  (d72:dz K "_law_told" yG)
  (d73:dz K "law" vC):
  ad5 l w K mg fa:=by
 have mo:∀{x:Str} {v:ak},nsIn K mainGlobals x=some (some v)->mg x=some v:=λa=>PySem.W.mg_of X G a;have mn:∀{x:Str},nsIn K mainGlobals x=some none->mg x=none:=λa=>PySem.W.mg_none_of X G a;obtain⟨dk,y0,y1,y2,y3,R⟩:=hRk;obtain⟨dw,x0,x1,x2,x3,x4,x5,x6,x10,x11,x12,Qo,Qp,Qq,Qs,x17,x18,W⟩:=hRw;obtain⟨g14,F14⟩:=d14.at_ R.n0;obtain⟨g15,F15⟩:=d15.at_ R.n1;obtain⟨g16,F16⟩:=d16.at_ R.n2;obtain⟨g17,F17⟩:=d17.at_ R.n3;obtain⟨f20,g20,a20,F20⟩:=d20;obtain⟨g28,F28⟩:=d28.at_ W.n0;obtain⟨g29,F29⟩:=d29.at_ W.n1;obtain⟨g30,F30⟩:=d30.at_ W.n2;obtain⟨g31,F31⟩:=d31.at_ W.n3;obtain⟨g32,F32⟩:=d32.at_ W.n4;obtain⟨g33,F33⟩:=d33.at_ W.n5;obtain⟨g34,F34⟩:=d34.at_ W.n6;obtain⟨g35,F35⟩:=d35.at_ W.n7;obtain⟨g36,F36⟩:=d36.at_ W.n8;obtain⟨g38,F38⟩:=d38.at_ W.n9;obtain⟨g40,F40⟩:=d40.at_ W.n10;obtain⟨g41,F41⟩:=d41.at_ W.n11;obtain⟨g42,F42⟩:=d42.at_ W.n12;obtain⟨g43,F43⟩:=d43.at_ W.n13;obtain⟨g44,F44⟩:=d44.at_ W.n14;obtain⟨f46,g46,T46,afj,a46,F46⟩:=d46;obtain⟨f54,g54,a54,F54⟩:=d54;obtain⟨f55,g55,a55,F55⟩:=d55;obtain⟨f56,g56,a56,F56⟩:=d56;obtain⟨f57,g57,a57,F57⟩:=d57;obtain⟨f59,g59,a59,F59⟩:=d59;obtain⟨f60,g60,a60,F60⟩:=d60;obtain⟨f61,g61,a61,F61⟩:=d61;obtain⟨f62,g62,a62,F62⟩:=d62;obtain⟨f63,g63,a63,F63⟩:=d63;obtain⟨f66,g66,a66,F66⟩:=d66;obtain⟨f67,g67,a67,F67⟩:=d67;obtain⟨f68,g68,a68,F68⟩:=d68;obtain⟨f69,g69,a69,F69⟩:=d69;obtain⟨f73,g73,a73,F73⟩:=d73;have e:=hfa.symm.trans (mo a73);cases e;refine⟨g73,PX F73 λ_ _ _ _ _ _ _ _=>.of_eq rfl,λaV XB _=>?_⟩;have hs:=@dz.has l.prog w K h mg aV X G;have qD:=mn UL;have jm:=mn pH;have lM:=mn DK;have DP:=mn JX;have J3:=mn rY;have qT:=mn DN;have yQ:=mn UW;have Vb:=mn JZ;have aag:=mn U0;have ad6:=mn U4;have ad7:=mn U5;have DQ:=mn pJ;have Vc:=mn U9;have ach:=mn J2;have vD:=mn qy;have aah:=mn Va;have mgM:=mo aM;obtain⟨fM0,gM0,MM0,FM0⟩:=mM0;have mgF:=mo aF;obtain⟨fF0,gF0,MF0,FF0⟩:=mF0;have mgC:=mo aC;obtain⟨fC0,gC0,MC0,FC0⟩:=mC0;obtain⟨fC1,gC1,MC1,FC1⟩:=mC1;obtain⟨fC2,gC2,MC2,FC2⟩:=mC2;have mgB:=mo aB;obtain⟨fB0,gB0,MB0,FB0⟩:=mB0;have b46:=F46.binds (ps:=["code","most"]) λ_ _ _ _ _ _ us hl=>us2 us hl λ_ _=>⟨_,rfl,rfl⟩;have mT:=(mo aT);have mL:=(mo aL);have mD:=(mo aD);have mX:=(mo aX);obtain⟨OT,COT⟩:=xiT aV mg XB mT;obtain⟨OL,COL⟩:=xiL aV mg XB mL;obtain⟨OD,COD⟩:=xiD aV mg XB mD;obtain⟨tkM,vM⟩:=vM;have Tx:wg K M F C B:=⟨cM,nM0,nM1,nM2,nM3,nM4,nM5,cF,nF0,nF1,cC,nC0,nC1,nC2,cB,nB0,nB1⟩;have ZG:adw mg CS CT CL CD A1 A2 A3 A4:=⟨(mo aS),mT,mL,mD,(mo a1),(mo a2),(mo a3),(mo a4),DQ,jm⟩;have H11:=hs d11 λF=>RQ F jm yQ Vb;have H19:=hs d19 λF=>aaS F H11;have G20:=Wi (fr:=(λn=>([y0,y1,y2,y3]:aP aj).getD n 0)) F20 OT agm aag (mo R.nm) R.dict (λn hn=>by
  rcases n4 (ahp hn) with rfl|rfl|rfl|rfl
  ·exact⟨_,aaX F14,F14.kp,lZ F14⟩
  ·exact⟨_,aaY F15,F15.kp,lZ F15⟩
  ·exact⟨_,aaZ F16,F16.kp,lZ F16⟩
  ·exact⟨_,aa0 F17,F17.kp,lZ F17⟩) H19
 have H21:=hs d21 λF=>RW F lM J3 qT;have G34:=Og F34 Tx H21 G20 (mo a20) F20.kp (lZ F20);have H37:=hs d37 λF=>Om F Tx;have H22:=hs d22 λF=>abo F jm lM;have G46:=Wz (CT:=CT) (iG:=CL) (iH:=CD) (fr:=(λn=>([x0,x1,x2,x3,x4,x5,x6,x6,x6,x6,x10,x11,x12,Qo,Qp,Qq,Qs,x17,x18]:aP aj).getD n 0)) F46 Tx ⟨mkM,MM0.at_,MM0.fn,kcM⟩ (Wo FM0 Tx ⟨mkC,MC0.at_,MC0.fn,kcC⟩ (R7 FC0 Tx) (lZ FC0) mgC ⟨mkF,MF0.at_,MF0.fn,kcF⟩ (Gd FF0 Tx) (lZ FF0) mgF) (lZ FM0) mgM (mo W.nm) W.dict (λn hn=>by
  rcases Uz n hn with rfl|rfl|rfl|rfl|rfl|rfl|rfl|rfl|rfl|rfl|rfl|rfl|rfl|rfl|rfl|rfl|rfl|rfl
  ·exact⟨1,_,by decide,aa' F28 Tx,F28.kp,lZ F28⟩
  ·exact⟨1,_,by decide,abb F29 Tx,F29.kp,lZ F29⟩
  ·exact⟨1,_,by decide,abd F30 Tx,F30.kp,lZ F30⟩
  ·exact⟨1,_,by decide,abe F31 Tx,F31.kp,lZ F31⟩
  ·exact⟨1,_,by decide,abf F32 Tx qT,F32.kp,lZ F32⟩
  ·exact⟨1,_,by decide,abg F33 Tx,F33.kp,lZ F33⟩
  ·exact⟨4,_,by decide,G34,F34.kp,lZ F34⟩
  ·exact⟨4,_,by decide,G34,F34.kp,lZ F34⟩
  ·exact⟨4,_,by decide,G34,F34.kp,lZ F34⟩
  ·exact⟨4,_,by decide,G34,F34.kp,lZ F34⟩
  ·exact⟨3,_,by decide,abj F35 Tx H19,F35.kp,lZ F35⟩
  ·exact⟨1,_,by decide,abh F36 Tx,F36.kp,lZ F36⟩
  ·exact⟨3,_,by decide,(Jd F38 Tx ⟨mkB,MB0.at_,MB0.fn,kcB⟩ (Oj FB0 Tx) (lZ FB0) mgB H37),F38.kp,lZ F38⟩
  ·exact⟨3,_,by decide,(Ot F40 Tx ic jm H21 mgB MC1 (R8 FC1 Tx OL agm OD agm<|mo vM) (lZ FC1) ⟨mkF,MF0.at_,MF0.fn,kcF⟩ (Gd FF0 Tx) (lZ FF0) mgF),F40.kp,lZ F40⟩
  ·exact⟨2,_,by decide,(Oq F41 Tx qD MC2 (R9 FC2 Tx)<|lZ FC2),F41.kp,lZ F41⟩
  ·exact⟨2,_,by decide,(Ss F42 Tx H21),F42.kp,lZ F42⟩
  ·exact⟨2,_,by decide,(Sv F43 Tx H22),F43.kp,lZ F43⟩
  ·exact⟨2,_,by decide,(Ov F44 Tx qD H22),F44.kp,lZ F44⟩) H19
 have G59:=T3 (P:=l.prog) (w:=w) (mg:=mg) (aV:=aV) F59 ZG ⟨xcT,kST,kTT,kLT,kDT,kVT,kNT⟩ ⟨xcL,kSL,kTL,kLL,kDL,kVL,kNL⟩ ⟨xcD,kSD,kTD,kLD,kDD,kVD,kND⟩;have H48:=hs d48 λF=>Xx F qD;have H49:=hs d49 λF=>TY F yQ H48;have H50:=hs d50 λF=>Xy F;have H51:=hs d51 λF=>X4 F H50;have H52:=hs d52 λF=>adK F;have H53:=hs d53 λF=>Yd F qD H50;have H54:=G4 F54 (lZ F54) (mo a54) qD vD Vc lM qT H50 H51 7;have G57:=Bl F57 (lZ F57) (mo a57) F55 (lZ F55) (mo a55) F56 (lZ F56) (mo a56) qD Vc qT yQ lM vD DP aah H50 H53 H52 H54 4;have H57:Has l.prog w K mg aV 18 "_law_grown" DG (zF 3):=Has.weak (⟨f57,g57,G57,(lZ F57),F57.kp,(mo a57)⟩:Has l.prog w K mg aV 18 "_law_grown" DG (Bk 4)) λvs H Q E h=>⟨3,by decide,h⟩;have H58:=hs d58 λF=>Yq F qT yQ H50 H53 H57;have G61:=abJ (P:=l.prog) (w:=w) (mg:=mg) (aV:=aV) F61 OT agm yQ aag Vc qD;have G63:=Hr F63 (lZ F63) (mo a63) ach yQ aah G61 (mo a61) F61.kp (lZ F61) F60 (mo a60) (lZ F60) F62 (mo a62) (lZ F62) OL agm OD agm 111;have H64:=hs d64 λF=>abT F mX COT COL COD G63 (mo a63) F63.kp (lZ F63) G59 (mo a59) F59.kp (lZ F59);have H65:=hs d65 λF=>W4 F qD DP lM;have H69:=Gw F69 (lZ F69) (mo a69) F68 (lZ F68) (mo a68) F67 (lZ F67) (mo a67) F66 (lZ F66) (mo a66) qD DP lM H65 11;have H70:=hs d70 λF=>Xf F jm lM;have H71:=hs d71 λF=>Xl F lM qD H69 H70;have H72:=hs d72 λF=>XH F jm yQ Vb mX COT COL COD G46 (mo a46) F46.kp b46 G59 (mo a59) F59.kp (lZ F59);exact ab9 F73 qT qD ad6 ad7 lM DP H49 H58 H50 H71 H64 H72
theorem walk {l:PySem.W.OpenLaw}{q:aA}{loose:aP Str}{XP:(Str->aO ak)->aK->Prop}{YP:aG->aK->Prop}{d:DefRec}{K:Params->aN}(hn:l.most=some 63)(hdf:d.params.defaults=[])
  (hY:∀(w:aG) (h:aK),YP w h->(K w.params).In h)
  (F:∀(w:aG) (mg:Str->aO ak) (fa:aj) (h:aK),(K w.params).In h->h.Ns mainGlobals mg->mg d.name=some (.ref fa)->
   ∃fd:FuncData,(∀(s:ao) (u:ak),BindsTo s fd ⟨[u],[]⟩ [("_law_script",u)])/\∀aV:aK,(K w.params).In aV->aV.Ns mainGlobals mg->cX l.prog w (K w.params) mg aV jG 225 fa fd ["_law_script"] (Hu<|K w.params)):
  PySem.W.WalkO q loose XP YP l.row.toRowW d [] (λf vs=>PySem.call f vs) :=
 L2.V2 (n:=63) (k:=225) (x:="_law_script") (CX:=λ_=>jG) (sp:=λw=>Hu<|K w.params) hn (by decide) hdf ⟨rfl,by decide,by decide⟩ hY F (λ_ _ a ns hl _ hS=>⟨a,ns,rfl,hS,hl,λ_=>rfl⟩) λ_ _ _ _ _ z=>z
end Fw
open PySem PySem.W PyProof.Rows
structure PySem.W.Fast:Prop where(tw6539720181649839992 tw12873980949778998571 tw5005963042525639514 tw13428644078704673356 tw14122968532676460188 tw7277406547831328073 tw8475320981875953339 tw15692388852807301173 tw8418316182073900081 tw10618297038780082479 tw8878605678247372256 tw5132375526053641764 tw5417145811194516549 tw1282150583147761259 tw17895041220479705255 tw3233039637148102950 tw5128828965470390561 tw2136858544545131535 tw14687323480001163338 tw1892785560847828242 tw3990773153553158902 tw290832376977588482 tw18257034168114601071 tw6687971480432149682 tw18268001423906741556 tw17277038993356564344 tw8021427974368683636 tw6588254880470882610 tw18200841201115221529 tw13165583452912125472 tw12742790449095373926 tw16401812538574657134 tw8848236584287942373 tw17417079042661642521 tw4474874769223971380 tw577639506896491864 tw14585813617215171796 tw10751383715119972237 tw9584423220228286477 tw9974461408283122713 tw5309038762285308984 tw16320818861009344131 tw2735593544570585670 tw8227570189628233412 tw4579796117662060308 tw10848805039698077212 tw8089440222470055393 tw382190034744387213 tw1069332881427870227 tw5241994454564133266 tw2442874173037627594 tw15631915876428256705 tw14980160953713772087 tw2280669823235513414 tw13988313474842615943 tw13503599707606626019 tw7171924090390195059 tw16111113738107911557 tw106628198203444818 tw2851580630331966867 tw3638004411546359626 tw11510283732269092919 tw87803906717432982 tw1296791505530723244 tw6333045898251500247 tw9067944621189954009 tw1185821320427380701 tw13321176547424365226 tw13354660275938197151 tw6292658547408914633 tw13429206262729001308 tw16738148556785417131 tw9697089448149857485 tw3452848023974459438 tw1810532396318608324 tw15448008092948170502 tw9328633688774225527 tw15393733221516811325 tw18363394984482273184 tw3217547638959386325 tw16007248501607911263 tw7727383169807125351 tw8345958630358596116 tw12972514886819632398 tw12219587099832317031 tw16934469042023583038 tw9349926394662757116 tw9137171995398345499 tw11850169833455074904 tw14402346069421875374 tw2562241741101882997 tw15164182589202188236 tw8202805569716613751 tw10214926276341032169 tw691397075797089915 tw14417230120528871974 tw6612196452690868150 tw10010129439879500974 tw13462731049906277459 tw10280426002340384787 tw15791950872821432094 tw12921426404635143833 tw153367554919494318 tw2590163087442929432 tw13543964181436973753 tw9413046446948469736 tw7516452744889741360 tw10726257231677442657 tw8890788755823572414 tw1822905908076662169 tw5006466745247411793 tw12786424968436165687 tw12463299580989837991 tw18402898517323318927 tw4410154757328948263 tw3881854379147456203 tw14943283633204978455 tw10668195875865336173 tw17229639920325478217 tw9238891888970825256 tw7952000245329135006 tw3151645937280009828 tw3757568727050313833 tw10578779248401742631 tw11322456742598309303 tw5685769577067393070 tw1801119327942034156 tw14028508278893954521 tw17294747285856725067 tw3110039444775984546 tw1540978466403757905 tw3647703477240604427 tw9500366306740540168 tw9930244150523661892 tw11371635993951029329 tw10073045706398267093 tw4826081170707726204 tw9442931785046268382 tw12027496478643919018 tw3338879984944576615 tw7742908741627594311 tw1277230555150931757 tw15158948995321650785 tw11208925304869791937 tw13996186630184942684 tw2663081796155821632 tw3380573679505972824 tw4370251357852639799 tw7886285824394863224 tw6766475854725155627 tw5511363825963308120 tw8891467226856689491 tw321350996387430294 tw17467867290992132095 tw752009142737444969 tw3830033116261137392 tw16203844408252788446 tw5172946524018388126 tw12946225447174894721 tw13493520938886434760 tw8909915620058462669 tw3285209481977234330 tw2759873787240551710 tw1909829181485784872 tw5659526444644179846 tw4243219213407088146 tw550740327998392744 tw15025346772919515461 tw4500599266573048876 tw8733035952002363841 tw15477018069359406352 tw4193128683412166453 tw11205720065813850965 tw9688076491352071012 tw11266733177527165910 tw10500913847611181331 tw9299818179539425896 tw17523983733483700273 tw8112501017164002623 tw11790397087072392615 tw14388339103075517073 tw9487492763741818611 tw14547444359510433273 tw9200478123922634433 tw6817663411534208241 tw4524413471216685885 tw3047188518377661626 tw10821930053757949052 tw18431849238036394540 tw3201071953260883579 tw14091601306890764138 tw8110385436175734747 tw17877145799611069738 tw2740900849199731017 tw741215873449725404 tw7149404500453517026 tw6201805262001241928 tw2193555739024093796 tw320544445899186561 tw2796208728032152532 tw3145094492401591672 tw5250630669936352753 tw2128475508515073772 tw2789914397114264763 tw12295045429686021150 tw6780902169840947436 tw5503999994203740771 tw17946278858159217630 tw2492804246395222214 tw2173364863924693223 tw11570281793642970064 tw6675750496115404757 tw15469639958856380024 tw15249791472978487945 tw2190146162096236389 tw6790266291693760649 tw2485837723372377335 tw16476081352024201383 tw12728030153480071746 tw8331576707190548279 tw12044805509494517931 tw12977130271341666102 tw14879961082432372711 tw1620234479134790440 tw9606047836528361628 tw8136296456276776385 tw11216783834510543632 tw6739649836252466920 tw5557714321743001300 tw15459628577302297069 tw16094012729536568212 tw8724275326369629030 tw5523847541230100037 tw844518608311963943 tw12052933735214898818 tw11061154048372713622 tw17694976054354829252 tw17427410835998208662 tw1401652010501495347 tw2321559440284204034 tw9658152448109813884 tw8186853665306993741 tw658472832423047842 tw16676059588568308086 tw7913776321639780202 tw9441682309028483142 tw6996415207835742246 tw15383719985091365861 tw14408469296799495626 tw12407339727731932718 tw17964267926882839567 tw11609845834201284177 tw2256068656535333662 tw8595615703857577428 tw13670580778605033413 tw12482001321881762538 tw3707699998103693981 tw808792460685820552 tw5876897802476308332 tw2813159572029010266 tw11628105994912599084 tw14438008070349355696 tw14033100111205048299 tw17545930289608046580 tw3601964282254072828 tw2876319070203605805 tw14927843046318617050 tw13671735262630269980 tw9301361986133814475 tw13092175767468664567 tw631411083157890569 tw16832056291106084403 tw11717161422179367511 tw10261795597729205360 tw6153180941878768274 tw13379607985802942446 tw4175742691167318093 tw9463550862307843521 tw4297959044953272844 tw16104187399932493684 tw15132200712923683217 tw13090601761965827779 tw9161175963690715837 tw5403652050711202795 tw14435570573138878875 tw11662426126433269612 tw418234906688741005 tw3033928642948491907 tw15156953185621652438 tw9043016582939893366 tw9732474891184694454 tw9128788053884383440 tw6196845774075625521 tw5112501139200739496 tw12173082355670750591 tw13932727761416671130 tw18254633768267449148 tw17268857322729267258 tw17876157576158689895 tw10144556000195109034:True)
set_option maxRecDepth 100000 in
set_option maxHeartbeats 0 in
theorem PySem.Challenge.cw_facework_k67_blocks_and_cases_holds : PySem.Challenge.rw_facework_k67_blocks_and_cases.Holds := by
 w_on;o_law;k_head;(case hw=>w_witness2)
 k_fill
 refine Fw.walk (l:=PySem.Challenge.rw_facework_k67_blocks_and_cases) rfl rfl (fun w h Y=>PySem.W.kIn_of Y) ?F
 case F=>
  intro w mg fa h KX G hmg
  refine' Fw.all_mk KX G hmg ?UL ?pH ?DK ?JX ?rY ?DN ?UW ?JZ ?U0 ?U4 ?U5 ?pJ ?U9 ?J2 ?qy ?Va ?aM ?cM ?mkM ?kcM ?nM0 ?nM1 ?nM2 ?nM3 ?nM4 ?nM5 ?mM0 ?aF ?cF ?mkF ?kcF ?nF0 ?nF1 ?mF0 ?aC ?cC ?mkC ?kcC ?nC0 ?nC1 ?nC2 ?mC0 ?mC1 ?mC2 ?aB ?cB ?mkB ?kcB ?nB0 ?nB1 ?mB0 ?aS ?aT ?aL ?aD ?a1 ?a2 ?a3 ?a4 ?aX ?kST ?kTT ?kLT ?kDT ?kVT ?kNT ?xcT ?xiT ?kSL ?kTL ?kLL ?kDL ?kVL ?kNL ?xcL ?xiL ?kSD ?kTD ?kLD ?kDD ?kVD ?kND ?xcD ?xiD ?vM ?ic ?hRk ?hRw ?d11 ?d14 ?d15 ?d16 ?d17 ?d19 ?d20 ?d21 ?d22 ?d28 ?d29 ?d30 ?d31 ?d32 ?d33 ?d34 ?d35 ?d36 ?d37 ?d38 ?d40 ?d41 ?d42 ?d43 ?d44 ?d46 ?d48 ?d49 ?d50 ?d51 ?d52 ?d53 ?d54 ?d55 ?d56 ?d57 ?d58 ?d59 ?d60 ?d61 ?d62 ?d63 ?d64 ?d65 ?d66 ?d67 ?d68 ?d69 ?d70 ?d71 ?d72 ?d73
  (case UL|pH|DK|JX|rY|DN|UW|JZ|U0|U4|U5|pJ|U9|J2|qy|Va|aM|mkM|kcM|aF|mkF|kcF|aC|mkC|kcC|aB|mkB|kcB|aS|aT|aL|aD|a1|a2|a3|a4|aX=>k_is)
  (case cM|cF|cC|cB=>refine' Fw.ace ?pg ?hd ?po ?sa;(case pg=>k_is);(case hd=>k_is);(case po=>k_is);(case sa=>k_is))
  (case nM0|nM1|nM2|nM3|nM4|nM5|nF0|nF1|nC0|nC1|nC2|nB0|nB1=>refine' Fw.Yx ?n;(case n=>k_is))
  (case mM0|mF0|mC0|mC1|mC2|mB0=>refine' Fw.Yw ?a ?i ?l ?c ?k;(case a=>k_is);(case i=>k_is);(case l=>k_is);(case c=>k_is);(case k=>k_is))
  (case kST|kTT|kLT|kDT|kVT|kNT|kSL|kTL|kLL|kDL|kVL|kNL|kSD|kTD|kLD|kDD|kVD|kND=>kernel_rfl)
  (case xcT|xcL|xcD=>refine' Fw.acf ?xc0 ?xc1 ?xcb ?xc2 ?xc3 ?xc4 ?xc5 ?xcl;(case xc0=>k_is);(case xc1=>k_is);(case xcb=>k_is);(case xc2=>k_is);(case xc3=>k_is);(case xc4=>k_is);(case xc5=>k_is);(case xcl=>k_is))
  (case xiT|xiL|xiD=>refine' Fw.UG ?l1 ?n1 ?n2 ?t1 ?l2 ?b1 ?b2;(case l1=>k_is);(case n1=>kernel_rfl);(case n2=>k_is);(case t1=>kernel_rfl);(case l2=>k_is);(case b1=>decide+kernel);(case b2=>decide+kernel))
  (case vM=>refine' Fw.Yv ?a ?e;(case a=>k_is);(case e=>decide+kernel))
  (case ic=>refine' Fw.acg ?i1 ?i2 ?i3 ?i4 ?i5;(case i1=>k_is);(case i2=>k_is);(case i3=>k_is);(case i4=>k_is);(case i5=>kernel_rfl))
  (case hRk=>refine' Fw.Yy ?a ?a0 ?a1 ?a2 ?a3 ?dl ?ds ?dx ?dp;(case a=>k_is);(case a0=>k_is);(case a1=>k_is);(case a2=>k_is);(case a3=>k_is);(case dl=>k_is);(case ds=>decide+kernel);(case dx=>exact⟨rfl,rfl,rfl⟩);(case dp=>exact .cons ⟨rfl,⟨_,rfl⟩,rfl⟩ (.cons ⟨rfl,⟨_,rfl⟩,rfl⟩ (.cons ⟨rfl,⟨_,rfl⟩,rfl⟩ (.cons ⟨rfl,⟨_,rfl⟩,rfl⟩ .nil)))))
  (case hRw=>refine' Fw.Yz ?a ?a0 ?a1 ?a2 ?a3 ?a4 ?a5 ?a6 ?a7 ?a8 ?a9 ?a10 ?a11 ?a12 ?a13 ?a14 ?dl ?ds ?dx ?dp;(case a=>k_is);(case a0=>k_is);(case a1=>k_is);(case a2=>k_is);(case a3=>k_is);(case a4=>k_is);(case a5=>k_is);(case a6=>k_is);(case a7=>k_is);(case a8=>k_is);(case a9=>k_is);(case a10=>k_is);(case a11=>k_is);(case a12=>k_is);(case a13=>k_is);(case a14=>k_is);(case dl=>k_is);(case ds=>decide+kernel);(case dx=>exact⟨rfl,rfl,rfl⟩);(case dp=>exact .cons ⟨rfl,⟨_,rfl⟩,rfl⟩ (.cons ⟨rfl,⟨_,rfl⟩,rfl⟩ (.cons ⟨rfl,⟨_,rfl⟩,rfl⟩ (.cons ⟨rfl,⟨_,rfl⟩,rfl⟩ (.cons ⟨rfl,⟨_,rfl⟩,rfl⟩ (.cons ⟨rfl,⟨_,rfl⟩,rfl⟩ (.cons ⟨rfl,⟨_,rfl⟩,rfl⟩ (.cons ⟨rfl,⟨_,rfl⟩,rfl⟩ (.cons ⟨rfl,⟨_,rfl⟩,rfl⟩ (.cons ⟨rfl,⟨_,rfl⟩,rfl⟩ (.cons ⟨rfl,⟨_,rfl⟩,rfl⟩ (.cons ⟨rfl,⟨_,rfl⟩,rfl⟩ (.cons ⟨rfl,⟨_,rfl⟩,rfl⟩ (.cons ⟨rfl,⟨_,rfl⟩,rfl⟩ (.cons ⟨rfl,⟨_,rfl⟩,rfl⟩ (.cons ⟨rfl,⟨_,rfl⟩,rfl⟩ (.cons ⟨rfl,⟨_,rfl⟩,rfl⟩ (.cons ⟨rfl,⟨_,rfl⟩,rfl⟩ (.cons ⟨rfl,⟨_,rfl⟩,rfl⟩ .nil))))))))))))))))))))
  (case d11|d14|d15|d16|d17|d19|d20|d21|d22|d28|d29|d30|d31|d32|d33|d34|d35|d36|d37|d38|d40|d41|d42|d43|d44|d48|d49|d50|d51|d52|d53|d54|d55|d56|d57|d58|d59|d60|d61|d62|d63|d64|d65|d66|d67|d68|d69|d70|d71|d72|d73=>refine' Fw.acd ?a ?l ?c ?k;(case a=>k_is);(case l=>k_is);(case c=>k_is);(case k=>k_is))
  (case d46=>refine' Fw.YB ?a ?l ?c ?k ?t;(case a=>k_is);(case l=>k_is);(case c=>k_is);(case k=>k_is);(case t=>k_is))
